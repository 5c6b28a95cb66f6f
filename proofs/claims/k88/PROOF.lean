import PyProof.Rows.All
import Wide.All
import OpenK.AllK
import Wide.FinOn
import KE.KExcInit
import HandS.Base
import HandS.Call
import HandS.List
import HandS.Exc
import HandS.ExcInit
import KE.KIsAll
import HandS.Words
import PyProof.ReprRoads
import HandS.ForMost
import HandS.IsInst
import HandS.Conv
import HandS.More
import HandS.Style
import HandS.SortKw
import HandS.RaiseMore
import KE.KSortKey
import PyProof.Rows.SortShellAny
import HandS.DictComp
import HandS.Walk
import HandS.Flow
import KE.KParD
import HandS.Star
import HandS.MakeKw
import HandS.MakeKwOnly
import HandS.ClsMeth
import HandS.Property
import HandS.SlotsOwn
import PyProof.InstNe
import KE.KExcStr
import KE.KFmtOwn
import KE.KDictLaws
import PyProof.Rows.SetObj
import HandS.Set
import HandS.SetFor
import HandS.Strs
import HandS.TupSets
import PyProof.StrLawsRepr
import KE.KOpsOwn
import PyProof.AutoIntG3
import HandS.OwnEq
import HandS.Wide
import HandS.Defaults
import PyProof.EnumMake
import PyProof.Draws
import KE.GoesMore
import HandS.Iter
import PyProof.TupleOfSeq
import KE.SortKeyHeap
import HandS.Sort
import PyProof.ListRange
import PyProof.RangeFor
import HandS.WordsExc
import HandS.DeepEq
import HandS.Lambda
import HandS.ExcField
import HandS.ExcIs
import HandS.EndTab
import PySem.Challenge.RW_crateround_k88_first_orders
set_option Elab.async false
set_option linter.all false
set_option maxRecDepth 100000
set_option maxHeartbeats 4000000
/-! the first order of some drives -/
/-! own exception classes over any built-in base, made with positions or keywords, held as values -/
namespace PySem
namespace CrX
open PySem.W PySem.Calls PyProof.Rows PySem.HandSPX
section
open Builtin Builtin.ObjectAttr
variable {M : Model} {prog : Program} {w : World} {A : Around} {E : Value → Shared → Prop} {R : Result → Shared → Prop} {h : Heap} {g : Array GenState} {d : Drawn} {t : Nat} {os : OsState}
variable {nm q : Str} {C N : Addr} {bs bm bmB : List Value} {hdct : Bool} {sn : List Str} {sub : List Value} {ab : Bool} {col : Option Bool} {dd : Option Addr} {k0 k1 k2 k3 k5 : Option Value} {B newId initId : String}

theorem check_new_kw (F : ExcBaseFacts B newId initId bmB) (hT : ∀ X : String, bm.contains (.type X) = bmB.contains (.type X)) {rest : List Value} {kw : List (Str × Value)} {Q : Unit → Shared → Prop}
    (hC : h.get? C = some (excClassObj nm q C N bs bm hdct sn sub ab col dd k0 k1 k2 k3 k5 newId)) (hq : Q () ⟨h, g, d, t, os⟩) : wpAny M A (checkBuiltinCall newId ⟨.ref C :: rest, kw⟩) Q E ⟨h, g, d, t, os⟩ := by
  have hcont : (Value.ref C :: bm).contains (.type B) = true := by rw [List.contains_cons, hT, F.hasB, Bool.or_true]
  have hstar := F.noStar
  simp only [checkBuiltinCall, F.newKind, F.newSplit, F.newRow]
  repeat (first | refine wpAny_loadPart_at hC ?_ | (refine wpAny_isSubtype_exc hC ?_; rw [hcont]) | refine wpAny_staticBase_exc hC ?_ | refine wpAny_madeBy_exc hC ?_ | simp only [bne_self_eq_false, Bool.false_eq_true, if_false] | wp_step)
  exact hq
theorem new_kw (F : ExcBaseFacts B newId initId bmB) (hT : ∀ X : String, bm.contains (.type X) = bmB.contains (.type X)) {rest : List Value} {kw : List (Str × Value)}
    (hC : h.get? C = some (excClassObj nm q C N bs bm hdct sn sub ab col dd k0 k1 k2 k3 k5 newId))
    (hq : R (.ok (.ret (.ref (h.objs.size + 1)))) ⟨(h.push { cls := .type "tuple", data := .seq rest.toArray }).push
      { cls := .ref C, data := .fields #[.ref h.objs.size, .none, .none, .none, .bool false, .none] }, g, d, t, os⟩) (hrest : rest.length ≤ sizeLine) :
    codeAny (model prog w) A (.builtin newId ⟨.ref C :: rest, kw⟩) R ⟨h, g, d, t, os⟩ := by
  have hends := F.ends
  have hcB : (Value.ref C :: bm).contains (.type B) = true := by rw [List.contains_cons, hT, F.hasB, Bool.or_true]
  have hcA : (Value.ref C :: bm).contains (.type "AttributeError") = false := by rw [List.contains_cons, hT, F.noAttr]; rfl
  have hcN : (Value.ref C :: bm).contains (.type "NameError") = false := by rw [List.contains_cons, hT, F.noName]; rfl
  refine codeAny_builtinAt F.entry ?_
  unfold Builtin.«BaseException.__new__»
  refine wpAt_bind ?_
  show wpAt _ _ _ (stack >>= _) _ _ _
  refine wpAt_bind (wpAt_stack fun p below => wpAt_of_wpAny ?_)
  wp_walk
  refine wpAt_of_wpAny ?_
  rw [F.owner]
  repeat (first | with_reducible refine wpAny_madeHere_exc F.canon hC ?_ | with_reducible refine wpAny_loadPart_at hC ?_ | (with_reducible refine wpAny_isSubtype_exc hC ?_; first | rw [hcB] | rw [hcA] | rw [hcN]) | wp_step)
  show R _ _
  rw [Heap.size_push]
  exact hq
theorem type_call_kw (F : ExcBaseFacts B newId initId bmB) (hT : ∀ X : String, bm.contains (.type X) = bmB.contains (.type X)) {rest : List Value} {kw : List (Str × Value)} {fI : Addr} {Q : Fin → Shared → Prop}
    (hC : h.get? C = some (excClassObj nm q C N bs bm hdct sn sub ab col dd k0 k1 k2 k3 k5 newId))
    (hi : W.Looks (model prog w) h (typeLookup (.ref C) "__init__") (some (.ref fI))) (hb : ∀ self, W.Looks (model prog w) h (bindSpecial (.ref fI) self) (.ref fI, [self])) (hrest : rest.length ≤ sizeLine)
    (hq : codeAny (model prog w) A (.call (.ref fI) ⟨.ref (h.objs.size + 1) :: rest, kw⟩)
      (fun r s' => match r with | .ok (.ret v) => v = .none ∧ Q (.done (.ret (.ref (h.objs.size + 1)))) s' | .ok _ => False | .error e => E e s')
      ⟨(h.push (W.kdv_tup rest)).push (excO C h.objs.size), g, d, t, os⟩) :
    wpAny (model prog w) A (Builtin.«type.__call__» ⟨.ref C :: rest, kw⟩) Q E ⟨h, g, d, t, os⟩ := by
  repeat (first | with_reducible refine wpAny_loadPart_at hC ?_ | with_reducible refine wpAny_madeBy_exc hC ?_ | wp_step)
  refine codeAny_call_builtin_code (Code.quiet_builtin _ F.quiet) (check_new_kw F hT hC ?_)
  refine new_kw F hT hC ?_ hrest
  show wpAny _ _ _ _ _ _
  have k : ∀ b o, h.get? b = some o → ((h.push (W.kdv_tup rest)).push (excO C h.objs.size)).get? b = some o := fun b o e => Heap.get?_push_of_some _ (Heap.get?_push_of_some _ e)
  have hC₁ := k _ _ hC
  have hget : ((h.push (W.kdv_tup rest)).push (excO C h.objs.size)).get? (h.objs.size + 1) = some (excO C h.objs.size) := by heap_get
  have hcC : (Value.ref C :: bm).contains (.ref C) = true := by simp
  have i1 := hi.keeps k
  have b1 := (hb (.ref (h.objs.size + 1))).keeps k
  unfold isInstance
  repeat (first | with_reducible refine wpAny_loadPart_at hget ?_ | (with_reducible refine wpAny_isSubtype_exc hC₁ ?_; rw [hcC]) | wp_step)
  show wpAny _ _ (typeLookup (.ref C) _) _ _ _
  refine i1.at ?_
  refine wpAny_holding (wpAny_bind (b1.at ?_))
  refine wpAny_bind (wpAny_call (codeAny_mono hq fun r s' z => ?_))
  rcases r with e | (v | _ | _ | _) <;> first | exact z | exact z.elim | skip
  obtain ⟨rfl, z⟩ := z
  first
    | exact wpAny_pure (wpAny_pure z)
    | (wp_walk; exact z)
theorem call_kw (F : ExcBaseFacts B newId initId bmB) (hT : ∀ X : String, bm.contains (.type X) = bmB.contains (.type X)) {rest : List Value} {kw : List (Str × Value)} {fI : Addr}
    (hC : h.get? C = some (excClassObj nm q C N bs bm hdct sn sub ab col dd k0 k1 k2 k3 k5 newId))
    (hi : W.Looks (model prog w) h (typeLookup (.ref C) "__init__") (some (.ref fI))) (hb : ∀ self, W.Looks (model prog w) h (bindSpecial (.ref fI) self) (.ref fI, [self])) (hrest : rest.length ≤ sizeLine)
    (hq : codeAny (model prog w) (A.under (.builtin "type.__call__" ⟨.ref C :: rest, kw⟩)) (.call (.ref fI) ⟨.ref (h.objs.size + 1) :: rest, kw⟩) (W.InitBack (h.objs.size + 1) R)
      ⟨(h.push (W.kdv_tup rest)).push (excO C h.objs.size), g, d, t, os⟩) :
    codeAny (model prog w) A (.call (.ref C) ⟨rest, kw⟩) R ⟨h, g, d, t, os⟩ := by
  have f1 := tc_lookup
  have f2 := tc_bind (.ref C)
  have hTy : (⟨h, g, d, t, os⟩ : Shared).TypeIs (.ref C) "type" := ⟨_, hC, rfl⟩
  refine codeAny_of_tree ?_
  show wpAny _ _ (callAny (.ref C) _) _ _ _
  repeat (any_goals (first | assumption | with_reducible refine wpAny_loadPart_at hC ?_ | wp_step))
  refine ⟨rfl, ?_⟩
  refine codeAny_call_builtin_at (Code.quiet_builtin _ (by decide +kernel)) entry_typeCall (wpAny_check_type_call_sub hC (type_call_kw F hT hC hi hb hrest ?_))
  refine codeAny_mono hq fun r s' z => ?_
  rcases r with e | (v | _ | _ | _) <;> exact z

/-- self.name = v, the first attribute -/
theorem osa_new (SF : StoreFacts B bmB "object.__setattr__" "object") {K : W.Frag} {name : Str} {tk : Tok} {v : Value} {x C : Addr} {fv : Array Value} {cd : ClassData}
    (X : K.In h) (hx : h.get? x = some { cls := .ref C, data := .fields fv }) (hcd : W.clsIn K C = some cd) (hm : cd.mro = .ref C :: bmB) (hob : bmB.contains (.type "object") = true) (hh : cd.hasDict = true) (ha : W.findIn K (.ref C) name = some none)
    (hq : ∀ h' tk' dx, (∀ b o, b ≠ x → h.get? b = some o → h'.get? b = some o) → h.objs.size ≤ dx → dx ≠ x → h'.get? x = some { cls := .ref C, dict := some dx, data := .fields fv } →
      h'.Ns1 dx (fun y => if y = name then some v else none) → R (.ok (.ret .none)) ⟨h', g, d, tk', os⟩) :
    codeAny (model prog w) A (.call (.builtin "object.__setattr__") ⟨[.ref x, .str name tk, v], []⟩) R ⟨h, g, d, t, os⟩ := by
  have I : W.InstAt h x { cls := .ref C, data := .fields fv } C none := ⟨hx, rfl, rfl, trivial⟩
  have SO := F.store_object
  have hob' : cd.mro.contains (.type "object") = true := by rw [hm, List.contains_cons, hob, Bool.or_true]
  have hxs : x ≠ h.objs.size := Nat.ne_of_lt (Heap.lt_size hx)
  have sub : W.Looks (model prog w) h (isInstance (.ref x) (.type "object")) true := I.type.andThen (W.looks_mroIn X (by unfold W.mroIn; rw [hcd, Option.bind_some, if_neg (by rw [hm]; exact Bool.false_ne_true), hob']))
  refine codeAny_call_builtin SO.slot.plain SO.entry (@W.check_slot (model prog w) _ _ ⟨h, g, d, t, os⟩ "object.__setattr__" "object" "__setattr__" (.ref x) [.str name tk, v] [] _ SO.kind SO.split sub (SO.args (.ref x) (.str name tk) v) ?_)
  have hmr : W.Looks (model prog w) h (mroOf (.ref C)) cd.mro := (W.looks_clsIn X hcd).andThen .now
  have L3 : W.Looks (model prog w) h (storeTaker? none) none := .now
  have hcls : W.Looks (model prog w) h (classData C) cd := W.looks_clsIn X hcd
  rw [W.osa_eq, refuse_eq]
  refine wpAny_bind (wpAny_bind (I.type.at (wpAny_bind (hmr.at ?_))))
  rw [hm, refuseLoop_ref, SF.passes]
  refine wpAny_pure (wpAny_bind (I.type.at (wpAny_bind ((W.looks_findIn X ha).at (wpAny_bind (L3.at ?_))))))
  show wpAny _ _ (storeInOwnDict (.ref x) (.ref C) (.str name tk) name v false) _ _ _
  obtain ⟨nm, bs, mro, ns, qn, hd, sn, sb, ab, col, del⟩ := cd
  dsimp only at hh
  subst hh
  unfold storeInOwnDict ownDictForStores
  repeat (first | with_reducible refine HandSPX.store_in_new ?_ ?_ | with_reducible refine wpAny_loadPart_at hx ?_ | with_reducible refine hcls.at ?_ | wp_step)
  · exact ⟨_, #[], _, (Heap.get?_update_ne _ _ _ _ hxs.symm).trans (Heap.get?_push_at rfl rfl), rfl, fun e he => absurd he (by simp), fun _ => rfl⟩
  · intro h' tk' hn' hs
    have hx₁ : (h.push { cls := .type "dict", data := .dict #[] }).get? x = some { cls := .ref C, data := .fields fv } := Heap.get?_push_of_some _ hx
    refine hq h' tk' h.objs.size (fun b o hb ho => ?_) (Nat.le_refl _) hxs.symm ?_ hn'
    · exact (hs.2 b (Nat.ne_of_lt (Heap.lt_size ho))).trans ((Heap.get?_update_ne _ _ _ _ hb).trans (Heap.get?_push_of_some _ ho))
    · exact (hs.2 x hxs).trans (Heap.get?_update_self _ hx₁ rfl)
theorem osa_old (SF : StoreFacts B bmB "object.__setattr__" "object") {K : W.Frag} {name : Str} {tk : Tok} {v : Value} {x C dx : Addr} {fv : Array Value} {cd : ClassData} {m0 : Str → Option Value} {nl : List Str}
    (X : K.In h) (hx : h.get? x = some { cls := .ref C, dict := some dx, data := .fields fv }) (hns : h.Ns1 dx m0) (hw : Within m0 nl) (hz : nl.length ≤ 1000) (hcd : W.clsIn K C = some cd) (hm : cd.mro = .ref C :: bmB) (hob : bmB.contains (.type "object") = true) (hh : cd.hasDict = true)
    (ha : W.findIn K (.ref C) name = some none)
    (hq : ∀ h' tk', (∀ b o, b ≠ dx → h.get? b = some o → h'.get? b = some o) → h'.Ns1 dx (fun y => if y = name then some v else m0 y) → R (.ok (.ret .none)) ⟨h', g, d, tk', os⟩) :
    codeAny (model prog w) A (.call (.builtin "object.__setattr__") ⟨[.ref x, .str name tk, v], []⟩) R ⟨h, g, d, t, os⟩ := by
  obtain ⟨oD, esD, epD, hoD, hdD, _⟩ := hns.count hw
  have I : W.InstAt h x { cls := .ref C, dict := some dx, data := .fields fv } C (some oD) := ⟨hx, rfl, rfl, hoD⟩
  have SO := F.store_object
  have hob' : cd.mro.contains (.type "object") = true := by rw [hm, List.contains_cons, hob, Bool.or_true]
  have sub : W.Looks (model prog w) h (isInstance (.ref x) (.type "object")) true := I.type.andThen (W.looks_mroIn X (by unfold W.mroIn; rw [hcd, Option.bind_some, if_neg (by rw [hm]; exact Bool.false_ne_true), hob']))
  refine codeAny_call_builtin SO.slot.plain SO.entry (@W.check_slot (model prog w) _ _ ⟨h, g, d, t, os⟩ "object.__setattr__" "object" "__setattr__" (.ref x) [.str name tk, v] [] _ SO.kind SO.split sub (SO.args (.ref x) (.str name tk) v) ?_)
  have hmr : W.Looks (model prog w) h (mroOf (.ref C)) cd.mro := (W.looks_clsIn X hcd).andThen .now
  have L3 : W.Looks (model prog w) h (storeTaker? none) none := .now
  have hcls : W.Looks (model prog w) h (classData C) cd := W.looks_clsIn X hcd
  rw [W.osa_eq, refuse_eq]
  refine wpAny_bind (wpAny_bind (I.type.at (wpAny_bind (hmr.at ?_))))
  rw [hm, refuseLoop_ref, SF.passes]
  refine wpAny_pure (wpAny_bind (I.type.at (wpAny_bind ((W.looks_findIn X ha).at (wpAny_bind (L3.at ?_))))))
  show wpAny _ _ (storeInOwnDict (.ref x) (.ref C) (.str name tk) name v false) _ _ _
  obtain ⟨nm, bs, mro, ns, qn, hd, sn, sb, ab, col, del⟩ := cd
  dsimp only at hh
  subst hh
  unfold storeInOwnDict ownDictForStores
  repeat (first | with_reducible refine OEX.store_in_old hns hw hz ?_ | with_reducible refine wpAny_loadPart_at hx ?_ | with_reducible refine hcls.at ?_ | wp_step)
  intro h' tk' hn' hs
  exact hq h' tk' (fun b o hb ho => (hs.2 b hb).trans ho) hn'
end
end CrX
end PySem
namespace PySem.CrX
open PySem PySem.Spec PySem.W PySem.Calls PyProof.Rows
section
variable {prog : Program} {w : World} {A : Around} {E : Value → Shared → Prop} {s : Shared} {K : Frag} {x D : Addr} {ox : Obj} {od : Option Obj}
theorem findObj_dataO {C : Addr} {name : Str} {a g : Value} (hc : (clsIn K C).isSome = true) (ha : findIn K (.ref C) name = some (some a)) (hg : specialIn K a "__get__" = some (some g)) (ht : takesIn K a = some true) : findObj K C od name = some (.bind g a) := by
  obtain ⟨cd, hc⟩ := Option.isSome_iff_exists.mp hc
  unfold findObj
  rw [hc, Option.bind_some, ha, Option.bind_some]
  simp [hg, ht]
theorem kin_classO {Q : Option Value → Shared → Prop} (hga : findIn K (.ref D) "__getattribute__" = some (some (.builtin "BaseException.__getattribute__"))) (hgt : findIn K (.ref D) "__getattr__" = some none) (hsub : subIn K (.ref D) (.type "BaseException") = some true)
    (hdct : hasDictIn K D = true) (ha : findIn K (.ref D) "__class__" = some (some (.builtin "object.__class__")))
    (hn : specialIn K (.builtin "object.__class__") "__get__" = some (some (.builtin "getset_descriptor.__get__"))) (htk : takesIn K (.builtin "object.__class__") = some true) (hm : mroIn K D (.type "object") = some true)
    (X : K.In s.heap) (I : InstAt s.heap x ox D od) (h : Q (some (.ref D)) { s with toks := s.toks + 1 }) : wpAny (model prog w) A (getAttr? (.ref x) "__class__") Q E s := by
  have hf : findObj K D od "__class__" = some (.bind (.builtin "getset_descriptor.__get__") (.builtin "object.__class__")) := findObj_dataO (by obtain ⟨cd, hc, _⟩ := any_some hdct; rw [hc]; rfl) ha hn htk
  obtain ⟨hp, g, d, t, os⟩ := s
  have L0 := I.type (M := model prog w)
  have L1 := looks_findIn (M := model prog w) X hga
  have L2 := looks_findIn (M := model prog w) X hgt
  have L3 := looks_find (M := model prog w) X I hf
  have sub : Looks (model prog w) hp (isInstance (.ref x) (.type "BaseException")) true := L0.andThen (looks_subIn X hsub)
  have hx0 : (false && onTheHeap (Value.builtin "BaseException.__getattribute__")) = false := rfl
  have hx2 : (Value.builtin "BaseException.__getattribute__" == Value.builtin "object.__getattribute__") = false := by decide +kernel
  have hx1 : (onTheHeap (Value.ref D) && Value.builtin "BaseException.__getattribute__" == Value.builtin "object.__getattribute__") = false := by rw [hx2]; rfl
  unfold getAttr? getAttrBy? getAttrBy
  refine wpAny_bind (wpAny_mkText (wpAny_bind (wpAny_attempt (wpAny_holding (wpAny_bind (L0.at (wpAny_bind (L1.at ?_))))))))
  show wpAny _ _ (if (onTheHeap (Value.ref D) && Value.builtin "BaseException.__getattribute__" == Value.builtin "object.__getattribute__") = true then _ else _) _ _ _
  rw [hx1, if_neg Bool.false_ne_true]
  unfold getAttrByItsOwn hookBefore
  refine wpAny_bind ?_
  rw [if_pos (show onTheHeap (Value.ref D) = true from rfl)]
  refine L2.at ?_
  refine wpAny_bind (wpAny_attempt (wpAny_holding ?_))
  unfold callGetattribute
  rw [hx0, if_neg Bool.false_ne_true]
  unfold boundAndCalled
  rw [PySem.F.excAttr_ValueError.ga.bind (.ref x)]
  refine wpAny_bind (wpAny_pure ?_)
  show wpAny _ _ (call (.builtin "BaseException.__getattribute__") [.ref x, .str "__class__" t]) _ _ _
  refine wpAny_call (codeAny_call_builtin PySem.F.excAttr_ValueError.ga.plain PySem.F.entry_bexc_ga ?_)
  refine @check_slot (model prog w) _ _ ⟨hp, g, d, t + 1, os⟩ "BaseException.__getattribute__" "BaseException" "__getattribute__" (.ref x) [.str "__class__" t] [] _ (by decide +kernel) (by decide +kernel) sub (PySem.F.args_bexc_ga (.ref x) (.str "__class__" t)) ?_
  unfold Builtin.«object.__getattribute__»
  refine wpAny_bind (wpAny_of_eq (a := ((Value.ref x : Value), [Value.str "__class__" t])) (by first | rfl | (simp only [slotArgs]; rfl)) ?_)
  refine wpAny_bind (wpAny_pure (wpAny_bind (L0.at (wpAny_bind (L3.at ?_)))))
  show wpAny _ _ (holding [Value.builtin "object.__class__"] (call (.builtin "getset_descriptor.__get__") [.builtin "object.__class__", .ref x, .ref D]) >>= ret) _ _ _
  refine wpAny_bind (wpAny_holding (wpAny_call (class_get (s := ⟨hp, g, d, t + 1, os⟩) (ox := ox) (od := od) X I hm ?_)))
  refine wpAny_pure ?_
  show wpAny _ _ (handedOut (.ref D)) _ _ _
  rw [handedOut_of (v := .ref D) rfl]
  first
    | exact wpAny_pure (wpAny_pure h)
    | exact wpAny_pure h
    | exact wpAny_pure (wpAny_bind (wpAny_pure (wpAny_pure h)))
theorem kitx_excO (hga : findIn K (.ref D) "__getattribute__" = some (some (.builtin "BaseException.__getattribute__"))) (hgt : findIn K (.ref D) "__getattr__" = some none) (hsub : subIn K (.ref D) (.type "BaseException") = some true) (hdct : hasDictIn K D = true) (ha : findIn K (.ref D) "__class__" = some (some (.builtin "object.__class__")))
    (hn : specialIn K (.builtin "object.__class__") "__get__" = some (some (.builtin "getset_descriptor.__get__"))) (htk : takesIn K (.builtin "object.__class__") = some true) (hm : mroIn K D (.type "object") = some true) :
    KitX K (.ref x) (.ref D) (fun h => InstAt h x ox D od) where
  ty := fun _ _ _ I => I.type
  it := fun _ _ X _ => by
    obtain ⟨cdD, hcD, _⟩ := any_some hdct
    unfold clsIn at hcD
    split at hcD
    · rename_i c' d' cd' sl' ho
      intro A' Q' E' s' k q
      unfold isType loadHead
      exact wpAny_bind (wpAny_loadPart (k _ _ (X _ _ ho)) (wpAny_pure q))
    · cases hcD
  ne := fun h tp dd its n sl X htp => by
    obtain ⟨cdD, hcD, _⟩ := any_some hdct
    refine Bool.eq_false_iff.mpr fun q => ?_
    have e : D = tp := Value.ref.inj (beq_iff_eq.mp q)
    subst e
    unfold clsIn at hcD
    split at hcD
    · rename_i c' d' cd' sl' ho
      have z := (X _ _ ho).symm.trans htp
      cases z
    · cases hcD
  ca := fun X I k => kin_classO hga hgt hsub hdct ha hn htk hm X I k
end
end PySem.CrX

namespace L2
open PySem PySem.Spec PyProof.Rows
/-- an own exception class at C directly over a built-in base, its own __init__ at fI; its objects have the attributes f only -/
structure OexB (K : PySem.W.Frag) (B newId initId : String) (bmB : List Value) (C : Addr) : Prop where
  F : ExcBaseFacts B newId initId bmB
  S : StoreFacts B bmB "object.__setattr__" "object"
  ob : bmB.contains (.type "object") = true
  cls : ∃ nm q N bs sn sub ab col dd k0 k1 k2 k3 k5, K.lookup C = some (excClassObj nm q C N bs bmB true sn sub ab col dd k0 k1 k2 k3 k5 newId)
  sa : PySem.W.findIn K (.ref C) "__setattr__" = some (some (.builtin "object.__setattr__"))
  kC : PySem.W.keepIn K (.ref C) = true
section
variable {X : Cx} {pins : List (Addr × Obj)} {σ : St} {H : Hp} {s : Shared} {a C dx : Addr} {f : Str} {y : V} {u : Value} {fs : List (Str × V)} {Q : Unit → Shared → Prop} {E : Value → Shared → Prop} {A : Around}
variable {B newId initId : String} {bmB : List Value}
theorem OexB.clsIs (T : OexB X.K B newId initId bmB C) : ∃ cd, PySem.W.clsIn X.K C = some cd ∧ cd.mro = .ref C :: bmB ∧ cd.hasDict = true := by
  obtain ⟨nm, q, N, bs, sn, sub, ab, col, dd, k0, k1, k2, k3, k5, hC⟩ := T.cls
  exact ⟨{ name := nm, bases := bs, mro := .ref C :: bmB, ns := N, qualname := q, hasDict := true, slotNames := sn, subclasses := sub, abstract := ab, collection := col, hasDel := false }, by unfold PySem.W.clsIn; rw [hC] <;> rfl, rfl, rfl⟩
/-- self.f = y, the first one -/
theorem ostB_new (T : OexB X.K B newId initId bmB C) (I : Inv X pins σ H s) (e : H a = some (exo a C none)) (hno : PySem.W.findIn X.K (.ref C) f = some none) (ry : RelV y u)
    (h : ∀ dx s', H dx = none → dx ≠ a → Inv X pins σ (upd (upd H dx (exd dx [(f, y)])) a (exo a C (some dx))) s' → Q () s') : wpAny (model X.prog X.w) A (setAttr (.ref a) f u) Q E s := by
  obtain ⟨cd, hcl, hmro, hhd⟩ := T.clsIs
  obtain ⟨t1, ho⟩ := exo_at I.hok e
  obtain ⟨hp, g, d, t, os⟩ := s
  refine PySem.W.set_plain I.kIn (ox := { cls := .ref C, dict := none, data := .fields #[.ref t1, .none, .none, .none, .bool false, .none] }) (od := none) ⟨ho, rfl, rfl, trivial⟩ T.sa ?_
  refine PySem.CrX.osa_new T.S I.kIn ho hcl hmro T.ob hhd hno (fun h' tk' dx k dn dne hx hn => ?_)
  have hnd : H dx = none := I.hok.fresh dn
  have nd : ∀ {b : Addr} {o : Obj}, hp.get? b = some o → b ≠ dx := fun {b o} q => Nat.ne_of_lt (Nat.lt_of_lt_of_le (Heap.lt_size q) dn)
  have na : ∀ {b : Addr}, H b = none → b ≠ a := fun {b} n z => by
    rw [z, e] at n
    cases n
  have Un1 : Un X.fs [] H (upd (upd H dx (exd dx [(f, y)])) a (exo a C (some dx))) hp h' := {
    keep := fun b o q n _ _ => k b o (na n) q
    slot := fun b o q n _ _ => ⟨o.slots, k b o (na n) q⟩
    free := fun b o q n _ => by rw [upd_ne (na n), upd_ne (nd q)]; exact n
    there := fun b o q _ => by
      by_cases hb : b = a
      · exact ⟨_, by rw [hb]; exact hx⟩
      · exact ⟨o, k b o hb q⟩
    tups := fun b xs q => by rw [upd_ne (at_ne e q exo_tup), upd_ne (ne_of_none q hnd)]; exact q
    frzs := fun b o v q => by rw [upd_ne (at_ne e q exo_frz), upd_ne (ne_of_none q hnd)]; exact q
    tbls := fun b ps q => ⟨#[], by rw [upd_ne (at_ne e q exo_tbl), upd_ne (ne_of_none q hnd), q]; simp⟩ }
  refine h dx _ hnd dne (I.un (t' := tk') Un1 fun b o q => ?_)
  by_cases hb : b = a
  · subst hb
    rw [upd_same] at q
    cases q
    exact exo_ok hx
  · rw [upd_ne hb] at q
    by_cases hd : b = dx
    · subst hd
      rw [upd_same] at q
      cases q
      exact exd_ok hn (relO_put (fs := []) ry fun g => True.intro)
    · rw [upd_ne hd] at q
      exact (I.hok b o q).stay (fun c v hc z => k c v (by
          rcases hc with hc | hc
          · rw [hc]
            exact hb
          · exact at_ne e hc exo_own) z)
        (fun c hc => by rw [upd_ne (at_ne e hc exo_own), upd_ne (ne_of_none hc hnd)]; exact hc) (fun c xs hc => by rw [upd_ne (at_ne e hc exo_tup), upd_ne (ne_of_none hc hnd)]; exact hc)
/-- self.f = y, a further one -/
theorem ostB_old (T : OexB X.K B newId initId bmB C) (I : Inv X pins σ H s) (e : H a = some (exo a C (some dx))) (ed : H dx = some (exd dx fs)) (hl : fs.length ≤ 900) (hno : PySem.W.findIn X.K (.ref C) f = some none) (ry : RelV y u)
    (h : ∀ s', Inv X pins σ (upd H dx (exd dx ((f, y) :: fs))) s' → Q () s') : wpAny (model X.prog X.w) A (setAttr (.ref a) f u) Q E s := by
  obtain ⟨cd, hcl, hmro, hhd⟩ := T.clsIs
  obtain ⟨t1, ho⟩ := exo_at I.hok e
  obtain ⟨mA, hns, rel⟩ := exd_at I.hok ed
  have hw := within_of rel
  obtain ⟨hp, g, d, t, os⟩ := s
  obtain ⟨oD, _, _, hoD, _, _⟩ := hns.count hw
  refine PySem.W.set_plain I.kIn (ox := { cls := .ref C, dict := some dx, data := .fields #[.ref t1, .none, .none, .none, .bool false, .none] }) (od := some oD) ⟨ho, rfl, rfl, hoD⟩ T.sa ?_
  refine PySem.CrX.osa_old T.S I.kIn ho hns hw (by rw [List.length_map]; omega) hcl hmro T.ob hhd hno (fun h' tk' k hn => ?_)
  have hd : ∃ o, h'.get? dx = some o := by
    obtain ⟨o, _, _, e', _⟩ := hn
    exact ⟨o, e'⟩
  exact h _ (I.write (t' := tk') (x := dx) (e := dx) (o := exd dx ((f, y) :: fs)) (by rw [ed]; exact True.intro) (.inl rfl) k hd (exd_ok hn (relO_put ry rel)))
/-- B.__init__(self, ..): nothing of it is told -/
theorem binit_ok {us : List Value} {Q : Value → Shared → Prop} (T : OexB X.K B newId initId bmB C) (I : Inv X pins σ H s) (e : H a = some (exo a C none)) (hl : us.length ≤ sizeLine) (h : ∀ s', Inv X pins σ H s' → Q .none s') :
    wpAny (model X.prog X.w) A (call (.builtin initId) (.ref a :: us)) Q E s := by
  obtain ⟨nm, q, N, bs, sn, sub, ab, col, dd, k0, k1, k2, k3, k5, hC⟩ := T.cls
  obtain ⟨t1, ho⟩ := exo_at I.hok e
  obtain ⟨hp, g, d, t, os⟩ := s
  refine wpAny_call (PySem.HandSPX.init_base T.F (fun Y => rfl) (I.kIn _ _ hC) ho hl fun h' t2 k hx => ?_)
  have J := I.write (t' := t) (x := a) (e := a) (o := exo a C none) (by rw [e]; exact True.intro) (.inl rfl) k ⟨_, hx⟩ (exo_ok hx)
  have eu : upd H a (exo a C none) = H := by
    funext b
    by_cases hb : b = a
    · rw [hb, upd_same, e]
    · rw [upd_ne hb]
  rw [eu] at J
  exact h _ J
end

/-- B.__init__(self, ..) -/
def tBi (K : PySem.W.Frag) (B newId initId : String) (bmB : List Value) (ta : TA) : TE := fun σ H Q => ta σ H fun vs H1 => ∃ (a C : Addr) (ws : List V), vs = .ref a :: ws ∧ ws.length ≤ 1000 ∧ OexB K B newId initId bmB C ∧ H1 a = some (exo a C none) ∧ Q .non H1
/-- self.f = e -/
def tOstB (K : PySem.W.Frag) (B newId initId : String) (bmB : List Value) (f : Str) (to te : TE) : TS := fun D σ H => te σ H fun y H1 => to σ H1 fun x H2 => ∃ a C : Addr, x = .ref a ∧ OexB K B newId initId bmB C ∧ PySem.W.findIn K (.ref C) f = some none ∧
  ((H2 a = some (exo a C none) ∧ ∀ dx, H2 dx = none → dx ≠ a → D.nx σ (upd (upd H2 dx (exd dx [(f, y)])) a (exo a C (some dx)))) ∨
    ∃ (dx : Addr) (fs : List (Str × V)), H2 a = some (exo a C (some dx)) ∧ H2 dx = some (exd dx fs) ∧ fs.length ≤ 900 ∧ D.nx σ (upd H2 dx (exd dx ((f, y) :: fs))))
/-- C(e, .., k = v, ..) as a value: a new exception object, then C's own __init__, which keeps sp -/
def tMkV (C : Addr) (sp : Sp) (ta : TA) : TE := fun σ H Q => ta σ H fun vs H1 => vs.length ≤ 1000 ∧ ∀ a, H1 a = none → sp (.ref a :: vs) (upd H1 a (exo a C none)) (fun v H2 => v = .non ∧ Q (.ref a) H2) (fun _ _ _ => False)
section
variable {X : Cx} {o e : Expr} {es : List Expr} {to te : TE} {ta tk : TA} {f : Str} {p p' p1 p2 pos : Pos} {B newId initId : String} {bmB : List Value} {kws : List Keyword} {ks : List Str}
theorem pe_binit {pl : Sem Bool} (x : Str) (hg : Gl X x) (hm : X.mg x = none) (hv : bootBuiltins x = some (.type B)) (ty : typeOf (.type B) = pure (.type "type")) (stub : Manifest.isStub B = false)
    (vV : PySem.W.findCls X.K (.type B) (.type "type") "__init__" = some (.val (.builtin initId))) (hh : PySem.W.handedIn (.builtin initId) = true) (ha : PA X (e :: es) ta)
    (hn : x ≠ "__name__" := by decide) (hdb : (x == ("__debug__" : Str)) = false := by decide)
    (hc : eval (.Call (.Attribute (.Name x p1) "__init__" p2) (e :: es) [] pos) X.env = (do
      let ov ← eval (.Name x p1) X.env
      standAt p2.atName
      let (f, first) ← holding [ov] (getMethod ov "__init__" pl)
      callWith pos f first (backTo pos (starEach (e :: es) X.env)) (backToKw pos (keywordEach [] X.env))) := by rfl)
    (he : starEach (e :: es) X.env = (false, eval e X.env) :: starEach es X.env := by rfl) (hpl : (backTo pos (starEach es X.env)).any (·.1) = false := by rfl) :
    PE X (.Call (.Attribute (.Name x p1) "__init__" p2) (e :: es) [] pos) (tBi X.K B newId initId bmB ta) := by
  refine ⟨fun pins s σ H Q I h => ?_⟩
  refine PySem.W.methodCall_KW (ld_blt I hg hm hv ?_ hn hdb) hc
  obtain ⟨m, fr⟩ := I.fr
  refine PySem.W.method_type fr I.ok.mod.kin ty stub vV hh ?_
  show wpAny _ _ (callWith pos (Value.builtin initId) [] (backTo pos (starEach (e :: es) X.env)) []) _ _ _
  refine PyProof.Rows.callWith_method1 (thn (ha.run pos pins _ σ H _ (I.tok _) h) fun us s1 ⟨vs, H1, I1, r1, a, C, ws, ev, hl, T, ea, q⟩ => ?_) he hpl
  subst ev
  cases r1 with
  | @cons _ u0 _ ur ra rw' =>
    obtain rfl : u0 = Value.ref a := ra
    have hlen : ur.length ≤ sizeLine := by
      rw [← Paired.length rw', sizeLine_eq]
      omega
    exact binit_ok T I1 ea hlen fun s' J => ⟨.non, H1, J, rfl, q⟩
theorem ps_ostB (ho : PE X o to) (he : PE X e te) (hs : swapsWith e (some (.Attribute o f p')) pos.line X.env = pure false := by rfl) : PS X (.Assign [.Attribute o f p'] e pos) (tOstB X.K B newId initId bmB f to te) := by
  refine ⟨fun pins s σ H D I h => ?_⟩
  refine plainObj_wpAny_Assign_Attribute (thn (he.run pins s σ H _ I h) fun v s1 ⟨y, H1, I1, r1, q1⟩ => thn (ho.run pins s1 σ H1 _ I1 q1) fun u s2 ⟨x, H2, I2, r2, a, C, ex, T, hno, q⟩ => ?_) hs
  subst ex
  obtain rfl : u = Value.ref a := r2
  rcases q with ⟨ea, q⟩ | ⟨dx, fs, ea, ed, hl, q⟩
  · exact ostB_new T I2 ea hno r1 fun dx s' n ne J => ⟨σ, _, J, q dx n ne⟩
  · exact ostB_old T I2 ea ed hl hno r1 fun s' J => ⟨σ, _, J, q⟩
/-- C's call: the object is laid, the __init__ runs -/
theorem run_mkV {pins : List (Addr × Obj)} {σ : St} {H : Hp} {s : Shared} {Q : VK} {C fI : Addr} {k : Nat} {fd : FuncData} {ps : List Str} {sp : Sp} {us : List Value} {kw : List (Str × Value)} {vs : List V} {ws : List Value}
    (T : OexB X.K B newId initId bmB C) (iC : PySem.W.findIn X.K (.ref C) "__init__" = some (some (.ref fI))) (tI : PySem.W.typeIn X.K (.ref fI) = some (.type "function"))
    (F1 : FnOk X.prog X.w X.K X.mg X.base CX0 k fI fd ps sp) (hr : Room (k + 1) X.A) (I : Inv X pins σ H s) (hus : us.length ≤ sizeLine)
    (hb : ∀ (s' : Shared) (a : Addr), X.K.In s'.heap → BindsTo s' fd ⟨.ref a :: us, kw⟩ (ps.zip (.ref a :: ws))) (r : Vals vs ws)
    (h : ∀ a, H a = none → sp (.ref a :: vs) (upd H a (exo a C none)) (fun v H2 => v = .non ∧ Q (.ref a) H2) (fun _ _ _ => False)) :
    wpAny (model X.prog X.w) X.A (call (.ref C) us kw) (EP X pins σ Q) X.xe s := by
  obtain ⟨nm, q, N, bs, sn, sub, ab, col, dd, k0, k1, k2, k3, k5, hC⟩ := T.cls
  obtain ⟨hp, g, dr, tk, os⟩ := s
  have hsz : hp.objs.size ≤ hp.objs.size + 1 := Nat.le_succ _
  have hn : H (hp.objs.size + 1) = none := I.hok.fresh hsz
  have hq := h (hp.objs.size + 1) hn
  have kk : ∀ b o, hp.get? b = some o → ((hp.push (PySem.W.kdv_tup us)).push (PySem.HandSPX.excO C hp.objs.size)).get? b = some o := fun b o e => Heap.get?_push_of_some _ (Heap.get?_push_of_some _ e)
  have hget : ((hp.push (PySem.W.kdv_tup us)).push (PySem.HandSPX.excO C hp.objs.size)).get? (hp.objs.size + 1) = some (PySem.HandSPX.excO C hp.objs.size) := by heap_get
  have I2 : Inv X pins σ (upd H (hp.objs.size + 1) (exo (hp.objs.size + 1) C none)) ⟨(hp.push (PySem.W.kdv_tup us)).push (PySem.HandSPX.excO C hp.objs.size), g, dr, tk, os⟩ :=
    I.laid (t' := tk) (a := hp.objs.size + 1) (o := exo (hp.objs.size + 1) C none) (h' := (hp.push (PySem.W.kdv_tup us)).push (PySem.HandSPX.excO C hp.objs.size)) kk hsz (exo_ok hget)
  have r2 : Vals (V.ref (hp.objs.size + 1) :: vs) (Value.ref (hp.objs.size + 1) :: ws) := .cons rfl r
  refine wpAny_call (PySem.CrX.call_kw T.F (fun Y => rfl) (I.kIn _ _ hC) (PySem.W.looks_findIn I.kIn iC) (fun self => PySem.W.bind_fn I.kIn self tI) hus
    (codeAny_mono (F1.run _ X.stack _ _ ⟨Value.ref (hp.objs.size + 1) :: us, kw⟩ (Value.ref (hp.objs.size + 1) :: ws) _ _ (fun _ _ _ => False) (hr.make C us kw) (I2.env0.make C us kw) (hb _ _ I2.kIn) r2 hq) fun rr s' hq' => ?_))
  cases rr with
  | error er => exact False.elim hq'
  | ok fl =>
    cases fl with
    | ret u =>
      obtain ⟨v, H2, I3, rv, ev, q2⟩ := I2.after hq'
      subst ev
      exact ⟨rv, V.ref (hp.objs.size + 1), H2, I3, rfl, q2⟩
    | next => exact False.elim hq'
    | brk => exact False.elim hq'
    | cont => exact False.elim hq'
end
end L2
namespace L2
open PySem PySem.Spec PyProof.Rows
section
variable {X : Cx} {e : Expr} {es : List Expr} {ta tk te : TA} {x : Str} {p pos : Pos} {B newId initId : String} {bmB : List Value} {kws : List Keyword} {ks : List Str} {C fI : Addr} {k : Nat} {fd : FuncData} {ps : List Str} {sp : Sp}
/-- C(e, ..) -/
theorem pe_mkV (T : OexB X.K B newId initId bmB C) (iC : PySem.W.findIn X.K (.ref C) "__init__" = some (some (.ref fI))) (tI : PySem.W.typeIn X.K (.ref fI) = some (.type "function"))
    (F1 : FnOk X.prog X.w X.K X.mg X.base CX0 k fI fd ps sp) (hr : Room (k + 1) X.A) (hb : Binds X.K fd ps []) (hg : Gl X x) (hm : X.mg x = some (.ref C)) (ha : PA X (e :: es) ta)
    (hdb : (x == ("__debug__" : Str)) = false := by decide) (he : starEach (e :: es) X.env = (false, eval e X.env) :: starEach es X.env := by rfl) (hpl : (backTo pos (starEach es X.env)).any (·.1) = false := by rfl) :
    PE X (.Call (.Name x p) (e :: es) [] pos) (tMkV C sp ta) := by
  refine ⟨fun pins s σ H Q I h => ?_⟩
  refine wpAny_Call_Name_kw (ld_glob I hg hm ?_ hdb)
  refine PySem.W.callWith_K (h₀ := X.base) I.ok.mod.kin T.kC (thn (ha.run pos pins s σ H _ I h) fun us s1 ⟨vs, H1, I1, r1, hz, q1⟩ => ⟨I1.kIn, ?_⟩) he hpl
  show wpAny _ _ (call (.ref C) us) _ _ _
  have hus : us.length ≤ sizeLine := by
    rw [← Paired.length r1, sizeLine_eq]
    omega
  have hlen : vs.length + 1 = ps.length := by
    have hq := q1 (s1.heap.objs.size + 1) (I1.hok.fresh (Nat.le_succ _))
    exact F1.len _ _ _ _ hq
  refine run_mkV (kw := []) (ws := us) T iC tI F1 hr I1 hus (fun s' a K1 => ?_) r1 q1
  have z := hb s' (.ref a :: us) K1 (by rw [List.append_nil, List.length_cons, ← Paired.length r1]; exact hlen)
  rwa [List.append_nil] at z
/-- C(k = v, ..): n keywords; permV puts the values in the order of the parameters -/
def tMkVK (C : Addr) (sp : Sp) (n : Nat) (permV : List V → List V) (tk : TA) : TE := fun σ H Q => tk σ H fun zs H1 => zs.length = n ∧ ∀ a, H1 a = none → sp (.ref a :: permV zs) (upd H1 a (exo a C none)) (fun v H2 => v = .non ∧ Q (.ref a) H2) (fun _ _ _ => False)
theorem pe_mkVK {perm : List Value → List Value} {permV : List V → List V} (T : OexB X.K B newId initId bmB C) (iC : PySem.W.findIn X.K (.ref C) "__init__" = some (some (.ref fI))) (tI : PySem.W.typeIn X.K (.ref fI) = some (.type "function"))
    (F1 : FnOk X.prog X.w X.K X.mg X.base CX0 k fI fd ps sp) (hr : Room (k + 1) X.A) (hb : ∀ (s' : Shared) (a : Addr) (ws : List Value), ws.length = ks.length → BindsTo s' fd ⟨[.ref a], ks.zip ws⟩ (ps.zip (.ref a :: perm ws)))
    (hrel : ∀ {zs : List V} {ws : List Value}, Vals zs ws → Vals (permV zs) (perm ws)) (hg : Gl X x) (hm : X.mg x = some (.ref C)) (hkw : PK X kws tk)
    (hall : (backToKw pos (keywordEach kws X.env)).all (·.1.isSome) = true := by rfl) (hks : (backToKw pos (keywordEach kws X.env)).filterMap (·.1) = ks := by rfl) (hdb : (x == ("__debug__" : Str)) = false := by decide)
    (hpl : ((backTo pos (starEach [] X.env)).any (·.1) || (backToKw pos (keywordEach kws X.env)).any (·.1.isNone)) = false := by rfl) :
    PE X (.Call (.Name x p) [] kws pos) (tMkVK C sp ks.length permV tk) := by
  refine ⟨fun pins s σ H Q I h => ?_⟩
  refine wpAny_Call_Name_kw (ld_glob I hg hm ?_ hdb)
  refine PySem.W.callWith_KW0 (h₀ := X.base) I.ok.mod.kin T.kC hall ?_ hpl
  refine thn (hkw.run pos pins s σ H _ I h) fun ws s2 ⟨zs, H2, I2, rz, l2, q2⟩ => ⟨I2.kIn, ?_⟩
  rw [hks]
  show wpAny _ _ (call (.ref C) [] (ks.zip ws)) _ _ _
  exact run_mkV (us := []) (kw := ks.zip ws) (ws := perm ws) T iC tI F1 hr I2 (Nat.zero_le _) (fun s' a _ => hb s' a ws (by rw [← Paired.length rz]; exact l2)) (hrel rz) q2
end

/-! ### an exception held as a value: its field, isinstance -/
/-- what the class at D says of its instances -/
structure ExcV (K : PySem.W.Frag) (D : Addr) : Prop where
  ga : PySem.W.findIn K (.ref D) "__getattribute__" = some (some (.builtin "BaseException.__getattribute__"))
  gg : PySem.W.findIn K (.ref D) "__getattr__" = some none
  sb : PySem.W.subIn K (.ref D) (.type "BaseException") = some true
  hd : PySem.W.hasDictIn K D = true
  ca : PySem.W.findIn K (.ref D) "__class__" = some (some (.builtin "object.__class__"))
  mo : PySem.W.mroIn K D (.type "object") = some true
/-- facts of object.__class__ itself -/
structure ClsD (K : PySem.W.Frag) : Prop where
  sp : PySem.W.specialIn K (.builtin "object.__class__") "__get__" = some (some (.builtin "getset_descriptor.__get__"))
  tk : PySem.W.takesIn K (.builtin "object.__class__") = some true
/-- e.f, e an exception that is held -/
def tExF (K : PySem.W.Frag) (f : Str) (te : TE) : TE := fun σ H Q => te σ H fun x H1 => ∃ (a C d : Addr) (fs : List (Str × V)) (v : V), x = .ref a ∧ H1 a = some (exo a C (some d)) ∧ H1 d = some (exd d fs) ∧ ExcV K C ∧ PySem.W.findIn K (.ref C) f = some none ∧ fs.lookup f = some v ∧ Q v H1
theorem pe_exF {X : Cx} {e : Expr} {f : Str} {te : TE} {pos : Pos} (he : PE X e te) (hb : attributeBase e f X.env (eval e X.env) = eval e X.env := by rfl) : PE X (.Attribute e f pos) (tExF X.K f te) := by
  refine ⟨fun pins s σ H Q I h => ?_⟩
  refine attr_of hb (thn (he.run pins s σ H _ I h) fun u s1 hh => ?_)
  obtain ⟨x, H1, I1, rx, a, C, d, fs, v, rfl, ea, ed, T, hno, l, q⟩ := hh
  obtain rfl : u = Value.ref a := rx
  obtain ⟨t1, ho⟩ := exo_at I1.hok ea
  obtain ⟨mA, hns, hr⟩ := exd_at I1.hok ed
  have hw := within_of hr
  obtain ⟨od, es, ep, hod, hrest⟩ := id hns
  obtain ⟨od', hod', hl⟩ := lookIn_ns hns
  obtain ⟨u, hu, ru⟩ := RelO.some_of (v := v) (o := mA f) (by rw [← l]; exact hr f)
  have J : PySem.W.InstAt s1.heap a { cls := .ref C, dict := some d, data := .fields #[.ref t1, .none, .none, .none, .bool false, .none] } C (some od') := ⟨ho, rfl, rfl, hod'⟩
  exact HandSPX.exc_get I1.kIn J T.ga T.gg T.sb (PySem.W.findObj_own T.hd hno rfl (by rw [hl, hu])) (handed_of ru) ⟨v, H1, I1.tok _, ru, q⟩
/-- isinstance(e, c), e an exception that is held -/
def rIsX (K : PySem.W.Frag) : List V → Hp → VK → Prop := fun xs H Q => ∃ (a C d : Addr) (fs : List (Str × V)) (c : V) (u : Value) (b : Bool), xs = [.ref a, c] ∧ H a = some (exo a C (some d)) ∧ H d = some (exd d fs) ∧ ExcV K C ∧ ClsD K ∧ ClsV c u ∧ PySem.W.kitOne K (.ref C) u = some b ∧ Q (.bl b) H
theorem call_isX {X : Cx} : CallR X (.builtin "isinstance") (rIsX X.K) := by
  intro pins s σ H xs us Q I r h
  obtain ⟨a, C, d, fs, c, u, b, rfl, ea, ed, T, D, k, e, q⟩ := h
  obtain ⟨u1, u2, rfl, r1, r2⟩ := vals2 r
  have e2 := k.eq r2
  subst e2
  obtain rfl : u1 = Value.ref a := r1
  obtain ⟨t1, ho⟩ := exo_at I.hok ea
  obtain ⟨mA, hns, hr⟩ := exd_at I.hok ed
  obtain ⟨od', hod', hl⟩ := lookIn_ns hns
  have J : PySem.W.InstAt s.heap a { cls := .ref C, dict := some d, data := .fields #[.ref t1, .none, .none, .none, .bool false, .none] } C (some od') := ⟨ho, rfl, rfl, hod'⟩
  exact PySem.W.kia_one (PySem.CrX.kitx_excO (od := some od') T.ga T.gg T.sb T.hd T.ca D.sp D.tk T.mo) I.kIn J e (fun z => nomatch z) fun tk => ⟨.bl b, H, I.tok tk, rfl, q⟩

/-! ### repr of data; data that holds dicts -/
/-- a value of None, bools, ints, texts, lists, tuples, dicts of such, as it stands in the heap -/
inductive Dq (K : PySem.W.Frag) (H : Hp) : V → PyData → Prop
  | base {v : V} {d : PyData} : Dp K H v d → Dq K H v d
  | dict {a : Addr} {kvs : List (Key × V)} {ds : List (PyData × PyData)} : H a = some (.dK kvs) → DpAll K H (kvs.map fun p => kV p.1) (ds.map (·.1)) → DpAll K H (kvs.map (·.2)) (ds.map (·.2)) → Dq K H (.ref a) (.dict ds)
end L2
namespace L2
open PySem PySem.Spec PyProof.Rows

/-! ### promises that may use that no container is being shown (guards) -/
/-- as FnOk, for calls made where no guard stands; nothing is raised -/
structure FnG (P : Program) (w : World) (K : PySem.W.Frag) (mg : Str → Option Value) (base : Heap) (k : Nat) (f : Addr) (fd : FuncData) (ps : List Str) (sp : Sp) : Prop where
  arity : ∀ vs H Q E, sp vs H Q E → vs.length = ps.length
  goes : ∀ (A : Around) (outer : List Env) (s : Shared) (H : Hp) (us : List Value) (vs : List V) (Q : VK), Room k A → A.guards = some [] → Env0 P w K mg base A outer s H → BindsTo s fd ⟨us, []⟩ (ps.zip us) → Vals vs us → sp vs H Q E0 →
    codeAny (model P w) A (.call (.ref f) ⟨us, []⟩) (CR CX0 outer P w H s Q E0) s
theorem FnG.of {P : Program} {w : World} {K : PySem.W.Frag} {mg : Str → Option Value} {base : Heap} {k : Nat} {f : Addr} {x qual : Str} {st : Stmt} {fd : FuncData} {N ps : List Str} {sp : Sp}
    (F : Fun K x qual st f fd) (S : FnScope N ps (defScope st)) (len : ∀ vs H Q E, sp vs H Q E → vs.length = ps.length)
    (hbody : ∀ (cdv : Value) (A : Around) (outer : List Env) (s : Shared) (H : Hp) (vs : List V) (Q : VK), Room k (A.deeper (envOfC qual (defScope st) s.heap.objs.size f cdv)) → (A.deeper (envOfC qual (defScope st) s.heap.objs.size f cdv)).guards = some [] → sp vs H Q E0 →
      ∃ t, PSs (cxOf CX0 P w K mg base N qual (defScope st) f cdv A outer s H E0).nox (defBody st) t ∧ t { nx := fun _ H' => Q .non H', rt := Q } (start N vs) H) : FnG P w K mg base (k + 1) f fd ps sp := by
  obtain ⟨oc, od, kV, doc, pm, an, cdv, ct, osl, rfl, lk, hcd⟩ := F.ex
  refine ⟨len, fun A outer s H us vs Q hr hgd e0 hb r hsp => ?_⟩
  have inS : ∀ b o, base.get? b = some o → s.heap.get? b = some o := fun b o e => (e0.bs b o e).1
  have hkind : ∀ y ∈ ps.zip us, (defScope st).names.lookup y.1 = some .local ∨ ((defScope st).names.lookup y.1 = some .cell ∧ ((cellsFrom (s.heap.objs.size + 1) (defScope st).names []).lookup y.1).isSome = true) := by
    rintro ⟨n, v⟩ hy
    rcases S.par n (List.of_mem_zip hy).1 with q | q
    · exact .inl q
    · exact .inr ⟨q, PySem.W.cellsFrom_some _ _ _ (.inl q)⟩
  refine codeAny_call_function hr.depth ((e0.mod.kin.keeps inS) _ _ lk) rfl S.co S.gen rfl (PySem.W.codeRec_of (e0.mod.kin.keeps inS) hcd) (hb _ _ _ _ (wpAny_newFunctionEnv_cells S.kind hkind fun env he s1 x => ?_))
  subst he
  refine ⟨(e0.mod.nolimit.keeps inS).keeps x.toInCall.keep, codeAny_func ?_⟩
  obtain ⟨t, ht, hq⟩ := hbody cdv A outer s H vs Q (hr.deeper _) hgd hsp
  refine wpAny_mono (ht.nox.run [] s1 (start N vs) H _ (inv_start S hr.hd e0 (len _ _ _ _ hsp) r x) hq) (fun fl s' hs => ?_) fun e s' hs => hs
  cases fl with
  | ret u =>
    obtain ⟨v, σ', H', J, rv, q⟩ := hs
    exact ⟨v, H', J.os, J.bare, J.base, J.hok, rv, q⟩
  | next =>
    obtain ⟨σ', H', J, q⟩ := hs
    exact ⟨V.non, H', J.os, J.bare, J.base, J.hok, rfl, q⟩
  | brk => exact hs.elim fun _ z => z.elim fun _ z => z.2.elim
  | cont => exact hs.elim fun _ z => z.elim fun _ z => z.2.elim
section
variable {X : Cx} {k : Nat} {f : Addr} {fd : FuncData} {ps : List Str} {sp : Sp} {x : Str} {p pos : Pos} {e : Expr} {es : List Expr} {t : TA}
/-- f(e, ..), f such a def -/
theorem pe_callG (F : FnG X.prog X.w X.K X.mg X.base k f fd ps sp) (hr : Room k X.A) (hgd : X.A.guards = some []) (hg : Gl X x) (hm : X.mg x = some (.ref f)) (hk : PySem.W.keepIn X.K (.ref f) = true) (hb : Binds X.K fd ps [])
    (ha : PA X (e :: es) t) (hdb : (x == ("__debug__" : Str)) = false := by decide) (he : starEach (e :: es) X.env = (false, eval e X.env) :: starEach es X.env := by rfl) (hpl : (backTo pos (starEach es X.env)).any (·.1) = false := by rfl) :
    PE X (.Call (.Name x p) (e :: es) [] pos) (tCall sp [] E0 t) := by
  refine ⟨fun pins s σ H Q I h => wpAny_Call_Name_kw (ld_glob I hg hm ?_ hdb)⟩
  refine PySem.W.callWith_K (h₀ := X.base) I.ok.mod.kin hk (thn (ha.run pos pins s σ H _ I h) fun us s1 ⟨vs, H1, I1, r, q⟩ => ⟨I1.kIn, ?_⟩) he hpl
  have q0 : sp (vs ++ []) H1 Q E0 := q
  have q' : sp vs H1 Q E0 := by rw [List.append_nil] at q0; exact q0
  have z := hb s1 us I1.kIn (by rw [List.append_nil, ← Paired.length r]; exact F.arity _ _ _ _ q')
  rw [List.append_nil] at z
  show wpAny _ _ (call (.ref f) us) _ _ _
  refine wpAny_call (codeAny_mono (F.goes X.A X.stack s1 H1 us vs Q hr hgd I1.env0 z r q') fun rr s' hq => ?_)
  cases rr with
  | error e => exact False.elim hq
  | ok fl =>
    cases fl with
    | ret u => exact I1.after hq
    | next => exact False.elim hq
    | brk => exact False.elim hq
    | cont => exact False.elim hq
end
/-- the law's own call, by such a promise -/
theorem law_callG {P : Program} {w : World} {K : PySem.W.Frag} {mg mb : Str → Option Value} {k : Nat} {fa a : Addr} {fd : FuncData} {x : Str} {sp : Sp} {s₁ : Shared} {vs : List Value} {ns : List Int}
    (KX : K.In s₁.heap) (hns : s₁.heap.Ns mainGlobals mg) (hb : s₁.heap.Ns builtinsNs mb) (hbb : ∀ x : Str, x ≠ "__name__" → mb x = bootBuiltins x) (hlim : s₁.heap.NoLimit) (hg : s₁.gens = #[])
    (ha : s₁.heap.get? a = some { cls := .type "list", data := .seq vs.toArray }) (hi : IntsAre vs ns) (hl : ns.length ≤ sizeLine) (hr : Room k callerA)
    (F : ∀ base : Heap, K.In base → base.Ns mainGlobals mg → FnG P w K mg base k fa fd [x] sp) (hbind : ∀ (s : Shared) (u : Value), BindsTo s fd ⟨[u], []⟩ [(x, u)])
    (hsp : ∀ H : Hp, Only H → SqL K H a (ns.map V.int) → sp [.ref a] H (fun v _ => v = .bl true) E0) :
    codeAny (model P w) callerA (.call (.ref fa) ⟨[.ref a], []⟩) (fun r s' => r = .ok (.ret (.bool true)) ∧ OldK s₁.heap s'.heap ∧ s'.os = s₁.os ∧ AllBare s'.gens) s₁ := by
  have rv := vals_ints hi
  have fsz : vs.length = ns.length := hi.length
  -- any abstract heap that tracks the script at most
  have core : ∀ H : Hp, Only H → SqL K H a (ns.map V.int) → HOk P w H s₁.heap → (∀ b u, H b = some u → b = a ∧ K.lookup a = none) →
      codeAny (model P w) callerA (.call (.ref fa) ⟨[.ref a], []⟩) (fun r s' => r = .ok (.ret (.bool true)) ∧ OldK s₁.heap s'.heap ∧ s'.os = s₁.os ∧ AllBare s'.gens) s₁ := by
    intro H hO hS hok hA
    have free : ∀ {b : Addr}, (∀ u, H b = some u → False) → H b = none := fun {b} z => by
      cases q : H b with
      | none => rfl
      | some u => exact (z u q).elim
    have dictFree : ∀ {b : Addr} {o : Obj} {es : Array DictEntry} {ep : Nat}, s₁.heap.get? b = some o → o.data = .dict es ep → H b = none := fun {b o es ep} e d => free fun u q => by
      obtain ⟨rfl, _⟩ := hA b u q
      rw [ha] at e
      cases e
      have d' : Data.seq vs.toArray _ = Data.dict es ep := d
      cases d'
    have under : ∀ {b : Addr} {m : Str → Option Value}, s₁.heap.Ns b m → (hidT s₁.heap H).Ns b m := fun {b m} ⟨o, es, ep, e, d, r⟩ => ⟨o, es, ep, hidT_get e (dictFree e d), d, r⟩
    have hKb : K.In (hidT s₁.heap H) := fun b o e => hidT_get (KX b o e) (free fun u q => by
      obtain ⟨rfl, z⟩ := hA b u q
      rw [z] at e
      cases e)
    have hM : Mod K mg (hidT s₁.heap H) := ⟨hKb, under hns, ⟨mb, under hb, hbb⟩, let ⟨mc, h1, h2⟩ := hlim; ⟨mc, under h1, h2⟩⟩
    have e0 : Env0 P w K mg (hidT s₁.heap H) callerA [] s₁ H := ⟨rfl, hM, fun b o e => of_hidT e, Nat.le_of_eq (hidT_size _ _), trivial, fun b hb => absurd (show b ∈ ([] : List Addr) from hb) (by simp), hok, .of_eq hg⟩
    refine codeAny_mono ((F _ hKb (under hns)).goes callerA [] s₁ H [.ref a] [.ref a] _ hr rfl e0 (hbind s₁ (.ref a)) (.cons rfl .nil) (hsp H hO hS)) fun r s' h => ?_
    cases r with
    | error e => exact False.elim h
    | ok fl =>
      cases fl with
      | next => exact False.elim h
      | brk => exact False.elim h
      | cont => exact False.elim h
      | ret u =>
        obtain ⟨v, H', os, bare, un, hok', r', q⟩ := h
        obtain rfl : v = .bl true := q
        obtain rfl : u = Value.bool true := r'
        refine ⟨rfl, OldK.of_keep fun b o e => ?_, os, bare⟩
        cases q : H b with
        | none => exact un.keep b o e q (by intro z; exact absurd (show b ∈ ([] : List Addr) from z) (by simp)) (by simp)
        | some u =>
          rcases hO b with z | ⟨ob, xs, z⟩
          · rw [q] at z
            cases z
          · obtain ⟨e1, _⟩ := hok b _ z
            obtain ⟨e2, _⟩ := hok' b _ (un.frzs b ob _ z)
            rw [e] at e1
            cases e1
            exact e2
  cases hk : K.lookup a with
  | some o =>
    have e := KX a o hk
    rw [ha] at e
    cases e
    exact core (fun _ => none) (fun _ => .inl rfl) (.inr ⟨_, vs.toArray, _, hk, rfl, rfl, rfl, by rw [List.size_toArray, fsz]; exact hl, by simpa using rv⟩) (fun b u z => nomatch z) fun b u z => nomatch z
  | none =>
    refine core (fun b => if b = a then some (.frz { cls := .type "list", data := .seq vs.toArray } (.lst (ns.map V.int))) else none) (fun b => ?_) (.inl (.inr ⟨{ cls := .type "list", data := .seq vs.toArray }, if_pos rfl⟩)) (fun b u z => ?_) fun b u z => ?_
    · by_cases hb : b = a
      · exact .inr ⟨_, _, if_pos hb⟩
      · exact .inl (if_neg hb)
    · by_cases hb : b = a
      · have z' := (if_pos hb).symm.trans z
        cases z'
        subst hb
        exact ⟨ha, by rw [List.length_map]; exact hl, vs, _, rv, ha⟩
      · have z' := (if_neg hb).symm.trans z
        cases z'
    · by_cases hb : b = a
      · exact ⟨hb, hk⟩
      · have z' := (if_neg hb).symm.trans z
        cases z'
theorem walk_G {l : PySem.W.OpenLaw} {n k : Nat} {q : Program} {loose : List Str} {XP : (Str → Option Value) → Heap → Prop} {YP : World → Heap → Prop} {d : DefRec} {K : Params → PySem.W.Frag} {sp : World → Sp} {x : Str}
    (hn : l.most = some n) (hn2 : n ≤ sizeLine) (hdf : d.params.defaults = []) (hr : Room k callerA) (hY : ∀ (w : World) (h : Heap), YP w h → (K w.params).In h)
    (F : ∀ (w : World) (mg : Str → Option Value) (fa : Addr) (h : Heap), (K w.params).In h → h.Ns mainGlobals mg → mg d.name = some (.ref fa) →
      ∃ fd : FuncData, (∀ (s : Shared) (u : Value), BindsTo s fd ⟨[u], []⟩ [(x, u)]) ∧ ∀ base : Heap, (K w.params).In base → base.Ns mainGlobals mg → FnG l.prog w (K w.params) mg base k fa fd [x] (sp w))
    (hsp : ∀ (w : World) (H : Hp) (a : Addr) (ns : List Int), ns.length ≤ n → Only H → SqL (K w.params) H a (ns.map V.int) → sp w [.ref a] H (fun v _ => v = .bl true) E0) :
    PySem.W.WalkO q loose XP YP l.row.toRowW d [] (fun f vs => PySem.call f vs) := by
  refine Att.attach_call hn hdf fun w s₀ s₁ mg mb fa o pm cd doc a vs ns G Y ho hd hcd hmg hobj hints hlen hg => ?_
  obtain ⟨fd, hb, hF⟩ := F w mg fa _ (hY w _ Y) G.T.g hmg
  exact law_callG (hY w _ Y) G.T.g G.T.b G.T.builtins G.T.nolimit hg hobj hints (Nat.le_trans hlen hn2) hr hF hb fun H hO hS => hsp w H a ns hlen hO hS

/-! ### repr of data -/
/-- a scalar as data -/
def datV : V → PyData
  | .bl b => .bool b
  | .int i => .int i
  | .str x => .str x
  | _ => .none
def scaV : V → Bool
  | .non | .bl _ | .int _ | .str _ => true
  | _ => false
theorem reads_sca {h : Heap} {v : V} {u : Value} (f : scaV v = true) (r : RelV v u) : Reads h u (datV v) [] := by
  cases v with
  | non => cases (show u = Value.none from r); exact .none
  | bl b => cases (show u = Value.bool b from r); exact .bool b
  | int i => obtain ⟨t, rfl⟩ := (show ∃ t, u = Value.int i t from r); exact .int i t
  | str x => obtain ⟨t, rfl⟩ := (show ∃ t, u = Value.str x t from r); exact .str x t
  | _ => cases f
theorem readsAll_sca {h : Heap} : ∀ {vs : List V} {us : List Value}, (∀ v ∈ vs, scaV v = true) → Vals vs us → ReadsAll h us (vs.map datV) []
  | _, _, _, .nil => .nil
  | _, _, f, .cons r t => .cons (as := []) (bs := []) (reads_sca (f _ List.mem_cons_self) r) (readsAll_sca (fun v hv => f v (List.mem_cons_of_mem _ hv)) t)
theorem pairs_vals {P : Program} {w : World} : ∀ {es : List DictEntry} {vs : List (Key × Value)} {kvs : List (Key × V)}, Pairs (mixKind P w) es vs → KV kvs vs → Vals (kvs.map fun p => kV p.1) (es.map (·.key)) ∧ Vals (kvs.map (·.2)) (es.map (·.val))
  | _, _, _, .nil, h => by
    unfold KV at h
    cases h
    exact ⟨.nil, .nil⟩
  | _, _, _, .cons h1 h2 hr, h => by
    unfold KV at h
    cases h with
    | @cons p q ps qs hp ht =>
      obtain ⟨k1, k2⟩ := pairs_vals hr ht
      obtain ⟨e1, e2⟩ := hp
      refine ⟨.cons ?_ k1, .cons ?_ k2⟩
      · have h1' := h1
        rw [mixKind_is, ← e1] at h1'
        rcases keyIs_shape h1' with ⟨i, t, ek, ev⟩ | ⟨x, t, ek, ev⟩
        · show RelV (kV p.1) _
          rw [ek]
          exact ⟨t, ev⟩
        · show RelV (kV p.1) _
          rw [ek]
          exact ⟨t, ev⟩
      · show RelV p.2 (DictEntry.val _)
        rw [h2]
        exact e2
/-- a dict of scalars as data -/
def datD (kvs : List (Key × V)) : PyData := .dict (kvs.map fun p => (datV (kV p.1), datV p.2))
theorem reads_dict {P : Program} {w : World} {H : Hp} {h : Heap} {a : Addr} {kvs : List (Key × V)} (ok : HOk P w H h) (e : H a = some (.dK kvs)) (f : ∀ p ∈ kvs, scaV p.2 = true) : Reads h (.ref a) (datD kvs) [a] ∧ sysModules ∉ [a] := by
  obtain ⟨_, ns, vs, hkv, o, es, ep, ho, ex, hd, _, hp, _⟩ := ok a _ e
  obtain ⟨k1, k2⟩ := pairs_vals hp hkv
  refine ⟨Reads.dict (as := []) (bs := []) ho ex.1 hd ?_ ?_, fun m => ?_⟩
  · have z := readsAll_sca (h := h) (fun v hv => by
      obtain ⟨p, _, rfl⟩ := List.mem_map.mp hv
      obtain ⟨k, x⟩ := p
      cases k <;> rfl) k1
    rw [List.map_map] at z
    rw [List.map_map]
    exact z
  · have z := readsAll_sca (h := h) (fun v hv => by
      obtain ⟨p, hp, rfl⟩ := List.mem_map.mp hv
      exact f p hp) k2
    rw [List.map_map] at z
    rw [List.map_map]
    exact z
  · have z := List.mem_singleton.mp m
    rw [← z] at ns
    exact absurd ns (by decide)
/-- repr(x): x a scalar, or data in the heap -/
def rRepr (K : PySem.W.Frag) : List V → Hp → VK → Prop := fun xs H Q => ∃ (x : V) (d : PyData), xs = [x] ∧ (Dp K H x d ∨ ∃ a kvs, x = .ref a ∧ H a = some (.dK kvs) ∧ (∀ p ∈ kvs, scaV p.2 = true) ∧ d = datD kvs) ∧ d.showable = true ∧ d.depth ≤ 60 ∧ d.shown.length ≤ sizeLine ∧ Q (.str d.shown) H
theorem noDict_of_dp {K : PySem.W.Frag} {H : Hp} : ∀ (d : PyData) (v : V), Dp K H v d → d.hasDict = false := by
  intro d
  exact (PyData.rec (motive_1 := fun d => ∀ v, Dp K H v d → d.hasDict = false) (motive_2 := fun ds => ∀ vs, DpAll K H vs ds → PyData.hasDictAll ds = false) (motive_3 := fun _ => True) (motive_4 := fun _ => True)
    (fun v _ => by simp only [PyData.hasDict]) (fun b v _ => by simp only [PyData.hasDict]) (fun i v _ => by simp only [PyData.hasDict]) (fun x v _ => by simp only [PyData.hasDict])
    (fun xs ih v h => by cases h with | lst hs ha => simp only [PyData.hasDict]; exact ih _ ha)
    (fun xs ih v h => by cases h with | tup hs ha => simp only [PyData.hasDict]; exact ih _ ha)
    (fun kvs _ v h => by cases h)
    (fun vs h => by simp only [PyData.hasDictAll]) (fun d ds i1 i2 vs h => by cases h with | cons h1 h2 => simp only [PyData.hasDictAll, i1 _ h1, i2 _ h2, Bool.or_self])
    trivial (fun _ _ _ _ => trivial) (fun _ _ _ _ => trivial) d)
theorem call_repr {X : Cx} (hgd : X.A.guards = some []) (hu : X.A.units + 64 < cLine) : CallR X (.builtin "repr") (rRepr X.K) := by
  intro pins s σ H xs us Q I r h
  obtain ⟨x, d, rfl, hd, hsh, hdp, hsz, q⟩ := h
  obtain ⟨u, rfl, ru⟩ := vals1 r
  have key : ∃ as, Reads s.heap u d as ∧ (d.hasDict = true → sysModules ∉ as) := by
    rcases hd with hd | ⟨a, kvs, rfl, e, f, rfl⟩
    · obtain ⟨as, hr⟩ := Dp.reads I d x u hd ru
      exact ⟨as, hr, PyData.noDict_hsm (noDict_of_dp d x hd)⟩
    · obtain ⟨hr, hm⟩ := reads_dict I.hok e f
      cases (show u = Value.ref a from ru)
      exact ⟨_, hr, fun _ => hm⟩
  obtain ⟨as, hr, hm⟩ := key
  cases hr with
  | none =>
    simp only [PyData.shown] at q
    exact PySem.P.repr_of_none ⟨.str _, H, I.tok _, ⟨_, rfl⟩, q⟩
  | bool b =>
    simp only [PyData.shown] at q
    exact PySem.P.repr_of_bool ⟨.str _, H, I.tok _, ⟨_, rfl⟩, q⟩
  | int i t =>
    simp only [PyData.shown] at q
    exact PySem.P.repr_of_int (by simpa [PyData.showable] using hsh) ⟨.str _, H, I.tok _, ⟨_, rfl⟩, q⟩
  | str y t =>
    simp only [PyData.shown] at q hsz
    exact PySem.P.repr_of_str ⟨.str _, H, I.tok _, ⟨_, rfl⟩, q⟩ hsz
  | list h1 h2 h3 h4 => exact repr_of_reads' (Reads.list h1 h2 h3 h4) hsh hm hgd (by omega) (fun _ _ e => e) (fun h' u tk hk => ⟨.str _, H, I.kept (t' := tk) hk, ⟨u, rfl⟩, q⟩) hsz
  | tuple h1 h2 h3 h4 => exact repr_of_reads' (Reads.tuple h1 h2 h3 h4) hsh hm hgd (by omega) (fun _ _ e => e) (fun h' u tk hk => ⟨.str _, H, I.kept (t' := tk) hk, ⟨u, rfl⟩, q⟩) hsz
  | dict h1 h2 h3 h4 h5 => exact repr_of_reads' (Reads.dict h1 h2 h3 h4 h5) hsh hm hgd (by omega) (fun _ _ e => e) (fun h' u tk hk => ⟨.str _, H, I.kept (t' := tk) hk, ⟨u, rfl⟩, q⟩) hsz
end L2
namespace Ld
open PySem PySem.Spec PyProof.Rows L2
def top (i : Nat) : Stmt := PySem.Challenge.pw_crateround_k88_first_orders.main.body.getD i (.Pass ⟨0, 0, 0, 0⟩)
abbrev sPen : Stmt := top 27
abbrev sDraw : Stmt := top 28
abbrev sPick : Stmt := top 29
abbrev sShuf : Stmt := top 30
abbrev sWords : Stmt := top 31
abbrev sClnL : Stmt := top 32
abbrev sPluL : Stmt := top 33
abbrev sLodL : Stmt := top 34
abbrev sShoL : Stmt := top 35
abbrev sRowL : Stmt := top 36
abbrev sSomL : Stmt := top 37
abbrev sNeeL : Stmt := top 38
abbrev sDonL : Stmt := top 39
abbrev sStoL : Stmt := top 40
abbrev sFirL : Stmt := top 41
abbrev sRefL : Stmt := top 42
abbrev sLinL : Stmt := top 43
theorem seq_step {t u : TS} {D : Ends} {σ : L2.St} {H : Hp} (Rp : L2.St → Hp → Prop) (h1 : ∀ R : L2.St → Hp → Prop, (∀ σ' H', Rp σ' H' → R σ' H') → t { D with nx := R } σ H) (h2 : ∀ σ' H', Rp σ' H' → u D σ' H') : tSeq t u D σ H := h1 (u D) h2
/-! ### the pen: the script's cells, how many were begun, what is left of a great one -/
structure PenAt (H : Hp) (p c : Addr) (ns : List Int) (u r : Int) : Prop where
  ob : ∃ kvs : List (Key × V), H p = some (.dK kvs) ∧ kvs.length ≤ 10 ∧ valV kvs (Sum.inr ("cells" : Str) : Key) = some (.ref c) ∧ valV kvs (Sum.inr ("begun" : Str) : Key) = some (.int u) ∧ valV kvs (Sum.inr ("left" : Str) : Key) = some (.int r)
  cl : H c = some (.lst (ns.map V.int))
  few : ns.length ≤ 63
  u0 : 0 ≤ u
  r0 : 0 ≤ r
theorem PenAt.ne {H : Hp} {p c : Addr} {ns : List Int} {u r : Int} (P : PenAt H p c ns u r) : c ≠ p := by
  obtain ⟨kvs, h, _⟩ := P.ob
  exact ne_of P.cl h (fun z => nomatch z)
theorem PenAt.same {H H' : Hp} {p c : Addr} {ns : List Int} {u r : Int} (P : PenAt H p c ns u r) (s : Same H H') : PenAt H' p c ns u r := by
  obtain ⟨kvs, h, k⟩ := P.ob
  exact ⟨⟨kvs, s _ _ h, k⟩, s _ _ P.cl, P.few, P.u0, P.r0⟩
/-- all but the pen stands -/
def SameP (p : Addr) (H H' : Hp) : Prop := ∀ b o, H b = some o → b ≠ p → H' b = some o
theorem SameP.trans {p : Addr} {H H1 H2 : Hp} (a : SameP p H H1) (b : SameP p H1 H2) : SameP p H H2 := fun x o h n => b x o (a x o h n) n
theorem SameP.of {p : Addr} {H H' : Hp} (s : Same H H') : SameP p H H' := fun b o h _ => s b o h
theorem putK_len {kvs : List (Key × V)} {k : Key} {v x : V} (h : valV kvs k = some x) : (putK kvs k v).length = kvs.length := by
  unfold putK
  rw [if_pos (by rw [valV_any, h]; rfl), List.length_map]
theorem kCU : ¬ (Sum.inr ("cells" : Str) : Key) = Sum.inr ("begun" : Str) := by decide +kernel
theorem kCR : ¬ (Sum.inr ("cells" : Str) : Key) = Sum.inr ("left" : Str) := by decide +kernel
theorem kUR : ¬ (Sum.inr ("begun" : Str) : Key) = Sum.inr ("left" : Str) := by decide +kernel
theorem kRU : ¬ (Sum.inr ("left" : Str) : Key) = Sum.inr ("begun" : Str) := by decide +kernel
theorem PenAt.setRest {H : Hp} {p c : Addr} {ns : List Int} {u r r' : Int} {kvs : List (Key × V)} (P : PenAt H p c ns u r) (h : H p = some (.dK kvs)) (hl : kvs.length ≤ 10)
    (v1 : valV kvs (Sum.inr ("cells" : Str) : Key) = some (.ref c)) (v2 : valV kvs (Sum.inr ("begun" : Str) : Key) = some (.int u)) (v3 : valV kvs (Sum.inr ("left" : Str) : Key) = some (.int r)) (h0 : 0 ≤ r') :
    PenAt (upd H p (.dK (putK kvs (Sum.inr ("left" : Str)) (.int r')))) p c ns u r' :=
  ⟨⟨_, upd_same, by rw [putK_len v3]; exact hl, by rw [valV_put, if_neg kCR]; exact v1, by rw [valV_put, if_neg kUR]; exact v2, by rw [valV_put, if_pos rfl]⟩, by rw [upd_ne P.ne]; exact P.cl, P.few, P.u0, h0⟩
theorem PenAt.setUsed {H : Hp} {p c : Addr} {ns : List Int} {u r u' : Int} {kvs : List (Key × V)} (P : PenAt H p c ns u r) (h : H p = some (.dK kvs)) (hl : kvs.length ≤ 10)
    (v1 : valV kvs (Sum.inr ("cells" : Str) : Key) = some (.ref c)) (v2 : valV kvs (Sum.inr ("begun" : Str) : Key) = some (.int u)) (v3 : valV kvs (Sum.inr ("left" : Str) : Key) = some (.int r)) (h0 : 0 ≤ u') :
    PenAt (upd H p (.dK (putK kvs (Sum.inr ("begun" : Str)) (.int u')))) p c ns u' r :=
  ⟨⟨_, upd_same, by rw [putK_len v2]; exact hl, by rw [valV_put, if_neg kCU]; exact v1, by rw [valV_put, if_pos rfl], by rw [valV_put, if_neg kRU]; exact v3⟩, by rw [upd_ne P.ne]; exact P.cl, P.few, h0, P.r0⟩
/-! ### lists of ints as data -/
theorem dp_ints {K : PySem.W.Frag} {H : Hp} : ∀ ns : List Int, DpAll K H (ns.map V.int) (ns.map PyData.int)
  | [] => .nil
  | n :: r => .cons (.int n) (dp_ints r)
theorem lay_ints : ∀ ns : List Int, PyData.canLayAll0 (ns.map PyData.int) = true
  | [] => by simp [PyData.canLayAll0]
  | n :: r => by simp [PyData.canLayAll0, PyData.canLay0, lay_ints r]
theorem dep_ints : ∀ ns : List Int, PyData.depthAll (ns.map PyData.int) = 0
  | [] => by simp [PyData.depthAll]
  | n :: r => by simp [PyData.depthAll, PyData.depth, dep_ints r]
theorem shaped_ints (ns : List Int) : SeqAt.shaped (.list (ns.map PyData.int)) = true := by
  unfold SeqAt.shaped
  rw [Bool.and_eq_true]
  refine ⟨?_, decide_eq_true ?_⟩
  · simp only [PyData.canLay0]
    exact lay_ints ns
  · simp only [PyData.depth, dep_ints]
    omega
theorem eqv_nil (ns : List Int) : PyData.eqv (.list (ns.map PyData.int)) (.list []) = ns.isEmpty := by
  cases ns with
  | nil => simp [PyData.eqv, PyData.eqvAll]
  | cons n r => simp [PyData.eqv, PyData.eqvAll]
theorem bInt : bootBuiltins "int" = some (.type "int") := by decide +kernel
theorem bAbs : bootBuiltins "abs" = some (.builtin "abs") := by decide +kernel
theorem bList : bootBuiltins "list" = some (.type "list") := by decide +kernel
theorem same_new {H : Hp} {p : Addr} {o : HO} (h : H p = none) : Same H (upd H p o) := fun b u e => by rw [upd_ne (ne_of_none e h)]; exact e
theorem new_at {H : Hp} {p : Addr} {o : HO} (h : H p = none) : ∃ H', upd H p o = H' ∧ Same H H' ∧ H' p = some o := ⟨_, rfl, same_new h, upd_same⟩
theorem new_dict {H : Hp} {p : Addr} {o u : HO} (h : H p = none) : ∃ H', upd (upd H p u) p o = H' ∧ Same H H' ∧ H' p = some o := ⟨_, rfl, by rw [upd_upd]; exact same_new h, upd_same⟩
theorem Same.tup {K : PySem.W.Frag} {H H' : Hp} {a : Addr} {xs : List V} (e : Same H H') (h : SqT K H a xs) : SqT K H' a xs := by
  rcases h with (h | ⟨o, h⟩) | h
  · exact .inl (.inl (e _ _ h))
  · exact .inl (.inr ⟨o, e _ _ h⟩)
  · exact .inr h
theorem dp_same {K : PySem.W.Frag} {H H' : Hp} (s : Same H H') : ∀ (d : PyData) (v : V), Dp K H v d → Dp K H' v d := fun d =>
  PyData.rec (motive_1 := fun d => ∀ v, Dp K H v d → Dp K H' v d) (motive_2 := fun ds => ∀ vs, DpAll K H vs ds → DpAll K H' vs ds) (motive_3 := fun _ => True) (motive_4 := fun _ => True)
    (fun v h => by cases h; exact .non) (fun b v h => by cases h; exact .bl b) (fun i v h => by cases h; exact .int i) (fun x v h => by cases h; exact .str x)
    (fun xs ih v h => by cases h with | lst hs ha => exact .lst (s.seq hs) (ih _ ha))
    (fun xs ih v h => by cases h with | tup hs ha => exact .tup (Same.tup s hs) (ih _ ha))
    (fun kvs _ v h => by cases h)
    (fun vs h => by cases h; exact .nil) (fun d ds i1 i2 vs h => by cases h with | cons h1 h2 => exact .cons (i1 _ h1) (i2 _ h2))
    trivial (fun _ _ _ _ => trivial) (fun _ _ _ _ => trivial) d

/-- names of the module that are the built-ins' own -/
structure Blt (mg : Str → Option Value) : Prop where
  int : mg "int" = none
  abs : mg "abs" = none
  list : mg "list" = none
  len : mg "len" = none
  range : mg "range" = none
theorem dget_s {H : Hp} {a : Addr} {kvs : List (Key × V)} {x : Str} {v : V} (e : H a = some (.dK kvs)) (h : valV kvs (Sum.inr x : Key) = some v) : DGet H a (.str x) (some v) := by
  have z := DGet.k (k := (Sum.inr x : Key)) e
  rw [h] at z
  exact z
theorem dput_s {H : Hp} {a : Addr} {kvs : List (Key × V)} {x : Str} {v : V} (e : H a = some (.dK kvs)) (hl : kvs.length ≤ 10) : DPut H a (.str x) v (upd H a (.dK (putK kvs (Sum.inr x : Key) v))) :=
  DPut.k (k := (Sum.inr x : Key)) e (Nat.lt_of_le_of_lt hl (by decide))
theorem ifd {c : Prop} [Decidable c] {A B : Prop} (h1 : c → A) (h2 : ¬ c → B) : if decide c = true then A else B := by
  by_cases h : c
  · rw [if_pos (decide_eq_true h)]
    exact h1 h
  · rw [if_neg (by rw [decide_eq_false h]; exact Bool.false_ne_true)]
    exact h2 h
theorem ifb {b : Bool} {A B : Prop} (h1 : b = true → A) (h2 : b = false → B) : if b = true then A else B := by
  cases b with
  | true => exact (if_pos rfl : (if true = true then A else B) = A) ▸ h1 rfl
  | false => exact (if_neg Bool.false_ne_true : (if false = true then A else B) = B) ▸ h2 rfl
theorem atI_in {xs : List V} {i : Int} {n : Int} (hn : n = (xs.length : Int)) (h0 : 0 ≤ i) (h1 : i < n) : ∃ v, atI xs i = some v ∧ v ∈ xs := by
  have hl : i.toNat < xs.length := by omega
  refine ⟨xs[i.toNat], ?_, List.getElem_mem hl⟩
  have e : i = ((i.toNat : Nat) : Int) := by omega
  have z : atI xs ((i.toNat : Nat) : Int) = some xs[i.toNat] := atI_nat (by simp [List.getElem?_eq_getElem hl])
  rwa [← e] at z
theorem em {x n : Int} (h0 : 0 < n) (h1 : n ≤ 18446744073709551616) : -(2 ^ 64) < x % n ∧ x % n < 2 ^ 64 := by
  have a := Int.emod_nonneg x (by omega : n ≠ 0)
  have b := Int.emod_lt_of_pos x h0
  omega
/-! ### the promises -/
def spDraw : Sp := fun vs H Q _ => ∃ (p c : Addr) (ns : List Int) (u r m : Int), vs = [.ref p, .int m] ∧ PenAt H p c ns u r ∧ u ≤ 1000000 ∧ 0 < m ∧ m ≤ 1000000000 ∧
  ∀ (d u' r' : Int) (H' : Hp), 0 ≤ d → d < m → u' ≤ u + 1 → PenAt H' p c ns u' r' → SameP p H H' → Q (.int d) H'
local macro_rules | `(tactic| walk_at "pe") => `(tactic| first
  | exact pe_int
  | exact pe_bl
  | exact pe_non
  | exact pe_str
  | ((with_reducible show PE _ (Expr.Name _ _) _); first | exact pv 0 | exact pv 1 | exact pv 2 | exact pv 3 | exact pv 4 | exact pv 5 | exact pv 6 | exact pv 7 | exact pv 8 | exact pv 9 | exact pv 10 | exact pv 11)
  | ((with_reducible show PE _ (Expr.BinOp _ Operator.Add _ _) _); refine' pe_op op_add ?p1 ?p2; (case p1 => walk_at "pe"); (case p2 => walk_at "pe"))
  | ((with_reducible show PE _ (Expr.BinOp _ Operator.Sub _ _) _); refine' pe_op op_sub ?p1 ?p2; (case p1 => walk_at "pe"); (case p2 => walk_at "pe"))
  | ((with_reducible show PE _ (Expr.BinOp _ Operator.Mult _ _) _); refine' pe_op op_mul ?p1 ?p2; (case p1 => walk_at "pe"); (case p2 => walk_at "pe"))
  | ((with_reducible show PE _ (Expr.BinOp _ Operator.Mod _ _) _); refine' pe_op op_mod ?p1 ?p2; (case p1 => walk_at "pe"); (case p2 => walk_at "pe"))
  | ((with_reducible show PE _ (Expr.BinOp _ Operator.FloorDiv _ _) _); refine' pe_op op_fdiv ?p1 ?p2; (case p1 => walk_at "pe"); (case p2 => walk_at "pe"))
  | ((with_reducible show PE _ (Expr.BinOp _ Operator.Pow _ _) _); refine' pe_op op_pow ?p1 ?p2; (case p1 => walk_at "pe"); (case p2 => walk_at "pe"))
  | ((with_reducible show PE _ (Expr.UnaryOp UnaryOp.USub _ _) _); refine' pe_un un_neg ?p1; (case p1 => walk_at "pe"))
  | ((with_reducible show PE _ (Expr.Subscript _ (Expr.Constant (Const.str _) _ _) _) _); refine' pe_dget (by assumption) ?p1 pe_str (fun _ _ => rfl); (case p1 => walk_at "pe"))
  | ((with_reducible show PE _ (Expr.Subscript _ _ _) _); refine' pe_ix ix_list ?p1 ?p2 (fun _ _ => rfl); (case p1 => walk_at "pe"); (case p2 => walk_at "pe"))
  | ((with_reducible show PE _ (Expr.Call (Expr.Name "int" _) _ _ _) _); refine' pe_callTy call_int1 (by rfl) (by assumption) bInt (pa_cons ?p1 pa_nil); (case p1 => walk_at "pe"))
  | ((with_reducible show PE _ (Expr.Call (Expr.Name "abs" _) _ _ _) _); refine' pe_callB call_abs (by rfl) (by assumption) bAbs (pa_cons ?p1 pa_nil); (case p1 => walk_at "pe"))
  | ((with_reducible show PE _ (Expr.Call (Expr.Name "len" _) _ _ _) _); refine' pe_callB call_len_seq (by rfl) (by assumption) PySem.boot_len (pa_cons ?p1 pa_nil); (case p1 => walk_at "pe"))
  | ((with_reducible show PE _ (Expr.List _ _) _); refine' pe_lst ?p1; (case p1 => walk_at "pa"))
  | ((with_reducible show PE _ (Expr.Tuple _ _ _) _); refine' pe_tup ?p1; (case p1 => walk_at "pa")))
local macro_rules | `(tactic| walk_at "pa") => `(tactic| first | exact pa_nil | (refine' pa_cons ?p1 ?p2; (case p1 => walk_at "pe"); (case p2 => walk_at "pa")))
local macro_rules | `(tactic| walk_at "pt") => `(tactic| first
  | ((with_reducible show PT _ (Expr.Compare _ [CmpOp.Gt] [_] _) _); refine' pt_cmpR op_gt ?p1 ?p2 (nomark _); (case p1 => walk_at "pe"); (case p2 => walk_at "pe"))
  | ((with_reducible show PT _ (Expr.Compare _ [CmpOp.GtE] [_] _) _); refine' pt_cmpR op_ge ?p1 ?p2 (nomark _); (case p1 => walk_at "pe"); (case p2 => walk_at "pe"))
  | ((with_reducible show PT _ (Expr.Compare _ [CmpOp.Lt] [_] _) _); refine' pt_cmpR op_lt ?p1 ?p2 (nomark _); (case p1 => walk_at "pe"); (case p2 => walk_at "pe"))
  | ((with_reducible show PT _ (Expr.Compare _ [CmpOp.LtE] [_] _) _); refine' pt_cmpR op_le ?p1 ?p2 (nomark _); (case p1 => walk_at "pe"); (case p2 => walk_at "pe"))
  | ((with_reducible show PT _ (Expr.Compare _ [CmpOp.NotEq] [Expr.List [] _] _) _); refine' pt_cmpR (op_neD (by assumption)) ?p1 (pe_lst pa_nil) (nomark _); (case p1 => walk_at "pe"))
  | ((with_reducible show PT _ (Expr.BoolOp BoolOp.And [_, _] _) _); refine' PW.pt (pw_and ?p1 (pw_and1 ?p2)); (case p1 => walk_at "pt"); (case p2 => walk_at "pt")))
local macro_rules | `(tactic| walk_at "st") => `(tactic| first
  | ((with_reducible show PS _ (Stmt.Return (some _) _) _); refine' ps_ret ?p1; (case p1 => walk_at "pe"))
  | ((with_reducible show PS _ (Stmt.Assign [Expr.Subscript _ _ _] _ _) _); refine' ps_dput (by assumption) ?p1 ?p2 ?p3 rfl; (case p1 => walk_at "pe"); (case p2 => walk_at "pe"); (case p3 => walk_at "pe"))
  | ((with_reducible show PS _ (Stmt.Assign [Expr.Name _ _] _ _) _); (first | refine' ps_set (i := 1) (by assumption) rfl (Or.inl rfl) ?p1 | refine' ps_set (i := 2) (by assumption) rfl (Or.inl rfl) ?p1 | refine' ps_set (i := 3) (by assumption) rfl (Or.inl rfl) ?p1 | refine' ps_set (i := 4) (by assumption) rfl (Or.inl rfl) ?p1 | refine' ps_set (i := 5) (by assumption) rfl (Or.inl rfl) ?p1 | refine' ps_set (i := 6) (by assumption) rfl (Or.inl rfl) ?p1 | refine' ps_set (i := 7) (by assumption) rfl (Or.inl rfl) ?p1 | refine' ps_set (i := 8) (by assumption) rfl (Or.inl rfl) ?p1 | refine' ps_set (i := 9) (by assumption) rfl (Or.inl rfl) ?p1 | refine' ps_set (i := 10) (by assumption) rfl (Or.inl rfl) ?p1 | refine' ps_set (i := 11) (by assumption) rfl (Or.inl rfl) ?p1); (case p1 => walk_at "pe"))
  | ((with_reducible show PS _ (Stmt.If _ _ _ _) _); refine' ps_if ?p1 ?p2 ?p3; (case p1 => walk_at "pt"); (case p2 => walk_at "ps"); (case p3 => walk_at "ps")))
local macro_rules | `(tactic| walk_at "ps") => `(tactic| first
  | exact pss_nil | (refine' pss_one ?p1; (case p1 => walk_at "st")) | (refine' pss_cons ?p1 ?p2; (case p1 => walk_at "st"); (case p2 => walk_at "ps")))

section
variable {P : Program} {w : World} {K : PySem.W.Frag} {mg : Str → Option Value} {base : Heap}
abbrev nDraw : List Str := ["_law_pen_here", "_law_many", "_law_digit", "_law_at", "_law_size", "_law_cell", "_law_blend"]
theorem scDraw : FnScope nDraw ["_law_pen_here", "_law_many"] (defScope sDraw) := ⟨rfl, rfl, rfl, by decide +kernel, rfl, by decide +kernel, by decide +kernel⟩
theorem ok_draw {f : Addr} {fd : FuncData} (F : Fun K "_law_draw" "_law_draw" sDraw f fd) (B : Blt mg) : FnOk P w K mg base CX0 1 f fd ["_law_pen_here", "_law_many"] spDraw := by
  refine F.ok scDraw (fun vs H Q E h => ?_) (fun cdv A outer s H vs Q E hr h => ?_)
  · obtain ⟨p, c, ns, u, r, m, rfl, _⟩ := h
    rfl
  · obtain ⟨p, c, ns, u, r, m, rfl, PA, hu6, hm0, hm1, k⟩ := h
    have hu := hu_of hr
    have hu64 := hr.units
    have m1 := B.int
    have m2 := B.abs
    have m3 := B.len
    have nd : nDraw.Nodup := scDraw.nd
    refine ⟨_, pss_cons (ps_if (by walk_at "pt") (by walk_at "ps") pss_nil)
      (pss_cons (ps_par (i := 3) (j := 4) rfl nd rfl rfl (by decide) rfl rfl (pa_cons (by walk_at "pe") (pa_cons (by walk_at "pe") pa_nil)) (by rfl))
      (pss_cons (ps_dput hu (by walk_at "pe") (by walk_at "pe") (by walk_at "pe") rfl)
      (pss_cons (ps_set (i := 5) nd rfl (Or.inl rfl) (pe_ifExp (by walk_at "pt") (by walk_at "pe") (by walk_at "pe")))
      (by walk_at "ps")))), ?_⟩
    obtain ⟨kvs, hp, hl, v1, v2, v3⟩ := PA.ob
    have hc := PA.cl
    have u0 := PA.u0
    refine seq_step (fun σ' H' => σ' = [some (.ref p), some (.int m), none, none, none, none, none] ∧ H' = H) (fun R hR => ?_) (fun σ1 H1 h1 => ?_)
    · -- if pen['left'] > 0
      refine ⟨_, rfl, _, _, rfl, dget_s hp v3, _, _, rfl, rfl, _, rfl, ifd (fun c0 => ?_) (fun c0 => hR _ _ ⟨rfl, rfl⟩)⟩
      refine ⟨_, rfl, _, _, rfl, dget_s hp v3, .inl ⟨_, rfl, ?_⟩⟩
      refine ⟨_, rfl, _, _, rfl, rfl, hm0, ?_⟩
      refine ⟨_, rfl, _, _, rfl, dget_s hp v3, _, rfl, _, _, rfl, rfl, ⟨hm0, by omega⟩, ?_⟩
      refine ⟨_, rfl, _, _, rfl, dput_s hp hl, ?_⟩
      refine ⟨_, rfl, ?_⟩
      exact k _ _ _ _ (Int.emod_nonneg _ (by omega)) (Int.emod_lt_of_pos _ hm0) (by omega) (PA.setRest hp hl v1 v2 v3 (Int.ediv_nonneg PA.r0 (by omega))) fun b o e hb => by rw [upd_ne hb]; exact e
    obtain ⟨rfl, rfl⟩ := h1
    have hlen : (ns.map V.int).length = ns.length := List.length_map ..
    -- place, size = pen['begun'], len(pen['cells']); pen['begun'] = place + 1
    refine seq_step (fun σ' H' => σ' = [some (.ref p), some (.int m), none, some (.int u), some (.int ((ns.map V.int).length : Nat)), none, none] ∧ H' = H1) (fun R hR => ?_) (fun σ2 H2 h2 => ?_)
    · exact ⟨_, rfl, _, _, rfl, dget_s hp v2, _, rfl, _, _, rfl, dget_s hp v1, _, _, rfl, .inl (.inl (.inl hc)), _, _, rfl, hR _ _ ⟨rfl, rfl⟩⟩
    obtain ⟨rfl, rfl⟩ := h2
    refine seq_step (fun σ' H' => σ' = [some (.ref p), some (.int m), none, some (.int u), some (.int ((ns.map V.int).length : Nat)), none, none] ∧ PenAt H' p c ns (u + 1) r ∧ SameP p H2 H') (fun R hR => ?_) (fun σ3 H3 h3 => ?_)
    · refine ⟨_, rfl, _, _, rfl, rfl, _, rfl, _, _, rfl, dput_s hp hl, ?_⟩
      exact hR _ _ ⟨rfl, PA.setUsed (u' := u + 1) hp hl v1 v2 v3 (by omega), fun b o e hb => by rw [upd_ne hb]; exact e⟩
    obtain ⟨rfl, PA1, keep⟩ := h3
    clear hp hl v1 v2 v3 hc kvs
    obtain ⟨kvs, hp, hl, v1, v2, v3⟩ := PA1.ob
    have hc := PA1.cl
    -- told = ..
    refine seq_step (fun σ' H' => ∃ z : Int, σ' = [some (.ref p), some (.int m), none, some (.int u), some (.int ((ns.map V.int).length : Nat)), some (.int z), none] ∧ H' = H3) (fun R hR => ?_) (fun σ4 H4 h4 => ?_)
    · refine ⟨_, rfl, _, _, rfl, rfl, _, rfl, ifd (fun c1 => ?_) (fun c1 => ?_)⟩
      · refine ⟨_, rfl, _, _, rfl, dget_s hp v1, _, rfl, .inl ⟨_, rfl, _, rfl, _, _, rfl, rfl, c1, ?_⟩⟩
        obtain ⟨v, hv, hm⟩ := atI_in (xs := ns.map V.int) (i := u % ((ns.map V.int).length : Int)) rfl (Int.emod_nonneg _ (by omega)) (Int.emod_lt_of_pos _ c1)
        obtain ⟨z, _, rfl⟩ := List.mem_map.mp hm
        exact ⟨_, _, _, _, rfl, rfl, .inl (.inl hc), hv, hR _ _ ⟨z, rfl, rfl⟩⟩
      · exact ⟨_, rfl, _, _, rfl, rfl, .inl ⟨by decide, by decide⟩, _, _, rfl, rfl, hR _ _ ⟨_, rfl, rfl⟩⟩
    obtain ⟨z, rfl, rfl⟩ := h4
    -- place < size and abs(told) >= 10 ** 18
    refine seq_step (fun σ' H' => σ' = [some (.ref p), some (.int m), none, some (.int u), some (.int ((ns.map V.int).length : Nat)), some (.int z), none] ∧ H' = H4) (fun R hR => ?_) (fun σ5 H5 h5 => ?_)
    · refine ⟨_, rfl, _, rfl, _, _, rfl, rfl, _, rfl, ifd (fun cl => ?_) (fun ncl => ?_)⟩
      · refine ⟨_, rfl, _, rfl, _, _, rfl, rfl, ⟨by decide, by decide, by decide⟩, _, _, rfl, rfl, _, rfl, ifd (fun big => ?_) (fun nbig => hR _ _ ⟨rfl, rfl⟩)⟩
        refine ⟨_, rfl, _, rfl, _, _, rfl, rfl, ⟨by decide, by decide, by decide⟩, _, _, rfl, rfl, _, rfl, _, _, rfl, rfl, ⟨hm0, by omega⟩, ?_⟩
        refine ⟨_, rfl, _, _, rfl, dput_s hp hl, ?_⟩
        refine ⟨_, rfl, _, rfl, _, _, rfl, rfl, ⟨by decide, by decide, by decide⟩, _, _, rfl, rfl, .inl ⟨_, rfl, ?_⟩⟩
        refine ⟨_, rfl, _, _, rfl, rfl, hm0, ?_⟩
        exact k _ _ _ _ (Int.emod_nonneg _ (by omega)) (Int.emod_lt_of_pos _ hm0) (by omega) (PA1.setRest hp hl v1 v2 v3 (Int.ediv_nonneg (by omega) (by omega))) fun b o e hb => by rw [upd_ne hb]; exact keep b o e hb
      · exact iteF (hR _ _ ⟨rfl, rfl⟩)
    obtain ⟨rfl, rfl⟩ := h5
    -- the mixings
    refine seq_step (fun σ' H' => ∃ b : Int, σ' = [some (.ref p), some (.int m), none, some (.int u), some (.int ((ns.map V.int).length : Nat)), some (.int z), some (.int (b % 2147483549))] ∧ H' = H5) (fun R hR => ?_) (fun σ6 H6 h6 => ?_)
    · refine ⟨_, rfl, .inl ⟨_, rfl, _, _, rfl, rfl, (by decide : (0 : Int) < 2147483543), _, _, rfl, rfl, .inr ⟨by decide, by decide⟩, ?_⟩⟩
      exact ⟨_, rfl, _, _, rfl, rfl, .inl ⟨by decide, by decide⟩, _, rfl, _, _, rfl, rfl, .inr ⟨by omega, by omega⟩, _, _, rfl, rfl, _, rfl, _, _, rfl, rfl, .inl ⟨by decide, by decide⟩, _, _, rfl, rfl, _, _, rfl, rfl, .inl ⟨_, rfl, _, _, rfl, rfl, (by decide : (0 : Int) < 2147483549), hR _ _ ⟨_, rfl, rfl⟩⟩⟩
    obtain ⟨b, rfl, rfl⟩ := h6
    refine seq_step (fun σ' H' => ∃ b : Int, σ' = [some (.ref p), some (.int m), none, some (.int u), some (.int ((ns.map V.int).length : Nat)), some (.int z), some (.int (b % 2147483477))] ∧ H' = H6) (fun R hR => ?_) (fun σ7 H7 h7 => ?_)
    · refine ⟨_, rfl, _, rfl, _, _, rfl, rfl, .inl (em (by decide) (by decide)), ?_⟩
      refine ⟨_, rfl, _, _, rfl, rfl, .inl ⟨by decide, by decide⟩, _, _, rfl, rfl, ?_⟩
      exact ⟨_, rfl, _, _, rfl, rfl, .inl ⟨by decide, by decide⟩, _, _, rfl, rfl, .inl ⟨_, rfl, _, _, rfl, rfl, (by decide : (0 : Int) < 2147483477), hR _ _ ⟨_, rfl, rfl⟩⟩⟩
    obtain ⟨b2, rfl, rfl⟩ := h7
    refine ⟨_, rfl, _, rfl, _, _, rfl, rfl, _, _, rfl, rfl, .inl (em (by decide) (by decide)), .inl ⟨_, rfl, ?_⟩⟩
    refine ⟨_, _, rfl, rfl, (by decide : (0 : Int) < 2147483423), _, _, rfl, rfl, ⟨by decide, by decide⟩, .inl ⟨_, rfl, ?_⟩⟩
    refine ⟨_, rfl, _, _, rfl, rfl, hm0, ?_⟩
    exact k _ _ _ _ (Int.emod_nonneg _ (by omega)) (Int.emod_lt_of_pos _ hm0) (by omega) PA1 keep
end
end Ld
namespace Ld
open PySem PySem.Spec PyProof.Rows L2
local macro_rules | `(tactic| walk_at "pe") => `(tactic| first
  | exact pe_int
  | exact pe_bl
  | exact pe_non
  | exact pe_str
  | ((with_reducible show PE _ (Expr.Name _ _) _); first | exact pv 0 | exact pv 1 | exact pv 2 | exact pv 3 | exact pv 4 | exact pv 5 | exact pv 6 | exact pv 7 | exact pv 8 | exact pv 9 | exact pv 10 | exact pv 11)
  | ((with_reducible show PE _ (Expr.BinOp _ Operator.Add _ _) _); refine' pe_op op_add ?p1 ?p2; (case p1 => walk_at "pe"); (case p2 => walk_at "pe"))
  | ((with_reducible show PE _ (Expr.BinOp _ Operator.Sub _ _) _); refine' pe_op op_sub ?p1 ?p2; (case p1 => walk_at "pe"); (case p2 => walk_at "pe"))
  | ((with_reducible show PE _ (Expr.BinOp _ Operator.Mult _ _) _); refine' pe_op op_mul ?p1 ?p2; (case p1 => walk_at "pe"); (case p2 => walk_at "pe"))
  | ((with_reducible show PE _ (Expr.BinOp _ Operator.Mod _ _) _); refine' pe_op op_mod ?p1 ?p2; (case p1 => walk_at "pe"); (case p2 => walk_at "pe"))
  | ((with_reducible show PE _ (Expr.BinOp _ Operator.FloorDiv _ _) _); refine' pe_op op_fdiv ?p1 ?p2; (case p1 => walk_at "pe"); (case p2 => walk_at "pe"))
  | ((with_reducible show PE _ (Expr.BinOp _ Operator.Pow _ _) _); refine' pe_op op_pow ?p1 ?p2; (case p1 => walk_at "pe"); (case p2 => walk_at "pe"))
  | ((with_reducible show PE _ (Expr.UnaryOp UnaryOp.USub _ _) _); refine' pe_un un_neg ?p1; (case p1 => walk_at "pe"))
  | ((with_reducible show PE _ (Expr.Subscript _ (Expr.Constant (Const.str _) _ _) _) _); refine' pe_dget (by assumption) ?p1 pe_str (fun _ _ => rfl); (case p1 => walk_at "pe"))
  | ((with_reducible show PE _ (Expr.Subscript _ _ _) _); refine' pe_ix ix_list ?p1 ?p2 (fun _ _ => rfl); (case p1 => walk_at "pe"); (case p2 => walk_at "pe"))
  | ((with_reducible show PE _ (Expr.Call (Expr.Name "int" _) _ _ _) _); refine' pe_callTy call_int1 (by rfl) (by assumption) bInt (pa_cons ?p1 pa_nil); (case p1 => walk_at "pe"))
  | ((with_reducible show PE _ (Expr.Call (Expr.Name "abs" _) _ _ _) _); refine' pe_callB call_abs (by rfl) (by assumption) bAbs (pa_cons ?p1 pa_nil); (case p1 => walk_at "pe"))
  | ((with_reducible show PE _ (Expr.Call (Expr.Name "len" _) _ _ _) _); refine' pe_callB call_len_seq (by rfl) (by assumption) PySem.boot_len (pa_cons ?p1 pa_nil); (case p1 => walk_at "pe"))
  | ((with_reducible show PE _ (Expr.List _ _) _); refine' pe_lst ?p1; (case p1 => walk_at "pa"))
  | ((with_reducible show PE _ (Expr.Tuple _ _ _) _); refine' pe_tup ?p1; (case p1 => walk_at "pa")))
local macro_rules | `(tactic| walk_at "pa") => `(tactic| first | exact pa_nil | (refine' pa_cons ?p1 ?p2; (case p1 => walk_at "pe"); (case p2 => walk_at "pa")))
local macro_rules | `(tactic| walk_at "pt") => `(tactic| first
  | ((with_reducible show PT _ (Expr.Compare _ [CmpOp.Gt] [_] _) _); refine' pt_cmpR op_gt ?p1 ?p2 (nomark _); (case p1 => walk_at "pe"); (case p2 => walk_at "pe"))
  | ((with_reducible show PT _ (Expr.Compare _ [CmpOp.GtE] [_] _) _); refine' pt_cmpR op_ge ?p1 ?p2 (nomark _); (case p1 => walk_at "pe"); (case p2 => walk_at "pe"))
  | ((with_reducible show PT _ (Expr.Compare _ [CmpOp.Lt] [_] _) _); refine' pt_cmpR op_lt ?p1 ?p2 (nomark _); (case p1 => walk_at "pe"); (case p2 => walk_at "pe"))
  | ((with_reducible show PT _ (Expr.Compare _ [CmpOp.LtE] [_] _) _); refine' pt_cmpR op_le ?p1 ?p2 (nomark _); (case p1 => walk_at "pe"); (case p2 => walk_at "pe"))
  | ((with_reducible show PT _ (Expr.Compare _ [CmpOp.NotEq] [Expr.List [] _] _) _); refine' pt_cmpR (op_neD (by assumption)) ?p1 (pe_lst pa_nil) (nomark _); (case p1 => walk_at "pe"))
  | ((with_reducible show PT _ (Expr.BoolOp BoolOp.And [_, _] _) _); refine' PW.pt (pw_and ?p1 (pw_and1 ?p2)); (case p1 => walk_at "pt"); (case p2 => walk_at "pt")))
local macro_rules | `(tactic| walk_at "st") => `(tactic| first
  | ((with_reducible show PS _ (Stmt.Return (some _) _) _); refine' ps_ret ?p1; (case p1 => walk_at "pe"))
  | ((with_reducible show PS _ (Stmt.Assign [Expr.Subscript _ _ _] _ _) _); refine' ps_dput (by assumption) ?p1 ?p2 ?p3 rfl; (case p1 => walk_at "pe"); (case p2 => walk_at "pe"); (case p3 => walk_at "pe"))
  | ((with_reducible show PS _ (Stmt.Assign [Expr.Name _ _] _ _) _); (first | refine' ps_set (i := 1) (by assumption) rfl (Or.inl rfl) ?p1 | refine' ps_set (i := 2) (by assumption) rfl (Or.inl rfl) ?p1 | refine' ps_set (i := 3) (by assumption) rfl (Or.inl rfl) ?p1 | refine' ps_set (i := 4) (by assumption) rfl (Or.inl rfl) ?p1 | refine' ps_set (i := 5) (by assumption) rfl (Or.inl rfl) ?p1 | refine' ps_set (i := 6) (by assumption) rfl (Or.inl rfl) ?p1 | refine' ps_set (i := 7) (by assumption) rfl (Or.inl rfl) ?p1 | refine' ps_set (i := 8) (by assumption) rfl (Or.inl rfl) ?p1 | refine' ps_set (i := 9) (by assumption) rfl (Or.inl rfl) ?p1 | refine' ps_set (i := 10) (by assumption) rfl (Or.inl rfl) ?p1 | refine' ps_set (i := 11) (by assumption) rfl (Or.inl rfl) ?p1); (case p1 => walk_at "pe"))
  | ((with_reducible show PS _ (Stmt.If _ _ _ _) _); refine' ps_if ?p1 ?p2 ?p3; (case p1 => walk_at "pt"); (case p2 => walk_at "ps"); (case p3 => walk_at "ps")))
local macro_rules | `(tactic| walk_at "ps") => `(tactic| first
  | exact pss_nil | (refine' pss_one ?p1; (case p1 => walk_at "st")) | (refine' pss_cons ?p1 ?p2; (case p1 => walk_at "st"); (case p2 => walk_at "ps")))

def spPen (K : PySem.W.Frag) : Sp := fun vs H Q _ => ∃ (a : Addr) (ns : List Int), vs = [.ref a] ∧ SqL K H a (ns.map V.int) ∧ ns.length ≤ 63 ∧ ∀ (p c : Addr) (H' : Hp), Same H H' → PenAt H' p c ns 0 0 → Q (.ref p) H'
/-- an item of a list, or a sign of a text, drawn -/
def spPick (K : PySem.W.Frag) : Sp := fun vs H Q _ => ∃ (p c : Addr) (x : V) (ns : List Int) (u r : Int), vs = [.ref p, x] ∧ PenAt H p c ns u r ∧ u ≤ 1000000 ∧
  ((∃ (l : Addr) (xs : List V), x = .ref l ∧ H l = some (.lst xs) ∧ 0 < xs.length ∧ xs.length ≤ 100000 ∧ ∀ (v : V) (u' r' : Int) (H' : Hp), v ∈ xs → u' ≤ u + 1 → PenAt H' p c ns u' r' → SameP p H H' → Q v H') ∨
   (∃ (z : Str), x = .str z ∧ 0 < z.length ∧ z.length ≤ 1000 ∧ ∀ (d : Nat) (u' r' : Int) (H' : Hp), d ∈ z.cps.toList → u' ≤ u + 1 → PenAt H' p c ns u' r' → SameP p H H' → Q (.str ⟨#[d]⟩) H'))
theorem merge3 (x y z : V) : mergeK [] [((Sum.inr ("cells" : Str) : Key), x), (Sum.inr ("begun" : Str), y), (Sum.inr ("left" : Str), z)] = [((Sum.inr ("cells" : Str) : Key), x), (Sum.inr ("begun" : Str), y), (Sum.inr ("left" : Str), z)] := by
  kernel_rfl
theorem val3a (x y z : V) : valV [((Sum.inr ("cells" : Str) : Key), x), (Sum.inr ("begun" : Str), y), (Sum.inr ("left" : Str), z)] (Sum.inr ("cells" : Str)) = some x := by kernel_rfl
theorem val3b (x y z : V) : valV [((Sum.inr ("cells" : Str) : Key), x), (Sum.inr ("begun" : Str), y), (Sum.inr ("left" : Str), z)] (Sum.inr ("begun" : Str)) = some y := by kernel_rfl
theorem val3c (x y z : V) : valV [((Sum.inr ("cells" : Str) : Key), x), (Sum.inr ("begun" : Str), y), (Sum.inr ("left" : Str), z)] (Sum.inr ("left" : Str)) = some z := by kernel_rfl
theorem cut_all {xs : List V} (h : xs.length ≤ 63) : cutV xs none (some 63) = xs := by
  unfold cutV
  have e1 : HT.sIx xs.length xs.length (some 63) = xs.length := by
    have z := HT.sIx_nat xs.length xs.length 63
    have z' : HT.sIx xs.length xs.length (some (63 : Int)) = min 63 xs.length := z
    rw [z']
    exact Nat.min_eq_right h
  rw [e1, HT.sIx_none, Nat.sub_zero, List.drop_zero, List.take_length]

section
variable {P : Program} {w : World} {K : PySem.W.Frag} {mg : Str → Option Value} {base : Heap}
/-- a def of the module that its callers may call -/
def Has (P : Program) (w : World) (K : PySem.W.Frag) (mg : Str → Option Value) (base : Heap) (k : Nat) (x : Str) (ps : List Str) (sp : Sp) : Prop := ∃ f fd, FnOk P w K mg base CX0 k f fd ps sp ∧ Binds K fd ps [] ∧ mg x = some (.ref f) ∧ PySem.W.keepIn K (.ref f) = true
theorem scPen : FnScope ["_law_script"] ["_law_script"] (defScope sPen) := ⟨rfl, rfl, rfl, by decide +kernel, rfl, by decide +kernel, by decide +kernel⟩
theorem ok_pen {f : Addr} {fd : FuncData} (F : Fun K "_law_pen" "_law_pen" sPen f fd) (B : Blt mg) : FnOk P w K mg base CX0 1 f fd ["_law_script"] (spPen K) := by
  refine F.ok scPen (fun vs H Q E h => ?_) (fun cdv A outer s H vs Q E hr h => ?_)
  · obtain ⟨a, ns, rfl, _⟩ := h
    rfl
  · obtain ⟨a, ns, rfl, hS, hl, k⟩ := h
    refine ⟨_, pss_one (ps_ret (pe_disp (pps_cons pe_str (pe_callTy call_list_of (by rfl) B.list bList (pa_cons (pe_slice sl_list (pv 0) po_none (po_some pe_int)) pa_nil)) (pps_cons pe_str pe_int (pps_cons pe_str pe_int pps_nil))) rfl rfl (by simp) (by decide))), ?_⟩
    intro p hp
    have s1 := same_new (o := .dK []) hp
    refine ⟨_, rfl, _, rfl, _, _, rfl, s1.seq hS, fun t ht => ?_⟩
    have s2 : Same H (upd (upd H p (.dK [])) t (.lst (cutV (ns.map V.int) none (some 63)))) := s1.trans (same_new ht)
    refine ⟨_, _, rfl, .inl (.inl (.inl upd_same)), fun l hl' => ?_⟩
    have npt : p ≠ t := ne_of_none (upd_same (H := H) (a := p) (o := .dK [])) ht
    have npl : p ≠ l := ne_of_none (show (upd (upd H p (.dK [])) t (.lst (cutV (ns.map V.int) none (some 63)))) p = some (.dK []) by rw [upd_ne npt, upd_same]) hl'
    refine ⟨by rw [upd_ne npl, upd_ne npt, upd_same], [(Sum.inr "cells", .ref l), (Sum.inr "begun", .int 0), (Sum.inr "left", .int 0)], rfl, by show 3 ≤ 15; decide, ?_⟩
    rw [merge3]
    refine k p l _ (fun b o e => ?_) ⟨⟨_, upd_same, by show 3 ≤ 10; decide, val3a _ _ _, val3b _ _ _, val3c _ _ _⟩, ?_, hl, Int.le_refl 0, Int.le_refl 0⟩
    · rw [upd_ne (ne_of_none e hp)]
      exact (s2.trans (same_new hl')) b o e
    · rw [upd_ne npl.symm, upd_same, cut_all (by rw [List.length_map]; exact hl)]
theorem scPick : FnScope ["_law_pen_here", "_law_items"] ["_law_pen_here", "_law_items"] (defScope sPick) := ⟨rfl, rfl, rfl, by decide +kernel, rfl, by decide +kernel, by decide +kernel⟩
theorem ok_pick {f : Addr} {fd : FuncData} (F : Fun K "_law_pick" "_law_pick" sPick f fd) (B : Blt mg) (HD : Has P w K mg base 1 "_law_draw" ["_law_pen_here", "_law_many"] spDraw) : FnOk P w K mg base CX0 2 f fd ["_law_pen_here", "_law_items"] (spPick K) := by
  obtain ⟨g, gd, G, bG, mG, kG⟩ := HD
  refine F.ok scPick (fun vs H Q E h => ?_) (fun cdv A outer s H vs Q E hr h => ?_)
  · obtain ⟨p, c, x, ns, u, r, rfl, _⟩ := h
    rfl
  · obtain ⟨p, c, x, ns, u, r, rfl, PA, hu6, hx⟩ := h
    refine ⟨_, pss_one (ps_ret (pe_ix ix_seq (pv 1) (pe_call G hr (by rfl) mG kG bG .nil pass0 (pa_cons (pv 0) (pa_cons (pe_callB (CallR.or call_len_seq call_len_str) (by rfl) B.len PySem.boot_len (pa_cons (pv 1) pa_nil)) pa_nil))) (fun _ _ => rfl))), ?_⟩
    rcases hx with ⟨l, xs, rfl, hL, h0, h1, k⟩ | ⟨z, rfl, h0, h1, k⟩
    · have nlp : l ≠ p := by
        obtain ⟨kvs, hp, _⟩ := PA.ob
        exact ne_of hL hp (fun z => nomatch z)
      refine ⟨_, rfl, _, rfl, _, rfl, .inl ⟨_, _, rfl, .inl (.inl (.inl hL)), p, c, ns, u, r, _, rfl, PA, hu6, by omega, by omega, fun d u' r' H' d0 d1 hu' PA' keep => ?_⟩⟩
      obtain ⟨v, hv, hm⟩ := atI_in (xs := xs) (i := d) rfl d0 d1
      exact .inl ⟨_, _, _, _, rfl, rfl, .inl (.inl (keep _ _ hL nlp)), hv, k v u' r' H' hm hu' PA' keep⟩
    · have hz : z.length ≤ sizeLine := Nat.le_trans h1 (by decide)
      refine ⟨_, rfl, _, rfl, _, rfl, .inr ⟨_, rfl, hz, p, c, ns, u, r, _, rfl, PA, hu6, by omega, by omega, fun d u' r' H' d0 d1 hu' PA' keep => ?_⟩⟩
      have hl : d.toNat < z.cps.toList.length := by
        rw [Array.length_toList]
        have : (z.length : Int) = (z.cps.size : Int) := rfl
        omega
      have e : d = ((d.toNat : Nat) : Int) := by omega
      have hv : atI z.cps.toList d = some z.cps.toList[d.toNat] := by
        have q : atI z.cps.toList ((d.toNat : Nat) : Int) = some z.cps.toList[d.toNat] := atI_nat (List.getElem?_eq_getElem hl)
        rwa [← e] at q
      exact .inr (.inr ⟨_, _, _, rfl, rfl, hz, hv, k _ u' r' H' (List.getElem_mem hl) hu' PA' keep⟩)
end
end Ld
namespace Ld
open PySem PySem.Spec PyProof.Rows L2
local macro_rules | `(tactic| walk_at "pe") => `(tactic| first
  | exact pe_int
  | exact pe_bl
  | exact pe_non
  | exact pe_str
  | ((with_reducible show PE _ (Expr.Name _ _) _); first | exact pv 0 | exact pv 1 | exact pv 2 | exact pv 3 | exact pv 4 | exact pv 5 | exact pv 6 | exact pv 7 | exact pv 8 | exact pv 9 | exact pv 10 | exact pv 11)
  | ((with_reducible show PE _ (Expr.BinOp _ Operator.Add _ _) _); refine' pe_op op_add ?p1 ?p2; (case p1 => walk_at "pe"); (case p2 => walk_at "pe"))
  | ((with_reducible show PE _ (Expr.BinOp _ Operator.Sub _ _) _); refine' pe_op op_sub ?p1 ?p2; (case p1 => walk_at "pe"); (case p2 => walk_at "pe"))
  | ((with_reducible show PE _ (Expr.BinOp _ Operator.Mult _ _) _); refine' pe_op op_mul ?p1 ?p2; (case p1 => walk_at "pe"); (case p2 => walk_at "pe"))
  | ((with_reducible show PE _ (Expr.BinOp _ Operator.Mod _ _) _); refine' pe_op op_mod ?p1 ?p2; (case p1 => walk_at "pe"); (case p2 => walk_at "pe"))
  | ((with_reducible show PE _ (Expr.BinOp _ Operator.FloorDiv _ _) _); refine' pe_op op_fdiv ?p1 ?p2; (case p1 => walk_at "pe"); (case p2 => walk_at "pe"))
  | ((with_reducible show PE _ (Expr.BinOp _ Operator.Pow _ _) _); refine' pe_op op_pow ?p1 ?p2; (case p1 => walk_at "pe"); (case p2 => walk_at "pe"))
  | ((with_reducible show PE _ (Expr.UnaryOp UnaryOp.USub _ _) _); refine' pe_un un_neg ?p1; (case p1 => walk_at "pe"))
  | ((with_reducible show PE _ (Expr.Subscript _ (Expr.Constant (Const.str _) _ _) _) _); refine' pe_dget (by assumption) ?p1 pe_str (fun _ _ => rfl); (case p1 => walk_at "pe"))
  | ((with_reducible show PE _ (Expr.Subscript _ _ _) _); refine' pe_ix ix_list ?p1 ?p2 (fun _ _ => rfl); (case p1 => walk_at "pe"); (case p2 => walk_at "pe"))
  | ((with_reducible show PE _ (Expr.Call (Expr.Name "int" _) _ _ _) _); refine' pe_callTy call_int1 (by rfl) (by assumption) bInt (pa_cons ?p1 pa_nil); (case p1 => walk_at "pe"))
  | ((with_reducible show PE _ (Expr.Call (Expr.Name "abs" _) _ _ _) _); refine' pe_callB call_abs (by rfl) (by assumption) bAbs (pa_cons ?p1 pa_nil); (case p1 => walk_at "pe"))
  | ((with_reducible show PE _ (Expr.Call (Expr.Name "len" _) _ _ _) _); refine' pe_callB call_len_seq (by rfl) (by assumption) PySem.boot_len (pa_cons ?p1 pa_nil); (case p1 => walk_at "pe"))
  | ((with_reducible show PE _ (Expr.List _ _) _); refine' pe_lst ?p1; (case p1 => walk_at "pa"))
  | ((with_reducible show PE _ (Expr.Tuple _ _ _) _); refine' pe_tup ?p1; (case p1 => walk_at "pa")))
local macro_rules | `(tactic| walk_at "pa") => `(tactic| first | exact pa_nil | (refine' pa_cons ?p1 ?p2; (case p1 => walk_at "pe"); (case p2 => walk_at "pa")))
local macro_rules | `(tactic| walk_at "pt") => `(tactic| first
  | ((with_reducible show PT _ (Expr.Compare _ [CmpOp.Gt] [_] _) _); refine' pt_cmpR op_gt ?p1 ?p2 (nomark _); (case p1 => walk_at "pe"); (case p2 => walk_at "pe"))
  | ((with_reducible show PT _ (Expr.Compare _ [CmpOp.GtE] [_] _) _); refine' pt_cmpR op_ge ?p1 ?p2 (nomark _); (case p1 => walk_at "pe"); (case p2 => walk_at "pe"))
  | ((with_reducible show PT _ (Expr.Compare _ [CmpOp.Lt] [_] _) _); refine' pt_cmpR op_lt ?p1 ?p2 (nomark _); (case p1 => walk_at "pe"); (case p2 => walk_at "pe"))
  | ((with_reducible show PT _ (Expr.Compare _ [CmpOp.LtE] [_] _) _); refine' pt_cmpR op_le ?p1 ?p2 (nomark _); (case p1 => walk_at "pe"); (case p2 => walk_at "pe"))
  | ((with_reducible show PT _ (Expr.Compare _ [CmpOp.NotEq] [Expr.List [] _] _) _); refine' pt_cmpR (op_neD (by assumption)) ?p1 (pe_lst pa_nil) (nomark _); (case p1 => walk_at "pe"))
  | ((with_reducible show PT _ (Expr.BoolOp BoolOp.And [_, _] _) _); refine' PW.pt (pw_and ?p1 (pw_and1 ?p2)); (case p1 => walk_at "pt"); (case p2 => walk_at "pt")))
local macro_rules | `(tactic| walk_at "st") => `(tactic| first
  | ((with_reducible show PS _ (Stmt.Return (some _) _) _); refine' ps_ret ?p1; (case p1 => walk_at "pe"))
  | ((with_reducible show PS _ (Stmt.Assign [Expr.Subscript _ _ _] _ _) _); refine' ps_dput (by assumption) ?p1 ?p2 ?p3 rfl; (case p1 => walk_at "pe"); (case p2 => walk_at "pe"); (case p3 => walk_at "pe"))
  | ((with_reducible show PS _ (Stmt.Assign [Expr.Name _ _] _ _) _); (first | refine' ps_set (i := 1) (by assumption) rfl (Or.inl rfl) ?p1 | refine' ps_set (i := 2) (by assumption) rfl (Or.inl rfl) ?p1 | refine' ps_set (i := 3) (by assumption) rfl (Or.inl rfl) ?p1 | refine' ps_set (i := 4) (by assumption) rfl (Or.inl rfl) ?p1 | refine' ps_set (i := 5) (by assumption) rfl (Or.inl rfl) ?p1 | refine' ps_set (i := 6) (by assumption) rfl (Or.inl rfl) ?p1 | refine' ps_set (i := 7) (by assumption) rfl (Or.inl rfl) ?p1 | refine' ps_set (i := 8) (by assumption) rfl (Or.inl rfl) ?p1 | refine' ps_set (i := 9) (by assumption) rfl (Or.inl rfl) ?p1 | refine' ps_set (i := 10) (by assumption) rfl (Or.inl rfl) ?p1 | refine' ps_set (i := 11) (by assumption) rfl (Or.inl rfl) ?p1); (case p1 => walk_at "pe"))
  | ((with_reducible show PS _ (Stmt.If _ _ _ _) _); refine' ps_if ?p1 ?p2 ?p3; (case p1 => walk_at "pt"); (case p2 => walk_at "ps"); (case p3 => walk_at "ps")))
local macro_rules | `(tactic| walk_at "ps") => `(tactic| first
  | exact pss_nil | (refine' pss_one ?p1; (case p1 => walk_at "st")) | (refine' pss_cons ?p1 ?p2; (case p1 => walk_at "st"); (case p2 => walk_at "ps")))

theorem bStr0 : bootBuiltins "str" = some (.type "str") := by decide +kernel
/-- a text of lo to hi letters from a to z -/
structure Wd (lo hi : Nat) (z : Str) : Prop where
  l0 : lo ≤ z.length
  l1 : z.length ≤ hi
  az : ∀ c ∈ z.cps.toList, 97 ≤ c ∧ c ≤ 122
theorem wd_app {a b c d : Nat} {x y : Str} (h1 : Wd a b x) (h2 : Wd c d y) : Wd (a + c) (b + d) (x ++ y) := by
  have e : (x ++ y).length = x.length + y.length := by
    show (x ++ y).cps.size = _
    rw [Str.cps_append, Array.size_append]
    rfl
  refine ⟨by rw [e]; exact Nat.add_le_add h1.l0 h2.l0, by rw [e]; exact Nat.add_le_add h1.l1 h2.l1, fun q hq => ?_⟩
  rw [Str.cps_append, Array.toList_append] at hq
  rcases List.mem_append.mp hq with h | h
  · exact h1.az q h
  · exact h2.az q h
theorem wd_cut {a b : Nat} {x : Str} (h : Wd a b x) (lo hi : Option Int) : Wd 0 b (cutS x lo hi) := by
  refine ⟨Nat.zero_le _, Nat.le_trans (cutS_length x lo hi) h.l1, fun q hq => ?_⟩
  exact h.az q (List.mem_of_mem_drop (List.mem_of_mem_take hq))
theorem wd_sign {c : Nat} (h : 97 ≤ c ∧ c ≤ 122) : Wd 1 1 ⟨#[c]⟩ := ⟨Nat.le_refl _, Nat.le_refl _, fun q hq => by
  have e : q = c := by simpa using hq
  rw [e]
  exact h⟩
end Ld
namespace Ld
open PySem PySem.Spec PyProof.Rows L2
open TL (tl joinL tl_join join_eq)
local macro_rules | `(tactic| walk_at "pe") => `(tactic| first
  | exact pe_int
  | exact pe_bl
  | exact pe_non
  | exact pe_str
  | ((with_reducible show PE _ (Expr.Name _ _) _); first | exact pv 0 | exact pv 1 | exact pv 2 | exact pv 3 | exact pv 4 | exact pv 5 | exact pv 6 | exact pv 7 | exact pv 8 | exact pv 9 | exact pv 10 | exact pv 11)
  | ((with_reducible show PE _ (Expr.BinOp _ Operator.Add _ _) _); refine' pe_op op_add ?p1 ?p2; (case p1 => walk_at "pe"); (case p2 => walk_at "pe"))
  | ((with_reducible show PE _ (Expr.BinOp _ Operator.Sub _ _) _); refine' pe_op op_sub ?p1 ?p2; (case p1 => walk_at "pe"); (case p2 => walk_at "pe"))
  | ((with_reducible show PE _ (Expr.BinOp _ Operator.Mult _ _) _); refine' pe_op op_mul ?p1 ?p2; (case p1 => walk_at "pe"); (case p2 => walk_at "pe"))
  | ((with_reducible show PE _ (Expr.BinOp _ Operator.Mod _ _) _); refine' pe_op op_mod ?p1 ?p2; (case p1 => walk_at "pe"); (case p2 => walk_at "pe"))
  | ((with_reducible show PE _ (Expr.BinOp _ Operator.FloorDiv _ _) _); refine' pe_op op_fdiv ?p1 ?p2; (case p1 => walk_at "pe"); (case p2 => walk_at "pe"))
  | ((with_reducible show PE _ (Expr.BinOp _ Operator.Pow _ _) _); refine' pe_op op_pow ?p1 ?p2; (case p1 => walk_at "pe"); (case p2 => walk_at "pe"))
  | ((with_reducible show PE _ (Expr.UnaryOp UnaryOp.USub _ _) _); refine' pe_un un_neg ?p1; (case p1 => walk_at "pe"))
  | ((with_reducible show PE _ (Expr.Subscript _ (Expr.Constant (Const.str _) _ _) _) _); refine' pe_dget (by assumption) ?p1 pe_str (fun _ _ => rfl); (case p1 => walk_at "pe"))
  | ((with_reducible show PE _ (Expr.Subscript _ _ _) _); refine' pe_ix ix_list ?p1 ?p2 (fun _ _ => rfl); (case p1 => walk_at "pe"); (case p2 => walk_at "pe"))
  | ((with_reducible show PE _ (Expr.Call (Expr.Name "int" _) _ _ _) _); refine' pe_callTy call_int1 (by rfl) (by assumption) bInt (pa_cons ?p1 pa_nil); (case p1 => walk_at "pe"))
  | ((with_reducible show PE _ (Expr.Call (Expr.Name "abs" _) _ _ _) _); refine' pe_callB call_abs (by rfl) (by assumption) bAbs (pa_cons ?p1 pa_nil); (case p1 => walk_at "pe"))
  | ((with_reducible show PE _ (Expr.Call (Expr.Name "len" _) _ _ _) _); refine' pe_callB call_len_seq (by rfl) (by assumption) PySem.boot_len (pa_cons ?p1 pa_nil); (case p1 => walk_at "pe"))
  | ((with_reducible show PE _ (Expr.List _ _) _); refine' pe_lst ?p1; (case p1 => walk_at "pa"))
  | ((with_reducible show PE _ (Expr.Tuple _ _ _) _); refine' pe_tup ?p1; (case p1 => walk_at "pa")))
local macro_rules | `(tactic| walk_at "pa") => `(tactic| first | exact pa_nil | (refine' pa_cons ?p1 ?p2; (case p1 => walk_at "pe"); (case p2 => walk_at "pa")))
local macro_rules | `(tactic| walk_at "pt") => `(tactic| first
  | ((with_reducible show PT _ (Expr.Compare _ [CmpOp.Gt] [_] _) _); refine' pt_cmpR op_gt ?p1 ?p2 (nomark _); (case p1 => walk_at "pe"); (case p2 => walk_at "pe"))
  | ((with_reducible show PT _ (Expr.Compare _ [CmpOp.GtE] [_] _) _); refine' pt_cmpR op_ge ?p1 ?p2 (nomark _); (case p1 => walk_at "pe"); (case p2 => walk_at "pe"))
  | ((with_reducible show PT _ (Expr.Compare _ [CmpOp.Lt] [_] _) _); refine' pt_cmpR op_lt ?p1 ?p2 (nomark _); (case p1 => walk_at "pe"); (case p2 => walk_at "pe"))
  | ((with_reducible show PT _ (Expr.Compare _ [CmpOp.LtE] [_] _) _); refine' pt_cmpR op_le ?p1 ?p2 (nomark _); (case p1 => walk_at "pe"); (case p2 => walk_at "pe"))
  | ((with_reducible show PT _ (Expr.Compare _ [CmpOp.NotEq] [Expr.List [] _] _) _); refine' pt_cmpR (op_neD (by assumption)) ?p1 (pe_lst pa_nil) (nomark _); (case p1 => walk_at "pe"))
  | ((with_reducible show PT _ (Expr.BoolOp BoolOp.And [_, _] _) _); refine' PW.pt (pw_and ?p1 (pw_and1 ?p2)); (case p1 => walk_at "pt"); (case p2 => walk_at "pt")))
local macro_rules | `(tactic| walk_at "st") => `(tactic| first
  | ((with_reducible show PS _ (Stmt.Return (some _) _) _); refine' ps_ret ?p1; (case p1 => walk_at "pe"))
  | ((with_reducible show PS _ (Stmt.Assign [Expr.Subscript _ _ _] _ _) _); refine' ps_dput (by assumption) ?p1 ?p2 ?p3 rfl; (case p1 => walk_at "pe"); (case p2 => walk_at "pe"); (case p3 => walk_at "pe"))
  | ((with_reducible show PS _ (Stmt.Assign [Expr.Name _ _] _ _) _); (first | refine' ps_set (i := 1) (by assumption) rfl (Or.inl rfl) ?p1 | refine' ps_set (i := 2) (by assumption) rfl (Or.inl rfl) ?p1 | refine' ps_set (i := 3) (by assumption) rfl (Or.inl rfl) ?p1 | refine' ps_set (i := 4) (by assumption) rfl (Or.inl rfl) ?p1 | refine' ps_set (i := 5) (by assumption) rfl (Or.inl rfl) ?p1 | refine' ps_set (i := 6) (by assumption) rfl (Or.inl rfl) ?p1 | refine' ps_set (i := 7) (by assumption) rfl (Or.inl rfl) ?p1 | refine' ps_set (i := 8) (by assumption) rfl (Or.inl rfl) ?p1 | refine' ps_set (i := 9) (by assumption) rfl (Or.inl rfl) ?p1 | refine' ps_set (i := 10) (by assumption) rfl (Or.inl rfl) ?p1 | refine' ps_set (i := 11) (by assumption) rfl (Or.inl rfl) ?p1); (case p1 => walk_at "pe"))
  | ((with_reducible show PS _ (Stmt.If _ _ _ _) _); refine' ps_if ?p1 ?p2 ?p3; (case p1 => walk_at "pt"); (case p2 => walk_at "ps"); (case p3 => walk_at "ps")))
local macro_rules | `(tactic| walk_at "ps") => `(tactic| first
  | exact pss_nil | (refine' pss_one ?p1; (case p1 => walk_at "st")) | (refine' pss_cons ?p1 ?p2; (case p1 => walk_at "st"); (case p2 => walk_at "ps")))

theorem joinL_all {q : Nat → Prop} : ∀ {parts : List (List Nat)}, (∀ p ∈ parts, ∀ c ∈ p, q c) → ∀ c ∈ joinL [] parts, q c
  | [], _, c, h => by simp [joinL] at h
  | [p], k, c, h => k p List.mem_cons_self c h
  | p :: r :: rs, k, c, h => by
    rcases List.mem_append.mp h with h | h
    · exact k p List.mem_cons_self c h
    · exact joinL_all (parts := r :: rs) (fun x hx => k x (List.mem_cons_of_mem _ hx)) c h
theorem joinL_ones : ∀ {parts : List (List Nat)}, (∀ p ∈ parts, p.length = 1) → (joinL [] parts).length = parts.length
  | [], _ => rfl
  | [p], k => k p List.mem_cons_self
  | p :: r :: rs, k => by
    show (p ++ ([] ++ joinL [] (r :: rs))).length = _
    rw [List.nil_append, List.length_append, joinL_ones (parts := r :: rs) (fun x hx => k x (List.mem_cons_of_mem _ hx)), k p List.mem_cons_self, List.length_cons (a := p)]
    omega
theorem wd_join {ys : List Str} (h : ∀ y ∈ ys, Wd 1 1 y) : Wd ys.length ys.length (Txt.join "" ys) := by
  rw [join_eq]
  have e : tl (Str.join "" ys) = joinL [] (ys.map tl) := by
    rw [tl_join]
    rfl
  have hl : (Str.join "" ys).length = ys.length := by
    have z : (tl (Str.join "" ys)).length = ys.length := by
      rw [e, joinL_ones (fun p hp => ?_), List.length_map]
      obtain ⟨y, hy, rfl⟩ := List.mem_map.mp hp
      have w := h y hy
      have e1 : (tl y).length = y.length := by
        show y.cps.toList.length = y.cps.size
        exact Array.length_toList
      rw [e1]
      exact Nat.le_antisymm w.l1 w.l0
    have e2 : (tl (Str.join "" ys)).length = (Str.join "" ys).length := by
      show (Str.join "" ys).cps.toList.length = (Str.join "" ys).cps.size
      exact Array.length_toList
    rw [← e2, z]
  refine ⟨Nat.le_of_eq hl.symm, Nat.le_of_eq hl, fun c hc => ?_⟩
  have hc' : c ∈ tl (Str.join "" ys) := hc
  rw [e] at hc'
  refine joinL_all (q := fun c => 97 ≤ c ∧ c ≤ 122) (fun p hp c hc => ?_) c hc'
  obtain ⟨y, hy, rfl⟩ := List.mem_map.mp hp
  exact (h y hy).az c hc
theorem sum_ones {ys : List Str} (h : ∀ y ∈ ys, Wd 1 1 y) : (ys.map (·.length)).sum = ys.length := by
  induction ys with
  | nil => rfl
  | cons y r ih =>
    have w := h y List.mem_cons_self
    rw [List.map_cons, List.sum_cons, ih (fun x hx => h x (List.mem_cons_of_mem _ hx)), List.length_cons]
    have := w.l0
    have := w.l1
    omega
theorem cut_head {z : Str} {a : Nat} (h : a ≤ z.length) : (cutS z none (some (a : Int))).length ≤ a := by
  show (((z.cps.toList.drop (HT.sIx z.length 0 none)).take (HT.sIx z.length z.length (some (a : Int)) - HT.sIx z.length 0 none)).toArray).size ≤ a
  rw [HT.sIx_nat, HT.sIx_none, List.size_toArray, List.length_take]
  omega
theorem cut_tail {z : Str} {a : Nat} (h : a ≤ z.length) : (cutS z (some (a : Int)) none).length ≤ z.length - a := by
  show (((z.cps.toList.drop (HT.sIx z.length 0 (some (a : Int)))).take (HT.sIx z.length z.length none - HT.sIx z.length 0 (some (a : Int)))).toArray).size ≤ z.length - a
  rw [HT.sIx_nat, HT.sIx_none, List.size_toArray, List.length_take, List.length_drop]
  omega
def spWords : Sp := fun vs H Q _ => ∃ (p c : Addr) (ns : List Int) (u r : Int) (m : Nat), vs = [.ref p, .int (m : Int)] ∧ PenAt H p c ns u r ∧ u + 12 ≤ 1000000 ∧ m ≤ 26 ∧
  ∀ (l : Addr) (ws : List Str) (u' r' : Int) (H' : Hp), H l = none → H' l = some (.lst (ws.map V.str)) → ws.length = m → ws.Nodup → (∀ z ∈ ws, Wd 1 8 z) → u' ≤ u + 12 → PenAt H' p c ns u' r' → SameP p H H' → Q (.ref l) H'
theorem abc_az : ∀ c ∈ (("abcdefghijklmnopqrstuvwxyz" : Str)).cps.toList, 97 ≤ c ∧ c ≤ 122 := by decide +kernel
theorem abc_len : (("abcdefghijklmnopqrstuvwxyz" : Str)).length = 26 := by decide +kernel
theorem PenAt.upd {H : Hp} {p c : Addr} {ns : List Int} {u r : Int} (P : PenAt H p c ns u r) {l : Addr} {o : HO} (h1 : l ≠ p) (h2 : l ≠ c) : PenAt (L2.upd H l o) p c ns u r := by
  obtain ⟨kvs, hp, k2⟩ := P.ob
  exact ⟨⟨kvs, by rw [upd_ne h1.symm]; exact hp, k2⟩, by rw [upd_ne h2.symm]; exact P.cl, P.few, P.u0, P.r0⟩
theorem len_app (x y : Str) : (x ++ y).length = x.length + y.length := by
  show (x ++ y).cps.size = _
  rw [Str.cps_append, Array.size_append]
  rfl
theorem abc_at {i : Int} (h0 : 0 ≤ i) (h1 : i < 26) : ∃ c, c ∈ (("abcdefghijklmnopqrstuvwxyz" : Str)).cps.toList ∧ atI (("abcdefghijklmnopqrstuvwxyz" : Str)).cps.toList i = some c := by
  have hl : (("abcdefghijklmnopqrstuvwxyz" : Str)).cps.toList.length = 26 := by decide +kernel
  obtain ⟨n, rfl⟩ : ∃ n : Nat, i = (n : Int) := ⟨i.toNat, by omega⟩
  have hn : n < (("abcdefghijklmnopqrstuvwxyz" : Str)).cps.toList.length := by omega
  refine ⟨_, List.getElem_mem hn, ?_⟩
  exact atI_nat (List.getElem?_eq_getElem hn)
theorem abc_nth : ∀ n : Fin 26, (("abcdefghijklmnopqrstuvwxyz" : Str)).cps.toList[n.1]? = some (97 + n.1) := by decide +kernel
theorem abc_get {i : Int} (h0 : 0 ≤ i) (h1 : i < 26) : atI (("abcdefghijklmnopqrstuvwxyz" : Str)).cps.toList i = some (97 + i.toNat) := by
  obtain ⟨n, rfl⟩ : ∃ n : Nat, i = (n : Int) := ⟨i.toNat, by omega⟩
  exact atI_nat (abc_nth ⟨n, by omega⟩)
/-- what stands behind the letter that is put in -/
def tailAt (z : Str) (a : Nat) (cut : Int) (k : Nat) : Str := if cut = 1 then cutS (cutS z (some (a : Int)) none) none (some ((k : Int) % 3)) else cutS z (some (a : Int)) none
/-- the k-th word of a stem: a letter put in at a place -/
def wordAt (z : Str) (a : Nat) (f st cut : Int) (k : Nat) : Str := cutS z none (some (a : Int)) ++ ⟨#[97 + ((f + st * (k : Int)) % 26).toNat]⟩ ++ tailAt z a cut k
theorem tail_wd {z : Str} {a : Nat} {cut : Int} {k : Nat} (wz : Wd 0 7 z) : Wd 0 7 (tailAt z a cut k) := by
  unfold tailAt
  split
  · exact wd_cut (wd_cut wz _ _) _ _
  · exact wd_cut wz _ _
theorem tail_len {z : Str} {a : Nat} {cut : Int} {k : Nat} (h : a ≤ z.length) : (tailAt z a cut k).length ≤ z.length - a := by
  unfold tailAt
  split
  · exact Nat.le_trans (cutS_length _ _ _) (cut_tail h)
  · exact cut_tail h
theorem wd_word {z : Str} {a : Nat} {f st cut : Int} {k : Nat} (wz : Wd 0 7 z) (h : a ≤ z.length) : Wd 1 8 (wordAt z a f st cut k) := by
  have hl := cut_head (z := z) h
  have ht := tail_len (z := z) (cut := cut) (k := k) h
  have h0 := Int.emod_nonneg (f + st * (k : Int)) (by decide : (26 : Int) ≠ 0)
  have h1 := Int.emod_lt_of_pos (f + st * (k : Int)) (by decide : (0 : Int) < 26)
  have w := wd_app (wd_app (wd_cut wz none (some (a : Int))) (wd_sign (c := 97 + ((f + st * (k : Int)) % 26).toNat) (by omega))) (tail_wd (a := a) (cut := cut) (k := k) wz)
  refine ⟨w.l0, ?_, w.az⟩
  have e1 : (⟨#[97 + ((f + st * (k : Int)) % 26).toNat]⟩ : Str).length = 1 := rfl
  have := wz.l1
  unfold wordAt
  rw [len_app, len_app, e1]
  omega
theorem word_inj {z : Str} {a : Nat} {f st cut : Int} {i j : Nat} (e : wordAt z a f st cut i = wordAt z a f st cut j) : (f + st * (i : Int)) % 26 = (f + st * (j : Int)) % 26 := by
  have h2 := congrArg (fun s : Str => s.cps.toList) e
  simp only [wordAt, Str.cps_append, Array.toList_append, List.append_assoc] at h2
  have h3 := List.append_cancel_left h2
  have h4 := (List.cons.inj h3).1
  have hi := Int.emod_nonneg (f + st * (i : Int)) (by decide : (26 : Int) ≠ 0)
  have hj := Int.emod_nonneg (f + st * (j : Int)) (by decide : (26 : Int) ≠ 0)
  omega
def steps8 : List Int := [1, 3, 5, 7, 9, 11, 15, 17]
theorem step_inj {f st : Int} {i j : Nat} (hs : st ∈ steps8) (hi : i < 26) (hj : j < 26) (e : (f + st * (i : Int)) % 26 = (f + st * (j : Int)) % 26) : i = j := by
  simp only [steps8, List.mem_cons, List.not_mem_nil, or_false] at hs
  rcases hs with rfl | rfl | rfl | rfl | rfl | rfl | rfl | rfl <;> omega
theorem words_nodup {z : Str} {a : Nat} {f st cut : Int} (hs : st ∈ steps8) : ∀ m : Nat, m ≤ 26 → ((List.range m).map (wordAt z a f st cut)).Nodup := fun m hm =>
  List.nodup_iff_pairwise_ne.mpr (List.pairwise_map.mpr ((List.nodup_range (n := m)).imp_of_mem fun {x y} hx hy n e => n (step_inj hs (Nat.lt_of_lt_of_le (List.mem_range.mp hx) hm) (Nat.lt_of_lt_of_le (List.mem_range.mp hy) hm) (word_inj e))))
section
variable {P : Program} {w : World} {K : PySem.W.Frag} {mg : Str → Option Value} {base : Heap}
abbrev nWords : List Str := ["_law_pen_here", "_law_many", "_law_letters", "_law_k", "_law_stem", "_law_at", "_law_front", "_law_step", "_law_is_cut", "_law_found", "_law_tail"]
theorem scWords : FnScope nWords ["_law_pen_here", "_law_many"] (defScope sWords) := ⟨rfl, rfl, rfl, by decide +kernel, rfl, by decide +kernel, by decide +kernel⟩
theorem ok_words {f : Addr} {fd : FuncData} (F : Fun K "_law_words" "_law_words" sWords f fd) (B : Blt mg) (HD : Has P w K mg base 1 "_law_draw" ["_law_pen_here", "_law_many"] spDraw) (HP : Has P w K mg base 2 "_law_pick" ["_law_pen_here", "_law_items"] (spPick K)) :
    FnOk P w K mg base CX0 3 f fd ["_law_pen_here", "_law_many"] spWords := by
  obtain ⟨g1, gd1, G1, b1, m1, k1⟩ := HD
  obtain ⟨g2, gd2, G2, b2, m2, k2⟩ := HP
  refine F.ok scWords (fun vs H Q E h => ?_) (fun cdv A outer s H vs Q E hr h => ?_)
  · obtain ⟨p, c, ns, u, r, m, rfl, _⟩ := h
    rfl
  · obtain ⟨p, c, ns, u, r, m, rfl, PA, hu6, hm, k⟩ := h
    have hr1 : Room 1 _ := hr.mono (by decide)
    have nd : nWords.Nodup := scWords.nd
    refine ⟨_, pss_cons (ps_set (i := 2) nd rfl (Or.inr rfl) pe_str)
      (pss_cons (ps_set (i := 4) nd rfl (Or.inl rfl) (pe_bm PySem.F.plainAttrs_str PySem.F.slot_str_join PySem.F.type_str_join mt_join pe_str (pa_cons (pe_lc (own := [("_law_k", 3)]) (g := gName 3) (tt := tYes) rfl nd (pi_range1 (by rfl) B.range (pa_cons (pe_call G1 hr1 (by rfl) m1 k1 b1 .nil pass0 (pa_cons (pv 0) (pa_cons pe_int pa_nil))) pa_nil)) (blkOk_by (N := nWords) (sc := defScope sWords) (by decide +kernel)) (fun _ _ _ _ _ => pg_name (i := 3) nd rfl (Or.inl rfl)) (fun _ _ _ _ _ => pts_nil) (fun _ _ _ _ _ => (pe_call G2 hr (by rfl) m2 k2 b2 .nil pass0 (pa_cons (pv 0) (pa_cons (pv 2) pa_nil))))) pa_nil)))
      (pss_cons (ps_par (i := 5) (j := 6) rfl nd rfl rfl (by decide) rfl rfl (pa_cons (pe_call G1 hr1 (by rfl) m1 k1 b1 .nil pass0 (pa_cons (pv 0) (pa_cons (pe_op op_add (pe_callB call_len_str (by rfl) B.len PySem.boot_len (pa_cons (pv 4) pa_nil)) pe_int) pa_nil))) (pa_cons (pe_call G1 hr1 (by rfl) m1 k1 b1 .nil pass0 (pa_cons (pv 0) (pa_cons pe_int pa_nil))) pa_nil)) (by rfl))
      (pss_cons (ps_par (i := 7) (j := 8) rfl nd rfl rfl (by decide) rfl rfl (pa_cons (pe_call G2 hr (by rfl) m2 k2 b2 .nil pass0 (pa_cons (pv 0) (pa_cons (pe_lst (pa_cons pe_int (pa_cons pe_int (pa_cons pe_int (pa_cons pe_int (pa_cons pe_int (pa_cons pe_int (pa_cons pe_int (pa_cons pe_int pa_nil))))))))) pa_nil))) (pa_cons (pe_call G1 hr1 (by rfl) m1 k1 b1 .nil pass0 (pa_cons (pv 0) (pa_cons pe_int pa_nil))) pa_nil)) (by rfl))
      (pss_cons (ps_set (i := 9) nd rfl (Or.inl rfl) (pe_lst pa_nil))
      (pss_cons (ps_for PassesOwn.never rfl (pi_range1 (by rfl) B.range (pa_cons (pv 1) pa_nil)) (pg_name (i := 3) nd rfl (Or.inl rfl))
        (pss_cons (ps_set (i := 10) nd rfl (Or.inl rfl) (pe_ifExp (pt_cmpR op_eq (pv 8) pe_int (nomark _)) (pe_slice sl_str (pe_slice sl_str (pv 4) (po_some (pv 5)) po_none) po_none (po_some (pe_op op_mod (pe_callTy call_int1 (by rfl) B.int bInt (pa_cons (pv 3) pa_nil)) pe_int))) (pe_slice sl_str (pv 4) (po_some (pv 5)) po_none)))
        (pss_one (ps_expr (pe_bm PySem.F.plainAttrs_list PySem.F.slot_list_append PySem.F.type_list_append mt_append (pv 9) (pa_cons (pe_op op_add_str (pe_op op_add_str (pe_slice sl_str (pv 4) po_none (po_some (pv 5))) (pe_ix ix_str (pv 2) (pe_op op_mod (pe_callTy call_int1 (by rfl) B.int bInt (pa_cons (pe_op op_add (pv 6) (pe_op op_mul (pv 7) (pv 3))) pa_nil)) pe_int) (fun _ _ => rfl))) (pv 10)) pa_nil))))))
      (pss_one (ps_ret (pv 9)))))))), ?_⟩
    -- letters
    refine seq_step (fun σ' H' => σ' = [some (.ref p), some (.int (m : Int)), some (.str "abcdefghijklmnopqrstuvwxyz"), none, none, none, none, none, none, none, none] ∧ H' = H) (fun R hR => hR _ _ ⟨rfl, rfl⟩) (fun σ1 H1 h1 => ?_)
    obtain ⟨rfl, rfl⟩ := h1
    -- stem
    refine seq_step (fun σ' H' => ∃ (z : Str) (x : Option V) (u' r' : Int), σ' = [some (.ref p), some (.int (m : Int)), some (.str "abcdefghijklmnopqrstuvwxyz"), x, some (.str z), none, none, none, none, none, none] ∧ Wd 0 7 z ∧ u' ≤ u + 8 ∧ PenAt H' p c ns u' r' ∧ SameP p H1 H') (fun R hR => ?_) (fun σ2 H2 h2 => ?_)
    · refine ⟨rfl, ?_⟩
      refine ⟨_, rfl, p, c, ns, u, r, 8, rfl, PA, by omega, by decide, by decide, fun d u1 r1 H2 d0 d1 hu1 PA1 keep1 => ?_⟩
      refine ⟨d, rfl, by omega, by omega, fun D hD => ?_⟩
      have nDp : D ≠ p := by
        obtain ⟨kvs, hp, _⟩ := PA1.ob
        exact (ne_of_none hp hD).symm
      refine lc_range (lo := 0) (n := d.toNat) (fun i H' => ∃ (u' r' : Int) (ys : List Str), PenAt H' p c ns u' r' ∧ u' ≤ u1 + i ∧ SameP p H2 H' ∧ H' D = some (.lst (ys.map V.str)) ∧ ys.length = i ∧ ∀ y ∈ ys, Wd 1 1 y)
        ⟨u1, r1, [], PA1.same (same_new hD), by omega, .of (same_new hD), upd_same, rfl, fun _ h => nomatch h⟩ ?_ ?_
      · rintro i H' hi ⟨u', r', ys, PA', hu', keep', gD, hy, hw⟩
        refine ⟨rfl, _, rfl, _, rfl, p, c, .str "abcdefghijklmnopqrstuvwxyz", ns, u', r', rfl, PA', by omega, .inr ⟨_, rfl, by rw [abc_len]; decide, by rw [abc_len]; decide, fun e u2 r2 H3 he hu2 PA2 keep2 => ?_⟩⟩
        have nC : c ≠ D := ne_of_none PA1.cl hD
        refine ⟨_, keep2 _ _ gD nDp, by rw [List.length_map, hy]; exact Nat.lt_of_lt_of_le hi (Nat.le_trans (by omega : d.toNat ≤ 8) (by decide)), u2, r2, ys ++ [⟨#[e]⟩], ?_, by omega, ?_, ?_, by simp [hy], ?_⟩
        · obtain ⟨kvs, hp, k2⟩ := PA2.ob
          exact ⟨⟨kvs, by rw [upd_ne nDp.symm]; exact hp, k2⟩, by rw [upd_ne nC]; exact PA2.cl, PA2.few, PA2.u0, PA2.r0⟩
        · intro b o eb nb
          rw [upd_ne (ne_of_none eb hD)]
          exact keep2 _ _ (keep' _ _ eb nb) nb
        · rw [upd_same, List.map_append]
          rfl
        · intro y hy'
          rcases List.mem_append.mp hy' with h | h
          · exact hw y h
          · rw [List.mem_singleton.mp h]
            exact wd_sign (abc_az e he)
      · rintro H' ⟨u', r', ys, PA', hu', keep', gD, hy, hw⟩
        have wj := wd_join hw
        refine ⟨_, D, ys, rfl, rfl, .inl (.inl (.inl gD)), ?_, hR _ _ ⟨_, none, u', r', rfl, ⟨Nat.zero_le _, Nat.le_trans wj.l1 (by omega), wj.az⟩, by omega, PA', keep1.trans keep'⟩⟩
        rw [sum_ones hw]
        have e0 : ("" : Str).length = 0 := by decide +kernel
        rw [e0]
        omega
    obtain ⟨z, x3, u2, r2, rfl, wz, hu2, PA2, keep2⟩ := h2
    have hz7 := wz.l1
    have hzs : z.length ≤ sizeLine := Nat.le_trans hz7 (by decide)
    -- at, front
    refine seq_step (fun σ' H' => ∃ (f a : Int) (u' r' : Int), σ' = [some (.ref p), some (.int (m : Int)), some (.str "abcdefghijklmnopqrstuvwxyz"), x3, some (.str z), some (.int a), some (.int f), none, none, none, none] ∧ 0 ≤ f ∧ f < 26 ∧ 0 ≤ a ∧ a ≤ z.length ∧ u' ≤ u + 10 ∧ PenAt H' p c ns u' r' ∧ SameP p H1 H') (fun R hR => ?_) (fun σ3 H3 h3 => ?_)
    · refine ⟨_, rfl, _, rfl, _, rfl, hzs, _, _, rfl, rfl, p, c, ns, u2, r2, _, rfl, PA2, by omega, by omega, by omega, fun a u5 r5 H5 a0 a1 hu5 PA5 keep5 => ?_⟩
      refine ⟨_, rfl, p, c, ns, u5, r5, 26, rfl, PA5, by omega, by decide, by decide, fun f u3 r3 H3 f0 f1 hu3 PA3 keep3 => ?_⟩
      exact ⟨_, _, rfl, hR _ _ ⟨f, a, u3, r3, rfl, f0, f1, a0, by omega, by omega, PA3, keep2.trans (keep5.trans keep3)⟩⟩
    obtain ⟨f0, a, u3, r3, rfl, q0, q1, q4, q5, hu3, PA3, keep3⟩ := h3
    clear keep2 PA2
    -- step, is_cut
    refine seq_step (fun σ' H' => ∃ (st cut : Int) (u' r' : Int), σ' = [some (.ref p), some (.int (m : Int)), some (.str "abcdefghijklmnopqrstuvwxyz"), x3, some (.str z), some (.int a), some (.int f0), some (.int st), some (.int cut), none, none] ∧ st ∈ steps8 ∧ u' ≤ u + 12 ∧ PenAt H' p c ns u' r' ∧ SameP p H1 H') (fun R hR => ?_) (fun σ4 H4 h4 => ?_)
    · refine ⟨_, rfl, by show 8 ≤ sizeLine; decide, fun l hl => ?_⟩
      have sl := same_new (o := .lst (steps8.map V.int)) hl
      refine ⟨p, c, .ref l, ns, u3, r3, rfl, PA3.same sl, by omega, .inl ⟨l, _, rfl, upd_same, by show 0 < 8; decide, by show 8 ≤ 100000; decide, fun v u4 r4 H4 hm4 hu4 PA4 keep4 => ?_⟩⟩
      obtain ⟨st, hst, rfl⟩ : ∃ st : Int, st ∈ steps8 ∧ V.int st = v := List.mem_map.mp (show v ∈ steps8.map V.int from hm4)
      refine ⟨_, rfl, p, c, ns, u4, r4, 2, rfl, PA4, by omega, by decide, by decide, fun cut u5 r5 H5 c0 c1 hu5 PA5 keep5 => ?_⟩
      exact ⟨_, _, rfl, hR _ _ ⟨st, cut, u5, r5, rfl, hst, by omega, PA5, keep3.trans ((SameP.of sl).trans (keep4.trans keep5))⟩⟩
    obtain ⟨st, cut, u4, r4, rfl, hst, hu4, PA4, keep4⟩ := h4
    clear keep3 PA3
    obtain ⟨an, rfl⟩ : ∃ n : Nat, a = (n : Int) := ⟨a.toNat, by omega⟩
    have han : an ≤ z.length := by omega
    have hst1 : -(2 ^ 64) < st ∧ st < 2 ^ 64 := by
      have h := hst
      simp only [steps8, List.mem_cons, List.not_mem_nil, or_false] at h
      omega
    -- found
    refine seq_step (fun σ' H' => ∃ D : Addr, σ' = [some (.ref p), some (.int (m : Int)), some (.str "abcdefghijklmnopqrstuvwxyz"), x3, some (.str z), some (.int (an : Int)), some (.int f0), some (.int st), some (.int cut), some (.ref D), none] ∧ H4 D = none ∧ H' = upd H4 D (.lst [])) (fun R hR => ?_) (fun σ5 H5 h5 => ?_)
    · exact ⟨Nat.zero_le _, fun D hD => hR _ _ ⟨D, rfl, hD, rfl⟩⟩
    obtain ⟨D, rfl, hD, e5⟩ := h5
    have nDp : D ≠ p := by
      obtain ⟨kvs, hp, _⟩ := PA4.ob
      exact (ne_of_none hp hD).symm
    have nC : c ≠ D := ne_of_none PA4.cl hD
    have hD1 : H1 D = none := by
      cases e : H1 D with
      | none => rfl
      | some o => rw [keep4 _ _ e nDp] at hD; cases hD
    have keep5 : SameP p H4 H5 := by rw [e5]; exact .of (same_new hD)
    have gD5 : H5 D = some (.lst []) := by rw [e5, upd_same]
    have PA5 : PenAt H5 p c ns u4 r4 := by rw [e5]; exact PA4.same (same_new hD)
    clear e5
    -- the words
    refine seq_step (fun σ' H' => ∃ x y, σ' = [some (.ref p), some (.int (m : Int)), some (.str "abcdefghijklmnopqrstuvwxyz"), x, some (.str z), some (.int (an : Int)), some (.int f0), some (.int st), some (.int cut), some (.ref D), y] ∧ PenAt H' p c ns u4 r4 ∧ SameP p H4 H' ∧ H' D = some (.lst (((List.range m).map (wordAt z an f0 st cut)).map V.str))) (fun R hR => ?_) (fun σ6 H6 h6 => ?_)
    · refine ⟨_, rfl, _, rfl, by omega, by omega, for_range (n := m) (fun i σ' H' => ∃ x y, σ' = [some (.ref p), some (.int (m : Int)), some (.str "abcdefghijklmnopqrstuvwxyz"), x, some (.str z), some (.int (an : Int)), some (.int f0), some (.int st), some (.int cut), some (.ref D), y] ∧ PenAt H' p c ns u4 r4 ∧ SameP p H4 H' ∧ H' D = some (.lst (((List.range i).map (wordAt z an f0 st cut)).map V.str)))
        ⟨_, _, rfl, PA5, keep5, gD5⟩ ?_ ?_⟩
      · rintro i σ' H' hi ⟨x, y, rfl, PA', keep', gD⟩
        have hx0 : 0 ≤ (f0 + st * (0 + (i : Int))) % 26 := Int.emod_nonneg _ (by decide)
        have hx1 : (f0 + st * (0 + (i : Int))) % 26 < 26 := Int.emod_lt_of_pos _ (by decide)
        have hae := abc_get hx0 hx1
        have lf := cut_head (z := z) han
        have lt := tail_len (z := z) (a := an) (cut := cut) (k := i) han
        have lc := cut_tail (z := z) han
        refine seq_step (fun σ' H' => ∃ x, σ' = [some (.ref p), some (.int (m : Int)), some (.str "abcdefghijklmnopqrstuvwxyz"), some (.int (0 + (i : Int))), some (.str z), some (.int (an : Int)), some (.int f0), some (.int st), some (.int cut), some (.ref D), some (.str (tailAt z an cut i))] ∧ x = H' ∧ PenAt H' p c ns u4 r4 ∧ SameP p H4 H' ∧ H' D = some (.lst (((List.range i).map (wordAt z an f0 st cut)).map V.str))) (fun R hR => ?_) (fun σ7 H7 h7 => ?_)
        · refine ⟨_, rfl, rfl, _, rfl, ifb (fun q => ?_) (fun q => ?_)⟩
          · have ec : cut = 1 := V.int.inj (of_decide_eq_true q)
            refine ⟨_, rfl, _, rfl, _, rfl, _, rfl, hzs, _, rfl, .inl ⟨_, rfl, _, _, rfl, rfl, (by decide : (0 : Int) < 3), _, rfl, _, rfl, Nat.le_trans lc (Nat.le_trans (Nat.sub_le _ _) hzs), ?_⟩⟩
            have e0 : tailAt z an cut i = cutS (cutS z (some (an : Int)) none) none (some ((0 + (i : Int)) % 3)) := by
              unfold tailAt
              rw [if_pos ec, Int.zero_add]
            rw [← e0]
            exact hR _ _ ⟨_, rfl, rfl, PA', keep', gD⟩
          · have ec : cut ≠ 1 := fun h => of_decide_eq_false q (congrArg V.int h)
            refine ⟨_, rfl, _, rfl, _, rfl, _, rfl, hzs, ?_⟩
            have e0 : tailAt z an cut i = cutS z (some (an : Int)) none := by
              unfold tailAt
              rw [if_neg ec]
            rw [← e0]
            exact hR _ _ ⟨_, rfl, rfl, PA', keep', gD⟩
        obtain ⟨_, rfl, _, PA7, keep7, gD7⟩ := h7
        refine ⟨_, rfl, .inl ⟨rfl, _, .inl (.inl gD7)⟩, _, rfl, _, rfl, _, rfl, _, rfl, hzs, _, rfl, _, rfl, _, rfl, _, rfl, _, _, rfl, rfl, .inl hst1, _, _, rfl, rfl, .inl ⟨_, rfl, _, _, rfl, rfl, by show (0 : Int) < 26; decide, _, _, _, rfl, rfl, by rw [abc_len]; decide, hae, ?_⟩⟩
        refine ⟨_, _, rfl, rfl, ?_, _, rfl, _, _, rfl, rfl, ?_, ?_⟩
        · show _ + 1 ≤ sizeLine
          exact Nat.le_trans (by omega : _ ≤ 8) (by decide)
        · rw [len_app]
          exact Nat.le_trans (by show _ + 1 + _ ≤ 16; omega) (by decide)
        · refine ⟨D, _, _, rfl, rfl, gD7, by rw [List.length_map, List.length_map, List.length_range]; exact Nat.lt_of_lt_of_le hi (Nat.le_trans hm (by decide)), ?_⟩
          refine ⟨_, _, rfl, PA7.upd nDp nC.symm, ?_, ?_⟩
          · intro b o eb nb
            rw [upd_ne (ne_of_none eb hD)]
            exact keep7 _ _ eb nb
          · rw [upd_same, List.range_succ, List.map_append, List.map_append]
            show _ = some (HO.lst (_ ++ [V.str (wordAt z an f0 st cut i)]))
            unfold wordAt
            rw [Int.zero_add]
      · rintro σ' H' ⟨x, y, rfl, PA', keep', gD⟩
        exact hR _ _ ⟨x, y, rfl, PA', keep', gD⟩
    obtain ⟨x, y, rfl, PA6, keep6, gD6⟩ := h6
    exact ⟨_, rfl, k D _ u4 r4 H6 hD1 gD6 (by rw [List.length_map, List.length_range]) (words_nodup hst m hm) (fun y hy => by
        obtain ⟨q, _, rfl⟩ := List.mem_map.mp hy
        exact wd_word wz han) hu4 PA6 (keep4.trans keep6)⟩
end
end Ld
/-! sorted(d, key=str), d a dict with texts as keys -/
namespace Ld
open PySem PyProof.Rows
theorem kss_t (a : Addr) : Builtin.«list.sort» ⟨[.ref a], [(Str.ofString "key", .type "str")]⟩ = ksk_tree a (.type "str") false := rfl
section
variable {prog : Program} {w : World} {A : Around} {E : Value → Shared → Prop} {s : Shared} {P : PySem.Fin → Shared → Prop}
theorem kss_tail {a kS : Addr} {keys vs : List Value} {ss : List Str} {e e1 : Nat} {st : SortSt} (hk : s.heap.get? kS = some (seqObj "list" vs.toArray e)) (ha : s.heap.get? a = some (seqObj "list" #[] e1)) (hka : kS ≠ a) (hz : vs.length ≤ sizeLine)
    (hp : (arrOf st).Perm (pairsOf vs)) (hfl : failedOf st = none)
    (h : ∀ h' c, (∀ b o, b ≠ a → b ≠ kS → s.heap.get? b = some o → h'.get? b = some o) → h'.get? a = some (seqObj "list" ((arrOf st).map (·.2)) c) → P (.done (.ret .none)) { s with heap := h' }) :
    wpAny (model prog w) A (ksk_tail a false e1 (.ref kS) st) P E s := by
  have hout : ((arrOf st).map (·.2)).size = vs.length := by rw [Array.size_map, hp.size_eq, pairsOf_size]
  have s1 := Heap.SameBut.update s.heap kS (Obj.mapSeq fun _ => (#[] : Array Value))
  have na1 : (s.heap.update kS (Obj.mapSeq fun _ => (#[] : Array Value))).get? a = some (seqObj "list" #[] e1) := (s1.2 a hka.symm).trans ha
  have s2 := Heap.SameBut.update (s.heap.update kS (Obj.mapSeq fun _ => (#[] : Array Value))) a (Obj.mapSeq fun _ => (arrOf st).map (·.2))
  obtain ⟨c2, hc2⟩ : ∃ c2, ((s.heap.update kS (Obj.mapSeq fun _ => (#[] : Array Value))).update a (Obj.mapSeq fun _ => (arrOf st).map (·.2))).get? a = some (seqObj "list" ((arrOf st).map (·.2)) c2) :=
    ⟨_, get?_update_seq na1 fun _ => (arrOf st).map (·.2)⟩
  unfold ksk_tail
  try dsimp only
  refine wpAny_bind (listUpdate_at hk rfl ?_ (by rw [List.size_toArray]; exact hz) (Nat.zero_le _))
  refine wpAny_bind (wpAny_letGo ?_)
  refine wpAny_bind (seqEpoch_at na1 rfl ?_)
  simp only [Bool.false_eq_true, if_false]
  refine wpAny_bind (listUpdate_at na1 rfl ?_ (Nat.zero_le _) (Nat.le_trans (Nat.le_of_eq hout) (Nat.le_trans hz (Nat.le_succ _))))
  rw [hfl]
  simp only [bne_self_eq_false, Bool.false_eq_true, if_false]
  exact wpAny_pure (h _ c2 (fun b o h1 h2 eb => (s2.2 b h1).trans ((s1.2 b h2).trans eb)) hc2)
theorem kss_end {a kS : Addr} {vs : List Value} {ss : List Str} {e e1 : Nat} (hS : StrsAre vs ss) (hk : s.heap.get? kS = some (seqObj "list" vs.toArray e)) (ha : s.heap.get? a = some (seqObj "list" #[] e1)) (hka : kS ≠ a) (hz : vs.length ≤ sizeLine)
    (h : ∀ h' out ss' c, (∀ b o, b ≠ a → b ≠ kS → s.heap.get? b = some o → h'.get? b = some o) → h'.get? a = some (seqObj "list" out c) → StrsAre out.toList ss' → ss'.Perm ss → sortedS ss' = true → P (.done (.ret .none)) { s with heap := h' }) :
    wpAny (model prog w) A (ksk_end a false vs.toArray e1 (.ref kS) vs.toArray) P E s := by
  have hsz : vs.toArray.size = vs.length := by simp
  have fin : ∀ st : SortSt, (arrOf st).Perm (pairsOf vs) → failedOf st = none → SortedToK strKind (arrOf st) (pairsOf vs).size → wpAny (model prog w) A (ksk_tail a false e1 (.ref kS) st) P E s := by
    intro st hp hf hs
    obtain ⟨ss', h1, h2, h3⟩ := sorted_out_str hS hp hs
    exact kss_tail (keys := vs) (ss := ss) hk ha hka hz hp hf fun h' c keep hc => h h' _ ss' c keep hc h1 h2 h3
  unfold ksk_end
  try dsimp only
  simp only [Bool.false_eq_true, if_false]
  by_cases h2 : vs.toArray.size < 2
  · rw [if_pos h2, if_pos h2]
    refine wpAny_bind (wpAny_pure ?_)
    rw [StateT.run_pure]
    refine wpAny_bind (wpAny_pure ?_)
    try dsimp only
    refine fin (SortSt.mk' general' (vs.toArray.zip vs.toArray) #[] 7 none) (Array.Perm.refl _) rfl ?_
    intro i j hij hj
    have : i = j := by rw [pairsOf_size] at hj; omega
    subst this; exact KeyOrd.kle_refl _
  · rw [if_neg h2, if_neg h2]
    obtain ⟨v₁, v₂, rest, rfl⟩ : ∃ v₁ v₂ rest, vs = v₁ :: v₂ :: rest := by
      match vs, hsz, h2 with
      | [], _, h2 => simp at h2
      | [_], _, h2 => simp at h2
      | v₁ :: v₂ :: rest, _, _ => exact ⟨v₁, v₂, rest, rfl⟩
    rw [keyKind_strs hS]
    refine wpAny_bind (wpAny_pure ?_)
    refine wpAny_bind (wpAny_mono (wpS_sortRunsAny (κ := strKind) (a₀ := pairsOf (v₁ :: v₂ :: rest)) (st := SortSt.mk' oneType' ((v₁ :: v₂ :: rest).toArray.zip (v₁ :: v₂ :: rest).toArray) #[] 7 none)
      (Q := fun _ st' => (arrOf st').Perm (pairsOf (v₁ :: v₂ :: rest)) ∧ failedOf st' = none ∧ SortedToK strKind (arrOf st') (pairsOf (v₁ :: v₂ :: rest)).size)
      strKind_oneLt hS.keysOf ⟨Array.Perm.refl _, rfl, rfl⟩ rfl (by rw [pairsOf_size]; simp) fun st' a1 a2 a3 => ⟨a1, a2, a3⟩) ?_ fun _ _ e => e)
    rintro ⟨⟨⟩, st'⟩ s' ⟨rfl, hp, hf, hs⟩
    try dsimp only
    exact fin st' hp hf hs
theorem kss_sort {a : Addr} {vs : List Value} {ss : List Str} {n : Nat} (ho : s.heap.get? a = some (seqObj "list" vs.toArray n)) (hS : StrsAre vs ss) (hz : vs.length < sizeLine)
    (h : ∀ h' out ss' c, (∀ b o, b ≠ a → s.heap.get? b = some o → h'.get? b = some o) → h'.get? a = some (seqObj "list" out c) → StrsAre out.toList ss' → ss'.Perm ss → sortedS ss' = true → P (.done (.ret .none)) { s with heap := h' }) :
    wpAny (model prog w) A (ksk_tree a (.type "str") false) P E s := by
  have hz' : vs.length ≤ sizeLine := Nat.le_of_lt hz
  have ha : a < s.heap.objs.size := Heap.lt_size ho
  have s1 := Heap.SameBut.update s.heap a (Obj.mapSeq fun _ => (#[] : Array Value))
  obtain ⟨e1, ho1⟩ : ∃ e1, (s.heap.update a (Obj.mapSeq fun _ => (#[] : Array Value))).get? a = some (seqObj "list" #[] e1) := ⟨_, get?_update_seq ho fun _ => #[]⟩
  have hkS : ((s.heap.update a (Obj.mapSeq fun _ => (#[] : Array Value))).push (seqObj "tuple" vs.toArray 0)).objs.size = s.heap.objs.size + 1 := by rw [size_push', Heap.size_update]
  unfold ksk_tree
  refine wpAny_bind (listItems_at ho rfl ?_)
  refine wpAny_bind (listUpdate_at ho rfl ?_ (by rw [List.size_toArray]; exact hz') (Nat.zero_le _))
  refine wpAny_bind (seqEpoch_at ho1 rfl ?_)
  refine wpAny_bind (wpAny_newTuple ?_ (by show vs.length ≤ _; exact hz'))
  refine wpAny_bind (wpAny_newList ?_ (Nat.zero_le _))
  refine wpAny_holding ?_
  obtain ⟨g, hg⟩ : ∃ g, ((s.heap.update a (Obj.mapSeq fun _ => (#[] : Array Value))).push (seqObj "tuple" vs.toArray 0)).push (seqObj "list" #[] 0) = g := ⟨_, rfl⟩
  obtain ⟨kS, ek⟩ : ∃ kS, ((s.heap.update a (Obj.mapSeq fun _ => (#[] : Array Value))).push (seqObj "tuple" vs.toArray 0)).objs.size = kS := ⟨_, rfl⟩
  have hkg : g.get? kS = some (seqObj "list" #[] 0) := by rw [← hg, ← ek]; exact Heap.get?_push_size _ rfl
  have hag : g.get? a = some (seqObj "list" #[] e1) := by rw [← hg]; exact Heap.get?_push_of_some _ (Heap.get?_push_of_some _ ho1)
  have hka : kS ≠ a := by rw [← ek, hkS]; exact Nat.ne_of_gt (Nat.lt_succ_of_lt ha)
  have keep0 : ∀ b o, b ≠ a → s.heap.get? b = some o → g.get? b = some o ∧ b ≠ kS := fun b o hb eb =>
    ⟨by rw [← hg]; exact Heap.get?_push_of_some _ (Heap.get?_push_of_some _ ((s1.2 b hb).trans eb)), by rw [← ek, hkS]; exact Nat.ne_of_lt (Nat.lt_succ_of_lt (Heap.lt_size eb))⟩
  show wpAny (model prog w) _ (ksk_rest a (.type "str") false vs.toArray e1 (.ref ((s.heap.update a (Obj.mapSeq fun _ => (#[] : Array Value))).push (seqObj "tuple" vs.toArray 0)).objs.size)) P E { s with heap := ((s.heap.update a (Obj.mapSeq fun _ => (#[] : Array Value))).push (seqObj "tuple" vs.toArray 0)).push (seqObj "list" #[] 0) }
  rw [hg, ek]
  unfold ksk_rest
  refine wpAny_bind (wpAny_rule ?_)
  first
    | rw [List.forIn_toArray]
    | (rw [← Array.forIn_toList]; simp only [List.toList_toArray])
    | rw [← Array.forIn_toList]
  refine wpAny_bind (ksk_fold (fun i s' => ∃ h' e, s' = { s with heap := h' } ∧ (∀ b o, b ≠ kS → g.get? b = some o → h'.get? b = some o) ∧ h'.get? kS = some (seqObj "list" (vs.take i).toArray e)) vs 0 _
    ⟨g, 0, rfl, fun b o _ eb => eb, hkg⟩ ?step ?done)
  case step =>
    rintro j x s' hx ⟨h', e, rfl, keep, hk⟩
    simp only [Nat.zero_add] at hk ⊢
    have hj : j < vs.length := (List.getElem?_eq_some_iff.mp hx).1
    obtain ⟨z, t, rfl⟩ := hS.all x (List.mem_of_getElem? hx)
    refine wpAny_bind (wpAny_attempt (PySem.P.str_of_str ?_))
    try dsimp only
    have s2 := Heap.SameBut.update h' kS (Obj.mapSeq (·.push (.str z t)))
    obtain ⟨c2, hc2⟩ : ∃ c2, (h'.update kS (Obj.mapSeq (·.push (.str z t)))).get? kS = some (seqObj "list" ((vs.take j).toArray.push (.str z t)) c2) := ⟨_, get?_update_seq hk (·.push (.str z t))⟩
    have et : ((vs.take j).toArray.push (Value.str z t)) = (vs.take (j + 1)).toArray := by
      rw [List.take_add_one, hx]
      simp
    have hl : (vs.take j).length ≤ j := by rw [List.length_take]; omega
    refine wpAny_bind (listUpdate_at hk rfl ?_ (by rw [List.size_toArray]; omega) (by rw [Array.size_push, List.size_toArray]; omega))
    refine wpAny_pure ⟨rfl, _, c2, rfl, fun b o hb eb => (s2.2 b hb).trans (keep b o hb eb), by rw [hc2, et]⟩
  case done =>
    rintro s' ⟨h', e, rfl, keep, hk⟩
    have e3 : vs.take (0 + vs.length) = vs := List.take_of_length_le (by omega)
    rw [e3] at hk
    try dsimp only
    refine wpAny_bind (listItems_at hk rfl ?_)
    refine kss_end (s := { s with heap := h' }) hS hk (keep a _ hka.symm hag) hka hz' fun h2 out ss' c keep2 h21 h22 h23 h24 => h h2 out ss' c (fun b o hb eb => ?_) h21 h22 h23 h24
    obtain ⟨k1, k2⟩ := keep0 b o hb eb
    exact keep2 b o hb k2 (keep b o k2 k1)
end
end Ld
namespace Ld
open PySem PySem.Spec PyProof.Rows L2
section
variable {X : Cx}
/-- sorted(d, key=str) -/
def rSortedDK : List V → List V → Hp → VK → Prop := fun xs zs H Q => ∃ (a : Addr) (kvs : List (Key × V)) (ks : List Str), xs = [.ref a] ∧ zs = [.ty "str"] ∧ Rd H a (.dK kvs) ∧ kvs.map (·.1) = ks.map Sum.inr ∧ ks.length < sizeLine ∧
    ∀ ys p, ys.Perm ks → sortedS ys = true → H p = none → Q (.ref p) (upd H p (.lst (ys.map V.str)))
theorem cr_sortedDK (hcalm : X.calm = true) : CallRK X (.builtin "sorted") ["key"] rSortedDK := by
  intro pins s σ H xs zs us ws Q I r rz q
  obtain ⟨a, kvs, ks, rfl, rfl, hd, hks, h64, q⟩ := q
  obtain ⟨u, rfl, rx⟩ := vals1 r
  obtain ⟨u2, rfl, ru⟩ := vals1 rz
  cases rx
  cases (show u2 = Value.type "str" from ru)
  obtain ⟨z, lo, vs, rel, dd⟩ := dk_rd I.hok hd
  obtain ⟨ep, hat⟩ := dd.dictAt
  have hkeys : vs.map (·.1) = ks.map Sum.inr := rel.keys.symm.trans hks
  have hl : vs.length = ks.length := by
    have e := congrArg List.length hkeys
    rw [List.length_map, List.length_map] at e
    exact e
  have h16 : vs.length ≤ sizeLine := by rw [hl]; exact Nat.le_of_lt h64
  show wpAny _ _ (call (.builtin "sorted") [.ref a] [(Str.ofString "key", .type "str")]) _ _ _
  refine call_function_entry_kw kind_sorted plain_sorted entry_sorted (ksk_s1 _ _) ?_
  unfold Builtin.«sorted»
  refine wpAny_bind (m := checkCount "sorted" 1 1 _) (wpAny_pure ?_)
  refine wpAny_bind (PySem.W.kdu_collect (A := X.A.in1) (PySem.W.kdl_dict (knd := mixKind X.prog X.w) (kvs := vs) (ep := ep) lo) (I.ok.hd hcalm) hat h16 fun h' tk acc hk hacc => ?_)
  have hal : acc.toList.length = ks.length := by rw [Array.length_toList, hacc.1, hl]
  have hS : StrsAre acc.toList ks := strs_at hal fun j v e => by
    obtain ⟨k, x, e1, e2⟩ := hacc.2 j v (by rw [← Array.getElem?_toList]; exact e)
    have e3 : (vs.map (·.1))[j]? = some k := by rw [List.getElem?_map, e1]; all_goals rfl
    rw [hkeys, List.getElem?_map] at e3
    cases e4 : ks[j]? with
    | none => rw [e4] at e3; cases e3
    | some y =>
      rw [e4] at e3
      have e5 : Sum.inr y = k := Option.some.inj e3
      subst e5
      obtain ⟨t, ev⟩ := Value.isStrOf_shape (x := y) (v := v) e2
      exact ⟨y, t, rfl, ev⟩
  have I1 : Inv X pins σ H { s with heap := h', toks := tk } := I.kept hk
  refine wpAny_bind (wpAny_newList ?_ (by rw [hal]; exact Nat.le_of_lt h64))
  have hoL : (h'.push (seqObj "list" acc.toList.toArray 0)).get? h'.objs.size = some (seqObj "list" acc.toList.toArray 0) := Heap.get?_push_size _ rfl
  show wpAny _ _ _ _ _ { s with heap := h'.push (seqObj "list" acc.toList.toArray 0), toks := tk }
  refine wpAny_bind (wpAny_holding (wpAny_call_entry_kw slot_list_sort ⟨_, hoL, rfl⟩ entry_list_sort ?_ (ksk_l1 _ _)))
  rw [kss_t]
  refine kss_sort (s := { s with heap := h'.push (seqObj "list" acc.toList.toArray 0), toks := tk }) hoL hS (by rw [hal]; exact h64) fun h2 out ys c keep hc g1 g2 g3 => ⟨_, rfl, ?_⟩
  have hlen : (ys.map V.str).length ≤ sizeLine := by
    rw [List.length_map, g2.length_eq]
    exact Nat.le_of_lt h64
  refine wpAny_pure ⟨_, rfl, .ref h'.objs.size, upd H h'.objs.size (.lst (ys.map V.str)), I1.laid (t' := tk) (fun b u e => ?_) (Nat.le_refl _)
    (show ObjOk X.prog X.w _ _ _ (.lst (ys.map V.str)) from ⟨hlen, out.toList, c, vals_of_strs g1, by rw [Array.toArray_toList]; exact hc⟩), rfl, q ys _ g2 g3 (I1.hok.fresh (Nat.le_refl _))⟩
  have hb : b < h'.objs.size := Heap.lt_size e
  exact keep b _ (Nat.ne_of_lt hb) (Heap.get?_push_of_some _ e)
end
end Ld
namespace Ld
open PySem PySem.Spec PyProof.Rows L2
section
variable {J : It} {n : Nat} {G : Hp → Prop} {Y : Nat → Hp → V → Hp → Prop}
/-- a dict comprehension over a walk -/
theorem dc_it (w : Walk J n G Y) {g : TG} {tt : TT} {tk tv : TE} {vs : List Nat} {σ : L2.St} {H1 : Hp} {D : Addr} {Qd : Hp → Prop} (Pv : Nat → Hp → Prop) (h0 : Pv 0 (upd H1 D (.dK []))) (hG : ∀ i H, i ≤ n → Pv i H → G H)
    (hs : ∀ i x H H', i < n → Pv i H → Y i H x H' → g x (wipe σ vs) H' fun σ2 H2 => wipe σ2 vs = wipe σ vs ∧ tt σ2 H2 fun b H3 =>
      if b = true then tk σ2 H3 fun y H4 => tv σ2 H4 fun z H5 => ∃ kvs k, y = kV k ∧ H5 D = some (.dK kvs) ∧ kvs.length < sizeLine ∧ Pv (i + 1) (upd H5 D (.dK (putK kvs k z))) else Pv (i + 1) H3) (hd : ∀ H, Pv n H → Qd H) :
    ∃ W : Nat → Nat → Hp → Prop, (∃ m, W 0 m (upd H1 D (.dK []))) ∧ ∀ i m H, W i m H →
      (J.stop i H ∧ Qd H) ∨ (J.go i H ∧ ∃ Nx : Hp → Prop, (∀ H', Nx H' → ∃ m', m' < m ∧ W (i + 1) m' H') ∧ ∀ x H', J.yld i H x H' → g x (wipe σ vs) H' fun σ2 H2 => wipe σ2 vs = wipe σ vs ∧ tt σ2 H2 fun b H3 =>
        if b = true then tk σ2 H3 fun y H4 => tv σ2 H4 fun z H5 => ∃ kvs k, y = kV k ∧ H5 D = some (.dK kvs) ∧ kvs.length < sizeLine ∧ Nx (upd H5 D (.dK (putK kvs k z))) else Nx H3) := by
  refine ⟨fun i m H => m = n - i ∧ i ≤ n ∧ Pv i H, ⟨n, by simp, Nat.zero_le _, h0⟩, ?_⟩
  rintro i m H ⟨rfl, hi, p⟩
  have q := hG i H hi p
  by_cases hlt : i < n
  · refine .inr ⟨w.goes i H hlt q, Pv (i + 1), fun H' p' => ⟨n - (i + 1), by omega, rfl, hlt, p'⟩, fun x H' y => hs i x H H' hlt p (w.yields i H x H' hlt q y)⟩
  · have e : i = n := by omega
    subst e
    exact .inl ⟨w.stops H q, hd H p⟩
end
section
variable {X : Cx}
/-- name = {.. for ..} on one line, the name a local -/
theorem ps_setDc {i : Nat} {y : Str} {py : Pos} {kx vx tg iter : Expr} {ifs : List Expr} {scope : Scope} {own : List (Str × Nat)} {pos spos : Pos} {wi : TI} {g : TG} {tt : TT} {tk tv : TE} (hc : X.calm = true) (hN : X.N.Nodup) (hy : X.N[i]? = some y) (hyl : X.env.scope.names.lookup y = some .local)
    (hsw : swapsWith (.DictComp kx vx [⟨tg, iter, ifs, 0⟩] scope pos) (some (.Name y py)) spos.line X.env = pure true) (hi : PI X tg iter wi) (ok : BlkOk X.N X.env.scope scope own)
    (hg : ∀ (s : Shared) (H : Hp) (C : Addr) (cl : List (Str × Addr)) (fp : List Addr), PG (X.blk s H scope (compEnvC scope cl C X.env) fp) tg g) (ht : ∀ (s : Shared) (H : Hp) (C : Addr) (cl : List (Str × Addr)) (fp : List Addr), PTs (X.blk s H scope (compEnvC scope cl C X.env) fp) ifs tt)
    (hk : ∀ (s : Shared) (H : Hp) (C : Addr) (cl : List (Str × Addr)) (fp : List Addr), PE (X.blk s H scope (compEnvC scope cl C X.env) fp) kx tk)
    (he : ∀ (s : Shared) (H : Hp) (C : Addr) (cl : List (Str × Addr)) (fp : List Addr), PE (X.blk s H scope (compEnvC scope cl C X.env) fp) vx tv) (hs : ∀ x, foldedSetIterable iter X.env x = pure x := by intro _; rfl) :
    PS X (.Assign [.Name y py] (.DictComp kx vx [⟨tg, iter, ifs, 0⟩] scope pos) spos) (tAsg (tDc wi g tt tk tv (own.map (·.2))) (gName i)) := by
  refine ⟨fun pins s σ H D I h => ?_⟩
  rw [exec_Assign_Name_used _ _ _ _ hsw]
  refine wpAny_bind (wpAny_standAt (wpAny_bind ?_))
  show wpAny _ X.A (do let _ ← comprehension (.DictComp kx vx [⟨tg, iter, ifs, 0⟩] scope pos) scope X.env (firstIterPos [⟨tg, iter, ifs, 0⟩] pos) newDict false (eval iter X.env) (some (assign (.Name y py) X.env))) _ _ s
  have h : tDc wi g tt tk tv (own.map (·.2)) σ H (fun x H1 => gName i x σ H1 D.nx) := h
  refine wpAny_bind (thn (dc_core (Qf := fun _ s' => SP X pins D .next s') hc hN I hi ok hg ht hk he hs h fun L C s' m H' I' q hn f => ?_) fun _ s' hq => wpAny_pure (wpAny_pure hq))
  show wpAny _ _ (assign (.Name y py) X.env (.ref L)) _ _ _
  refine wpAny_assign_Name (store_ok2 (v := V.ref L) I' hN hy (.inl hyl) rfl (fun s2 I2 ⟨a, sb, ha⟩ => ?_) (.inr hyl))
  obtain ⟨f0, f1, f2, f3, f4, f5⟩ := f
  have haC : C ≠ a := by
    rcases ha with z | z
    · rw [z]; exact f1
    · exact fun e => f4 y a z e.symm
  refine ⟨m, hn.sameBut sb haC, fun h3 sb3 => ?_⟩
  exact ⟨_, H', I2.turned (t' := s2.toks) (fun b o hb e => (sb3.2 b hb).trans e) f0 f1 f3 f4 f5, q⟩
theorem sw_trueD {kx vx : Expr} {gs : List Comprehension} {scope : Scope} {pos py : Pos} {y : Str} {l : Nat} {env : Env} (hk : env.scope.kind = .function) (hy : env.scope.names.lookup y = some .local) (hl : (py.line == pos.line) = true)
    (ha : (scope.names.any fun (n, k) => n == y && (k == .local || k == .cell)) = false) : swapsWith (.DictComp kx vx gs scope pos) (some (.Name y py)) l env = pure true := by
  have ky : env.kindOf y = some .local := hy
  have hb : env.blockKind = .function := by unfold Env.blockKind; rw [hk]; rfl
  unfold swapsWith
  simp only [hb, ky, ha, Expr.pos, hl]
  rfl
end
end Ld
namespace Ld
open PySem PySem.Spec PyProof.Rows L2
abbrev sIsInt : Stmt := top 2
abbrev sIsWord : Stmt := top 3
abbrev sAsc : Stmt := top 4
theorem bSorted : bootBuiltins "sorted" = some (.builtin "sorted") := by decide +kernel
theorem bIsi : bootBuiltins "isinstance" = some (.builtin "isinstance") := by decide +kernel
theorem bBool : bootBuiltins "bool" = some (.type "bool") := by decide +kernel
theorem bAll : bootBuiltins "all" = some (.builtin "all") := by decide +kernel
/-- more names that are the built-ins' own -/
structure Blt2 (mg : Str → Option Value) : Prop where
  str : mg "str" = none
  bool : mg "bool" = none
  sorted : mg "sorted" = none
  isi : mg "isinstance" = none
  all : mg "all" = none
  dict : mg "dict" = none
/-- the keys of a dict, all texts -/
def keysOf (kvs : List (Key × V)) (ks : List Str) : Prop := kvs.map (·.1) = ks.map Sum.inr ∧ ks.Nodup
theorem keysOf.len {kvs : List (Key × V)} {ks : List Str} (h : keysOf kvs ks) : kvs.length = ks.length := by
  have e := congrArg List.length h.1
  rw [List.length_map, List.length_map] at e
  exact e
theorem keysOf.at {kvs : List (Key × V)} {ks : List Str} (h : keysOf kvs ks) {i : Nat} {k : Key} {v : V} (e : kvs[i]? = some (k, v)) : ∃ z, k = Sum.inr z ∧ ks[i]? = some z := by
  have e2 : (kvs.map (·.1))[i]? = some k := by rw [List.getElem?_map, e]; rfl
  rw [h.1, List.getElem?_map] at e2
  cases e3 : ks[i]? with
  | none => rw [e3] at e2; cases e2
  | some z => rw [e3] at e2; exact ⟨z, (Option.some.inj e2).symm, rfl⟩
theorem valV_none {kvs : List (Key × V)} {k : Key} (h : k ∉ kvs.map (·.1)) : valV kvs k = none := by
  unfold valV
  rw [List.find?_eq_none.mpr (fun x hx => ?_)]
  · rfl
  · simp only [decide_eq_true_eq]
    exact fun e => h (List.mem_map.mpr ⟨x, hx, e⟩)
theorem not_in_take {ks : List Str} (nd : ks.Nodup) {i : Nat} {z : Str} (e : ks[i]? = some z) : z ∉ ks.take i := by
  intro h
  obtain ⟨j, hj, ej⟩ := List.getElem_of_mem h
  have hji : j < i := by rw [List.length_take] at hj; omega
  obtain ⟨hi, ei⟩ := List.getElem?_eq_some_iff.mp e
  rw [List.getElem_take] at ej
  have := (List.getElem_inj nd).mp (ej.trans ei.symm)
  omega
def spAsc : Sp := fun vs H Q _ => ∃ (a : Addr) (kvs : List (Key × V)) (ks : List Str), vs = [.ref a] ∧ H a = some (.dK kvs) ∧ keysOf kvs ks ∧ ks.length ≤ 1000 ∧
  ∀ H' p ys, Same H H' → H p = none → H' p = some (.lst (ys.map V.str)) → ys.Perm ks → sortedS ys = true → Q (.ref p) H'
section
variable {P : Program} {w : World} {K : PySem.W.Frag} {mg : Str → Option Value} {base : Heap}
abbrev nAsc : List Str := ["words", "found", "word"]
theorem scAsc : FnScope nAsc ["words"] (defScope sAsc) := ⟨rfl, rfl, rfl, by decide +kernel, rfl, by decide +kernel, by decide +kernel⟩
theorem ok_asc {f : Addr} {fd : FuncData} (F : Fun K "ascending" "ascending" sAsc f fd) (B : Blt2 mg) : FnOk P w K mg base CX0 1 f fd ["words"] spAsc := by
  refine F.ok scAsc (fun vs H Q E h => ?_) (fun cdv A outer s H vs Q E hr h => ?_)
  · obtain ⟨a, kvs, ks, rfl, _⟩ := h
    rfl
  · obtain ⟨a, kvs, ks, rfl, ha, hk, hl, k⟩ := h
    have nd : nAsc.Nodup := scAsc.nd
    refine ⟨_, pss_cons (ps_lock (ps_setDc (i := 1) (own := [("word", 2)]) (g := gName 2) (tt := tYes) rfl nd rfl rfl (sw_trueD rfl rfl rfl (by decide +kernel)) (pi_keys (pv 0)) (blkOk_by (N := nAsc) (sc := defScope sAsc) (by decide +kernel))
        (fun _ _ _ _ _ => pg_name (i := 2) nd rfl (Or.inl rfl)) (fun _ _ _ _ _ => pts_nil) (fun _ _ _ _ _ => pv 2) (fun _ _ _ _ _ => pe_bl)))
      (pss_one (ps_ret (pe_callBK (cr_sortedDK rfl) (by rfl) B.sorted bSorted (pa_cons (pv 1) pa_nil) (pk_cons (pe_bltn (v := .ty "str") (by rfl) B.str bStr0 rfl) pk_nil)))), ?_⟩
    refine seq_step (fun σ' H' => ∃ (D : Addr) (es : List (Key × V)), σ' = [some (.ref a), some (.ref D), none] ∧ H' D = some (.dK es) ∧ es.map (·.1) = ks.map Sum.inr ∧ Same H H' ∧ H D = none) (fun R hR => ?_) (fun σ1 H1 h1 => ?_)
    · refine ⟨a, _, ha, trivial, fun od => ⟨_, rfl, a, od, rfl, .inl ⟨kvs, upd_same, fun D hD => ?_⟩⟩⟩
      have nDa : D ≠ a := fun e => by rw [e, upd_same] at hD; cases hD
      have hD0 : H D = none := by rw [upd_ne nDa] at hD; exact hD
      refine dc_it (walk_keys (d := a) (o := od) (kvs := kvs)) (fun i H' => ∃ es : List (Key × V), H' D = some (.dK es) ∧ es.map (·.1) = (ks.take i).map Sum.inr ∧ H' a = some (.frz od (.dK kvs)) ∧ ∀ b o, H b = some o → b ≠ a → H' b = some o)
        ⟨[], upd_same, rfl, by rw [upd_ne nDa.symm, upd_same], fun b o eb nb => by rw [upd_ne (ne_of_none eb hD0), upd_ne nb]; exact eb⟩ (fun i H' _ ⟨es, _, _, e, _⟩ => e) ?_ ?_
      · rintro i x H2 H3 hi ⟨es, eD, ek, ea, keep⟩ ⟨rfl, key, v, hkv, rfl⟩
        obtain ⟨z, rfl, hz⟩ := hk.at hkv
        refine ⟨rfl, _, rfl, es, Sum.inr z, rfl, eD, ?_, _, upd_same, ?_, by rw [upd_ne nDa.symm]; exact ea, fun b o eb nb => by rw [upd_ne (ne_of_none eb hD0)]; exact keep b o eb nb⟩
        · have := congrArg List.length ek
          rw [List.length_map, List.length_map, List.length_take] at this
          exact Nat.lt_of_le_of_lt (by omega : es.length ≤ 1000) (by decide)
        · have hn : (Sum.inr z : Key) ∉ es.map (·.1) := by
            rw [ek]
            intro hm
            obtain ⟨y, hy, e⟩ := List.mem_map.mp hm
            exact not_in_take hk.2 hz (Sum.inr.inj e ▸ hy)
          rw [putK_new _ (valV_none hn), List.map_append, ek, List.take_add_one, hz]
          simp
      · rintro H2 ⟨es, eD, ek, ea, keep⟩
        refine ⟨ea, hR _ _ ⟨D, es, rfl, by rw [upd_ne nDa]; exact eD, ?_, fun b o eb => ?_, hD0⟩⟩
        · rw [ek, hk.len, List.take_of_length_le (Nat.le_refl _)]
        · by_cases e : b = a
          · rw [e, upd_same, ← ha, ← e, eb]
          · rw [upd_ne e]
            exact keep b o eb e
    obtain ⟨D, es, rfl, eD, ek, same, hD0⟩ := h1
    refine ⟨_, rfl, D, es, ks, rfl, rfl, .inl eD, ek, Nat.lt_of_le_of_lt hl (by decide), fun ys p perm srt hp => ?_⟩
    have hpH : H p = none := by
      cases e : H p with
      | none => rfl
      | some o => rw [same _ _ e] at hp; cases hp
    exact k _ p ys (fun b o eb => by rw [upd_ne (ne_of_none (same _ _ eb) hp)]; exact same _ _ eb) hpH upd_same perm srt
end
end Ld
namespace Ld
open PySem PySem.Spec PyProof.Rows L2
def spIsInt (K : PySem.W.Frag) : Sp := fun vs H Q _ => ∃ (x : V) (t : Value) (b1 b2 : Bool), vs = [x] ∧ TyX K H x t ∧ PySem.W.kitOne K t (.type "int") = some b1 ∧ PySem.W.kitOne K t (.type "bool") = some b2 ∧ Q (.bl (b1 && !b2)) H
theorem isInt_int {K : PySem.W.Frag} {E : Value → Option Addr → Hp → Prop} {i : Int} {H : Hp} {Q : VK} (q : Q (.bl true) H) : spIsInt K [.int i] H Q E :=
  ⟨.int i, .type "int", true, false, rfl, .base (.int i), kit_ty (by decide +kernel), kit_ty (by decide +kernel), q⟩
/-- a letter from a to z -/
def azB (c : Nat) : Bool := decide (97 ≤ c) && decide (c ≤ 122)
def wordB (z : Str) : Bool := decide (1 ≤ z.length) && decide (z.length ≤ 8) && z.cps.toList.all azB
theorem Wd.word {z : Str} (h : Wd 1 8 z) : wordB z = true := by
  unfold wordB
  rw [Bool.and_eq_true, Bool.and_eq_true, decide_eq_true_eq, decide_eq_true_eq, List.all_eq_true]
  refine ⟨⟨h.l0, h.l1⟩, fun c hc => ?_⟩
  have := h.az c hc
  unfold azB
  rw [Bool.and_eq_true, decide_eq_true_eq, decide_eq_true_eq]
  exact this
theorem wordB_len {z : Str} (h : wordB z = true) : 1 ≤ z.length ∧ z.length ≤ 8 := by
  unfold wordB at h
  rw [Bool.and_eq_true, Bool.and_eq_true, decide_eq_true_eq, decide_eq_true_eq] at h
  exact h.1
def spIsWord (K : PySem.W.Frag) : Sp := fun vs H Q _ => ∃ x, vs = [x] ∧ ((∃ z : Str, x = .str z ∧ z.length ≤ sizeLine ∧ ∀ H', Same H H' → Q (.bl (wordB z)) H') ∨
  ∃ t, TyX K H x t ∧ PySem.W.kitOne K t (.type "str") = some false ∧ Q (.bl false) H)
theorem lt_one (a c : Nat) : decide ([a] < [c]) = decide (a < c) := by
  apply decide_eq_decide.mpr
  constructor
  · intro h
    rcases List.cons_lt_cons_iff.mp h with h | ⟨_, h⟩
    · exact h
    · exact absurd h (by simp)
  · intro h
    exact List.cons_lt_cons_iff.mpr (.inl h)
theorem az_chain (c : Nat) : (if (!decide (c < 97)) = true then (!decide (122 < c)) else false) = azB c := by
  unfold azB
  by_cases h : 97 ≤ c
  · have h1 : ¬ c < 97 := by omega
    by_cases h2 : c ≤ 122
    · have h3 : ¬ 122 < c := by omega
      simp [h, h1, h2, h3]
    · have h3 : 122 < c := by omega
      simp [h, h1, h2, h3]
  · have h1 : c < 97 := by omega
    simp [h, h1]
section
variable {P : Program} {w : World} {K : PySem.W.Frag} {mg : Str → Option Value} {base : Heap}
theorem scIsInt : FnScope ["value"] ["value"] (defScope sIsInt) := ⟨rfl, rfl, rfl, by decide +kernel, rfl, by decide +kernel, by decide +kernel⟩
theorem ok_isInt {f : Addr} {fd : FuncData} (F : Fun K "is_integer" "is_integer" sIsInt f fd) (B : Blt2 mg) (mInt : mg "int" = none) : FnOk P w K mg base CX0 1 f fd ["value"] (spIsInt K) := by
  refine F.ok scIsInt (fun vs H Q E h => ?_) (fun cdv A outer s H vs Q E hr h => ?_)
  · obtain ⟨x, _, _, _, rfl, _⟩ := h
    rfl
  · obtain ⟨x, t, b1, b2, rfl, ty, k1, k2, q⟩ := h
    refine ⟨_, pss_one (ps_ret (pe_and (pe_callB call_isi (by rfl) B.isi bIsi (pa_cons (pv 0) (pa_cons (pe_bltn (v := .ty "int") (by rfl) mInt bInt rfl) pa_nil)))
      (pe_one (pe_not (pe_callB call_isi (by rfl) B.isi bIsi (pa_cons (pv 0) (pa_cons (pe_bltn (v := .ty "bool") (by rfl) B.bool bBool rfl) pa_nil))))))), ?_⟩
    refine ⟨_, rfl, x, _, t, _, b1, rfl, .ty _, ty, k1, b1, rfl, ifb (fun e => ?_) (fun e => ?_)⟩
    · subst e
      exact ⟨_, rfl, x, _, t, _, b2, rfl, .ty _, ty, k2, b2, rfl, q⟩
    · subst e
      exact q
abbrev nIsWord : List Str := ["value", "letter"]
theorem scIsWord : FnScope nIsWord ["value"] (defScope sIsWord) := ⟨rfl, rfl, rfl, by decide +kernel, rfl, by decide +kernel, by decide +kernel⟩
theorem ok_isWord {f : Addr} {fd : FuncData} (F : Fun K "is_word" "is_word" sIsWord f fd) (B : Blt2 mg) (mLen : mg "len" = none) (mMost : ∃ t, mg "MOST_LETTERS" = some (.int 8 t)) : FnOk P w K mg base CX0 1 f fd ["value"] (spIsWord K) := by
  obtain ⟨t8, mMost⟩ := mMost
  refine F.ok scIsWord (fun vs H Q E h => ?_) (fun cdv A outer s H vs Q E hr h => ?_)
  · obtain ⟨x, rfl, _⟩ := h
    rfl
  · obtain ⟨x, rfl, h⟩ := h
    have nd : nIsWord.Nodup := scIsWord.nd
    refine ⟨_, pss_cons (ps_if (PW.pt (pw_or (pt_not (pt_truth (pe_callB call_isi (by rfl) B.isi bIsi (pa_cons (pv 0) (pa_cons (pe_bltn (v := .ty "str") (by rfl) B.str bStr0 rfl) pa_nil))) (fun _ => rfl)))
        (pw_or1 (pt_not (pt_chain op_le op_le pe_int (pe_callB call_len_str (by rfl) mLen PySem.boot_len (pa_cons (pv 0) pa_nil)) (pe_glob (v := .int 8) (by rfl) mMost ⟨_, rfl⟩)))))) (pss_one (ps_ret pe_bl)) pss_nil)
      (pss_one (ps_ret (pe_callB (cr_all rfl) (by rfl) B.all bAll (pa_cons (pe_lc (own := [("letter", 1)]) (g := gName 1) (tt := tYes) rfl nd (pi_str (pv 0)) (blkOk_by (N := nIsWord) (sc := defScope sIsWord) (by decide +kernel))
        (fun _ _ _ _ _ => pg_name (i := 1) nd rfl (Or.inl rfl)) (fun _ _ _ _ _ => pts_nil) (fun _ _ _ _ _ => pe_chain op_le_str op_le_str pe_str (pv 1) pe_str)) pa_nil)))), ?_⟩
    rcases h with ⟨z, rfl, hz, k⟩ | ⟨t, ty, kt, q⟩
    · refine ⟨_, rfl, _, _, _, _, true, rfl, .ty _, .base (.str z), kit_ty (by decide +kernel), true, rfl, ?_⟩
      have qF : wordB z = false → Q (.bl false) H := fun e => by
        have := k H (fun _ _ e => e)
        rw [e] at this
        exact this
      refine ⟨_, rfl, _, rfl, hz, _, _, rfl, rfl, _, rfl, ifd (fun c1 => ?_) (fun c1 => ?_)⟩
      · refine ⟨_, _, rfl, rfl, _, rfl, ifb (fun c2 => ?_) (fun c2 => ?_)⟩
        · rw [Bool.not_eq_true', decide_eq_false_iff_not] at c2
          refine qF ?_
          cases e : wordB z with
          | false => rfl
          | true =>
            have := wordB_len e
            omega
        · rw [Bool.not_eq_false', decide_eq_true_eq] at c2
          refine ⟨_, rfl, z, rfl, fun D hD => ?_⟩
          refine lc_it walk_str (fun i H' => H' D = some (.lst ((z.cps.toList.take i).map fun c => V.bl (azB c))) ∧ Same H H') ⟨upd_same, same_new hD⟩ (fun _ _ _ _ => trivial) ?_ ?_
          · rintro i x H2 H3 hi ⟨eD, same⟩ ⟨rfl, ch, hch, rfl⟩
            have hch2 : z.cps.toList[i]? = some ch := by rw [Array.getElem?_toList]; exact hch
            have nx : ∀ b : Bool, b = azB ch → ∃ acc, H3 D = some (.lst acc) ∧ acc.length < sizeLine ∧ (upd H3 D (.lst (acc ++ [V.bl b]))) D = some (.lst ((z.cps.toList.take (i + 1)).map fun c => V.bl (azB c))) ∧ Same H (upd H3 D (.lst (acc ++ [V.bl b]))) := by
              rintro b rfl
              refine ⟨_, eD, ?_, ?_, fun b o eb => by rw [upd_ne (ne_of_none eb hD)]; exact same _ _ eb⟩
              · rw [List.length_map, List.length_take]
                have : z.cps.size = z.length := rfl
                exact Nat.lt_of_le_of_lt (by omega : _ ≤ 8) (by decide)
              · rw [upd_same, List.take_add_one, hch2]
                simp
            refine ⟨rfl, _, rfl, _, _, rfl, rfl, _, rfl, ?_⟩
            have e1 : decide ((⟨#[ch]⟩ : Str).cps.toList < (("a" : Str)).cps.toList) = decide (ch < 97) := lt_one ch 97
            have e2 : decide ((("z" : Str)).cps.toList < (⟨#[ch]⟩ : Str).cps.toList) = decide (122 < ch) := lt_one 122 ch
            have ech := az_chain ch
            refine ifb (fun c3 => ?_) (fun c3 => ?_)
            · rw [e1] at c3
              rw [if_pos c3] at ech
              exact ⟨_, _, rfl, rfl, nx _ (by rw [← ech, e2])⟩
            · rw [e1] at c3
              rw [if_neg (by rw [c3]; decide)] at ech
              exact nx _ ech
          · rintro H2 ⟨eD, same⟩
            have eA : (z.cps.toList.take z.cps.size).map (fun c => V.bl (azB c)) = (z.cps.toList.map azB).map V.bl := by
              have : z.cps.toList.length = z.cps.size := Array.length_toList
              rw [List.take_of_length_le (by omega), List.map_map]
              rfl
            rw [eA] at eD
            refine ⟨D, _, rfl, .inl (.inl eD), ?_⟩
            have e : (z.cps.toList.map azB).all id = wordB z := by
              unfold wordB
              have c0 : 1 ≤ z.length := by omega
              rw [decide_eq_true c0, decide_eq_true (by omega : z.length ≤ 8), List.all_map]
              rfl
            have := k H2 same
            rw [← e] at this
            exact this
      · refine ⟨_, rfl, ?_⟩
        refine qF ?_
        cases e : wordB z with
        | false => rfl
        | true =>
          have := wordB_len e
          omega
    · refine ⟨_, rfl, x, _, t, _, false, rfl, .ty _, ty, kt, false, rfl, ?_⟩
      exact q
end
end Ld
namespace Ld
open PySem PySem.Spec PyProof.Rows L2
/-! ### what is never reached -/
theorem ps_never {X : Cx} {st : Stmt} : PS X st (fun _ _ _ => False) := ⟨fun _ _ _ _ _ _ h => False.elim h⟩
/-! ### counts -/
def cD (ps : List (Str × Int)) : List (Key × V) := ps.map fun p => (Sum.inr p.1, V.int p.2)
def ctO (ps : List (Str × Int)) (z : Str) : Option Int := (ps.find? fun p => decide (p.1 = z)).map (·.2)
def ct (ps : List (Str × Int)) (z : Str) : Int := (ctO ps z).getD 0
theorem valV_cD (ps : List (Str × Int)) (z : Str) : valV (cD ps) (Sum.inr z : Key) = (ctO ps z).map V.int := by
  unfold valV ctO cD
  induction ps with
  | nil => rfl
  | cons p r ih =>
    rw [List.map_cons, List.find?_cons, List.find?_cons]
    by_cases h : p.1 = z
    · rw [decide_eq_true (by rw [h] : (Sum.inr p.1 : Key) = Sum.inr z), decide_eq_true h]
      rfl
    · rw [decide_eq_false (fun e => h (Sum.inr.inj e)), decide_eq_false h]
      exact ih
theorem ctO_some {ps : List (Str × Int)} {z : Str} (h : z ∈ ps.map (·.1)) : ctO ps z = some (ct ps z) := by
  unfold ct
  cases e : ctO ps z with
  | some i => rfl
  | none =>
    exfalso
    unfold ctO at e
    rw [Option.map_eq_none_iff, List.find?_eq_none] at e
    obtain ⟨p, hp, rfl⟩ := List.mem_map.mp h
    exact e p hp (decide_eq_true rfl)
theorem ctO_none {ps : List (Str × Int)} {z : Str} (h : z ∉ ps.map (·.1)) : ctO ps z = none := by
  unfold ctO
  rw [Option.map_eq_none_iff, List.find?_eq_none]
  intro p hp e
  exact h (List.mem_map.mpr ⟨p, hp, of_decide_eq_true e⟩)
theorem cD_keys (ps : List (Str × Int)) : (cD ps).map (·.1) = (ps.map (·.1)).map Sum.inr := by
  unfold cD
  rw [List.map_map, List.map_map]
  rfl
theorem cD_len (ps : List (Str × Int)) : (cD ps).length = ps.length := List.length_map ..
theorem cD_put {ps : List (Str × Int)} {z : Str} {i : Int} (h : z ∉ ps.map (·.1)) : putK (cD ps) (Sum.inr z : Key) (.int i) = cD (ps ++ [(z, i)]) := by
  rw [putK_new]
  · unfold cD
    rw [List.map_append]
    rfl
  · rw [valV_cD, ctO_none h]
    rfl
/-- the counts other than 0, in the order of ys -/
def tidy (ps : List (Str × Int)) (ys : List Str) : List (Str × Int) := (ys.map fun z => (z, ct ps z)).filter fun q => q.2 != 0
def spCheck : Sp := fun vs H Q _ => ∃ (a : Addr) (ps : List (Str × Int)), vs = [.ref a] ∧ H a = some (.dK (cD ps)) ∧ (ps.map (·.1)).Nodup ∧ ps.length ≤ 1000 ∧ (∀ p ∈ ps, wordB p.1 = true) ∧
  ∀ H', Same H H' → Q .non H'
def spTidy : Sp := fun vs H Q _ => ∃ (a : Addr) (ps : List (Str × Int)), vs = [.ref a] ∧ H a = some (.dK (cD ps)) ∧ (ps.map (·.1)).Nodup ∧ ps.length ≤ 1000 ∧
  ∀ H' p ys, Same H H' → H p = none → ys.Perm (ps.map (·.1)) → sortedS ys = true → H' p = some (.dK (cD (tidy ps ys))) → Q (.ref p) H'
abbrev sCheck : Stmt := top 15
abbrev sTidy : Stmt := top 16
section
variable {P : Program} {w : World} {K : PySem.W.Frag} {mg : Str → Option Value} {base : Heap}
abbrev nCheck : List Str := ["counts", "kind"]
theorem scCheck : FnScope nCheck ["counts"] (defScope sCheck) := ⟨rfl, rfl, rfl, by decide +kernel, rfl, by decide +kernel, by decide +kernel⟩
theorem scTidy : FnScope nCheck ["counts"] (defScope sTidy) := ⟨rfl, rfl, rfl, by decide +kernel, rfl, by decide +kernel, by decide +kernel⟩
theorem ok_check {f : Addr} {fd : FuncData} (F : Fun K "check_counts" "check_counts" sCheck f fd) (HA : Has P w K mg base 1 "ascending" ["words"] spAsc) (HW : Has P w K mg base 1 "is_word" ["value"] (spIsWord K)) (HI : Has P w K mg base 1 "is_integer" ["value"] (spIsInt K)) :
    FnOk P w K mg base CX0 2 f fd ["counts"] spCheck := by
  obtain ⟨g1, gd1, G1, b1, m1, k1⟩ := HA
  obtain ⟨g2, gd2, G2, b2, m2, k2⟩ := HW
  obtain ⟨g3, gd3, G3, b3, m3, k3⟩ := HI
  refine F.ok scCheck (fun vs H Q E h => ?_) (fun cdv A outer s H vs Q E hr h => ?_)
  · obtain ⟨a, ps, rfl, _⟩ := h
    rfl
  · obtain ⟨a, ps, rfl, ha, nk, hl, hw, k⟩ := h
    have nd : nCheck.Nodup := scCheck.nd
    refine ⟨_, pss_one (ps_for PassesOwn.never rfl (pi_list (pe_call G1 hr (by rfl) m1 k1 b1 .nil pass0 (pa_cons (pv 0) pa_nil))) (pg_name (i := 1) nd rfl (Or.inl rfl))
      (pss_one (ps_if (PW.pt (pw_or (pt_not (pt_truth (pe_call G2 hr (by rfl) m2 k2 b2 .nil pass0 (pa_cons (pv 1) pa_nil)) (fun _ => rfl)))
        (pw_or1 (pt_not (pt_truth (pe_call G3 hr (by rfl) m3 k3 b3 .nil pass0 (pa_cons (pe_dget (hu_of hr) (pv 0) (pv 1) (fun _ _ => rfl)) pa_nil)) (fun _ => rfl)))))) (pss_one ps_never) pss_nil))), ?_⟩
    refine ⟨_, rfl, a, cD ps, ps.map (·.1), rfl, ha, ⟨cD_keys ps, nk⟩, by rw [List.length_map]; exact hl, fun H1 p ys same1 hp0 hp perm srt => ?_⟩
    refine ⟨p, rfl, ⟨_, .inl (.inl hp)⟩, for_list (xs := ys.map V.str) (fun i σ H' => (∃ x, σ = [some (.ref a), x]) ∧ Same H1 H') ⟨⟨_, rfl⟩, fun _ _ e => e⟩ (fun i σ H' _ h => .inl (.inl (h.2 _ _ hp))) ?_ ?_⟩
    · rintro i x σ H2 hx ⟨⟨x0, rfl⟩, same2⟩
      obtain ⟨z, hz, rfl⟩ := List.mem_map.mp (List.mem_of_getElem? hx)
      have hz2 : z ∈ ps.map (·.1) := perm.mem_iff.mp hz
      obtain ⟨q, hq, eq⟩ := List.mem_map.mp hz2
      have hwz : wordB z = true := by rw [← eq]; exact hw q hq
      refine ⟨_, rfl, .str z, rfl, .inl ⟨z, rfl, Nat.le_trans (wordB_len hwz).2 (by decide), fun H3 same3 => ?_⟩⟩
      rw [hwz]
      have ha3 : H3 a = some (.dK (cD ps)) := same3 _ _ (same2 _ _ (same1 _ _ ha))
      refine ⟨true, rfl, ?_⟩
      refine ⟨_, rfl, _, rfl, a, .int (ct ps z), rfl, .inl ⟨cD ps, Sum.inr z, .inl ha3, rfl, ?_⟩, ?_⟩
      · rw [valV_cD, ctO_some hz2]
        rfl
      · exact ⟨.int (ct ps z), .type "int", true, false, rfl, .base (.int _), kit_ty (by decide +kernel), kit_ty (by decide +kernel), true, rfl, ⟨_, rfl⟩, fun b o e => same3 _ _ (same2 _ _ e)⟩
    · rintro σ H2 ⟨⟨x0, rfl⟩, same2⟩
      exact k _ fun b o e => same2 _ _ (same1 _ _ e)
theorem ok_tidy {f : Addr} {fd : FuncData} (F : Fun K "tidy_counts" "tidy_counts" sTidy f fd) (HA : Has P w K mg base 1 "ascending" ["words"] spAsc) :
    FnOk P w K mg base CX0 2 f fd ["counts"] spTidy := by
  obtain ⟨g1, gd1, G1, b1, m1, k1⟩ := HA
  refine F.ok scTidy (fun vs H Q E h => ?_) (fun cdv A outer s H vs Q E hr h => ?_)
  · obtain ⟨a, ps, rfl, _⟩ := h
    rfl
  · obtain ⟨a, ps, rfl, ha, nk, hl, k⟩ := h
    have nd : nCheck.Nodup := scTidy.nd
    refine ⟨_, pss_one (ps_ret (pe_dc (own := [("kind", 1)]) (g := gName 1) rfl nd (pi_list (pe_call G1 hr (by rfl) m1 k1 b1 .nil pass0 (pa_cons (pv 0) pa_nil))) (blkOk_by (N := nCheck) (sc := defScope sTidy) (by decide +kernel))
        (fun _ _ _ _ _ => pg_name (i := 1) nd rfl (Or.inl rfl)) (fun _ _ _ _ _ => pts_one (pt_cmpR op_ne (pe_dget (hu_of hr) (pv 0) (pv 1) (fun _ _ => rfl)) pe_int (nomark _))) (fun _ _ _ _ _ => pv 1) (fun _ _ _ _ _ => pe_dget (hu_of hr) (pv 0) (pv 1) (fun _ _ => rfl)))), ?_⟩
    refine ⟨_, rfl, a, cD ps, ps.map (·.1), rfl, ha, ⟨cD_keys ps, nk⟩, by rw [List.length_map]; exact hl, fun H1 p ys same1 hp0 hp perm srt => ?_⟩
    have ndy : ys.Nodup := perm.nodup_iff.mpr nk
    refine ⟨p, rfl, ⟨_, .inl (.inl hp)⟩, fun D hD => ?_⟩
    refine dc_it (walk_list (xs := ys.map V.str)) (fun i H' => H' D = some (.dK (cD (tidy ps (ys.take i)))) ∧ Same H1 H') ⟨upd_same, same_new hD⟩ (fun i H' _ h => .inl (.inl (h.2 _ _ hp))) ?_ ?_
    · rintro i x H2 H3 hi ⟨eD, same2⟩ ⟨rfl, hx⟩
      rw [List.getElem?_map] at hx
      obtain ⟨z, hz, rfl⟩ : ∃ z, ys[i]? = some z ∧ x = V.str z := by
        cases e : ys[i]? with
        | none => rw [e] at hx; cases hx
        | some z => rw [e] at hx; exact ⟨z, rfl, (Option.some.inj hx).symm⟩
      have hz2 : z ∈ ps.map (·.1) := perm.mem_iff.mp (List.mem_of_getElem? hz)
      have ha3 : H3 a = some (.dK (cD ps)) := same2 _ _ (same1 _ _ ha)
      have hget : DGet H3 a (.str z) (some (.int (ct ps z))) := .inl ⟨cD ps, Sum.inr z, .inl ha3, rfl, by rw [valV_cD, ctO_some hz2]; rfl⟩
      have et : tidy ps (ys.take (i + 1)) = tidy ps (ys.take i) ++ (if ct ps z != 0 then [(z, ct ps z)] else []) := by
        unfold tidy
        rw [List.take_add_one, hz, List.map_append, List.filter_append]
        congr 1
        show List.filter _ [(z, ct ps z)] = _
        rw [List.filter_cons]
        rfl
      refine ⟨rfl, _, rfl, _, rfl, a, _, rfl, hget, rfl, _, rfl, ifb (fun c => ?_) (fun c => ?_)⟩
      · have cz : (ct ps z != 0) = true := by
          rw [bne_iff_ne]
          intro e
          rw [e] at c
          revert c
          decide +kernel
        refine ⟨_, rfl, _, rfl, _, rfl, a, _, rfl, hget, _, Sum.inr z, rfl, eD, ?_, ?_, fun b o eb => by rw [upd_ne (ne_of_none eb hD)]; exact same2 _ _ eb⟩
        · rw [cD_len]
          have h1 : (tidy ps (ys.take i)).length ≤ ys.length := by
            unfold tidy
            refine Nat.le_trans (List.length_filter_le _ _) ?_
            rw [List.length_map, List.length_take]
            omega
          rw [perm.length_eq, List.length_map] at h1
          exact Nat.lt_of_le_of_lt (Nat.le_trans h1 hl) (by decide)
        · rw [upd_same, cD_put, et, if_pos cz]
          intro hm
          obtain ⟨q, hq, e⟩ := List.mem_map.mp hm
          obtain ⟨y, hy, e2⟩ := List.mem_map.mp (List.mem_filter.mp hq).1
          have : y = z := by rw [← e, ← e2]
          exact not_in_take ndy hz (this ▸ hy)
      · have cz : ¬ (ct ps z != 0) = true := by
          rw [Bool.not_eq_false', decide_eq_true_eq] at c
          rw [bne_iff_ne]
          exact fun e => e (V.int.inj c)
        refine ⟨?_, same2⟩
        rw [eD, et, if_neg cz, List.append_nil]
    · rintro H2 ⟨eD, same2⟩
      rw [List.take_of_length_le (by rw [List.length_map]; exact Nat.le_refl _)] at eD
      refine k H2 D ys (fun b o e => same2 _ _ (same1 _ _ e)) ?_ perm srt eD
      cases e : H D with
      | none => rfl
      | some o => rw [same1 _ _ e] at hD; cases hD
end
end Ld
/-! def f(self, **d): called with keywords -/
namespace Ld
open PySem PySem.Spec PyProof.Rows L2
section
variable {prog : Program} {w : World} {A : Around} {E : Value → Shared → Prop} {d : Addr}
theorem kw_nsSet {s : Shared} {es : List DictEntry} {n : Nat} {k : Str} {v : Value} {Q : Unit → Shared → Prop} (D : s.heap.get? d = some (PySem.W.dictOf es n))
    (hs : ∀ e ∈ es, e.key.isStr k = false) (hr : ∀ e ∈ es, e.refKey = false)
    (h : ∀ h', (∀ b o, b ≠ d → s.heap.get? b = some o → h'.get? b = some o) → h'.objs.size = s.heap.objs.size → h'.get? d = some (PySem.W.dictOf (es ++ [⟨PyData.keyHash w.params k, .str k s.toks, v⟩]) (n + 1)) → Q () { s with heap := h', toks := s.toks + 1 }) :
    wpAny (model prog w) A (nsSet d k v) Q E s := by
  have e1 : es.any (·.key.isStr k) = false := by
    cases q : es.any (·.key.isStr k) with
    | false => rfl
    | true => obtain ⟨e, he, z⟩ := List.any_eq_true.mp q; rw [hs e he] at z; cases z
  have e2 : es.any (·.refKey) = false := by
    cases q : es.any (·.refKey) with
    | false => rfl
    | true => obtain ⟨e, he, z⟩ := List.any_eq_true.mp q; rw [hr e he] at z; cases z
  have e : Obj.putName k (PyData.keyHash w.params k) (.str k s.toks) v (PySem.W.dictOf es n) = PySem.W.dictOf (es ++ [⟨PyData.keyHash w.params k, .str k s.toks, v⟩]) (n + 1) := by
    rw [PySem.W.putName_dict, PySem.W.putL_new hs]
    show PySem.W.dictOf _ (if es.any (·.key.isStr k) then n else n + 1) = _
    rw [e1, if_neg Bool.false_ne_true]
  have c : aRefKeyMayBeTheName k es.toArray = false := by
    rw [aRefKeyMayBeTheName_at, ← Array.any_toList, ← Array.any_toList]
    show (!es.any (·.key.isStr k) && es.any (·.refKey)) = false
    rw [e2, Bool.and_false]
  unfold nsSet
  refine wpAny_bind (wpAny_bind (wpAny_askSetting (wpAny_pure (wpAny_bind (wpAny_mkText (wpAny_bind (wpAny_loadPart D ?_)))))))
  dsimp only
  rw [c]
  refine wpAny_updatePart D (h _ (fun b o hb eb => (Heap.get?_update_ne _ _ _ _ hb).trans eb) (Heap.size_update _ _ _) ?_)
  rw [← e]
  exact Heap.get?_update_self _ D (show (Obj.putName k (PyData.keyHash w.params k) (.str k s.toks) v (PySem.W.dictOf es n)).isFreed = false by rw [e]; rfl)
theorem kw_fill {Q : PUnit → Shared → Prop} : ∀ (ex : List (Str × Value)) (s : Shared) (es : List DictEntry) (n : Nat), s.heap.get? d = some (PySem.W.dictOf es n) →
    (∀ e ∈ es, ∀ x ∈ ex, e.key.isStr x.1 = false) → (∀ e ∈ es, e.refKey = false) → (ex.map (·.1)).Nodup →
    (∀ h', (∀ b o, b ≠ d → s.heap.get? b = some o → h'.get? b = some o) → h'.objs.size = s.heap.objs.size → h'.get? d = some (PySem.W.dictOf (es ++ PySem.W.kwEs w.params s.toks ex) (n + ex.length)) → Q ⟨⟩ { s with heap := h', toks := s.toks + ex.length }) →
    wpAny (model prog w) A (forIn ex PUnit.unit fun x _ => (nsSet d x.1 x.2 >>= fun _ => pure (ForInStep.yield PUnit.unit))) Q E s
  | [], s, es, n, D, _, _, _, h => by
    rw [List.forIn_nil]
    refine wpAny_pure (h s.heap (fun _ _ _ e => e) rfl ?_)
    show s.heap.get? d = some (PySem.W.dictOf (es ++ []) n)
    rw [List.append_nil]
    exact D
  | x :: r, s, es, n, D, hs, hr, hn, h => by
    obtain ⟨hn1, hn2⟩ := List.nodup_cons.mp (show (x.1 :: r.map (·.1)).Nodup from hn)
    rw [List.forIn_cons]
    refine wpAny_bind (wpAny_bind (kw_nsSet D (fun e he => hs e he x (.head _)) hr fun h' k1 z1 D' => wpAny_pure ?_))
    show wpAny (model prog w) A (forIn r PUnit.unit fun x _ => (nsSet d x.1 x.2 >>= fun _ => pure (ForInStep.yield PUnit.unit))) Q E { s with heap := h', toks := s.toks + 1 }
    refine kw_fill r { s with heap := h', toks := s.toks + 1 } _ _ D' (fun e he y hy => ?_) (fun e he => ?_) hn2 fun h'' k2 z2 D'' => ?_
    · rcases List.mem_append.mp he with he | he
      · exact hs e he y (.tail _ hy)
      · obtain rfl := List.mem_singleton.mp he
        show (x.1 == y.1) = false
        exact beq_eq_false_iff_ne.mpr fun q => hn1 (by rw [q]; exact List.mem_map_of_mem hy)
    · rcases List.mem_append.mp he with he | he
      · exact hr e he
      · obtain rfl := List.mem_singleton.mp he
        rfl
    · have t1 : s.toks + 1 + r.length = s.toks + (r.length + 1) := by omega
      have t2 : n + 1 + r.length = n + (r.length + 1) := by omega
      show Q ⟨⟩ { s with heap := h'', toks := s.toks + 1 + r.length }
      rw [t1]
      refine h h'' (fun b o hb eb => k2 b o hb (k1 b o hb eb)) (z2.trans z1) ?_
      rw [t2, List.append_assoc] at D''
      exact D''
theorem kwEs_mix {P : Program} {w : World} : ∀ (ex : List (Str × Value)) (t : Tok), Pairs (mixKind P w) (PySem.W.kwEs w.params t ex) (ex.map fun x => ((Sum.inr x.1 : Key), x.2))
  | [], _ => Pairs.nil
  | x :: r, t => Pairs.cons (keyIs_str x.1 t) rfl (kwEs_mix r (t + 1))
theorem kw_isDict {P : Program} {w : World} {ex : List (Str × Value)} (t : Tok) (n : Nat) (hn : (ex.map (·.1)).Nodup) : (PySem.W.dictOf (PySem.W.kwEs w.params t ex) n).IsDictOf (mixKind P w) (ex.map fun x => ((Sum.inr x.1 : Key), x.2)) := by
  refine ⟨(PySem.W.kwEs w.params t ex).toArray, n, ⟨rfl, rfl, rfl⟩, rfl, fun e he => ?_, kwEs_mix ex t, ?_⟩
  · obtain ⟨k, u, hk, hh⟩ := PySem.W.kwEs_key ex t e (List.mem_toArray.mp he)
    exact ⟨Sum.inr k, by rw [hk]; exact keyIs_str k u, hh.trans rfl⟩
  · rw [List.map_map]
    have e : ((fun x : Key × Value => x.1) ∘ fun x : Str × Value => ((Sum.inr x.1 : Key), x.2)) = (fun x : Str × Value => (Sum.inr x.1 : Key)) := rfl
    rw [e]
    have q : ex.map (fun x : Str × Value => (Sum.inr x.1 : Key)) = (ex.map (·.1)).map Sum.inr := by rw [List.map_map]; rfl
    rw [q]
    exact List.Pairwise.map _ (fun a b hab e => hab (Sum.inr.inj e)) hn
end
/-- the dict of the keywords -/
def kwD (ks : List Str) (zs : List V) : List (Key × V) := (ks.zip zs).map fun p => (Sum.inr p.1, p.2)
theorem kwD_rel : ∀ {ks : List Str} {zs : List V} {ws : List Value}, Vals zs ws → KV (kwD ks zs) ((ks.zip ws).map fun x => ((Sum.inr x.1 : Key), x.2))
  | [], _, _, _ => .nil
  | _ :: _, _, _, .nil => .nil
  | k :: ks, _, _, .cons r t => .cons ⟨rfl, r⟩ (kwD_rel t)
theorem zip_fst {α β : Type} : ∀ {ks : List α} {ws : List β}, ws.length = ks.length → (ks.zip ws).map (·.1) = ks
  | [], [], _ => rfl
  | k :: ks, w :: ws, h => by
    show k :: (ks.zip ws).map (·.1) = k :: ks
    rw [zip_fst (by simpa using h)]
  | [], _ :: _, h => by simp at h
  | _ :: _, [], h => by simp at h
section
variable {CX : CXT} {P : Program} {w : World} {K : PySem.W.Frag} {mg : Str → Option Value} {base : Heap} {k : Nat} {f : Addr} {name qual : Str} {params : Arguments} {body : List Stmt} {scope : Scope} {dV kV doc pm cdv ct oc : Value} {an od : Option Addr}
  {osl : Array (Option Value)} {N : List Str} {p1 pd : Str} {ks : List Str} {sp : Sp}
theorem env0_laid' {A : Around} {outer : List Env} {s : Shared} {H : Hp} {u : HO} {h' : Heap} {t : Nat} (e0 : Env0 P w K mg base A outer s H) (kp : ∀ b x, s.heap.get? b = some x → h'.get? b = some x) (hz : s.heap.objs.size ≤ h'.objs.size)
    (new : ObjOk P w (upd H s.heap.objs.size u) h' s.heap.objs.size u) : Env0 P w K mg base A outer { s with heap := h', toks := t } (upd H s.heap.objs.size u) := by
  refine ⟨e0.frames, e0.mod, fun b x e => ⟨kp b x (e0.bs b x e).1, ?_⟩, Nat.le_trans e0.bsz hz, Heap.FunFrames.of_keeps (fun b x e _ => ⟨x, kp b x e, rfl⟩) e0.funs, fun b hb => ?_, e0.hok.laid kp (Nat.le_refl _) new, e0.bare⟩
  · rw [upd_ne (Nat.ne_of_lt (Heap.lt_size (e0.bs b x e).1))]
    exact (e0.bs b x e).2
  · obtain ⟨_, x, hx, _⟩ := e0.funs.mem hb
    rw [upd_ne (Nat.ne_of_lt (Heap.lt_size hx))]
    exact e0.frf b hb
/-- a call with these keywords -/
def FnK (P : Program) (w : World) (K : PySem.W.Frag) (mg : Str → Option Value) (base : Heap) (CX : CXT) (k : Nat) (f : Addr) (ks : List Str) (sp : Sp) : Prop :=
  ∀ (A : Around) (outer : List Env) (s : Shared) (H : Hp) (us ws : List Value) (vs zs : List V) (Q : VK) (E : XK), Room k A → Env0 P w K mg base A outer s H → Vals vs us → Vals zs ws → zs.length = ks.length → sp (vs ++ zs) H Q E →
    codeAny (model P w) A (.call (.ref f) ⟨us, ks.zip ws⟩) (CR CX outer P w H s Q E) s
/-- def f(self, **d) -/
theorem fn_kw (lk : K.lookup f = some ⟨oc, od, .func (PySem.W.fnOf name qual params body scope dV kV doc pm an cdv ct), osl⟩) (hcd : PySem.W.codeIn K cdv qual = true) (S : FnScope N [p1, pd] scope) (hCX : StX.CXUp CX) (nd : ks.Nodup) (hks : ks.length ≤ sizeLine)
    (hb : ∀ (u : Value) (ws : List Value), ws.length = ks.length → bindArgs (PySem.W.fnOf name qual params body scope dV kV doc pm an cdv ct) ⟨[u], ks.zip ws⟩ =
      ((alloc (PySem.W.dictOf [] 0) : Sem Addr) >>= fun d => (forIn (ks.zip ws) PUnit.unit fun x _ => (nsSet d x.1 x.2 >>= fun _ => pure (ForInStep.yield PUnit.unit))) >>= fun _ => pure [(p1, u), (pd, Value.ref d)]))
    (hbody : ∀ (A : Around) (outer : List Env) (s : Shared) (H : Hp) (vs : List V) (Q : VK) (E : XK), Room k (A.deeper (envOfC qual scope s.heap.objs.size f cdv)) → sp vs H Q E →
      ∃ t, PSs (cxOf CX P w K mg base N qual scope f cdv A outer s H E) body t ∧ t { nx := fun _ H' => Q .non H', rt := Q } (start N vs) H) :
    FnK P w K mg base CX (k + 1) f ks (fun vs H Q E => ∃ v zs, vs = v :: zs ∧ zs.length = ks.length ∧ ∀ d, H d = Option.none → sp [v, V.ref d] (upd H d (.dK (kwD ks zs))) Q E) := by
  intro A outer s H us ws vs zs Q E hr e0 r rz hz hsp
  obtain ⟨v, zs', ev, hl, hq⟩ := hsp
  have hn : H s.heap.objs.size = Option.none := e0.hok.fresh (Nat.le_refl _)
  obtain ⟨e1, e2⟩ : vs = [v] ∧ zs = zs' := by
    have q : zs.length = zs'.length := hz.trans hl.symm
    cases vs with
    | nil =>
      exfalso
      have := congrArg List.length ev
      simp at this
      omega
    | cons x r' =>
      have h1 : x = v := (List.cons.inj ev).1
      have h2 : r' ++ zs = zs' := (List.cons.inj ev).2
      have h3 := congrArg List.length h2
      rw [List.length_append] at h3
      have h4 : r' = [] := List.length_eq_zero_iff.mp (by omega)
      rw [h4] at h2 ⊢
      exact ⟨by rw [h1], h2⟩
  subst e1
  subst e2
  obtain ⟨u, rfl, ru⟩ := vals1 r
  have hl2 : ws.length = ks.length := by rw [← rz.length]; exact hz
  refine StX.run_bnd lk hcd S hr e0 (G := fun xs H2 => ∃ d, H d = Option.none ∧ xs = [v, V.ref d] ∧ H2 = upd H d (.dK (kwD ks zs))) (fun A' Ex Q' h => ?_) fun s2 H2 xs ⟨d, hd, ex, eH⟩ hr' => ?_
  · rw [hb u ws hl2]
    refine wpAny_bind (wpAny_alloc (wpAny_bind ?_))
    refine kw_fill (ks.zip ws) _ [] 0 (Heap.get?_push_size _ rfl) (fun _ he => nomatch he) (fun _ he => nomatch he) (by rw [zip_fst hl2]; exact nd) fun h' kp hz' D => wpAny_pure ?_
    have kp' : ∀ b x, s.heap.get? b = some x → h'.get? b = some x := fun b x e => kp b x (Nat.ne_of_lt (Heap.lt_size e)) (Heap.get?_push_of_some _ e)
    have hsz : s.heap.objs.size ≤ h'.objs.size := by rw [hz']; show _ ≤ (s.heap.push _).objs.size; rw [Heap.size_push]; exact Nat.le_succ _
    have hm : (s.heap.objs.size == sysModules) = false := beq_eq_false_iff_ne.mpr (Ne.symm (Nat.ne_of_lt (StX.env0_big e0)))
    have new : ObjOk P w (upd H s.heap.objs.size (.dK (kwD ks zs))) h' s.heap.objs.size (.dK (kwD ks zs)) := by
      refine ⟨?_, hm, _, kwD_rel rz, Heap.dictOf_iff.mpr ⟨_, D, kw_isDict s.toks _ (by rw [zip_fst hl2]; exact nd)⟩⟩
      unfold kwD
      rw [List.length_map, List.length_zip]
      omega
    exact h { s with heap := h', toks := s.toks + (ks.zip ws).length } (upd H s.heap.objs.size (.dK (kwD ks zs))) [v, V.ref s.heap.objs.size] [u, Value.ref s.heap.objs.size] (env0_laid' (s := s) e0 kp' hsz new) (Un.laid (h := s.heap) kp' (Nat.le_refl _) hn) rfl
      (fun e s' => hCX outer s H _ _ E e s' (Un.laid (h := s.heap) kp' (Nat.le_refl _) hn) kp' rfl) (.cons ru (.cons rfl .nil)) rfl ⟨_, hn, rfl, rfl⟩
  · subst ex eH
    exact hbody A outer s2 _ _ Q E hr' (hq d hd)
end
end Ld
namespace Ld
open PySem PySem.Spec PyProof.Rows L2
/-! ### C(k = v, ..) by a promise of keywords -/
def tMakeQ (C : Addr) (m : Nat) (sp : Sp) (E : XK) (tk : TA) : TE := fun σ H Q => tk σ H fun zs H2 => zs.length = m ∧ ∀ x dx, H2 x = Option.none → H2 dx = Option.none → dx ≠ x →
  sp (V.ref x :: zs) (upd (upd H2 dx (.own x)) x (.ins C dx [])) (fun v H3 => v = .non ∧ Q (.ref x) H3) E
section
variable {X : Cx} {CX : CXT} {k n : Nat} {f C : Addr} {ks : List Str} {sp : Sp} {E : XK} {x : Str} {p pos : Pos} {kws : List Keyword} {tk : TA}
theorem run_makeQ {pins : List (Addr × Obj)} {σ : L2.St} {H : Hp} {s : Shared} {Q : VK} {ws : List Value} {zs : List V} (M : Mk X.K C f) (F : FnK X.prog X.w X.K X.mg X.base CX k f ks sp) (hr : Room (k + 1) X.A) (hx : Passes CX X E)
    (I : Inv X pins σ H s) (rz : Vals zs ws) (l2 : zs.length = ks.length)
    (h : ∀ x dx, H x = Option.none → H dx = Option.none → dx ≠ x → sp (V.ref x :: zs) (upd (upd H dx (.own x)) x (.ins C dx [])) (fun v H2 => v = .non ∧ Q (.ref x) H2) E) :
    wpAny (model X.prog X.w) X.A (call (.ref C) [] (ks.zip ws)) (EP X pins σ Q) X.xe s := by
  have hq := h (s.heap.objs.size + 1) s.heap.objs.size (I.hok.fresh (Nat.le_succ _)) (I.hok.fresh (Nat.le_refl _)) (Nat.ne_of_lt (Nat.lt_succ_self _))
  have I2 := Inv.made (C := C) I
  refine wpAny_call (make_map (f := f) I.kIn M.makes M.init (beq_iff_eq.mp M.fn) (codeAny_mono (F _ X.stack _ _ [Value.ref (s.heap.objs.size + 1)] ws [V.ref (s.heap.objs.size + 1)] zs _ E (hr.make C [] (ks.zip ws))
    (I2.env0.make C [] (ks.zip ws)) (.cons rfl .nil) rz l2 hq) fun r s' hq' => ?_))
  cases r with
  | error e => exact hx pins σ _ _ e s' I2 hq'
  | ok fl =>
    cases fl with
    | ret u =>
      obtain ⟨v, H', I3, rv, ev, q3⟩ := I2.after hq'
      subst ev
      exact ⟨rv, ⟨V.ref (s.heap.objs.size + 1), H', I3, rfl, q3⟩⟩
    | next => exact False.elim hq'
    | brk => exact False.elim hq'
    | cont => exact False.elim hq'
theorem pe_makeQ0 (M : Mk X.K C f) (F : FnK X.prog X.w X.K X.mg X.base CX k f [] sp) (hr : Room (k + 1) X.A) (hg : Gl X x) (hm : X.mg x = some (.ref C)) (hx : Passes CX X E)
    (hdb : (x == ("__debug__" : Str)) = false := by decide) : PE X (.Call (.Name x p) [] [] pos) (tMakeQ C 0 sp E tNil) := by
  refine ⟨fun pins s σ H Q I h => ?_⟩
  refine wpAny_Call_Name_kw (ld_glob I hg hm ?_ hdb)
  exact PySem.W.callWith_K0 I.kIn M.kp (run_makeQ (ws := []) (zs := []) M F hr hx I .nil rfl h.2)
theorem pe_makeQ (M : Mk X.K C f) (F : FnK X.prog X.w X.K X.mg X.base CX k f ks sp) (hr : Room (k + 1) X.A) (hg : Gl X x) (hm : X.mg x = some (.ref C)) (hx : Passes CX X E) (hkw : PK X kws tk)
    (hall : (backToKw pos (keywordEach kws X.env)).all (·.1.isSome) = true := by rfl) (hks : (backToKw pos (keywordEach kws X.env)).filterMap (·.1) = ks := by rfl) (hdb : (x == ("__debug__" : Str)) = false := by decide)
    (hpl : ((backTo pos (starEach [] X.env)).any (·.1) || (backToKw pos (keywordEach kws X.env)).any (·.1.isNone)) = false := by rfl) :
    PE X (.Call (.Name x p) [] kws pos) (tMakeQ C ks.length sp E tk) := by
  refine ⟨fun pins s σ H Q I h => ?_⟩
  refine wpAny_Call_Name_kw (ld_glob I hg hm ?_ hdb)
  refine PySem.W.callWith_KW0 (h₀ := X.base) I.ok.mod.kin M.kp hall ?_ hpl
  refine thn (hkw.run pos pins s σ H _ I h) fun ws s2 ⟨zs, H2, I2, rz, l2, q2⟩ => ⟨I2.kIn, ?_⟩
  rw [hks]
  exact run_makeQ M F hr hx I2 rz l2 q2
end
theorem okK {P : Program} {w : World} {K : PySem.W.Frag} {mg : Str → Option Value} {base : Heap} {x qual : Str} {st : Stmt} {f : Addr} {fd : FuncData} {N : List Str} {p1 pd : Str} {k : Nat} {ks : List Str} {sp : Sp} (F : Fun K x qual st f fd) (S : FnScope N [p1, pd] (defScope st)) (nd : ks.Nodup) (hks : ks.length ≤ sizeLine)
    (hb : ∀ (kV doc pm : Value) (an : Option Addr) (cdv ct : Value) (u : Value) (ws : List Value), ws.length = ks.length → bindArgs (PySem.W.fnOf x qual (defArgs st) (defBody st) (defScope st) .none kV doc pm an cdv ct) ⟨[u], ks.zip ws⟩ =
      ((alloc (PySem.W.dictOf [] 0) : Sem Addr) >>= fun d => (forIn (ks.zip ws) PUnit.unit fun x _ => (nsSet d x.1 x.2 >>= fun _ => pure (ForInStep.yield PUnit.unit))) >>= fun _ => pure [(p1, u), (pd, Value.ref d)]))
    (hbody : ∀ (cdv : Value) (A : Around) (outer : List Env) (s : Shared) (H : Hp) (vs : List V) (Q : VK) (E : XK), Room k (A.deeper (envOfC qual (defScope st) s.heap.objs.size f cdv)) → sp vs H Q E →
      ∃ t, PSs (cxOf CX0 P w K mg base N qual (defScope st) f cdv A outer s H E).nox (defBody st) t ∧ t { nx := fun _ H' => Q .non H', rt := Q } (start N vs) H) :
    FnK P w K mg base CX0 (k + 1) f ks (fun vs H Q E => ∃ v zs, vs = v :: zs ∧ zs.length = ks.length ∧ ∀ d, H d = Option.none → sp [v, V.ref d] (upd H d (.dK (kwD ks zs))) Q E) := by
  obtain ⟨oc, od, kV, doc, pm, an, cdv, ct, osl, rfl, lk, hcd⟩ := F.ex
  refine fn_kw lk hcd S StX.cxUp_none nd hks (hb kV doc pm an cdv ct) fun A outer s H vs Q E hr hsp => ?_
  obtain ⟨t, h, q⟩ := hbody cdv A outer s H vs Q E hr hsp
  exact ⟨t, h.nox, q⟩
abbrev sInit : Stmt := inClass (top 14) 0
example (kV doc pm : Value) (an : Option Addr) (cdv ct : Value) (u : Value) : bindArgs (PySem.W.fnOf "__init__" "Load.__init__" (defArgs sInit) (defBody sInit) (defScope sInit) .none kV doc pm an cdv ct) ⟨[u], ([] : List Str).zip []⟩ =
      ((alloc (PySem.W.dictOf [] 0) : Sem Addr) >>= fun d => (forIn (([] : List Str).zip []) PUnit.unit fun x _ => (nsSet d x.1 x.2 >>= fun _ => pure (ForInStep.yield PUnit.unit))) >>= fun _ => pure [(("self" : Str), u), (("counts" : Str), Value.ref d)]) := rfl
example (kV doc pm : Value) (an : Option Addr) (cdv ct : Value) (u a : Value) : bindArgs (PySem.W.fnOf "__init__" "Load.__init__" (defArgs sInit) (defBody sInit) (defScope sInit) .none kV doc pm an cdv ct) ⟨[u], (["a"] : List Str).zip [a]⟩ =
      ((alloc (PySem.W.dictOf [] 0) : Sem Addr) >>= fun d => (forIn ((["a"] : List Str).zip [a]) PUnit.unit fun x _ => (nsSet d x.1 x.2 >>= fun _ => pure (ForInStep.yield PUnit.unit))) >>= fun _ => pure [(("self" : Str), u), (("counts" : Str), Value.ref d)]) := rfl
end Ld
namespace Ld
open PySem PySem.Spec PyProof.Rows L2
/-! ### texts in order -/
def leS (a b : Str) : Prop := a.cps.toList ≤ b.cps.toList
theorem rising_pw : ∀ {p : Str} {l : List Str}, risingS p l = true → (p :: l).Pairwise leS
  | p, [], _ => List.pairwise_singleton _ _
  | p, x :: r, h => by
    rw [risingS, Bool.and_eq_true, Bool.not_eq_true', ltCps_eq, decide_eq_false_iff_not] at h
    have ih := rising_pw h.2
    have h1 : leS p x := h.1
    refine List.pairwise_cons.mpr ⟨fun y hy => ?_, ih⟩
    rcases List.mem_cons.mp hy with e | hy
    · rw [e]
      exact h1
    · exact List.le_trans h1 ((List.pairwise_cons.mp ih).1 y hy)
theorem sorted_pw {l : List Str} (h : sortedS l = true) : l.Pairwise leS := by
  cases l with
  | nil => exact List.Pairwise.nil
  | cons x r => exact rising_pw h
theorem pw_sorted {l : List Str} (h : l.Pairwise leS) : sortedS l = true := by
  refine sortedS_of_pairwise l (h.imp fun {a b} q => ?_)
  rw [ltCps_eq, decide_eq_false_iff_not]
  exact q
theorem sorted_eq {l m : List Str} (p : l.Perm m) (h1 : sortedS l = true) (h2 : sortedS m = true) : l = m :=
  List.Perm.eq_of_pairwise (le := leS) (fun a b _ _ x y => by
    have e : a.cps.toList = b.cps.toList := List.le_antisymm x y
    cases a
    cases b
    have e2 := Array.toList_inj.mp e
    exact congrArg _ e2) (sorted_pw h1) (sorted_pw h2) p
/-! ### counts as a load holds them -/
structure Can (ps : List (Str × Int)) : Prop where
  nd : (ps.map (·.1)).Nodup
  srt : sortedS (ps.map (·.1)) = true
  nz : ∀ p ∈ ps, p.2 ≠ 0
  wd : ∀ p ∈ ps, wordB p.1 = true
  few : ps.length ≤ 1000
theorem ct_mem {ps : List (Str × Int)} (nd : (ps.map (·.1)).Nodup) {p : Str × Int} (hp : p ∈ ps) : ct ps p.1 = p.2 := by
  have h := ctO_some (List.mem_map.mpr ⟨p, hp, rfl⟩ : p.1 ∈ ps.map (·.1))
  unfold ctO at h
  rw [Option.map_eq_some_iff] at h
  obtain ⟨q, hq, e⟩ := h
  have q1 := List.find?_some hq
  rw [decide_eq_true_eq] at q1
  have q2 := List.mem_of_find?_eq_some hq
  rw [← e]
  obtain ⟨i, hi, ei⟩ := List.getElem_of_mem hp
  obtain ⟨j, hj, ej⟩ := List.getElem_of_mem q2
  have : j = i := by
    have h1 : (ps.map (·.1))[j]'(by rw [List.length_map]; exact hj) = (ps.map (·.1))[i]'(by rw [List.length_map]; exact hi) := by
      rw [List.getElem_map, List.getElem_map, ei, ej]
      exact q1
    exact (List.getElem_inj nd).mp h1
  subst this
  rw [← ei, ← ej]
theorem ct_out {ps : List (Str × Int)} {z : Str} (h : z ∉ ps.map (·.1)) : ct ps z = 0 := by
  unfold ct
  rw [ctO_none h]
  rfl
theorem ct_in {ps : List (Str × Int)} {z : Str} (h : ct ps z ≠ 0) : z ∈ ps.map (·.1) := Classical.byContradiction fun n => h (ct_out n)
theorem tidy_mem {ps : List (Str × Int)} {ys : List Str} {q : Str × Int} : q ∈ tidy ps ys ↔ q.1 ∈ ys ∧ q.2 = ct ps q.1 ∧ q.2 ≠ 0 := by
  unfold tidy
  rw [List.mem_filter, List.mem_map, bne_iff_ne]
  constructor
  · rintro ⟨⟨z, hz, rfl⟩, n⟩
    exact ⟨hz, rfl, n⟩
  · rintro ⟨h1, h2, h3⟩
    exact ⟨⟨q.1, h1, by rw [← h2]⟩, h3⟩
theorem tidy_keys (ps : List (Str × Int)) (ys : List Str) : (tidy ps ys).map (·.1) = ys.filter (fun z => ct ps z != 0) := by
  unfold tidy
  induction ys with
  | nil => rfl
  | cons y r ih =>
    rw [List.map_cons, List.filter_cons, List.filter_cons]
    cases e : (ct ps y != 0) with
    | true =>
      show ((y, ct ps y) :: _).map _ = _
      rw [List.map_cons, ih]
      rfl
    | false => exact ih
theorem tidy_can {ps : List (Str × Int)} {ys : List Str} (nd : (ps.map (·.1)).Nodup) (wd : ∀ p ∈ ps, wordB p.1 = true) (few : ps.length ≤ 1000) (perm : ys.Perm (ps.map (·.1))) (srt : sortedS ys = true) : Can (tidy ps ys) ∧ ∀ z, ct (tidy ps ys) z = ct ps z := by
  have ndy : ys.Nodup := perm.nodup_iff.mpr nd
  have ndt : ((tidy ps ys).map (·.1)).Nodup := by
    rw [tidy_keys]
    exact ndy.filter _
  refine ⟨⟨ndt, ?_, fun p hp => (tidy_mem.mp hp).2.2, fun p hp => ?_, ?_⟩, fun z => ?_⟩
  · rw [tidy_keys]
    exact pw_sorted ((sorted_pw srt).filter _)
  · have h := perm.mem_iff.mp (tidy_mem.mp hp).1
    obtain ⟨q, hq, e⟩ := List.mem_map.mp h
    rw [← e]
    exact wd q hq
  · have h1 : (tidy ps ys).length ≤ ys.length := by
      unfold tidy
      refine Nat.le_trans (List.length_filter_le _ _) ?_
      rw [List.length_map]
      exact Nat.le_refl _
    rw [perm.length_eq, List.length_map] at h1
    exact Nat.le_trans h1 few
  · by_cases h : ct ps z = 0
    · rw [h]
      refine ct_out fun hm => ?_
      obtain ⟨q, hq, e⟩ := List.mem_map.mp hm
      have := tidy_mem.mp hq
      rw [e, h] at this
      exact this.2.2 this.2.1
    · have hz := perm.mem_iff.mpr (ct_in h)
      exact ct_mem ndt (tidy_mem.mpr ⟨hz, rfl, h⟩ : (z, ct ps z) ∈ tidy ps ys)
/-- two loads with the same counts are the same -/
theorem can_eq {ps qs : List (Str × Int)} (a : Can ps) (b : Can qs) (h : ∀ z, ct ps z = ct qs z) : ps = qs := by
  have key : ∀ {ps qs : List (Str × Int)}, Can ps → Can qs → (∀ z, ct ps z = ct qs z) → ∀ z, z ∈ ps.map (·.1) → z ∈ qs.map (·.1) := fun a b h z hz => by
    obtain ⟨p, hp, e⟩ := List.mem_map.mp hz
    refine ct_in ?_
    rw [← h z, ← e, ct_mem a.nd hp]
    exact a.nz p hp
  have ek : ps.map (·.1) = qs.map (·.1) := by
    refine sorted_eq ?_ a.srt b.srt
    exact (List.perm_ext_iff_of_nodup a.nd b.nd).mpr fun z => ⟨key a b h z, key b a (fun z => (h z).symm) z⟩
  have val : ∀ {ps : List (Str × Int)}, Can ps → ps = (ps.map (·.1)).map fun z => (z, ct ps z) := fun {ps} a => by
    rw [List.map_map]
    conv => lhs; rw [← List.map_id ps]
    refine List.map_congr_left fun p hp => ?_
    show p = (p.1, ct ps p.1)
    rw [ct_mem a.nd hp]
  rw [val a, val b, ek]
  exact List.map_congr_left fun z _ => by rw [h z]
end Ld
namespace Ld
open PySem PySem.Spec PyProof.Rows L2
/-- a load with these counts -/
def LoadAt (C : Addr) (H : Hp) (x : Addr) (ps : List (Str × Int)) : Prop := ∃ dx t, H x = some (.ins C dx [("_counts", .ref t)]) ∧ H t = some (.dK (cD ps)) ∧ Can ps
theorem LoadAt.same {C : Addr} {H H' : Hp} {x : Addr} {ps : List (Str × Int)} (h : LoadAt C H x ps) (s : Same H H') : LoadAt C H' x ps := by
  obtain ⟨dx, t, h1, h2, c⟩ := h
  exact ⟨dx, t, s _ _ h1, s _ _ h2, c⟩
/-- what of the text the class must have -/
structure LoadC (K : PySem.W.Frag) (mg : Str → Option Value) (C fi : Addr) : Prop where
  c : Cls K C
  nc : NoAttr K C "_counts"
  mkC : Mk K C fi
  gC : mg "Load" = some (.ref C)
abbrev sOf : Stmt := inClass (top 14) 1
/-- counts that a load can be made of -/
structure Ok (H : Hp) (a : Addr) (ps : List (Str × Int)) : Prop where
  at_ : H a = some (.dK (cD ps))
  nd : (ps.map (·.1)).Nodup
  few : ps.length ≤ 1000
  wd : ∀ p ∈ ps, wordB p.1 = true
def spInitB (C : Addr) : Sp := fun vs H Q _ => ∃ (x dx d : Addr) (ps : List (Str × Int)) (fs : List (Str × V)), vs = [.ref x, .ref d] ∧ H x = some (.ins C dx fs) ∧ fs.length < 10 ∧ Ok H d ps ∧
  ∀ (H' : Hp) (t : Addr) (ps' : List (Str × Int)), (∀ b o, b ≠ x → H b = some o → H' b = some o) → H' x = some (.ins C dx (putF "_counts" (.ref t) fs)) → H' t = some (.dK (cD ps')) → Can ps' → (∀ z, ct ps' z = ct ps z) → Q .non H'
def spKw (ks : List Str) (sp : Sp) : Sp := fun vs H Q E => ∃ v zs, vs = v :: zs ∧ zs.length = ks.length ∧ ∀ d, H d = Option.none → sp [v, V.ref d] (upd H d (.dK (kwD ks zs))) Q E
def spOf (C : Addr) : Sp := fun vs H Q _ => ∃ (c : V) (a : Addr) (ps : List (Str × Int)), vs = [c, .ref a] ∧ Ok H a ps ∧
  ∀ (H' : Hp) (x : Addr) (ps' : List (Str × Int)), Same H H' → H x = none → LoadAt C H' x ps' → (∀ z, ct ps' z = ct ps z) → Q (.ref x) H'
section
variable {P : Program} {w : World} {K : PySem.W.Frag} {mg : Str → Option Value} {base : Heap} {C fi : Addr}
theorem scInit : FnScope ["self", "counts"] ["self", "counts"] (defScope sInit) := ⟨rfl, rfl, rfl, by decide +kernel, rfl, by decide +kernel, by decide +kernel⟩
theorem init_body {f : Addr} {cdv : Value} {A : Around} {outer : List Env} {s : Shared} {H : Hp} {vs : List V} {Q : VK} {E : XK} (T : LoadC K mg C fi) (HC : Has P w K mg base 2 "check_counts" ["counts"] spCheck) (HT : Has P w K mg base 2 "tidy_counts" ["counts"] spTidy)
    (hr : Room 2 (A.deeper (envOfC "Load.__init__" (defScope sInit) s.heap.objs.size f cdv))) (h : spInitB C vs H Q E) :
    ∃ t, PSs (cxOf CX0 P w K mg base ["self", "counts"] "Load.__init__" (defScope sInit) f cdv A outer s H E).nox (defBody sInit) t ∧ t { nx := fun _ H' => Q .non H', rt := Q } (L2.start ["self", "counts"] vs) H := by
  obtain ⟨g1, gd1, G1, b1, m1, k1⟩ := HC
  obtain ⟨g2, gd2, G2, b2, m2, k2⟩ := HT
  obtain ⟨x, dx, d, ps, fs, rfl, hx, hl, ok, k⟩ := h
  refine ⟨_, pss_cons (ps_expr (pe_call G1 hr (by rfl) m1 k1 b1 .nil pass0 (pa_cons (pv 1) pa_nil)))
    (pss_one (ps_fld (pv 0) (pe_call G2 hr (by rfl) m2 k2 b2 .nil pass0 (pa_cons (pv 1) pa_nil)) rfl)), ?_⟩
  refine ⟨_, rfl, d, ps, rfl, ok.at_, ok.nd, ok.few, ok.wd, fun H1 same1 => ?_⟩
  refine ⟨_, rfl, d, ps, rfl, same1 _ _ ok.at_, ok.nd, ok.few, fun H2 t ys same2 ht0 perm srt ht => ?_⟩
  have hx2 : H2 x = some (.ins C dx fs) := same2 _ _ (same1 _ _ hx)
  have ntx : t ≠ x := (ne_of_none (same1 _ _ hx) ht0).symm
  obtain ⟨can, cts⟩ := tidy_can ok.nd ok.wd ok.few perm srt
  refine ⟨_, rfl, x, C, dx, fs, rfl, hx2, T.c, T.nc, Nat.lt_trans hl (by decide), ?_⟩
  exact k _ t (tidy ps ys) (fun b o nb eb => by rw [upd_ne nb]; exact same2 _ _ (same1 _ _ eb)) upd_same (by rw [upd_ne ntx]; exact ht) can cts
theorem ok_init0 {f : Addr} {fd : FuncData} (F : Fun K "__init__" "Load.__init__" sInit f fd) (T : LoadC K mg C f) (HC : Has P w K mg base 2 "check_counts" ["counts"] spCheck) (HT : Has P w K mg base 2 "tidy_counts" ["counts"] spTidy) :
    FnK P w K mg base CX0 3 f [] (spKw [] (spInitB C)) :=
  okK F scInit (by decide) (Nat.zero_le _) (fun _ _ _ _ _ _ u ws hw => match ws, hw with | [], _ => rfl) fun cdv A outer s H vs Q E hr h => init_body T HC HT hr h
theorem ok_init1 {f : Addr} {fd : FuncData} {y : Str} (F : Fun K "__init__" "Load.__init__" sInit f fd) (T : LoadC K mg C f) (HC : Has P w K mg base 2 "check_counts" ["counts"] spCheck) (HT : Has P w K mg base 2 "tidy_counts" ["counts"] spTidy)
    (hy : ∀ (kV doc pm : Value) (an : Option Addr) (cdv ct : Value) (u a : Value), bindArgs (PySem.W.fnOf "__init__" "Load.__init__" (defArgs sInit) (defBody sInit) (defScope sInit) .none kV doc pm an cdv ct) ⟨[u], [y].zip [a]⟩ =
      ((alloc (PySem.W.dictOf [] 0) : Sem Addr) >>= fun d => (forIn ([y].zip [a]) PUnit.unit fun x _ => (nsSet d x.1 x.2 >>= fun _ => pure (ForInStep.yield PUnit.unit))) >>= fun _ => pure [(("self" : Str), u), (("counts" : Str), Value.ref d)])) :
    FnK P w K mg base CX0 3 f [y] (spKw [y] (spInitB C)) :=
  okK F scInit (List.pairwise_singleton _ _) (by show 1 ≤ sizeLine; decide) (fun _ _ _ _ _ _ u ws hw => match ws, hw with | [a], _ => hy _ _ _ _ _ _ u a) fun cdv A outer s H vs Q E hr h => init_body T HC HT hr h
abbrev nOf : List Str := ["cls", "counts", "load", "kind"]
theorem scOf : FnScope nOf ["cls", "counts"] (defScope sOf) := ⟨rfl, rfl, rfl, by decide +kernel, rfl, by decide +kernel, by decide +kernel⟩
theorem ok_of {f : Addr} {fd : FuncData} (F : Fun K "of" "Load.of" sOf f fd) (T : LoadC K mg C fi) (B : Blt2 mg) (FI : FnK P w K mg base CX0 3 fi [] (spKw [] (spInitB C)))
    (HC : Has P w K mg base 2 "check_counts" ["counts"] spCheck) (HT : Has P w K mg base 2 "tidy_counts" ["counts"] spTidy) : FnOk P w K mg base CX0 5 f fd ["cls", "counts"] (spOf C) := by
  obtain ⟨g1, gd1, G1, b1, m1, k1⟩ := HC
  obtain ⟨g2, gd2, G2, b2, m2, k2⟩ := HT
  refine F.ok scOf (fun vs H Q E h => ?_) (fun cdv A outer s H vs Q E hr h => ?_)
  · obtain ⟨c, a, ps, rfl, _⟩ := h
    rfl
  · obtain ⟨c, a, ps, rfl, ok, k⟩ := h
    have hr2 : Room 2 _ := hr.mono (by decide)
    have nd : nOf.Nodup := scOf.nd
    refine ⟨_, pss_cons (ps_if (PW.pt (pw_or (pt_not (pt_truth (pe_callB call_isi (by rfl) B.isi bIsi (pa_cons (pv 1) (pa_cons (pe_bltn (v := .ty "dict") (by rfl) B.dict (by decide +kernel) rfl) pa_nil))) (fun _ => rfl)))
        (pw_or1 (pt_not (pt_truth (pe_callB (cr_all rfl) (by rfl) B.all bAll (pa_cons (pe_lock (pe_lc (own := [("kind", 3)]) (g := gName 3) (tt := tYes) rfl nd (pi_keys (pv 1)) (blkOk_by (N := nOf) (sc := defScope sOf) (by decide +kernel))
          (fun _ _ _ _ _ => pg_name (i := 3) nd rfl (Or.inl rfl)) (fun _ _ _ _ _ => pts_nil) (fun _ _ _ _ _ => pe_callB (r := rIsi K) call_isi (by rfl) B.isi bIsi (pa_cons (pv 3) (pa_cons (pe_bltn (v := .ty "str") (by rfl) B.str bStr0 rfl) pa_nil))))) pa_nil)) (fun _ => rfl)))))) (pss_one ps_never) pss_nil)
      (pss_cons (ps_expr (pe_call G1 hr2 (by rfl) m1 k1 b1 .nil pass0 (pa_cons (pv 1) pa_nil)))
      (pss_cons (ps_set (i := 2) nd rfl (Or.inl rfl) (pe_makeQ0 T.mkC FI hr (by rfl) T.gC pass0))
      (pss_cons (ps_fld (pv 2) (pe_call G2 hr2 (by rfl) m2 k2 b2 .nil pass0 (pa_cons (pv 1) pa_nil)) rfl)
      (pss_one (ps_ret (pv 2)))))), ?_⟩
    -- the test
    refine seq_step (fun σ' H' => σ' = [some c, some (.ref a), none, none] ∧ Same H H') (fun R hR => ?_) (fun σ1 H1 h1 => ?_)
    · refine ⟨_, rfl, .ref a, _, _, _, true, rfl, .ty _, .base (.dK ok.at_), kit_ty (by decide +kernel), true, rfl, ?_⟩
      refine ⟨a, _, ok.at_, trivial, fun od => ⟨_, rfl, a, od, rfl, .inl ⟨cD ps, upd_same, fun D hD => ?_⟩⟩⟩
      have nDa : D ≠ a := fun e => by rw [e, upd_same] at hD; cases hD
      have hD0 : H D = none := by rw [upd_ne nDa] at hD; exact hD
      refine lc_it (walk_keys (d := a) (o := od) (kvs := cD ps)) (fun i H' => H' D = some (.lst ((List.replicate i true).map V.bl)) ∧ H' a = some (.frz od (.dK (cD ps))) ∧ ∀ b o, H b = some o → b ≠ a → H' b = some o)
        ⟨upd_same, by rw [upd_ne nDa.symm, upd_same], fun b o eb nb => by rw [upd_ne (ne_of_none eb hD0), upd_ne nb]; exact eb⟩ (fun i H' _ h => h.2.1) ?_ ?_
      · rintro i x H2 H3 hi ⟨eD, ea, keep⟩ ⟨rfl, key, v, hkv, rfl⟩
        obtain ⟨z, rfl, hz⟩ := keysOf.at (kvs := cD ps) (ks := ps.map (·.1)) ⟨cD_keys ps, ok.nd⟩ hkv
        refine ⟨rfl, _, rfl, .str z, _, _, _, true, rfl, .ty _, .base (.str z), kit_ty (by decide +kernel), _, eD, ?_, ?_, by rw [upd_ne nDa.symm]; exact ea, fun b o eb nb => by rw [upd_ne (ne_of_none eb hD0)]; exact keep b o eb nb⟩
        · rw [List.length_map, List.length_replicate]
          rw [cD_len] at hi
          exact Nat.lt_of_lt_of_le hi (Nat.le_trans ok.few (by decide))
        · rw [upd_same, List.replicate_succ', List.map_append]
          rfl
      · rintro H2 ⟨eD, ea, keep⟩
        refine ⟨ea, D, _, rfl, .inl (.inl (by rw [upd_ne nDa]; exact eD)), ?_⟩
        have e : (List.replicate (cD ps).length true).all id = true := by
          rw [List.all_eq_true]
          intro b hb
          exact List.eq_of_mem_replicate hb
        rw [e]
        refine ⟨true, rfl, ?_⟩
        refine hR _ _ ⟨rfl, fun b o eb => ?_⟩
        by_cases e : b = a
        · rw [e, upd_same, ← ok.at_, ← e, eb]
        · rw [upd_ne e]
          exact keep b o eb e
    obtain ⟨rfl, same1⟩ := h1
    refine seq_step (fun σ' H' => σ' = [some c, some (.ref a), none, none] ∧ Same H1 H') (fun R hR => ?_) (fun σ2 H2 h2 => ?_)
    · exact ⟨_, rfl, a, ps, rfl, same1 _ _ ok.at_, ok.nd, ok.few, ok.wd, fun H2 same2 => hR _ _ ⟨rfl, same2⟩⟩
    obtain ⟨rfl, same2⟩ := h2
    -- load = Load()
    refine seq_step (fun σ' H' => ∃ (x dx t : Addr), σ' = [some c, some (.ref a), some (.ref x), none] ∧ Same H H' ∧ H x = none ∧ H' x = some (.ins C dx [("_counts", .ref t)])) (fun R hR => ?_) (fun σ3 H3 h3 => ?_)
    · refine ⟨rfl, fun x dx hx hdx ne => ⟨.ref x, [], rfl, rfl, fun d hd => ?_⟩⟩
      have hx0 : H x = none := by
        cases e : H x with
        | none => rfl
        | some o => rw [same2 _ _ (same1 _ _ e)] at hx; cases hx
      have ndx : d ≠ x := fun e => by rw [e, upd_same] at hd; cases hd
      refine ⟨x, dx, d, [], [], rfl, by rw [upd_ne ndx.symm, upd_same], by decide, ⟨upd_same, List.nodup_nil, by decide, fun _ h => nomatch h⟩, fun H4 t ps' keep hx4 _ _ _ => ⟨rfl, ?_⟩⟩
      refine hR _ _ ⟨x, dx, t, rfl, fun b o eb => ?_, hx0, hx4⟩
      have e2 := same2 _ _ (same1 _ _ eb)
      have nb : b ≠ x := ne_of_none e2 hx
      have nb2 : b ≠ dx := ne_of_none e2 hdx
      refine keep b o nb ?_
      by_cases e : b = d
      · exfalso
        rw [upd_ne ndx] at hd
        rw [← e, upd_ne nb2, e2] at hd
        cases hd
      · rw [upd_ne e, upd_ne nb, upd_ne nb2]
        exact e2
    obtain ⟨x, dx, t0, rfl, same3, hx0, hx3⟩ := h3
    refine ⟨_, rfl, a, ps, rfl, same3 _ _ ok.at_, ok.nd, ok.few, fun H5 t ys same5 ht0 perm srt ht => ?_⟩
    obtain ⟨can, cts⟩ := tidy_can ok.nd ok.wd ok.few perm srt
    have ntx : t ≠ x := (ne_of_none hx3 ht0).symm
    refine ⟨_, rfl, x, C, dx, _, rfl, same5 _ _ hx3, T.c, T.nc, by show 1 < 1000; decide, ?_⟩
    refine ⟨_, rfl, k _ x (tidy ps ys) (fun b o eb => by rw [upd_ne (ne_of_none eb hx0)]; exact same5 _ _ (same3 _ _ eb)) hx0 ⟨dx, t, upd_same, by rw [upd_ne ntx]; exact ht, can⟩ cts⟩
end
end Ld
namespace Ld
open PySem PySem.Spec PyProof.Rows L2
section
variable {X : Cx} {CX : CXT} {pins : List (Addr × Obj)} {σ : L2.St} {H : Hp} {s : Shared} {C g : Addr} {n : Nat} {sp : Sp} {E : XK}
theorem cls_looks {M : Model} {h : Heap} {a : Addr} {o : Obj} {t : Value} (e : h.get? a = some o) (c : o.cls = t) : PySem.W.Looks M h (typeOf (.ref a)) t := c ▸ (PySem.W.Looks.ld e).andThen .now
theorem tyX_looks {x : V} {u t : Value} (I : Inv X pins σ H s) (rx : RelV x u) (ty : TyX X.K H x t) : PySem.W.Looks (model X.prog X.w) s.heap (typeOf u) t := by
  cases ty with
  | base b =>
    cases b with
    | non => cases (show u = Value.none from rx); exact .of_pure rfl
    | bl y => cases (show u = Value.bool y from rx); exact .of_pure rfl
    | int i => obtain ⟨t, q⟩ := (show ∃ t, u = Value.int i t from rx); cases q; exact .of_pure rfl
    | str y => obtain ⟨t, q⟩ := (show ∃ t, u = Value.str y t from rx); cases q; exact .of_pure rfl
    | flt y => obtain ⟨t, q⟩ := (show ∃ t, u = Value.float y t from rx); cases q; exact .of_pure rfl
    | @lst a xs ea =>
      cases (show u = Value.ref a from rx)
      obtain ⟨_, _, n, _, h1⟩ := (show ObjOk X.prog X.w H s.heap a (.lst xs) from I.hok a _ ea)
      exact cls_looks h1 rfl
    | @frz a ob xs ea =>
      cases (show u = Value.ref a from rx)
      obtain ⟨_, _, _, n, _, h1⟩ := (show ObjOk X.prog X.w H s.heap a (.frz ob (.lst xs)) from I.hok a _ ea)
      exact cls_looks h1 rfl
    | @tup a xs ea =>
      cases (show u = Value.ref a from rx)
      obtain ⟨_, _, _, o, h1, h2, _⟩ := (show ObjOk X.prog X.w H s.heap a (.tup xs) from I.hok a _ ea)
      exact cls_looks h1 h2
    | @dK a kvs ea =>
      cases (show u = Value.ref a from rx)
      obtain ⟨_, _, vs, _, o, es, ep, h1, h2, _⟩ := (show ObjOk X.prog X.w H s.heap a (.dK kvs) from I.hok a _ ea)
      exact cls_looks h1 h2.1
    | @dT a kvs ea =>
      cases (show u = Value.ref a from rx)
      obtain ⟨_, _, xs, _, o, es, ep, h1, h2, _⟩ := (show ObjOk X.prog X.w H s.heap a (.dT kvs) from I.hok a _ ea)
      exact cls_looks h1 h2.1
    | @ins a C dx fs ea cl ha hn htk hm =>
      cases (show u = Value.ref a from rx)
      obtain ⟨mA, O, _⟩ := ins_get I.hok ea
      obtain ⟨od, J, _⟩ := O.look
      exact J.type
  | byt y => obtain ⟨t, q⟩ := (show ∃ t, u = Value.bytes y t from rx); cases q; exact .of_pure rfl
  | @set a S n ea =>
    cases (show u = Value.ref a from rx)
    obtain ⟨o, _, _, _, e, ex, _⟩ := I.hok a _ ea
    exact cls_looks e ex.1
  | @kList a o e c =>
    cases (show u = Value.ref a from rx)
    exact cls_looks (I.kIn a o e) c
  | @kTuple a o e c =>
    cases (show u = Value.ref a from rx)
    exact cls_looks (I.kIn a o e) c
  | @kDict a o e c =>
    cases (show u = Value.ref a from rx)
    exact cls_looks (I.kIn a o e) c
  | @fTuple a ob xs ea =>
    cases (show u = Value.ref a from rx)
    obtain ⟨_, _, _, _, o, h1, h2, _⟩ := (show ObjOk X.prog X.w H s.heap a (.frz ob (.tup xs)) from I.hok a _ ea)
    exact cls_looks h1 h2
  | @fDict a ob kvs ea =>
    cases (show u = Value.ref a from rx)
    obtain ⟨_, _, _, vs, _, o, es, ep, h1, h2, _⟩ := (show ObjOk X.prog X.w H s.heap a (.frz ob (.dK kvs)) from I.hok a _ ea)
    exact cls_looks h1 h2.1
/-- x op y, x an instance of the class at C whose def for op is at g, y of another type, or of the same -/
def rCmp (K : PySem.W.Frag) (C : Addr) (sp : Sp) (E : XK) : R2 := fun x y H Q => ∃ a dx fs t, x = .ref a ∧ H a = some (.ins C dx fs) ∧ TyX K H y t ∧ PySem.W.notFirst K C t = true ∧ sp [x, y] H Q E
theorem op_cmp {op : CmpOp} (hop : ∀ a b, compareOp op a b = richCompare op a b) (hs : PySem.W.findIn X.K (.ref C) (cmpInfo op).2.1 = some (some (.ref g))) (hf : PySem.W.isFn X.K (.ref g) = true) (F : FnR X.prog X.w X.K X.mg X.base CX n g sp)
    (hr : Room n X.A) (hx : Passes CX X E) : OpR X (compareOp op) (rCmp X.K C sp E) := by
  intro pins s σ H x y v u Q I rx ry h
  obtain ⟨a, dx, fs, t, rfl, ha, ty, hn, q⟩ := h
  cases (show v = Value.ref a from rx)
  obtain ⟨mA, O, _⟩ := ins_get I.hok ha
  obtain ⟨od, J, _⟩ := O.look
  obtain ⟨m, hF⟩ := I.fr
  rw [hop]
  refine PySem.W.cmp_K (op := op) (tb := t) hr.units0 hF I.ok.mod.kin J (tyX_looks I ry ty) hn hs hf ?_
  refine wpAny_mono (wpAny_call (run_fnR (us := [.ref a, u]) (vs := [.ref a, y]) F hr hx I (.cons rfl (.cons ry .nil)) q)) (fun w s' z => ?_) fun _ _ x => x
  obtain ⟨z', H', I', rz, qz⟩ := z
  exact SlX.cmpback rz ⟨z', H', I', rz, qz⟩
end
end Ld
/-! x != y by the own __eq__ -/
namespace PySem.W
open PySem PySem.Spec PyProof.Rows PySem.Calls
section
variable {prog : Program} {w : World} {A : Around} {E : Value → Shared → Prop} {s : Shared} {K : Frag} {x C L f : Addr} {h₀ : Heap} {m : Str → Option Value} {ox : Obj} {od : Option Obj} {name : Str} {b tb : Value}
theorem ifBound_B {M : Model} {id : String} {args : List Value} {Q : Option Value → Shared → Prop} (X : K.In s.heap) (I : InstAt s.heap x ox C od) (hs : findIn K (.ref C) name = some (some (.builtin id))) (hb : ∀ self, bindSpecial (.builtin id) self = pure (.builtin id, [self]))
    (h : wpAny M A (call (.builtin id) (.ref x :: args)) (fun v => Q (some v)) E s) : wpAny M A (callSpecialIfBound? (.ref x) name args) Q E s := by
  simp only [callSpecialIfBound?, bindSpecialIfBound?]
  refine wpAny_holding (wpAny_bind (wpAny_bind (wpAny_bind (I.type.here ((looks_findIn X hs).here ?_)))))
  refine wpAny_bind (wpAny_askSetting (wpAny_ite ?_))
  have fin : wpAny M A (call (.builtin id) ([.ref x] ++ args) >>= fun v => pure (some v)) Q E s := wpAny_bind (wpAny_mono h (fun v s' h' => wpAny_pure h') fun _ _ h' => h')
  have hb' : Looks M s.heap (bindSpecial (.builtin id) (.ref x)) (.builtin id, [.ref x]) := Looks.of_pure (hb _)
  split
  · exact wpAny_bind (hb'.here (wpAny_pure (by exact fin)))
  · exact wpAny_tryCatch (wpAny_bind (hb'.here (wpAny_pure (by exact fin))))
theorem isInst_looks {M : Model} (X : K.In s.heap) (I : InstAt s.heap x ox C od) (e : mroIn K C (.type "object") = some true) : Looks M s.heap (isInstance (.ref x) (.type "object")) true := by
  unfold isInstance
  exact I.type.andThen (looks_mroIn X e)
theorem ne_entry {Q : PySem.Fin → Shared → Prop} (hu : A.units < cLine) (X : K.In s.heap) (I : InstAt s.heap x ox C od) (hs : findIn K (.ref C) "__eq__" = some (some (.ref f))) (hf : isFn K (.ref f) = true)
    (h : wpAny (model prog w) A (call (.ref f) [.ref x, b]) (fun v s' => ∃ r, v = .bool r ∧ Q (.done (.ret (.bool (!r)))) s') E s) :
    wpAny (model prog w) A (Builtin.«object.__ne__» ⟨[.ref x, b], []⟩) Q E s := by
  unfold Builtin.«object.__ne__»
  repeat (first
    | with_reducible refine wpAny_cRoomFor hu ?_
    | (refine wpAny_bind (m := callSpecialIfBound? (.ref x) (Str.ofString "__eq__") [b])
        (ifBound_K X I hs hf (wpAny_mono h (fun r s' hr => by
          obtain ⟨b, rfl, hq⟩ := hr
          repeat (first | exact hq | exact wpAny_pure hq | exact wpAny_truthy_bool hq | (refine wpAny_bind (m := truthy (.bool _)) (wpAny_truthy_bool ?_)) | wp_step)) fun _ _ e => e)))
    | wp_step)
theorem ne_K {Q : Value → Shared → Prop} (hu : A.units + 1 < cLine) (F : Fr h₀ L s.heap m) (X₀ : K.In h₀) (I : InstAt s.heap x ox C od) (hb : Looks (model prog w) s.heap (typeOf b) tb) (hn : notFirst K C tb = true)
    (hne : findIn K (.ref C) "__ne__" = some (some (.builtin "object.__ne__"))) (ho : mroIn K C (.type "object") = some true)
    (hs : findIn K (.ref C) "__eq__" = some (some (.ref f))) (hf : isFn K (.ref f) = true)
    (h : wpAny (model prog w) A.in1 (call (.ref f) [.ref x, b]) (fun v s' => ∃ r, v = .bool r ∧ Q (.bool (!r)) s') E s) : wpAny (model prog w) A (richCompare .NotEq (.ref x) b) Q E s := by
  have X := X₀.keeps F.keep
  have one : wpAny (model prog w) A (tryCompare (.ref x) (cmpInfo .NotEq).2.1 b) (fun r s' => ∃ v, r = some v ∧ Q v s') E s := by
    unfold tryCompare
    refine wpAny_bind (ifBound_B X I hne PySem.F.cmp_object.ne.bind (wpAny_call (codeAny_call_builtin PySem.F.cmp_object.ne.plain PySem.F.cmpEntry_ne
      (@PySem.W.check_slot (model prog w) _ _ s "object.__ne__" "object" "__ne__" (.ref x) [b] [] _ PySem.F.cmpKind_ne PySem.F.cmpSplit_ne (isInst_looks X I ho) (PySem.F.cmpArgs_ne _ _) (ne_entry (A := A.in1) hu X I hs hf (wpAny_mono h (fun v s' hv => ?_) fun _ _ e => e))))))
    obtain ⟨r, rfl, hq⟩ := hv
    exact ⟨r, rfl, wpAny_pure ⟨_, rfl, hq⟩⟩
  unfold richCompare
  simp only [oneThing_ref]
  refine wpAny_holding (wpAny_bind (wpAny_cRoomFor (Nat.lt_of_succ_lt hu) ?_))
  refine wpAny_bind (I.type.here (wpAny_bind (hb.here ?_)))
  split
  · rename_i q
    have e : subIn K tb (.ref C) = some false := by
      rcases Bool.or_eq_true_iff.mp hn with e | e
      · rw [beq_iff_eq.mp e] at q; simp at q
      · exact beq_iff_eq.mp e
    refine wpAny_bind ((looks_subIn X e).here ?_)
    simp only [Bool.false_eq_true, if_false]
    refine wpAny_bind (wpAny_mono one (fun r s' z => ?_) fun _ _ e => e)
    obtain ⟨v, rfl, hq⟩ := z
    exact wpAny_pure hq
  · refine wpAny_bind (wpAny_pure ?_)
    simp only [Bool.false_eq_true, if_false]
    refine wpAny_bind (wpAny_mono one (fun r s' z => ?_) fun _ _ e => e)
    obtain ⟨v, rfl, hq⟩ := z
    exact wpAny_pure hq
end
end PySem.W

namespace Ld
open PySem PySem.Spec PyProof.Rows L2
section
variable {X : Cx} {CX : CXT} {C g : Addr} {n : Nat} {sp : Sp} {E : XK}
/-- x != y, by the own __eq__ -/
def rCmpNe (K : PySem.W.Frag) (C : Addr) (sp : Sp) (E : XK) : R2 := fun x y H Q => ∃ a dx fs t, x = .ref a ∧ H a = some (.ins C dx fs) ∧ TyX K H y t ∧ PySem.W.notFirst K C t = true ∧ sp [x, y] H (fun v H' => ∃ b, v = .bl b ∧ Q (.bl (!b)) H') E
theorem op_cmpNe (hne : PySem.W.findIn X.K (.ref C) "__ne__" = some (some (.builtin "object.__ne__"))) (ho : PySem.W.mroIn X.K C (.type "object") = some true) (hs : PySem.W.findIn X.K (.ref C) "__eq__" = some (some (.ref g))) (hf : PySem.W.isFn X.K (.ref g) = true)
    (F : FnR X.prog X.w X.K X.mg X.base CX n g sp) (hr : Room (n + 1) X.A) (hx : Passes CX X E) : OpR X (compareOp .NotEq) (rCmpNe X.K C sp E) := by
  intro pins s σ H x y v u Q I rx ry h
  obtain ⟨a, dx, fs, t, rfl, ha, ty, hn, q⟩ := h
  cases (show v = Value.ref a from rx)
  obtain ⟨mA, O, _⟩ := ins_get I.hok ha
  obtain ⟨od, J, _⟩ := O.look
  obtain ⟨m, hF⟩ := I.fr
  show wpAny _ _ (richCompare .NotEq _ _) _ _ _
  have hr1 : Room n X.A.in1 := Room.in1 hr
  refine PySem.W.ne_K (tb := t) (hu_of hr) hF I.ok.mod.kin J (tyX_looks I ry ty) hn hne ho hs hf ?_
  refine wpAny_mono (wpAny_call (SlX.run_at (A := X.A.in1) (us := [.ref a, u]) (ws := [.ref a, y]) F hr1 I.env0.in1 hx I (.cons rfl (.cons ry .nil)) q)) (fun w' s' z => ?_) fun _ _ x => x
  obtain ⟨z', H', I', rz, b, rfl, qz⟩ := z
  cases rz
  exact ⟨b, rfl, .bl (!b), H', I', rfl, qz⟩
end
end Ld
namespace Ld
open PySem PySem.Spec PyProof.Rows L2
def hitB (qs : List (Str × Int)) (ps : List (Str × Int)) : Bool := ps.all fun p => decide (ctO qs p.1 = some p.2)
theorem hits_ct {A : Around} {s : Shared} {qs : List (Str × Int)} {vb : List (Key × Value)} (rb : KV (cD qs) vb) : ∀ {ps : List (Str × Int)} {va : List (Key × Value)}, KV (cD ps) va → PySem.W.KeqHits A s vb va (hitB qs ps)
  | [], _, .nil => .nil
  | p :: r, (k, v) :: t, .cons h ra => by
    have h1 : (Sum.inr p.1 : Key) = k := h.1
    obtain ⟨tk, ev⟩ := (show ∃ t, v = Value.int p.2 t from h.2)
    have rr : RelO (valV (cD qs) (Sum.inr p.1)) (valueAt vb (Sum.inr p.1)) := rb.val _
    rw [valV_cD] at rr
    rw [h1] at rr
    have ih := hits_ct (A := A) (s := s) rb ra
    show PySem.W.KeqHits A s vb ((k, v) :: t) (decide (ctO qs p.1 = some p.2) && hitB qs r)
    cases e : ctO qs p.1 with
    | none =>
      rw [e] at rr
      have hn : valueAt vb k = none := by
        cases e2 : valueAt vb k with
        | none => rfl
        | some y => rw [e2] at rr; exact absurd rr (by simp [RelO])
      have : (decide ((none : Option Int) = some p.2) && hitB qs r) = false := by simp
      rw [this]
      exact .miss hn
    | some j =>
      rw [e] at rr
      obtain ⟨y, hy, ry⟩ := rr.some_of
      obtain ⟨tj, ey⟩ := (show ∃ t, y = Value.int j t from ry)
      subst ev ey
      have q : decide (some j = some p.2) = (p.2 == j) := by
        rw [Bool.eq_iff_iff, decide_eq_true_eq, beq_iff_eq, Option.some.injEq]
        exact eq_comm
      rw [q]
      exact .hit hy (SeqAt.EqAt.int_int p.2 tk j tj) ih
theorem sub_back : ∀ {l m : List Str}, l.Nodup → (∀ x ∈ l, x ∈ m) → m.length ≤ l.length → ∀ x ∈ m, x ∈ l
  | [], m, _, _, hl, x, hx => by
    have : m = [] := List.length_eq_zero_iff.mp (by simpa using hl)
    rw [this] at hx
    exact hx
  | a :: l, m, nd, hs, hl, x, hx => by
    have ha := hs a List.mem_cons_self
    have nd2 := List.nodup_cons.mp nd
    by_cases e : x = a
    · rw [e]
      exact List.mem_cons_self
    · refine List.mem_cons_of_mem _ (sub_back (l := l) (m := m.erase a) nd2.2 (fun y hy => ?_) ?_ x ((List.mem_erase_of_ne e).mpr hx))
      · exact (List.mem_erase_of_ne (fun (q : y = a) => nd2.1 (by rw [← q]; exact hy))).mpr (hs y (List.mem_cons_of_mem _ hy))
      · rw [List.length_erase_of_mem ha]
        rw [List.length_cons] at hl
        omega
theorem can_beq {ps qs : List (Str × Int)} (a : Can ps) (b : Can qs) : (ps.length == qs.length && hitB qs ps) = decide (ps = qs) := by
  rw [Bool.eq_iff_iff, Bool.and_eq_true, beq_iff_eq, decide_eq_true_eq]
  constructor
  · rintro ⟨hl, hh⟩
    have hm : ∀ p ∈ ps, ctO qs p.1 = some p.2 := fun p hp => of_decide_eq_true (List.all_eq_true.mp hh p hp)
    have sub : ∀ z ∈ ps.map (·.1), z ∈ qs.map (·.1) := fun z hz => by
      obtain ⟨p, hp, e⟩ := List.mem_map.mp hz
      refine Classical.byContradiction fun n => ?_
      have h1 := hm p hp
      rw [e, ctO_none n] at h1
      cases h1
    have back := sub_back a.nd sub (by rw [List.length_map, List.length_map, hl]; exact Nat.le_refl _)
    refine can_eq a b fun z => ?_
    by_cases hz : z ∈ ps.map (·.1)
    · obtain ⟨p, hp, e⟩ := List.mem_map.mp hz
      rw [← e, ct_mem a.nd hp]
      unfold ct
      rw [hm p hp]
      rfl
    · rw [ct_out hz, ct_out fun h => hz (back z h)]
  · rintro rfl
    refine ⟨rfl, List.all_eq_true.mpr fun p hp => decide_eq_true ?_⟩
    rw [ctO_some (List.mem_map.mpr ⟨p, hp, rfl⟩), ct_mem a.nd hp]
section
variable {X : Cx}
def rEqCt : R2 := fun x y H Q => ∃ a b ps qs, x = .ref a ∧ y = .ref b ∧ H a = some (.dK (cD ps)) ∧ H b = some (.dK (cD qs)) ∧ Q (.bl (ps.length == qs.length && hitB qs ps)) H
theorem op_eqCt (hu : X.A.units < cLine) : OpR X (compareOp .Eq) rEqCt := by
  intro pins s σ H x y v u Q I rx ry h
  obtain ⟨a, b, ps, qs, rfl, rfl, ea, eb, q⟩ := h
  obtain rfl : v = Value.ref a := rx
  obtain rfl : u = Value.ref b := ry
  obtain ⟨_, ya, va, ra, da⟩ := (show ObjOk X.prog X.w H s.heap a (.dK (cD ps)) from I.hok a _ ea)
  obtain ⟨_, yb, vb, rb, db⟩ := (show ObjOk X.prog X.w H s.heap b (.dK (cD qs)) from I.hok b _ eb)
  have hl : (va.length == vb.length) = (ps.length == qs.length) := by rw [← ra.length, ← rb.length, cD_len, cD_len]
  refine PySem.W.keq_eq (knd := mixKind X.prog X.w) (r := hitB qs ps) ya yb da db hu (fun _ => hits_ct rb ra) ?_
  exact ⟨.bl (ps.length == qs.length && hitB qs ps), H, I, by rw [hl]; rfl, q⟩
end
end Ld
namespace Ld
open PySem PySem.Spec PyProof.Rows L2
theorem LoadAt.ty {K : PySem.W.Frag} {C : Addr} {H : Hp} {x : Addr} {ps : List (Str × Int)} (h : LoadAt C H x ps) (c : Cls K C) (i : SlX.SIsi K C) : TyX K H (.ref x) (.ref C) := by
  obtain ⟨dx, t, h1, _, _⟩ := h
  exact .base (.ins h1 c i.ca i.cn i.ct i.cm)
theorem kit_self {K : PySem.W.Frag} {C : Addr} : PySem.W.kitOne K (.ref C) (.ref C) = some true := by
  unfold PySem.W.kitOne
  rw [if_pos (beq_self_eq_true _)]
theorem nf_self {K : PySem.W.Frag} {C : Addr} : PySem.W.notFirst K C (.ref C) = true := by
  unfold PySem.W.notFirst
  rw [beq_self_eq_true]
  rfl
def spEqL (K : PySem.W.Frag) (C : Addr) : Sp := fun vs H Q _ => ∃ (x : Addr) (y : V) (ps : List (Str × Int)), vs = [.ref x, y] ∧ LoadAt C H x ps ∧
  ((∃ b qs, y = .ref b ∧ LoadAt C H b qs ∧ Q (.bl (decide (ps = qs))) H) ∨ ∃ t, TyX K H y t ∧ PySem.W.kitOne K t (.ref C) = some false ∧ Q (.bl false) H)
abbrev sEq : Stmt := inClass (top 14) 19
section
variable {P : Program} {w : World} {K : PySem.W.Frag} {mg : Str → Option Value} {base : Heap} {C fi : Addr}
theorem scEq : FnScope ["self", "other"] ["self", "other"] (defScope sEq) := ⟨rfl, rfl, rfl, by decide +kernel, rfl, by decide +kernel, by decide +kernel⟩
theorem ok_eqL {f : Addr} {fd : FuncData} (F : Fun K "__eq__" "Load.__eq__" sEq f fd) (T : LoadC K mg C fi) (S : SlX.SIsi K C) (B : Blt2 mg) : FnOk P w K mg base CX0 1 f fd ["self", "other"] (spEqL K C) := by
  refine F.ok scEq (fun vs H Q E h => ?_) (fun cdv A outer s H vs Q E hr h => ?_)
  · obtain ⟨x, y, ps, rfl, _⟩ := h
    rfl
  · obtain ⟨x, y, ps, rfl, hx, h⟩ := h
    refine ⟨_, pss_one (ps_ret (pe_and (pe_callB call_isi (by rfl) B.isi bIsi (pa_cons (pv 1) (pa_cons (pe_glob (v := .ref C) (by rfl) T.gC rfl) pa_nil)))
      (pe_one (pe_cmpR (op_eqCt hr.units0) (pe_fld (pv 0) rfl) (pe_fld (pv 1) rfl) (nomark _))))), ?_⟩
    rcases h with ⟨b, qs, rfl, hb, q⟩ | ⟨t, ty, kt, q⟩
    · refine ⟨_, rfl, .ref b, _, _, _, true, rfl, .own C, hb.ty T.c S, kit_self, true, rfl, ?_⟩
      obtain ⟨dx, tx, h1, h2, cx⟩ := hx
      obtain ⟨dy, ty, h3, h4, cy⟩ := hb
      refine ⟨_, rfl, x, C, dx, _, _, rfl, h1, T.c, T.nc, rfl, _, rfl, b, C, dy, _, _, rfl, h3, T.c, T.nc, rfl, tx, ty, ps, qs, rfl, rfl, h2, h4, ?_⟩
      rw [can_beq cx cy]
      exact q
    · exact ⟨_, rfl, y, _, t, _, false, rfl, .own C, ty, kt, false, rfl, q⟩
end
end Ld
namespace Ld
open PySem PySem.Spec PyProof.Rows L2
section
variable {X : Cx} {pins : List (Addr × Obj)} {σ : L2.St} {H : Hp} {s : Shared}
theorem star_dict (hcalm : X.calm = true) {a : Addr} {kvs : List (Key × V)} {E : Value → Shared → Prop} {Q : List Value → Shared → Prop} (I : Inv X pins σ H s) (hd : Rd H a (.dK kvs)) (hQ : ∀ us s', Inv X pins σ H s' → Vals (kvs.map fun kv => kV kv.1) us → Q us s') : PySem.W.StarOf (model X.prog X.w) X.A E (.ref a) Q s := by
  obtain ⟨z, lo, vs, rel, dd⟩ := dk_rd I.hok hd
  obtain ⟨ep, hat⟩ := dd.dictAt
  have ek : (kvs.map fun kv => kV kv.1) = vs.map fun p => kV p.1 := by
    have e := congrArg (List.map kV) rel.keys
    rw [List.map_map, List.map_map] at e
    exact e
  have h16 : vs.length ≤ sizeLine := by rw [← rel.length]; exact z
  unfold PySem.W.StarOf notIterableAtAll
  refine wpAny_bind (wpAny_specialOf dd.typeIs PySem.F.slot_dict_iter.lookup (wpAny_pure ⟨rfl, ?_⟩))
  refine PySem.W.kdu_collect (A := X.A) (PySem.W.kdl_dict (knd := mixKind X.prog X.w) (kvs := vs) (ep := ep) lo) (I.ok.hd hcalm) hat h16 fun h' tk acc hk hacc => ?_
  have hv : Vals (vs.map fun p => kV p.1) acc.toList := keys_at (by rw [Array.length_toList]; exact hacc.1) fun j v e => hacc.2 j v (by rw [← Array.getElem?_toList]; exact e)
  exact hQ acc.toList _ (I.kept hk) (by rw [ek]; exact hv)
end
def tStarD (te : TE) (t : TA) : TA := fun σ H Q => te σ H fun x H1 => ∃ p kvs, x = V.ref p ∧ Rd H1 p (.dK kvs) ∧ t σ H1 fun ys H2 => Q ((kvs.map fun kv => kV kv.1) ++ ys) H2
section
variable {X : Cx} {e : Expr} {es : List Expr} {te : TE} {t : TA} {p : Pos}
theorem pa_starD (hcalm : X.calm = true) (he : PE X e te) (hr : PA X es t) (hs : starEach (.Starred e p :: es) X.env = (true, eval e X.env) :: starEach es X.env := by rfl) : PA X (.Starred e p :: es) (tStarD te t) := by
  refine ⟨fun pos pins s σ H Q I h => ?_⟩
  refine PySem.W.items_star (thn (he.run pins s σ H _ I h) fun v s1 ⟨y, H1, I1, ry, a, kvs, ey, hx, q⟩ => ?_) hs
  subst ey
  obtain rfl : v = Value.ref a := ry
  refine star_dict hcalm I1 hx fun us s2 I2 rv => ?_
  exact thn (hr.run pos pins s2 σ H1 _ I2 q) fun ws s3 ⟨vs, H3, I3, r3, q3⟩ => ⟨_ ++ vs, H3, I3, rv.append r3, q3⟩
end
end Ld
namespace Ld
open PySem PySem.Spec PyProof.Rows L2
def tSubO (C : Addr) (sp : Sp) (E : XK) (to ti : TE) : TE := fun σ H Q => to σ H fun x H1 => ti σ H1 fun y H2 => ∃ a dx fs, x = V.ref a ∧ H2 a = some (.ins C dx fs) ∧ sp [x, y] H2 Q E
section
variable {X : Cx} {CX : CXT} {C g : Addr} {n : Nat} {sp : Sp} {E : XK} {o i : Expr} {to ti : TE} {pos : Pos}
/-- o[i], o an instance of the class at C whose __getitem__ is at g -/
theorem pe_subO (hs : PySem.W.findIn X.K (.ref C) "__getitem__" = some (some (.ref g))) (hf : PySem.W.fnIn X.K g = true) (hfn : PySem.W.isFn X.K (.ref g) = true) (F : FnR X.prog X.w X.K X.mg X.base CX n g sp) (hr : Room (n + 1) X.A) (hx : Passes CX X E)
    (ho : PE X o to) (hi : PE X i ti) (hsl : ∀ a v, subscripted i true (.ref a) v = runValue (.builtin "lifetime.subscript" ⟨[.ref a, v], []⟩) := by intro _ _; with_unfolding_all rfl) : PE X (.Subscript o i pos) (tSubO C sp E to ti) := by
  refine ⟨fun pins s σ H Q I h => ?_⟩
  refine Subscript_ (thn (ho.run pins s σ H _ I h) fun u s1 ⟨x, H1, I1, rx, q1⟩ => thn (hi.run pins s1 σ H1 _ I1 q1) fun v s2 ⟨y, H2, I2, ry, a, dx, fs, ex, ha, q2⟩ => ?_)
  subst ex
  obtain rfl : u = Value.ref a := rx
  obtain ⟨mA, O, _⟩ := ins_get I2.hok ha
  obtain ⟨od, J, _⟩ := O.look
  obtain ⟨m, hF⟩ := I2.fr
  have hr1 : Room n X.A.in1 := Room.in1 hr
  refine PySem.W.sub_K hF I2.ok.mod.kin J hs hf hfn ?_ (hsl a v)
  exact wpAny_call (SlX.run_at (A := X.A.in1) (us := [.ref a, v]) (ws := [.ref a, y]) F hr1 I2.env0.in1 hx I2 (.cons rfl (.cons ry .nil)) q2)
end
end Ld
namespace Ld
open PySem PySem.Spec PyProof.Rows L2
/-- C.name is a def that keeps sp -/
def HasM (P : Program) (w : World) (K : PySem.W.Frag) (mg : Str → Option Value) (base : Heap) (n : Nat) (C : Addr) (name : Str) (sp : Sp) : Prop :=
  ∃ g, PySem.W.findIn K (.ref C) name = some (some (.ref g)) ∧ PySem.W.fnIn K g = true ∧ PySem.W.isFn K (.ref g) = true ∧ FnR P w K mg base CX0 n g sp
theorem fnR_of {P : Program} {w : World} {K : PySem.W.Frag} {mg : Str → Option Value} {base : Heap} {n : Nat} {f : Addr} {fd : FuncData} {ps : List Str} {sp : Sp} (F : FnOk P w K mg base CX0 n f fd ps sp) (b : L2.Binds K fd ps []) : FnR P w K mg base CX0 n f sp :=
  (F.raw b .nil).imp fun vs H Q E h => by rw [List.append_nil]; exact h
def spGet (C : Addr) : Sp := fun vs H Q _ => ∃ (x : Addr) (ps : List (Str × Int)) (z : Str), vs = [.ref x, .str z] ∧ LoadAt C H x ps ∧ Q (.int (ct ps z)) H
theorem cD_kV (ps : List (Str × Int)) : ((cD ps).map fun kv : Key × V => kV kv.1) = (ps.map (·.1)).map V.str := by
  unfold cD
  rw [List.map_map, List.map_map]
  rfl
def leB (ps qs : List (Str × Int)) : Bool := (ps.map (·.1) ++ qs.map (·.1)).all fun z => decide (ct ps z ≤ ct qs z)
def spLe (C : Addr) : Sp := fun vs H Q _ => ∃ (x y : Addr) (ps qs : List (Str × Int)), vs = [.ref x, .ref y] ∧ LoadAt C H x ps ∧ LoadAt C H y qs ∧ ∀ H', Same H H' → Q (.bl (leB ps qs)) H'
def spLt (C : Addr) : Sp := fun vs H Q _ => ∃ (x y : Addr) (ps qs : List (Str × Int)), vs = [.ref x, .ref y] ∧ LoadAt C H x ps ∧ LoadAt C H y qs ∧ ∀ H', Same H H' → Q (.bl (leB ps qs && !decide (ps = qs))) H'
def spGe (C : Addr) : Sp := fun vs H Q _ => ∃ (x y : Addr) (ps qs : List (Str × Int)), vs = [.ref x, .ref y] ∧ LoadAt C H x ps ∧ LoadAt C H y qs ∧ ∀ H', Same H H' → Q (.bl (leB qs ps)) H'
def spGt (C : Addr) : Sp := fun vs H Q _ => ∃ (x y : Addr) (ps qs : List (Str × Int)), vs = [.ref x, .ref y] ∧ LoadAt C H x ps ∧ LoadAt C H y qs ∧ ∀ H', Same H H' → Q (.bl (leB qs ps && !decide (qs = ps))) H'
abbrev sGet : Stmt := inClass (top 14) 9
abbrev sLe : Stmt := inClass (top 14) 20
abbrev sLt : Stmt := inClass (top 14) 21
abbrev sGe : Stmt := inClass (top 14) 22
abbrev sGt : Stmt := inClass (top 14) 23
section
variable {P : Program} {w : World} {K : PySem.W.Frag} {mg : Str → Option Value} {base : Heap} {C fi : Addr}
theorem scGet : FnScope ["self", "at"] ["self", "at"] (defScope sGet) := ⟨rfl, rfl, rfl, by decide +kernel, rfl, by decide +kernel, by decide +kernel⟩
theorem ok_get {f : Addr} {fd : FuncData} (F : Fun K "__getitem__" "Load.__getitem__" sGet f fd) (T : LoadC K mg C fi) : FnOk P w K mg base CX0 1 f fd ["self", "at"] (spGet C) := by
  refine F.ok scGet (fun vs H Q E h => ?_) (fun cdv A outer s H vs Q E hr h => ?_)
  · obtain ⟨x, ps, z, rfl, _⟩ := h
    rfl
  · obtain ⟨x, ps, z, rfl, ⟨dx, t, h1, h2, can⟩, q⟩ := h
    refine ⟨_, pss_one (ps_ret (pe_dget2 (hu_of hr) (pe_fld (pv 0) rfl) (pv 1) pe_int ⟨rfl, rfl, rfl, rfl⟩)), ?_⟩
    refine ⟨_, rfl, x, C, dx, _, _, rfl, h1, T.c, T.nc, rfl, t, rfl, .inl ⟨_, .inl h2⟩, _, rfl, _, .inl ⟨cD ps, Sum.inr z, .inl h2, rfl, rfl⟩, ?_⟩
    rw [valV_cD]
    have e : ((ctO ps z).map V.int).getD (.int 0) = .int (ct ps z) := by
      unfold ct
      cases ctO ps z <;> rfl
    rw [e]
    exact q
abbrev nLe : List Str := ["self", "other", "kind"]
theorem scLe : FnScope nLe ["self", "other"] (defScope sLe) := ⟨rfl, rfl, rfl, by decide +kernel, rfl, by decide +kernel, by decide +kernel⟩
theorem ok_le {f : Addr} {fd : FuncData} (F : Fun K "__le__" "Load.__le__" sLe f fd) (T : LoadC K mg C fi) (S : SlX.SIsi K C) (B : Blt2 mg) (HG : HasM P w K mg base 1 C "__getitem__" (spGet C)) : FnOk P w K mg base CX0 3 f fd ["self", "other"] (spLe C) := by
  obtain ⟨g, a1, a2, a3, G⟩ := HG
  refine F.ok scLe (fun vs H Q E h => ?_) (fun cdv A outer s H vs Q E hr h => ?_)
  · obtain ⟨x, y, ps, qs, rfl, _⟩ := h
    rfl
  · obtain ⟨x, y, ps, qs, rfl, hx, hy, q⟩ := h
    have nd : nLe.Nodup := scLe.nd
    refine ⟨_, pss_cons (ps_if (pt_not (pt_truth (pe_callB call_isi (by rfl) B.isi bIsi (pa_cons (pv 1) (pa_cons (pe_glob (v := .ref C) (by rfl) T.gC rfl) pa_nil))) (fun _ => rfl))) (pss_one ps_never) pss_nil)
      (pss_one (ps_ret (pe_callB (cr_all rfl) (by rfl) B.all bAll (pa_cons (pe_lc (own := [("kind", 2)]) (g := gName 2) (tt := tYes) rfl nd (pi_list (pe_lst (pa_starD rfl (pe_fld (pv 0) rfl) (pa_starD rfl (pe_fld (pv 1) rfl) pa_nil)))) (blkOk_by (N := nLe) (sc := defScope sLe) (by decide +kernel))
        (fun _ _ _ _ _ => pg_name (i := 2) nd rfl (Or.inl rfl)) (fun _ _ _ _ _ => pts_nil) (fun _ _ _ _ _ => pe_cmpR op_le (pe_subO a1 a2 a3 G hr pass0 (pv 0) (pv 2)) (pe_subO a1 a2 a3 G hr pass0 (pv 1) (pv 2)) (nomark _))) pa_nil)))), ?_⟩
    refine ⟨_, rfl, .ref y, _, _, _, true, rfl, .own C, hy.ty T.c S, kit_self, true, rfl, ?_⟩
    have hx' := hx
    have hy' := hy
    obtain ⟨dx, tx, h1, h2, cx⟩ := hx
    obtain ⟨dy, ty, h3, h4, cy⟩ := hy
    refine ⟨_, rfl, x, C, dx, _, _, rfl, h1, T.c, T.nc, rfl, tx, cD ps, rfl, .inl h2, _, rfl, y, C, dy, _, _, rfl, h3, T.c, T.nc, rfl, ty, cD qs, rfl, .inl h4, ?_⟩
    have ek : ((cD ps).map fun kv : Key × V => kV kv.1) ++ (((cD qs).map fun kv : Key × V => kV kv.1) ++ []) = (ps.map (·.1) ++ qs.map (·.1)).map V.str := by
      rw [List.append_nil, List.map_append, cD_kV, cD_kV]
    have hn : (((cD ps).map fun kv : Key × V => kV kv.1) ++ (((cD qs).map fun kv : Key × V => kV kv.1) ++ [])).length ≤ 2000 := by
      rw [ek, List.length_map, List.length_append, List.length_map, List.length_map]
      have := cx.few
      have := cy.few
      omega
    refine ⟨Nat.le_trans hn (by decide : 2000 ≤ sizeLine), fun p hp => ⟨p, rfl, ⟨_, .inl (.inl upd_same)⟩, fun D hD => ?_⟩⟩
    have nDp : D ≠ p := fun e => by rw [e, upd_same] at hD; cases hD
    have hD0 : H D = none := by rw [upd_ne nDp] at hD; exact hD
    have sp1 := same_new (o := .lst (((cD ps).map fun kv : Key × V => kV kv.1) ++ (((cD qs).map fun kv : Key × V => kV kv.1) ++ []))) hp
    refine lc_it (walk_list (K := K) (a := p) (xs := ((cD ps).map fun kv : Key × V => kV kv.1) ++ (((cD qs).map fun kv : Key × V => kV kv.1) ++ []))) (fun i H' => H' D = some (.lst (((ps.map (·.1) ++ qs.map (·.1)).take i).map fun z => V.bl (decide (ct ps z ≤ ct qs z)))) ∧ H' p = some (.lst (((cD ps).map fun kv : Key × V => kV kv.1) ++ (((cD qs).map fun kv : Key × V => kV kv.1) ++ []))) ∧ Same H H')
      ⟨upd_same, by rw [upd_ne nDp.symm, upd_same], fun b o eb => by rw [upd_ne (ne_of_none eb hD0)]; exact sp1 _ _ eb⟩ (fun i H' _ h => .inl (.inl h.2.1)) ?_ ?_
    · rintro i v H2 H3 hi ⟨eD, ep, same⟩ ⟨rfl, hv⟩
      rw [ek, List.getElem?_map] at hv
      obtain ⟨z, hz, rfl⟩ : ∃ z, (ps.map (·.1) ++ qs.map (·.1))[i]? = some z ∧ v = V.str z := by
        cases e : (ps.map (·.1) ++ qs.map (·.1))[i]? with
        | none => rw [e] at hv; cases hv
        | some z => rw [e] at hv; exact ⟨z, rfl, (Option.some.inj hv).symm⟩
      refine ⟨rfl, _, rfl, _, rfl, x, dx, _, rfl, same _ _ h1, x, ps, z, rfl, hx'.same same, _, rfl, _, rfl, y, dy, _, rfl, same _ _ h3, y, qs, z, rfl, hy'.same same, _, _, rfl, rfl, _, eD, ?_, ?_, by rw [upd_ne nDp.symm]; exact ep, fun b o eb => by rw [upd_ne (ne_of_none eb hD0)]; exact same _ _ eb⟩
      · rw [List.length_map, List.length_take]
        exact Nat.lt_of_le_of_lt (by omega : _ ≤ 2000) (by decide)
      · rw [upd_same, List.take_add_one, hz, List.map_append]
        rfl
    · rintro H2 ⟨eD, ep, same⟩
      rw [ek, List.length_map, List.take_of_length_le (Nat.le_refl _)] at eD
      have eA : (ps.map (·.1) ++ qs.map (·.1)).map (fun z => V.bl (decide (ct ps z ≤ ct qs z))) = ((ps.map (·.1) ++ qs.map (·.1)).map fun z => decide (ct ps z ≤ ct qs z)).map V.bl := by
        rw [List.map_map]
        rfl
      rw [eA] at eD
      refine ⟨D, _, rfl, .inl (.inl eD), ?_⟩
      have e : ((ps.map (·.1) ++ qs.map (·.1)).map fun z => decide (ct ps z ≤ ct qs z)).all id = leB ps qs := by
        unfold leB
        rw [List.all_map]
        rfl
      rw [e]
      exact q H2 same
end
end Ld
namespace Ld
open PySem PySem.Spec PyProof.Rows L2
/-- what != asks of the class -/
structure NeC (K : PySem.W.Frag) (C : Addr) : Prop where
  ne : PySem.W.findIn K (.ref C) "__ne__" = some (some (.builtin "object.__ne__"))
abbrev sCounts : Stmt := inClass (top 14) 4
section
variable {P : Program} {w : World} {K : PySem.W.Frag} {mg : Str → Option Value} {base : Heap} {C fi : Addr}
theorem scLt : FnScope ["self", "other"] ["self", "other"] (defScope sLt) := ⟨rfl, rfl, rfl, by decide +kernel, rfl, by decide +kernel, by decide +kernel⟩
theorem scGe : FnScope ["self", "other"] ["self", "other"] (defScope sGe) := ⟨rfl, rfl, rfl, by decide +kernel, rfl, by decide +kernel, by decide +kernel⟩
theorem scGt : FnScope ["self", "other"] ["self", "other"] (defScope sGt) := ⟨rfl, rfl, rfl, by decide +kernel, rfl, by decide +kernel, by decide +kernel⟩
theorem ok_lt {f : Addr} {fd : FuncData} (F : Fun K "__lt__" "Load.__lt__" sLt f fd) (T : LoadC K mg C fi) (S : SlX.SIsi K C) (N : NeC K C) (B : Blt2 mg) (HE : HasM P w K mg base 1 C "__eq__" (spEqL K C)) (HL : HasM P w K mg base 3 C "__le__" (spLe C)) :
    FnOk P w K mg base CX0 4 f fd ["self", "other"] (spLt C) := by
  obtain ⟨g, a1, a2, a3, G⟩ := HE
  obtain ⟨g2, c1, c2, c3, G2⟩ := HL
  refine F.ok scLt (fun vs H Q E h => ?_) (fun cdv A outer s H vs Q E hr h => ?_)
  · obtain ⟨x, y, ps, qs, rfl, _⟩ := h
    rfl
  · obtain ⟨x, y, ps, qs, rfl, hx, hy, q⟩ := h
    refine ⟨_, pss_cons (ps_if (pt_not (pt_truth (pe_callB call_isi (by rfl) B.isi bIsi (pa_cons (pv 1) (pa_cons (pe_glob (v := .ref C) (by rfl) T.gC rfl) pa_nil))) (fun _ => rfl))) (pss_one ps_never) pss_nil)
      (pss_one (ps_ret (pe_and (pe_cmpR (op_cmp (op := .LtE) (fun _ _ => rfl) c1 c3 G2 hr pass0) (pv 0) (pv 1) (nomark _)) (pe_one (pe_cmpR (op_cmpNe N.ne S.cm a1 a3 G (hr.mono (by decide)) pass0) (pv 0) (pv 1) (nomark _)))))), ?_⟩
    refine ⟨_, rfl, .ref y, _, _, _, true, rfl, .own C, hy.ty T.c S, kit_self, true, rfl, ?_⟩
    have hx' := hx
    obtain ⟨dx, tx, h1, h2, cx⟩ := hx
    refine ⟨_, rfl, _, rfl, x, dx, _, _, rfl, h1, hy.ty T.c S, nf_self, x, y, ps, qs, rfl, hx', hy, fun H1 same1 => ⟨_, rfl, ifb (fun e => ?_) (fun e => ?_)⟩⟩
    · refine ⟨_, rfl, _, rfl, x, dx, _, _, rfl, same1 _ _ h1, (hy.same same1).ty T.c S, nf_self, x, .ref y, ps, rfl, hx'.same same1, .inl ⟨y, qs, rfl, hy.same same1, _, rfl, ?_⟩⟩
      have := q H1 same1
      rw [e] at this
      exact this
    · have := q H1 same1
      rw [e] at this
      exact this
theorem ok_ge {f : Addr} {fd : FuncData} (F : Fun K "__ge__" "Load.__ge__" sGe f fd) (T : LoadC K mg C fi) (S : SlX.SIsi K C) (B : Blt2 mg) (HL : HasM P w K mg base 3 C "__le__" (spLe C)) : FnOk P w K mg base CX0 4 f fd ["self", "other"] (spGe C) := by
  obtain ⟨g2, c1, c2, c3, G2⟩ := HL
  refine F.ok scGe (fun vs H Q E h => ?_) (fun cdv A outer s H vs Q E hr h => ?_)
  · obtain ⟨x, y, ps, qs, rfl, _⟩ := h
    rfl
  · obtain ⟨x, y, ps, qs, rfl, hx, hy, q⟩ := h
    refine ⟨_, pss_cons (ps_if (pt_not (pt_truth (pe_callB call_isi (by rfl) B.isi bIsi (pa_cons (pv 1) (pa_cons (pe_glob (v := .ref C) (by rfl) T.gC rfl) pa_nil))) (fun _ => rfl))) (pss_one ps_never) pss_nil)
      (pss_one (ps_ret (pe_cmpR (op_cmp (op := .LtE) (fun _ _ => rfl) c1 c3 G2 hr pass0) (pv 1) (pv 0) (nomark _)))), ?_⟩
    refine ⟨_, rfl, .ref y, _, _, _, true, rfl, .own C, hy.ty T.c S, kit_self, true, rfl, ?_⟩
    have hy' := hy
    obtain ⟨dy, ty, h1, h2, cy⟩ := hy
    exact ⟨_, rfl, _, rfl, y, dy, _, _, rfl, h1, hx.ty T.c S, nf_self, y, x, qs, ps, rfl, hy', hx, fun H1 same1 => q H1 same1⟩
theorem ok_gt {f : Addr} {fd : FuncData} (F : Fun K "__gt__" "Load.__gt__" sGt f fd) (T : LoadC K mg C fi) (S : SlX.SIsi K C) (B : Blt2 mg) (HL : HasM P w K mg base 4 C "__lt__" (spLt C)) : FnOk P w K mg base CX0 5 f fd ["self", "other"] (spGt C) := by
  obtain ⟨g2, c1, c2, c3, G2⟩ := HL
  refine F.ok scGt (fun vs H Q E h => ?_) (fun cdv A outer s H vs Q E hr h => ?_)
  · obtain ⟨x, y, ps, qs, rfl, _⟩ := h
    rfl
  · obtain ⟨x, y, ps, qs, rfl, hx, hy, q⟩ := h
    refine ⟨_, pss_cons (ps_if (pt_not (pt_truth (pe_callB call_isi (by rfl) B.isi bIsi (pa_cons (pv 1) (pa_cons (pe_glob (v := .ref C) (by rfl) T.gC rfl) pa_nil))) (fun _ => rfl))) (pss_one ps_never) pss_nil)
      (pss_one (ps_ret (pe_cmpR (op_cmp (op := .Lt) (fun _ _ => rfl) c1 c3 G2 hr pass0) (pv 1) (pv 0) (nomark _)))), ?_⟩
    refine ⟨_, rfl, .ref y, _, _, _, true, rfl, .own C, hy.ty T.c S, kit_self, true, rfl, ?_⟩
    have hy' := hy
    obtain ⟨dy, ty, h1, h2, cy⟩ := hy
    exact ⟨_, rfl, _, rfl, y, dy, _, _, rfl, h1, hx.ty T.c S, nf_self, y, x, qs, ps, rfl, hy', hx, fun H1 same1 => q H1 same1⟩
/-- the counts, a new dict -/
def spCounts (C : Addr) : Sp := fun vs H Q _ => ∃ (x : Addr) (ps : List (Str × Int)), vs = [.ref x] ∧ LoadAt C H x ps ∧ ∀ p, H p = none → Q (.ref p) (upd H p (.dK (cD ps)))
theorem scCounts : FnScope ["self"] ["self"] (defScope sCounts) := ⟨rfl, rfl, rfl, by decide +kernel, rfl, by decide +kernel, by decide +kernel⟩
theorem ok_counts {f : Addr} {fd : FuncData} (F : Fun K "counts" "Load.counts" sCounts f fd) (T : LoadC K mg C fi) (B : Blt2 mg) : FnOk P w K mg base CX0 1 f fd ["self"] (spCounts C) := by
  refine F.ok scCounts (fun vs H Q E h => ?_) (fun cdv A outer s H vs Q E hr h => ?_)
  · obtain ⟨x, ps, rfl, _⟩ := h
    rfl
  · obtain ⟨x, ps, rfl, ⟨dx, t, h1, h2, can⟩, q⟩ := h
    refine ⟨_, pss_one (ps_ret (pe_callTy call_dictD (by rfl) B.dict (by decide +kernel) (pa_cons (pe_fld (pv 0) rfl) pa_nil))), ?_⟩
    exact ⟨_, rfl, x, C, dx, _, _, rfl, h1, T.c, T.nc, rfl, t, cD ps, rfl, .inl h2, q⟩
end
end Ld
namespace Ld
open PySem PySem.Spec PyProof.Rows L2
/-! ### dicts of counts, filled -/
def putI (ps : List (Str × Int)) (z : Str) (i : Int) : List (Str × Int) := if z ∈ ps.map (·.1) then ps.map fun p => if p.1 = z then (p.1, i) else p else ps ++ [(z, i)]
theorem putI_keys_in {ps : List (Str × Int)} {z : Str} {i : Int} (h : z ∈ ps.map (·.1)) : (putI ps z i).map (·.1) = ps.map (·.1) := by
  unfold putI
  rw [if_pos h, List.map_map]
  refine List.map_congr_left fun p _ => ?_
  show (if p.1 = z then (p.1, i) else p).1 = p.1
  split <;> rfl
theorem putI_keys_out {ps : List (Str × Int)} {z : Str} {i : Int} (h : z ∉ ps.map (·.1)) : (putI ps z i).map (·.1) = ps.map (·.1) ++ [z] := by
  unfold putI
  rw [if_neg h, List.map_append]
  rfl
theorem putI_nd {ps : List (Str × Int)} {z : Str} {i : Int} (h : (ps.map (·.1)).Nodup) : ((putI ps z i).map (·.1)).Nodup := by
  by_cases e : z ∈ ps.map (·.1)
  · rw [putI_keys_in e]
    exact h
  · rw [putI_keys_out e, List.nodup_append]
    refine ⟨h, by simp, fun a ha b hb q => ?_⟩
    rw [List.mem_singleton.mp hb] at q
    exact e (q ▸ ha)
theorem putI_keys {ps : List (Str × Int)} {z : Str} {i : Int} {y : Str} : y ∈ (putI ps z i).map (·.1) → y = z ∨ y ∈ ps.map (·.1) := by
  intro h
  by_cases e : z ∈ ps.map (·.1)
  · rw [putI_keys_in e] at h
    exact .inr h
  · rw [putI_keys_out e] at h
    rcases List.mem_append.mp h with h | h
    · exact .inr h
    · exact .inl (List.mem_singleton.mp h)
theorem putI_key {ps : List (Str × Int)} {z : Str} {i : Int} : z ∈ (putI ps z i).map (·.1) := by
  by_cases e : z ∈ ps.map (·.1)
  · rw [putI_keys_in e]
    exact e
  · rw [putI_keys_out e]
    exact List.mem_append_right _ (List.mem_singleton.mpr rfl)
theorem putI_mem {ps : List (Str × Int)} {z : Str} {i : Int} {q : Str × Int} : q ∈ putI ps z i → q = (z, i) ∨ q ∈ ps := by
  intro h
  unfold putI at h
  split at h
  · obtain ⟨p, hp, e⟩ := List.mem_map.mp h
    split at e
    · rename_i e2
      exact .inl (by rw [← e, e2])
    · exact .inr (e ▸ hp)
  · rcases List.mem_append.mp h with h | h
    · exact .inr h
    · exact .inl (List.mem_singleton.mp h)
theorem putI_len {ps : List (Str × Int)} {z : Str} {i : Int} : (putI ps z i).length ≤ ps.length + 1 := by
  unfold putI
  split
  · rw [List.length_map]
    omega
  · rw [List.length_append]
    exact Nat.le_refl _
theorem putI_cD {ps : List (Str × Int)} {z : Str} {i : Int} : putK (cD ps) (Sum.inr z : Key) (.int i) = cD (putI ps z i) := by
  by_cases e : z ∈ ps.map (·.1)
  · unfold putI putK
    rw [if_pos e, valV_any, valV_cD, ctO_some e]
    show (cD ps).map _ = _
    unfold cD
    rw [List.map_map, List.map_map]
    refine List.map_congr_left fun p _ => ?_
    show (if (Sum.inr p.1 : Key) = Sum.inr z then ((Sum.inr p.1 : Key), V.int i) else (Sum.inr p.1, V.int p.2)) = _
    by_cases h : p.1 = z
    · rw [if_pos (by rw [h])]
      show _ = (Sum.inr (if p.1 = z then (p.1, i) else p).1, V.int (if p.1 = z then (p.1, i) else p).2)
      rw [if_pos h]
    · rw [if_neg fun q => h (Sum.inr.inj q)]
      show _ = (Sum.inr (if p.1 = z then (p.1, i) else p).1, V.int (if p.1 = z then (p.1, i) else p).2)
      rw [if_neg h]
  · rw [cD_put e]
    unfold putI
    rw [if_neg e]
theorem ctO_putI (ps : List (Str × Int)) (z y : Str) (i : Int) : ctO (putI ps z i) y = if y = z then some i else ctO ps y := by
  have h : (ctO (putI ps z i) y).map V.int = (if y = z then some i else ctO ps y).map V.int := by
    rw [← valV_cD, ← putI_cD, valV_put]
    by_cases e : y = z
    · rw [if_pos e, if_pos (by rw [e])]
      rfl
    · rw [if_neg e, if_neg fun q => e (Sum.inr.inj q), valV_cD]
  cases h1 : ctO (putI ps z i) y with
  | none =>
    rw [h1] at h
    cases h2 : (if y = z then some i else ctO ps y) with
    | none => rfl
    | some b => rw [h2] at h; cases h
  | some a =>
    rw [h1] at h
    cases h2 : (if y = z then some i else ctO ps y) with
    | none => rw [h2] at h; cases h
    | some b =>
      rw [h2] at h
      have : V.int a = V.int b := Option.some.inj h
      rw [V.int.inj this]
theorem ct_putI (ps : List (Str × Int)) (z y : Str) (i : Int) : ct (putI ps z i) y = if y = z then i else ct ps y := by
  unfold ct
  rw [ctO_putI]
  split <;> rfl
/-- dict(pairs) -/
def mrg (acc qs : List (Str × Int)) : List (Str × Int) := qs.foldl (fun a q => putI a q.1 q.2) acc
theorem mergeK_cD : ∀ (qs acc : List (Str × Int)), mergeK (cD acc) (cD qs) = cD (mrg acc qs)
  | [], acc => rfl
  | q :: r, acc => by
    show mergeK (putK (cD acc) (Sum.inr q.1) (.int q.2)) (cD r) = _
    rw [putI_cD, mergeK_cD r]
    rfl
theorem mrg_nd : ∀ {qs acc : List (Str × Int)}, (acc.map (·.1)).Nodup → ((mrg acc qs).map (·.1)).Nodup
  | [], _, h => h
  | q :: r, _, h => mrg_nd (qs := r) (putI_nd h)
theorem mrg_mem : ∀ {qs acc : List (Str × Int)} {q : Str × Int}, q ∈ mrg acc qs → q ∈ acc ∨ q ∈ qs
  | [], _, _, h => .inl h
  | p :: r, acc, q, h => by
    rcases mrg_mem (qs := r) h with h | h
    · rcases putI_mem h with h | h
      · exact .inr (by rw [h]; exact List.mem_cons_self)
      · exact .inl h
    · exact .inr (List.mem_cons_of_mem _ h)
theorem mrg_len : ∀ {qs acc : List (Str × Int)}, (mrg acc qs).length ≤ acc.length + qs.length
  | [], _ => Nat.le_refl _
  | q :: r, acc => by
    have h1 := mrg_len (qs := r) (acc := putI acc q.1 q.2)
    have h2 := putI_len (ps := acc) (z := q.1) (i := q.2)
    show (mrg (putI acc q.1 q.2) r).length ≤ _
    rw [List.length_cons]
    omega
theorem cD_nil : cD [] = [] := rfl
/-- a dict from words of a list to numbers below a bound -/
structure Ds (ws : List Str) (b : Nat) (ps : List (Str × Int)) : Prop where
  nd : (ps.map (·.1)).Nodup
  sub : ∀ z ∈ ps.map (·.1), z ∈ ws
  sm : ∀ p ∈ ps, p.2.natAbs < b
  few : ps.length ≤ 100
theorem Ds.mono {ws : List Str} {b c : Nat} {ps : List (Str × Int)} (h : Ds ws b ps) (k : b ≤ c) : Ds ws c ps := ⟨h.nd, h.sub, fun p hp => Nat.lt_of_lt_of_le (h.sm p hp) k, h.few⟩
theorem Ds.ct {ws : List Str} {b : Nat} {ps : List (Str × Int)} (h : Ds ws b ps) (hb : 0 < b) (z : Str) : (ct ps z).natAbs < b := by
  by_cases e : z ∈ ps.map (·.1)
  · obtain ⟨p, hp, e⟩ := List.mem_map.mp e
    rw [← e, ct_mem h.nd hp]
    exact h.sm p hp
  · rw [ct_out e]
    exact hb
theorem ds_mrg {ws : List Str} {b : Nat} {qs : List (Str × Int)} (h1 : ∀ q ∈ qs, q.1 ∈ ws ∧ q.2.natAbs < b) (h2 : qs.length ≤ 100) : Ds ws b (mrg [] qs) := by
  refine ⟨mrg_nd List.nodup_nil, fun z hz => ?_, fun p hp => ?_, ?_⟩
  · obtain ⟨p, hp, rfl⟩ := List.mem_map.mp hz
    rcases mrg_mem hp with h | h
    · cases h
    · exact (h1 p h).1
  · rcases mrg_mem hp with h | h
    · cases h
    · exact (h1 p h).2
  · have := mrg_len (qs := qs) (acc := [])
    rw [List.length_nil] at this
    omega
theorem nd_len {l m : List Str} (nd : l.Nodup) (h : ∀ x ∈ l, x ∈ m) : l.length ≤ m.length := by
  induction l generalizing m with
  | nil => exact Nat.zero_le _
  | cons a r ih =>
    obtain ⟨h1, h2⟩ := List.nodup_cons.mp nd
    have ha : a ∈ m := h a List.mem_cons_self
    have := ih (m := m.erase a) h2 fun x hx => (List.mem_erase_of_ne (fun (e : x = a) => h1 (e ▸ hx))).mpr (h x (List.mem_cons_of_mem _ hx))
    rw [List.length_erase_of_mem ha] at this
    have : 0 < m.length := List.length_pos_of_mem ha
    rw [List.length_cons]
    omega
theorem ds_put {ws : List Str} {b : Nat} {ps : List (Str × Int)} {z : Str} {i : Int} (h : Ds ws b ps) (hz : z ∈ ws) (hi : i.natAbs < b) (hw : ws.length ≤ 100) : Ds ws b (putI ps z i) := by
  have nd := putI_nd (z := z) (i := i) h.nd
  have sub : ∀ y ∈ (putI ps z i).map (·.1), y ∈ ws := fun y hy => by
    rcases putI_keys hy with e | e
    · rw [e]
      exact hz
    · exact h.sub y e
  refine ⟨nd, sub, fun p hp => ?_, ?_⟩
  · rcases putI_mem hp with e | e
    · rw [e]
      exact hi
    · exact h.sm p e
  · have := nd_len nd sub
    rw [List.length_map] at this
    omega
/-! ### the told comparisons, by the gaps -/
theorem leB_iff {ps qs : List (Str × Int)} : leB ps qs = true ↔ ∀ z, ct ps z ≤ ct qs z := by
  unfold leB
  rw [List.all_eq_true]
  constructor
  · intro h z
    by_cases e : z ∈ ps.map (·.1) ++ qs.map (·.1)
    · exact of_decide_eq_true (h z e)
    · rw [List.mem_append, not_or] at e
      rw [ct_out e.1, ct_out e.2]
      exact Int.le_refl _
  · intro h z _
    exact decide_eq_true (h z)
theorem leB_gaps {ps qs as bs : List (Str × Int)} {ws : List Str} {m : Int} (ha : ∀ z, ct as z = ct ps z) (hb : ∀ z, ct bs z = ct qs z) (k1 : ∀ z ∈ ps.map (·.1), z ∈ ws) (k2 : ∀ z ∈ qs.map (·.1), z ∈ ws)
    (hm : m ∈ (ws.map fun z => ct qs z - ct ps z) ++ [0]) (hle : ∀ y ∈ (ws.map fun z => ct qs z - ct ps z) ++ [0], m ≤ y) : leB as bs = decide (m = 0) := by
  rw [Bool.eq_iff_iff, leB_iff, decide_eq_true_eq]
  have h0 : m ≤ 0 := hle 0 (List.mem_append_right _ (List.mem_singleton.mpr rfl))
  constructor
  · intro h
    rcases List.mem_append.mp hm with e | e
    · obtain ⟨z, _, e⟩ := List.mem_map.mp e
      have := h z
      rw [ha, hb] at this
      omega
    · exact List.mem_singleton.mp e
  · intro h z
    rw [ha, hb]
    by_cases e : z ∈ ws
    · have := hle _ (List.mem_append_left _ (List.mem_map.mpr ⟨z, e, rfl⟩))
      omega
    · rw [ct_out fun q => e (k1 z q), ct_out fun q => e (k2 z q)]
      exact Int.le_refl _
theorem leB_gaps2 {ps qs as bs : List (Str × Int)} {ws : List Str} {m : Int} (ha : ∀ z, ct as z = ct ps z) (hb : ∀ z, ct bs z = ct qs z) (k1 : ∀ z ∈ ps.map (·.1), z ∈ ws) (k2 : ∀ z ∈ qs.map (·.1), z ∈ ws)
    (hm : m ∈ (ws.map fun z => ct qs z - ct ps z) ++ [0]) (hle : ∀ y ∈ (ws.map fun z => ct qs z - ct ps z) ++ [0], y ≤ m) : leB bs as = decide (m = 0) := by
  rw [Bool.eq_iff_iff, leB_iff, decide_eq_true_eq]
  have h0 : 0 ≤ m := hle 0 (List.mem_append_right _ (List.mem_singleton.mpr rfl))
  constructor
  · intro h
    rcases List.mem_append.mp hm with e | e
    · obtain ⟨z, _, e⟩ := List.mem_map.mp e
      have := h z
      rw [ha, hb] at this
      omega
    · exact List.mem_singleton.mp e
  · intro h z
    rw [ha, hb]
    by_cases e : z ∈ ws
    · have := hle _ (List.mem_append_left _ (List.mem_map.mpr ⟨z, e, rfl⟩))
      omega
    · rw [ct_out fun q => e (k1 z q), ct_out fun q => e (k2 z q)]
      exact Int.le_refl _
theorem eq_le {as bs : List (Str × Int)} (a : Can as) (b : Can bs) : decide (as = bs) = (leB as bs && leB bs as) := by
  rw [Bool.eq_iff_iff, Bool.and_eq_true, leB_iff, leB_iff, decide_eq_true_eq]
  constructor
  · rintro rfl
    exact ⟨fun _ => Int.le_refl _, fun _ => Int.le_refl _⟩
  · rintro ⟨h1, h2⟩
    exact can_eq a b fun z => Int.le_antisymm (h1 z) (h2 z)
end Ld
namespace Ld
open PySem PySem.Spec PyProof.Rows L2
/-! ### reading dicts of counts -/
theorem dget_ct {H : Hp} {a : Addr} {ps : List (Str × Int)} {z : Str} (e : H a = some (.dK (cD ps))) : DGet H a (.str z) ((ctO ps z).map V.int) := by
  have q := DGet.k (k := (Sum.inr z : Key)) e
  rw [valV_cD] at q
  exact q
theorem getD_ct {ps : List (Str × Int)} {z : Str} : ((ctO ps z).map V.int).getD (.int 0) = .int (ct ps z) := by
  unfold ct
  cases ctO ps z <;> rfl
theorem dput_ct {H : Hp} {a : Addr} {ps : List (Str × Int)} {z : Str} {i : Int} (e : H a = some (.dK (cD ps))) (hl : ps.length ≤ 1000) : DPut H a (.str z) (.int i) (upd H a (.dK (cD (putI ps z i)))) := by
  have q := DPut.k (k := (Sum.inr z : Key)) (v := .int i) e (by rw [cD_len]; exact Nat.lt_of_le_of_lt hl (by decide))
  rw [putI_cD] at q
  exact q
/-! ### pairs made one by one -/
def TupsAt (H : Hp) (ts : List Addr) (qs : List (Str × Int)) : Prop := Paired (fun t q => H t = some (.tup [V.str q.1, V.int q.2])) ts qs
theorem TupsAt.keep {H H' : Hp} {ts : List Addr} {qs : List (Str × Int)} (h : TupsAt H ts qs) (k : ∀ t xs, H t = some (.tup xs) → H' t = some (.tup xs)) : TupsAt H' ts qs := Paired.mono (fun _ _ e => k _ _ e) h
theorem TupsAt.cD {K : PySem.W.Frag} {H : Hp} : ∀ {ts : List Addr} {qs : List (Str × Int)}, TupsAt H ts qs → Paired (fun p kv => SqT K H p [kV kv.1, kv.2]) ts (cD qs)
  | _, _, .nil => .nil
  | _, _, .cons h t => .cons (.inl (.inl h)) (TupsAt.cD t)
theorem SameP.tup {p : Addr} {H H' : Hp} {c : Addr} {ns : List Int} {u r : Int} (s : SameP p H H') (P : PenAt H p c ns u r) (t : Addr) (xs : List V) (h : H t = some (.tup xs)) : H' t = some (.tup xs) := by
  obtain ⟨kvs, hp, _⟩ := P.ob
  exact s _ _ h (ne_of h hp fun z => nomatch z)
theorem PenAt.nd {H : Hp} {p c : Addr} {ns : List Int} {u r : Int} (P : PenAt H p c ns u r) {d : Addr} (h : H d = none) : d ≠ p := by
  obtain ⟨kvs, hp, _⟩ := P.ob
  exact (ne_of_none hp h).symm
theorem PenAt.nc {H : Hp} {p c : Addr} {ns : List Int} {u r : Int} (P : PenAt H p c ns u r) {d : Addr} (h : H d = none) : d ≠ c := (ne_of_none P.cl h).symm
theorem PenAt.nl {H : Hp} {p c : Addr} {ns : List Int} {u r : Int} (P : PenAt H p c ns u r) {d : Addr} {xs : List V} (h : H d = some (.lst xs)) : d ≠ p := by
  obtain ⟨kvs, hp, _⟩ := P.ob
  exact ne_of h hp fun z => nomatch z
/-- what is new to a heap is new to the one before -/
theorem SameP.none {p : Addr} {H H' : Hp} (s : SameP p H H') {d : Addr} (h : H' d = none) (n : d ≠ p) : H d = none := by
  cases e : H d with
  | none => rfl
  | some o => rw [s _ _ e n] at h; cases h
theorem Same.none {H H' : Hp} (s : Same H H') {d : Addr} (h : H' d = none) : H d = none := by
  cases e : H d with
  | none => rfl
  | some o => rw [s _ _ e] at h; cases h
/-! ### loads made by a call of the class -/
section
variable {C : Addr} {σ : L2.St} {H : Hp} {Q : Addr → Hp → Prop}
theorem made_load {y : List Str} {zs : List V} {ps : List (Str × Int)} (hz : zs.length = y.length) (hk : kwD y zs = cD ps) (nd : (ps.map (·.1)).Nodup) (few : ps.length ≤ 1000) (wd : ∀ p ∈ ps, wordB p.1 = true)
    (h : ∀ (H' : Hp) (x : Addr) (ps' : List (Str × Int)), Same H H' → H x = none → LoadAt C H' x ps' → (∀ z, ct ps' z = ct ps z) → Q x H') :
    ∀ x dx, H x = Option.none → H dx = Option.none → dx ≠ x → spKw y (spInitB C) (V.ref x :: zs) (upd (upd H dx (.own x)) x (.ins C dx [])) (fun v H3 => v = .non ∧ Q x H3) E0 := by
  intro x dx hx hdx ne
  refine ⟨.ref x, zs, rfl, hz, fun d hd => ?_⟩
  have ndx : d ≠ x := fun e => by rw [e, upd_same] at hd; cases hd
  refine ⟨x, dx, d, ps, [], rfl, by rw [upd_ne ndx.symm, upd_same], by decide, ⟨by rw [upd_same, hk], nd, few, wd⟩, fun H4 t ps' keep hx4 ht can cts => ⟨rfl, ?_⟩⟩
  refine h H4 x ps' (fun b o eb => ?_) hx ⟨dx, t, hx4, ht, can⟩ cts
  have nb : b ≠ x := ne_of_none eb hx
  have nb2 : b ≠ dx := ne_of_none eb hdx
  refine keep b o nb ?_
  by_cases e : b = d
  · exfalso
    rw [upd_ne ndx] at hd
    rw [← e, upd_ne nb2, eb] at hd
    cases hd
  · rw [upd_ne e, upd_ne nb, upd_ne nb2]
    exact eb
end
end Ld
/-! sets of texts: set(list of texts), set(dict of texts), sorted of such a set -/
namespace Ld
open PySem PySem.Spec PyProof.Rows L2
/-- the text of an entry -/
def txOf (e : Int × Value) : Str := match e.2 with | .str z _ => z | _ => Str.empty
/-- an entry that holds a text, by its hash -/
def TxE (w : World) (e : Int × Value) : Prop := ∃ z tk, e.2 = Value.str z tk ∧ e.1 = hashStr w z
/-- a table that can be walked -/
structure Tab (w : World) (n : Nat) (t : SetTable) : Prop where
  fit : t.fits n = true
  ris : Ris t.place.toList
  led : w.params.followText "set-order" = true ∨ t.led = true
/-- the set of texts at a, in the order L -/
def TxSet (w : World) (h : Heap) (a : Addr) (L : List Str) : Prop :=
  ∃ o es ep t, h.get? a = some o ∧ o.ExactSet ∧ o.data = .set es ep t ∧ (∀ e ∈ es.toList, TxE w e) ∧ es.toList.map txOf = L ∧ L.Nodup ∧ es.size < scanBound ∧ Tab w es.size t
section
variable {P : Program} {w : World} {h h' : Heap} {a : Addr} {L : List Str}
theorem TxSet.at (R : TxSet w h a L) (k : ∀ o, h.get? a = some o → h'.get? a = some o) : TxSet w h' a L := by
  obtain ⟨o, es, ep, t, ho, r⟩ := R
  exact ⟨o, es, ep, t, k o ho, r⟩
theorem tx_elems {l : List (Int × Value)} (g : ∀ e ∈ l, TxE w e) : ElemsOf (PySem.strKind P w) l := fun e he => by
  obtain ⟨z, tk, h1, h2⟩ := g e he
  exact ⟨⟨z, by rw [h1]; exact strKind_is P w z tk, h2⟩, by rw [h1]; rfl⟩
theorem tx_is {e : Int × Value} (g : TxE w e) (z : Str) : (PySem.strKind P w).is z e.2 = true ↔ txOf e = z := by
  obtain ⟨y, tk, h1, _⟩ := g
  unfold txOf
  rw [h1]
  show (Value.isStrOf z (.str y tk) = true) ↔ y = z
  simp only [Value.isStrOf, beq_iff_eq]
  try exact eq_comm
theorem tx_fresh {o : Obj} (ho : h.get? a = some o) (e : o = { cls := .type "set", dict := none, data := .set #[] 0 (.fresh 0 0 (!w.params.followText "set-order")) }) : TxSet w h a [] := by
  subst e
  refine ⟨_, #[], 0, _, ho, ⟨rfl, rfl, rfl⟩, rfl, fun e he => by simp at he, rfl, List.nodup_nil, by decide, ⟨rfl, List.Pairwise.nil, ?_⟩⟩
  show _ ∨ (!w.params.followText "set-order") = true
  cases w.params.followText "set-order" with
  | true => exact .inl rfl
  | false => exact .inr rfl
end
section
variable {P : Program} {w : World} {A : Around} {E : Value → Shared → Prop} {s : Shared} {a : Addr} {L : List Str}
/-- what is laid into the set's own object -/
theorem tx_store {h : Heap} {o : Obj} {es es' : Array (Int × Value)} {ep : Nat} {t t' : SetTable} (ho : h.get? a = some o) (hex : o.ExactSet) (hd : o.data = .set es ep t) (g : ∀ e ∈ es'.toList, TxE w e) (nd : (es'.toList.map txOf).Nodup) (hb : es'.size < scanBound) (T : Tab w es'.size t') :
    TxSet w (h.update a (Obj.putSet es' t')) a (es'.toList.map txOf) ∧ ∃ o', (h.update a (Obj.putSet es' t')).get? a = some o' ∧ o'.ExactSet ∧ o'.data = .set es' (ep + 1) t' := by
  have q := store_at (es' := es') (t' := t') ho hd
  exact ⟨⟨_, es', ep + 1, t', q, hex, rfl, g, rfl, nd, hb, T⟩, _, q, hex, rfl⟩
/-- the end of an addition: the entry is laid, the table perhaps laid anew -/
theorem tx_tail {g : Bool → Sem Unit} (hg : ∀ (b : Bool) (s₁ : Shared) (Q' : Unit → Shared → Prop), Q' () s₁ → wpAny (model P w) A (g b) Q' E s₁) {o : Obj} {es : Array (Int × Value)} {ep : Nat} {t : SetTable}
    (ho : s.heap.get? a = some o) (hex : o.ExactSet) (hd : o.data = .set es ep t) {es1 : Array (Int × Value)} {t2 : SetTable} (g1 : ∀ e ∈ es1.toList, TxE w e) (nd1 : (es1.toList.map txOf).Nodup) (hb1 : es1.size < scanBound) (T2 : Tab w es1.size t2)
    {wasDummy : Bool} {R : Option Bool → Shared → Prop} (hR : ∀ h' L', Heap.SameBut a s.heap h' → TxSet w h' a L' → L'.Perm (es1.toList.map txOf) → R (some true) { s with heap := h' }) :
    wpAny (model P w) A (do
        storeSet a es1 t2
        if (!wasDummy && t2.tooFull) = true then do
            g (relayAll t2 es1 (SetTable.grown es1.size)).2.2
            storeSet a (relayAll t2 es1 (SetTable.grown es1.size)).1 (relayAll t2 es1 (SetTable.grown es1.size)).2.1
            pure (some true)
          else pure (some true)) R E s := by
  refine wpAny_bind (wpAny_storeSet_of ho hd ?_ (fits_of_scanBound hb1))
  obtain ⟨x1, o1, ho1, hex1, hd1⟩ := tx_store (a := a) (t' := t2) ho hex hd g1 nd1 hb1 T2
  have sb1 := Heap.SameBut.update s.heap a (Obj.putSet es1 t2)
  by_cases c : (!wasDummy && t2.tooFull) = true
  · rw [if_pos c]
    have pm := relayAll_perm t2 es1 (SetTable.grown es1.size)
    have f3 := relayAll_fits t2 es1 (SetTable.grown es1.size)
    have r3 := relayAll_ris t2 es1 (SetTable.grown es1.size)
    have l3 := relayAll_led t2 es1 (SetTable.grown es1.size)
    generalize relayAll t2 es1 (SetTable.grown es1.size) = Z at pm f3 r3 l3 ⊢
    obtain ⟨es2, t3, gave⟩ := Z
    dsimp only at pm f3 r3 l3 ⊢
    have hsz : es2.size = es1.size := by
      have := pm.length_eq
      rwa [Array.length_toList, Array.length_toList] at this
    have hb2 : es2.size < scanBound := by rw [hsz]; exact hb1
    have pk := pm.map txOf
    obtain ⟨x2, _⟩ := tx_store (a := a) (t' := t3) ho1 hex1 hd1 (fun e he => g1 e (pm.mem_iff.mp he)) (pk.nodup_iff.mpr nd1) hb2 ⟨f3, r3, T2.led.imp id fun q => by rw [l3]; exact q⟩
    exact wpAny_bind (hg _ _ _ (wpAny_bind (wpAny_storeSet_of ho1 hd1 (wpAny_pure (hR _ _ (sb1.trans (Heap.SameBut.update _ a _)) x2 pk)) (fits_of_scanBound hb2))))
  · rw [if_neg c]
    exact wpAny_pure (hR _ _ sb1 x1 (List.Perm.refl _))
theorem tx_add {z : Str} {tk : Tok} {Q : Bool → Shared → Prop} (R : TxSet w s.heap a L) (room : L.length + 1 < scanBound)
    (hQ : ∀ h' L' b, Heap.SameBut a s.heap h' → TxSet w h' a L' → (∀ y, y ∈ L' ↔ y = z ∨ y ∈ L) → L'.length ≤ L.length + 1 → Q b { s with heap := h' }) :
    wpAny (model P w) A (setAddHashed a (.str z tk) (hashStr w z)) Q E s := by
  obtain ⟨o, es, ep, t, ho, hex, hd, g, hL, nd, hb, T⟩ := R
  have hkey : (PySem.strKind P w).is z (.str z tk) = true := strKind_is P w z tk
  have hsc : (Value.str z tk).scannable = true := rfl
  have hel : ElemsOf (PySem.strKind P w) es.toList := tx_elems g
  have hlen : L.length = es.size := by rw [← hL, List.length_map, Array.length_toList]
  unfold setAddHashed setAddHashedIn
  refine wpAny_holding (wpAny_bind (wpAny_setState_of ho hd T.fit ?_))
  dsimp only
  rw [byScan_of hsc hb hel, if_pos rfl]
  unfold setAddByScan
  refine wpAny_bind (wpAny_bind (wpAny_rule (wpAny_bind (wpAny_setScan_of (knd := PySem.strKind P w) hkey ho hd T.fit hel ?_))))
  cases hfi : List.findIdx? (fun e => (PySem.strKind P w).is z e.2) es.toList with
  | some j =>
    dsimp only
    obtain ⟨hj, pj, _⟩ := List.findIdx?_eq_some_iff_getElem.mp hfi
    have hm : z ∈ L := by
      rw [← hL]
      exact List.mem_map.mpr ⟨_, List.getElem_mem hj, (tx_is (P := P) (g _ (List.getElem_mem hj)) z).mp pj⟩
    refine wpAny_pure (wpAny_pure (hQ s.heap L _ (Heap.SameBut.refl a s.heap) ⟨o, es, ep, t, ho, hex, hd, g, hL, nd, hb, T⟩ (fun y => ⟨.inr, fun q => q.elim (fun e => by rw [e]; exact hm) id⟩) (Nat.le_succ _)))
  | none =>
    dsimp only
    have hn : z ∉ L := fun q => by
      rw [← hL] at q
      obtain ⟨e, he, q⟩ := List.mem_map.mp q
      have c := List.findIdx?_eq_none_iff.mp hfi e he
      rw [(tx_is (P := P) (g e he) z).mpr q] at c
      cases c
    have hgw : ∀ (b : Bool) {s₁ : Shared} {Q' : Unit → Shared → Prop}, Q' () s₁ → wpAny (model P w) A (match b with | true => rule "set.scan.the-table-gave-way" | false => pure ()) Q' E s₁ :=
      fun b _ _ q => match b with | true => wpAny_rule q | false => wpAny_pure q
    have pm := layNew_perm t es ((PySem.strKind P w).hash z) (.str z tk)
    have f1 := layNew_fits t es ((PySem.strKind P w).hash z) (.str z tk)
    have r1 := layNew_ris t es ((PySem.strKind P w).hash z) (.str z tk) T.ris
    have l1 := layNew_led t es ((PySem.strKind P w).hash z) (.str z tk)
    show wpAny (model P w) A _ _ _ _
    have eH : hashStr w z = (PySem.strKind P w).hash z := rfl
    rw [eH]
    generalize layNew t es ((PySem.strKind P w).hash z) (.str z tk) = Z at pm f1 r1 l1 ⊢
    obtain ⟨es1, t1, wasDummy, gave⟩ := Z
    dsimp only at pm f1 r1 l1 ⊢
    rw [Array.toList_push] at pm
    have pc : es1.toList.Perm (((PySem.strKind P w).hash z, Value.str z tk) :: es.toList) := pm.trans (List.perm_append_singleton _ _)
    have pk : (es1.toList.map txOf).Perm (z :: L) := by
      have q := pc.map txOf
      rw [List.map_cons, hL] at q
      exact q
    have g1 : ∀ e ∈ es1.toList, TxE w e := fun e he => by
      rcases List.mem_cons.mp (pc.mem_iff.mp he) with q | q
      · rw [q]
        exact ⟨z, tk, rfl, rfl⟩
      · exact g e q
    have nd1 : (es1.toList.map txOf).Nodup := pk.nodup_iff.mpr (List.nodup_cons.mpr ⟨hn, nd⟩)
    have hsz : es1.size = L.length + 1 := by
      have q := pc.length_eq
      rw [List.length_cons, Array.length_toList, Array.length_toList] at q
      omega
    have hb1 : es1.size < scanBound := by omega
    have hled : w.params.followText "set-order" = true ∨ t1.led = true := T.led.imp id fun q => by rw [l1]; exact q
    have fin : ∀ h' L', Heap.SameBut a s.heap h' → TxSet w h' a L' → L'.Perm (es1.toList.map txOf) → Q true { s with heap := h' } := fun h' L' sb x p => by
      have p2 := p.trans pk
      exact hQ h' L' true sb x (fun y => by rw [p2.mem_iff, List.mem_cons]) (by rw [p2.length_eq, List.length_cons]; exact Nat.le_refl _)
    refine wpAny_bind (hgw _ ?_)
    split
    · refine wpAny_bind ?_
      rw [hashByValue_scannable 8 hsc]
      refine wpAny_pure ?_
      refine tx_tail ?_ ho hex hd g1 nd1 hb1 ⟨?_, ?_, ?_⟩ ?_
      · intro b s₁ Q' q; cases b <;> first | exact wpAny_pure q | exact wpAny_rule q
      · first | (split <;> first | exact f1 | exact SetTable.fits_plain_off f1) | exact f1
      · first | (split <;> exact r1) | exact r1
      · first | (split <;> exact hled) | exact hled
      · intro h' L' sb x p; dsimp only; exact wpAny_pure (fin h' L' sb x p)
    · refine wpAny_bind (wpAny_pure ?_)
      simp only [↓reduceIte]
      refine tx_tail ?_ ho hex hd g1 nd1 hb1 ⟨f1, r1, hled⟩ ?_
      · intro b s₁ Q' q; cases b <;> first | exact wpAny_pure q | exact wpAny_rule q
      · intro h' L' sb x p; dsimp only; exact wpAny_pure (fin h' L' sb x p)
end
end Ld
namespace Ld
open PySem PySem.Spec PyProof.Rows L2
section
variable {P : Program} {w : World} {A : Around} {E : Value → Shared → Prop} {s : Shared}
/-- the loop that lays the items of a walk into a set -/
theorem tx_loop {I : Addr} {fp wr : List Addr} {G : Array GenState → Array GenState → Prop} {n : Nat} {Pv : Nat → Value → Prop} {St : Nat → Shared → Prop} {R : Result → Shared → Prop}
    (W : WalksS P w A.in1 I fp wr G n Pv St) (S : Addr) (hSf : S ∉ fp) (xs : List Str) (hn : n = xs.length) (hb : xs.length + 1 < scanBound) (hval : ∀ i v, Pv i v → ∃ z t, xs[i]? = some z ∧ v = .str z t) :
    ∀ (k i : Nat) (s : Shared), n - i = k → i ≤ n → St i s → (∃ L, L.length ≤ i ∧ TxSet w s.heap S L ∧ ∀ y, y ∈ L ↔ y ∈ xs.take i) →
      (∀ s' L, Moved (S :: wr) G s s' → TxSet w s'.heap S L → L.length ≤ n → (∀ y, y ∈ L ↔ y ∈ xs) → R (.ok (.ret .none)) s') →
      codeAny (model P w) A (.builtin "set.update.loop" ⟨[.ref S, .ref I], []⟩) R s := by
  have hSw : S ∉ wr := fun h => hSf (W.sub _ h)
  have hsub : ∀ b ∈ wr, b ∈ S :: wr := fun b hb => List.mem_cons_of_mem _ hb
  intro k
  induction k with
  | zero =>
    rintro i s hk hi hst ⟨L, hL, x, hm⟩ hR
    obtain rfl : i = n := by omega
    refine codeAny_builtin F.entry_set_update_loop ?_
    rw [Around.under_plainId F.plain_set_update_loop _]
    show wpAny _ A.in1 (pyNext (.ref I) >>= _) _ _ s
    refine wpAny_bind (W.done s _ _ hst fun s' mv => ?_)
    show wpAny _ A.in1 (ret Value.none) _ _ s'
    rw [List.take_of_length_le (by omega)] at hm
    exact wpAny_pure (hR s' L (mv.mono hsub) (x.at fun o e => mv.heap S o hSw e) hL hm)
  | succ k ih =>
    rintro i s hk hi hst ⟨L, hL, x, hm⟩ hR
    have hlt : i < n := by omega
    refine codeAny_builtin F.entry_set_update_loop ?_
    rw [Around.under_plainId F.plain_set_update_loop _]
    show wpAny _ A.in1 (pyNext (.ref I) >>= _) _ _ s
    refine wpAny_bind (W.item i s _ _ hlt hst fun v s' hP hst' mv => ?_)
    obtain ⟨z, t, hz, rfl⟩ := hval i v hP
    have x' : TxSet w s'.heap S L := x.at fun o e => mv.heap S o hSw e
    show wpAny _ A.in1 (holding [Value.str z t] (setAdd S (.str z t)) >>= _) _ _ s'
    refine wpAny_bind (wpAny_holding ?_)
    unfold setAdd
    refine wpAny_holding (wpAny_bind ((PySem.strKind P w).pyHash (k := z) (strKind_is _ _ _ _) ?_))
    refine tx_add (s := { s' with toks := s'.toks + 1 }) x' (by omega) fun h' L' b sb x2 hm2 hl2 => ?_
    refine wpAny_pure ⟨plainId_quiet F.plain_set_update_loop _, ih (i + 1) _ (by omega) hlt (W.frame _ s' _ _ hst' (Nat.le_succ _) fun b hb o e => ?_) ⟨L', by omega, x2, fun y => ?_⟩ fun s'' L2 mv2 x3 hl3 hm3 => ?_⟩
    · rw [sb.2 b (fun q : b = S => hSf (by rw [← q]; exact hb))]
      exact e
    · rw [hm2, hm, List.take_add_one, hz, List.mem_append]
      show _ ↔ _ ∨ y ∈ [z]
      rw [List.mem_singleton]
      exact Or.comm
    · refine hR s'' L2 (Moved.trans W.gtrans ((mv.mono hsub).then_heap (Nat.le_succ _) fun b o hb e => ?_) mv2) x3 hl3 hm3
      rw [sb.2 b (fun q : b = S => hb (by rw [q]; exact List.mem_cons_self))]
      exact e
abbrev set0 (w : World) : Obj := { cls := .type "set", dict := none, data := .set #[] 0 (.fresh 0 0 (!w.params.followText "set-order")) }
/-- set(x): the new set, then x's items laid into it -/
theorem set_from {x : Value} {Q : Value → Shared → Prop}
    (h : wpAny (model P w) A.in1.in1 (Builtin.Frozenset.updateFrom "set.__init__" s.heap.objs.size x) (fun _ s' => Q (.ref s.heap.objs.size) s') E { s with heap := s.heap.push (set0 w) }) :
    wpAny (model P w) A (call (.type "set") [x]) Q E s := by
  obtain ⟨c, tl, hmro⟩ := F.called_set.mro
  have hmade := F.called_set.made
  have hsub := F.called_set.sub
  refine wpAny_call (codeAny_of_tree ?_)
  show wpAny _ _ (callAny (.type "set") _) _ _ _
  refine wpAny_pure ⟨Code.quiet_builtin _ (by decide +kernel), codeAny_builtin F.entry_type_call ?_⟩
  rw [Around.under_plain (weight_type_call_type "set" [x] []) rfl]
  have h1 := F.called_set.notType
  have h2 := F.called_set.canCreate
  have hct := F.typeCall_set_1 x
  repeat (any_goals (first | assumption | wp_step))
  refine codeAny_mono (code_set_led1 x (E := E) (Q₁ := fun obj s₁ => obj = .ref s.heap.objs.size ∧ s₁ = { s with heap := s.heap.push (set0 w) }) ⟨rfl, rfl⟩) fun r s₁ hr => ?_
  cases r with
  | error e => exact hr
  | ok fl =>
    cases fl with
    | ret obj =>
      obtain ⟨rfl, rfl⟩ := hr
      have hS : (s.heap.push (set0 w)).get? s.heap.objs.size = some (set0 w) := Heap.get?_push_size _ rfl
      have hT : Shared.TypeIs { s with heap := s.heap.push (set0 w) } (.ref s.heap.objs.size) "set" := ⟨_, hS, rfl⟩
      have hli := F.called_set.init.lookup
      have hbi := F.called_set.init.bind (.ref s.heap.objs.size)
      repeat (any_goals (first | assumption | wp_step))
      refine codeAny_mono (codeAny_call_builtin (R := wants (fun r s₂ => r = .none ∧ Q (.ref s.heap.objs.size) s₂) E) F.called_set.init.plain F.entry_set_init (check_set_init_1 hT ?_)) fun r₂ s₂ hr₂ => ?_
      · unfold Builtin.«set.__init__» noKeywords
        generalize hUF : Builtin.Frozenset.updateFrom = UF at h ⊢
        wp_walk
        refine wpAny_mono h (fun _ s' q => ?_) fun _ _ e => e
        first
          | exact wpAny_pure ⟨rfl, q⟩
          | (wp_walk; exact ⟨rfl, q⟩)
      · cases r₂ with
        | error e => exact hr₂
        | ok fl₂ =>
          cases fl₂ with
          | ret r =>
            obtain ⟨rfl, q⟩ := hr₂
            repeat (any_goals (first | assumption | wp_step))
          | _ => exact hr₂.elim
    | _ => exact hr.elim
end
end Ld
namespace Ld
open PySem PySem.Spec PyProof.Rows L2
theorem sizeAbove_le (n : Nat) : ∀ f size, SetTable.sizeAbove.go n f size ≤ max size (2 * n)
  | 0, size => Nat.le_max_left _ _
  | f + 1, size => by
    unfold SetTable.sizeAbove.go
    split
    · have := sizeAbove_le n f (size * 2)
      omega
    · exact Nat.le_max_left _ _
theorem live_none (m : Nat) : (List.range (m + 1)).filterMap (fun j => (((Array.replicate (m + 1) none : Array (Option Nat)).getD j none).map (j, ·))) = ([] : List (Nat × Nat)) := by
  refine List.filterMap_eq_nil_iff.mpr fun j hj => ?_
  have e : (Array.replicate (m + 1) none : Array (Option Nat)).getD j none = none := by
    rw [Array.getD_eq_getD_getElem?, Array.getElem?_replicate]
    split <;> rfl
  rw [e]
  rfl
/-- the empty table, laid anew -/
theorem relaid_empty (t : SetTable) (wanted : Nat) : ∃ t', t.relaid #[] wanted = some (t', #[]) ∧ t'.fits 0 = true ∧ t'.place = #[] := by
  refine ⟨{ mask := SetTable.sizeAbove wanted - 1, place := #[], dummies := #[], finger := t.finger, led := t.led, moves := t.movedTo (SetTable.sizeAbove wanted - 1), plain := t.plain }, ?_, ?_, rfl⟩
  · rw [relaid_eq]
    have e : SetTable.layClean (SetTable.sizeAbove wanted - 1) #[] = some (Array.replicate (SetTable.sizeAbove wanted - 1 + 1) none) := by
      rw [layClean_eq]
      rfl
    have e2 : liveOf (SetTable.sizeAbove wanted - 1) (Array.replicate (SetTable.sizeAbove wanted - 1 + 1) none) = [] := live_none _
    rw [e, Option.bind_some]
    unfold tabOf
    rw [e2]
    rfl
  · unfold SetTable.fits SetTable.fill
    simp
theorem pairs_key {P : Program} {w : World} : ∀ {es : List DictEntry} {kvs : List (Key × Value)}, Pairs (mixKind P w) es kvs → ∀ (i : Nat) (e : DictEntry) (k : Key), es[i]? = some e → (kvs.map (·.1))[i]? = some k → (mixKind P w).is k e.key = true
  | _, _, .nil, i, e, k, h, _ => by simp at h
  | _, _, .cons h1 _ _, 0, e, k, h, hk => by
    simp at h hk
    rw [← h, ← hk]
    exact h1
  | _, _, .cons _ _ r, i + 1, e, k, h, hk => pairs_key r i e k (by simpa using h) (by simpa using hk)
theorem strsAre_map : ∀ (vs : List Value), (∀ v ∈ vs, ∃ z tk, v = Value.str z tk) → StrsAre vs (vs.map fun v => txOf (0, v))
  | [], _ => .nil
  | v :: r, h => by
    obtain ⟨z, tk, rfl⟩ := h v List.mem_cons_self
    exact .cons z tk (strsAre_map r fun u hu => h u (List.mem_cons_of_mem _ hu))
section
variable {P : Program} {w : World} {A : Around} {E : Value → Shared → Prop} {s : Shared} {a : Addr}
/-- room for more in an empty set of texts -/
theorem tx_room {more : Nat} {Q : Unit → Shared → Prop} (R : TxSet w s.heap a []) (hm : more ≤ 1000) (hQ : ∀ h', Heap.SameBut a s.heap h' → TxSet w h' a [] → Q () { s with heap := h' }) : wpAny (model P w) A (setRoomFor a more) Q E s := by
  obtain ⟨o, es, ep, t, ho, hex, hd, g, hL, nd, hb, T⟩ := R
  have e0 : es = #[] := by
    have := congrArg List.length hL
    rw [List.length_map, Array.length_toList, List.length_nil] at this
    exact Array.eq_empty_of_size_eq_zero this
  subst e0
  unfold setRoomFor
  refine wpAny_bind (wpAny_setState_of ho hd T.fit ?_)
  dsimp only
  cases e : t.roomFor more with
  | none => exact wpAny_pure (hQ s.heap (Heap.SameBut.refl a s.heap) ⟨o, #[], ep, t, ho, hex, hd, g, hL, nd, hb, T⟩)
  | some wanted =>
    dsimp only
    have hw : wanted = (t.place.size + more) * 2 := by
      unfold SetTable.roomFor at e
      split at e
      · exact (Option.some.inj e).symm
      · cases e
    have hp : t.place.size = 0 := by
      have := T.fit
      unfold SetTable.fits at this
      rw [Bool.and_eq_true] at this
      exact beq_iff_eq.mp this.1
    have hsz : ¬ SetTable.sizeAbove wanted > sizeLine := by
      have := sizeAbove_le wanted 64 8
      have h2 : SetTable.sizeAbove wanted = SetTable.sizeAbove.go wanted 64 8 := rfl
      rw [h2, sizeLine_eq]
      omega
    rw [setRelay_eq]
    obtain ⟨t', er, ft, ep'⟩ := relaid_empty t wanted
    have rl := (relaid_ris er).2
    refine wpAny_bind (wpAny_setState_of ho hd T.fit ?_)
    dsimp only
    rw [if_neg hsz]
    have em : Array.map (fun x : Int × Value => x.fst) #[] = #[] := by simp
    rw [em, er]
    dsimp only
    refine wpAny_bind (wpAny_pure ?_)
    dsimp only
    have T' : Tab w (#[] : Array (Int × Value)).size t' := ⟨ft, by rw [ep']; exact List.Pairwise.nil, T.led.imp id fun q => by rw [rl]; exact q⟩
    refine wpAny_storeSet_of (es' := #[]) ho hd (hQ _ (Heap.SameBut.update s.heap a _) ?_) (Nat.zero_le _)
    exact (tx_store (a := a) (es' := #[]) (t' := t') ho hex hd (fun e he => by simp at he) List.nodup_nil (by decide) T').1
/-- set(l), l a list of texts -/
theorem upd_list {l : Addr} {items : Array Value} {xs : List Str} {Q : Unit → Shared → Prop} (hh : A.handled = none) (hl : s.heap.IsList l items) (hi : StrsAre items.toList xs) (hb : xs.length + 1 < scanBound) (R : TxSet w s.heap a []) (hla : l ≠ a) (hal : a < s.heap.objs.size)
    (hQ : ∀ s' L, (∀ b o, b ≠ a → s.heap.get? b = some o → s'.heap.get? b = some o) → s'.gens = s.gens → s'.drawn = s.drawn → s'.os = s.os → TxSet w s'.heap a L → (∀ y, y ∈ L ↔ y ∈ xs) → L.length ≤ xs.length → Q () s') :
    wpAny (model P w) A (Builtin.Frozenset.updateFrom "set.__init__" a (.ref l)) Q E s := by
  obtain ⟨ol, hol, hcl, nl, hdl⟩ := id hl
  have hT : s.TypeIs (.ref l) "list" := ⟨ol, hol, hcl⟩
  have hsz : items.size = xs.length := by
    have := StrsAre.len_eq hi
    rwa [Array.length_toList] at this
  unfold Builtin.Frozenset.updateFrom Builtin.Frozenset.isAnySet
  have hsls := F.sub_list_set
  have hslf := F.sub_list_frozenset
  refine wpAny_bind (m := (isInstance (.ref l) (.type "set") <||> isInstance (.ref l) (.type "frozenset"))) (wpAny_bind (wpAny_isInstance hT hsls ?_))
  refine wpAny_isInstance hT hslf ?_
  rw [if_neg Bool.false_ne_true]
  refine wpAny_bind (wpAny_typeOf hT ?_)
  rw [if_neg (by decide)]
  refine wpAny_bind (wpAny_pyIter_list hl ?_)
  refine wpAny_bind (wpAny_runValue ?_)
  have hlS : l < s.heap.objs.size := Heap.lt_size hol
  have hh1 : A.in1.handled = none := by simp [hh]
  have hneI : l ≠ s.heap.objs.size := Nat.ne_of_lt hlS
  have hSf : a ∉ [s.heap.objs.size, l] := by
    simp only [List.mem_cons, List.not_mem_nil, or_false, not_or]
    exact ⟨Nat.ne_of_lt hal, fun e => hla e.symm⟩
  have hval : ∀ (i : Nat) (v : Value), items[i]? = some v → ∃ z t, xs[i]? = some z ∧ v = .str z t := fun i v hv => by
    have hi' : i < xs.length := by rw [← hsz]; exact (Array.getElem?_eq_some_iff.mp hv).1
    obtain ⟨t, e⟩ := SS.strs_at hi i v (by rw [Array.getElem?_toList]; exact hv)
    refine ⟨xs[i], t, List.getElem?_eq_getElem hi', ?_⟩
    rw [e, List.getD_eq_getElem?_getD, List.getElem?_eq_getElem hi']
    rfl
  refine tx_loop ((Walks.list hh1 _ l hneI items).toS) a hSf xs hsz hb hval (items.size - 0) 0 _ (by omega) (Nat.zero_le _) ⟨⟨_, Heap.get?_push_size _ rfl, rfl, rfl⟩, hl.push _⟩ ⟨[], Nat.le_refl _, R.at fun o e => Heap.get?_push_of_some _ e, fun y => by simp⟩ fun s' L mv x hL hm => ?_
  refine wpAny_pure (hQ s' L (fun b o nb eb => ?_) mv.gens mv.drawn mv.os x hm (by omega))
  refine mv.heap b o ?_ (Heap.get?_push_of_some _ eb)
  simp only [List.mem_cons, List.not_mem_nil, or_false, not_or]
  exact ⟨nb, Nat.ne_of_lt (Heap.lt_size eb)⟩
/-- set(d), d a dict whose keys are texts -/
theorem upd_dict {d : Addr} {kvs : List (Key × Value)} {xs : List Str} {Q : Unit → Shared → Prop} (hd : s.heap.DictOf (mixKind P w) d kvs) (hx : kvs.map (·.1) = xs.map Sum.inr) (hs : (d == sysModules) = false) (hb : xs.length ≤ 1000) (R : TxSet w s.heap a []) (hda : d ≠ a)
    (hQ : ∀ h' L, (∀ b o, b ≠ a → s.heap.get? b = some o → h'.get? b = some o) → TxSet w h' a L → (∀ y, y ∈ L ↔ y ∈ xs) → L.length ≤ xs.length → Q () { s with heap := h' }) :
    wpAny (model P w) A (Builtin.Frozenset.updateFrom "set.__init__" a (.ref d)) Q E s := by
  obtain ⟨o, es, ep, ho, hex, hdat, hk, hp, _⟩ := hd
  have hT : s.TypeIs (.ref d) "dict" := ⟨o, ho, hex.1⟩
  have hes : es.size = xs.length := by
    have h1 := hp.length
    rw [Array.length_toList] at h1
    have h2 := congrArg List.length hx
    rw [List.length_map, List.length_map] at h2
    omega
  have ent : ∀ (i : Nat) (e : DictEntry), es[i]? = some e → ∃ z t, xs[i]? = some z ∧ e.key = .str z t ∧ e.hash = hashStr w z := fun i e he => by
    have hi' : i < xs.length := by rw [← hes]; exact (Array.getElem?_eq_some_iff.mp he).1
    have he' : es.toList[i]? = some e := by rw [Array.getElem?_toList]; exact he
    have hkv : (kvs.map (·.1))[i]? = some (Sum.inr xs[i]) := by rw [hx, List.getElem?_map, List.getElem?_eq_getElem hi']; rfl
    have hik := pairs_key hp i e _ he' hkv
    obtain ⟨t, ek⟩ := Value.isStrOf_shape (x := xs[i]) (v := e.key) hik
    refine ⟨xs[i], t, List.getElem?_eq_getElem hi', ek, ?_⟩
    obtain ⟨k', hk1, hk2⟩ := hk e (Array.mem_toList_iff.mp (List.mem_of_getElem? he'))
    have : k' = Sum.inr xs[i] := (mixKind P w).inj _ _ _ hk1 hik
    rw [hk2, this]
    rfl
  unfold Builtin.Frozenset.updateFrom Builtin.Frozenset.isAnySet
  have hsls : isSubtype (.type "dict") (.type "set") = pure false := by rw [isSubtype_type]; kernel_rfl
  have hslf : isSubtype (.type "dict") (.type "frozenset") = pure false := by rw [isSubtype_type]; kernel_rfl
  refine wpAny_bind (m := (isInstance (.ref d) (.type "set") <||> isInstance (.ref d) (.type "frozenset"))) (wpAny_bind (wpAny_isInstance hT hsls ?_))
  refine wpAny_isInstance hT hslf ?_
  rw [if_neg Bool.false_ne_true]
  refine wpAny_bind (wpAny_typeOf hT ?_)
  rw [if_pos (by decide)]
  refine wpAny_bind (wpAny_rule (wpAny_bind (wpAny_pure ?_)))
  dsimp only
  rw [hs, if_neg Bool.false_ne_true]
  refine wpAny_bind (wpAny_dictEpoch ho hdat (wpAny_bind (wpAny_dictEntries ho hdat ?_)))
  refine wpAny_bind (tx_room R (by omega) fun h1 sb1 R1 => ?_)
  have ho1 : h1.get? d = some o := (sb1.2 d hda).trans ho
  refine wpAny_bind (wpAny_dictEntries ho1 hdat ?_)
  refine wpAny_bind (TI.forIn_rng _ (fun rest _ s' => ∃ i h2 L, rest = List.range' i (es.size - i) ∧ i ≤ es.size ∧ s' = { s with heap := h2 } ∧ (∀ b o, b ≠ a → s.heap.get? b = some o → h2.get? b = some o) ∧ TxSet w h2 a L ∧ (∀ y, y ∈ L ↔ y ∈ xs.take i) ∧ L.length ≤ i) _ ?_ ?_ _
    ⟨0, h1, [], rfl, Nat.zero_le _, rfl, fun b o nb eb => (sb1.2 b nb).trans eb, R1, fun y => by simp, Nat.le_refl _⟩)
  · rintro x rest _ s' ⟨i, h2, L, er, hi, rfl, k2, R2, hm2, hl2⟩
    have hlt : i < es.size := by
      rcases Nat.lt_or_ge i es.size with c | c
      · exact c
      · rw [Nat.sub_eq_zero_of_le c] at er
        cases er
    obtain ⟨m, em⟩ : ∃ m, es.size - i = m + 1 := ⟨es.size - i - 1, by omega⟩
    rw [em, List.range'_succ] at er
    obtain ⟨rfl, rfl⟩ := List.cons.inj er
    have ho2 := k2 d o hda ho
    refine wpAny_bind (wpAny_dictEntries ho2 hdat ?_)
    have he : es[x]? = some es[x] := Array.getElem?_eq_getElem hlt
    rw [he]
    dsimp only
    obtain ⟨z, t, hz, ek, eh⟩ := ent x _ he
    rw [ek, eh]
    have hx1 : xs.length ≤ 1000 := hb
    refine wpAny_bind (wpAny_holding (tx_add (s := { s with heap := h2 }) R2 (by show L.length + 1 < 4096; omega) fun h3 L' b sb3 R3 hm3 hl3 => ?_))
    have ho3 : h3.get? d = some o := (sb3.2 d hda).trans ho2
    refine wpAny_bind (wpAny_dictEpoch ho3 hdat ?_)
    rw [if_neg (by simp)]
    refine wpAny_pure ⟨x + 1, h3, L', by rw [show es.size - (x + 1) = m by omega], hlt, rfl, fun b o nb eb => (sb3.2 b nb).trans (k2 b o nb eb), R3, fun y => ?_, by omega⟩
    rw [hm3, hm2, List.take_add_one, hz, List.mem_append]
    show _ ↔ _ ∨ y ∈ [z]
    rw [List.mem_singleton]
    exact Or.comm
  · rintro _ s' ⟨i, h2, L, er, hi, rfl, k2, R2, hm2, hl2⟩
    have hie : i = es.size := by
      have := congrArg List.length er
      rw [List.length_nil, List.length_range'] at this
      omega
    rw [List.take_of_length_le (by omega)] at hm2
    exact wpAny_pure (hQ h2 L k2 R2 hm2 (by omega))
/-- sorted(s), s a set of texts -/
theorem sorted_tx {L : List Str} {Q : Value → Shared → Prop} (R : TxSet w s.heap a L) (hh : A.handled = none)
    (hQ : ∀ s' p (out : Array Value) (c : Nat) (ys : List Str), (∀ b o, s.heap.get? b = some o → s'.heap.get? b = some o) → s'.gens = s.gens → s'.os = s.os → s.heap.objs.size ≤ p →
      s'.heap.get? p = some (seqObj "list" out c) → StrsAre out.toList ys → ys.Perm L → sortedS ys = true → Q (.ref p) s') :
    wpAny (model P w) A (call (.builtin "sorted") [.ref a]) Q E s := by
  obtain ⟨o, es, ep, t, ho, hex, hd, g, hL, nd, hb, T⟩ := R
  refine Calls.call_function_entry kind_sorted plain_sorted entry_sorted (args_sorted1 _) ?_
  unfold Builtin.«sorted»
  refine wpAny_bind (m := checkCount "sorted" 1 1 _) (wpAny_pure ?_)
  refine wpAny_bind (collect_set (A := A.in1) hh ⟨o, ho, hex.1, hd⟩ T.fit hb T.ris T.led fun s1 vs k1 hz g1 o1 pm => ?_)
  have pL : (vs.map fun v => txOf (0, v)).Perm L := by
    rw [← hL]
    have q := pm.map fun v => txOf (0, v)
    rw [List.map_map] at q
    exact q
  have hS : StrsAre vs (vs.map fun v => txOf (0, v)) := strsAre_map vs fun v hv => by
    obtain ⟨e, he, q⟩ := List.mem_map.mp (pm.mem_iff.mp hv)
    obtain ⟨z, tk, h1, _⟩ := g e he
    exact ⟨z, tk, by rw [← q]; exact h1⟩
  have hvl : vs.length < 4096 := by
    rw [pm.length_eq, List.length_map, Array.length_toList]
    exact hb
  have hvz : vs.length < sizeLine := Nat.lt_trans hvl (by rw [sizeLine_eq]; decide)
  refine wpAny_bind (wpAny_newList ?_ (Nat.le_of_lt hvz))
  have hoL : (s1.heap.push (seqObj "list" vs.toArray 0)).get? s1.heap.objs.size = some (seqObj "list" vs.toArray 0) := Heap.get?_push_size _ rfl
  refine wpAny_bind (wpAny_holding (wpAny_call_entry slot_list_sort ⟨_, hoL, rfl⟩ entry_list_sort
    (list_sort_treeKAny strKind_oneLt (s := { s1 with heap := s1.heap.push (seqObj "list" vs.toArray 0) }) hoL hS.keysOf (fun v₁ v₂ rest e => keyKind_strs (by rw [← e]; exact hS)) (Nat.le_of_lt hvz) fun st' hp hs => ⟨_, rfl, ?_⟩) (args_list_sort _)))
  obtain ⟨ys, y1, y2, y3⟩ := sorted_out_str hS hp hs
  obtain ⟨c, hc⟩ := sortedHeap_at (vs := vs) (out := (arrOf st').map (·.2)) hoL
  refine wpAny_pure ⟨_, rfl, hQ _ s1.heap.objs.size _ c ys (fun b u e => ?_) g1 o1 hz hc y1 (y2.trans pL) y3⟩
  have q := k1 b u e
  have hlt := Heap.lt_size q
  show (sortedHeap (s1.heap.push (seqObj "list" vs.toArray 0)) s1.heap.objs.size vs _).get? b = some u
  rw [sortedHeap_old (Nat.ne_of_lt hlt) (by rw [size_push']; exact Nat.lt_succ_of_lt hlt)]
  exact Heap.get?_push_of_some _ q
end
/-! ### over the abstract heap -/
def TxO (w : World) (a : Addr) (L : List Str) : HO := .ext fun h => TxSet w h a L
theorem txO_new {w : World} {P : Program} {H : Hp} {h : Heap} {a : Addr} {L : List Str} (R : TxSet w h a L) : ObjOk P w H h a (TxO w a L) := by
  have ⟨o, _, _, _, ho, _⟩ := R
  exact ⟨R, ⟨o, ho⟩, fun _ _ p k => TxSet.at p k⟩
theorem TxSet.facts {w : World} {h : Heap} {a : Addr} {L : List Str} (R : TxSet w h a L) : L.Nodup := by
  obtain ⟨o, es, ep, t, ho, hex, hd, g, hL, nd, _⟩ := R
  exact nd
/-- set(l), l a list of texts -/
def rSetL (K : PySem.W.Frag) (w : World) : List V → Hp → VK → Prop := fun vs H Q => ∃ (l : Addr) (xs : List Str), vs = [.ref l] ∧ SqL K H l (xs.map V.str) ∧ xs.length ≤ 1000 ∧
  ∀ p L, H p = none → L.Nodup → (∀ y, y ∈ L ↔ y ∈ xs) → Q (.ref p) (upd H p (TxO w p L))
/-- set(d), d a dict with texts as keys -/
def rSetD (w : World) : List V → Hp → VK → Prop := fun vs H Q => ∃ (d : Addr) (kvs : List (Key × V)) (xs : List Str), vs = [.ref d] ∧ Rd H d (.dK kvs) ∧ kvs.map (·.1) = xs.map Sum.inr ∧ xs.length ≤ 1000 ∧
  ∀ p L, H p = none → L.Nodup → (∀ y, y ∈ L ↔ y ∈ xs) → Q (.ref p) (upd H p (TxO w p L))
/-- sorted(s), s such a set -/
def rSortedTx (w : World) : List V → Hp → VK → Prop := fun vs H Q => ∃ (a : Addr) (L : List Str), vs = [.ref a] ∧ H a = some (TxO w a L) ∧
  ∀ p ys, ys.Perm L → sortedS ys = true → H p = none → Q (.ref p) (upd H p (.lst (ys.map V.str)))
section
variable {X : Cx}
theorem cr_setL (hc : X.calm = true) : CallR X (.type "set") (rSetL X.K X.w) := by
  intro pins s σ H vs us Q I r h
  obtain ⟨l, xs, rfl, hs, hb, q⟩ := h
  obtain ⟨its, rv, hl, _⟩ := I.list hs
  rw [Vals.ref1 r]
  have hn : H s.heap.objs.size = none := I.hok.fresh (Nat.le_refl _)
  obtain ⟨ol, hol, _⟩ := id hl.isList
  have hlS : l < s.heap.objs.size := Heap.lt_size hol
  refine set_from ?_
  refine upd_list (s := { s with heap := s.heap.push (set0 X.w) }) (xs := xs) (by simp [I.ok.hd hc]) (hl.isList.push _) rv.strs (by show xs.length + 1 < 4096; omega) (tx_fresh (Heap.get?_push_size _ rfl) rfl) (Nat.ne_of_lt hlS) (by rw [Heap.size_push]; exact Nat.lt_succ_self _) fun s' L k e1 e2 e3 x hm hL => ?_
  have k' : ∀ b o, s.heap.get? b = some o → s'.heap.get? b = some o := fun b o e => k b o (Nat.ne_of_lt (Heap.lt_size e)) (Heap.get?_push_of_some _ e)
  have J : Inv X pins σ (upd H s.heap.objs.size (TxO X.w s.heap.objs.size L)) { s with heap := s'.heap, gens := s'.gens, drawn := s'.drawn, toks := s'.toks } :=
    I.call (ch := []) (Un.laid k' (Nat.le_refl _) hn) (I.hok.laid k' (Nat.le_refl _) (txO_new x)) (by rw [e1]; exact I.bare) (fun _ z => nomatch z)
  have e : s' = { s with heap := s'.heap, gens := s'.gens, drawn := s'.drawn, toks := s'.toks } := by
    cases s'
    cases s
    cases e3
    rfl
  rw [e]
  exact ⟨.ref s.heap.objs.size, _, J, rfl, q _ L hn x.facts hm⟩
theorem cr_setD : CallR X (.type "set") (rSetD X.w) := by
  intro pins s σ H vs us Q I r h
  obtain ⟨d, kvs, xs, rfl, hs, hx, hb, q⟩ := h
  obtain ⟨_, hm, vs, rel, dd⟩ := dk_rd I.hok hs
  rw [Vals.ref1 r]
  have hn : H s.heap.objs.size = none := I.hok.fresh (Nat.le_refl _)
  obtain ⟨od, es, ep, hod, rest⟩ := id dd
  have hdS : d < s.heap.objs.size := Heap.lt_size hod
  refine set_from ?_
  refine upd_dict (s := { s with heap := s.heap.push (set0 X.w) }) (xs := xs) (kvs := vs) ⟨od, es, ep, Heap.get?_push_of_some _ hod, rest⟩ (rel.keys.symm.trans hx) hm hb (tx_fresh (Heap.get?_push_size _ rfl) rfl) (Nat.ne_of_lt hdS) fun h' L k x hm hL => ?_
  have k' : ∀ b o, s.heap.get? b = some o → h'.get? b = some o := fun b o e => k b o (Nat.ne_of_lt (Heap.lt_size e)) (Heap.get?_push_of_some _ e)
  exact ⟨.ref s.heap.objs.size, upd H s.heap.objs.size (TxO X.w s.heap.objs.size L), I.laid (t' := s.toks) k' (Nat.le_refl _) (txO_new x), rfl, q _ L hn x.facts hm⟩
theorem cr_sortedTx (hc : X.calm = true) : CallR X (.builtin "sorted") (rSortedTx X.w) := by
  intro pins s σ H vs us Q I r h
  obtain ⟨a, L, rfl, ha, q⟩ := h
  have R : TxSet X.w s.heap a L := (I.hok a _ ha).1
  rw [Vals.ref1 r]
  have hlen : L.length ≤ sizeLine := by
    obtain ⟨o, es, ep, t, ho, hex, hd, g, hL, nd, hb, _⟩ := id R
    rw [← hL, List.length_map, Array.length_toList]
    exact fits_of_scanBound hb
  refine sorted_tx R (I.ok.hd hc) fun s' p out c ys k g o hp hg hi hpm hs => ?_
  have hn : H p = none := I.hok.fresh hp
  have hl2 : (ys.map V.str).length ≤ sizeLine := by rw [List.length_map, hpm.length_eq]; exact hlen
  have J : Inv X pins σ (upd H p (.lst (ys.map V.str))) { s with heap := s'.heap, gens := s'.gens, drawn := s'.drawn, toks := s'.toks } :=
    I.call (ch := []) (Un.laid k hp hn) (I.hok.laid k hp ⟨hl2, out.toList, c, vals_of_strs hi, by rw [Array.toArray_toList]; exact hg⟩) (by rw [g]; exact I.bare) (fun _ z => nomatch z)
  have e : s' = { s with heap := s'.heap, gens := s'.gens, drawn := s'.drawn, toks := s'.toks } := by
    cases s'
    cases s
    cases o
    rfl
  rw [e]
  exact ⟨.ref p, _, J, rfl, q p ys hpm hs hn⟩
end
end Ld
/-! repr of dicts of counts and of lists of such; how long these texts are -/
namespace Ld
open PySem PySem.Spec PyProof.Rows L2
/-! ### a list of scalars and of dicts of scalars -/
def ItR (H : Hp) (x : V) (d : PyData) : Prop := (scaV x = true ∧ d = datV x) ∨ ∃ a kvs, x = .ref a ∧ H a = some (.dK kvs) ∧ (∀ p ∈ kvs, scaV p.2 = true) ∧ d = datD kvs
theorem readsAll_it {P : Program} {w : World} {H : Hp} {h : Heap} (ok : HOk P w H h) : ∀ {xs : List V} {ds : List PyData} {us : List Value}, Paired (ItR H) xs ds → Vals xs us → ∃ as, ReadsAll h us ds as ∧ sysModules ∉ as
  | _, _, _, .nil, r => by
    cases r
    exact ⟨[], .nil, fun h => nomatch h⟩
  | _, _, _, .cons i t, r => by
    cases r with
    | cons r1 r2 =>
      obtain ⟨bs, h1, n1⟩ := readsAll_it ok t r2
      rcases i with ⟨sc, rfl⟩ | ⟨a, kvs, rfl, e, f, rfl⟩
      · exact ⟨[] ++ bs, .cons (reads_sca sc r1) h1, n1⟩
      · obtain ⟨hr, hm⟩ := reads_dict ok e f
        cases (show _ = Value.ref a from r1)
        exact ⟨[a] ++ bs, .cons hr h1, fun q => (List.mem_append.mp q).elim hm n1⟩
def rReprL (K : PySem.W.Frag) : List V → Hp → VK → Prop := fun vs H Q => ∃ (a : Addr) (xs : List V) (ds : List PyData), vs = [.ref a] ∧ SqL K H a xs ∧ Paired (ItR H) xs ds ∧ (PyData.list ds).showable = true ∧ (PyData.list ds).depth ≤ 60 ∧ (PyData.list ds).shown.length ≤ sizeLine ∧ Q (.str (PyData.list ds).shown) H
theorem call_reprL {X : Cx} (hgd : X.A.guards = some []) (hu : X.A.units + 64 < cLine) : CallR X (.builtin "repr") (rReprL X.K) := by
  intro pins s σ H vs us Q I r h
  obtain ⟨a, xs, ds, rfl, hs, hi, hsh, hdp, hsz, q⟩ := h
  rw [Vals.ref1 r]
  obtain ⟨its, rv, ⟨o, n, h1, h2, _, h3⟩, _⟩ := I.list hs
  obtain ⟨as, h4, hno⟩ := readsAll_it I.hok hi rv
  have hz : (listText (PyData.shownAll ds)).length ≤ sizeLine := by simpa only [PyData.shown] using hsz
  obtain ⟨bs, hb, hk⟩ := ReprAllK.of_readsAll (prog := X.prog) (w := X.w) h4 (by simpa [PyData.showable] using hsh) (fun _ => hno) (fun t ht => Nat.le_trans (listText_mem_le ht) hz)
  have rd : Reads s.heap (.ref a) (.list ds) (a :: as) := .list h1 h2 h3 (by simpa using h4)
  have hna : a ∉ bs := not_mem_of_deeper rd (by simp only [PyData.depth]; omega) hb
  simp only [PyData.depth] at hdp
  simp only [PyData.shown] at q
  refine call_repr_slot (T := "list") (idr := "list.__repr__") (by omega) ⟨o, h1, h2⟩ F.slot_list_repr.toG ?_
  cases its with
  | nil =>
    cases h4
    simp only [PyData.shownAll, listText_nil] at q
    exact call_list_repr_empty ⟨o, h1, h2⟩ h1 h3 ⟨_, _, rfl, .str _, H, I.tok _, ⟨_, rfl⟩, q⟩
  | cons x l =>
    exact call_list_reprK h1 h2 h3 hna (by simpa using hk.length_eq) (fun i y e => hk.item i y (by simpa using e)) hgd (fun b _ => Clear.nil b) (by show X.A.units + 1 + _ < cLine; omega) (fun _ _ e => e)
      (fun h' u tk k => ⟨_, _, rfl, .str _, H, I.kept (t' := tk) k, ⟨u, rfl⟩, q⟩) hz
/-! ### how long -/
theorem piled_le {b : Nat} : ∀ (ts : List Str), (∀ t ∈ ts, t.length ≤ b) → piled ts ≤ ts.length * (b + 2)
  | [], _ => Nat.zero_le _
  | t :: r, h => by
    have h1 := piled_le r fun x hx => h x (List.mem_cons_of_mem _ hx)
    have h2 := h t List.mem_cons_self
    show (t.length + 2) + piled r ≤ (r.length + 1) * (b + 2)
    rw [Nat.add_mul]
    omega
theorem dictText_le {b : Nat} {ts : List Str} (h : ∀ t ∈ ts, t.length ≤ b) : (dictText ts).length ≤ 2 + ts.length * (b + 2) := by
  have h1 := piled_le ts h
  unfold dictText
  rw [strLen_append, strLen_append]
  have e1 : ((("{" : String) : Str)).length = 1 := rfl
  have e2 : ((("}" : String) : Str)).length = 1 := rfl
  by_cases e : ts = []
  · subst e
    have : (Str.join (Str.ofString ", ") []).length = 0 := rfl
    omega
  · have := join_length_add ts e
    omega
theorem textFrom_le : ∀ (ts : List Str) (k : Nat) (acc : Str), (textFrom k acc ts).length ≤ acc.length + piled ts
  | [], k, acc => Nat.le_add_right _ _
  | t :: r, k, acc => by
    have h := textFrom_le r (k + 1) (acc ++ (if k > 0 then ", " else "" : String) ++ t)
    have e : (acc ++ (if k > 0 then ", " else "" : String) ++ t).length ≤ acc.length + 2 + t.length := by
      rw [strLen_append, strLen_append]
      have : (Str.ofString (if k > 0 then ", " else "" : String)).length ≤ 2 := by
        split
        · exact Nat.le_refl 2
        · exact Nat.zero_le 2
      omega
    show (textFrom (k + 1) (acc ++ (if k > 0 then ", " else "" : String) ++ t) r).length ≤ acc.length + ((t.length + 2) + piled r)
    omega
theorem listText_le {b : Nat} {ts : List Str} (h : ∀ t ∈ ts, t.length ≤ b) : (listText ts).length ≤ 2 + ts.length * (b + 2) := by
  have h1 := piled_le ts h
  have h2 := textFrom_le ts 0 "["
  unfold listText
  rw [strLen_append]
  have e1 : ((("[" : String) : Str)).length = 1 := rfl
  have e2 : ((("]" : String) : Str)).length = 1 := rfl
  omega
theorem word_small {z : Str} (h : wordB z = true) : (reprText z).length ≤ 82 := by
  have hl := (wordB_len h).2
  have := PySem.StrLaws.reprText_len z fun c hc => by
    unfold wordB at h
    rw [Bool.and_eq_true, List.all_eq_true] at h
    have q := h.2 c hc
    unfold azB at q
    rw [Bool.and_eq_true, decide_eq_true_eq, decide_eq_true_eq] at q
    exact Nat.lt_of_le_of_lt q.2 (by decide)
  omega
theorem int_show {i : Int} {k : Nat} (h : i.natAbs < 10 ^ k) (h0 : 0 < k) (hk : k ≤ 500) : (PyData.int i).showable = true ∧ (PyData.int i).shown.length ≤ k + 1 := by
  constructor
  · simp only [PyData.showable, decide_eq_true_eq]
    by_cases e : i.natAbs = 0
    · rw [e]
      decide
    · refine (Nat.log2_lt e).mpr (Nat.lt_of_lt_of_le h (Nat.le_trans (Nat.pow_le_pow_right (by decide) hk) ?_))
      decide +kernel
  · simp only [PyData.shown]
    show (Str.ofString (toString i)).length ≤ k + 1
    rw [PySem.ofString_length]
    exact int_text_length_le10 h0 h
theorem depthKv_sca : ∀ (ps : List (Str × Int)), PyData.depthKv ((cD ps).map fun p => (datV (kV p.1), datV p.2)) = 0
  | [] => rfl
  | p :: r => by
    show max (max 0 0) (PyData.depthKv ((cD r).map fun p => (datV (kV p.1), datV p.2))) = 0
    rw [depthKv_sca r]
    rfl
theorem showKv_ct {k : Nat} (h0 : 0 < k) (hk : k ≤ 500) : ∀ (ps : List (Str × Int)), (∀ p ∈ ps, wordB p.1 = true ∧ p.2.natAbs < 10 ^ k) →
    PyData.showableKv ((cD ps).map fun p => (datV (kV p.1), datV p.2)) = true ∧ (∀ t ∈ PyData.shownKv ((cD ps).map fun p => (datV (kV p.1), datV p.2)), t.length ≤ k + 85) ∧ (PyData.shownKv ((cD ps).map fun p => (datV (kV p.1), datV p.2))).length = ps.length
  | [], _ => ⟨rfl, (fun _ h => nomatch h), rfl⟩
  | p :: r, h => by
    obtain ⟨a1, a2, a3⟩ := showKv_ct h0 hk r fun q hq => h q (List.mem_cons_of_mem _ hq)
    obtain ⟨w1, i1⟩ := h p List.mem_cons_self
    obtain ⟨s1, s2⟩ := int_show i1 h0 hk
    have e : (cD (p :: r)).map (fun p => (datV (kV p.1), datV p.2)) = (PyData.str p.1, PyData.int p.2) :: (cD r).map fun p => (datV (kV p.1), datV p.2) := rfl
    rw [e]
    refine ⟨?_, ?_, ?_⟩
    · simp only [PyData.showableKv, a1, Bool.and_true]
      show ((PyData.str p.1).showable && (PyData.int p.2).showable) = true
      rw [s1]
      simp only [PyData.showable, Bool.and_true]
    · intro t ht
      simp only [PyData.shownKv] at ht
      rcases List.mem_cons.mp ht with e | ht
      · rw [e, strLen_append, strLen_append]
        have h1 : (PyData.str p.1).shown.length ≤ 82 := by
          simp only [PyData.shown]
          exact word_small w1
        have h2 : (Str.ofString ": ").length = 2 := rfl
        omega
      · exact a2 t ht
    · simp only [PyData.shownKv, List.length_cons, a3]
theorem show_ct {k : Nat} (h0 : 0 < k) (hk : k ≤ 500) {ps : List (Str × Int)} (h : ∀ p ∈ ps, wordB p.1 = true ∧ p.2.natAbs < 10 ^ k) : (datD (cD ps)).showable = true ∧ (datD (cD ps)).depth = 1 ∧ (datD (cD ps)).shown.length ≤ 2 + ps.length * (k + 87) := by
  obtain ⟨a1, a2, a3⟩ := showKv_ct h0 hk ps h
  refine ⟨?_, ?_, ?_⟩
  · simp only [datD, PyData.showable]
    exact a1
  · simp only [datD, PyData.depth, depthKv_sca]
  · simp only [datD, PyData.shown]
    have := dictText_le a2
    rwa [a3] at this
theorem scalar_cD (ps : List (Str × Int)) : ∀ p ∈ cD ps, scaV p.2 = true := by
  intro p hp
  obtain ⟨q, _, rfl⟩ := List.mem_map.mp hp
  rfl
theorem list_show {b : Nat} : ∀ {ds : List PyData}, (∀ d ∈ ds, d.showable = true ∧ d.depth ≤ 1 ∧ d.shown.length ≤ b) →
    PyData.showableAll ds = true ∧ PyData.depthAll ds ≤ 1 ∧ (∀ t ∈ PyData.shownAll ds, t.length ≤ b) ∧ (PyData.shownAll ds).length = ds.length
  | [], _ => ⟨rfl, Nat.zero_le _, (fun _ h => nomatch h), rfl⟩
  | d :: r, h => by
    obtain ⟨a1, a2, a3, a4⟩ := list_show (ds := r) fun q hq => h q (List.mem_cons_of_mem _ hq)
    obtain ⟨d1, d2, d3⟩ := h d List.mem_cons_self
    refine ⟨?_, ?_, ?_, ?_⟩
    · simp only [PyData.showableAll, d1, a1, Bool.and_self]
    · simp only [PyData.depthAll]
      omega
    · intro t ht
      simp only [PyData.shownAll] at ht
      rcases List.mem_cons.mp ht with e | ht
      · rw [e]
        exact d3
      · exact a3 t ht
    · simp only [PyData.shownAll, List.length_cons, a4]
theorem show_list {b : Nat} {ds : List PyData} (h : ∀ d ∈ ds, d.showable = true ∧ d.depth ≤ 1 ∧ d.shown.length ≤ b) : (PyData.list ds).showable = true ∧ (PyData.list ds).depth ≤ 60 ∧ (PyData.list ds).shown.length ≤ 2 + ds.length * (b + 2) := by
  obtain ⟨a1, a2, a3, a4⟩ := list_show h
  refine ⟨?_, ?_, ?_⟩
  · simp only [PyData.showable]
    exact a1
  · simp only [PyData.depth]
    omega
  · simp only [PyData.shown]
    have := listText_le a3
    rwa [a4] at this
end Ld
/-! own operators: x + y, x * n, n * x, -x, bool(x) -/
namespace PySem.W
open PySem PySem.Spec PyProof.Rows PySem.Calls
section
variable {prog : Program} {w : World} {A : Around} {E : Value → Shared → Prop} {s : Shared} {K : Frag} {x C L f g : Addr} {h₀ : Heap} {m : Str → Option Value} {ox : Obj} {od : Option Obj}
/-- int.__mul__ of what is no int -/
theorem mul_none {i : Int} {t : Tok} {Q : Option Value → Shared → Prop} (hx : s.heap.get? x = some ox) (hn : ∀ j u, ox.data ≠ .prim (.int j u)) (q : Q none s) :
    wpAny (model prog w) A (tryMethod (.int i t) (PySem.dunder "mul") (.ref x)) Q E s := by
  unfold tryMethod
  refine wpAny_bind (wpAny_callSpecial?_slot (typeIs_int s i t) F.slot_int_mul (GQ.call_here F.slot_int_mul (typeIs_int s i t) F.entry_int_mul (F.args_int_mul_2 _ _) ?_))
  obtain ⟨hp, g, d, tk, os⟩ := s
  have hz : wpAny (model prog w) A.in1 (asInt? (.ref x)) (fun r s' => r = none ∧ s' = ⟨hp, g, d, tk, os⟩) (fun e s' => wants (fun v => (fun o s'' => wpAny (model prog w) A (match o with | some .notImplemented | none => pure none | some v => pure (some v)) Q E s'') (some v)) E (.error e) s') ⟨hp, g, d, tk, os⟩ := by
    unfold asInt?
    refine wpAny_bind (wpAny_load hx ?_)
    obtain ⟨c, dd, dt, sl⟩ := ox
    cases dt with
    | prim v =>
      cases v with
      | int j u => exact absurd rfl (hn j u)
      | _ => exact wpAny_pure ⟨rfl, rfl⟩
    | _ => exact wpAny_pure ⟨rfl, rfl⟩
  generalize hAI : asInt? = AI at hz
  unfold Builtin.«int.__mul__» Builtin.Int.intBinary
  rw [hAI]
  wp_walk
  refine wpAny_mono hz (fun r s' h => ?_) fun _ _ e => e
  obtain ⟨rfl, rfl⟩ := h
  wp_walk
  exact q
/-- n * x by x's __rmul__ -/
theorem mulR_K {i : Int} {t : Tok} {Q : Value → Shared → Prop} (F : Fr h₀ L s.heap m) (X₀ : K.In h₀) (I : InstAt s.heap x ox C od) (hn : ∀ j u, ox.data ≠ .prim (.int j u)) (hc : selfFirst K C = true) (hi : mroIn K C (.type "int") = some false)
    (hs1 : findIn K (.ref C) (PySem.dunder "mul") = some (some (.ref g))) (hs : findIn K (.ref C) (dunderR "mul") = some (some (.ref f))) (hf : isFn K (.ref f) = true)
    (h : wpAny (model prog w) A (call (.ref f) [.ref x, .int i t]) (CmpBack Q) E s) : wpAny (model prog w) A (binaryOp .Mult (.int i t) (.ref x)) Q E s := by
  have X := X₀.keeps F.keep
  obtain ⟨cd, rest, hcd, hm⟩ := ksp_first hc
  have one := ksp_try X I hs hf h
  obtain ⟨hh, gg, d, tt, os⟩ := s
  have L1 : Looks (model prog w) hh (typeOf (.int i t)) (.type "int") := Looks.of_pure rfl
  have L2 : Looks (model prog w) hh (typeOf (.ref x)) (.ref C) := I.type
  have L3 : Looks (model prog w) hh (fillsNumberSlot (.type "int") "mul") true := Looks.of_pure PySem.F.fills_int_mul
  have L4 : Looks (model prog w) hh (fillsNumberSlot (.ref C) "mul") true := fills_K X hcd hm hs1
  have L5 : Looks (model prog w) hh (isSubtype (.ref C) (.type "int")) false := looks_mroIn X hi
  have L6 : Looks (model prog w) hh (numberSlotInPython (.type "int") "mul") false := Looks.of_pure rfl
  have hne : (Value.type "int" == Value.ref C) = false := by rfl
  have two : ∀ Q' : Option Value → Shared → Prop, Q' none ⟨hh, gg, d, tt, os⟩ → wpAny (model prog w) A (tryMethod (.int i t) (PySem.dunder "mul") (.ref x)) Q' E ⟨hh, gg, d, tt, os⟩ := fun Q' q => mul_none I.at_ hn q
  unfold binaryOp
  refine wpAny_holding (wpAny_bind ?_)
  show wpAny _ _ (binaryOp1 "mul" _ _) _ _ _
  unfold binaryOp1
  refine wpAny_bind (L1.at (wpAny_bind (L2.at (wpAny_bind (L3.at ?_)))))
  simp only [hne, Bool.false_eq_true, if_false]
  refine wpAny_bind (L4.at ?_)
  simp only [Bool.and_self, if_true, Bool.true_and]
  refine wpAny_bind (L5.at ?_)
  simp only [Bool.false_eq_true, if_false, Bool.not_false, if_true]
  refine wpAny_bind (L6.at ?_)
  simp only [Bool.false_eq_true, if_false]
  refine wpAny_bind (two _ ?_)
  dsimp only
  refine wpAny_bind (wpAny_mono one (fun r s' hr => ?_) fun _ _ e => e)
  obtain ⟨v, rfl, hq⟩ := hr
  dsimp only
  refine wpAny_bind (wpAny_rule ?_)
  exact wpAny_pure (wpAny_pure hq)
end
end PySem.W
namespace Ld
open PySem PySem.Spec PyProof.Rows L2
section
variable {X : Cx} {CX : CXT} {C g f : Addr} {n : Nat} {sp : Sp} {E : XK}
/-- x op y, both instances of the class at C, whose def for op is at g -/
def rBin (C : Addr) (sp : Sp) (E : XK) : R2 := fun x y H Q => ∃ a b dx fs dy gs, x = .ref a ∧ y = .ref b ∧ H a = some (.ins C dx fs) ∧ H b = some (.ins C dy gs) ∧ sp [x, y] H Q E
theorem op_bin {op : Operator} (hc : PySem.W.selfFirst X.K C = true) (hs : PySem.W.findIn X.K (.ref C) (PySem.dunder op.info.2) = some (some (.ref g))) (hf : PySem.W.isFn X.K (.ref g) = true) (F : FnR X.prog X.w X.K X.mg X.base CX n g sp) (hr : Room n X.A) (hx : Passes CX X E) :
    OpR X (binaryOp op) (rBin C sp E) := by
  intro pins s σ H x y v u Q I rx ry h
  obtain ⟨a, b, dx, fs, dy, gs, rfl, rfl, ha, hb, q⟩ := h
  cases (show v = Value.ref a from rx)
  cases (show u = Value.ref b from ry)
  obtain ⟨mA, O, _⟩ := ins_get I.hok ha
  obtain ⟨od, J, _⟩ := O.look
  obtain ⟨mB, OB, _⟩ := ins_get I.hok hb
  obtain ⟨od2, J2, _⟩ := OB.look
  obtain ⟨m, hF⟩ := I.fr
  refine PySem.W.binop_K hF I.ok.mod.kin J J2.type hc hs hf ?_
  refine wpAny_mono (wpAny_call (run_fnR (us := [.ref a, .ref b]) (vs := [.ref a, .ref b]) F hr hx I (.cons rfl (.cons rfl .nil)) q)) (fun w s' z => ?_) fun _ _ x => x
  obtain ⟨z', H', I', rz, qz⟩ := z
  exact SlX.cmpback rz ⟨z', H', I', rz, qz⟩
/-- what of the class x * n and n * x ask -/
structure MulC (K : PySem.W.Frag) (C : Addr) (fm fr : Addr) : Prop where
  first : PySem.W.selfFirst K C = true
  mul : PySem.W.findIn K (.ref C) "__mul__" = some (some (.ref fm))
  rmul : PySem.W.findIn K (.ref C) "__rmul__" = some (some (.ref fr))
  fnm : PySem.W.isFn K (.ref fm) = true
  fnr : PySem.W.isFn K (.ref fr) = true
  int1 : ∃ fo, PySem.W.findIn K (.type "int") "__mul__" = some fo
  int2 : ∃ ro, PySem.W.findIn K (.type "int") "__rmul__" = some ro
  noInt : PySem.W.mroIn K C (.type "int") = some false
/-- x * n -/
def rBinI (C : Addr) (sp : Sp) (E : XK) : R2 := fun x y H Q => ∃ a dx fs i, x = .ref a ∧ y = .int i ∧ H a = some (.ins C dx fs) ∧ sp [x, y] H Q E
theorem op_mulI {fr : Addr} (T : MulC X.K C g fr) (F : FnR X.prog X.w X.K X.mg X.base CX n g sp) (hr : Room n X.A) (hx : Passes CX X E) (hsub : PySem.W.subIn X.K (.type "int") (.ref C) = some false) : OpR X (binaryOp .Mult) (rBinI C sp E) := by
  intro pins s σ H x y v u Q I rx ry h
  obtain ⟨a, dx, fs, i, rfl, rfl, ha, q⟩ := h
  cases (show v = Value.ref a from rx)
  obtain ⟨t, rfl⟩ := (show ∃ t, u = Value.int i t from ry)
  obtain ⟨mA, O, _⟩ := ins_get I.hok ha
  obtain ⟨od, J, _⟩ := O.look
  obtain ⟨m, hF⟩ := I.fr
  obtain ⟨fo, h1⟩ := T.int1
  obtain ⟨ro, h2⟩ := T.int2
  refine PySem.W.ksp_binT (op := .Mult) (T := "int") (fo := fo) (ro := ro) (rc := some (.ref fr)) hF I.ok.mod.kin J rfl T.first T.mul T.fnm T.rmul (.inr ⟨_, rfl⟩) h1 h2 hsub ?_
  refine wpAny_mono (wpAny_call (run_fnR (us := [.ref a, .int i t]) (vs := [.ref a, .int i]) F hr hx I (.cons rfl (.cons ⟨t, rfl⟩ .nil)) q)) (fun w s' z => ?_) fun _ _ x => x
  obtain ⟨z', H', I', rz, qz⟩ := z
  exact SlX.cmpback rz ⟨z', H', I', rz, qz⟩
/-- n * x -/
def rBinR (C : Addr) (sp : Sp) (E : XK) : R2 := fun x y H Q => ∃ a dx fs i, x = .int i ∧ y = .ref a ∧ H a = some (.ins C dx fs) ∧ sp [y, x] H Q E
theorem op_mulR {fm : Addr} (T : MulC X.K C fm g) (F : FnR X.prog X.w X.K X.mg X.base CX n g sp) (hr : Room n X.A) (hx : Passes CX X E) : OpR X (binaryOp .Mult) (rBinR C sp E) := by
  intro pins s σ H x y v u Q I rx ry h
  obtain ⟨a, dx, fs, i, rfl, rfl, ha, q⟩ := h
  cases (show u = Value.ref a from ry)
  obtain ⟨t, rfl⟩ := (show ∃ t, v = Value.int i t from rx)
  obtain ⟨mA, O, _⟩ := ins_get I.hok ha
  obtain ⟨od, J, _⟩ := O.look
  obtain ⟨m, hF⟩ := I.fr
  refine PySem.W.mulR_K hF I.ok.mod.kin J (fun j u z => nomatch z) T.first T.noInt T.mul T.rmul T.fnr ?_
  refine wpAny_mono (wpAny_call (run_fnR (us := [.ref a, .int i t]) (vs := [.ref a, .int i]) F hr hx I (.cons rfl (.cons ⟨t, rfl⟩ .nil)) q)) (fun w s' z => ?_) fun _ _ x => x
  obtain ⟨z', H', I', rz, qz⟩ := z
  exact SlX.cmpback rz ⟨z', H', I', rz, qz⟩
/-- -x -/
def rNeg (C : Addr) (sp : Sp) (E : XK) : V → Hp → VK → Prop := fun x H Q => ∃ a dx fs, x = .ref a ∧ H a = some (.ins C dx fs) ∧ sp [x] H Q E
theorem un_own (hs : PySem.W.findIn X.K (.ref C) "__neg__" = some (some (.ref g))) (hf : PySem.W.isFn X.K (.ref g) = true) (F : FnR X.prog X.w X.K X.mg X.base CX n g sp) (hr : Room n X.A) (hx : Passes CX X E) : UnR X (unaryOp .USub) (rNeg C sp E) := by
  intro pins s σ H x v Q I rx h
  obtain ⟨a, dx, fs, rfl, ha, q⟩ := h
  cases (show v = Value.ref a from rx)
  obtain ⟨mA, O, _⟩ := ins_get I.hok ha
  obtain ⟨od, J, _⟩ := O.look
  obtain ⟨m, hF⟩ := I.fr
  exact PySem.W.ksp_neg hF I.ok.mod.kin J hs hf (wpAny_call (run_fnR (us := [.ref a]) (vs := [.ref a]) F hr hx I (.cons rfl .nil) q))
end
end Ld
namespace Ld
open PySem PySem.Spec PyProof.Rows L2
section
variable {prog : Program} {w : World} {A : Around} {E : Value → Shared → Prop} {s : Shared}
theorem code_bool_new {x : Value} {R : Result → Shared → Prop} (h : wpAny (model prog w) A.in1 (truthy x) (fun b s' => R (.ok (.ret (.bool b))) s') (fun e s' => R (.error e) s') s) :
    wpAny (model prog w) A.in1 (Builtin.«bool.__new__» ⟨[.type "bool", x], []⟩) (fun fin s' => match fin with | .done f => R (.ok f) s' | .again c' => c'.quiet = true ∧ codeAny (model prog w) A c' R s') (fun e s' => R (.error e) s') s := by
  obtain ⟨hp, g, d, tk, os⟩ := s
  have f1 := F.conv_sub_bool
  generalize hT : truthy = T at h
  unfold Builtin.«bool.__new__»
  rw [hT]
  wp_walk
  refine wpAny_mono h (fun b s' q => ?_) fun _ _ e => e
  first
    | exact q
    | (wp_walk; exact q)
theorem call_bool_by {x : Value} {Q : Value → Shared → Prop} (h : wpAny (model prog w) A.in1.in1 (truthy x) (fun b s' => Q (.bool b) s') E s) : wpAny (model prog w) A (call (.type "bool") [x]) Q E s := by
  obtain ⟨c, tl, hmro⟩ := F.called_bool.mro
  have hmade := F.called_bool.made
  have hsub := F.called_bool.sub
  refine wpAny_call (codeAny_of_tree ?_)
  show wpAny _ _ (callAny (.type "bool") _) _ _ _
  refine wpAny_pure ⟨Code.quiet_builtin _ (by decide +kernel), codeAny_builtin F.entry_type_call ?_⟩
  rw [Around.under_plain (weight_type_call_type "bool" [x] []) rfl]
  have h1 := F.called_bool.notType
  have h2 := F.called_bool.canCreate
  have hct := F.typeCall_bool_1 x
  repeat (any_goals (first | assumption | wp_step))
  refine codeAny_mono (codeAny_call_builtin (R := wants (fun v s' => (∃ b, v = .bool b) ∧ Q v s') E) F.called_bool.plain F.entry_bool_new (wpAny_of_eq (F.newCall_bool_1 x) (code_bool_new (wpAny_mono h (fun b s' q => ⟨⟨b, rfl⟩, q⟩) fun _ _ e => e)))) fun r s₁ hr => ?_
  cases r with
  | error e => exact hr
  | ok fl =>
    cases fl with
    | ret obj =>
      obtain ⟨⟨b, rfl⟩, q⟩ := hr
      have hT : s₁.TypeIs (.bool b) "bool" := rfl
      have hli := F.called_bool.init.lookup
      have hbi := F.called_bool.init.bind (.bool b)
      repeat (any_goals (first | assumption | wp_step))
      refine codeAny_mono (codeAny_call_builtin (R := wants (fun v s' => v = .none ∧ Q (.bool b) s') E) F.called_bool.init.plain F.entry_object_init (F.called_bool.init.check _ _ _ _ _ _ _ _ hT (F.args_object_init_2 _ x) (object_init_meets F.called_bool.init.lookup F.called_bool.made F.newNe_bool prog w _ _ _ ⟨hT, rfl, q⟩))) fun r₂ s₂ hr₂ => ?_
      cases r₂ with
      | error e => exact hr₂
      | ok fl₂ =>
        cases fl₂ with
        | ret r =>
          obtain ⟨rfl, q⟩ := hr₂
          repeat (any_goals (first | assumption | wp_step))
        | _ => exact hr₂.elim
    | _ => exact hr.elim
end
section
variable {X : Cx} {CX : CXT} {C g : Addr} {n : Nat} {sp : Sp} {E : XK}
/-- bool(x), x's own __bool__ -/
def rBoolO (C : Addr) (sp : Sp) (E : XK) : List V → Hp → VK → Prop := fun xs H Q => ∃ a dx fs, xs = [.ref a] ∧ H a = some (.ins C dx fs) ∧ sp [.ref a] H (fun v H' => ∃ b, v = .bl b ∧ Q (.bl b) H') E
theorem call_boolO (hs : PySem.W.findIn X.K (.ref C) "__bool__" = some (some (.ref g))) (hf : PySem.W.isFn X.K (.ref g) = true) (F : FnR X.prog X.w X.K X.mg X.base CX n g sp) (hr : Room (n + 2) X.A) (hx : Passes CX X E) : CallR X (.type "bool") (rBoolO C sp E) := by
  intro pins s σ H xs us Q I r h
  obtain ⟨a, dx, fs, rfl, ha, q⟩ := h
  rw [Vals.ref1 r]
  obtain ⟨mA, O, _⟩ := ins_get I.hok ha
  obtain ⟨od, J, _⟩ := O.look
  obtain ⟨m, hF⟩ := I.fr
  refine call_bool_by (PySem.W.truthy_K hF I.ok.mod.kin J hs hf ?_)
  have hr2 : Room n X.A.in1.in1 := (Room.in1 (Room.in1 hr))
  refine wpAny_mono (wpAny_call (SlX.run_at (A := X.A.in1.in1) (us := [.ref a]) (ws := [.ref a]) F hr2 I.env0.in1.in1 hx I (.cons rfl .nil) q)) (fun w' s' z => ?_) fun _ _ x => x
  obtain ⟨z', H', I', rz, b, rfl, qz⟩ := z
  cases rz
  exact ⟨.bl b, H', I', rfl, qz⟩
end
end Ld
namespace Ld
open PySem PySem.Spec PyProof.Rows L2
structure Blt3 (mg : Str → Option Value) : Prop where
  min : mg "min" = none
  max : mg "max" = none
  repr : mg "repr" = none
theorem bMin : bootBuiltins "min" = some (.builtin "min") := by decide +kernel
theorem bMax : bootBuiltins "max" = some (.builtin "max") := by decide +kernel
theorem bRepr : bootBuiltins "repr" = some (.builtin "repr") := by decide +kernel
theorem bDict : bootBuiltins "dict" = some (.type "dict") := by decide +kernel
/-- the own class is one that isinstance takes, and no built-in type's first -/
structure OddC (K : PySem.W.Frag) (C : Addr) : Prop where
  own : ((PySem.W.clsIn K C).isSome && PySem.W.typeIn K (.ref C) == some (.type "type")) = true
theorem kit_no {K : PySem.W.Frag} {C : Addr} (h : OddC K C) {T : String} (e : (fastBuiltinMro T).map (·.contains (Value.ref C)) = some false) : PySem.W.kitOne K (.type T) (.ref C) = some false := by
  unfold PySem.W.kitOne PySem.W.kitCls
  rw [if_neg (by intro q; exact nomatch (show Value.type T = Value.ref C from beq_iff_eq.mp q))]
  show (if _ then PySem.W.subIn K (.type T) (.ref C) else none) = _
  rw [if_pos h.own]
  exact e
theorem nf_no {K : PySem.W.Frag} {C : Addr} {T : String} (e : (fastBuiltinMro T).map (·.contains (Value.ref C)) = some false) : PySem.W.notFirst K C (.type T) = true := by
  unfold PySem.W.notFirst
  have e2 : PySem.W.subIn K (.type T) (.ref C) = some false := e
  rw [e2]
  simp
theorem mroDict {C : Addr} : (fastBuiltinMro "dict").map (·.contains (Value.ref C)) = some false := by kernel_rfl
theorem mroStr {C : Addr} : (fastBuiltinMro "str").map (·.contains (Value.ref C)) = some false := by kernel_rfl
theorem mroNon {C : Addr} : (fastBuiltinMro "NoneType").map (·.contains (Value.ref C)) = some false := by kernel_rfl
theorem mroInt {C : Addr} : (fastBuiltinMro "int").map (·.contains (Value.ref C)) = some false := by kernel_rfl
theorem mroTup {C : Addr} : (fastBuiltinMro "tuple").map (·.contains (Value.ref C)) = some false := by kernel_rfl
theorem mroLst {C : Addr} : (fastBuiltinMro "list").map (·.contains (Value.ref C)) = some false := by kernel_rfl
section
variable {P : Program} {w : World} {K : PySem.W.Frag} {mg : Str → Option Value} {base : Heap} {C fi : Addr}
/-- a classmethod of the class that keeps sp -/
def HasC (P : Program) (w : World) (K : PySem.W.Frag) (mg : Str → Option Value) (base : Heap) (n : Nat) (C : Addr) (name : Str) (sp : Sp) : Prop :=
  ∃ mc p g, ClX.CRead K C mc ∧ ClX.CMet K C mc name p g ∧ FnR P w K mg base CX0 n g sp
/-- a property of the class -/
def HasP (P : Program) (w : World) (K : PySem.W.Frag) (mg : Str → Option Value) (base : Heap) (n : Nat) (C : Addr) (name : Str) (sp : Sp) : Prop :=
  ∃ p g fd, PropOf K C name p g ∧ FnOk P w K mg base CX0 n g fd ["self"] sp ∧ Binds K fd ["self"] []
/-- a method of the class -/
def HasT (P : Program) (w : World) (K : PySem.W.Frag) (mg : Str → Option Value) (base : Heap) (n : Nat) (C : Addr) (name : Str) (ps : List Str) (sp : Sp) : Prop :=
  ∃ g fd, Meth K C name g ∧ FnOk P w K mg base CX0 n g fd ps sp ∧ Binds K fd ps []
end
end Ld
namespace Ld
open PySem PySem.Spec PyProof.Rows L2
/-! ### a dict comprehension over the items of a dict of counts -/
def mapC (f : Int → Int) (flt : Int → Bool) (ps : List (Str × Int)) : List (Str × Int) := (ps.filter fun p => flt p.2).map fun p => (p.1, f p.2)
theorem mapC_keys {f : Int → Int} {flt : Int → Bool} {ps : List (Str × Int)} : (mapC f flt ps).map (·.1) = (ps.filter fun p => flt p.2).map (·.1) := by
  unfold mapC
  rw [List.map_map]
  rfl
theorem mapC_nd {f : Int → Int} {flt : Int → Bool} {ps : List (Str × Int)} (nd : (ps.map (·.1)).Nodup) : ((mapC f flt ps).map (·.1)).Nodup := by
  rw [mapC_keys]
  exact nd.sublist (List.filter_sublist.map _)
theorem mapC_mem {f : Int → Int} {flt : Int → Bool} {ps : List (Str × Int)} {q : Str × Int} : q ∈ mapC f flt ps ↔ ∃ i, (q.1, i) ∈ ps ∧ flt i = true ∧ q.2 = f i := by
  unfold mapC
  rw [List.mem_map]
  constructor
  · rintro ⟨p, hp, rfl⟩
    obtain ⟨h1, h2⟩ := List.mem_filter.mp hp
    exact ⟨p.2, h1, h2, rfl⟩
  · rintro ⟨i, h1, h2, h3⟩
    exact ⟨(q.1, i), List.mem_filter.mpr ⟨h1, h2⟩, by rw [← h3]⟩
theorem mapC_len {f : Int → Int} {flt : Int → Bool} {ps : List (Str × Int)} : (mapC f flt ps).length ≤ ps.length := by
  unfold mapC
  rw [List.length_map]
  exact List.length_filter_le _ _
theorem ct_mapC {f : Int → Int} {flt : Int → Bool} {ps : List (Str × Int)} (nd : (ps.map (·.1)).Nodup) (h0 : flt 0 = true → f 0 = 0) (z : Str) : ct (mapC f flt ps) z = if flt (ct ps z) = true then f (ct ps z) else 0 := by
  by_cases hz : z ∈ ps.map (·.1)
  · obtain ⟨p, hp, rfl⟩ := List.mem_map.mp hz
    have hc := ct_mem nd hp
    by_cases hf : flt p.2 = true
    · rw [hc, if_pos hf]
      exact ct_mem (mapC_nd nd) (mapC_mem.mpr ⟨p.2, hp, hf, rfl⟩ : (p.1, f p.2) ∈ mapC f flt ps)
    · rw [hc, if_neg hf]
      refine ct_out fun hm => ?_
      obtain ⟨q, hq, e⟩ := List.mem_map.mp hm
      obtain ⟨i, h1, h2, h3⟩ := mapC_mem.mp hq
      have h4 := ct_mem nd h1
      have h4' : ct ps q.1 = i := h4
      rw [e, hc] at h4'
      rw [h4'] at hf
      exact hf h2
  · rw [ct_out hz]
    have : z ∉ (mapC f flt ps).map (·.1) := fun hm => by
      obtain ⟨q, hq, e⟩ := List.mem_map.mp hm
      obtain ⟨i, h1, _, _⟩ := mapC_mem.mp hq
      exact hz (List.mem_map.mpr ⟨_, h1, e⟩)
    rw [ct_out this]
    split
    · rename_i h
      rw [h0 h]
    · rfl
theorem mapC_ok {f : Int → Int} {flt : Int → Bool} {ps : List (Str × Int)} {H : Hp} {D : Addr} (can : Can ps) (e : H D = some (.dK (cD (mapC f flt ps)))) : Ok H D (mapC f flt ps) :=
  ⟨e, mapC_nd can.nd, Nat.le_trans mapC_len can.few, fun p hp => by
    obtain ⟨i, h1, _, _⟩ := mapC_mem.mp hp
    exact can.wd (p.1, i) h1⟩
theorem dc_counts {t D : Addr} {od : Obj} {ps : List (Str × Int)} {g : TG} {tt : TT} {tk tv : TE} {vs : List Nat} {σ : L2.St} {H : Hp} {Qd : Hp → Prop} (f : Int → Int) (flt : Int → Bool) (h2 : H t = some (.dK (cD ps))) (can : Can ps) (hD : upd H t (.frz od (.dK (cD ps))) D = none)
    (hturn : ∀ (T : Addr) (z : Str) (i : Int) (H3 : Hp) (R : V → V → Hp → Prop) (R' : Hp → Prop), H3 T = some (.tup [.str z, .int i]) → (z, i) ∈ ps → (flt i = true → R (.str z) (.int (f i)) H3) → (flt i = false → R' H3) →
      g (.ref T) (wipe σ vs) H3 fun σ2 H2 => wipe σ2 vs = wipe σ vs ∧ tt σ2 H2 fun b H3 => if b = true then tk σ2 H3 fun y H4 => tv σ2 H4 fun z H5 => R y z H5 else R' H3)
    (hq : ∀ H', Same H (upd H' t (.dK (cD ps))) → H D = none → H' t = some (.frz od (.dK (cD ps))) → upd H' t (.dK (cD ps)) D = some (.dK (cD (mapC f flt ps))) → Qd H') :
    ∃ W : Nat → Nat → Hp → Prop, (∃ m, W 0 m (upd (upd H t (.frz od (.dK (cD ps)))) D (.dK []))) ∧ ∀ i m H, W i m H →
      ((Iti t od (cD ps)).stop i H ∧ Qd H) ∨ ((Iti t od (cD ps)).go i H ∧ ∃ Nx : Hp → Prop, (∀ H', Nx H' → ∃ m', m' < m ∧ W (i + 1) m' H') ∧ ∀ x H', (Iti t od (cD ps)).yld i H x H' → g x (wipe σ vs) H' fun σ2 H2 => wipe σ2 vs = wipe σ vs ∧ tt σ2 H2 fun b H3 =>
        if b = true then tk σ2 H3 fun y H4 => tv σ2 H4 fun z H5 => ∃ kvs k, y = kV k ∧ H5 D = some (.dK kvs) ∧ kvs.length < sizeLine ∧ Nx (upd H5 D (.dK (putK kvs k z))) else Nx H3) := by
  have nDt : D ≠ t := fun e => by rw [e, upd_same] at hD; cases hD
  have hD0 : H D = none := by rw [upd_ne nDt] at hD; exact hD
  refine dc_it (H1 := upd H t (.frz od (.dK (cD ps)))) (walk_items (d := t) (o := od) (kvs := cD ps)) (fun i H' => H' D = some (.dK (cD (mapC f flt (ps.take i)))) ∧ H' t = some (.frz od (.dK (cD ps))) ∧ ∀ b o, H b = some o → b ≠ t → H' b = some o)
    ⟨upd_same, by rw [upd_ne nDt.symm, upd_same], fun b o eb nb => by rw [upd_ne (ne_of_none eb hD0), upd_ne nb]; exact eb⟩ (fun i H' _ h => h.2.1) ?_ ?_
  · rintro i v H2 H3 hi ⟨eD, et, keep⟩ ⟨T1, k1, v1, rfl, hT, rfl, ek, ev⟩
    rw [cD_len] at hi
    have hp : (cD ps)[i]? = some (Sum.inr ps[i].1, V.int ps[i].2) := by
      unfold cD
      rw [List.getElem?_map, List.getElem?_eq_getElem hi]
      rfl
    have ek : (cD ps)[i]?.map (fun kv : Key × V => kV kv.1) = some k1 := ek
    have ev : (cD ps)[i]?.map Prod.snd = some v1 := ev
    rw [hp] at ek ev
    cases ek
    cases ev
    have hmem : ps[i] ∈ ps := List.getElem_mem hi
    have nTD : T1 ≠ D := (ne_of_none eD hT).symm
    have nTt : T1 ≠ t := (ne_of_none et hT).symm
    have e1 : mapC f flt (ps.take (i + 1)) = mapC f flt (ps.take i) ++ (if flt ps[i].2 = true then [(ps[i].1, f ps[i].2)] else []) := by
      unfold mapC
      rw [List.take_add_one, List.getElem?_eq_getElem hi, List.filter_append, List.map_append]
      congr 1
      show (List.filter _ [ps[i]]).map _ = _
      rw [List.filter_cons]
      split <;> rfl
    have keep2 : ∀ b o, H b = some o → b ≠ t → (upd H2 T1 (.tup [kV (Sum.inr ps[i].1), .int ps[i].2])) b = some o := fun b o eb nb => by
      have e2 := keep b o eb nb
      rw [upd_ne (ne_of_none e2 hT)]
      exact e2
    refine hturn T1 ps[i].1 ps[i].2 _ _ _ upd_same hmem (fun c => ?_) (fun c => ?_)
    · refine ⟨_, Sum.inr ps[i].1, rfl, by rw [upd_ne nTD.symm]; exact eD, ?_, ?_, ?_, ?_⟩
      · rw [cD_len]
        refine Nat.lt_of_le_of_lt (Nat.le_trans mapC_len ?_) (Nat.lt_of_le_of_lt can.few (by decide : 1000 < sizeLine))
        rw [List.length_take]
        omega
      · rw [upd_same, cD_put, e1, if_pos c]
        rw [mapC_keys]
        intro hm
        have hm2 := (List.filter_sublist.map _).subset hm
        have nd2 := can.nd
        obtain ⟨q, hq, e⟩ := List.mem_map.mp hm2
        obtain ⟨j, hj, ej⟩ := List.mem_take_iff_getElem.mp hq
        have hji : j < i := by omega
        have hjl : j < ps.length := by omega
        have a1 : (ps.map (·.1))[j]'(by rw [List.length_map]; exact hjl) = (ps.map (·.1))[i]'(by rw [List.length_map]; exact hi) := by
          rw [List.getElem_map, List.getElem_map, ej]
          exact e
        have := (List.getElem_inj nd2).mp a1
        omega
      · rw [upd_ne nDt.symm, upd_ne nTt.symm]
        exact et
      · intro b o eb nb
        rw [upd_ne (ne_of_none eb hD0)]
        exact keep2 b o eb nb
    · refine ⟨?_, by rw [upd_ne nTt.symm]; exact et, keep2⟩
      rw [upd_ne nTD.symm, eD, e1, if_neg (by rw [c]; exact Bool.false_ne_true), List.append_nil]
  · rintro H2 ⟨eD, et, keep⟩
    rw [cD_len, List.take_of_length_le (Nat.le_refl _)] at eD
    refine hq H2 (fun b o eb => ?_) hD0 et (by rw [upd_ne nDt]; exact eD)
    by_cases e : b = t
    · rw [e, upd_same, ← h2, ← e, eb]
    · rw [upd_ne e]
      exact keep b o eb e
end Ld
namespace Ld
open PySem PySem.Spec PyProof.Rows L2
/-- a load made of the counts of another, each by itself -/
def spMapC (C : Addr) (f : Int → Int) (flt : Int → Bool) : Sp := fun vs H Q _ => ∃ (x : Addr) (ps : List (Str × Int)), vs = [.ref x] ∧ LoadAt C H x ps ∧
  ∀ (H' : Hp) (y : Addr) (ps' : List (Str × Int)), Same H H' → H y = none → LoadAt C H' y ps' → (∀ z, ct ps' z = if flt (ct ps z) = true then f (ct ps z) else 0) → Q (.ref y) H'
abbrev sPos : Stmt := inClass (top 14) 6
abbrev sNeg : Stmt := inClass (top 14) 7
abbrev sUneg : Stmt := inClass (top 14) 16
abbrev sMul : Stmt := inClass (top 14) 17
abbrev sRmul : Stmt := inClass (top 14) 18
abbrev nPos : List Str := ["self", "kind", "count"]
abbrev nMul : List Str := ["self", "other", "kind", "count"]
theorem neg0 : (-(0 : Int)) = 0 := by decide
section
variable {P : Program} {w : World} {K : PySem.W.Frag} {mg : Str → Option Value} {base : Heap} {C fi : Addr}
theorem scPos : FnScope nPos ["self"] (defScope sPos) := ⟨rfl, rfl, rfl, by decide +kernel, rfl, by decide +kernel, by decide +kernel⟩
theorem scNeg : FnScope nPos ["self"] (defScope sNeg) := ⟨rfl, rfl, rfl, by decide +kernel, rfl, by decide +kernel, by decide +kernel⟩
theorem scUneg : FnScope nPos ["self"] (defScope sUneg) := ⟨rfl, rfl, rfl, by decide +kernel, rfl, by decide +kernel, by decide +kernel⟩
theorem scMul : FnScope nMul ["self", "other"] (defScope sMul) := ⟨rfl, rfl, rfl, by decide +kernel, rfl, by decide +kernel, by decide +kernel⟩
theorem scRmul : FnScope ["self", "other"] ["self", "other"] (defScope sRmul) := ⟨rfl, rfl, rfl, by decide +kernel, rfl, by decide +kernel, by decide +kernel⟩
theorem ok_pos {f : Addr} {fd : FuncData} (F : Fun K "positive" "Load.positive" sPos f fd) (T : LoadC K mg C fi) (HO : HasC P w K mg base 5 C "of" (spOf C)) : FnOk P w K mg base CX0 6 f fd ["self"] (spMapC C (fun i => i) (fun i => decide (0 < i))) := by
  obtain ⟨mc, po, go, rO, cO, FO⟩ := HO
  refine F.ok scPos (fun vs H Q E h => ?_) (fun cdv A outer s H vs Q E hr h => ?_)
  · obtain ⟨x, ps, rfl, _⟩ := h
    rfl
  · obtain ⟨x, ps, rfl, ⟨dx, t, h1, h2, can⟩, q⟩ := h
    have nd : nPos.Nodup := scPos.nd
    refine ⟨_, pss_one (ps_ret (ClX.pe_cmeth (pe_glob (v := .ref C) (by rfl) T.gC rfl) rO cO FO hr pass0 (pa_cons (pe_lock (pe_dc (own := [("kind", 1), ("count", 2)]) (g := gTup K 2 (gCons (gName 1) (gCons (gName 2) gNil))) rfl nd (pi_items (pe_fld (pv 0) rfl)) (blkOk_by (N := nPos) (sc := defScope sPos) (by decide +kernel))
      (fun _ _ _ _ _ => pg_tup rfl (pgs_cons (pg_name (i := 1) nd rfl (Or.inl rfl)) (pgs_cons (pg_name (i := 2) nd rfl (Or.inl rfl)) pgs_nil))) (fun _ _ _ _ _ => (pts_one (pt_cmpR op_gt (pv 2) pe_int (nomark _))))
      (fun _ _ _ _ _ => pv 1) (fun _ _ _ _ _ => pv 2))) pa_nil))), ?_⟩
    have nxt : x ≠ t := ne_of h1 h2 (fun z => nomatch z)
    refine ⟨rfl, t, _, h2, trivial, fun od => ⟨_, rfl, x, C, dx, _, _, rfl, by rw [upd_ne nxt]; exact h1, T.c, T.nc, rfl, t, od, cD ps, rfl, upd_same, fun D hD => ?_⟩⟩
    refine dc_counts (fun i => i) (fun i => decide (0 < i)) h2 can hD (fun T1 z i H3 R R' e hm c1 c2 => ?_) fun H2 same hD0 et eD => ?_
    · refine ⟨T1, _, rfl, .inl (.inl e), rfl, _, _, rfl, _, _, rfl, rfl, rfl, _, rfl, _, _, rfl, rfl, _, rfl, ifd (fun c => ⟨_, rfl, _, rfl, c1 (decide_eq_true c)⟩) (fun c => c2 (decide_eq_false c))⟩
    · refine ⟨et, _, D, _, rfl, mapC_ok can eD, fun H' y ps' s2 hy hl hc => ?_⟩
      exact q H' y ps' (Same.trans same s2) (Same.none same hy) hl fun z => by rw [hc, ct_mapC can.nd (fun _ => rfl)]
theorem ok_neg {f : Addr} {fd : FuncData} (F : Fun K "negative" "Load.negative" sNeg f fd) (T : LoadC K mg C fi) (HO : HasC P w K mg base 5 C "of" (spOf C)) : FnOk P w K mg base CX0 6 f fd ["self"] (spMapC C (fun i => -i) (fun i => decide (i < 0))) := by
  obtain ⟨mc, po, go, rO, cO, FO⟩ := HO
  refine F.ok scNeg (fun vs H Q E h => ?_) (fun cdv A outer s H vs Q E hr h => ?_)
  · obtain ⟨x, ps, rfl, _⟩ := h
    rfl
  · obtain ⟨x, ps, rfl, ⟨dx, t, h1, h2, can⟩, q⟩ := h
    have nd : nPos.Nodup := scNeg.nd
    refine ⟨_, pss_one (ps_ret (ClX.pe_cmeth (pe_glob (v := .ref C) (by rfl) T.gC rfl) rO cO FO hr pass0 (pa_cons (pe_lock (pe_dc (own := [("kind", 1), ("count", 2)]) (g := gTup K 2 (gCons (gName 1) (gCons (gName 2) gNil))) rfl nd (pi_items (pe_fld (pv 0) rfl)) (blkOk_by (N := nPos) (sc := defScope sNeg) (by decide +kernel))
      (fun _ _ _ _ _ => pg_tup rfl (pgs_cons (pg_name (i := 1) nd rfl (Or.inl rfl)) (pgs_cons (pg_name (i := 2) nd rfl (Or.inl rfl)) pgs_nil))) (fun _ _ _ _ _ => (pts_one (pt_cmpR op_lt (pv 2) pe_int (nomark _))))
      (fun _ _ _ _ _ => pv 1) (fun _ _ _ _ _ => pe_un un_neg (pv 2)))) pa_nil))), ?_⟩
    have nxt : x ≠ t := ne_of h1 h2 (fun z => nomatch z)
    refine ⟨rfl, t, _, h2, trivial, fun od => ⟨_, rfl, x, C, dx, _, _, rfl, by rw [upd_ne nxt]; exact h1, T.c, T.nc, rfl, t, od, cD ps, rfl, upd_same, fun D hD => ?_⟩⟩
    refine dc_counts (fun i => -i) (fun i => decide (i < 0)) h2 can hD (fun T1 z i H3 R R' e hm c1 c2 => ?_) fun H2 same hD0 et eD => ?_
    · refine ⟨T1, _, rfl, .inl (.inl e), rfl, _, _, rfl, _, _, rfl, rfl, rfl, _, rfl, _, _, rfl, rfl, _, rfl, ifd (fun c => ⟨_, rfl, _, rfl, _, rfl, c1 (decide_eq_true c)⟩) (fun c => c2 (decide_eq_false c))⟩
    · refine ⟨et, _, D, _, rfl, mapC_ok can eD, fun H' y ps' s2 hy hl hc => ?_⟩
      exact q H' y ps' (Same.trans same s2) (Same.none same hy) hl fun z => by rw [hc, ct_mapC can.nd (fun _ => neg0)]
theorem ok_uneg {f : Addr} {fd : FuncData} (F : Fun K "__neg__" "Load.__neg__" sUneg f fd) (T : LoadC K mg C fi) (HO : HasC P w K mg base 5 C "of" (spOf C)) : FnOk P w K mg base CX0 6 f fd ["self"] (spMapC C (fun i => -i) (fun _ => true)) := by
  obtain ⟨mc, po, go, rO, cO, FO⟩ := HO
  refine F.ok scUneg (fun vs H Q E h => ?_) (fun cdv A outer s H vs Q E hr h => ?_)
  · obtain ⟨x, ps, rfl, _⟩ := h
    rfl
  · obtain ⟨x, ps, rfl, ⟨dx, t, h1, h2, can⟩, q⟩ := h
    have nd : nPos.Nodup := scUneg.nd
    refine ⟨_, pss_one (ps_ret (ClX.pe_cmeth (pe_glob (v := .ref C) (by rfl) T.gC rfl) rO cO FO hr pass0 (pa_cons (pe_lock (pe_dc (own := [("kind", 1), ("count", 2)]) (g := gTup K 2 (gCons (gName 1) (gCons (gName 2) gNil))) (tt := tYes) rfl nd (pi_items (pe_fld (pv 0) rfl)) (blkOk_by (N := nPos) (sc := defScope sUneg) (by decide +kernel))
      (fun _ _ _ _ _ => pg_tup rfl (pgs_cons (pg_name (i := 1) nd rfl (Or.inl rfl)) (pgs_cons (pg_name (i := 2) nd rfl (Or.inl rfl)) pgs_nil))) (fun _ _ _ _ _ => pts_nil)
      (fun _ _ _ _ _ => pv 1) (fun _ _ _ _ _ => pe_un un_neg (pv 2)))) pa_nil))), ?_⟩
    have nxt : x ≠ t := ne_of h1 h2 (fun z => nomatch z)
    refine ⟨rfl, t, _, h2, trivial, fun od => ⟨_, rfl, x, C, dx, _, _, rfl, by rw [upd_ne nxt]; exact h1, T.c, T.nc, rfl, t, od, cD ps, rfl, upd_same, fun D hD => ?_⟩⟩
    refine dc_counts (fun i => -i) (fun _ => true) h2 can hD (fun T1 z i H3 R R' e hm c1 c2 => ?_) fun H2 same hD0 et eD => ?_
    · exact ⟨T1, _, rfl, .inl (.inl e), rfl, _, _, rfl, _, _, rfl, rfl, rfl, ⟨_, rfl, _, rfl, _, rfl, c1 rfl⟩⟩
    · refine ⟨et, _, D, _, rfl, mapC_ok can eD, fun H' y ps' s2 hy hl hc => ?_⟩
      exact q H' y ps' (Same.trans same s2) (Same.none same hy) hl fun z => by rw [hc, ct_mapC can.nd (fun _ => neg0)]
end
end Ld
namespace Ld
open PySem PySem.Spec PyProof.Rows L2
/-- x * n -/
def spMul (C : Addr) : Sp := fun vs H Q _ => ∃ (x : Addr) (ps : List (Str × Int)) (n : Int), vs = [.ref x, .int n] ∧ LoadAt C H x ps ∧ (∀ p ∈ ps, p.2.natAbs < 2 ^ 400) ∧ n.natAbs < 2 ^ 400 ∧
  ∀ (H' : Hp) (y : Addr) (ps' : List (Str × Int)), Same H H' → H y = none → LoadAt C H' y ps' → (∀ z, ct ps' z = ct ps z * n) → Q (.ref y) H'
section
variable {P : Program} {w : World} {K : PySem.W.Frag} {mg : Str → Option Value} {base : Heap} {C fi : Addr}
theorem ok_mul {f : Addr} {fd : FuncData} (F : Fun K "__mul__" "Load.__mul__" sMul f fd) (T : LoadC K mg C fi) (HI : Has P w K mg base 1 "is_integer" ["value"] (spIsInt K)) (HO : HasC P w K mg base 5 C "of" (spOf C)) : FnOk P w K mg base CX0 6 f fd ["self", "other"] (spMul C) := by
  obtain ⟨g3, gd3, G3, b3, m3, k3⟩ := HI
  obtain ⟨mc, po, go, rO, cO, FO⟩ := HO
  refine F.ok scMul (fun vs H Q E h => ?_) (fun cdv A outer s H vs Q E hr h => ?_)
  · obtain ⟨x, ps, n, rfl, _⟩ := h
    rfl
  · obtain ⟨x, ps, n, rfl, hx, hb, hn, q⟩ := h
    have nd : nMul.Nodup := scMul.nd
    have hr1 : Room 1 _ := hr.mono (by decide)
    refine ⟨_, pss_cons (ps_if (pt_not (pt_truth (pe_call G3 hr1 (by rfl) m3 k3 b3 .nil pass0 (pa_cons (pv 1) pa_nil)) (fun _ => rfl))) (pss_one ps_never) pss_nil)
      (pss_one (ps_ret (ClX.pe_cmeth (pe_glob (v := .ref C) (by rfl) T.gC rfl) rO cO FO hr pass0 (pa_cons (pe_lock (pe_dc (own := [("kind", 2), ("count", 3)]) (g := gTup K 2 (gCons (gName 2) (gCons (gName 3) gNil))) (tt := tYes) rfl nd (pi_items (pe_fld (pv 0) rfl)) (blkOk_by (N := nMul) (sc := defScope sMul) (by decide +kernel))
      (fun _ _ _ _ _ => pg_tup rfl (pgs_cons (pg_name (i := 2) nd rfl (Or.inl rfl)) (pgs_cons (pg_name (i := 3) nd rfl (Or.inl rfl)) pgs_nil))) (fun _ _ _ _ _ => pts_nil)
      (fun _ _ _ _ _ => pv 2) (fun _ _ _ _ _ => pe_op op_mulW (pv 3) (pv 1)))) pa_nil)))), ?_⟩
    refine ⟨_, rfl, .int n, .type "int", true, false, rfl, .base (.int _), kit_ty (by decide +kernel), kit_ty (by decide +kernel), true, rfl, ?_⟩
    obtain ⟨dx, t, h1, h2, can⟩ := hx
    have nxt : x ≠ t := ne_of h1 h2 (fun z => nomatch z)
    refine ⟨rfl, t, _, h2, trivial, fun od => ⟨_, rfl, x, C, dx, _, _, rfl, by rw [upd_ne nxt]; exact h1, T.c, T.nc, rfl, t, od, cD ps, rfl, upd_same, fun D hD => ?_⟩⟩
    refine dc_counts (fun i => i * n) (fun _ => true) h2 can hD (fun T1 z i H3 R R' e hm c1 c2 => ?_) fun H2 same hD0 et eD => ?_
    · exact ⟨T1, _, rfl, .inl (.inl e), rfl, _, _, rfl, _, _, rfl, rfl, rfl, ⟨_, rfl, _, rfl, _, rfl, _, _, rfl, rfl, (wide_mul (hb _ hm) hn (by decide) (by decide) (by decide) : CMulW i n), c1 rfl⟩⟩
    · refine ⟨et, _, D, _, rfl, mapC_ok can eD, fun H' y ps' s2 hy hl hc => ?_⟩
      exact q H' y ps' (Same.trans same s2) (Same.none same hy) hl fun z => by rw [hc, ct_mapC can.nd (fun _ => Int.zero_mul n)]; exact if_pos rfl
/-- n * x -/
theorem ok_rmul {f : Addr} {fd : FuncData} {fm : Addr} (F : Fun K "__rmul__" "Load.__rmul__" sRmul f fd) (T : LoadC K mg C fi) (HI : Has P w K mg base 1 "is_integer" ["value"] (spIsInt K)) (M : MulC K C fm f) (FM : FnR P w K mg base CX0 6 fm (spMul C)) (hsub : PySem.W.subIn K (.type "int") (.ref C) = some false) :
    FnOk P w K mg base CX0 7 f fd ["self", "other"] (spMul C) := by
  obtain ⟨g3, gd3, G3, b3, m3, k3⟩ := HI
  refine F.ok scRmul (fun vs H Q E h => ?_) (fun cdv A outer s H vs Q E hr h => ?_)
  · obtain ⟨x, ps, n, rfl, _⟩ := h
    rfl
  · obtain ⟨x, ps, n, rfl, hx, hb, hn, q⟩ := h
    have hr1 : Room 1 _ := hr.mono (by decide)
    refine ⟨_, pss_cons (ps_if (pt_not (pt_truth (pe_call G3 hr1 (by rfl) m3 k3 b3 .nil pass0 (pa_cons (pv 1) pa_nil)) (fun _ => rfl))) (pss_one ps_never) pss_nil)
      (pss_one (ps_ret (pe_op (op_mulI M FM hr pass0 hsub) (pv 0) (pv 1)))), ?_⟩
    refine ⟨_, rfl, .int n, .type "int", true, false, rfl, .base (.int _), kit_ty (by decide +kernel), kit_ty (by decide +kernel), true, rfl, ?_⟩
    have hx' := hx
    obtain ⟨dx, t, h1, h2, can⟩ := hx
    exact ⟨_, rfl, _, rfl, x, dx, _, n, rfl, rfl, h1, x, ps, n, rfl, hx', hb, hn, q⟩
end
end Ld
namespace Ld
open PySem PySem.Spec PyProof.Rows L2
/-! ### def f(a=None, *v) -/
section
variable {CX : CXT} {P : Program} {w : World} {K : PySem.W.Frag} {mg : Str → Option Value} {base : Heap} {k : Nat} {f T : Addr} {name qual : Str} {params : Arguments} {body : List Stmt} {scope : Scope} {kV doc pm cdv ct oc d0 : Value} {an od : Option Addr}
  {osl : Array (Option Value)} {N : List Str} {sp : Sp} {oT : Obj} {n : Nat} {dv : V}
theorem fn_optstar {p1 pv : Str} (lk : K.lookup f = some ⟨oc, od, .func (PySem.W.fnOf name qual params body scope (.ref T) kV doc pm an cdv ct), osl⟩) (hcd : PySem.W.codeIn K cdv qual = true) (S : FnScope N [p1, pv] scope) (hCX : StX.CXUp CX)
    (lT : K.lookup T = some oT) (dT : oT.data = .seq #[d0] n) (rT : RelV dv d0)
    (hb : ∀ us : List Value, ∃ k, bindArgs (PySem.W.fnOf name qual params body scope (.ref T) kV doc pm an cdv ct) ⟨us, []⟩ = seqItems? (.ref T) >>= k ∧ k (some #[d0]) = (newTuple (us.drop 1) >>= fun t => pure [(p1, us.headD d0), (pv, t)]))
    (hbody : ∀ (A : Around) (outer : List Env) (s : Shared) (H : Hp) (vs : List V) (Q : VK) (E : XK), Room k (A.deeper (envOfC qual scope s.heap.objs.size f cdv)) → sp vs H Q E →
      ∃ t, PSs (cxOf CX P w K mg base N qual scope f cdv A outer s H E) body t ∧ t { nx := fun _ H' => Q .non H', rt := Q } (L2.start N vs) H) :
    FnR P w K mg base CX (k + 1) f (fun vs H Q E => vs.length ≤ sizeLine ∧ ∀ p, H p = Option.none → sp [vs.headD dv, V.ref p] (upd H p (.tup (vs.drop 1))) Q E) := by
  intro A outer s H us vs Q E hr e0 r hsp
  obtain ⟨hz, hq⟩ := hsp
  have hn : H s.heap.objs.size = Option.none := e0.hok.fresh (Nat.le_refl _)
  have KX : K.In s.heap := e0.mod.kin.keeps fun b o e => (e0.bs b o e).1
  have r1 : RelV (vs.headD dv) (us.headD d0) := by
    cases r with
    | nil => exact rT
    | cons a _ => exact a
  have r2 : Vals (vs.drop 1) (us.drop 1) := r.drop 1
  have hl2 : (us.drop 1).length ≤ sizeLine := by
    rw [List.length_drop, ← r.length]
    omega
  have hl3 : (vs.drop 1).length ≤ sizeLine := by
    rw [List.length_drop]
    omega
  refine StX.run_bnd lk hcd S hr e0 (G := fun xs H2 => ∃ p, H p = Option.none ∧ xs = [vs.headD dv, V.ref p] ∧ H2 = upd H p (.tup (vs.drop 1))) (fun A' Ex Q' h => ?_) fun s2 H2 xs ⟨p, hp, ex, eH⟩ hr' => ?_
  · obtain ⟨kk, e1, e2⟩ := hb us
    rw [e1]
    refine wpAny_bind (wpAny_seqItems (KX _ _ lT) dT ?_)
    rw [e2]
    refine wpAny_bind (wpAny_newTuple (wpAny_pure ?_) hl2)
    have new : ObjOk P w (upd H s.heap.objs.size (.tup (vs.drop 1))) (s.heap.push ({ cls := .type "tuple", data := .seq (us.drop 1).toArray } : Obj)) s.heap.objs.size (.tup (vs.drop 1)) := ⟨hl3, us.drop 1, r2, ⟨_, Heap.get?_push_size _ rfl, rfl, _, rfl⟩⟩
    have un := StX.un_laid (fs := frs outer) (s := s) (o := ({ cls := .type "tuple", data := .seq (us.drop 1).toArray } : Obj)) (u := .tup (vs.drop 1)) hn
    exact h _ _ [vs.headD dv, V.ref s.heap.objs.size] [us.headD d0, Value.ref s.heap.objs.size] (StX.env0_laid e0 new) un rfl (fun e s' => hCX outer s H _ _ E e s' un (fun b o q => Heap.get?_push_of_some _ q) rfl) (.cons r1 (.cons rfl .nil)) rfl ⟨_, hn, rfl, rfl⟩
  · subst ex eH
    exact hbody A outer s2 _ _ Q E hr' (hq p hp)
end
/-! ### a staticmethod of a class -/
structure SMet (K : PySem.W.Frag) (C : Addr) (mc : Value) (m : Str) (p g : Addr) : Prop where
  at_ : PySem.W.findCls K (.ref C) mc m = some (.get (.builtin "staticmethod.__get__") (.ref p) .none (.ref C))
  rc : ∃ rest, PySem.W.recIn K p "staticmethod" = some (.ref g :: rest)
  kp : PySem.W.keepIn K (.ref g) = true
section
variable {X : Cx} {pins : List (Addr × Obj)} {σ : L2.St} {H : Hp} {s : Shared} {CX : CXT} {k : Nat} {C p g : Addr} {mc : Value} {sp : Sp} {E : XK} {o e : Expr} {es : List Expr} {m : Str} {pos apos : Pos} {ta : TE} {t : TA} {pl : Sem Bool} {A : Around} {Ex : Value → Shared → Prop}
theorem getmethsm_ok {Q : Value × List Value → Shared → Prop} (I : Inv X pins σ H s) (r : ClX.CRead X.K C mc) (c : SMet X.K C mc m p g) (h : ∀ s', Inv X pins σ H s' → Q (.ref g, []) s') : wpAny (model X.prog X.w) A (getMethod (.ref C) m pl) Q Ex s := by
  obtain ⟨rest, hp⟩ := c.rc
  refine PySem.W.method_cls I.kIn r.ga ?_
  refine PySem.W.cls_bind I.kIn r.rd c.at_ ?_
  refine wpAny_call (PySem.W.sm_get (s := { s with toks := s.toks + 1 }) I.kIn hp (PySem.W.handed_on rfl ?_))
  exact h _ (I.tok _)
/-- e.m(..), e the class at C, m a staticmethod -/
def tSMeth (C : Addr) (sp : Sp) (E : XK) (ta : TE) (t : TA) : TE := fun σ H Q => ta σ H fun x H1 => x = .ref C ∧ t σ H1 fun vs H2 => sp vs H2 Q E
theorem pe_smeth (he : PE X o ta) (r : ClX.CRead X.K C mc) (c : SMet X.K C mc m p g) (F : FnR X.prog X.w X.K X.mg X.base CX k g sp) (hr : Room k X.A) (hx : Passes CX X E) (ha : PA X (e :: es) t)
    (hst : starEach (e :: es) X.env = (false, eval e X.env) :: starEach es X.env := by rfl) (hpl : (backTo pos (starEach es X.env)).any (·.1) = false := by rfl)
    (ht : eval (.Call (.Attribute o m apos) (e :: es) [] pos) X.env = (do
      let ov ← eval o X.env
      standAt apos.atName
      let (f, first) ← holding [ov] (getMethod ov m pl)
      callWith pos f first (backTo pos (starEach (e :: es) X.env)) (backToKw pos (keywordEach [] X.env))) := by rfl) :
    PE X (.Call (.Attribute o m apos) (e :: es) [] pos) (tSMeth C sp E ta t) := by
  refine ⟨fun pins s σ H Q I h => ?_⟩
  refine PySem.W.methodCall_KW (pl := pl) (thn (he.run pins s σ H _ I h) fun u s1 ⟨x, H1, I1, rx, ex, q⟩ => ?_) ht
  subst ex
  obtain rfl : u = Value.ref C := rx
  refine getmethsm_ok I1 r c fun s2 I2 => ?_
  refine PySem.W.callWith_K (first := []) (h₀ := X.base) I.ok.mod.kin c.kp (thn (ha.run pos pins s2 σ H1 _ I2 q) fun us s3 ⟨vs, H2, I3, rv, q2⟩ => ⟨I3.kIn, ?_⟩) hst hpl
  exact wpAny_call (run_fnR (us := us) (vs := vs) F hr hx I3 rv q2)
/-- e.m() -/
theorem pe_smeth0 (he : PE X o ta) (r : ClX.CRead X.K C mc) (c : SMet X.K C mc m p g) (F : FnR X.prog X.w X.K X.mg X.base CX k g sp) (hr : Room k X.A) (hx : Passes CX X E)
    (ht : eval (.Call (.Attribute o m apos) [] [] pos) X.env = (do
      let ov ← eval o X.env
      standAt apos.atName
      let (f, first) ← holding [ov] (getMethod ov m pl)
      callWith pos f first [] (backToKw pos (keywordEach [] X.env))) := by rfl) :
    PE X (.Call (.Attribute o m apos) [] [] pos) (tSMeth C sp E ta tNil) := by
  refine ⟨fun pins s σ H Q I h => ?_⟩
  refine PySem.W.methodCall_KW (pl := pl) (thn (he.run pins s σ H _ I h) fun u s1 ⟨x, H1, I1, rx, ex, q⟩ => ?_) ht
  subst ex
  obtain rfl : u = Value.ref C := rx
  refine getmethsm_ok I1 r c fun s2 I2 => ?_
  exact PySem.W.callWith_K0 I2.kIn c.kp (wpAny_call (run_fnR (us := []) (vs := []) F hr hx I2 .nil q))
end
end Ld
namespace Ld
open PySem PySem.Spec PyProof.Rows L2
/-! ### sums of counts -/
def addC (acc ps : List (Str × Int)) : List (Str × Int) := ps.foldl (fun a q => putI a q.1 (ct a q.1 + q.2)) acc
theorem addC_snoc {acc ps : List (Str × Int)} {q : Str × Int} : addC acc (ps ++ [q]) = putI (addC acc ps) q.1 (ct (addC acc ps) q.1 + q.2) := by
  unfold addC
  rw [List.foldl_append]
  rfl
theorem addC_nd : ∀ {ps acc : List (Str × Int)}, (acc.map (·.1)).Nodup → ((addC acc ps).map (·.1)).Nodup
  | [], _, h => h
  | q :: r, _, h => addC_nd (ps := r) (putI_nd h)
theorem addC_keys : ∀ {ps acc : List (Str × Int)} {z : Str}, z ∈ (addC acc ps).map (·.1) → z ∈ acc.map (·.1) ∨ z ∈ ps.map (·.1)
  | [], _, _, h => .inl h
  | q :: r, acc, z, h => by
    rcases addC_keys (ps := r) h with h | h
    · rcases putI_keys h with h | h
      · exact .inr (by rw [h]; exact List.mem_cons_self)
      · exact .inl h
    · exact .inr (List.mem_cons_of_mem _ h)
theorem addC_len : ∀ {ps acc : List (Str × Int)}, (addC acc ps).length ≤ acc.length + ps.length
  | [], _ => Nat.le_refl _
  | q :: r, acc => by
    have h1 := addC_len (ps := r) (acc := putI acc q.1 (ct acc q.1 + q.2))
    have h2 := putI_len (ps := acc) (z := q.1) (i := ct acc q.1 + q.2)
    show (addC (putI acc q.1 (ct acc q.1 + q.2)) r).length ≤ _
    rw [List.length_cons]
    omega
theorem ct_cons {q : Str × Int} {r : List (Str × Int)} {z : Str} : ct (q :: r) z = if q.1 = z then q.2 else ct r z := by
  unfold ct ctO
  rw [List.find?_cons]
  by_cases h : q.1 = z
  · rw [decide_eq_true h, if_pos h]
    rfl
  · rw [decide_eq_false h, if_neg h]
theorem ct_addC : ∀ {ps acc : List (Str × Int)}, (ps.map (·.1)).Nodup → ∀ z, ct (addC acc ps) z = ct acc z + ct ps z
  | [], acc, _, z => by
    show ct acc z = _
    rw [ct_out (ps := []) (by simp), Int.add_zero]
  | q :: r, acc, nd, z => by
    have nd' := List.nodup_cons.mp nd
    show ct (addC (putI acc q.1 (ct acc q.1 + q.2)) r) z = _
    rw [ct_addC (ps := r) nd'.2, ct_putI, ct_cons]
    by_cases h : z = q.1
    · rw [if_pos h, if_pos h.symm, h, ct_out nd'.1]
      omega
    · rw [if_neg h, if_neg (fun e => h e.symm)]
def sumC (Ls : List (Addr × List (Str × Int))) (z : Str) : Int := (Ls.map fun l => ct l.2 z).sum
def totC (Ls : List (Addr × List (Str × Int))) : List (Str × Int) := Ls.foldl (fun a l => addC a l.2) []
theorem totC_snoc {Ls : List (Addr × List (Str × Int))} {l : Addr × List (Str × Int)} : totC (Ls ++ [l]) = addC (totC Ls) l.2 := by
  unfold totC
  rw [List.foldl_append]
  rfl
theorem totC_all {Ls : List (Addr × List (Str × Int))} (h : ∀ l ∈ Ls, (l.2.map (·.1)).Nodup ∧ l.2.length ≤ 100 ∧ ∀ p ∈ l.2, wordB p.1 = true) :
    ((totC Ls).map (·.1)).Nodup ∧ (totC Ls).length ≤ 100 * Ls.length ∧ (∀ p ∈ totC Ls, wordB p.1 = true) ∧ ∀ z, ct (totC Ls) z = sumC Ls z := by
  suffices key : ∀ (Ls : List (Addr × List (Str × Int))) (acc : List (Str × Int)), (∀ l ∈ Ls, (l.2.map (·.1)).Nodup ∧ l.2.length ≤ 100 ∧ ∀ p ∈ l.2, wordB p.1 = true) → (acc.map (·.1)).Nodup → (∀ p ∈ acc, wordB p.1 = true) →
      ((Ls.foldl (fun a l => addC a l.2) acc).map (·.1)).Nodup ∧ (Ls.foldl (fun a l => addC a l.2) acc).length ≤ acc.length + 100 * Ls.length ∧ (∀ p ∈ Ls.foldl (fun a l => addC a l.2) acc, wordB p.1 = true) ∧ ∀ z, ct (Ls.foldl (fun a l => addC a l.2) acc) z = ct acc z + sumC Ls z by
    obtain ⟨k1, k2, k3, k4⟩ := key Ls [] h List.nodup_nil (fun _ h => nomatch h)
    refine ⟨k1, by rw [List.length_nil, Nat.zero_add] at k2; exact k2, k3, fun z => ?_⟩
    have := k4 z
    rw [ct_out (ps := []) (by simp), Int.zero_add] at this
    exact this
  intro Ls
  induction Ls with
  | nil =>
    intro acc _ nd wd
    refine ⟨nd, Nat.le_refl _, wd, fun z => ?_⟩
    show ct acc z = ct acc z + 0
    omega
  | cons l r ih =>
    intro acc h nd wd
    obtain ⟨h1, h2, h3⟩ := h l List.mem_cons_self
    obtain ⟨k1, k2, k3, k4⟩ := ih (addC acc l.2) (fun m hm => h m (List.mem_cons_of_mem _ hm)) (addC_nd nd) (fun p hp => by
      rcases addC_keys (List.mem_map.mpr ⟨p, hp, rfl⟩ : p.1 ∈ (addC acc l.2).map (·.1)) with e | e
      · obtain ⟨q, hq, e⟩ := List.mem_map.mp e
        rw [← e]
        exact wd q hq
      · obtain ⟨q, hq, e⟩ := List.mem_map.mp e
        rw [← e]
        exact h3 q hq)
    refine ⟨k1, ?_, k3, fun z => ?_⟩
    · have := addC_len (ps := l.2) (acc := acc)
      rw [List.length_cons]
      show (r.foldl (fun a l => addC a l.2) (addC acc l.2)).length ≤ _
      omega
    · have := k4 z
      rw [ct_addC h1] at this
      show ct (r.foldl (fun a l => addC a l.2) (addC acc l.2)) z = ct acc z + (ct l.2 z + sumC r z)
      omega
abbrev sTotal : Stmt := inClass (top 14) 3
abbrev nTotal : List Str := ["first", "loads", "counts", "given", "load", "kind", "count"]
def refsOf (Ls : List (Addr × List (Str × Int))) : List V := Ls.map fun l => V.ref l.1
/-- Load.total(..) -/
def spTotal (C : Addr) : Sp := fun vs H Q _ => ∃ Ls : List (Addr × List (Str × Int)), vs = refsOf Ls ∧ (∀ l ∈ Ls, LoadAt C H l.1 l.2 ∧ l.2.length ≤ 100) ∧ Ls.length ≤ 10 ∧
  ∀ (H' : Hp) (x : Addr) (ps : List (Str × Int)), Same H H' → H x = none → LoadAt C H' x ps → (∀ z, ct ps z = sumC Ls z) → Q (.ref x) H'
def spTotalB (C : Addr) : Sp := fun vs H Q _ => ∃ (Ls : List (Addr × List (Str × Int))) (p : Addr), vs = [(refsOf Ls).headD .non, .ref p] ∧ H p = some (.tup ((refsOf Ls).drop 1)) ∧ (∀ l ∈ Ls, LoadAt C H l.1 l.2 ∧ l.2.length ≤ 100) ∧ Ls.length ≤ 10 ∧
  ∀ (H' : Hp) (x : Addr) (ps : List (Str × Int)), Same H H' → H x = none → LoadAt C H' x ps → (∀ z, ct ps z = sumC Ls z) → Q (.ref x) H'
section
variable {P : Program} {w : World} {K : PySem.W.Frag} {mg : Str → Option Value} {base : Heap} {C fi : Addr}
theorem scTotal : FnScope nTotal ["first", "loads"] (defScope sTotal) := ⟨rfl, rfl, rfl, by decide +kernel, rfl, by decide +kernel, by decide +kernel⟩
theorem total_body {f : Addr} {cdv : Value} {A : Around} {outer : List Env} {s : Shared} {H : Hp} {vs : List V} {Q : VK} {E : XK} (T : LoadC K mg C fi) (HO : HasC P w K mg base 5 C "of" (spOf C))
    (hr : Room 5 (A.deeper (envOfC "Load.total" (defScope sTotal) s.heap.objs.size f cdv))) (h : spTotalB C vs H Q E) :
    ∃ t, PSs (cxOf CX0 P w K mg base nTotal "Load.total" (defScope sTotal) f cdv A outer s H E).nox (defBody sTotal) t ∧ t { nx := fun _ H' => Q .non H', rt := Q } (L2.start nTotal vs) H := by
  obtain ⟨mc, po, go, rO, cO, FO⟩ := HO
  obtain ⟨Ls, p, rfl, hp, hLs, hl10, q⟩ := h
  have nd : nTotal.Nodup := scTotal.nd
  have hu := hu_of hr
  refine ⟨_, pss_cons (ps_set (i := 2) nd rfl (Or.inl rfl) pe_dnewK)
    (pss_cons (ps_set (i := 3) nd rfl (Or.inl rfl) (pe_ifExp (pt_cmpR op_isN (pv 0) pe_non (nomark _)) (pe_lst pa_nil) (pe_lst (pa_cons (pv 0) (StX.pa_star (pv 1) pa_nil)))))
    (pss_cons (ps_for PassesOwn.never rfl (pi_list (pv 3)) (pg_name (i := 4) nd rfl (Or.inl rfl))
      (pss_one (ps_lock (ps_for PassesOwn.never rfl (pi_items (pe_fld (pv 4) rfl)) (pg_tup rfl (pgs_cons (pg_name (i := 5) nd rfl (Or.inl rfl)) (pgs_cons (pg_name (i := 6) nd rfl (Or.inl rfl)) pgs_nil)))
        (pss_one (ps_dput hu (pv 2) (pv 5) (pe_op op_add (pe_dget2 hu (pv 2) (pv 5) pe_int ⟨by rfl, by rfl, by rfl, by rfl⟩) (pv 6)) rfl))))))
    (pss_one (ps_ret (ClX.pe_cmeth (pe_glob (v := .ref C) (by rfl) T.gC rfl) rO cO FO hr pass0 (pa_cons (pv 2) pa_nil)))))), ?_⟩
  refine seq_step (fun σ' H' => ∃ c, σ' = [some ((refsOf Ls).headD .non), some (.ref p), some (.ref c), none, none, none, none] ∧ H c = none ∧ H' = upd H c (.dK [])) (fun R hR => ?_) (fun σ0 H0 h0 => ?_)
  · exact fun c hc => hR _ _ ⟨c, rfl, hc, rfl⟩
  obtain ⟨c, rfl, hc, rfl⟩ := h0
  have sc := same_new (o := .dK []) hc
  -- given
  refine seq_step (fun σ' H' => ∃ g, σ' = [some ((refsOf Ls).headD .non), some (.ref p), some (.ref c), some (.ref g), none, none, none] ∧ Same H H' ∧ H' c = some (.dK (cD [])) ∧ H' g = some (.lst (refsOf Ls))) (fun R hR => ?_) (fun σ1 H1 h1 => ?_)
  · cases Ls with
    | nil =>
      refine ⟨_, rfl, rfl, _, rfl, ?_⟩
      refine iteT ⟨Nat.zero_le _, fun g hg => hR _ _ ⟨g, rfl, fun b o e => ?_, ?_, upd_same⟩⟩
      · have := sc _ _ e
        rw [upd_ne (ne_of_none this hg)]
        exact this
      · rw [upd_ne (ne_of_none upd_same hg), upd_same]
        rfl
    | cons l r =>
      refine ⟨_, rfl, rfl, _, rfl, ?_⟩
      refine iteF ⟨_, rfl, _, rfl, p, _, rfl, .inl (.inl (.inl (sc _ _ hp))), ?_, fun g hg => hR _ _ ⟨g, rfl, fun b o e => ?_, ?_, ?_⟩⟩
      · have e : (refsOf (l :: r)).length ≤ 10 := by
          unfold refsOf
          rw [List.length_map]
          exact hl10
        exact Nat.le_trans (by simpa [refsOf] using e) (by decide : 10 ≤ sizeLine)
      · have := sc _ _ e
        rw [upd_ne (ne_of_none this hg)]
        exact this
      · rw [upd_ne (ne_of_none upd_same hg), upd_same]
        rfl
      · rw [upd_same, List.append_nil]
        rfl
  obtain ⟨g, rfl, same1, hc1, hg1⟩ := h1
  have hcg : c ≠ g := ne_of hc1 hg1 fun z => nomatch z
  -- the loops
  refine seq_step (fun σ' H' => (∃ x4 x5 x6, σ' = [some ((refsOf Ls).headD .non), some (.ref p), some (.ref c), some (.ref g), x4, x5, x6]) ∧ Same H H' ∧ H' c = some (.dK (cD (totC Ls)))) (fun R hR => ?_) (fun σ2 H2 h2 => ?_)
  · refine ⟨_, rfl, g, rfl, ⟨_, .inl (.inl hg1)⟩, for_list (xs := refsOf Ls) (fun i σ' H' => (∃ x4 x5 x6, σ' = [some ((refsOf Ls).headD .non), some (.ref p), some (.ref c), some (.ref g), x4, x5, x6]) ∧ Same H H' ∧ H' c = some (.dK (cD (totC (Ls.take i)))) ∧ H' g = some (.lst (refsOf Ls)))
      ⟨⟨_, _, _, rfl⟩, same1, hc1, hg1⟩ (fun i σ' H' _ h => .inl (.inl h.2.2.2)) ?_ ?_⟩
    · rintro i x σ' H2 hx ⟨⟨x4, x5, x6, rfl⟩, same2, hc2, hg2⟩
      unfold refsOf at hx
      rw [List.getElem?_map] at hx
      obtain ⟨l, hl, rfl⟩ : ∃ l, Ls[i]? = some l ∧ x = V.ref l.1 := by
        cases e : Ls[i]? with
        | none => rw [e] at hx; cases hx
        | some l => rw [e] at hx; exact ⟨l, rfl, (Option.some.inj hx).symm⟩
      obtain ⟨hat, hlen⟩ := hLs l (List.mem_of_getElem? hl)
      obtain ⟨dx, t, h1, h2, can⟩ := hat
      have h1' := same2 _ _ h1
      have h2' := same2 _ _ h2
      have nxt : l.1 ≠ t := ne_of h1' h2' (fun z => nomatch z)
      have nct : c ≠ t := (ne_of_none h2 hc).symm
      have ngt : g ≠ t := ne_of hg2 h2' (fun z => nomatch z)
      have nxc : l.1 ≠ c := ne_of_none h1 hc
      have sub : ∀ m ∈ Ls.take i, (m.2.map (·.1)).Nodup ∧ m.2.length ≤ 100 ∧ ∀ p ∈ m.2, wordB p.1 = true := fun m hm => by
        obtain ⟨⟨_, _, _, _, cm⟩, lm⟩ := hLs m (List.mem_of_mem_take hm)
        exact ⟨cm.nd, lm, cm.wd⟩
      have base := totC_all sub
      have hti : (Ls.take i).length ≤ 10 := by
        rw [List.length_take]
        omega
      refine ⟨t, _, h2', trivial, fun od => ⟨_, rfl, l.1, C, dx, _, _, rfl, by rw [upd_ne nxt]; exact h1', T.c, T.nc, rfl, t, od, cD l.2, rfl, upd_same, ?_⟩⟩
      refine for_it (walk_items (d := t) (o := od) (kvs := cD l.2)) (fun j σ' H' => (∃ x5 x6, σ' = [some ((refsOf Ls).headD .non), some (.ref p), some (.ref c), some (.ref g), some (.ref l.1), x5, x6]) ∧ H' t = some (.frz od (.dK (cD l.2))) ∧ H' c = some (.dK (cD (addC (totC (Ls.take i)) (l.2.take j)))) ∧ H' g = some (.lst (refsOf Ls)) ∧ ∀ b o, H b = some o → b ≠ t → H' b = some o)
        ⟨⟨_, _, rfl⟩, upd_same, by rw [upd_ne nct]; exact hc2, by rw [upd_ne ngt]; exact hg2, fun b o e nb => by rw [upd_ne nb]; exact same2 _ _ e⟩ (fun j σ' H' _ h => h.2.1) ?_ ?_
      · rintro j v σ' H3 H4 hj ⟨⟨x5, x6, rfl⟩, et, ec, eg, keep⟩ ⟨T1, k1, v1, rfl, hT, rfl, ek, ev⟩
        rw [cD_len] at hj
        have hpj : (cD l.2)[j]? = some (Sum.inr l.2[j].1, V.int l.2[j].2) := by
          unfold cD
          rw [List.getElem?_map, List.getElem?_eq_getElem hj]
          rfl
        have ek : (cD l.2)[j]?.map (fun kv : Key × V => kV kv.1) = some k1 := ek
        have ev : (cD l.2)[j]?.map Prod.snd = some v1 := ev
        rw [hpj] at ek ev
        cases ek
        cases ev
        have nTc : T1 ≠ c := (ne_of_none ec hT).symm
        have nTt : T1 ≠ t := (ne_of_none et hT).symm
        have nTg : T1 ≠ g := (ne_of_none eg hT).symm
        have ec' : (upd H3 T1 (.tup [kV (Sum.inr l.2[j].1), .int l.2[j].2])) c = some (.dK (cD (addC (totC (Ls.take i)) (l.2.take j)))) := by
          rw [upd_ne nTc.symm]
          exact ec
        have few : (addC (totC (Ls.take i)) (l.2.take j)).length ≤ 1000 + 100 := by
          refine Nat.le_trans addC_len ?_
          have := base.2.1
          rw [List.length_take]
          omega
        have dput : DPut (upd H3 T1 (.tup [kV (Sum.inr l.2[j].1), .int l.2[j].2])) c (.str l.2[j].1) (.int (ct (addC (totC (Ls.take i)) (l.2.take j)) l.2[j].1 + l.2[j].2)) (upd (upd H3 T1 (.tup [kV (Sum.inr l.2[j].1), .int l.2[j].2])) c (.dK (cD (putI (addC (totC (Ls.take i)) (l.2.take j)) l.2[j].1 (ct (addC (totC (Ls.take i)) (l.2.take j)) l.2[j].1 + l.2[j].2))))) := by
          have q := DPut.k (k := (Sum.inr l.2[j].1 : Key)) (v := .int (ct (addC (totC (Ls.take i)) (l.2.take j)) l.2[j].1 + l.2[j].2)) ec' (by rw [cD_len]; exact Nat.lt_of_le_of_lt few (by decide))
          rw [putI_cD] at q
          exact q
        refine ⟨T1, _, rfl, .inl (.inl upd_same), rfl, _, _, rfl, _, _, rfl, rfl, _, rfl, c, rfl, .inl ⟨_, .inl ec'⟩, _, rfl, _, dget_ct ec', _, rfl, _, _, getD_ct, rfl, _, rfl, _, rfl, _, _, rfl, dput, ⟨_, _, rfl⟩, ?_, ?_, ?_, ?_⟩
        · rw [upd_ne nct.symm, upd_ne nTt.symm]
          exact et
        · rw [upd_same, List.take_add_one, List.getElem?_eq_getElem hj]
          show _ = some (HO.dK (cD (addC _ (l.2.take j ++ [l.2[j]]))))
          rw [addC_snoc]
        · rw [upd_ne hcg.symm, upd_ne nTg.symm]
          exact eg
        · intro b o eb nb
          have e2 := keep b o eb nb
          rw [upd_ne (ne_of_none eb hc), upd_ne (ne_of_none e2 hT)]
          exact e2
      · rintro σ' H3 ⟨⟨x5, x6, rfl⟩, et, ec, eg, keep⟩
        rw [cD_len, List.take_of_length_le (Nat.le_refl _)] at ec
        refine ⟨et, ⟨_, _, _, rfl⟩, fun b o eb => ?_, ?_, ?_⟩
        · by_cases e : b = t
          · rw [e, upd_same, ← h2, ← e, eb]
          · rw [upd_ne e]
            exact keep b o eb e
        · rw [upd_ne nct, ec, List.take_add_one, hl]
          show _ = some (HO.dK (cD (totC (Ls.take i ++ [l]))))
          rw [totC_snoc]
        · rw [upd_ne ngt]
          exact eg
    · rintro σ' H2 ⟨hσ, same2, hc2, hg2⟩
      have e : (refsOf Ls).length = Ls.length := List.length_map ..
      rw [e, List.take_of_length_le (Nat.le_refl _)] at hc2
      exact hR _ _ ⟨hσ, same2, hc2⟩
  obtain ⟨⟨x4, x5, x6, rfl⟩, same2, hc2⟩ := h2
  obtain ⟨k1, k2, k3, k4⟩ := totC_all (Ls := Ls) fun m hm => by
    obtain ⟨⟨_, _, _, _, cm⟩, lm⟩ := hLs m hm
    exact ⟨cm.nd, lm, cm.wd⟩
  refine ⟨rfl, _, rfl, _, c, totC Ls, rfl, ⟨hc2, k1, by omega, k3⟩, fun H' x ps s3 hx hL hC => ?_⟩
  exact q H' x ps (Same.trans same2 s3) (Same.none same2 hx) hL fun z => by rw [hC, k4]
end
end Ld
namespace Ld
open PySem PySem.Spec PyProof.Rows L2
abbrev sAdd : Stmt := inClass (top 14) 14
abbrev sSub : Stmt := inClass (top 14) 15
abbrev sBool : Stmt := inClass (top 14) 13
/-- a staticmethod of the class that keeps sp -/
def HasS (P : Program) (w : World) (K : PySem.W.Frag) (mg : Str → Option Value) (base : Heap) (n : Nat) (C : Addr) (name : Str) (sp : Sp) : Prop :=
  ∃ mc p g, ClX.CRead K C mc ∧ SMet K C mc name p g ∧ FnR P w K mg base CX0 n g sp
def spAdd (C : Addr) (op : Int → Int → Int) : Sp := fun vs H Q _ => ∃ (x y : Addr) (ps qs : List (Str × Int)), vs = [.ref x, .ref y] ∧ LoadAt C H x ps ∧ LoadAt C H y qs ∧ ps.length ≤ 100 ∧ qs.length ≤ 100 ∧
  ∀ (H' : Hp) (z : Addr) (rs : List (Str × Int)), Same H H' → H z = none → LoadAt C H' z rs → (∀ u, ct rs u = op (ct ps u) (ct qs u)) → Q (.ref z) H'
def spBool (C : Addr) : Sp := fun vs H Q _ => ∃ (x : Addr) (ps : List (Str × Int)), vs = [.ref x] ∧ LoadAt C H x ps ∧ Q (.bl (!ps.isEmpty)) H
/-- bool(d) -/
theorem call_boolD {X : Cx} : CallR X (.type "bool") (fun xs H Q => ∃ d kvs, xs = [V.ref d] ∧ H d = some (.dK kvs) ∧ Q (.bl (!kvs.isEmpty)) H) := by
  intro pins s σ H xs us Q I r h
  obtain ⟨d, kvs, rfl, hd, q⟩ := h
  rw [Vals.ref1 r]
  have hl := line63
  obtain ⟨hz, hS, vs, rr, m⟩ : kvs.length ≤ sizeLine ∧ (d == sysModules) = false ∧ ∃ vs, KV kvs vs ∧ s.heap.DictOf (mixKind X.prog X.w) d vs := I.hok d _ hd
  have hlen : kvs.length = vs.length := Paired.length rr
  exact call_bool_by (wpAny_truthy_dict hS m (by omega) ⟨.bl _, H, I.tok _, by rw [isEmpty_kv rr]; rfl, q⟩)
section
variable {P : Program} {w : World} {K : PySem.W.Frag} {mg : Str → Option Value} {base : Heap} {C fi : Addr}
theorem ok_total {g T1 : Addr} {oc kV doc pm cdv ct' : Value} {od an : Option Addr} {osl : Array (Option Value)} {oT : Obj} {n : Nat} (T : LoadC K mg C fi) (HO : HasC P w K mg base 5 C "of" (spOf C))
    (lk : K.lookup g = some ⟨oc, od, .func (PySem.W.fnOf "total" "Load.total" (defArgs sTotal) (defBody sTotal) (defScope sTotal) (.ref T1) kV doc pm an cdv ct'), osl⟩) (hcd : PySem.W.codeIn K cdv "Load.total" = true) (lT : K.lookup T1 = some oT) (dT : oT.data = .seq #[.none] n) :
    FnR P w K mg base CX0 6 g (spTotal C) := by
  have F := fn_optstar (P := P) (w := w) (mg := mg) (base := base) (CX := CX0) (k := 5) (N := nTotal) (sp := spTotalB C) (dv := .non) lk hcd scTotal StX.cxUp_none lT dT rfl
    (fun us => match us with | [] => ⟨_, rfl, rfl⟩ | [_] => ⟨_, rfl, rfl⟩ | _ :: _ :: _ => ⟨_, rfl, rfl⟩)
    (fun A outer s H vs Q E hr h => by
      obtain ⟨t, ht, hq⟩ := total_body T HO hr h
      exact ⟨t, ht.nox, hq⟩)
  refine F.imp fun vs H Q E h => ?_
  obtain ⟨Ls, rfl, hLs, hl, q⟩ := h
  have hlen : (refsOf Ls).length = Ls.length := List.length_map ..
  refine ⟨by rw [hlen]; exact Nat.le_trans hl (by decide), fun p hp => ⟨Ls, p, rfl, upd_same, fun l hl => ?_, hl, fun H' x ps s hx hL hC => ?_⟩⟩
  · obtain ⟨h1, h2⟩ := hLs l hl
    exact ⟨h1.same (same_new hp), h2⟩
  · exact q H' x ps (Same.trans (same_new hp) s) (Same.none (same_new hp) hx) hL hC
theorem scAdd : FnScope ["self", "other"] ["self", "other"] (defScope sAdd) := ⟨rfl, rfl, rfl, by decide +kernel, rfl, by decide +kernel, by decide +kernel⟩
theorem scSub : FnScope ["self", "other"] ["self", "other"] (defScope sSub) := ⟨rfl, rfl, rfl, by decide +kernel, rfl, by decide +kernel, by decide +kernel⟩
theorem scBool : FnScope ["self"] ["self"] (defScope sBool) := ⟨rfl, rfl, rfl, by decide +kernel, rfl, by decide +kernel, by decide +kernel⟩
theorem ok_bool {f : Addr} {fd : FuncData} (F : Fun K "__bool__" "Load.__bool__" sBool f fd) (T : LoadC K mg C fi) (B : Blt2 mg) : FnOk P w K mg base CX0 1 f fd ["self"] (spBool C) := by
  refine F.ok scBool (fun vs H Q E h => ?_) (fun cdv A outer s H vs Q E hr h => ?_)
  · obtain ⟨x, ps, rfl, _⟩ := h
    rfl
  · obtain ⟨x, ps, rfl, ⟨dx, t, h1, h2, can⟩, q⟩ := h
    refine ⟨_, pss_one (ps_ret (pe_callTy call_boolD (by rfl) B.bool (by decide +kernel) (pa_cons (pe_fld (pv 0) rfl) pa_nil))), ?_⟩
    refine ⟨_, rfl, x, C, dx, _, _, rfl, h1, T.c, T.nc, rfl, t, cD ps, rfl, h2, ?_⟩
    have e : (cD ps).isEmpty = ps.isEmpty := by
      unfold cD
      cases ps <;> rfl
    rw [e]
    exact q
theorem ok_add {f : Addr} {fd : FuncData} (F : Fun K "__add__" "Load.__add__" sAdd f fd) (T : LoadC K mg C fi) (S : SlX.SIsi K C) (B : Blt2 mg) (HS : HasS P w K mg base 6 C "total" (spTotal C)) : FnOk P w K mg base CX0 7 f fd ["self", "other"] (spAdd C (· + ·)) := by
  obtain ⟨mc, pS, gS, rS, cS, FS⟩ := HS
  refine F.ok scAdd (fun vs H Q E h => ?_) (fun cdv A outer s H vs Q E hr h => ?_)
  · obtain ⟨x, y, ps, qs, rfl, _⟩ := h
    rfl
  · obtain ⟨x, y, ps, qs, rfl, hx, hy, lx, ly, q⟩ := h
    refine ⟨_, pss_cons (ps_if (pt_not (pt_truth (pe_callB call_isi (by rfl) B.isi bIsi (pa_cons (pv 1) (pa_cons (pe_glob (v := .ref C) (by rfl) T.gC rfl) pa_nil))) (fun _ => rfl))) (pss_one ps_never) pss_nil)
      (pss_one (ps_ret (pe_smeth (pe_glob (v := .ref C) (by rfl) T.gC rfl) rS cS FS hr pass0 (pa_cons (pv 0) (pa_cons (pv 1) pa_nil))))), ?_⟩
    refine ⟨_, rfl, .ref y, _, _, _, true, rfl, .own C, hy.ty T.c S, kit_self, true, rfl, ?_⟩
    refine ⟨rfl, _, rfl, _, rfl, [(x, ps), (y, qs)], rfl, fun l hl => ?_, (by show 2 ≤ 10; decide), fun H' z rs s1 hz hL hC => q H' z rs s1 hz hL fun u => ?_⟩
    · simp only [List.mem_cons, List.not_mem_nil, or_false] at hl
      rcases hl with rfl | rfl
      · exact ⟨hx, lx⟩
      · exact ⟨hy, ly⟩
    · rw [hC]
      show ct ps u + (ct qs u + 0) = ct ps u + ct qs u
      omega
theorem ok_sub {f fn : Addr} {fd : FuncData} (F : Fun K "__sub__" "Load.__sub__" sSub f fd) (T : LoadC K mg C fi) (S : SlX.SIsi K C) (B : Blt2 mg) (HS : HasS P w K mg base 6 C "total" (spTotal C)) (HN : HasM P w K mg base 6 C "__neg__" (spMapC C (fun i => -i) (fun _ => true))) :
    FnOk P w K mg base CX0 7 f fd ["self", "other"] (spAdd C (· - ·)) := by
  obtain ⟨mc, pS, gS, rS, cS, FS⟩ := HS
  obtain ⟨gn, n1, n2, n3, FN⟩ := HN
  refine F.ok scSub (fun vs H Q E h => ?_) (fun cdv A outer s H vs Q E hr h => ?_)
  · obtain ⟨x, y, ps, qs, rfl, _⟩ := h
    rfl
  · obtain ⟨x, y, ps, qs, rfl, hx, hy, lx, ly, q⟩ := h
    refine ⟨_, pss_cons (ps_if (pt_not (pt_truth (pe_callB call_isi (by rfl) B.isi bIsi (pa_cons (pv 1) (pa_cons (pe_glob (v := .ref C) (by rfl) T.gC rfl) pa_nil))) (fun _ => rfl))) (pss_one ps_never) pss_nil)
      (pss_one (ps_ret (pe_smeth (pe_glob (v := .ref C) (by rfl) T.gC rfl) rS cS FS hr pass0 (pa_cons (pv 0) (pa_cons (pe_un (un_own n1 n3 FN hr pass0) (pv 1)) pa_nil))))), ?_⟩
    refine ⟨_, rfl, .ref y, _, _, _, true, rfl, .own C, hy.ty T.c S, kit_self, true, rfl, ?_⟩
    have hy' := hy
    obtain ⟨dy, ty, h1, h2, cy⟩ := hy
    refine ⟨rfl, _, rfl, _, rfl, y, dy, _, rfl, h1, y, qs, rfl, hy', fun H1 y1 qs1 s1 hy1 hL1 hC1 => ?_⟩
    have lq1 : qs1.length ≤ 100 := by
      obtain ⟨_, _, _, _, c1⟩ := hL1
      have sub : ∀ z ∈ qs1.map (·.1), z ∈ qs.map (·.1) := fun z hz => by
        refine ct_in fun e => ?_
        obtain ⟨p, hp, ep⟩ := List.mem_map.mp hz
        have k1 := hC1 z
        rw [if_pos rfl, e] at k1
        rw [← ep, ct_mem c1.nd hp] at k1
        exact c1.nz p hp (by rw [k1]; rfl)
      have := nd_len c1.nd sub
      rw [List.length_map, List.length_map] at this
      omega
    refine ⟨[(x, ps), (y1, qs1)], rfl, fun l hl => ?_, (by show 2 ≤ 10; decide), fun H' z rs s2 hz hL hC => q H' z rs (Same.trans s1 s2) (Same.none s1 hz) hL fun u => ?_⟩
    · simp only [List.mem_cons, List.not_mem_nil, or_false] at hl
      rcases hl with rfl | rfl
      · exact ⟨hx.same s1, lx⟩
      · exact ⟨hL1, lq1⟩
    · rw [hC]
      show ct ps u + (ct qs1 u + 0) = ct ps u - ct qs u
      rw [hC1, if_pos rfl]
      show ct ps u + (-(ct qs u) + 0) = ct ps u - ct qs u
      omega
end
end Ld
/-! enumerate(t), t a tuple -/
namespace PySem
open Sem (wp)
open AutoSeq1 (wpAny_loadPart')
theorem meets_enumerate_newT (l : Addr) (items : Array Value) (n : Nat) (dct : Option Addr) (sl : Array (Option Value)) :
    Meets (Builtin.«enumerate.__new__» ⟨[.type "enumerate", .ref l], []⟩) (fun _ R s => s.heap.get? l = some { cls := .type "tuple", dict := dct, data := .seq items n, slots := sl } ∧
      R (.ok (.ret (.ref (s.heap.push { cls := .type "tuple_iterator", data := .fields #[.ref l, .int 0 0] }).objs.size)))
        { s with heap := (s.heap.push { cls := .type "tuple_iterator", data := .fields #[.ref l, .int 0 0] }).push { cls := .type "enumerate", data := .fields #[.none, .bool false, .ref s.heap.objs.size, rawInt 0, .none, .none] } }) :=
  .of_wp fun prog w A R s h => by
    obtain ⟨hp, g, d, tk, os⟩ := s; obtain ⟨hl, h⟩ := h
    have hsub := sub_enumerate
    have hL : Heap.IsTuple (Shared.heap ⟨hp, g, d, tk, os⟩) l items := ⟨_, hl, rfl, n, rfl⟩
    wp_walk using wpAny_loadPart' hl
    refine wpAny_stack_any fun st => wpAny_pure ?_
    split
    · rename_i c _ _ _ _ _
      cases (c == Value.type "enumerate")
      · wp_walk using wpAny_loadPart' hl, wpAny_pyIter_tuple hL
        exact ⟨_, rfl, h⟩
      · wp_walk using wpAny_loadPart' hl, wpAny_pyIter_tuple hL
        exact ⟨_, rfl, h⟩
    · wp_walk using wpAny_loadPart' hl, wpAny_pyIter_tuple hL
      exact ⟨_, rfl, h⟩
section
variable {prog : Program} {w : World} {A : Around} {E : Value → Shared → Prop} {s : Shared}
theorem call_enumerate_tuple {l : Addr} {items : Array Value} {Q : Value → Shared → Prop} (hL : s.heap.IsTuple l items)
    (h : ∀ h', IsEnum h' (s.heap.objs.size + 1) s.heap.objs.size 0 .none → h'.IsTupleIter s.heap.objs.size l 0 → h'.objs.size = s.heap.objs.size + 2 →
      (∀ b o, s.heap.get? b = some o → h'.get? b = some o) → Q (.ref (s.heap.objs.size + 1)) { s with heap := h' }) :
    wpAny (model prog w) A (call (.type "enumerate") [.ref l]) Q E s := by
  obtain ⟨⟨c, dct, dt, sl⟩, hl, hc, n, hd⟩ := hL
  replace hc : c = .type "tuple" := hc
  replace hd : dt = .seq items n := hd
  subst hc hd
  refine callType_new F.called_enumerate (by decide) (F.typeCall_enumerate_1 _) (F.newCall_enumerate_1 _) (fun obj => F.args_object_init_2 obj _) F.entry_enumerate_new
    (meets_enumerate_newT l items n dct sl) ⟨hl, ?_⟩
  have hz : (s.heap.push { cls := .type "tuple_iterator", data := .fields #[.ref l, .int 0 0] }).objs.size = s.heap.objs.size + 1 := Heap.size_push ..
  show _ ∧ _
  rw [hz]
  have he : IsEnum ((s.heap.push { cls := .type "tuple_iterator", data := .fields #[.ref l, .int 0 0] }).push
      { cls := .type "enumerate", data := .fields #[.none, .bool false, .ref s.heap.objs.size, rawInt 0, .none, .none] }) (s.heap.objs.size + 1) s.heap.objs.size 0 .none := by
    have := Heap.get?_push_size (s.heap.push { cls := .type "tuple_iterator", data := .fields #[.ref l, .int 0 0] })
      (o := { cls := .type "enumerate", data := .fields #[.none, .bool false, .ref s.heap.objs.size, rawInt 0, .none, .none] }) rfl
    rw [hz] at this; exact this
  refine ⟨⟨_, he, rfl⟩, h _ he ⟨_, Heap.get?_push_of_some _ (Heap.get?_push_size _ rfl), rfl, rfl⟩ (by rw [Heap.size_push, hz]) fun b o x => Heap.get?_push_of_some _ (Heap.get?_push_of_some _ x)⟩
end
end PySem
namespace Ld
open PySem PySem.Spec PyProof.Rows L2
def IteT (K : PySem.W.Frag) (a : Addr) : It :=
  ⟨fun i H => ∃ (xs : List V) (x : V), SqT K H a xs ∧ xs[i]? = some x, fun i H v H' => ∃ T x, v = .ref T ∧ H T = none ∧ H' = upd H T (.tup [.int (i : Nat), x]) ∧ ∀ xs, SqT K H a xs → xs[i]? = some x, fun i H => ∃ xs : List V, SqT K H a xs ∧ xs.length ≤ i⟩
theorem tuple_inj {X : Cx} {pins : List (Addr × Obj)} {σ : L2.St} {H : Hp} {s : Shared} (I : Inv X pins σ H s) {a : Addr} {xs ys : List V} (h1 : SqT X.K H a xs) (h2 : SqT X.K H a ys) : ys = xs := by
  obtain ⟨its, r, ⟨o, e, _, n, d⟩, _⟩ := I.tuple h1
  obtain ⟨its', r', ⟨o', e', _, n', d'⟩, _⟩ := I.tuple h2
  rw [e] at e'; cases e'
  rw [d] at d'
  injection d' with d1 _
  have : its = its' := by simpa using congrArg Array.toList d1
  subst this
  exact r'.inj r
theorem turn_enumT {P : Program} {w : World} {K : PySem.W.Frag} {elts : List Expr} {kk : Nat} {tpos : Pos} (a e it : Addr) :
    Turn P w K (.Tuple elts kk tpos) (IteT K a) [e, it] e (fun i h => (∃ old, IsEnum h e it ((i : Nat) : Int) old) ∧ h.IsTupleIter it a i ∧ e ≠ it) where
  mem := by simp
  obj := fun i h st b hb => by
    obtain ⟨⟨old, he⟩, ⟨o, ho, hc, hd⟩, _⟩ := st
    have e' : b = e ∨ b = it := by simpa using hb
    rcases e' with z | z
    · rw [z]; exact ⟨_, he, fun v q => nomatch q⟩
    · rw [z]; exact ⟨o, ho, fun v q => by rw [hd] at q; cases q⟩
  keep := fun i h h' st k => let ⟨⟨old, he⟩, hi, hne⟩ := st; ⟨⟨old, k e (by simp) _ he⟩, hi.at fun o q => k it (by simp) o q, hne⟩
  item := by
    intro X hP hw hK hc i pins s σ H E I hf st hg
    subst hP hw hK
    obtain ⟨⟨old, he⟩, hit, hne⟩ := st
    obtain ⟨xs, x, hq, hx⟩ := hg
    obtain ⟨its, rv, p, hz⟩ := I.tuple hq
    obtain ⟨u, hu, ru⟩ := rv.get hx
    have hel : e < s.heap.objs.size := Heap.lt_size he
    have hil : it < s.heap.objs.size := by obtain ⟨_, q, _⟩ := hit; exact Heap.lt_size q
    have p' : s.heap.IsTuple a its.toArray := p
    have nea : e ≠ a := fun z => by
      obtain ⟨o, ho, hcl, _⟩ := id p'
      rw [← z, he] at ho
      cases ho
      have hcl : Value.type "enumerate" = Value.type "tuple" := hcl
      injection hcl with h
      exact absurd h (by decide)
    have nia : a ≠ it := fun z => by
      obtain ⟨o, ho, hcl, _⟩ := id p'
      obtain ⟨o2, ho2, hcl2, _⟩ := id hit
      rw [z, ho2] at ho
      cases ho
      rw [hcl2] at hcl
      injection hcl with h
      exact absurd h (by decide)
    have D := Draws.tuple (prog := X.prog) (w := X.w) (A := X.A.in1) (show X.A.in1.handled = none from I.ok.hd hc) it a nia its.toArray
    have hef : e ∉ [it, a] := by simp [hne, nea]
    refine wpAny_pyNext_enum_itemD D he ⟨hit, p'⟩ (by have := (List.getElem?_eq_some_iff.mp hu).1; simpa using this) hne hef fun y h' tk hPx ho hs' hT hsz hk => ?_
    have ey : y = u := by
      have : its[i]? = some y := by simpa using hPx
      rw [hu] at this
      exact (Option.some.inj this).symm
    subst ey
    obtain ⟨hit', p2⟩ := hs'
    refine ⟨_, rfl, wpAny_letOwnedTupleGo_enum (s := { s with heap := h', toks := tk + 1 }) ho fun h'' he' sb => ?_⟩
    have hT2 : h''.get? s.heap.objs.size = some { cls := .type "tuple", data := .seq #[.int i tk, y] } := (sb.2 _ (Nat.ne_of_gt hel)).trans hT
    have new : ObjOk X.prog X.w (upd H s.heap.objs.size (.tup [.int (i : Nat), x])) h'' s.heap.objs.size (.tup [.int (i : Nat), x]) :=
      ⟨by show 2 ≤ sizeLine; decide, [.int i tk, y], .cons ⟨_, rfl⟩ (.cons ru .nil), ⟨_, hT2, rfl, _, rfl⟩⟩
    have I1 : Inv X pins σ (upd H s.heap.objs.size (.tup [.int (i : Nat), x])) { s with heap := h'', toks := tk + 1 } :=
      I.turnedNew (ch := [e, it]) (fun b ob hb q => (sb.2 b (fun z => hb (by simp [z]))).trans (hk b ob (fun z => hb (by simp [z])) (fun z => hb (by simp [z])) q)) hf (Nat.le_refl _) new
    refine ⟨.ref s.heap.objs.size, _, I1, rfl, ⟨_, x, rfl, I.hok.fresh (Nat.le_refl _), rfl, fun ys hy => by rw [tuple_inj I hq hy]; exact hx⟩, ⟨⟨y, ?_⟩, hit'.at fun o q => (sb.2 it (Ne.symm hne)).trans q, hne⟩, fun b hb => ?_⟩
    · have e1 : ((i + 1 : Nat) : Int) = (i : Int) + 1 := by omega
      rw [e1]; exact he'
    · have hb' : b < s.heap.objs.size := by
        have e' : b = e ∨ b = it := by simpa using hb
        rcases e' with z | z
        · rw [z]; exact hel
        · rw [z]; exact hil
      rw [upd_ne (Nat.ne_of_lt hb')]
      exact (hf b hb).1
  done := by
    intro X hP hw hK hc i pins s σ H E I hf st hg
    subst hP hw hK
    obtain ⟨⟨old, he⟩, hit, hne⟩ := st
    obtain ⟨xs, hq, hx⟩ := hg
    obtain ⟨its, rv, p, hz⟩ := I.tuple hq
    obtain ⟨f0, f1, f2, f3, f4, f5⟩ := hf it (by simp)
    have hl := rv.length
    have p' : s.heap.IsTuple a its.toArray := p
    have hx : its.toArray[i]? = none := by simp; omega
    have hh : X.A.in1.handled = none := I.ok.hd hc
    have hT : s.TypeIs (.ref e) "enumerate" := ⟨_, he, rfl⟩
    unfold pyNext
    refine wpAny_bind (wpAny_attempt (wpAny_callSpecial?_slot (name := Str.ofString "__next__") hT F.slot_enumerate_next
      (wpAny_call_entry F.slot_enumerate_next hT F.entry_enumerate_next ?_ (F.args_enumerate_next_1 _))))
    show wpAny _ _ (field (.ref e) 2 >>= _) _ _ _
    refine wpAny_bind (wpAny_field he rfl (x := .ref it) rfl ?_)
    refine wpAny_bind (wpAny_nextOf_tuple_end hh hit p' hx fun h' x he' hx' => ?_)
    obtain ⟨o, ho, hc⟩ := hx'
    refine wpAny_bind (wpAny_isInstance (T := "StopIteration") (b := true) ⟨o, ho, hc⟩ isSubtype_stop ?_)
    exact wpAny_pure ⟨rfl, I.turned (t' := s.toks) (fun b o hb q => he' b o hb q) f0 f1 f3 f4 f5⟩
  self := fun A i s Q E st h => let ⟨⟨_, he⟩, _⟩ := st; wpAny_pyIter_enum he h
/-- enumerate(x), x a list or a tuple -/
def iEnumW (K : PySem.W.Frag) (ta : TA) : TI := fun σ H R => ta σ H fun vs H1 => ∃ a xs, vs = [.ref a] ∧ (SqL K H1 a xs ∨ SqT K H1 a xs) ∧ ∀ J (G : Hp → Prop), Walk J xs.length G (YPair (fun i => some (.int (i : Nat))) (fun i => xs[i]?)) → (∀ H, (∀ o, H1 a = some o → H a = some o) → G H) → R J H1
theorem walk_enumT {K : PySem.W.Frag} {a : Addr} {xs : List V} : Walk (IteT K a) xs.length (fun H => SqT K H a xs) (YPair (fun i => some (.int (i : Nat))) (fun i => xs[i]?)) := by
  refine ⟨fun i _ hi q => ⟨xs, xs[i], q, by simp [hi]⟩, fun _ q => ⟨xs, q, Nat.le_refl _⟩, fun i H v H' _ q y => ?_⟩
  obtain ⟨T, x, h1, h2, h3, h4⟩ := y
  exact ⟨T, .int (i : Nat), x, h1, h2, h3, rfl, h4 xs q⟩
theorem pi_enumW {X : Cx} {e : Expr} {ta : TA} {p pos tpos : Pos} {elts : List Expr} {kk : Nat} (hg : Gl X "enumerate") (hm : X.mg "enumerate" = none) (ha : PA X [e] ta) (hs : starEach [e] X.env = [(false, eval e X.env)] := by rfl) :
    PI X (.Tuple elts kk tpos) (.Call (.Name "enumerate" p) [e] [] pos) (iEnumW X.K ta) := by
  refine ⟨fun pins s σ H R I h => ?_⟩
  refine Call_ (ld_blt I hg hm boot_enumerate (PyProof.Rows.callWith_type1 (thn (ha.run pos pins s σ H _ I h) fun us s1 ⟨vs, H1, I1, r1, q1⟩ => ?_) hs rfl))
  obtain ⟨a, xs, ex, hq, q⟩ := q1
  subst ex
  cases r1 with
  | cons r rr =>
    cases rr
    cases r
    rcases hq with hq | hq
    · have q := q (Ite X.K a) _ walk_enum (fun H e => by
        rcases hq with (h | ⟨o, h⟩) | h
        · exact .inl (.inl (e _ h))
        · exact .inl (.inr ⟨o, e _ h⟩)
        · exact .inr h)
      obtain ⟨its, rv, p', hz⟩ := I1.list hq
      refine call_enumerate_list p'.isList fun h' he hit hsz hk => wpAny_pyIter_enum he ?_
      have I2 : Inv X pins σ H1 { s1 with heap := h' } := I1.kept (t' := s1.toks) hk
      refine ⟨s1.heap.objs.size + 1, [s1.heap.objs.size + 1, s1.heap.objs.size], _, _, H1, rfl, I2, turn_enum a (s1.heap.objs.size + 1) s1.heap.objs.size, ⟨⟨.none, he⟩, hit, Nat.succ_ne_self _⟩, fun b hb => ?_, q⟩
      have e' : b = s1.heap.objs.size + 1 ∨ b = s1.heap.objs.size := by simpa using hb
      have hle : s1.heap.objs.size ≤ b := by
        rcases e' with z | z
        · rw [z]; exact Nat.le_add_right _ _
        · rw [z]; exact Nat.le_refl _
      exact I1.fpOk hle (I1.hok.fresh hle)
    · have q := q (IteT X.K a) _ walk_enumT (fun H e => by
        rcases hq with (h | ⟨o, h⟩) | h
        · exact .inl (.inl (e _ h))
        · exact .inl (.inr ⟨o, e _ h⟩)
        · exact .inr h)
      obtain ⟨its, rv, p', hz⟩ := I1.tuple hq
      refine call_enumerate_tuple (show s1.heap.IsTuple a its.toArray from p') fun h' he hit hsz hk => wpAny_pyIter_enum he ?_
      have I2 : Inv X pins σ H1 { s1 with heap := h' } := I1.kept (t' := s1.toks) hk
      refine ⟨s1.heap.objs.size + 1, [s1.heap.objs.size + 1, s1.heap.objs.size], _, _, H1, rfl, I2, turn_enumT a (s1.heap.objs.size + 1) s1.heap.objs.size, ⟨⟨.none, he⟩, hit, Nat.succ_ne_self _⟩, fun b hb => ?_, q⟩
      have e' : b = s1.heap.objs.size + 1 ∨ b = s1.heap.objs.size := by simpa using hb
      have hle : s1.heap.objs.size ≤ b := by
        rcases e' with z | z
        · rw [z]; exact Nat.le_add_right _ _
        · rw [z]; exact Nat.le_refl _
      exact I1.fpOk hle (I1.hok.fresh hle)
end Ld
/-! sorted(t, key=int), t a tuple of ints -/
namespace PySem
open Sem (wp)
open AutoSeq1 (wpAny_loadPart')
section
variable {prog : Program} {w : World} {A : Around} {E : Value → Shared → Prop} {s : Shared}
theorem collect_seqC {Q : List Value → Shared → Prop} (it : Addr) {T : String} {o : Obj} {items : Array Value} {n : Nat} (hT : T = "list" ∨ T = "tuple")
    (ho : s.heap.get? it = some o) (hc : o.cls = .type T) (hd : o.data = .seq items n)
    (hQ : Q items.toList { s with heap := (s.heap.push { cls := .type "list", data := .seq ([] : List Value).toArray }).update s.heap.objs.size (Obj.mapSeq (· ++ items)) }) (hsz : items.size ≤ sizeLine := by size_fits) :
    wpAny (model prog w) A (collect (.ref it)) Q E s := by
  unfold collect
  refine wpAny_bind (wpAny_runValue (codeAny_builtin F.entry_proto_collect ?_))
  rw [Around.under_plainId F.plain_proto_collect _]
  show wpAny _ A.in1 (newList [] >>= fun l => again (.builtin "list.__iadd__" ⟨[l, .ref it], []⟩)) _ _ s
  refine wpAny_bind (wpAny_newObj_type ?_)
  refine wpAny_pure ⟨plainId_quiet F.plain_list_iadd _, codeAny_builtin F.entry_list_iadd ?_⟩
  rw [Around.under_plainId F.plain_list_iadd _]
  show wpAny _ A.in1 (Builtin.List.listExtendWith (.ref s.heap.objs.size) (.ref it) (.ref s.heap.objs.size)) _ _ _
  have hS : (s.heap.push { cls := .type "list", data := .seq ([] : List Value).toArray }).get? s.heap.objs.size = some { cls := .type "list", data := .seq #[] 0 } := Heap.get?_push_size _ rfl
  have hS₂ := Heap.get?_update_self (Obj.mapSeq (· ++ items)) hS rfl
  have fin' : wpAny (model prog w) A (match Value.ref s.heap.objs.size with
      | Value.ref a => do
        match (← load a).data with
          | Data.seq xs _ => pure xs.toList
          | _ => unsupported "internal:collect"
      | _ => unsupported "internal:collect") Q E { s with heap := (s.heap.push { cls := .type "list", data := .seq ([] : List Value).toArray }).update s.heap.objs.size (Obj.mapSeq (· ++ items)) } := by
    show wpAny _ A (load s.heap.objs.size >>= _) _ _ _
    refine wpAny_bind (wpAny_load hS₂ ?_)
    refine wpAny_pure ?_
    have e : ((#[] : Array Value) ++ items).toList = items.toList := by simp
    show Q ((#[] : Array Value) ++ items).toList _
    rw [e]
    exact hQ
  refine wpAny_mono (wpAny_extend_seq (hsz := hsz) (A := A) (R := fun r s' => r = .ok (.ret (.ref s.heap.objs.size)) ∧ s' = { s with heap := (s.heap.push { cls := .type "list", data := .seq ([] : List Value).toArray }).update s.heap.objs.size (Obj.mapSeq (· ++ items)) })
    (s := { s with heap := s.heap.push { cls := .type "list", data := .seq ([] : List Value).toArray } }) _ it _ 0 hT hS (Heap.get?_push_of_some _ ho) hc hd ⟨rfl, rfl⟩) (fun fin s' h => ?_) (fun e s' h => ?_)
  · cases fin with
    | done f =>
      obtain ⟨e, rfl⟩ := h
      cases e
      exact fin'
    | again c' => exact ⟨h.1, codeAny_mono h.2 fun r s'' hr => by obtain ⟨rfl, rfl⟩ := hr; exact fin'⟩
  · exact absurd h.1 (by simp)
end
end PySem
namespace PySem.W
open PySem PySem.Calls PyProof.Rows
section
variable {prog : Program} {w : World} {A : Around} {E : Value → Shared → Prop} {s : Shared}
theorem sorted_of_sortT {l : Addr} {o : Obj} {T : String} {items : Array Value} {n : Nat} {kw : List (Str × Value)} {Q : Value → Shared → Prop} (hT : T = "list" ∨ T = "tuple") (ho : s.heap.get? l = some o) (hc : o.cls = .type T) (hd : o.data = .seq items n) (hL : items.size ≤ sizeLine) (ha1 : argsOk "sorted" ⟨[.ref l], kw⟩) (ha2 : ∀ x, argsOk "list.sort" ⟨[.ref x], kw⟩)
    (body : ∀ E' : Value → Shared → Prop, wpAny (model prog w) A.in1.in1 (Builtin.«list.sort» ⟨[.ref (s.heap.objs.size + 1)], kw⟩) (fun f s' => f = .done (.ret .none) ∧ Q (.ref (s.heap.objs.size + 1)) s') E' { s with heap := copyHeap s.heap items.toList }) :
    wpAny (model prog w) A (call (.builtin "sorted") [.ref l] kw) Q E s := by
  refine call_function_entry_kw kind_sorted plain_sorted entry_sorted ha1 ?_
  unfold Builtin.«sorted»
  refine wpAny_bind (m := checkCount "sorted" 1 1 _) (wpAny_pure ?_)
  refine wpAny_bind (collect_seqC l hT ho hc hd ?_ hL)
  refine wpAny_bind (wpAny_newList ?_ (by rw [Array.length_toList]; exact hL))
  have hsz : ((s.heap.push (seqObj "list" #[] 0)).update s.heap.objs.size (Obj.mapSeq (· ++ items.toList.toArray))).objs.size = s.heap.objs.size + 1 := by
    rw [Heap.size_update, size_push']
  show wpAny _ _ _ _ _ { s with heap := copyHeap s.heap items.toList }
  rw [hsz]
  refine wpAny_bind (wpAny_holding (wpAny_call_entry_kw slot_list_sort ⟨_, copyHeap_at s.heap items.toList, rfl⟩ entry_list_sort ?body (ha2 _)))
  case body =>
    show wpAny (model prog w) A.in1.in1 (Builtin.«list.sort» ⟨[.ref (s.heap.objs.size + 1)], kw⟩) _ _ _
    refine wpAny_mono (body _) (fun f s' hf => ?_) fun _ _ e => e
    obtain ⟨rfl, hq⟩ := hf
    exact ⟨_, rfl, wpAny_pure ⟨_, rfl, hq⟩⟩
def IsI (v : Value) (n : Int) : Prop := ∃ t, v = .int n t
/-- sorted(t, key=int) -/
theorem sorted_tInt {l : Addr} {o : Obj} {T : String} {items : Array Value} {n : Nat} {ns : List Int} {Q : Value → Shared → Prop} (hT : T = "list" ∨ T = "tuple") (ho : s.heap.get? l = some o) (hc : o.cls = .type T) (hd : o.data = .seq items n) (hL : items.size ≤ sizeLine) (e : EachIs IsI items.toList ns) (hu : A.units + 3 < cLine)
    (h : ∀ out c h' tk, (∀ b o, s.heap.get? b = some o → h'.get? b = some o) → h'.get? (s.heap.objs.size + 1) = some (seqObj "list" (List.toArray out) c) → out.length = ns.length → EachIs IsI out (ns.mergeSort fun a b => decide (a ≤ b)) →
      Q (.ref (s.heap.objs.size + 1)) { s with heap := h', toks := tk }) :
    wpAny (model prog w) A (call (.builtin "sorted") [.ref l] [(Str.ofString "key", .type "int")]) Q E s := by
  have up : ∀ {g : Heap}, KeepsBut (s.heap.objs.size + 1) (copyHeap s.heap items.toList) g → ∀ b o, s.heap.get? b = some o → g.get? b = some o := fun {g} kp b o q =>
    kp b o (Nat.ne_of_lt (Nat.lt_succ_of_lt (Heap.lt_size q))) (copyHeap_old q)
  refine sorted_of_sortT hT ho hc hd hL (ksk_s1 _ _) (fun _ => ksk_l1 _ _) fun E' => ?_
  show wpAny (model prog w) A.in1.in1 (ksk_tree (s.heap.objs.size + 1) (.type "int") false) _ _ _
  have al : AllAlike (ns.map fun x => PyData.int x) := by
    intro d hd d' hd'
    obtain ⟨x, _, rfl⟩ := List.mem_map.mp hd
    obtain ⟨y, _, rfl⟩ := List.mem_map.mp hd'
    rfl
  have so : Sortable (ns.map fun x => PyData.int x) := .inr fun d hd => by
    obtain ⟨x, _, rfl⟩ := List.mem_map.mp hd
    exact ⟨by simp, by simp⟩
  refine keyH_tree (kz := ns.map fun x => PyData.int x) (s := { s with heap := copyHeap s.heap items.toList }) (copyHeap_at s.heap items.toList) (by rw [List.length_map]; exact e.length.symm) (by rw [Array.length_toList]; exact hL) al so
    (bound_map (A := A.in1.in1) (enc := fun x : Int => PyData.int x) (bs := ns) (fun b _ => by show A.units + 1 + 1 + _ < cLine; show A.units + 1 + 1 + 0 < cLine; omega))
    (keyH_turns (k := fun x : Int => PyData.int x) (s := { s with heap := copyHeap s.heap items.toList }) e fun v x hR hx h tk kp => ?_) fun h' tk out c kp hD ko => ⟨rfl, ?_⟩
  · obtain ⟨t, rfl⟩ := hR
    exact call_int_int ⟨h, tk, rfl, fun _ _ q => q, .int _ _⟩
  · have k1 := keyedOut_each (R := IsI) (fun x : Int => PyData.int x) ko e
    rw [dataLe_int] at k1
    exact h out c h' tk (up kp) hD ((ko.length (by rw [List.length_map]; exact e.length.symm)).trans e.length) k1
end
end PySem.W
namespace L2
open PySem PySem.Spec PyProof.Rows PySem.W
theorem tEach_ints : ∀ {us : List Value} {ns : List Int}, Vals (ns.map V.int) us → EachIs IsI us ns
  | [], [], _ => .nil
  | u :: us, n :: ns, .cons h r => .cons h (tEach_ints r)
theorem tInts_each : ∀ {us : List Value} {ns : List Int}, EachIs IsI us ns → Vals (ns.map V.int) us
  | _, _, .nil => .nil
  | _, _, .cons h r => .cons h (tInts_each r)
def rSortTI (K : PySem.W.Frag) : List V → List V → Hp → VK → Prop := fun vs zs H Q => ∃ (a : Addr) (ns : List Int), vs = [V.ref a] ∧ zs = [.ty "int"] ∧ SqT K H a (ns.map V.int) ∧
  ∀ (p : Addr), H p = none → Q (.ref p) (upd H p (.lst ((ns.mergeSort fun a b => decide (a ≤ b)).map V.int)))
theorem cr_sortTI {X : Cx} (hu : X.A.units + 3 < cLine) : CallRK X (.builtin "sorted") [Str.ofString "key"] (rSortTI X.K) := by
  intro pins s σ H vs zs us ws Q I r rz h
  obtain ⟨a, ns, rfl, rfl, hs, q⟩ := h
  obtain rfl := Vals.ref1 r
  obtain ⟨w1, rfl, e1⟩ := vals1 rz
  obtain rfl : w1 = Value.type "int" := e1
  obtain ⟨its, rv, ⟨o, ho, hc, n, hd⟩, hz⟩ := I.tuple hs
  have hl := rv.length
  rw [List.length_map] at hl hz
  refine sorted_tInt (.inr rfl) ho hc hd (by rw [List.size_toArray]; omega) (tEach_ints (by simpa using rv)) hu fun out c h' tk k g hlen ee => ?_
  have hlen2 : ((ns.mergeSort fun a b => decide (a ≤ b)).map V.int).length ≤ sizeLine := by
    rw [List.length_map, List.length_mergeSort]
    exact hz
  exact ⟨.ref _, upd H (s.heap.objs.size + 1) (.lst ((ns.mergeSort fun a b => decide (a ≤ b)).map V.int)), I.laid (t' := tk) k (Nat.le_succ _) ⟨hlen2, out, c, tInts_each ee, g⟩, rfl, q _ (I.hok.fresh (Nat.le_succ _))⟩
end L2
/-! range(n), list(range(n)) as values -/
namespace L2
open PySem PySem.Spec PyProof.Rows
section
variable {X : Cx}
theorem cr_range1V : CallR X (.type "range") (fun vs H Q => ∃ j, vs = [V.int j] ∧ ∀ p, H p = none → Q (.ref p) (upd H p (.rng 0 j))) := by
  intro pins s σ H vs us Q I r h
  obtain ⟨j, rfl, q⟩ := h
  obtain ⟨u1, rfl, t, rfl⟩ := vals1 r
  refine call_range_1 ⟨.ref s.heap.objs.size, upd H s.heap.objs.size (.rng 0 j), I.laid (t' := s.toks + 1 + 1) (fun b o e => Heap.get?_push_of_some _ e) (Nat.le_refl _) ?_, rfl, q _ (I.hok.fresh (Nat.le_refl _))⟩
  exact ⟨s.toks, t, s.toks + 1, Heap.get?_push_size _ rfl⟩
theorem items_vals {n : Nat} : ∀ {l : List Value} {k : Nat}, (∀ j v, l[j]? = some v → ∃ t, v = Value.int ((k + j : Nat) : Int) t) → Vals ((List.range' k l.length).map fun i => V.int ((i : Nat) : Int)) l
  | [], _, _ => .nil
  | v :: r, k, h => by
    rw [List.length_cons, List.range'_succ, List.map_cons]
    obtain ⟨t, e⟩ := h 0 v rfl
    exact .cons ⟨t, by rw [e]; rfl⟩ (items_vals (n := n) fun j v' hj => by
      obtain ⟨t', e'⟩ := h (j + 1) v' hj
      exact ⟨t', by rw [e']; congr 2; omega⟩)
/-- list(r), r a range from 0 -/
theorem cr_listRng (hc : X.calm = true) : CallR X (.type "list") (fun vs H Q => ∃ (r : Addr) (n : Nat), vs = [V.ref r] ∧ H r = some (.rng 0 n) ∧ n ≤ 1000 ∧ ∀ p, H p = none → Q (.ref p) (upd H p (.lst ((List.range n).map fun i => V.int ((i : Nat) : Int))))) := by
  intro pins s σ H vs us Q I r h
  obtain ⟨r0, n, rfl, hr, hn, q⟩ := h
  obtain rfl := Vals.ref1 r
  obtain ⟨t, u, v, e⟩ : ∃ t u v, s.heap.get? r0 = some { cls := .type "range", data := .fields #[.int 0 t, .int n u, .int 1 v] } := I.hok r0 _ hr
  have hsz : Builtin.Range.rangeSize 0 (n : Int) 1 = n := by
    unfold Builtin.Range.rangeSize
    rw [if_pos (by decide)]
    split
    · omega
    · omega
  refine call_list_range (I.ok.hd hc) e ?_ hsz (by omega) fun h' tk acc c' k hp hi => ?_
  · have f : ∀ i : Int, 0 ≤ i → i ≤ 2000 → Builtin.Range.rangeFitsLong i = true := fun i h0 h1 => by
      unfold Builtin.Range.rangeFitsLong
      simp
      omega
    unfold Builtin.Range.small
    rw [hsz, f 0 (by decide) (by decide), f n (by omega) (by omega), f 1 (by decide) (by decide), if_pos (by decide), f _ (by omega) (by omega), Bool.or_true]
    rfl
  obtain ⟨ha, hv⟩ := hi
  have hl : acc.toList.length = n := by rw [Array.length_toList, ha]
  have vv : Vals ((List.range n).map fun i => V.int ((i : Nat) : Int)) acc.toList := by
    have := items_vals (n := n) (l := acc.toList) (k := 0) fun j w hj => by
      obtain ⟨t, e⟩ := hv j w (by rw [← Array.getElem?_toList]; exact hj)
      exact ⟨t, by rw [e]; congr 1; omega⟩
    rw [hl] at this
    rw [List.range_eq_range']
    exact this
  exact ⟨.ref s.heap.objs.size, upd H s.heap.objs.size (.lst ((List.range n).map fun i => V.int ((i : Nat) : Int))), I.laid (t' := tk) k (Nat.le_refl _) ⟨by rw [List.length_map, List.length_range, sizeLine_eq]; omega, acc.toList, c', vv, by rw [Array.toArray_toList]; exact hp⟩, rfl, q _ (I.hok.fresh (Nat.le_refl _))⟩
end
end L2
namespace Ld
open PySem PySem.Spec PyProof.Rows L2
open TL
/-! ### a list against an empty one -/
def rNeE (K : PySem.W.Frag) : R2 := fun x y H Q => ∃ a b xs, x = .ref a ∧ y = .ref b ∧ SqL K H a xs ∧ SqL K H b [] ∧ Q (.bl (!xs.isEmpty)) H
def rEqE (K : PySem.W.Frag) : R2 := fun x y H Q => ∃ a b xs, x = .ref a ∧ y = .ref b ∧ SqL K H a xs ∧ SqL K H b [] ∧ Q (.bl xs.isEmpty) H
section
variable {X : Cx}
theorem op_neE (hu : X.A.units < cLine) : OpR X (compareOp .NotEq) (rNeE X.K) := by
  intro pins s σ H x y v u Q I rx ry h
  obtain ⟨a, b, xs, rfl, rfl, ha, hb, q⟩ := h
  obtain rfl : v = Value.ref a := rx
  obtain rfl : u = Value.ref b := ry
  obtain ⟨us, r1, p1, _⟩ := I.list ha
  obtain ⟨vs, r2, p2, _⟩ := I.list hb
  cases r2
  cases xs with
  | nil =>
    cases r1
    refine SeqAt.RcNeAt.lists (e := fun _ => true) p1.isList p2.isList rfl hu (fun j h1 h2 => absurd h1 (by simp)) X.prog X.w X.xe _ ?_
    exact ⟨.bl false, H, I, rfl, q⟩
  | cons z zs =>
    cases r1 with
    | cons h1 h2 =>
      refine SeqAt.RcNeAt.lists_lengths p1.isList p2.isList (by simp) hu X.prog X.w X.xe _ ?_
      exact ⟨.bl true, H, I, rfl, q⟩
theorem op_eqE (hu : X.A.units < cLine) : OpR X (compareOp .Eq) (rEqE X.K) := by
  intro pins s σ H x y v u Q I rx ry h
  obtain ⟨a, b, xs, rfl, rfl, ha, hb, q⟩ := h
  obtain rfl : v = Value.ref a := rx
  obtain rfl : u = Value.ref b := ry
  obtain ⟨us, r1, p1, _⟩ := I.list ha
  obtain ⟨vs, r2, p2, _⟩ := I.list hb
  cases r2
  cases xs with
  | nil =>
    cases r1
    refine SeqAt.RcAt.lists (e := fun _ => true) p1.isList p2.isList rfl hu (fun j h1 h2 => absurd h1 (by simp)) X.prog X.w X.xe _ ?_
    exact ⟨.bl true, H, I, rfl, q⟩
  | cons z zs =>
    cases r1 with
    | cons h1 h2 =>
      refine SeqAt.RcAt.lists_lengths p1.isList p2.isList (by simp) hu X.prog X.w X.xe _ ?_
      exact ⟨.bl false, H, I, rfl, q⟩
end
/-! ### shuffled, over any list -/
theorem seqIx {d : Int} {n : Nat} (h0 : 0 ≤ d) (h1 : d < (n : Int)) : seqIndex? d n = some d.toNat := by
  unfold seqIndex?
  rw [if_neg (by omega : ¬ d < 0)]
  show (if (decide (0 ≤ d) && decide (d < (n : Int))) = true then some d.toNat else none) = _
  rw [decide_eq_true h0, decide_eq_true h1]
  rfl
theorem erV_perm : ∀ {l : List V} {k : Nat} {y : V}, l[k]? = some y → (y :: l.eraseIdx k).Perm l
  | [], k, y, h => by simp at h
  | a :: r, 0, y, h => by
    simp at h
    subst h
    simp
  | a :: r, k + 1, y, h => by
    have h' : r[k]? = some y := by simpa using h
    exact (List.Perm.swap a y _).trans ((erV_perm h').cons a)
theorem perm_of_map {α β : Type} {f : α → β} {ys xs : List β} (h : ys.Perm xs) : ∀ {ws : List α}, xs = ws.map f → ∃ zs : List α, zs.Perm ws ∧ ys = zs.map f := by
  have key : ∀ {xs ys : List β}, xs.Perm ys → ∀ {ws : List α}, xs = ws.map f → ∃ zs : List α, zs.Perm ws ∧ ys = zs.map f := by
    intro xs ys h
    induction h with
    | nil => intro ws e; cases ws with
      | nil => exact ⟨[], .refl _, rfl⟩
      | cons a r => cases e
    | cons x h ih => intro ws e; cases ws with
      | nil => cases e
      | cons a r =>
        injection e with e1 e2
        obtain ⟨zs, h1, h2⟩ := ih e2
        exact ⟨a :: zs, h1.cons a, by rw [h2, e1]; rfl⟩
    | swap x y l => intro ws e; cases ws with
      | nil => cases e
      | cons a r => cases r with
        | nil => cases e
        | cons b r =>
          injection e with e1 e2
          injection e2 with e2 e3
          exact ⟨b :: a :: r, List.Perm.swap a b r, by rw [e1, e2, e3]; rfl⟩
    | trans h1 h2 i1 i2 =>
      intro ws e
      obtain ⟨zs, p1, q1⟩ := i1 e
      obtain ⟨us, p2, q2⟩ := i2 q1
      exact ⟨us, p2.trans p1, q2⟩
  intro ws e
  exact key h.symm e
def spShufV : Sp := fun vs H Q _ => ∃ (p c l : Addr) (xs : List V) (ns : List Int) (u r : Int), vs = [.ref p, .ref l] ∧ PenAt H p c ns u r ∧ H l = some (.lst xs) ∧ xs.length ≤ 100 ∧ u + xs.length ≤ 1000000 ∧
  ∀ (q : Addr) (ys : List V) (u' r' : Int) (H' : Hp), H q = none → H' q = some (.lst ys) → ys.Perm xs → u' ≤ u + xs.length → PenAt H' p c ns u' r' → SameP p H H' → Q (.ref q) H'
section
variable {P : Program} {w : World} {K : PySem.W.Frag} {mg : Str → Option Value} {base : Heap}
abbrev nShuf : List Str := ["_law_pen_here", "_law_items", "_law_left", "_law_found"]
theorem scShuf : FnScope nShuf ["_law_pen_here", "_law_items"] (defScope sShuf) := ⟨rfl, rfl, rfl, by decide +kernel, rfl, by decide +kernel, by decide +kernel⟩
theorem ok_shufV {f : Addr} {fd : FuncData} (F : Fun K "_law_shuffled" "_law_shuffled" sShuf f fd) (B : Blt mg) (HD : Has P w K mg base 1 "_law_draw" ["_law_pen_here", "_law_many"] spDraw) : FnOk P w K mg base CX0 2 f fd ["_law_pen_here", "_law_items"] spShufV := by
  obtain ⟨g1, gd1, G1, b1, m1, k1⟩ := HD
  refine F.ok scShuf (fun vs H Q E h => ?_) (fun cdv A outer s H vs Q E hr h => ?_)
  · obtain ⟨p, c, l, xs, ns, u, r, rfl, _⟩ := h
    rfl
  · obtain ⟨p, c, l, xs, ns, u, r, rfl, PA, gL, hx, hu6, k⟩ := h
    have hu := hu_of hr
    have hu0 := Nat.lt_of_succ_lt hu
    have nd : nShuf.Nodup := scShuf.nd
    refine ⟨_, pss_cons (ps_par (i := 2) (j := 3) rfl nd rfl rfl (by decide) rfl rfl (pa_cons (pe_callTy call_list_of (by rfl) B.list bList (pa_cons (pv 1) pa_nil)) (pa_cons (pe_lst pa_nil) pa_nil)) (by rfl))
      (pss_cons (ps_while PassesOwn.never (pt_cmpR (op_neE hu0) (pv 2) (pe_lst pa_nil) (nomark _))
        (pss_one (ps_expr (pe_bm PySem.F.plainAttrs_list PySem.F.slot_list_append PySem.F.type_list_append mt_append (pv 3) (pa_cons (pe_bm PySem.F.plainAttrs_list PySem.F.slot_list_pop PySem.F.type_list_pop mt_popAt (pv 2) (pa_cons (pe_call G1 hr (by rfl) m1 k1 b1 .nil pass0 (pa_cons (pv 0) (pa_cons (pe_callB call_len_seq (by rfl) B.len PySem.boot_len (pa_cons (pv 2) pa_nil)) pa_nil))) pa_nil)) pa_nil)))))
      (pss_one (ps_ret (pv 3)))), ?_⟩
    -- rest, found
    refine seq_step (fun σ' H' => ∃ R F', σ' = [some (.ref p), some (.ref l), some (.ref R), some (.ref F')] ∧ R ≠ F' ∧ R ≠ p ∧ R ≠ c ∧ F' ≠ p ∧ F' ≠ c ∧ H R = none ∧ H F' = none ∧ PenAt H' p c ns u r ∧ Same H H' ∧ H' R = some (.lst xs) ∧ H' F' = some (.lst [])) (fun R0 hR => ?_) (fun σ1 H1 h1 => ?_)
    · refine ⟨_, rfl, _, _, rfl, .inl (.inl (.inl gL)), fun R hR1 => ?_⟩
      have s1 := same_new (o := .lst xs) hR1
      refine ⟨Nat.zero_le _, fun F' hF => ?_⟩
      have s2 := same_new (o := .lst []) hF
      have nRF : R ≠ F' := ne_of_none (upd_same (H := H) (a := R) (o := .lst xs)) hF
      have hF0 : H F' = none := by
        have z := hF
        rwa [upd_ne nRF.symm] at z
      obtain ⟨kvs, hp, _⟩ := PA.ob
      exact ⟨_, _, rfl, hR _ _ ⟨R, F', rfl, nRF, (ne_of_none hp hR1).symm, (ne_of_none PA.cl hR1).symm, (ne_of_none hp hF0).symm, (ne_of_none PA.cl hF0).symm, hR1, hF0, PA.same (s1.trans s2), s1.trans s2, by rw [upd_ne nRF, upd_same], upd_same⟩⟩
    obtain ⟨R, F', rfl, nRF, nRp, nRc, nFp, nFc, hR0, hF0, PA1, s1, gR1, gF1⟩ := h1
    -- while
    refine seq_step (fun σ' H' => ∃ (ys : List V) (u' r' : Int), σ' = [some (.ref p), some (.ref l), some (.ref R), some (.ref F')] ∧ ys.Perm xs ∧ u' ≤ u + xs.length ∧ PenAt H' p c ns u' r' ∧ SameP p H H' ∧ H' F' = some (.lst ys)) (fun R0 hR => ?_) (fun σ2 H2 h2 => ?_)
    · refine ⟨fun m σ' H' => ∃ (rs fs : List V) (u' r' : Int), σ' = [some (.ref p), some (.ref l), some (.ref R), some (.ref F')] ∧ rs.length = m ∧ (fs ++ rs).Perm xs ∧ u' + m ≤ u + xs.length ∧ PenAt H' p c ns u' r' ∧ SameP p H H' ∧ H' R = some (.lst rs) ∧ H' F' = some (.lst fs),
        ⟨xs.length, xs, [], u, r, rfl, rfl, .refl _, by omega, PA1, .of s1, gR1, gF1⟩, ?_⟩
      rintro m σ' H' ⟨rs, fs, u', r', rfl, hm, hp, hu', PA', keep', gR, gF⟩
      refine ⟨_, rfl, Nat.zero_le _, fun q hq => ?_⟩
      have s0 := same_new (o := .lst []) hq
      refine ⟨R, q, rs, rfl, rfl, .inl (.inl (s0 _ _ gR)), .inl (.inl upd_same), _, rfl, ?_⟩
      have keep0 := keep'.trans (.of s0)
      have PA0 := PA'.same s0
      have gR0 := s0 _ _ gR
      have gF0 := s0 _ _ gF
      clear hq
      generalize upd H' q (.lst []) = H3 at keep0 PA0 gR0 gF0 ⊢
      cases rs with
      | nil =>
        refine iteF (hR _ _ ⟨fs, u', r', rfl, by rwa [List.append_nil] at hp, by omega, PA0, keep0, gF0⟩)
      | cons y0 yr =>
        have hm1 : 0 < m := by rw [← hm]; exact Nat.succ_pos _
        have hfl : fs.length ≤ 100 := by
          have := hp.length_eq
          rw [List.length_append] at this
          omega
        have hml : m ≤ 100 := by
          have := hp.length_eq
          rw [List.length_append] at this
          omega
        have gpk := PA0.u0
        refine iteT ⟨fun σ'' H'' => ∃ m', m' < m ∧ ∃ (rs fs : List V) (u' r' : Int), σ'' = [some (.ref p), some (.ref l), some (.ref R), some (.ref F')] ∧ rs.length = m' ∧ (fs ++ rs).Perm xs ∧ u' + m' ≤ u + xs.length ∧ PenAt H'' p c ns u' r' ∧ SameP p H H'' ∧ H'' R = some (.lst rs) ∧ H'' F' = some (.lst fs), fun _ _ h => h, ?_⟩
        refine ⟨_, rfl, .inl ⟨rfl, _, .inl (.inl gF0)⟩, _, rfl, .inl ⟨rfl, _, .inl (.inl gR0)⟩, _, rfl, _, rfl, _, _, rfl, .inl (.inl (.inl gR0)), p, c, ns, u', r', _, rfl, PA0, by omega, by omega, by omega, fun d u5 r5 H5 d0 d1 hu5 PA5 keep5 => ?_⟩
        have gR5 := keep5 _ _ gR0 nRp
        have gF5 := keep5 _ _ gF0 nFp
        have hdl : d.toNat < (y0 :: yr).length := by omega
        refine ⟨R, y0 :: yr, d, d.toNat, (y0 :: yr)[d.toNat], rfl, rfl, gR5, by omega, by omega, seqIx d0 d1, List.getElem?_eq_getElem hdl, ?_⟩
        refine ⟨F', _, _, rfl, rfl, by rw [upd_ne nRF.symm]; exact gF5, Nat.lt_of_le_of_lt hfl (by decide), ?_⟩
        refine ⟨m - 1, by omega, (y0 :: yr).eraseIdx d.toNat, fs ++ [(y0 :: yr)[d.toNat]], u5, r5, rfl, by rw [List.length_eraseIdx_of_lt hdl]; omega, ?_, by omega, (PA5.upd nRp nRc).upd nFp nFc, ?_, ?_, ?_⟩
        · have e1 := erV_perm (List.getElem?_eq_getElem hdl)
          rw [List.append_assoc]
          exact (e1.append_left fs).trans hp
        · intro b o eb nb
          rw [upd_ne (ne_of_none eb hF0), upd_ne (ne_of_none eb hR0)]
          exact keep5 _ _ (keep0 _ _ eb nb) nb
        · rw [upd_ne nRF, upd_same]
        · rw [upd_same]
    obtain ⟨ys, u', r', rfl, hp, hu', PA', keep', gF⟩ := h2
    exact ⟨_, rfl, k F' ys u' r' H2 hF0 gF hp hu' PA' keep'⟩
end
end Ld
namespace Ld
open PySem PySem.Spec PyProof.Rows L2
open TL
open L2
section
variable {X : Cx} {e : Expr} {es : List Expr} {ta : TA} {p pos : Pos} {B newId initId : String} {bmB : List Value}
/-- raise C(e, ..), C an own error over any built-in one -/
theorem pmk_oexB {CX : CXT} {x : Str} {C fI : Addr} {k : Nat} {fd : FuncData} {ps : List Str} {sp : Sp} {ds : List Value} {dvs : List V} (T : OexB X.K B newId initId bmB C) (exC : PySem.W.subIn X.K (.ref C) (.type "BaseException") = some true) (tyC : PySem.W.typeIn X.K (.ref C) = some (.type "type"))
    (iC : PySem.W.findIn X.K (.ref C) "__init__" = some (some (.ref fI))) (tI : PySem.W.typeIn X.K (.ref fI) = some (.type "function"))
    (F1 : FnOk X.prog X.w X.K X.mg X.base CX k fI fd ps sp) (hr : Room (k + 1) X.A) (hb : Binds X.K fd ps ds) (hd : Vals dvs ds) (hx : Passes CX X (fun _ _ _ => False)) (hg : Gl X x) (hm : X.mg x = some (.ref C)) (ha : PA X (e :: es) ta)
    (hdb : (x == ("__debug__" : Str)) = false := by decide) (he : starEach (e :: es) X.env = (false, eval e X.env) :: starEach es X.env := by rfl) (hpl : (backTo pos (starEach es X.env)).any (·.1) = false := by rfl) :
    PMk X (.Call (.Name x p) (e :: es) [] pos) (tMkO C sp dvs ta) := by
  intro pins s σ H Q I h
  obtain ⟨nm, q, N, bs, sn, sub, ab, col, dd, k0, k1, k2, k3, k5, hC⟩ := T.cls
  refine wpAny_Call_Name_kw (ld_glob I hg hm ?_ hdb)
  refine PySem.W.callWith_K (h₀ := X.base) I.ok.mod.kin T.kC (thn (ha.run pos pins s σ H _ I h) fun us s1 ⟨vs, H1, I1, r1, hz, q1⟩ => ⟨I1.kIn, ?_⟩) he hpl
  show wpAny _ _ (call (.ref C) us) _ _ _
  obtain ⟨hp, g, dr, tk, os⟩ := s1
  have hsz : hp.objs.size ≤ hp.objs.size + 1 := Nat.le_succ _
  have hn : H1 (hp.objs.size + 1) = none := I1.hok.fresh hsz
  have hq := q1 (hp.objs.size + 1) hn
  have kk : ∀ b o, hp.get? b = some o → ((hp.push (PySem.W.kdv_tup us)).push (PySem.HandSPX.excO C hp.objs.size)).get? b = some o := fun b o e => Heap.get?_push_of_some _ (Heap.get?_push_of_some _ e)
  have hget : ((hp.push (PySem.W.kdv_tup us)).push (PySem.HandSPX.excO C hp.objs.size)).get? (hp.objs.size + 1) = some (PySem.HandSPX.excO C hp.objs.size) := by heap_get
  have I2 : Inv X pins σ (upd H1 (hp.objs.size + 1) (exo (hp.objs.size + 1) C none)) ⟨(hp.push (PySem.W.kdv_tup us)).push (PySem.HandSPX.excO C hp.objs.size), g, dr, tk, os⟩ :=
    I1.laid (t' := tk) (a := hp.objs.size + 1) (o := exo (hp.objs.size + 1) C none) (h' := (hp.push (PySem.W.kdv_tup us)).push (PySem.HandSPX.excO C hp.objs.size)) kk hsz (exo_ok hget)
  have r2 : Vals (V.ref (hp.objs.size + 1) :: (vs ++ dvs)) (Value.ref (hp.objs.size + 1) :: (us ++ ds)) := .cons rfl (r1.append hd)
  have hl : (Value.ref (hp.objs.size + 1) :: us ++ ds).length = ps.length := by
    have e := r2.length
    rw [F1.len _ _ _ _ hq] at e
    exact e.symm
  have hus : us.length ≤ sizeLine := by
    rw [← Paired.length r1, sizeLine_eq]
    omega
  refine wpAny_call (PySem.HandSPX.call_own T.F (fun Y => rfl) (I1.kIn _ _ hC) (PySem.W.looks_findIn I1.kIn iC) (fun self => PySem.W.bind_fn I1.kIn self tI) hus
    (codeAny_mono (F1.run _ X.stack _ _ ⟨Value.ref (hp.objs.size + 1) :: us, []⟩ (Value.ref (hp.objs.size + 1) :: (us ++ ds)) _ _ (fun _ _ _ => False) (hr.make C us []) (I2.env0.make C us []) (hb _ (Value.ref (hp.objs.size + 1) :: us) I2.kIn hl) r2 hq) fun r s' hq' => ?_))
  cases r with
  | error er => exact hx pins σ _ _ er s' I2 hq'
  | ok fl =>
    cases fl with
    | ret u =>
      obtain ⟨v, H2, os2, bare2, un2, hok2, rv, ev, d, fs, ea, ed, hd1, q2⟩ := hq'
      subst ev
      obtain ⟨h2, g2, d2, t2, os'⟩ := s'
      exact ⟨rv, mk_end (raises_own exC tyC) I1 hsz kk un2 hok2 os2 bare2 ea ed hd1 q2⟩
    | next => exact False.elim hq'
    | brk => exact False.elim hq'
    | cont => exact False.elim hq'
end
/-- an own error over LookupError, OverflowError or RuntimeError, with one field of any kind, as the text has it -/
structure XClsB (K : PySem.W.Frag) (mg : Str → Option Value) (B newId initId : String) (bmB : List Value) (x : Str) (C fI : Addr) : Prop where
  oex : OexB K B newId initId bmB C
  exC : PySem.W.subIn K (.ref C) (.type "BaseException") = some true
  tyC : PySem.W.typeIn K (.ref C) = some (.type "type")
  iC : PySem.W.findIn K (.ref C) "__init__" = some (some (.ref fI))
  tI : PySem.W.typeIn K (.ref fI) = some (.type "function")
  gC : mg x = some (.ref C)
end Ld
namespace Ld
open PySem PySem.Spec PyProof.Rows L2
open TL
/-! ### two tuples that differ at a place -/
inductive DiffP (P : Program) (w : World) (A : Around) (s : Shared) : List (Value × Value) → Prop
  | here {y x : Value} {r : List (Value × Value)} : SeqAt.EqP P w A s y x false → DiffP P w A s ((y, x) :: r)
  | later {y x : Value} {r : List (Value × Value)} : SeqAt.EqP P w A s y x true → DiffP P w A s r → DiffP P w A s ((y, x) :: r)
theorem tup_ne_diff {P : Program} {w : World} {l b : Addr} {us vs : Array Value} {n m : Nat} {dd dd2 : Option Addr} {sl sl2 : Array (Option Value)} :
    MeetsIn P w (Builtin.«tuple.__ne__» ⟨[.ref l, .ref b], []⟩)
      (fun A R s => s.heap.get? l = some { cls := .type "tuple", dict := dd, data := .seq us n, slots := sl } ∧ s.heap.get? b = some { cls := .type "tuple", dict := dd2, data := .seq vs m, slots := sl2 } ∧
        DiffP P w A.in1 s (us.toList.zip vs.toList) ∧ R (.ok (.ret (.bool true))) s) := by
  intro A R s h
  obtain ⟨hp, g, d, tk, os⟩ := s
  obtain ⟨hl, hb, hd, hR⟩ := h
  have f2 := AutoSeq1.sub_tuple_tuple
  wp_walk using wpAny_loadPart' hl, wpAny_loadPart' hb, wpAny_forIn_list _ (fun rest b s' => b.1 = none ∧ s' = ⟨hp, g, d, tk, os⟩ ∧ DiffP P w A.in1 ⟨hp, g, d, tk, os⟩ rest) _
  case turn =>
    rintro ⟨y, x⟩ rest b s' ⟨_, rfl, df⟩
    cases df with
    | here he =>
      refine wpAny_bind (he _ _ ?_)
      wp_walk
      exact hR
    | later he ht =>
      refine wpAny_bind (he _ _ ?_)
      wp_walk
      exact ⟨rfl, rfl, ht⟩
  case fin =>
    rintro ⟨b1, b2⟩ s' ⟨_, _, df⟩
    cases df
  case h => exact ⟨rfl, rfl, hd⟩
/-- the items differ: two scalars, or two dicts of counts, behind equal ones -/
inductive DiffV (H : Hp) : List V → List V → Prop
  | int {i j : Int} {xs ys : List V} : i ≠ j → DiffV H (.int i :: xs) (.int j :: ys)
  | str {i j : Str} {xs ys : List V} : i ≠ j → DiffV H (.str i :: xs) (.str j :: ys)
  | dict {a b : Addr} {ps qs : List (Str × Int)} {xs ys : List V} : a ≠ b → H a = some (.dK (cD ps)) → H b = some (.dK (cD qs)) → (ps.length == qs.length && hitB qs ps) = false → DiffV H (.ref a :: xs) (.ref b :: ys)
  | flat {v : V} {xs ys : List V} : flatB v = true → DiffV H xs ys → DiffV H (v :: xs) (v :: ys)
def rNeDf (K : PySem.W.Frag) : R2 := fun x y H Q => ∃ a b xs ys, x = .ref a ∧ y = .ref b ∧ SqT K H a xs ∧ SqT K H b ys ∧ DiffV H xs ys ∧ Q (.bl true) H
section
variable {X : Cx}
theorem diff_run {pins : List (Addr × Obj)} {σ : L2.St} {H : Hp} {s : Shared} (I : Inv X pins σ H s) {A : Around} (hu : A.units < cLine) : ∀ {xs ys : List V} {us vs : List Value}, DiffV H xs ys → Vals xs us → Vals ys vs → DiffP X.prog X.w A s (us.zip vs)
  | _, _, _, _, @DiffV.int _ i j _ _ ne, .cons r1 _, .cons r2 _ => by
    obtain ⟨t, rfl⟩ := r1
    obtain ⟨t', rfl⟩ := r2
    have h := (SeqAt.EqAt.int_int (A := A) (s := s) i t j t').eqP (prog := X.prog) (w := X.w)
    rw [beq_eq_false_iff_ne.mpr ne] at h
    exact .here h
  | _, _, _, _, @DiffV.str _ i j _ _ ne, .cons r1 _, .cons r2 _ => by
    obtain ⟨t, rfl⟩ := r1
    obtain ⟨t', rfl⟩ := r2
    have h := (SeqAt.EqAt.str_str (A := A) (s := s) i t j t').eqP (prog := X.prog) (w := X.w)
    rw [beq_eq_false_iff_ne.mpr ne] at h
    exact .here h
  | _, _, _, _, @DiffV.dict _ a b ps qs _ _ ne ea eb hf, .cons r1 _, .cons r2 _ => by
    cases (show _ = Value.ref a from r1)
    cases (show _ = Value.ref b from r2)
    obtain ⟨_, ya, va, ra, da⟩ := (show ObjOk X.prog X.w H s.heap a (.dK (cD ps)) from I.hok a _ ea)
    obtain ⟨_, yb, vb, rb, db⟩ := (show ObjOk X.prog X.w H s.heap b (.dK (cD qs)) from I.hok b _ eb)
    have hl : (va.length == vb.length) = (ps.length == qs.length) := by rw [← ra.length, ← rb.length, cD_len, cD_len]
    refine .here (SeqAt.eqP_refs ne fun E Q q => ?_)
    refine PySem.W.keq_eq (knd := mixKind X.prog X.w) (r := hitB qs ps) ya yb da db hu (fun _ => hits_ct rb ra) ?_
    rw [hl, hf]
    exact q
  | _, _, _, _, .flat f k, .cons r1 t1, .cons r2 t2 => .later (eqAt_same r1 r2 f).eqP (diff_run I hu k t1 t2)
theorem op_neDf (hu : X.A.units + 1 < cLine) : OpR X (compareOp .NotEq) (rNeDf X.K) := by
  intro pins s σ H x y v u Q I rx ry h
  obtain ⟨a, b, xs, ys, rfl, rfl, ha, hb, hd, q⟩ := h
  obtain rfl : v = Value.ref a := rx
  obtain rfl : u = Value.ref b := ry
  obtain ⟨us, r1, ⟨o1, e1, c1, n1, d1⟩, _⟩ := I.tuple ha
  obtain ⟨vs, r2, ⟨o2, e2, c2, n2, d2⟩, _⟩ := I.tuple hb
  obtain ⟨cls, dd, data, sl⟩ := o1
  obtain ⟨cls2, dd2, data2, sl2⟩ := o2
  simp only at c1 d1 c2 d2
  subst c1 d1 c2 d2
  have df := diff_run I (A := X.A.in1) (by show X.A.units + 1 < cLine; omega) hd r1 r2
  exact wpAny_richCompare_same_room (op := .NotEq) ⟨_, e1, rfl⟩ ⟨_, e2, rfl⟩ F.slot_tuple_ne (call_meetsIn F.slot_tuple_ne ⟨_, e1, rfl⟩ F.entry_tuple_ne (F.args_tuple_ne_2 _ _) tup_ne_diff
    ⟨e1, e2, df, show Value.bool true ≠ Value.notImplemented ∧ _ from ⟨(fun x => nomatch x), ⟨.bl true, H, I, rfl, q⟩⟩⟩) (by omega)
/-- two tuples that differ at a place, or of the same items -/
def rNeDq (K : PySem.W.Frag) : R2 := fun x y H Q => ∃ a b xs ys, x = .ref a ∧ y = .ref b ∧ SqT K H a xs ∧ SqT K H b ys ∧ ((DiffV H xs ys ∧ Q (.bl true) H) ∨ (xs = ys ∧ (∀ v ∈ xs, flatB v = true ∨ ∃ c, v = .ref c) ∧ Q (.bl false) H))
theorem vals_at : ∀ {xs : List V} {us vs : List Value}, (∀ v ∈ xs, flatB v = true ∨ ∃ c, v = .ref c) → Vals xs us → Vals xs vs → ∀ {A : Around} {s : Shared} (j : Nat) (h1 : j < us.length) (h2 : j < vs.length), SeqAt.EqAt A s us[j] vs[j] true
  | _, _, _, _, .nil, .nil, _, _, j, h1, _ => absurd h1 (Nat.not_lt_zero j)
  | v :: _, _, _, hf, .cons r1 t1, .cons r2 t2, _, _, 0, _, _ => by
    rcases hf v List.mem_cons_self with f | ⟨c, rfl⟩
    · exact eqAt_same r1 r2 f
    · cases (show _ = Value.ref c from r1)
      cases (show _ = Value.ref c from r2)
      exact SeqAt.EqAt.same _
  | _ :: _, _, _, hf, .cons _ t1, .cons _ t2, _, _, j + 1, h1, h2 => vals_at (fun v hv => hf v (List.mem_cons_of_mem _ hv)) t1 t2 j (Nat.lt_of_succ_lt_succ h1) (Nat.lt_of_succ_lt_succ h2)
theorem op_neDq (hu : X.A.units + 1 < cLine) : OpR X (compareOp .NotEq) (rNeDq X.K) := by
  intro pins s σ H x y v u Q I rx ry h
  obtain ⟨a, b, xs, ys, ex, ey, ha, hb, h⟩ := h
  rcases h with ⟨hd, q⟩ | ⟨rfl, hf, q⟩
  · exact op_neDf hu pins s σ H x y v u Q I rx ry ⟨a, b, xs, ys, ex, ey, ha, hb, hd, q⟩
  · subst ex ey
    obtain rfl : v = Value.ref a := rx
    obtain rfl : u = Value.ref b := ry
    obtain ⟨us, r1, ⟨o1, e1, c1, n1, d1⟩, _⟩ := I.tuple ha
    obtain ⟨vs, r2, ⟨o2, e2, c2, n2, d2⟩, _⟩ := I.tuple hb
    have hl : us.length = vs.length := by rw [← r1.length, ← r2.length]
    refine SeqAt.RcNeAt.tuples (e := fun _ => true) ⟨o1, e1, c1, n1, d1⟩ ⟨o2, e2, c2, n2, d2⟩ (by omega) (fun j h1 h2 => ?_) X.prog X.w X.xe _ ?_
    · have := vals_at hf r1 r2 (A := X.A.in1) (s := s) j (by simpa using h1) (by simpa using h2)
      simpa using this
    · have e : (!((List.range (min us.toArray.size vs.toArray.size)).all (fun _ => true) && us.toArray.size == vs.toArray.size)) = false := by
        rw [List.all_eq_true.mpr fun _ _ => rfl, List.size_toArray, List.size_toArray, hl]
        simp
      rw [e]
      exact ⟨.bl false, H, I, rfl, q⟩
/-! ### repr of a tuple of scalars and dicts -/
def rReprT (K : PySem.W.Frag) : List V → Hp → VK → Prop := fun vs H Q => ∃ (a : Addr) (xs : List V) (ds : List PyData), vs = [.ref a] ∧ SqT K H a xs ∧ Paired (ItR H) xs ds ∧ (PyData.tuple ds).showable = true ∧ (PyData.tuple ds).depth ≤ 60 ∧ (PyData.tuple ds).shown.length ≤ sizeLine ∧ Q (.str (PyData.tuple ds).shown) H
theorem call_reprT (hgd : X.A.guards = some []) (hu : X.A.units + 64 < cLine) : CallR X (.builtin "repr") (rReprT X.K) := by
  intro pins s σ H vs us Q I r h
  obtain ⟨a, xs, ds, rfl, hs, hi, hsh, hdp, hsz, q⟩ := h
  rw [Vals.ref1 r]
  obtain ⟨its, rv, ⟨o, h1, h2, n, h3⟩, _⟩ := I.tuple hs
  obtain ⟨as, h4, hno⟩ := readsAll_it I.hok hi rv
  have hz : (tupleText (PyData.shownAll ds)).length ≤ sizeLine := by simpa only [PyData.shown] using hsz
  obtain ⟨bs, hb, hk⟩ := ReprAllK.of_readsAll (prog := X.prog) (w := X.w) h4 (by simpa [PyData.showable] using hsh) (fun _ => hno) (fun t ht => Nat.le_trans (tupleText_mem_le ht) hz)
  have rd : Reads s.heap (.ref a) (.tuple ds) as := .tuple h1 h2 h3 (by simpa using h4)
  have hna : a ∉ bs := not_mem_of_deeper rd (by simp only [PyData.depth]; omega) hb
  simp only [PyData.depth] at hdp
  simp only [PyData.shown] at q
  refine call_repr_slot (T := "tuple") (idr := "tuple.__repr__") (by omega) ⟨o, h1, h2⟩ F.slot_tuple_repr ?_
  exact call_tuple_reprK h1 h2 h3 hna (by simpa using hk) hgd (fun b _ => Clear.nil b) (by show X.A.units + 1 + _ < cLine; omega) (fun _ _ e => e)
    (fun h' u tk k => ⟨_, _, rfl, .str _, H, I.kept (t' := tk) k, ⟨u, rfl⟩, q⟩) hz
end
end Ld
namespace Ld
open PySem PySem.Spec PyProof.Rows L2
open TL
theorem Paired.nth {α β : Type} {F : α → β → Prop} : ∀ {l : List α} {m : List β}, Paired F l m → ∀ {i : Nat} {a : α} {b : β}, l[i]? = some a → m[i]? = some b → F a b
  | _, _, .nil, i, a, b, h, _ => by simp at h
  | _, _, .cons h t, 0, a, b, h1, h2 => by
    simp at h1 h2
    subst h1 h2
    exact h
  | _, _, .cons h t, i + 1, a, b, h1, h2 => Paired.nth t (by simpa using h1) (by simpa using h2)
theorem mrg_app : ∀ {qs acc : List (Str × Int)}, ((acc ++ qs).map (·.1)).Nodup → mrg acc qs = acc ++ qs
  | [], acc, _ => (List.append_nil acc).symm
  | q :: r, acc, nd => by
    have hq : q.1 ∉ acc.map (·.1) := by
      rw [List.map_append, List.nodup_append] at nd
      intro h
      exact nd.2.2 q.1 h q.1 List.mem_cons_self rfl
    have e : putI acc q.1 q.2 = acc ++ [q] := by
      unfold putI
      rw [if_neg hq]
    show mrg (putI acc q.1 q.2) r = _
    have e2 : acc ++ q :: r = (acc ++ [q]) ++ r := by rw [List.append_assoc]; rfl
    rw [e, e2]
    exact mrg_app (by rw [← e2]; exact nd)
/-! ### f(k = v, ..) of an own def, no positional values -/
theorem pe_callN0 {X : Cx} {CX : CXT} {k : Nat} {f : Addr} {fd : FuncData} {ps ks : List Str} {sp : Sp} {E : XK} {x : Str} {p pos : Pos} {kws : List Keyword} {tk : TA} {g : List Value → List Value → List Value} {gV : List V → List V → List V}
    (F : FnOk X.prog X.w X.K X.mg X.base CX k f fd ps sp) (hr : Room k X.A) (hg : Gl X x) (hm : X.mg x = some (.ref f)) (hk : PySem.W.keepIn X.K (.ref f) = true) (hb : KBn X.K fd ps 0 ks g gV) (hx : Passes CX X E)
    (hkw : PK X kws tk) (hall : (backToKw pos (keywordEach kws X.env)).all (·.1.isSome) = true := by rfl) (hks : (backToKw pos (keywordEach kws X.env)).filterMap (·.1) = ks := by rfl) (hdb : (x == ("__debug__" : Str)) = false := by decide)
    (hpl : ((backTo pos (starEach [] X.env)).any (·.1) || (backToKw pos (keywordEach kws X.env)).any (·.1.isNone)) = false := by rfl) :
    PE X (.Call (.Name x p) [] kws pos) (tCallN 0 ks.length sp gV E tNil tk) := by
  refine ⟨fun pins s σ H Q I h => ?_⟩
  refine wpAny_Call_Name_kw (ld_glob I hg hm ?_ hdb)
  refine PySem.W.callWith_KW0 (h₀ := X.base) I.ok.mod.kin hk hall ?_ hpl
  refine thn (hkw.run pos pins s σ H _ I h) fun ws s2 ⟨zs, H2, I2, rz, l1, l2, q2⟩ => ⟨I2.kIn, ?_⟩
  rw [hks]
  exact run_fnN (us := []) (vs := []) F hr hb hx I2 .nil rz l1 l2 q2
/-! ### repr of a list of tuples of scalars and dicts -/
def ItR2 (H : Hp) (x : V) (d : PyData) : Prop := ItR H x d ∨ ∃ a xs ds, x = .ref a ∧ H a = some (.tup xs) ∧ Paired (ItR H) xs ds ∧ d = .tuple ds
theorem readsAll_it2 {P : Program} {w : World} {H : Hp} {h : Heap} (ok : HOk P w H h) : ∀ {xs : List V} {ds : List PyData} {us : List Value}, Paired (ItR2 H) xs ds → Vals xs us → ∃ as, ReadsAll h us ds as ∧ sysModules ∉ as
  | _, _, _, .nil, r => by
    cases r
    exact ⟨[], .nil, fun h => nomatch h⟩
  | _, _, _, .cons i t, r => by
    cases r with
    | cons r1 r2 =>
      obtain ⟨bs, h1, n1⟩ := readsAll_it2 ok t r2
      rcases i with i | ⟨a, xs, ds, rfl, e, hi, rfl⟩
      · obtain ⟨cs, h2, n2⟩ := readsAll_it ok (.cons i .nil) (.cons r1 .nil)
        cases h2 with
        | @cons _ _ _ _ c1 c2 q1 q2 =>
          cases q2
          exact ⟨c1 ++ bs, .cons q1 h1, fun q => (List.mem_append.mp q).elim (fun z => n2 (List.mem_append_left _ z)) n1⟩
      · cases (show _ = Value.ref a from r1)
        obtain ⟨_, its, rv, o, ho, hc, n, hd⟩ := (show ObjOk P w H h a (.tup xs) from ok a _ e)
        obtain ⟨cs, h2, n2⟩ := readsAll_it ok hi rv
        exact ⟨cs ++ bs, .cons (.tuple ho hc hd (by simpa using h2)) h1, fun q => (List.mem_append.mp q).elim n2 n1⟩
def rReprL2 (K : PySem.W.Frag) : List V → Hp → VK → Prop := fun vs H Q => ∃ (a : Addr) (xs : List V) (ds : List PyData), vs = [.ref a] ∧ SqL K H a xs ∧ Paired (ItR2 H) xs ds ∧ (PyData.list ds).showable = true ∧ (PyData.list ds).depth ≤ 60 ∧ (PyData.list ds).shown.length ≤ sizeLine ∧ Q (.str (PyData.list ds).shown) H
theorem call_reprL2 {X : Cx} (hgd : X.A.guards = some []) (hu : X.A.units + 64 < cLine) : CallR X (.builtin "repr") (rReprL2 X.K) := by
  intro pins s σ H vs us Q I r h
  obtain ⟨a, xs, ds, rfl, hs, hi, hsh, hdp, hsz, q⟩ := h
  rw [Vals.ref1 r]
  obtain ⟨its, rv, ⟨o, n, h1, h2, _, h3⟩, _⟩ := I.list hs
  obtain ⟨as, h4, hno⟩ := readsAll_it2 I.hok hi rv
  have hz : (listText (PyData.shownAll ds)).length ≤ sizeLine := by simpa only [PyData.shown] using hsz
  obtain ⟨bs, hb, hk⟩ := ReprAllK.of_readsAll (prog := X.prog) (w := X.w) h4 (by simpa [PyData.showable] using hsh) (fun _ => hno) (fun t ht => Nat.le_trans (listText_mem_le ht) hz)
  have rd : Reads s.heap (.ref a) (.list ds) (a :: as) := .list h1 h2 h3 (by simpa using h4)
  have hna : a ∉ bs := not_mem_of_deeper rd (by simp only [PyData.depth]; omega) hb
  simp only [PyData.depth] at hdp
  simp only [PyData.shown] at q
  refine call_repr_slot (T := "list") (idr := "list.__repr__") (by omega) ⟨o, h1, h2⟩ F.slot_list_repr.toG ?_
  cases its with
  | nil =>
    cases h4
    simp only [PyData.shownAll, listText_nil] at q
    exact call_list_repr_empty ⟨o, h1, h2⟩ h1 h3 ⟨_, _, rfl, .str _, H, I.tok _, ⟨_, rfl⟩, q⟩
  | cons x l =>
    exact call_list_reprK h1 h2 h3 hna (by simpa using hk.length_eq) (fun i y e => hk.item i y (by simpa using e)) hgd (fun b _ => Clear.nil b) (by show X.A.units + 1 + _ < cLine; omega) (fun _ _ e => e)
      (fun h' u tk k => ⟨_, _, rfl, .str _, H, I.kept (t' := tk) k, ⟨u, rfl⟩, q⟩) hz
/-! ### pairs made of a dict's keys -/
theorem dget_rd {H : Hp} {a : Addr} {ps : List (Str × Int)} {z : Str} (e : Rd H a (.dK (cD ps))) : DGet H a (.str z) ((ctO ps z).map V.int) :=
  .inl ⟨cD ps, Sum.inr z, e, rfl, (valV_cD _ _).symm⟩
theorem dget_in {H : Hp} {a : Addr} {ps : List (Str × Int)} {z : Str} {i : Int} (e : Rd H a (.dK (cD ps))) (nd : (ps.map (·.1)).Nodup) (h : (z, i) ∈ ps) : DGet H a (.str z) (some (.int i)) := by
  have q := dget_rd (z := z) e
  rw [ctO_some (List.mem_map.mpr ⟨(z, i), h, rfl⟩ : z ∈ ps.map (·.1)), ct_mem nd h] at q
  exact q
theorem merge_nd {qs : List (Str × Int)} (nd : (qs.map (·.1)).Nodup) : mergeK [] (cD qs) = cD qs := by
  have e0 : mergeK [] (cD qs) = cD (mrg [] qs) := mergeK_cD _ []
  rw [e0, mrg_app (by rw [List.nil_append]; exact nd), List.nil_append]
theorem lk_counts {t D : Addr} {od : Obj} {ps : List (Str × Int)} {g : TG} {tt : TT} {te : TE} {vs : List Nat} {σ : L2.St} {H : Hp} {Qd : Hp → Prop} (f : Int → Int) (flt : Int → Bool) (ht : H t = some (.frz od (.dK (cD ps)))) (few : ps.length ≤ 1000) (hD : H D = none)
    (hturn : ∀ (z : Str) (i : Int) (H3 : Hp) (R : V → Hp → Prop) (R' : Hp → Prop), Rd H3 t (.dK (cD ps)) → (z, i) ∈ ps → (flt i = true → ∀ T', H3 T' = none → R (.ref T') (upd H3 T' (.tup [.str z, .int (f i)]))) → (flt i = false → R' H3) →
      g (.str z) (wipe σ vs) H3 fun σ2 H2 => wipe σ2 vs = wipe σ vs ∧ tt σ2 H2 fun b H3 => if b = true then te σ2 H3 fun y H4 => R y H4 else R' H3)
    (hq : ∀ H' us, Same H H' → H' D = some (.lst (us.map V.ref)) → TupsAt H' us (mapC f flt ps) → Qd H') :
    ∃ W : Nat → Nat → Hp → Prop, (∃ m, W 0 m (upd H D (.lst []))) ∧ ∀ i m H, W i m H →
      ((Itk t od (cD ps)).stop i H ∧ Qd H) ∨ ((Itk t od (cD ps)).go i H ∧ ∃ Nx : Hp → Prop, (∀ H', Nx H' → ∃ m', m' < m ∧ W (i + 1) m' H') ∧ ∀ x H', (Itk t od (cD ps)).yld i H x H' → g x (wipe σ vs) H' fun σ2 H2 => wipe σ2 vs = wipe σ vs ∧ tt σ2 H2 fun b H3 =>
        if b = true then te σ2 H3 fun y H4 => ∃ acc, H4 D = some (.lst acc) ∧ acc.length < sizeLine ∧ Nx (upd H4 D (.lst (acc ++ [y]))) else Nx H3) := by
  refine lc_it (walk_keys (d := t) (o := od) (kvs := cD ps)) (fun j H' => ∃ us : List Addr, Same H H' ∧ H' D = some (.lst (us.map V.ref)) ∧ TupsAt H' us (mapC f flt (ps.take j)))
    ⟨[], same_new hD, upd_same, .nil⟩ (fun j H' _ ⟨_, h, _⟩ => h _ _ ht) ?_ ?_
  · rintro j x H5 H6 hj ⟨us, same, eD, hus⟩ ⟨rfl, k, v, hx, rfl⟩
    rw [cD_len] at hj
    have hp : (cD ps)[j]? = some (Sum.inr ps[j].1, V.int ps[j].2) := by
      unfold cD
      rw [List.getElem?_map, List.getElem?_eq_getElem hj]
      rfl
    rw [hp] at hx
    cases hx
    have e1 : mapC f flt (ps.take (j + 1)) = mapC f flt (ps.take j) ++ (if flt ps[j].2 = true then [(ps[j].1, f ps[j].2)] else []) := by
      unfold mapC
      rw [List.take_add_one, List.getElem?_eq_getElem hj, List.filter_append, List.map_append]
      congr 1
      show (List.filter _ [ps[j]]).map _ = _
      rw [List.filter_cons]
      split <;> rfl
    refine hturn ps[j].1 ps[j].2 H6 _ _ (.inr ⟨od, same _ _ ht⟩) (List.getElem_mem hj) (fun c T1 hT => ?_) (fun c => ?_)
    · have nTD : D ≠ T1 := ne_of_none eD hT
      refine ⟨_, by rw [upd_ne nTD]; exact eD, ?_, us ++ [T1], ?_, ?_, ?_⟩
      · have e5 : us.length = (mapC f flt (ps.take j)).length := Paired.length hus
        have e6 : (mapC f flt (ps.take j)).length ≤ ps.length := by
          refine Nat.le_trans mapC_len ?_
          rw [List.length_take]
          omega
        rw [List.length_map, e5]
        exact Nat.lt_of_le_of_lt (Nat.le_trans e6 few) (by decide)
      · intro c o ec
        have e6 := same _ _ ec
        rw [upd_ne (ne_of_none ec hD), upd_ne (ne_of_none e6 hT)]
        exact e6
      · rw [upd_same, List.map_append]
        rfl
      · rw [e1, if_pos c]
        refine .snoc (TupsAt.keep hus fun t xs ht => ?_) ?_
        · rw [upd_ne (ne_of ht eD fun z => nomatch z), upd_ne (ne_of_none ht hT)]
          exact ht
        · rw [upd_ne nTD.symm, upd_same]
    · refine ⟨us, same, eD, ?_⟩
      rw [e1, if_neg (by rw [c]; exact Bool.false_ne_true), List.append_nil]
      exact hus
  · rintro H5 ⟨us, same, eD, hus⟩
    rw [cD_len, List.take_of_length_le (Nat.le_refl _)] at hus
    exact hq H5 us same eD hus
end Ld
namespace Ld
open PySem PySem.Spec PyProof.Rows L2
open TL
def spClnL : Sp := fun vs H Q _ => ∃ (a : Addr) (ps : List (Str × Int)), vs = [.ref a] ∧ H a = some (.dK (cD ps)) ∧ (ps.map (·.1)).Nodup ∧ (∀ q ∈ ps, wordB q.1 = true) ∧ ps.length ≤ 100 ∧
  ∀ (H' : Hp) (p : Addr) (rs : List (Str × Int)), Same H H' → H p = none → H' p = some (.dK (cD rs)) → Can rs → (∀ z, ct rs z = ct ps z) → Q (.ref p) H'
section
variable {P : Program} {w : World} {K : PySem.W.Frag} {mg : Str → Option Value} {base : Heap}
abbrev nCln : List Str := ["_law_counts", "_law_kind"]
theorem scClnL : FnScope nCln ["_law_counts"] (defScope sClnL) := ⟨rfl, rfl, rfl, by decide +kernel, rfl, by decide +kernel, by decide +kernel⟩
theorem ok_clnL {f : Addr} {fd : FuncData} (F : Fun K "_law_clean" "_law_clean" sClnL f fd) (B2 : Blt2 mg) (mSet : mg "set" = none) : FnOk P w K mg base CX0 1 f fd ["_law_counts"] spClnL := by
  refine F.ok scClnL (fun vs H Q E h => ?_) (fun cdv A outer s H vs Q E hr h => ?_)
  · obtain ⟨a, ps, rfl, _⟩ := h
    rfl
  · obtain ⟨a, ps, rfl, ha, hnd, hwd, hfew, q⟩ := h
    have nd : nCln.Nodup := scClnL.nd
    have hu := hu_of hr
    refine ⟨_, pss_one (ps_ret (pe_callTy (call_dictP rfl) (by rfl) B2.dict bDict (pa_cons (pe_lc (own := [("_law_kind", 1)]) (g := gName 1) rfl nd (pi_list (pe_callB (cr_sortedTx rfl) (by rfl) B2.sorted (by decide +kernel) (pa_cons (pe_callTy cr_setD (by rfl) mSet (by decide +kernel) (pa_cons (pv 0) pa_nil)) pa_nil))) (blkOk_by (N := nCln) (sc := defScope sClnL) (by decide +kernel)) (fun _ _ _ _ _ => pg_name (i := 1) nd rfl (Or.inl rfl)) (fun _ _ _ _ _ => (pts_one (pt_cmpR op_ne (pe_dget hu (pv 0) (pv 1) (fun _ _ => rfl)) pe_int (nomark _)))) (fun _ _ _ _ _ => (pe_tup (pa_cons (pv 1) (pa_cons (pe_dget hu (pv 0) (pv 1) (fun _ _ => rfl)) pa_nil))))) pa_nil))), ?_⟩
    have hkk : (cD ps).map (·.1) = (ps.map (·.1)).map Sum.inr := by
      unfold cD
      rw [List.map_map, List.map_map]
      rfl
    refine ⟨_, rfl, a, cD ps, ps.map (·.1), rfl, .inl ha, hkk, by rw [List.length_map]; omega, fun p4 L hp4 ndL hmL => ?_⟩
    have s4 := same_new (o := TxO w p4 L) hp4
    refine ⟨p4, L, rfl, upd_same, fun e ys perm srt he => ?_⟩
    have s5 := Same.trans s4 (same_new (o := .lst (ys.map V.str)) he)
    refine ⟨e, rfl, ⟨_, .inl (.inl upd_same)⟩, fun D hD => ?_⟩
    have he5 : (upd (upd H p4 (TxO w p4 L)) e (.lst (ys.map V.str))) e = some (.lst (ys.map V.str)) := upd_same
    have ndy : ys.Nodup := perm.nodup_iff.mpr ndL
    have hmy : ∀ y, y ∈ ys ↔ y ∈ ps.map (·.1) := fun y => by rw [perm.mem_iff, hmL]
    have hpy : ys.Perm (ps.map (·.1)) := (List.perm_ext_iff_of_nodup ndy hnd).mpr hmy
    have hyl : ys.length = ps.length := by rw [hpy.length_eq, List.length_map]
    have ha5 := s5 _ _ ha
    obtain ⟨can, cts⟩ := tidy_can hnd hwd (by omega) hpy srt
    refine lc_it (walk_list (xs := ys.map V.str)) (fun j H' => ∃ us : List Addr, Same (upd (upd H p4 (TxO w p4 L)) e (.lst (ys.map V.str))) H' ∧ H' D = some (.lst (us.map V.ref)) ∧ TupsAt H' us (tidy ps (ys.take j)))
      ⟨[], same_new hD, upd_same, .nil⟩ (fun j H' _ ⟨_, h, _⟩ => .inl (.inl (h _ _ he5))) ?_ ?_
    · rintro j x H6 H7 hj ⟨us, same, eD, hus⟩ ⟨rfl, hx⟩
      rw [List.length_map] at hj
      rw [List.getElem?_map, List.getElem?_eq_getElem hj] at hx
      obtain rfl : x = V.str ys[j] := (Option.some.inj hx).symm
      have hin : ys[j] ∈ ps.map (·.1) := (hmy _).mp (List.getElem_mem hj)
      have hget : DGet H7 a (.str ys[j]) (some (.int (ct ps ys[j]))) := by
        have z := dget_rd (z := ys[j]) (.inl (same _ _ ha5) : Rd H7 a (.dK (cD ps)))
        rw [ctO_some hin] at z
        exact z
      have eadd : tidy ps (ys.take (j + 1)) = tidy ps (ys.take j) ++ (if ct ps ys[j] != 0 then [(ys[j], ct ps ys[j])] else []) := by
        unfold tidy
        rw [List.take_add_one, List.getElem?_eq_getElem hj, List.map_append, List.filter_append]
        congr 1
        show List.filter _ [(ys[j], ct ps ys[j])] = _
        rw [List.filter_cons]
        rfl
      refine ⟨rfl, _, rfl, _, rfl, a, _, rfl, hget, rfl, _, rfl, ifb (fun c => ?_) (fun c => ?_)⟩
      · have cz : (ct ps ys[j] != 0) = true := by
          rw [bne_iff_ne]
          intro e
          rw [e] at c
          revert c
          decide +kernel
        refine ⟨_, rfl, _, rfl, _, rfl, a, _, rfl, hget, by show 2 ≤ sizeLine; decide, fun T1 hT => ?_⟩
        have nTD : D ≠ T1 := ne_of_none eD hT
        refine ⟨_, by rw [upd_ne nTD]; exact eD, ?_, us ++ [T1], ?_, ?_, ?_⟩
        · have e5 : us.length = (tidy ps (ys.take j)).length := Paired.length hus
          have e6 : (tidy ps (ys.take j)).length ≤ ys.length := by
            unfold tidy
            refine Nat.le_trans (List.length_filter_le _ _) ?_
            rw [List.length_map, List.length_take]
            omega
          rw [List.length_map, e5]
          exact Nat.lt_of_le_of_lt (by omega : _ ≤ 100) (by decide)
        · intro c o ec
          have e6 := same _ _ ec
          rw [upd_ne (ne_of_none ec hD), upd_ne (ne_of_none e6 hT)]
          exact e6
        · rw [upd_same, List.map_append]
          rfl
        · rw [eadd, if_pos cz]
          refine .snoc (TupsAt.keep hus fun t xs ht => ?_) ?_
          · rw [upd_ne (ne_of ht eD fun z => nomatch z), upd_ne (ne_of_none ht hT)]
            exact ht
          · rw [upd_ne nTD.symm, upd_same]
      · have cz : ¬ (ct ps ys[j] != 0) = true := by
          rw [Bool.not_eq_false', decide_eq_true_eq] at c
          rw [bne_iff_ne]
          exact fun e => e (V.int.inj c)
        refine ⟨us, same, eD, ?_⟩
        rw [eadd, if_neg cz, List.append_nil]
        exact hus
    · rintro H6 ⟨us, same, eD, hus⟩
      rw [List.length_map, List.take_of_length_le (Nat.le_refl _)] at hus
      refine ⟨D, us, cD (tidy ps ys), rfl, .inl (.inl eD), TupsAt.cD hus, fun p hp => ?_⟩
      rw [merge_nd can.nd]
      have sam := Same.trans s5 same
      exact q _ p _ (Same.trans sam (same_new hp)) (Same.none sam hp) upd_same can cts
end
end Ld
namespace Ld
open PySem PySem.Spec PyProof.Rows L2
open TL
/-! ### orders, as a search -/
abbrev Row := Str × Str × List (Str × Int)
abbrev StF := Str → Str → Int
def dl (r : Row) : StF := fun h z => (if h = r.2.1 then ct r.2.2 z else 0) - (if h = r.1 then ct r.2.2 z else 0)
def canB (S : StF) (r : Row) : Bool := r.2.2.all fun q => decide (q.2 ≤ S r.1 q.1) && decide (-q.2 ≤ S r.2.1 q.1)
def app (S : StF) (r : Row) : StF := fun h z => S h z + dl r h z
def Pos0 (S : StF) : Prop := ∀ h z, 0 ≤ S h z
def rowN (rows : List Row) (k : Nat) : Row := rows.getD k ((⟨#[]⟩ : Str), (⟨#[]⟩ : Str), [])
def dfs (rows : List Row) : Nat → List Nat → StF → Option (List Nat)
  | 0, _, _ => some []
  | m + 1, left, S => left.findSome? fun k => if canB S (rowN rows k) = true then (dfs rows m (left.filter fun j => j != k) (app S (rowN rows k))).map (k :: ·) else none
def turnF (rows : List Row) (m : Nat) (left : List Nat) (S : StF) (k : Nat) : Option (List Nat) := if canB S (rowN rows k) = true then (dfs rows m (left.filter fun j => j != k) (app S (rowN rows k))).map (k :: ·) else none
theorem dfs_succ (rows : List Row) (m : Nat) (left : List Nat) (S : StF) : dfs rows (m + 1) left S = left.findSome? (turnF rows m left S) := rfl
def sumD (rows : List Row) (h z : Str) : List Nat → Int
  | [] => 0
  | i :: r => dl (rowN rows i) h z + sumD rows h z r
theorem sumD_perm {rows : List Row} {h z : Str} {D D' : List Nat} (p : D.Perm D') : sumD rows h z D = sumD rows h z D' := by
  induction p with
  | nil => rfl
  | cons x _ ih => show _ + _ = _ + _; rw [ih]
  | swap x y l => show _ + (_ + _) = _ + (_ + _); omega
  | trans _ _ h1 h2 => rw [h1, h2]
theorem sumD_snoc {rows : List Row} {h z : Str} : ∀ {D : List Nat} {k : Nat}, sumD rows h z (D ++ [k]) = sumD rows h z D + dl (rowN rows k) h z
  | [], k => by show _ + 0 = 0 + _; omega
  | i :: r, k => by show _ + sumD rows h z (r ++ [k]) = _ + _ + _; rw [sumD_snoc]; omega
def stOf (rows : List Row) (S0 : StF) (D : List Nat) : StF := fun h z => S0 h z + sumD rows h z D
theorem stOf_perm {rows : List Row} {S0 : StF} {D D' : List Nat} (p : D.Perm D') : stOf rows S0 D = stOf rows S0 D' := by
  funext h z
  show _ + _ = _ + _
  rw [sumD_perm p]
theorem stOf_snoc {rows : List Row} {S0 : StF} {D : List Nat} {k : Nat} : stOf rows S0 (D ++ [k]) = app (stOf rows S0 D) (rowN rows k) := by
  funext h z
  show S0 h z + sumD rows h z (D ++ [k]) = S0 h z + sumD rows h z D + dl (rowN rows k) h z
  rw [sumD_snoc]
  omega
theorem stOf_nil {rows : List Row} {S0 : StF} : stOf rows S0 [] = S0 := by
  funext h z
  show S0 h z + 0 = S0 h z
  omega
/-- the indexes below i that are not done -/
def pre (D : List Nat) (i : Nat) : List Nat := (List.range i).filter fun j => !D.contains j
theorem pre_succ {D : List Nat} {i : Nat} : pre D (i + 1) = pre D i ++ (if D.contains i then [] else [i]) := by
  unfold pre
  rw [List.range_succ, List.filter_append]
  congr 1
  show List.filter _ (i :: []) = _
  rw [List.filter_cons, List.filter_nil]
  cases h : D.contains i <;> rfl
theorem contains_perm {D D' : List Nat} (p : D.Perm D') (j : Nat) : D.contains j = D'.contains j := by
  rw [Bool.eq_iff_iff, List.contains_iff_mem, List.contains_iff_mem]
  exact p.mem_iff
theorem pre_perm {D D' : List Nat} {i : Nat} (p : D.Perm D') : pre D i = pre D' i := by
  unfold pre
  congr 1
  funext j
  rw [contains_perm p]
theorem pre_snoc {D : List Nat} {i k : Nat} : (pre D i).filter (fun j => j != k) = pre (D ++ [k]) i := by
  unfold pre
  rw [List.filter_filter]
  congr 1
  funext j
  rw [Bool.eq_iff_iff]
  simp only [List.contains_iff_mem, Bool.and_eq_true, bne_iff_ne, Bool.not_eq_true', List.contains_eq_mem, decide_eq_false_iff_not, List.mem_append, List.mem_singleton, not_or]
  exact ⟨fun h => ⟨h.2, h.1⟩, fun h => ⟨h.2, h.1⟩⟩
theorem pre_nil {i : Nat} : pre [] i = List.range i := by
  unfold pre
  exact List.filter_eq_self.mpr fun _ _ => rfl
theorem filter_lt {n : Nat} : ∀ {D : List Nat}, D.Nodup → (∀ i ∈ D, i < n) → (pre D n).length + D.length = n
  | [], _, _ => by rw [pre_nil]; simp
  | d :: r, nd, h => by
    have hd : d ∉ r := (List.nodup_cons.mp nd).1
    have ih := filter_lt (List.nodup_cons.mp nd).2 fun i hi => h i (List.mem_cons_of_mem _ hi)
    have e : pre (d :: r) n = (pre r n).filter fun j => j != d := by
      rw [pre_snoc]
      exact pre_perm (List.perm_append_singleton d r).symm
    have hm : d ∈ pre r n := by
      unfold pre
      refine List.mem_filter.mpr ⟨List.mem_range.mpr (h d List.mem_cons_self), ?_⟩
      simpa using hd
    have nd2 : (pre r n).Nodup := List.Nodup.sublist List.filter_sublist List.nodup_range
    have e2 : (pre r n).filter (fun j => j != d) = (pre r n).erase d := by rw [List.Nodup.erase_eq_filter nd2]
    rw [e, e2, List.length_erase_of_mem hm, List.length_cons]
    have : 0 < (pre r n).length := List.length_pos_of_mem hm
    omega
theorem pre_le {D : List Nat} {i n : Nat} (h : i ≤ n) : (pre D i).length ≤ (pre D n).length := by
  induction n with
  | zero => obtain rfl : i = 0 := by omega
            exact Nat.le_refl _
  | succ n ih =>
    by_cases q : i = n + 1
    · rw [q]; exact Nat.le_refl _
    · rw [pre_succ, List.length_append]
      have := ih (by omega)
      omega
/-- what is left splits at an index that is not done -/
theorem pre_split {D : List Nat} {n i : Nat} (h : i < n) (hi : D.contains i = false) : ∃ r, pre D n = pre D i ++ i :: r := by
  induction n with
  | zero => omega
  | succ n ih =>
    rw [pre_succ]
    by_cases q : i = n
    · subst q
      exact ⟨[], by rw [hi]; rfl⟩
    · obtain ⟨r, e⟩ := ih (by omega)
      exact ⟨r ++ (if D.contains n then [] else [n]), by rw [e, List.append_assoc]; rfl⟩
/-- how many sets a search adds at most -/
def most : Nat → Nat
  | 0 => 0
  | m + 1 => 1 + (m + 1) * most m
theorem most_mono : ∀ {m : Nat}, most m ≤ most (m + 1)
  | m => by
    show most m ≤ 1 + (m + 1) * most m
    have : 1 * most m ≤ (m + 1) * most m := Nat.mul_le_mul_right _ (by omega)
    omega
theorem most9 : ∀ {m : Nat}, m ≤ 9 → most m ≤ 1000000 := by
  intro m h
  have k : ∀ j ≤ 9, most j ≤ 1000000 := by decide +kernel
  exact k m h
abbrev isrt (D : List Nat) : List Int := (D.map fun i => ((i : Nat) : Int)).mergeSort fun a b => decide (a ≤ b)
theorem isrt_perm {D D' : List Nat} (h : isrt D = isrt D') : D.Perm D' := by
  have p1 : (isrt D).Perm (D.map fun i => ((i : Nat) : Int)) := List.mergeSort_perm _ _
  have p2 : (isrt D').Perm (D'.map fun i => ((i : Nat) : Int)) := List.mergeSort_perm _ _
  have p3 : (D.map fun i => ((i : Nat) : Int)).Perm (D'.map fun i => ((i : Nat) : Int)) := p1.symm.trans (h ▸ p2)
  have p4 := p3.map Int.toNat
  rw [List.map_map, List.map_map] at p4
  have e : ∀ l : List Nat, l.map (Int.toNat ∘ fun i : Nat => (i : Int)) = l := fun l => by
    conv => rhs; rw [← List.map_id l]
    exact List.map_congr_left fun i _ => by simp
  rw [e, e] at p4
  exact p4
/-- what the failed sets tell -/
def FailInv (rows : List Row) (S0 : StF) (fs : List (List Int)) : Prop := ∀ L ∈ fs, ∀ D : List Nat, isrt D = L → dfs rows (rows.length - D.length) (pre D rows.length) (stOf rows S0 D) = none
theorem FailInv.add {rows : List Row} {S0 : StF} {fs : List (List Int)} {D : List Nat} (h : FailInv rows S0 fs) (hD : dfs rows (rows.length - D.length) (pre D rows.length) (stOf rows S0 D) = none) : FailInv rows S0 (fs ++ [isrt D]) := by
  intro L hL D' e
  rcases List.mem_append.mp hL with hL | hL
  · exact h L hL D' e
  · have e2 := List.mem_singleton.mp hL
    have p := isrt_perm (e.trans e2)
    rw [p.length_eq, pre_perm p, stOf_perm p]
    exact hD
theorem pos_app {S : StF} {r : Row} (hS : Pos0 S) (nd : (r.2.2.map (·.1)).Nodup) (ne : r.2.1 ≠ r.1) (hc : canB S r = true) : Pos0 (app S r) := by
  intro h z
  show 0 ≤ S h z + ((if h = r.2.1 then ct r.2.2 z else 0) - (if h = r.1 then ct r.2.2 z else 0))
  have hz := hS h z
  by_cases hz0 : ct r.2.2 z = 0
  · rw [hz0]; split <;> split <;> omega
  · have hin := ct_in hz0
    obtain ⟨q, hq, e⟩ := List.mem_map.mp hin
    have hv := ct_mem nd hq
    rw [e] at hv
    have k := List.all_eq_true.mp hc q hq
    simp only [Bool.and_eq_true, decide_eq_true_eq] at k
    rw [e, ← hv] at k
    obtain ⟨k1, k2⟩ := k
    by_cases e1 : h = r.2.1
    · have e2 : ¬ h = r.1 := fun x => ne (e1.symm.trans x)
      rw [if_pos e1, if_neg e2, e1]
      omega
    · rw [if_neg e1]
      by_cases e2 : h = r.1
      · rw [if_pos e2, e2]
        omega
      · rw [if_neg e2]
        omega
end Ld
namespace Ld
open PySem PySem.Spec PyProof.Rows L2
open TL
/-! ### dicts from texts to what lies at addresses -/
abbrev Ent := List (Str × Addr)
def eD (es : Ent) : List (Key × V) := es.map fun e => (Sum.inr e.1, V.ref e.2)
def getE (es : Ent) (h : Str) : Option Addr := (es.find? fun e => decide (e.1 = h)).map (·.2)
def putE (es : Ent) (h : Str) (b : Addr) : Ent := if (es.any fun e => decide (e.1 = h)) = true then es.map (fun e => if e.1 = h then (e.1, b) else e) else es ++ [(h, b)]
theorem inr_dec {a h : Str} : decide ((Sum.inr a : Key) = Sum.inr h) = decide (a = h) := by
  rw [decide_eq_decide]
  exact ⟨fun e => Sum.inr.inj e, fun e => e ▸ rfl⟩
theorem valV_eD {h : Str} : ∀ {es : Ent}, valV (eD es) (Sum.inr h : Key) = (getE es h).map V.ref
  | [] => rfl
  | e :: r => by
    by_cases q : e.1 = h
    · have e1 : valV (eD (e :: r)) (Sum.inr h : Key) = some (V.ref e.2) := valV_pos (show (Sum.inr e.1 : Key) = Sum.inr h by rw [q])
      rw [e1]
      unfold getE
      rw [List.find?_cons, decide_eq_true q]
      rfl
    · have e1 : valV (eD (e :: r)) (Sum.inr h : Key) = valV (eD r) (Sum.inr h : Key) := valV_neg (show ¬ (Sum.inr e.1 : Key) = Sum.inr h from fun x => q (Sum.inr.inj x))
      rw [e1, valV_eD]
      unfold getE
      rw [List.find?_cons, decide_eq_false q]
theorem any_eD {h : Str} {es : Ent} : ((eD es).any fun kv => decide (kv.1 = (Sum.inr h : Key))) = es.any fun e => decide (e.1 = h) := by
  unfold eD
  rw [List.any_map]
  congr 1
  funext e
  exact inr_dec
theorem putK_eD {es : Ent} {h : Str} {b : Addr} : putK (eD es) (Sum.inr h : Key) (.ref b) = eD (putE es h b) := by
  unfold putK putE
  rw [any_eD]
  split
  · unfold eD
    rw [List.map_map, List.map_map]
    refine List.map_congr_left fun e _ => ?_
    show (if (Sum.inr e.1 : Key) = Sum.inr h then ((Sum.inr e.1 : Key), V.ref b) else (Sum.inr e.1, V.ref e.2)) = (fun e : Str × Addr => ((Sum.inr e.1 : Key), V.ref e.2)) (if e.1 = h then (e.1, b) else e)
    by_cases q : e.1 = h
    · rw [if_pos q, if_pos (by rw [q])]
    · rw [if_neg q, if_neg fun x => q (Sum.inr.inj x)]
  · unfold eD
    rw [List.map_append]
    rfl
theorem getE_none {es : Ent} {h : Str} : getE es h = none ↔ (es.any fun e => decide (e.1 = h)) = false := by
  unfold getE
  rw [Option.map_eq_none_iff, List.find?_eq_none, List.any_eq_false]
theorem getE_map {h k : Str} {b : Addr} : ∀ {es : Ent}, getE (es.map fun e => if e.1 = h then (e.1, b) else e) k = if k = h then (getE es k).map (fun _ => b) else getE es k
  | [] => by unfold getE; split <;> rfl
  | e :: r => by
    have ih := getE_map (h := h) (k := k) (b := b) (es := r)
    unfold getE at ih ⊢
    rw [List.map_cons, List.find?_cons, List.find?_cons]
    have e1 : (if e.1 = h then (e.1, b) else e).1 = e.1 := by split <;> rfl
    rw [e1]
    by_cases q : e.1 = k
    · rw [decide_eq_true q]
      by_cases q2 : e.1 = h
      · rw [if_pos q2, if_pos (q.symm.trans q2)]
        rfl
      · rw [if_neg q2, if_neg (fun x => q2 (q.trans x))]
    · rw [decide_eq_false q]
      exact ih
theorem getE_putE {es : Ent} {h k : Str} {b : Addr} : getE (putE es h b) k = if k = h then some b else getE es k := by
  unfold putE
  by_cases q : (es.any fun e => decide (e.1 = h)) = true
  · rw [if_pos q, getE_map]
    by_cases q2 : k = h
    · rw [if_pos q2, if_pos q2]
      cases g : getE es k with
      | none =>
        rw [getE_none, q2, q] at g
        exact absurd g (by simp)
      | some _ => rfl
    · rw [if_neg q2, if_neg q2]
  · rw [if_neg q]
    have q' : (es.any fun e => decide (e.1 = h)) = false := (Bool.not_eq_true _).mp q
    have g0 := getE_none.mpr q'
    unfold getE at g0 ⊢
    rw [List.find?_append]
    by_cases q2 : k = h
    · subst q2
      rw [if_pos rfl]
      have : es.find? (fun e => decide (e.1 = k)) = none := Option.map_eq_none_iff.mp g0
      rw [this]
      rw [Option.none_or, List.find?_cons, decide_eq_true rfl]
      rfl
    · rw [if_neg q2]
      have : List.find? (fun e : Str × Addr => decide (e.1 = k)) [(h, b)] = none := by
        rw [List.find?_cons, decide_eq_false (fun x => q2 x.symm)]
        rfl
      rw [this, Option.or_none]
theorem putE_keys {es : Ent} {h : Str} {b : Addr} : (putE es h b).map (·.1) = if (es.any fun e => decide (e.1 = h)) = true then es.map (·.1) else es.map (·.1) ++ [h] := by
  unfold putE
  split
  · rw [List.map_map]
    refine List.map_congr_left fun e _ => ?_
    show (if e.1 = h then (e.1, b) else e).1 = e.1
    split <;> rfl
  · rw [List.map_append]
    rfl
theorem putE_len {es : Ent} {h : Str} {b : Addr} : (putE es h b).length ≤ es.length + 1 := by
  have e := congrArg List.length (putE_keys (es := es) (h := h) (b := b))
  rw [List.length_map] at e
  rw [e]
  split
  · rw [List.length_map]; omega
  · rw [List.length_append, List.length_map]; exact Nat.le_refl _
theorem putE_nd {es : Ent} {h : Str} {b : Addr} (nd : (es.map (·.1)).Nodup) : ((putE es h b).map (·.1)).Nodup := by
  rw [putE_keys]
  split
  · exact nd
  · rename_i q
    rw [List.nodup_append]
    refine ⟨nd, (List.nodup_cons.mpr ⟨List.not_mem_nil, List.nodup_nil⟩), fun x hx y hy => ?_⟩
    rw [List.mem_singleton] at hy
    subst hy
    rintro rfl
    obtain ⟨e, he, e1⟩ := List.mem_map.mp hx
    exact q (List.any_eq_true.mpr ⟨e, he, decide_eq_true e1⟩)
/-- stocks: a dict from houses to what holds counts -/
def StkG (R : Hp → Addr → List (Str × Int) → Prop) (H : Hp) (a : Addr) (n : Nat) (S : StF) : Prop := ∃ es : Ent, H a = some (.dK (eD es)) ∧ es.length ≤ n ∧ (es.map (·.1)).Nodup ∧ (∀ e ∈ es, ∃ ps, R H e.2 ps ∧ Can ps ∧ (∀ z, ct ps z = S e.1 z) ∧ wordB e.1 = true) ∧ ∀ h, getE es h = none → ∀ z, S h z = 0
theorem getE_mem {es : Ent} {h : Str} {b : Addr} (e : getE es h = some b) : (h, b) ∈ es := by
  unfold getE at e
  obtain ⟨q, h1, h2⟩ := Option.map_eq_some_iff.mp e
  have h3 := List.find?_some h1
  have h4 := List.mem_of_find?_eq_some h1
  have h5 : q.1 = h := of_decide_eq_true h3
  have h6 : q = (h, b) := by
    obtain ⟨x, y⟩ := q
    dsimp only at h2 h5
    rw [h5, h2]
  rwa [← h6]
theorem StkG.same {R : Hp → Addr → List (Str × Int) → Prop} {H H' : Hp} {a : Addr} {n : Nat} {S : StF} (h : StkG R H a n S) (s : Same H H') (k : ∀ x ps, R H x ps → R H' x ps) : StkG R H' a n S := by
  obtain ⟨es, h1, h2, h3, h4, h5⟩ := h
  exact ⟨es, s _ _ h1, h2, h3, fun e he => let ⟨ps, r, c, q⟩ := h4 e he; ⟨ps, k _ _ r, c, q⟩, h5⟩
/-- the words that loads may tell -/
def SupW (W : List Str) (S : StF) : Prop := ∀ h z, S h z ≠ 0 → z ∈ W
theorem sup_len {W : List Str} {S : StF} {h : Str} {ps : List (Str × Int)} (s : SupW W S) (can : Can ps) (e : ∀ z, ct ps z = S h z) : ps.length ≤ W.length := by
  have := nd_len (l := ps.map (·.1)) (m := W) can.nd fun x hx => by
    obtain ⟨q, hq, rfl⟩ := List.mem_map.mp hx
    have h1 := ct_mem can.nd hq
    have h2 := can.nz q hq
    exact s h _ (by rw [← e, h1]; exact h2)
  rwa [List.length_map] at this
theorem sup_app {W : List Str} {S : StF} {r : Row} (s : SupW W S) (hr : ∀ z ∈ r.2.2.map (·.1), z ∈ W) : SupW W (app S r) := by
  intro h z hz
  by_cases q : S h z = 0
  · have : ct r.2.2 z ≠ 0 := fun e => hz (by
      show S h z + ((if h = r.2.1 then ct r.2.2 z else 0) - (if h = r.1 then ct r.2.2 z else 0)) = 0
      rw [q, e]
      split <;> split <;> rfl)
    exact hr z (ct_in this)
  · exact s h z q
/-- what a drive takes, by the program's comparisons -/
theorem le_pos {c : List (Str × Int)} {p1 st : List (Str × Int)} {f : Int → Int} {flt : Int → Bool} (nd : (c.map (·.1)).Nodup) (h1 : ∀ z, ct p1 z = if flt (ct c z) = true then f (ct c z) else 0) (hp : ∀ z, 0 ≤ ct st z) (h0 : flt 0 = false) (hf : ∀ i, flt i = false → f i ≤ 0) :
    leB p1 st = c.all fun q => decide (f q.2 ≤ ct st q.1) := by
  rw [Bool.eq_iff_iff, leB_iff, List.all_eq_true]
  constructor
  · intro h q hq
    have e := h q.1
    rw [h1, ct_mem nd hq] at e
    refine decide_eq_true ?_
    cases g : flt q.2 with
    | true => rwa [g, if_pos rfl] at e
    | false =>
      have := hf _ g
      have := hp q.1
      omega
  · intro h z
    rw [h1]
    have hz := hp z
    by_cases g : flt (ct c z) = true
    · rw [if_pos g]
      have hin : z ∈ c.map (·.1) := ct_in fun e => by rw [e, h0] at g; cases g
      obtain ⟨q, hq, rfl⟩ := List.mem_map.mp hin
      have := of_decide_eq_true (h q hq)
      rwa [ct_mem nd hq]
    · rw [if_neg g]
      exact hz
end Ld
namespace Ld
open PySem PySem.Spec PyProof.Rows L2
open TL
/-! ### can_drive, stocks_after -/
def DrvAt (C : Addr) (H : Hp) (t : Addr) (r : Row) : Prop := ∃ x, H t = some (.tup [.str r.1, .str r.2.1, .ref x]) ∧ LoadAt C H x r.2.2
theorem DrvAt.same {C : Addr} {H H' : Hp} {t : Addr} {r : Row} (h : DrvAt C H t r) (s : Same H H') : DrvAt C H' t r := by
  obtain ⟨x, h1, h2⟩ := h
  exact ⟨x, s _ _ h1, h2.same s⟩
abbrev StkP (C : Addr) (H : Hp) (a : Addr) (n : Nat) (S : StF) : Prop := StkG (LoadAt C) H a n S
theorem StkP.keep {C : Addr} {H H' : Hp} {a : Addr} {n : Nat} {S : StF} (h : StkP C H a n S) (s : Same H H') : StkP C H' a n S := h.same s fun _ _ e => e.same s
/-- what lies at a house, or nothing -/
theorem stk_get {C : Addr} {H : Hp} {a x0 : Addr} {n : Nat} {S : StF} {h : Str} (g : StkP C H a n S) (z : LoadAt C H x0 []) : ∃ o y ps, DGet H a (.str h) o ∧ o.getD (.ref x0) = .ref y ∧ LoadAt C H y ps ∧ ∀ z, ct ps z = S h z := by
  obtain ⟨es, h1, h2, h3, h4, h5⟩ := g
  have d := DGet.k (k := (Sum.inr h : Key)) h1
  rw [valV_eD] at d
  cases e : getE es h with
  | none =>
    rw [e] at d
    exact ⟨_, x0, [], d, rfl, z, fun z => (h5 h e z).symm ▸ rfl⟩
  | some b =>
    rw [e] at d
    obtain ⟨ps, r, _, q, _⟩ := h4 _ (getE_mem e)
    exact ⟨_, b, ps, d, rfl, r, q⟩
/-- a load whose dict of counts isn't p -/
def LoadNP (C p : Addr) (H : Hp) (x : Addr) (ps : List (Str × Int)) : Prop := ∃ dx t, t ≠ p ∧ H x = some (.ins C dx [("_counts", .ref t)]) ∧ H t = some (.dK (cD ps)) ∧ Can ps
theorem LoadNP.at {C p : Addr} {H : Hp} {x : Addr} {ps : List (Str × Int)} (h : LoadNP C p H x ps) : LoadAt C H x ps := by
  obtain ⟨dx, t, _, a, b, c⟩ := h
  exact ⟨dx, t, a, b, c⟩
theorem LoadNP.same {C p : Addr} {H H' : Hp} {x : Addr} {ps : List (Str × Int)} (h : LoadNP C p H x ps) (s : Same H H') : LoadNP C p H' x ps := by
  obtain ⟨dx, t, n, a, b, c⟩ := h
  exact ⟨dx, t, n, s _ _ a, s _ _ b, c⟩
theorem LoadNP.upd {C p : Addr} {H : Hp} {x : Addr} {ps : List (Str × Int)} {kvs kvs' : List (Key × V)} (h : LoadNP C p H x ps) (hp : H p = some (.dK kvs)) : LoadNP C p (upd H p (.dK kvs')) x ps := by
  obtain ⟨dx, t, n, a, b, c⟩ := h
  exact ⟨dx, t, n, by rw [upd_ne (ne_of a hp fun z => nomatch z)]; exact a, by rw [upd_ne n]; exact b, c⟩
theorem LoadNP.of {C p : Addr} {H : Hp} {x : Addr} {ps : List (Str × Int)} {es : Ent} (h : LoadAt C H x ps) (hp : H p = some (.dK (eD es))) (hn : es = [] → ps ≠ []) : LoadNP C p H x ps := by
  obtain ⟨dx, t, a, b, c⟩ := h
  refine ⟨dx, t, fun e => ?_, a, b, c⟩
  rw [e, hp] at b
  have b' : eD es = cD ps := by injection b with b; injection b
  cases es with
  | nil =>
    cases ps with
    | nil => exact hn rfl rfl
    | cons q r => cases b'
  | cons q r =>
    cases ps with
    | nil => cases b'
    | cons q' r' =>
      unfold eD cD at b'
      rw [List.map_cons, List.map_cons] at b'
      injection b' with b1 b2
      injection b1 with b3 b4
      cases b4
theorem StkG.imp {R R' : Hp → Addr → List (Str × Int) → Prop} {H : Hp} {a : Addr} {n : Nat} {S : StF} (h : StkG R H a n S) (k : ∀ x ps, R H x ps → R' H x ps) : StkG R' H a n S := by
  obtain ⟨es, h1, h2, h3, h4, h5⟩ := h
  exact ⟨es, h1, h2, h3, fun e he => let ⟨ps, r, c, q⟩ := h4 e he; ⟨ps, k _ _ r, c, q⟩, h5⟩
def setH (S : StF) (h : Str) (v : Str → Int) : StF := fun k z => if k = h then v z else S k z
theorem stk_put {R : Hp → Addr → List (Str × Int) → Prop} {H H' : Hp} {a y : Addr} {n : Nat} {S : StF} {h : Str} {ps : List (Str × Int)} (g : StkG R H a n S) (hw : wordB h = true) (hn : n < 1000) (ey : R H y ps) (can : Can ps) (k : ∀ x qs, R H x qs → R (H') x qs) (hk : ∀ kvs : List (Key × V), H a = some (.dK kvs) → H' = upd H a (.dK (putK kvs (Sum.inr h) (.ref y)))) :
    DPut H a (.str h) (.ref y) H' ∧ StkG R H' a (n + 1) (setH S h (ct ps)) := by
  obtain ⟨es, h1, h2, h3, h4, h5⟩ := g
  have e := hk _ h1
  refine ⟨by rw [e]; exact DPut.k (k := (Sum.inr h : Key)) h1 (by unfold eD; rw [List.length_map]; exact Nat.lt_of_le_of_lt (by omega : es.length ≤ 1000) (by decide)), putE es h y, ?_, Nat.le_trans putE_len (by omega), putE_nd h3, fun q hq => ?_, fun k' hk' z => ?_⟩
  · rw [e, upd_same, putK_eD]
  · have gq : getE (putE es h y) q.1 = some q.2 := by
      have nd := putE_nd (b := y) (h := h) h3
      have : ∀ {l : Ent}, (l.map (·.1)).Nodup → q ∈ l → getE l q.1 = some q.2 := by
        intro l
        induction l with
        | nil => intro _ hm; exact nomatch hm
        | cons a r ih =>
          intro nd hm
          rw [List.map_cons, List.nodup_cons] at nd
          unfold getE
          rw [List.find?_cons]
          rcases List.mem_cons.mp hm with rfl | hm
          · rw [decide_eq_true rfl]; rfl
          · have : ¬ a.1 = q.1 := fun x => nd.1 (x ▸ List.mem_map_of_mem hm)
            rw [decide_eq_false this]
            exact ih nd.2 hm
      exact this nd hq
    rw [getE_putE] at gq
    by_cases q1 : q.1 = h
    · rw [if_pos q1] at gq
      have : y = q.2 := Option.some.inj gq
      rw [← this]
      exact ⟨ps, k _ _ ey, can, fun z => by unfold setH; rw [if_pos q1], by rw [q1]; exact hw⟩
    · rw [if_neg q1] at gq
      obtain ⟨ps', r', c', e', w'⟩ := h4 _ (getE_mem gq)
      exact ⟨ps', k _ _ r', c', fun z => by unfold setH; rw [if_neg q1]; exact e' z, w'⟩
  · rw [getE_putE] at hk'
    by_cases q1 : k' = h
    · rw [if_pos q1] at hk'
      cases hk'
    · rw [if_neg q1] at hk'
      unfold setH
      rw [if_neg q1]
      exact h5 _ hk' z
theorem setH_app {S : StF} {r : Row} {p1 p2 : List (Str × Int)} (ne : r.2.1 ≠ r.1) (h1 : ∀ z, ct p1 z = S r.1 z - ct r.2.2 z) (h2 : ∀ z, ct p2 z = S r.2.1 z + ct r.2.2 z) : setH (setH S r.1 (ct p1)) r.2.1 (ct p2) = app S r := by
  funext k z
  show (if k = r.2.1 then ct p2 z else if k = r.1 then ct p1 z else S k z) = S k z + ((if k = r.2.1 then ct r.2.2 z else 0) - (if k = r.1 then ct r.2.2 z else 0))
  by_cases q : k = r.2.1
  · have q2 : ¬ k = r.1 := fun x => ne (q.symm.trans x)
    rw [if_pos q, if_pos q, if_neg q2, h2, q]
    omega
  · rw [if_neg q, if_neg q]
    by_cases q2 : k = r.1
    · rw [if_pos q2, if_pos q2, h1, q2]
      omega
    · rw [if_neg q2, if_neg q2]
      omega
abbrev sFro : Stmt := top 22
abbrev sOrd : Stmt := top 23
abbrev sCanD : Stmt := top 24
abbrev sAftD : Stmt := top 25
abbrev nCan : List Str := ["drive", "stocks", "one", "other", "load"]
abbrev nAft : List Str := ["drive", "stocks", "one", "other", "load", "found"]
def spCan (C : Addr) : Sp := fun vs H Q _ => ∃ (t a : Addr) (r : Row) (n : Nat) (S : StF), vs = [.ref t, .ref a] ∧ DrvAt C H t r ∧ StkP C H a n S ∧ Pos0 S ∧ ∀ H', Same H H' → Q (.bl (canB S r)) H'
def spAft (C : Addr) : Sp := fun vs H Q _ => ∃ (t a : Addr) (r : Row) (n : Nat) (S : StF) (W : List Str), vs = [.ref t, .ref a] ∧ DrvAt C H t r ∧ StkP C H a n S ∧ n < 900 ∧ wordB r.1 = true ∧ wordB r.2.1 = true ∧ r.2.1 ≠ r.1 ∧ r.2.2.length ≤ 100 ∧ r.2.2 ≠ [] ∧ SupW W S ∧ (∀ z ∈ r.2.2.map (·.1), z ∈ W) ∧ W.length ≤ 90 ∧
  ∀ (H' : Hp) (b : Addr), Same H H' → H b = none → StkP C H' b (n + 2) (app S r) → Q (.ref b) H'
section
variable {P : Program} {w : World} {K : PySem.W.Frag} {mg : Str → Option Value} {base : Heap} {C fi : Addr}
theorem scCan : FnScope nCan ["drive", "stocks"] (defScope sCanD) := ⟨rfl, rfl, rfl, by decide +kernel, rfl, by decide +kernel, by decide +kernel⟩
theorem scAft : FnScope nAft ["drive", "stocks"] (defScope sAftD) := ⟨rfl, rfl, rfl, by decide +kernel, rfl, by decide +kernel, by decide +kernel⟩
theorem can_nil : Can [] := ⟨List.nodup_nil, rfl, (fun _ h => nomatch h), (fun _ h => nomatch h), by decide⟩
theorem ok_can {f : Addr} {fd : FuncData} (F : Fun K "can_drive" "can_drive" sCanD f fd) (T : LoadC K mg C fi) (S0 : SlX.SIsi K C) (HP : HasP P w K mg base 6 C "positive" (spMapC C (fun i => i) (fun i => decide (0 < i)))) (HG : HasP P w K mg base 6 C "negative" (spMapC C (fun i => -i) (fun i => decide (i < 0))))
    (HL : HasM P w K mg base 3 C "__le__" (spLe C)) (FI : FnK P w K mg base CX0 3 fi [] (spKw [] (spInitB C))) : FnOk P w K mg base CX0 8 f fd ["drive", "stocks"] (spCan C) := by
  obtain ⟨qP, gP, dP, pP, FP, bP⟩ := HP
  obtain ⟨qG, gG, dG, pG, FG, bG⟩ := HG
  obtain ⟨g2, c1, c2, c3, G2⟩ := HL
  refine F.ok scCan (fun vs H Q E h => ?_) (fun cdv A outer s H vs Q E hr h => ?_)
  · obtain ⟨t, a, r, n, S, rfl, _⟩ := h
    rfl
  · obtain ⟨t, a, ⟨one, other, c⟩, n, S, rfl, ⟨x, gT, gX⟩, gS, hp, q⟩ := h
    have hr3 : Room 3 _ := hr.mono (by decide : 3 ≤ 7)
    have hr5 : Room 4 _ := hr.mono (by decide : 4 ≤ 7)
    have hu := hu_of hr
    have nd : nCan.Nodup := scCan.nd
    refine ⟨_, pss_cons (ps_asg (pv 0) (pg_tup (by rfl) (pgs_cons (pg_name (i := 2) nd rfl (Or.inl rfl)) (pgs_cons (pg_name (i := 3) nd rfl (Or.inl rfl)) (pgs_cons (pg_name (i := 4) nd rfl (Or.inl rfl)) pgs_nil)))))
      (pss_one (ps_ret (pe_and (pe_cmpR (op_cmp (op := .LtE) (fun _ _ => rfl) c1 c3 G2 hr3 pass0) (pe_prop (pv 4) T.c pP FP hr bP .nil pass0 rfl) (pe_dget2 hu (pv 1) (pv 2) (pe_makeQ0 T.mkC FI hr5 (by rfl) T.gC pass0) ⟨by rfl, by rfl, by rfl, by rfl⟩) (nomark _)) (pe_one (pe_cmpR (op_cmp (op := .LtE) (fun _ _ => rfl) c1 c3 G2 hr3 pass0) (pe_prop (pv 4) T.c pG FG hr bG .nil pass0 rfl) (pe_dget2 hu (pv 1) (pv 3) (pe_makeQ0 T.mkC FI hr5 (by rfl) T.gC pass0) ⟨by rfl, by rfl, by rfl, by rfl⟩) (nomark _)))))), ?_⟩
    obtain ⟨dx, tx, gX1, _, can⟩ := id gX
    refine ⟨_, rfl, t, _, rfl, .inl (.inl gT), rfl, _, _, rfl, _, _, rfl, _, _, rfl, rfl, ?_⟩
    refine ⟨_, rfl, x, dx, _, rfl, gX1, x, c, rfl, gX, fun H1 y1 p1 s1 hy1 hl1 hc1 => ?_⟩
    have gS1 := gS.keep s1
    obtain ⟨es, e1, _⟩ := id gS1
    refine ⟨_, rfl, a, rfl, .inl ⟨_, .inl e1⟩, _, rfl, rfl, made_load (y := []) (zs := []) (ps := []) rfl rfl List.nodup_nil (by decide) (fun _ h => nomatch h) fun H2 o1 as s2 ho1 h1 hc0 => ?_⟩
    have z1 : as = [] := can_eq (by obtain ⟨_, _, _, _, k⟩ := h1; exact k) can_nil hc0
    subst z1
    obtain ⟨o, y2, ps, d, eo, hl2, he2⟩ := stk_get (h := one) (gS1.keep s2) h1
    refine ⟨o, d, ?_⟩
    rw [eo]
    have hl1' := hl1.same s2
    obtain ⟨dy, ty, hy, _, _⟩ := id hl1'
    refine ⟨y1, dy, _, _, rfl, hy, hl2.ty T.c S0, nf_self, y1, y2, p1, ps, rfl, hl1', hl2, fun H3 s3 => ⟨_, rfl, ?_⟩⟩
    have l1 : leB p1 ps = c.all fun q => decide (q.2 ≤ S one q.1) := by
      rw [le_pos (f := fun i => i) (flt := fun i => decide (0 < i)) can.nd hc1 (fun z => by rw [he2]; exact hp _ _) (by decide) (fun i h => by
        have := of_decide_eq_false h
        omega)]
      congr 1
      funext q
      rw [he2]
    have s13 := s1.trans (s2.trans s3)
    by_cases hb : leB p1 ps = true
    · rw [if_pos hb]
      refine ⟨_, rfl, x, dx, _, rfl, s13 _ _ gX1, x, c, rfl, gX.same s13, fun H4 y3 p3 s4 hy3 hl3 hc3 => ?_⟩
      have gS3 := (gS.keep s13).keep s4
      obtain ⟨es3, e3, _⟩ := id gS3
      refine ⟨_, rfl, a, rfl, .inl ⟨_, .inl e3⟩, _, rfl, rfl, made_load (y := []) (zs := []) (ps := []) rfl rfl List.nodup_nil (by decide) (fun _ h => nomatch h) fun H5 o5 as5 s5 ho5 h5 hc5 => ?_⟩
      have z5 : as5 = [] := can_eq (by obtain ⟨_, _, _, _, k⟩ := h5; exact k) can_nil hc5
      subst z5
      obtain ⟨o6, y6, ps6, d6, eo6, hl6, he6⟩ := stk_get (h := other) (gS3.keep s5) h5
      refine ⟨o6, d6, ?_⟩
      rw [eo6]
      have hl3' := hl3.same s5
      obtain ⟨dy3, ty3, hy3', _, _⟩ := id hl3'
      refine ⟨y3, dy3, _, _, rfl, hy3', hl6.ty T.c S0, nf_self, y3, y6, p3, ps6, rfl, hl3', hl6, fun H7 s7 => ?_⟩
      have l2 : leB p3 ps6 = c.all fun q => decide (-q.2 ≤ S other q.1) := by
        rw [le_pos (f := fun i => -i) (flt := fun i => decide (i < 0)) can.nd hc3 (fun z => by rw [he6]; exact hp _ _) (by decide) (fun i h => by
          have := of_decide_eq_false h
          omega)]
        congr 1
        funext q
        rw [he6]
      have e : leB p3 ps6 = canB S (one, other, c) := by
        rw [l2]
        rw [l1] at hb
        unfold canB
        rw [Bool.eq_iff_iff, List.all_eq_true, List.all_eq_true]
        rw [List.all_eq_true] at hb
        exact ⟨fun h q hq => by rw [hb q hq, h q hq]; rfl, fun h q hq => ((Bool.and_eq_true _ _).mp (h q hq)).2⟩
      rw [e]
      exact q _ (s13.trans (s4.trans (s5.trans s7)))
    · rw [if_neg hb]
      have e : canB S (one, other, c) = false := by
        rw [l1] at hb
        refine (Bool.not_eq_true _).mp fun h => hb ?_
        unfold canB at h
        rw [List.all_eq_true] at h ⊢
        exact fun q hq => ((Bool.and_eq_true _ _).mp (h q hq)).1
      have q' := q _ s13
      rw [e] at q'
      exact q'
theorem ok_aft {f : Addr} {fd : FuncData} (F : Fun K "stocks_after" "stocks_after" sAftD f fd) (T : LoadC K mg C fi) (S0 : SlX.SIsi K C) (B2 : Blt2 mg) (MF : PySem.W.selfFirst K C = true) {ga gs : Addr} (a1 : PySem.W.findIn K (.ref C) "__add__" = some (some (.ref ga))) (a3 : PySem.W.isFn K (.ref ga) = true) (FA : FnR P w K mg base CX0 7 ga (spAdd C (· + ·)))
    (s1 : PySem.W.findIn K (.ref C) "__sub__" = some (some (.ref gs))) (s3 : PySem.W.isFn K (.ref gs) = true) (FB : FnR P w K mg base CX0 8 gs (spAdd C (· - ·))) (FI : FnK P w K mg base CX0 3 fi [] (spKw [] (spInitB C))) : FnOk P w K mg base CX0 9 f fd ["drive", "stocks"] (spAft C) := by
  refine F.ok scAft (fun vs H Q E h => ?_) (fun cdv A outer s H vs Q E hr h => ?_)
  · obtain ⟨t, a, r, n, S, W, rfl, _⟩ := h
    rfl
  · obtain ⟨t, a, ⟨one, other, c⟩, n, S, W, rfl, ⟨x, gT, gX⟩, gS, hn, hw1, hw2, ne, hc, hc0, sup, hW, hWl, q⟩ := h
    have hr7 : Room 7 _ := hr.mono (by decide : 7 ≤ 8)
    have hr5 : Room 4 _ := hr.mono (by decide : 4 ≤ 8)
    have hu := hu_of hr
    have nd : nAft.Nodup := scAft.nd
    refine ⟨_, pss_cons (ps_asg (pv 0) (pg_tup (by rfl) (pgs_cons (pg_name (i := 2) nd rfl (Or.inl rfl)) (pgs_cons (pg_name (i := 3) nd rfl (Or.inl rfl)) (pgs_cons (pg_name (i := 4) nd rfl (Or.inl rfl)) pgs_nil)))))
      (pss_cons (ps_set (i := 5) nd rfl (Or.inl rfl) (pe_callTy call_dictD (by rfl) B2.dict bDict (pa_cons (pv 1) pa_nil)))
      (pss_cons (ps_dput hu (pv 5) (pv 2) (pe_op (op_bin (op := .Sub) MF s1 s3 FB hr pass0) (pe_dget2 hu (pv 5) (pv 2) (pe_makeQ0 T.mkC FI hr5 (by rfl) T.gC pass0) ⟨by rfl, by rfl, by rfl, by rfl⟩) (pv 4)) rfl)
      (pss_cons (ps_dput hu (pv 5) (pv 3) (pe_op (op_bin (op := .Add) MF a1 a3 FA hr7 pass0) (pe_dget2 hu (pv 5) (pv 3) (pe_makeQ0 T.mkC FI hr5 (by rfl) T.gC pass0) ⟨by rfl, by rfl, by rfl, by rfl⟩) (pv 4)) rfl)
      (pss_one (ps_ret (pv 5)))))), ?_⟩
    obtain ⟨dx, tx, gX1, gX2, can⟩ := id gX
    obtain ⟨es, e1, e2, e3, e4, e5⟩ := gS
    refine ⟨_, rfl, t, _, rfl, .inl (.inl gT), rfl, _, _, rfl, _, _, rfl, _, _, rfl, rfl, ?_⟩
    refine ⟨_, rfl, a, eD es, rfl, .inl e1, fun p hp => ?_⟩
    have k1 := same_new (o := .dK (eD es)) hp
    have gP : StkG (LoadNP C p) (upd H p (.dK (eD es))) p n S := ⟨es, upd_same, e2, e3, fun e he => by
      obtain ⟨ps, ⟨d, tt, r1, r2, r3⟩, c4, c5⟩ := e4 e he
      exact ⟨ps, ⟨d, tt, ne_of_none r2 hp, k1 _ _ r1, k1 _ _ r2, r3⟩, c4, c5⟩, e5⟩
    have gX3 := gX.same k1
    have ep : (upd H p (.dK (eD es))) p = some (.dK (eD es)) := upd_same
    generalize upd H p (.dK (eD es)) = H1 at k1 gP gX3 ep ⊢
    -- found[one]
    refine ⟨_, rfl, p, rfl, .inl ⟨_, .inl ep⟩, _, rfl, rfl, made_load (y := []) (zs := []) (ps := []) rfl rfl List.nodup_nil (by decide) (fun _ h => nomatch h) fun H2 o1 as k2 ho1 h1 hz0 => ?_⟩
    have z1 : as = [] := can_eq (by obtain ⟨_, _, _, _, k⟩ := h1; exact k) can_nil hz0
    subst z1
    have gP2 : StkG (LoadNP C p) H2 p n S := gP.same k2 fun _ _ h => h.same k2
    obtain ⟨o, y2, ps, d, eo, hl2, he2⟩ := stk_get (h := one) (gP2.imp fun _ _ h => h.at) h1
    refine ⟨o, d, ?_⟩
    rw [eo]
    have gX4 := gX3.same k2
    obtain ⟨dx4, tx4, gX5, _, _⟩ := id gX4
    obtain ⟨dy, ty, hy, _, cy⟩ := id hl2
    refine ⟨_, rfl, y2, x, dy, _, dx4, _, rfl, rfl, hy, gX5, y2, x, ps, c, rfl, hl2, gX4, Nat.le_trans (sup_len sup cy he2) (by omega), hc, fun H3 z3 rs k3 hz3 hl3 hr3 => ?_⟩
    have gP3 : StkG (LoadNP C p) H3 p n S := gP2.same k3 fun _ _ h => h.same k3
    have ep3 := k3 _ _ (k2 _ _ ep)
    have hl3' : LoadNP C p H3 z3 rs := .of hl3 ep3 fun ee e0 => hc0 (by
      subst e0
      have : ∀ z, ct c z = 0 := fun z => by
        have h6 : ct ([] : List (Str × Int)) z = ct ps z - ct c z := hr3 z
        have h7 := e5 one (by rw [ee]; rfl) z
        rw [he2, h7] at h6
        have h8 : ct ([] : List (Str × Int)) z = 0 := rfl
        omega
      exact can_eq can can_nil fun z => (this z).trans rfl)
    have can3 : Can rs := by obtain ⟨_, _, _, _, k⟩ := hl3; exact k
    obtain ⟨dp, gP4⟩ := stk_put (R := LoadNP C p) (h := one) (H' := upd H3 p (.dK (putK (eD es) (Sum.inr one) (.ref z3)))) gP3 hw1 (by omega) hl3' can3 (fun _ _ h => h.upd ep3) (fun kvs h => by rw [ep3] at h; cases h; rfl)
    refine ⟨_, rfl, _, rfl, p, _, rfl, dp, ?_⟩
    rw [putK_eD] at gP4 ⊢
    have k13 : Same H H3 := k1.trans (k2.trans k3)
    have k14 : Same H (upd H3 p (.dK (eD (putE es one z3)))) := fun b o e => by rw [upd_ne (ne_of_none e hp)]; exact k13 _ _ e
    have gX6 := gX.same k14
    have ep4 : (upd H3 p (.dK (eD (putE es one z3)))) p = some (.dK (eD (putE es one z3))) := upd_same
    have nes : putE es one z3 ≠ [] := fun e => by
      have h6 := getE_putE (es := es) (h := one) (k := one) (b := z3)
      rw [e, if_pos rfl] at h6
      cases h6
    clear dp hz3
    generalize upd H3 p (.dK (eD (putE es one z3))) = H4 at gP4 k14 gX6 ep4 ⊢
    generalize putE es one z3 = es2 at ep4 nes ⊢
    -- found[other]
    refine ⟨_, rfl, p, rfl, .inl ⟨_, .inl ep4⟩, _, rfl, rfl, made_load (y := []) (zs := []) (ps := []) rfl rfl List.nodup_nil (by decide) (fun _ h => nomatch h) fun H5 o5 as5 k5 ho5 h5 hz5 => ?_⟩
    have z5 : as5 = [] := can_eq (by obtain ⟨_, _, _, _, k⟩ := h5; exact k) can_nil hz5
    subst z5
    have gP5 : StkG (LoadNP C p) H5 p (n + 1) (setH S one (ct rs)) := gP4.same k5 fun _ _ h => h.same k5
    obtain ⟨o6, y6, ps6, d6, eo6, hl6, he6⟩ := stk_get (h := other) (gP5.imp fun _ _ h => h.at) h5
    refine ⟨o6, d6, ?_⟩
    rw [eo6]
    have gX7 := gX6.same k5
    obtain ⟨dx7, tx7, gX8, _, _⟩ := id gX7
    obtain ⟨dy6, ty6, hy6, _, cy6⟩ := id hl6
    have he6' : ∀ z, ct ps6 z = S other z := fun z => by
      have h9 := he6 z
      unfold setH at h9
      rwa [if_neg ne] at h9
    refine ⟨_, rfl, y6, x, dy6, _, dx7, _, rfl, rfl, hy6, gX8, y6, x, ps6, c, rfl, hl6, gX7, Nat.le_trans (sup_len sup cy6 he6') (by omega), hc, fun H7 z7 rs7 k7 hz7 hl7 hr7 => ?_⟩
    have gP7 : StkG (LoadNP C p) H7 p (n + 1) (setH S one (ct rs)) := gP5.same k7 fun _ _ h => h.same k7
    have ep7 := k7 _ _ (k5 _ _ ep4)
    have hl7' : LoadNP C p H7 z7 rs7 := .of hl7 ep7 fun ee => absurd ee nes
    have can7 : Can rs7 := by obtain ⟨_, _, _, _, k⟩ := hl7; exact k
    obtain ⟨dp7, gP8⟩ := stk_put (R := LoadNP C p) (h := other) (H' := upd H7 p (.dK (putK (eD es2) (Sum.inr other) (.ref z7)))) gP7 hw2 (by omega) hl7' can7 (fun _ _ h => h.upd ep7) (fun kvs h => by rw [ep7] at h; cases h; rfl)
    refine ⟨_, rfl, _, rfl, p, _, rfl, dp7, ?_⟩
    have ea : setH (setH S one (ct rs)) other (ct rs7) = app S (one, other, c) := setH_app (r := (one, other, c)) ne (fun z => by rw [hr3, he2]) (fun z => by rw [hr7, he6'])
    rw [ea] at gP8
    have k18 : Same H (upd H7 p (.dK (putK (eD es2) (Sum.inr other) (.ref z7)))) := fun b o e => by rw [upd_ne (ne_of_none e hp)]; exact k7 _ _ (k5 _ _ (k14 _ _ e))
    exact ⟨_, rfl, q _ p k18 hp (gP8.imp fun _ _ h => h.at)⟩
end
end Ld
namespace Ld
open PySem PySem.Spec PyProof.Rows L2
open TL
/-! ### order_from -/
def fD (fs : List (List Int)) : List (List Key × V) := fs.map fun L => (L.map Sum.inl, V.bl true)
theorem inlMap_inj {L M : List Int} (h : (L.map Sum.inl : List Key) = M.map Sum.inl) : L = M := by
  have e := congrArg (List.map fun k : Key => match k with | .inl i => i | .inr _ => 0) h
  rw [List.map_map, List.map_map] at e
  have k : ∀ l : List Int, l.map ((fun k : Key => match k with | .inl i => i | .inr _ => 0) ∘ Sum.inl) = l := fun l => by
    conv => rhs; rw [← List.map_id l]
    exact List.map_congr_left fun i _ => rfl
  rwa [k, k] at e
theorem valV_fD {L : List Int} : ∀ {fs : List (List Int)}, (valV (fD fs) (L.map Sum.inl : List Key)).isSome = fs.contains L
  | [] => rfl
  | M :: r => by
    by_cases q : M = L
    · have e : valV (fD (M :: r)) (L.map Sum.inl : List Key) = some (V.bl true) := valV_pos (show (M.map Sum.inl : List Key) = L.map Sum.inl by rw [q])
      rw [e, List.contains_cons, q, beq_self_eq_true]
      rfl
    · have e : valV (fD (M :: r)) (L.map Sum.inl : List Key) = valV (fD r) (L.map Sum.inl : List Key) := valV_neg (show ¬ (M.map Sum.inl : List Key) = L.map Sum.inl from fun x => q (inlMap_inj x))
      have e2 : (L == M) = false := by rw [beq_eq_false_iff_ne]; exact fun x => q x.symm
      rw [e, List.contains_cons, e2, Bool.false_or]
      exact valV_fD
theorem putK_fD {L : List Int} {fs : List (List Int)} (h : fs.contains L = false) : putK (fD fs) (L.map Sum.inl : List Key) (.bl true) = fD (fs ++ [L]) := by
  unfold putK
  have e : ((fD fs).any fun kv => decide (kv.1 = (L.map Sum.inl : List Key))) = false := by
    rw [List.any_eq_false]
    intro kv hkv he
    obtain ⟨M, hM, rfl⟩ := List.mem_map.mp hkv
    have := inlMap_inj (of_decide_eq_true he)
    rw [this] at hM
    have := List.contains_iff_mem.mpr hM
    rw [h] at this
    cases this
  rw [if_neg (by rw [e]; exact Bool.false_ne_true)]
  unfold fD
  rw [List.map_append]
  rfl
theorem putK_fD' {L : List Int} {fs : List (List Int)} (h : fs.contains L = true) : putK (fD fs) (L.map Sum.inl : List Key) (.bl true) = fD fs := by
  unfold putK
  have e : ((fD fs).any fun kv => decide (kv.1 = (L.map Sum.inl : List Key))) = true := List.any_eq_true.mpr ⟨(L.map Sum.inl, V.bl true), List.mem_map_of_mem (List.contains_iff_mem.mp h), decide_eq_true rfl⟩
  rw [if_pos e]
  conv => rhs; rw [← List.map_id (fD fs)]
  refine List.map_congr_left fun kv hkv => ?_
  obtain ⟨M, hM, rfl⟩ := List.mem_map.mp hkv
  show (if (M.map Sum.inl : List Key) = L.map Sum.inl then ((M.map Sum.inl : List Key), V.bl true) else (M.map Sum.inl, V.bl true)) = _
  split <;> rfl
/-- all but F stays -/
def SameT (F : Addr) (H H' : Hp) : Prop := ∀ b o, b ≠ F → H b = some o → H' b = some o
theorem SameT.trans {F : Addr} {H H1 H2 : Hp} (s : SameT F H H1) (t : SameT F H1 H2) : SameT F H H2 := fun b o n e => t b o n (s b o n e)
theorem Same.tt {F : Addr} {H H' : Hp} (s : Same H H') : SameT F H H' := fun b o _ e => s b o e
theorem LoadAt.tt {C F : Addr} {H H' : Hp} {x : Addr} {ps : List (Str × Int)} {kvs : List (List Key × V)} (h : LoadAt C H x ps) (s : SameT F H H') (hF : H F = some (.dT kvs)) : LoadAt C H' x ps := by
  obtain ⟨dx, t, a, b, c⟩ := h
  exact ⟨dx, t, s _ _ (ne_of a hF fun z => nomatch z) a, s _ _ (ne_of b hF fun z => nomatch z) b, c⟩
theorem DrvAt.tt {C F : Addr} {H H' : Hp} {x : Addr} {r : Row} {kvs : List (List Key × V)} (h : DrvAt C H x r) (s : SameT F H H') (hF : H F = some (.dT kvs)) : DrvAt C H' x r := by
  obtain ⟨t, a, b⟩ := h
  exact ⟨t, s _ _ (ne_of a hF fun z => nomatch z) a, b.tt s hF⟩
theorem StkG.tt {C F : Addr} {H H' : Hp} {a : Addr} {n : Nat} {S : StF} {kvs : List (List Key × V)} (h : StkP C H a n S) (s : SameT F H H') (hF : H F = some (.dT kvs)) : StkP C H' a n S := by
  obtain ⟨es, h1, h2, h3, h4, h5⟩ := h
  exact ⟨es, s _ _ (ne_of h1 hF fun z => nomatch z) h1, h2, h3, fun e he => let ⟨ps, r, c, q⟩ := h4 e he; ⟨ps, r.tt s hF, c, q⟩, h5⟩
/-- a row that a search takes -/
structure RowD (W : List Str) (r : Row) : Prop where
  w1 : wordB r.1 = true
  w2 : wordB r.2.1 = true
  ne : r.2.1 ≠ r.1
  can : Can r.2.2
  few : r.2.2.length ≤ 100
  one : r.2.2 ≠ []
  sub : ∀ z ∈ r.2.2.map (·.1), z ∈ W
abbrev iV (D : List Nat) : List V := D.map fun i => V.int ((i : Nat) : Int)
/-- what a search tells, behind the done -/
def OutAt (D : List Nat) (o : Option (List Nat)) (v : V) (H : Hp) : Prop := (o = none ∧ v = .non) ∨ ∃ t p, o = some t ∧ v = .ref p ∧ H p = some (.tup (iV (D ++ t)))
def SeqL (H : Hp) (L : Addr) (xs : List V) : Prop := H L = some (.lst xs) ∨ H L = some (.tup xs)
theorem SeqL.same {H H' : Hp} {L : Addr} {xs : List V} (h : SeqL H L xs) (s : Same H H') : SeqL H' L xs := h.imp (fun h => s _ _ h) (fun h => s _ _ h)
theorem SeqL.tt {F : Addr} {H H' : Hp} {L : Addr} {xs : List V} {kvs : List (List Key × V)} (h : SeqL H L xs) (s : SameT F H H') (hF : H F = some (.dT kvs)) : SeqL H' L xs := by
  rcases h with h | h
  · exact .inl (s _ _ (ne_of h hF fun z => nomatch z) h)
  · exact .inr (s _ _ (ne_of h hF fun z => nomatch z) h)
theorem SeqL.sq {K : PySem.W.Frag} {H : Hp} {L : Addr} {xs : List V} (h : SeqL H L xs) : SqL K H L xs ∨ SqT K H L xs := h.imp (fun h => .inl (.inl h)) (fun h => .inl (.inl h))
def spOrd (C : Addr) (m : Nat) : Sp := fun vs H Q _ => ∃ (dt L a F : Addr) (ts : List Addr) (rows : List Row) (D : List Nat) (S0 : StF) (W : List Str) (fs : List (List Int)) (n : Nat), vs = [.ref dt, .ref L, .ref a, .ref F] ∧ H dt = some (.tup (iV D)) ∧ D.Nodup ∧ (∀ i ∈ D, i < rows.length) ∧ D.length + m = rows.length ∧ rows.length ≤ 9 ∧
  SeqL H L (ts.map V.ref) ∧ Paired (DrvAt C H) ts rows ∧ (∀ r ∈ rows, RowD W r) ∧ W.length ≤ 90 ∧ StkP C H a n (stOf rows S0 D) ∧ n + 2 * m ≤ 800 ∧ Pos0 (stOf rows S0 D) ∧ SupW W (stOf rows S0 D) ∧ H F = some (.dT (fD fs)) ∧ FailInv rows S0 fs ∧ fs.length + most m ≤ 2000000 ∧
  ∀ (v : V) (H' : Hp) (fs' : List (List Int)), SameT F H H' → H' F = some (.dT (fD fs')) → FailInv rows S0 fs' → fs'.length ≤ fs.length + most m → OutAt D (dfs rows m (pre D rows.length) (stOf rows S0 D)) v H' → Q v H'
def spPrev (C : Addr) : Nat → Sp
  | 0 => fun _ _ _ _ => False
  | m + 1 => spOrd C m
abbrev nOrd : List Str := ["done", "drives", "stocks", "failed", "key", "index", "drive", "found"]
theorem iV_flat (D : List Nat) : (iV D).all flatV = true := by
  rw [List.all_eq_true]
  intro x hx
  obtain ⟨i, _, rfl⟩ := List.mem_map.mp hx
  rfl
theorem iV_in {D : List Nat} {i : Nat} : inV (.int ((i : Nat) : Int)) (iV D) = D.contains i := by
  unfold inV
  rw [Bool.eq_iff_iff, List.any_eq_true, List.contains_iff_mem]
  constructor
  · rintro ⟨x, hx, e⟩
    obtain ⟨j, hj, rfl⟩ := List.mem_map.mp hx
    have : ((j : Nat) : Int) = i := by simpa [eqV] using e
    have : j = i := by omega
    rwa [← this]
  · intro h
    exact ⟨_, List.mem_map_of_mem h, by simp [eqV]⟩
section
variable {P : Program} {w : World} {K : PySem.W.Frag} {mg : Str → Option Value} {base : Heap} {C : Addr}
theorem scOrd : FnScope nOrd ["done", "drives", "stocks", "failed"] (defScope sOrd) := ⟨rfl, rfl, rfl, by decide +kernel, rfl, by decide +kernel, by decide +kernel⟩
theorem ok_ordS {f : Addr} {fd : FuncData} (m : Nat) (F : Fun K "order_from" "order_from" sOrd f fd) (B : Blt mg) (B2 : Blt2 mg) (mEn : mg "enumerate" = none) (mTu : mg "tuple" = none) (mIn : mg "int" = none) (HC : Has P w K mg base 8 "can_drive" ["drive", "stocks"] (spCan C)) (HA : Has P w K mg base 9 "stocks_after" ["drive", "stocks"] (spAft C))
    (b3 : Binds K fd ["done", "drives", "stocks", "failed"] []) (m3 : mg "order_from" = some (.ref f)) (k3 : PySem.W.keepIn K (.ref f) = true) (G3 : FnOk P w K mg base CX0 (9 + m) f fd ["done", "drives", "stocks", "failed"] (spPrev C m)) : FnOk P w K mg base CX0 (9 + m + 1) f fd ["done", "drives", "stocks", "failed"] (spOrd C m) := by
  obtain ⟨g1, gd1, G1, b1, m1, k1⟩ := HC
  obtain ⟨g2, gd2, G2, b2, m2, k2⟩ := HA
  refine F.ok scOrd (fun vs H Q E h => ?_) (fun cdv A outer s H vs Q E hr h => ?_)
  · obtain ⟨dt, L, a, F, ts, rows, D, S0, W, fs, n, rfl, _⟩ := h
    rfl
  · obtain ⟨dt, L, a, F, ts, rows, D, S0, W, fs, n, rfl, gD, hnd, hlt, hm, h9, gL, hrows, hok, hW, gS, hn, hp, sup, gF, fi, hfs, k⟩ := h
    have hr1 : Room 8 _ := hr.mono (by omega : 8 ≤ 9 + m)
    have hr2 : Room 9 _ := hr.mono (by omega : 9 ≤ 9 + m)
    have hu := hu_of hr
    have hu64 := hr.units
    have hu2 : (A.deeper (envOfC (Str.ofString "order_from") (defScope sOrd) s.heap.objs.size f cdv)).units + 3 < cLine := by omega
    have nd : nOrd.Nodup := scOrd.nd
    have htl := Paired.length hrows
    refine ⟨_, pss_cons (ps_if (pt_cmpR op_eq (pe_callB call_len_seq (by rfl) B.len PySem.boot_len (pa_cons (pv 0) pa_nil)) (pe_callB call_len_seq (by rfl) B.len PySem.boot_len (pa_cons (pv 1) pa_nil)) (nomark _)) (pss_one (ps_ret (pv 0))) pss_nil)
      (pss_cons (ps_set (i := 4) nd rfl (Or.inl rfl) (pe_callTy call_tuple_of (by rfl) mTu (by decide +kernel) (pa_cons (pe_callBK (cr_sortTI hu2) (by rfl) B2.sorted (by decide +kernel) (pa_cons (pv 0) pa_nil) (pk_cons (pe_bltn (v := .ty "int") (by rfl) mIn (by decide +kernel) rfl) pk_nil)) pa_nil)))
      (pss_cons (ps_if (pt_cmp (pc_din hu (pv 4) (pv 3))) (pss_one (ps_ret pe_non)) pss_nil)
      (pss_cons (ps_for PassesOwn.never rfl (pi_enumW (by rfl) mEn (pa_cons (pv 1) pa_nil)) (pg_tup rfl (pgs_cons (pg_name (i := 5) nd rfl (Or.inl rfl)) (pgs_cons (pg_name (i := 6) nd rfl (Or.inl rfl)) pgs_nil)))
        (pss_one (ps_if (PW.pt (pw_and (pt_cmpR op_notIn_seq (pv 5) (pv 0) (by rfl)) (pw_and1 (pt_val (pe_call G1 hr1 (by rfl) m1 k1 b1 .nil pass0 (pa_cons (pv 6) (pa_cons (pv 2) pa_nil))))))) (pss_cons (ps_set (i := 7) nd rfl (Or.inl rfl) (pe_call G3 hr (by rfl) m3 k3 b3 .nil pass0 (pa_cons (pe_tup (StX.pa_star (pv 0) (pa_cons (pv 5) pa_nil))) (pa_cons (pv 1) (pa_cons (pe_call G2 hr2 (by rfl) m2 k2 b2 .nil pass0 (pa_cons (pv 6) (pa_cons (pv 2) pa_nil))) (pa_cons (pv 3) pa_nil))))))
          (pss_one (ps_if (pt_cmp (pc_notN (pv 7))) (pss_one (ps_ret (pv 7))) pss_nil))) pss_nil)))
      (pss_cons (ps_dput hu (pv 3) (pv 4) pe_bl rfl)
      (pss_one (ps_ret pe_non)))))), ?_⟩
    -- if len(done) == len(drives)
    refine seq_step (fun σ' H' => σ' = [some (.ref dt), some (.ref L), some (.ref a), some (.ref F), none, none, none, none] ∧ H' = H ∧ 0 < m) (fun R hR => ?_) (fun σ1 H1 h1 => ?_)
    · refine ⟨_, rfl, dt, _, rfl, .inr (.inl (.inl gD)), _, rfl, L, _, rfl, gL.sq, rfl, _, rfl, ifb (fun hb => ?_) (fun hb => ?_)⟩
      · have e : D.length = ts.length := by
          have := V.int.inj (of_decide_eq_true hb)
          rw [List.length_map, List.length_map] at this
          omega
        obtain rfl : m = 0 := by omega
        exact ⟨_, rfl, k _ _ fs (fun _ _ _ e => e) gF fi (by omega) (.inr ⟨[], dt, rfl, rfl, by rw [List.append_nil]; exact gD⟩)⟩
      · have e : ¬ D.length = ts.length := fun x => by
          have := of_decide_eq_false hb
          apply this
          rw [List.length_map, List.length_map, x]
        exact hR _ _ ⟨rfl, rfl, by omega⟩
    obtain ⟨rfl, rfl, h0⟩ := h1
    obtain ⟨m, rfl⟩ : ∃ m', m = m' + 1 := ⟨m - 1, by omega⟩
    -- key
    refine seq_step (fun σ' H' => ∃ key : Addr, σ' = [some (.ref dt), some (.ref L), some (.ref a), some (.ref F), some (.ref key), none, none, none] ∧ Same H1 H' ∧ H' key = some (.tup ((isrt D).map V.int))) (fun R hR => ?_) (fun σ2 H2 h2 => ?_)
    · refine ⟨_, rfl, dt, D.map (fun i => ((i : Nat) : Int)), rfl, rfl, .inl (.inl (by rw [List.map_map]; exact gD)), fun p hp => ?_⟩
      have s1 := same_new (o := .lst ((isrt D).map V.int)) hp
      refine ⟨p, _, rfl, .inl ⟨.inl (.inl upd_same), fun l hl => ?_⟩⟩
      exact hR _ _ ⟨l, rfl, s1.trans (same_new hl), upd_same⟩
    obtain ⟨key, rfl, s2, gK⟩ := h2
    have gK' : H2 key = some (.tup (((isrt D).map Sum.inl : List Key).map kV)) := by
      rw [List.map_map]
      exact gK
    have gF2 := s2 _ _ gF
    -- if key in failed
    refine seq_step (fun σ' H' => σ' = [some (.ref dt), some (.ref L), some (.ref a), some (.ref F), some (.ref key), none, none, none] ∧ H' = H2 ∧ fs.contains (isrt D) = false) (fun R hR => ?_) (fun σ3 H3 h3 => ?_)
    · have dg := DGet.t (k := ((isrt D).map Sum.inl : List Key)) gF2 gK'
      refine ⟨_, rfl, _, rfl, F, _, rfl, dg, _, rfl, ifb (fun hb => ?_) (fun hb => ?_)⟩
      · rw [valV_fD] at hb
        have e := fi _ (List.contains_iff_mem.mp hb) D rfl
        have e2 : rows.length - D.length = m + 1 := by omega
        rw [e2] at e
        exact k _ _ fs (Same.tt s2) gF2 fi (by omega) (.inl ⟨e, rfl⟩)
      · rw [valV_fD] at hb
        exact hR _ _ ⟨rfl, rfl, hb⟩
    obtain ⟨rfl, e3, hnf⟩ := h3
    have e3 := e3.symm
    subst e3
    have hpl : (pre D rows.length).length = m + 1 := by
      have := filter_lt hnd hlt
      omega
    have gL2 := gL.same s2
    have gD2 := s2 _ _ gD
    have nDF := ne_of gD2 gF2 fun z => nomatch z
    have nKF := ne_of gK gF2 fun z => nomatch z
    have gSq : ∀ {H' : Hp}, SameT F H2 H' → ∀ o, H2 L = some o → H' L = some o := fun {H'} sm o e => by
      rcases gL2 with h | h
      · exact sm _ _ (ne_of h gF2 fun z => nomatch z) e
      · exact sm _ _ (ne_of h gF2 fun z => nomatch z) e
    have hT : most (m + 1) = 1 + (m + 1) * most m := rfl
    -- the drives
    refine seq_step (fun σ' H' => ∃ (x5 x6 x7 : Option V) (fs' : List (List Int)), σ' = [some (.ref dt), some (.ref L), some (.ref a), some (.ref F), some (.ref key), x5, x6, x7] ∧ SameT F H2 H' ∧ H' F = some (.dT (fD fs')) ∧ FailInv rows S0 fs' ∧ fs'.length ≤ fs.length + (m + 1) * most m ∧ dfs rows (m + 1) (pre D rows.length) (stOf rows S0 D) = none) (fun R hR => ?_) (fun σ4 H4 h4 => ?_)
    · refine ⟨_, rfl, L, ts.map V.ref, rfl, gL2.sq, fun J G wk hG => ?_⟩
      refine for_it wk (fun i σ' H' => ∃ (x5 x6 x7 : Option V) (fs' : List (List Int)), σ' = [some (.ref dt), some (.ref L), some (.ref a), some (.ref F), some (.ref key), x5, x6, x7] ∧ SameT F H2 H' ∧ H' F = some (.dT (fD fs')) ∧ FailInv rows S0 fs' ∧ fs'.length ≤ fs.length + (pre D i).length * most m ∧ (pre D i).findSome? (turnF rows m (pre D rows.length) (stOf rows S0 D)) = none ∧ G H')
        ⟨_, _, _, fs, rfl, fun _ _ _ e => e, gF2, fi, by omega, rfl, hG _ fun _ e => e⟩ (fun i σ' H' _ ⟨_, _, _, _, _, _, _, _, _, _, h⟩ => h) ?_ ?_
      · rintro i y σ' H3 H3' hi ⟨x5, x6, x7, fs', rfl, sm, gF3, fi3, hl3, hno, _⟩ ⟨T0, u, y2, rfl, hT0, rfl, hu1, hy⟩
        replace hy : (ts.map V.ref)[i]? = some y2 := hy
        rw [List.getElem?_map] at hy
        obtain ⟨T1, hT1, rfl⟩ := Option.map_eq_some_iff.mp hy
        obtain rfl : V.int ((i : Nat) : Int) = u := Option.some.inj hu1
        have hil : i < ts.length := (List.getElem?_eq_some_iff.mp hT1).1
        have hir : i < rows.length := by omega
        have hri : rows[i]? = some rows[i] := List.getElem?_eq_getElem hir
        have hrd : RowD W rows[i] := hok _ (List.getElem_mem hir)
        have ern : rowN rows i = rows[i] := by
          unfold rowN
          rw [List.getD_eq_getElem?_getD, hri]
          rfl
        have hdr : DrvAt C H3 T1 rows[i] := ((Paired.nth hrows hT1 hri).same s2).tt sm gF2
        have sT := same_new (o := .tup [V.int ((i : Nat) : Int), V.ref T1]) hT0
        have hdr' := hdr.same sT
        have gD3 := sT _ _ (sm _ _ nDF gD2)
        have gS3 : StkP C _ a n (stOf rows S0 D) := ((gS.keep s2).tt sm gF2).keep sT
        have gF4 := sT _ _ gF3
        have sm4 : SameT F H2 (upd H3 T0 (.tup [V.int ((i : Nat) : Int), V.ref T1])) := sm.trans (Same.tt sT)
        have gT0 : (upd H3 T0 (.tup [V.int ((i : Nat) : Int), V.ref T1])) T0 = _ := upd_same
        clear sT hT0 hdr gF3 sm
        generalize upd H3 T0 (.tup [V.int ((i : Nat) : Int), V.ref T1]) = H5 at hdr' gD3 gS3 gF4 sm4 gT0 ⊢
        refine ⟨T0, _, rfl, .inl (.inl gT0), rfl, _, _, rfl, _, _, rfl, rfl, ?_⟩
        -- if index not in done and can_drive
        have hskip : ∀ (y7 : Option V) H6, Same H5 H6 → turnF rows m (pre D rows.length) (stOf rows S0 D) i = none ∨ D.contains i = true → ∃ (x5 x6 x7 : Option V) (fs' : List (List Int)), [some (V.ref dt), some (.ref L), some (.ref a), some (.ref F), some (.ref key), some (.int ((i : Nat) : Int)), some (.ref T1), y7] = [some (.ref dt), some (.ref L), some (.ref a), some (.ref F), some (.ref key), x5, x6, x7] ∧ SameT F H2 H6 ∧ H6 F = some (.dT (fD fs')) ∧ FailInv rows S0 fs' ∧ fs'.length ≤ fs.length + (pre D (i + 1)).length * most m ∧ (pre D (i + 1)).findSome? (turnF rows m (pre D rows.length) (stOf rows S0 D)) = none ∧ G H6 := by
          intro y7 H6 s6 ho
          refine ⟨_, _, _, fs', rfl, sm4.trans (Same.tt s6), s6 _ _ gF4, fi3, ?_, ?_, hG _ (gSq (sm4.trans (Same.tt s6)))⟩
          · refine Nat.le_trans hl3 (Nat.add_le_add_left (Nat.mul_le_mul_right _ ?_) _)
            rw [pre_succ, List.length_append]
            omega
          · rw [pre_succ, List.findSome?_append, hno, Option.none_or]
            rcases ho with ho | ho
            · split
              · rfl
              · rw [List.findSome?_cons, ho]
                rfl
            · rw [ho]
              rfl
        refine ⟨_, rfl, _, rfl, dt, _, rfl, .inr (.inl (.inl gD3)), rfl, iV_flat D, _, rfl, ifb (fun hb => ?_) (fun hb => ?_)⟩
        · have hni : D.contains i = false := by
            rw [if_pos rfl, iV_in] at hb
            simpa using hb
          refine ⟨_, rfl, _, rfl, T1, a, rows[i], n, _, rfl, hdr', gS3, hp, fun H6 s6 => ⟨_, rfl, ifb (fun hc => ?_) (fun hc => ?_)⟩⟩
          · obtain ⟨rest, hsp⟩ := pre_split hir hni
            have hpi : (pre D i).length + 1 ≤ m + 1 := by
              have := congrArg List.length hsp
              rw [List.length_append, List.length_cons] at this
              omega
            have hb1 : (pre D i).length * most m + most m ≤ (m + 1) * most m := by
              have := Nat.mul_le_mul_right (most m) hpi
              rw [Nat.succ_mul] at this
              exact this
            have hc' : canB (stOf rows S0 D) (rowN rows i) = true := by rw [ern]; exact hc
            have eti : turnF rows m (pre D rows.length) (stOf rows S0 D) i = (dfs rows m (pre (D ++ [i]) rows.length) (stOf rows S0 (D ++ [i]))).map (i :: ·) := by
              unfold turnF
              rw [if_pos hc', pre_snoc, stOf_snoc]
            have hnD : i ∉ D := fun h => by
              have := List.contains_iff_mem.mpr h
              rw [hni] at this
              cases this
            -- found
            refine seq_step (fun σ' H' => ∃ (v : V) (fs8 : List (List Int)), σ' = [some (.ref dt), some (.ref L), some (.ref a), some (.ref F), some (.ref key), some (.int ((i : Nat) : Int)), some (.ref T1), some v] ∧ SameT F H2 H' ∧ H' F = some (.dT (fD fs8)) ∧ FailInv rows S0 fs8 ∧ fs8.length ≤ fs'.length + most m ∧ OutAt (D ++ [i]) (dfs rows m (pre (D ++ [i]) rows.length) (stOf rows S0 (D ++ [i]))) v H') (fun R' hR' => ?_) (fun σ9 H9 h9' => ?_)
            · refine ⟨_, rfl, dt, iV D, rfl, .inl (.inl (.inl (s6 _ _ gD3))), _, rfl, ?_, fun p0 hp0 => ?_⟩
              · rw [List.length_append, List.length_map]
                exact Nat.le_trans (by show D.length + 1 ≤ 10; omega) (by decide)
              have t0 := same_new (o := .tup (iV D ++ [V.int ((i : Nat) : Int)])) hp0
              refine ⟨_, rfl, _, rfl, _, rfl, T1, a, rows[i], n, stOf rows S0 D, W, rfl, (hdr'.same s6).same t0, (gS3.keep s6).keep t0, by omega, hrd.w1, hrd.w2, hrd.ne, hrd.few, hrd.one, sup, hrd.sub, hW, fun H7 b s7 hb7 gS7 => ?_⟩
              have s57 : Same H5 H7 := s6.trans (t0.trans s7)
              have hst : app (stOf rows S0 D) rows[i] = stOf rows S0 (D ++ [i]) := by rw [stOf_snoc, ern]
              rw [hst] at gS7
              refine ⟨_, rfl, p0, L, b, F, ts, rows, D ++ [i], S0, W, fs', n + 2, rfl, ?_, ?_, ?_, ?_, h9, (gL2.tt sm4 gF2).same s57, Paired.mono (fun _ _ h => ((h.same s2).tt sm4 gF2).same s57) hrows, hok, hW, gS7, by omega, ?_, ?_, s57 _ _ gF4, fi3, ?_, fun v H8 fs8 st8 gF8 fi8 hl8 out => ?_⟩
              · have := s7 _ _ (upd_same (H := H6) (a := p0) (o := .tup (iV D ++ [V.int ((i : Nat) : Int)])))
                rw [this]
                unfold iV
                rw [List.map_append]
                rfl
              · rw [List.nodup_append]
                refine ⟨hnd, List.nodup_cons.mpr ⟨List.not_mem_nil, List.nodup_nil⟩, fun x hx y hy => ?_⟩
                rw [List.mem_singleton] at hy
                rintro rfl
                exact hnD (hy ▸ hx)
              · intro j hj
                rcases List.mem_append.mp hj with hj | hj
                · exact hlt j hj
                · rw [List.mem_singleton] at hj
                  omega
              · rw [List.length_append]
                show D.length + 1 + m = _
                omega
              · rw [← hst]
                exact pos_app hp hrd.can.nd hrd.ne hc
              · rw [← hst]
                exact sup_app sup hrd.sub
              · omega
              · exact hR' _ _ ⟨v, fs8, rfl, sm4.trans ((Same.tt s57).trans st8), gF8, fi8, hl8, out⟩
            obtain ⟨v, fs8, rfl, sm9, gF9, fi9, hl9, out⟩ := h9'
            refine ⟨_, rfl, _, rfl, ifb (fun hv => ?_) (fun hv => ?_)⟩
            · rcases out with ⟨_, rfl⟩ | ⟨t, p, et, rfl, gp⟩
              · cases hv
              · refine ⟨_, rfl, k _ _ fs8 ((Same.tt s2).trans sm9) gF9 fi9 (by omega) (.inr ⟨i :: t, p, ?_, rfl, ?_⟩)⟩
                · rw [dfs_succ]
                  generalize turnF rows m (pre D rows.length) (stOf rows S0 D) = g at hno eti ⊢
                  rw [hsp, List.findSome?_append, hno, Option.none_or, List.findSome?_cons, eti, et]
                  rfl
                · rw [List.append_assoc] at gp
                  exact gp
            · rcases out with ⟨en, rfl⟩ | ⟨t, p, et, rfl, gp⟩
              · refine ⟨_, _, _, fs8, rfl, sm9, gF9, fi9, ?_, ?_, hG _ (gSq sm9)⟩
                · rw [pre_succ, hni, List.length_append]
                  show _ ≤ _ + ((pre D i).length + 1) * most m
                  rw [Nat.succ_mul]
                  omega
                · rw [pre_succ, hni, List.findSome?_append, hno, Option.none_or]
                  show List.findSome? _ (i :: []) = none
                  rw [List.findSome?_cons, eti, en]
                  rfl
              · cases hv
          · exact hskip _ H6 s6 (.inl (by unfold turnF; rw [ern, hc]; exact if_neg Bool.false_ne_true))
        · have hin : D.contains i = true := by
            rw [if_pos rfl, iV_in] at hb
            simpa using hb
          exact hskip _ H5 (fun _ _ e => e) (.inr hin)
      · rintro σ' H3 ⟨x5, x6, x7, fs', rfl, sm, gF3, fi3, hl3, hno, _⟩
        rw [List.length_map, htl] at hl3 hno
        rw [hpl] at hl3
        exact hR _ _ ⟨_, _, _, fs', rfl, sm, gF3, fi3, hl3, hno⟩
    obtain ⟨x5, x6, x7, fs', rfl, sm, gF4, fi4, hl4, hno⟩ := h4
    have gF5 := gF4
    have gK4 := sm _ _ nKF gK'
    -- failed[key] = True
    have dp := DPut.t (k := ((isrt D).map Sum.inl : List Key)) (v := .bl true) gF4 gK4 (by unfold fD; rw [List.length_map]; exact Nat.lt_of_le_of_lt (by omega : fs'.length ≤ 2000000) (by decide))
    have e2 : rows.length - D.length = m + 1 := by omega
    obtain ⟨fs9, e9, fi9, hl9⟩ : ∃ fs9, putK (fD fs') ((isrt D).map Sum.inl : List Key) (.bl true) = fD fs9 ∧ FailInv rows S0 fs9 ∧ fs9.length ≤ fs'.length + 1 := by
      by_cases hc : fs'.contains (isrt D) = true
      · exact ⟨fs', putK_fD' hc, fi4, by omega⟩
      · exact ⟨fs' ++ [isrt D], putK_fD ((Bool.not_eq_true _).mp hc), fi4.add (by rw [e2]; exact hno), by rw [List.length_append]; exact Nat.le_refl _⟩
    rw [e9] at dp
    refine ⟨_, rfl, _, rfl, F, _, rfl, dp, ?_⟩
    refine k _ _ fs9 (fun b o nb e => ?_) upd_same fi9 (by omega) (.inl ⟨hno, rfl⟩)
    rw [upd_ne nb]
    exact sm _ _ nb (s2 _ _ e)
theorem ok_ord {f : Addr} {fd : FuncData} (F : Fun K "order_from" "order_from" sOrd f fd) (B : Blt mg) (B2 : Blt2 mg) (mEn : mg "enumerate" = none) (mTu : mg "tuple" = none) (mIn : mg "int" = none) (HC : Has P w K mg base 8 "can_drive" ["drive", "stocks"] (spCan C)) (HA : Has P w K mg base 9 "stocks_after" ["drive", "stocks"] (spAft C))
    (b3 : Binds K fd ["done", "drives", "stocks", "failed"] []) (m3 : mg "order_from" = some (.ref f)) (k3 : PySem.W.keepIn K (.ref f) = true) : ∀ m, FnOk P w K mg base CX0 (9 + m + 1) f fd ["done", "drives", "stocks", "failed"] (spOrd C m)
  | 0 => ok_ordS 0 F B B2 mEn mTu mIn HC HA b3 m3 k3 ⟨fun _ _ _ _ h => h.elim, fun _ _ _ _ _ _ _ _ _ _ _ _ _ h => h.elim⟩
  | m + 1 => ok_ordS (m + 1) F B B2 mEn mTu mIn HC HA b3 m3 k3 (ok_ord F B B2 mEn mTu mIn HC HA b3 m3 k3 m)
end
end Ld
namespace Ld
open PySem PySem.Spec PyProof.Rows L2
open TL
open L2
/-! ### TooMany, first_order -/
abbrev ovN : String := "OverflowError.__new__"
abbrev ovI : String := "OverflowError.__init__"
abbrev ovM : List Value := [.type "OverflowError", .type "ArithmeticError", .type "Exception", .type "BaseException", .type "object"]
abbrev OexO (K : PySem.W.Frag) (C : Addr) : Prop := OexB K "OverflowError" ovN ovI ovM C
def spXI (C : Addr) (f : Str) : Sp := fun vs H Q _ => ∃ (a : Addr) (v : V), vs = [.ref a, v] ∧ H a = some (exo a C none) ∧
  ∀ dx, H dx = none → dx ≠ a → Q .non (upd (upd H dx (exd dx [(f, v)])) a (exo a C (some dx)))
theorem mkO_v {C : Addr} {f : Str} {H1 : Hp} {v : V} {Qx : XK} (k : ∀ (H' : Hp) (d : Addr), Same H1 H' → H' d = some (.xd [(f, v)]) → Qx (.ref C) (some d) H') :
    [v].length ≤ 1000 ∧ ∀ a, H1 a = none → spXI C f (.ref a :: ([v] ++ [])) (upd H1 a (exo a C none))
      (fun v H2 => v = .non ∧ ∃ (d : Addr) (fs : List (Str × V)), H2 a = some (exo a C (some d)) ∧ H2 d = some (exd d fs) ∧ H1 d = none ∧ Qx (.ref C) (some d) (upd (del H2 a) d (.xd fs))) (fun _ _ _ => False) := by
  refine ⟨by show 1 ≤ 1000; decide, fun a ha => ⟨a, v, rfl, upd_same, fun dx hdx hne => ⟨rfl, dx, [(f, v)], upd_same, by rw [upd_ne hne, upd_same], by rw [upd_ne hne] at hdx; exact hdx, k _ _ (fun b o e => ?_) upd_same⟩⟩⟩
  have hba : b ≠ a := ne_of_none e ha
  have hdx' : H1 dx = none := by rw [upd_ne hne] at hdx; exact hdx
  have hbd : b ≠ dx := ne_of_none e hdx'
  rw [upd_ne hbd, del_ne hba, upd_ne hba, upd_ne hbd, upd_ne hba]
  exact e
abbrev sXm : Stmt := inClass (top 8) 0
theorem scXm : FnScope ["self", "most"] ["self", "most"] (defScope sXm) := ⟨rfl, rfl, rfl, by decide +kernel, rfl, by decide +kernel, by decide +kernel⟩
def spFro (C CT : Addr) : Sp := fun vs H Q E => ∃ (L a : Addr) (ts : List Addr), vs = [.ref L, .ref a] ∧ SeqL H L (ts.map V.ref) ∧ ((∃ (rows : List Row) (S : StF) (W : List Str) (n : Nat), rows.length ≤ 9 ∧ Paired (DrvAt C H) ts rows ∧ (∀ r ∈ rows, RowD W r) ∧ W.length ≤ 90 ∧ StkP C H a n S ∧ n ≤ 700 ∧ Pos0 S ∧ SupW W S ∧
    ∀ v H', Same H H' → OutAt [] (dfs rows rows.length (List.range rows.length) S) v H' → Q v H') ∨ (9 < ts.length ∧ ∀ (H' : Hp) (d : Addr), Same H H' → H' d = some (.xd [("most", .int 9)]) → E (.ref CT) (some d) H'))
section
variable {P : Program} {w : World} {K : PySem.W.Frag} {mg : Str → Option Value} {base : Heap} {C CT fT : Addr}
theorem ok_xm {f : Addr} {fd : FuncData} (F : Fun K "__init__" "TooMany.__init__" sXm f fd) (T : OexO K CT) (mO : mg "OverflowError" = none) (vV : PySem.W.findCls K (.type "OverflowError") (.type "type") "__init__" = some (.val (.builtin ovI))) (no : PySem.W.findIn K (.ref CT) "most" = some none) :
    FnOk P w K mg base CX0 1 f fd ["self", "most"] (spXI CT "most") := by
  refine F.ok scXm (fun vs H Q E h => ?_) (fun cdv A outer s H vs Q E hr h => ?_)
  · obtain ⟨a, i, rfl, _⟩ := h
    rfl
  · obtain ⟨a, i, rfl, ha, q⟩ := h
    have nd : (["self", "most"] : List Str).Nodup := scXm.nd
    refine ⟨_, pss_cons (ps_expr (pe_binit (B := "OverflowError") (initId := ovI) (newId := ovN) (bmB := ovM) (Str.ofString "OverflowError") (by rfl) mO PyProof.Rows.Boot.«OverflowError» (by kernel_rfl) (by decide +kernel) vV (by decide +kernel) (pa_cons (pv 0) (pa_cons (pv 1) pa_nil)) (by decide) (by decide)))
      (pss_one (ps_ostB (B := "OverflowError") (initId := ovI) (newId := ovN) (bmB := ovM) (pv 0) (pv 1))), ?_⟩
    refine ⟨_, rfl, _, rfl, a, CT, [i], rfl, by show 1 ≤ 1000; decide, T, ha, ?_⟩
    exact ⟨_, rfl, _, rfl, a, CT, rfl, T, no, .inl ⟨ha, fun dx h1 h2 => q dx h1 h2⟩⟩
theorem scFro : FnScope ["drives", "stocks"] ["drives", "stocks"] (defScope sFro) := ⟨rfl, rfl, rfl, by decide +kernel, rfl, by decide +kernel, by decide +kernel⟩
theorem ok_fro {f fo : Addr} {fd fdo : FuncData} (F : Fun K "first_order" "first_order" sFro f fd) (B : Blt mg) (mM : ∃ t, mg "MOST_ORDERED" = some (.int 9 t)) (HO : ∀ m ≤ 9, FnOk P w K mg base CX0 19 fo fdo ["done", "drives", "stocks", "failed"] (spOrd C m)) (b3 : Binds K fdo ["done", "drives", "stocks", "failed"] []) (m3 : mg "order_from" = some (.ref fo)) (k3 : PySem.W.keepIn K (.ref fo) = true)
    {xd : FuncData} (XT : XClsB K mg "OverflowError" ovN ovI ovM "TooMany" CT fT) (FT : FnOk P w K mg base CX0 1 fT xd ["self", "most"] (spXI CT "most")) (bT : L2.Binds K xd ["self", "most"] []) : FnOk P w K mg base (L2.CX P w) 20 f fd ["drives", "stocks"] (spFro C CT) := by
  obtain ⟨tM, mM⟩ := mM
  have FO : ∃ m ≤ 9, True := ⟨0, by decide, trivial⟩
  refine F.okX scFro (fun vs H Q E h => ?_) (fun cdv A outer s H vs Q E hr h => ?_)
  · obtain ⟨L, a, ts, rfl, _⟩ := h
    rfl
  · obtain ⟨L, a, ts, rfl, gL, h⟩ := h
    have hr2 : Room 2 _ := hr.mono (by decide : 2 ≤ 19)
    have nd : (["drives", "stocks"] : List Str).Nodup := scFro.nd
    obtain ⟨m, hm9, em⟩ : ∃ m, m ≤ 9 ∧ (ts.length ≤ 9 → m = ts.length) := ⟨min ts.length 9, Nat.min_le_right _ _, fun h => Nat.min_eq_left h⟩
    refine ⟨_, pss_cons (ps_if (pt_cmpR op_gt (pe_callB call_len_seq (by rfl) B.len PySem.boot_len (pa_cons (pv 0) pa_nil)) (pe_glob (v := .int 9) (by rfl) mM ⟨_, rfl⟩) (nomark _)) (pss_one (ps_raise rfl (takes_of rfl rfl rfl rfl) (pmk_oexB XT.oex XT.exC XT.tyC XT.iC XT.tI FT hr2 bT .nil pass0 (by rfl) XT.gC (pa_cons (pe_glob (v := .int 9) (by rfl) mM ⟨_, rfl⟩) pa_nil)))) pss_nil)
      (pss_one (ps_ret (pe_call (HO m hm9) hr (by rfl) m3 k3 b3 .nil pass0 (pa_cons (pe_tup pa_nil) (pa_cons (pv 0) (pa_cons (pv 1) (pa_cons pe_dnewT pa_nil))))))), ?_⟩
    refine seq_step (fun σ' H' => σ' = [some (.ref L), some (.ref a)] ∧ H' = H ∧ ts.length ≤ 9) (fun R hR => ?_) (fun σ1 H1 h1 => ?_)
    · refine ⟨_, rfl, L, _, rfl, gL.sq, _, _, rfl, rfl, _, rfl, ifb (fun hb => ?_) (fun hb => ?_)⟩
      · have hl := of_decide_eq_true hb
        rw [List.length_map] at hl
        rcases h with ⟨rows, S, W, n, h9, hrows, _⟩ | ⟨_, k⟩
        · have := Paired.length hrows
          omega
        · exact mkO_v fun H' d s => k H' d s
      · have hl := of_decide_eq_false hb
        rw [List.length_map] at hl
        exact hR _ _ ⟨rfl, rfl, by omega⟩
    obtain ⟨rfl, rfl, h9⟩ := h1
    rcases h with ⟨rows, S, W, n, _, hrows, hok, hW, gS, hn, hp, sup, k⟩ | ⟨h10, _⟩
    · have hl := Paired.length hrows
      have em := em h9
      refine ⟨by show 0 ≤ sizeLine; decide, fun p0 hp0 => ?_⟩
      have t0 := same_new (o := .tup []) hp0
      refine ⟨_, rfl, _, rfl, fun F hF => ?_⟩
      have t1 := same_new (o := .dT []) hF
      have s2 := t0.trans t1
      refine ⟨p0, L, a, F, ts, rows, [], S, W, [], n, rfl, t1 _ _ upd_same, List.nodup_nil, (fun _ h => nomatch h), by rw [em, hl]; exact Nat.zero_add _, by omega, gL.same s2, Paired.mono (fun _ _ h => h.same s2) hrows, hok, hW, ?_, by omega, ?_, ?_, upd_same, (fun _ h => nomatch h), ?_, fun v H' fs' st gF' fi' hl' out => ?_⟩
      · rw [stOf_nil]; exact gS.keep s2
      · rw [stOf_nil]; exact hp
      · rw [stOf_nil]; exact sup
      · have := most9 hm9
        show 0 + most m ≤ _
        omega
      · rw [stOf_nil, pre_nil, em, hl] at out
        refine k v H' (fun b o e => st _ _ ?_ (s2 _ _ e)) out
        exact ne_of_none (t0 _ _ e) hF
    · omega
end
end Ld
namespace Ld
open PySem PySem.Spec PyProof.Rows L2
open TL
/-! ### rows, entries, plus, needed, rows_of -/
/-- a drive's row: the houses and a dict of counts -/
def RowAt (p : Addr) (H : Hp) (t : Addr) (r : Row) : Prop := ∃ e, e ≠ p ∧ H t = some (.tup [.str r.1, .str r.2.1, .ref e]) ∧ H e = some (.dK (cD r.2.2))
structure RowOk (r : Row) : Prop where
  w1 : wordB r.1 = true
  w2 : wordB r.2.1 = true
  ne : r.2.1 ≠ r.1
  can : Can r.2.2
  few : r.2.2.length ≤ 3
  one : r.2.2 ≠ []
  sm : ∀ q ∈ r.2.2, q.2.natAbs ≤ 10
theorem RowAt.keep {p : Addr} {H H' : Hp} {t : Addr} {r : Row} (h : RowAt p H t r) (k : ∀ b xs, H b = some (.tup xs) → H' b = some (.tup xs)) (k2 : ∀ b kvs, b ≠ p → H b = some (.dK kvs) → H' b = some (.dK kvs)) : RowAt p H' t r := by
  obtain ⟨e, ne, h1, h2⟩ := h
  exact ⟨e, ne, k _ _ h1, k2 _ _ ne h2⟩
theorem RowAt.same {p : Addr} {H H' : Hp} {t : Addr} {r : Row} (h : RowAt p H t r) (s : Same H H') : RowAt p H' t r := h.keep (fun b o e => s b _ e) (fun b o _ e => s b _ e)
theorem RowAt.keepP {p c : Addr} {ns : List Int} {u r0 : Int} {H H' : Hp} {t : Addr} {r : Row} (h : RowAt p H t r) (P : PenAt H p c ns u r0) (s : SameP p H H') : RowAt p H' t r := h.keep (fun b o e => s.tup P b o e) (fun b o n e => s b _ e n)
/-- behind a walk over a locked dict's keys -/
theorem lk_end {d D : Addr} {od : Obj} {ps qs : List (Str × Int)} {H H' : Hp} {us : List Addr} (hd : H d = some (.dK (cD ps))) (hD : upd H d (.frz od (.dK (cD ps))) D = none) (same : Same (upd H d (.frz od (.dK (cD ps)))) H')
    (eD : H' D = some (.lst (us.map V.ref))) (hus : TupsAt H' us qs) :
    H' d = some (.frz od (.dK (cD ps))) ∧ Same H (upd H' d (.dK (cD ps))) ∧ (upd H' d (.dK (cD ps))) D = some (.lst (us.map V.ref)) ∧ TupsAt (upd H' d (.dK (cD ps))) us qs := by
  have nDd : D ≠ d := fun e => by rw [e, upd_same] at hD; cases hD
  have hd' := same _ _ (upd_same (H := H) (a := d) (o := .frz od (.dK (cD ps))))
  refine ⟨hd', fun b o e => ?_, by rw [upd_ne nDd]; exact eD, hus.keep fun t xs ht => ?_⟩
  · by_cases eb : b = d
    · rw [eb, upd_same, ← hd, ← eb, e]
    · rw [upd_ne eb]
      exact same _ _ (by rw [upd_ne eb]; exact e)
  · rw [upd_ne (ne_of ht hd' fun z => nomatch z)]
    exact ht
def sgn (s : Int) (ps : List (Str × Int)) : List (Str × Int) := mapC (fun i => s * i) (fun i => decide (0 < s * i)) ps
theorem mapC_can {f : Int → Int} {flt : Int → Bool} {ps : List (Str × Int)} (c : Can ps) (h : ∀ i, flt i = true → f i ≠ 0) : Can (mapC f flt ps) := by
  refine ⟨mapC_nd c.nd, ?_, fun p hp => ?_, fun p hp => ?_, Nat.le_trans mapC_len c.few⟩
  · rw [mapC_keys]
    exact pw_sorted ((sorted_pw c.srt).sublist (List.filter_sublist.map _))
  · obtain ⟨i, h1, h2, h3⟩ := mapC_mem.mp hp
    rw [h3]
    exact h i h2
  · obtain ⟨i, h1, _, _⟩ := mapC_mem.mp hp
    exact c.wd (p.1, i) h1
/-! ### rows and lines as data, and how long their texts are -/
def dRow (r : Row) : PyData := .tuple [.str r.1, .str r.2.1, datD (cD r.2.2)]
def DRow (H : Hp) (t : Addr) (r : Row) : Prop := ∃ e, H t = some (.tup [.str r.1, .str r.2.1, .ref e]) ∧ H e = some (.dK (cD r.2.2))
theorem RowAt.dr {p : Addr} {H : Hp} {t : Addr} {r : Row} (h : RowAt p H t r) : DRow H t r := by
  obtain ⟨e, _, h1, h2⟩ := h
  exact ⟨e, h1, h2⟩
theorem DRow.same {H H' : Hp} {t : Addr} {r : Row} (h : DRow H t r) (s : Same H H') : DRow H' t r := by
  obtain ⟨e, h1, h2⟩ := h
  exact ⟨e, s _ _ h1, s _ _ h2⟩
theorem it_rows {H : Hp} : ∀ {ts : List Addr} {rows : List Row}, Paired (DRow H) ts rows → Paired (ItR2 H) (ts.map V.ref) (rows.map dRow)
  | _, _, .nil => .nil
  | _, _, .cons h t => by
    obtain ⟨e, h1, h2⟩ := h
    exact .cons (.inr ⟨_, _, _, rfl, h1, .cons (.inl ⟨rfl, rfl⟩) (.cons (.inl ⟨rfl, rfl⟩) (.cons (.inr ⟨e, _, rfl, h2, scalar_cD _, rfl⟩) .nil)), rfl⟩) (it_rows t)
/-- an item that can be shown in so many signs -/
structure Shw (b : Nat) (d : PyData) : Prop where
  ok : d.showable = true
  dp : d.depth ≤ 50
  ln : d.shown.length ≤ b
theorem shw_all {b : Nat} : ∀ {ds : List PyData}, (∀ d ∈ ds, Shw b d) → PyData.showableAll ds = true ∧ PyData.depthAll ds ≤ 50 ∧ (∀ t ∈ PyData.shownAll ds, t.length ≤ b) ∧ (PyData.shownAll ds).length = ds.length
  | [], _ => ⟨by simp only [PyData.showableAll], by simp only [PyData.depthAll]; omega, fun t h => by simp [PyData.shownAll] at h, by simp [PyData.shownAll]⟩
  | d :: r, h => by
    obtain ⟨h1, h2, h3, h4⟩ := shw_all fun x hx => h x (List.mem_cons_of_mem _ hx)
    have h0 := h d List.mem_cons_self
    refine ⟨?_, ?_, fun t ht => ?_, ?_⟩
    · simp only [PyData.showableAll, h0.ok, h1, Bool.and_self]
    · simp only [PyData.depthAll]
      exact Nat.max_le.mpr ⟨h0.dp, h2⟩
    · simp only [PyData.shownAll] at ht
      rcases List.mem_cons.mp ht with e | e
      · rw [e]
        exact h0.ln
      · exact h3 t e
    · simp only [PyData.shownAll, List.length_cons, h4]
theorem shw_list {b : Nat} {ds : List PyData} (h : ∀ d ∈ ds, Shw b d) (hb : 2 + ds.length * (b + 2) ≤ sizeLine) : (PyData.list ds).showable = true ∧ (PyData.list ds).depth ≤ 60 ∧ (PyData.list ds).shown.length ≤ sizeLine := by
  obtain ⟨h1, h2, h3, h4⟩ := shw_all h
  refine ⟨?_, ?_, ?_⟩
  · simp only [PyData.showable]
    exact h1
  · simp only [PyData.depth]
    omega
  · simp only [PyData.shown]
    have := listText_le h3
    rw [h4] at this
    exact Nat.le_trans this hb
theorem shw_row {r : Row} (hg : wordB r.1 = true) (ht : wordB r.2.1 = true) (hp : ∀ p ∈ r.2.2, wordB p.1 = true ∧ p.2.natAbs < 10 ^ 100) (few : r.2.2.length ≤ 10) : Shw 5000 (dRow r) := by
  obtain ⟨c1, c2, c3⟩ := show_ct (k := 100) (by decide) (by decide) hp
  refine ⟨?_, ?_, ?_⟩
  · simp only [dRow, PyData.showable, PyData.showableAll]
    rw [c1]
    rfl
  · simp only [dRow, PyData.depth, PyData.depthAll]
    rw [c2]
    decide
  · simp only [dRow, PyData.shown, PyData.shownAll]
    refine Nat.le_trans (tupleText_len_le _) ?_
    have w1 := word_small hg
    have w2 := word_small ht
    simp only [List.map_cons, List.map_nil, List.sum_cons, List.sum_nil, List.length_cons, List.length_nil]
    have : r.2.2.length * (100 + 87) ≤ 10 * (100 + 87) := Nat.mul_le_mul_right _ few
    omega
theorem row_small {r : Row} (h : RowOk r) : ∀ p ∈ r.2.2, wordB p.1 = true ∧ p.2.natAbs < 10 ^ 100 := fun p hp => ⟨h.can.wd p hp, by
  have b : 10 < 10 ^ 100 := by decide +kernel
  exact Nat.lt_of_le_of_lt (h.sm p hp) b⟩
theorem shw_rows {rows : List Row} (h : ∀ r ∈ rows, RowOk r) (hl : rows.length ≤ 7) : (PyData.list (rows.map dRow)).showable = true ∧ (PyData.list (rows.map dRow)).depth ≤ 60 ∧ (PyData.list (rows.map dRow)).shown.length ≤ sizeLine := by
  refine shw_list (b := 5000) (fun d hd => ?_) ?_
  · obtain ⟨r, hr, rfl⟩ := List.mem_map.mp hd
    have hr' := h r hr
    exact shw_row hr'.w1 hr'.w2 (row_small hr') (Nat.le_trans hr'.few (by decide))
  · rw [List.length_map]
    have hs : sizeLine = 16777216 := sizeLine_eq
    have : rows.length * (5000 + 2) ≤ 7 * (5000 + 2) := Nat.mul_le_mul_right _ hl
    omega
def spRowL (C : Addr) : Sp := fun vs H Q _ => ∃ (L : Addr) (ts : List Addr) (rows : List Row), vs = [.ref L] ∧ H L = some (.lst (ts.map V.ref)) ∧ Paired (DrvAt C H) ts rows ∧ rows.length ≤ 7 ∧
  ∀ (H' : Hp) (M : Addr) (us : List Addr), Same H H' → H M = none → H' M = some (.lst (us.map V.ref)) → Paired (DRow H') us rows → Q (.ref M) H'
section
variable {P : Program} {w : World} {K : PySem.W.Frag} {mg : Str → Option Value} {base : Heap} {C fi : Addr}
abbrev nRow : List Str := ["_law_told", "_law_one", "_law_other", "_law_load"]
theorem scRowL : FnScope nRow ["_law_told"] (defScope sRowL) := ⟨rfl, rfl, rfl, by decide +kernel, rfl, by decide +kernel, by decide +kernel⟩
theorem ok_rowL {f : Addr} {fd : FuncData} (F : Fun K "_law_rows_of" "_law_rows_of" sRowL f fd) (T : LoadC K mg C fi) (HC : HasP P w K mg base 1 C "counts" (spCounts C)) : FnOk P w K mg base CX0 3 f fd ["_law_told"] (spRowL C) := by
  obtain ⟨pc, gc, dc, pC, FC, bC⟩ := HC
  refine F.ok scRowL (fun vs H Q E h => ?_) (fun cdv A outer s H vs Q E hr h => ?_)
  · obtain ⟨L, ts, rows, rfl, _⟩ := h
    rfl
  · obtain ⟨L, ts, rows, rfl, gL, hrows, hlen, k⟩ := h
    have nd : nRow.Nodup := scRowL.nd
    have hr2 : Room 2 _ := hr.mono (by decide)
    refine ⟨_, pss_one (ps_ret (pe_lc (own := [("_law_one", 1), ("_law_other", 2), ("_law_load", 3)]) (g := gTup K 3 (gCons (gName 1) (gCons (gName 2) (gCons (gName 3) gNil)))) (tt := tYes) rfl nd (pi_list (pv 0)) (blkOk_by (N := nRow) (sc := defScope sRowL) (by decide +kernel)) (fun _ _ _ _ _ => pg_tup rfl (pgs_cons (pg_name (i := 1) nd rfl (Or.inl rfl)) (pgs_cons (pg_name (i := 2) nd rfl (Or.inl rfl)) (pgs_cons (pg_name (i := 3) nd rfl (Or.inl rfl)) pgs_nil)))) (fun _ _ _ _ _ => pts_nil) (fun _ _ _ _ _ => (pe_tup (pa_cons (pv 1) (pa_cons (pv 2) (pa_cons (pe_prop (pv 3) T.c pC FC hr2 bC .nil pass0 rfl) pa_nil))))))), ?_⟩
    have htl := Paired.length hrows
    refine ⟨_, rfl, L, rfl, ⟨_, .inl (.inl gL)⟩, fun D hD => ?_⟩
    refine lc_it (walk_list (xs := ts.map V.ref)) (fun j H' => ∃ us : List Addr, Same H H' ∧ H' D = some (.lst (us.map V.ref)) ∧ Paired (DRow H') us (rows.take j))
      ⟨[], same_new hD, upd_same, .nil⟩ (fun j H' _ ⟨_, h, _⟩ => .inl (.inl (h _ _ gL))) ?_ ?_
    · rintro j x H5 H6 hj ⟨us, same, eD, hus⟩ ⟨rfl, hx⟩
      rw [List.length_map] at hj
      rw [List.getElem?_map, List.getElem?_eq_getElem hj] at hx
      obtain rfl : x = V.ref ts[j] := (Option.some.inj hx).symm
      have hjr : j < rows.length := by omega
      have hri : rows[j]? = some rows[j] := List.getElem?_eq_getElem hjr
      obtain ⟨y, h1, h2⟩ : DrvAt C H ts[j] rows[j] := Paired.nth hrows (List.getElem?_eq_getElem hj) hri
      have h3 := same _ _ h1
      have h4 := h2.same same
      obtain ⟨dy, ty, h5, _, _⟩ := id h4
      refine ⟨ts[j], _, rfl, .inl (.inl h3), rfl, _, _, rfl, _, _, rfl, _, _, rfl, rfl, rfl, _, rfl, _, rfl, _, rfl, y, dy, _, rfl, h5, y, rows[j].2.2, rfl, h4, fun E1 hE1 => ⟨by show 3 ≤ sizeLine; decide, fun T1 hT => ?_⟩⟩
      have a1 := same_new (o := .dK (cD rows[j].2.2)) hE1
      have a2 := same_new (o := .tup [.str rows[j].1, .str rows[j].2.1, .ref E1]) hT
      have a12 := a1.trans a2
      have eD6 := a12 _ _ eD
      have nTD : T1 ≠ D := (ne_of_none (a1 _ _ eD) hT).symm
      have nED : E1 ≠ D := (ne_of_none eD hE1).symm
      have nET : E1 ≠ T1 := ne_of_none (upd_same (H := H6) (a := E1) (o := .dK (cD rows[j].2.2))) hT
      refine ⟨_, eD6, ?_, us ++ [T1], ?_, ?_, ?_⟩
      · have := Paired.length hus
        rw [List.length_map, this, List.length_take]
        exact Nat.lt_of_le_of_lt (by omega : _ ≤ 7) (by decide)
      · intro b o eb
        rw [upd_ne (ne_of_none eb hD)]
        exact a12 _ _ (same _ _ eb)
      · rw [upd_same, List.map_append]
        rfl
      · rw [List.take_succ, hri]
        refine .snoc (Paired.mono (fun t r h => ?_) hus) ⟨E1, ?_, ?_⟩
        · obtain ⟨e, q1, q2⟩ := h.same a12
          exact ⟨e, by rw [upd_ne (ne_of q1 eD6 fun z => nomatch z)]; exact q1, by rw [upd_ne (ne_of q2 eD6 fun z => nomatch z)]; exact q2⟩
        · rw [upd_ne nTD, upd_same]
        · rw [upd_ne nED, upd_ne nET, upd_same]
    · rintro H5 ⟨us, same, eD, hus⟩
      rw [List.length_map, htl, List.take_length] at hus
      exact k H5 D us same hD eD hus
/-! ### plus, needed -/
def spPlu : Sp := fun vs H Q _ => ∃ (a b : Addr) (ps qs : List (Str × Int)) (n : Int), vs = [.ref a, .ref b, .int n] ∧ H a = some (.dK (cD ps)) ∧ H b = some (.dK (cD qs)) ∧ (n = 1 ∨ n = -1) ∧ (ps.map (·.1)).Nodup ∧ (∀ q ∈ ps, wordB q.1 = true) ∧ ps.length ≤ 40 ∧ (qs.map (·.1)).Nodup ∧ (∀ q ∈ qs, wordB q.1 = true) ∧ qs.length ≤ 40 ∧
  ∀ (H' : Hp) (p : Addr) (rs : List (Str × Int)), Same H H' → H p = none → H' p = some (.dK (cD rs)) → Can rs → (∀ z, ct rs z = ct ps z + n * ct qs z) → Q (.ref p) H'
def spNee : Sp := fun vs H Q _ => ∃ (a : Addr) (ps : List (Str × Int)) (n : Int), vs = [.ref a, .int n] ∧ H a = some (.dK (cD ps)) ∧ (n = 1 ∨ n = -1) ∧ (ps.map (·.1)).Nodup ∧ ps.length ≤ 40 ∧
  ∀ (H' : Hp) (p : Addr), Same H H' → H p = none → H' p = some (.dK (cD (sgn n ps))) → Q (.ref p) H'
abbrev nPlu : List Str := ["_law_one", "_law_other", "_law_times", "_law_found", "_law_kind"]
abbrev nNee : List Str := ["_law_counts", "_law_sign", "_law_kind"]
theorem scPlu : FnScope nPlu ["_law_one", "_law_other", "_law_times"] (defScope sPluL) := ⟨rfl, rfl, rfl, by decide +kernel, rfl, by decide +kernel, by decide +kernel⟩
theorem scNee : FnScope nNee ["_law_counts", "_law_sign"] (defScope sNeeL) := ⟨rfl, rfl, rfl, by decide +kernel, rfl, by decide +kernel, by decide +kernel⟩
theorem cm1 {n i : Int} (h : n = 1 ∨ n = -1) : CMul n i := .inl (by rcases h with rfl | rfl <;> exact ⟨by decide, by decide⟩)
theorem mapC_all {f : Int → Int} {ps : List (Str × Int)} : mapC f (fun _ => true) ps = ps.map fun p => (p.1, f p.2) := by
  unfold mapC
  rw [List.filter_eq_self.mpr fun _ _ => rfl]
theorem ok_plu {f : Addr} {fd : FuncData} (F : Fun K "_law_plus" "_law_plus" sPluL f fd) (B2 : Blt2 mg) (HC : Has P w K mg base 1 "_law_clean" ["_law_counts"] spClnL) : FnOk P w K mg base CX0 2 f fd ["_law_one", "_law_other", "_law_times"] spPlu := by
  obtain ⟨g1, gd1, G1, b1, m1, k1⟩ := HC
  refine F.ok scPlu (fun vs H Q E h => ?_) (fun cdv A outer s H vs Q E hr h => ?_)
  · obtain ⟨a, b, ps, qs, n, rfl, _⟩ := h
    rfl
  · obtain ⟨a, b, ps, qs, n, rfl, ha, hb, hn, nd1, wd1, few1, nd2, wd2, few2, k⟩ := h
    have hu := hu_of hr
    have nd : nPlu.Nodup := scPlu.nd
    refine ⟨_, pss_cons (ps_set (i := 3) nd rfl (Or.inl rfl) (pe_callTy call_dictD (by rfl) B2.dict bDict (pa_cons (pv 0) pa_nil)))
      (pss_cons (ps_lock (ps_for PassesOwn.never rfl (pi_keys (pv 1)) (pg_name (i := 4) nd rfl (Or.inl rfl))
        (pss_one (ps_dput hu (pv 3) (pv 4) (pe_op op_add (pe_dget2 hu (pv 3) (pv 4) pe_int ⟨by rfl, by rfl, by rfl, by rfl⟩) (pe_op op_mul (pv 2) (pe_dget hu (pv 1) (pv 4) (fun _ _ => rfl)))) rfl))))
      (pss_one (ps_ret (pe_call G1 hr (by rfl) m1 k1 b1 .nil pass0 (pa_cons (pv 3) pa_nil))))), ?_⟩
    -- found
    refine seq_step (fun σ' H' => ∃ D : Addr, σ' = [some (.ref a), some (.ref b), some (.int n), some (.ref D), none] ∧ H D = none ∧ H' D = some (.dK (cD ps)) ∧ Same H H') (fun R hR => ?_) (fun σ1 H1 h1 => ?_)
    · exact ⟨_, rfl, a, cD ps, rfl, .inl ha, fun p hp => hR _ _ ⟨p, rfl, hp, upd_same, same_new hp⟩⟩
    obtain ⟨D, rfl, hD, gD, s1⟩ := h1
    have hb1 := s1 _ _ hb
    have nDb : D ≠ b := (ne_of_none hb hD).symm
    -- the kinds
    refine seq_step (fun σ' H' => ∃ x4, σ' = [some (.ref a), some (.ref b), some (.int n), some (.ref D), x4] ∧ H' D = some (.dK (cD (addC ps (mapC (fun i => n * i) (fun _ => true) qs)))) ∧ Same H H') (fun R hR => ?_) (fun σ2 H2 h2 => ?_)
    · refine ⟨b, _, hb1, trivial, fun od => ⟨_, rfl, b, od, rfl, .inl ⟨cD qs, upd_same, ?_⟩⟩⟩
      refine for_it (walk_keys (d := b) (o := od) (kvs := cD qs)) (fun j σ' H' => ∃ x4, σ' = [some (.ref a), some (.ref b), some (.int n), some (.ref D), x4] ∧ H' b = some (.frz od (.dK (cD qs))) ∧ H' D = some (.dK (cD (addC ps (mapC (fun i => n * i) (fun _ => true) (qs.take j))))) ∧ ∀ c o, H c = some o → c ≠ b → H' c = some o)
        ⟨_, rfl, upd_same, by rw [upd_ne nDb]; exact gD, fun c o e nb => by rw [upd_ne nb]; exact s1 _ _ e⟩ (fun j σ' H' _ ⟨_, _, h, _⟩ => h) ?_ ?_
      · rintro j x σ' H5 H6 hj ⟨x4, rfl, et, ec, keep⟩ ⟨rfl, kk, v, hx, rfl⟩
        rw [cD_len] at hj
        have hp : (cD qs)[j]? = some (Sum.inr qs[j].1, V.int qs[j].2) := by
          unfold cD
          rw [List.getElem?_map, List.getElem?_eq_getElem hj]
          rfl
        rw [hp] at hx
        cases hx
        have few : (addC ps (mapC (fun i => n * i) (fun _ => true) (qs.take j))).length ≤ 1000 := by
          refine Nat.le_trans addC_len ?_
          have := mapC_len (f := fun i => n * i) (flt := fun _ => true) (ps := qs.take j)
          rw [List.length_take] at this
          omega
        have dg := dget_in (.inr ⟨od, et⟩ : Rd H6 b (.dK (cD qs))) nd2 (List.getElem_mem hj)
        refine ⟨_, rfl, D, rfl, .inl ⟨_, .inl ec⟩, _, rfl, _, dget_ct ec, _, rfl, _, rfl, _, rfl, b, _, rfl, dg, _, _, rfl, rfl, cm1 hn, _, _, getD_ct, rfl, _, rfl, _, rfl, _, _, rfl, dput_ct ec few, _, rfl, ?_, ?_, ?_⟩
        · rw [upd_ne nDb.symm]
          exact et
        · rw [upd_same]
          have e1 : mapC (fun i => n * i) (fun _ => true) (qs.take (j + 1)) = mapC (fun i => n * i) (fun _ => true) (qs.take j) ++ [(qs[j].1, n * qs[j].2)] := by
            rw [mapC_all, mapC_all, List.take_add_one, List.getElem?_eq_getElem hj, List.map_append]
            rfl
          rw [e1, addC_snoc]
          rfl
        · intro c o e nb
          rw [upd_ne (ne_of_none e hD)]
          exact keep c o e nb
      · rintro σ' H5 ⟨x4, rfl, et, ec, keep⟩
        rw [cD_len, List.take_length] at ec
        refine ⟨et, hR _ _ ⟨_, rfl, by rw [upd_ne nDb]; exact ec, fun c o e => ?_⟩⟩
        by_cases ecb : c = b
        · rw [ecb, upd_same, ← hb, ← ecb, e]
        · rw [upd_ne ecb]
          exact keep c o e ecb
    obtain ⟨x4, rfl, gD2, s2⟩ := h2
    have nd3 : ((mapC (fun i => n * i) (fun _ => true) qs).map (·.1)).Nodup := mapC_nd nd2
    refine ⟨_, rfl, D, _, rfl, gD2, addC_nd nd1, fun q hq => ?_, ?_, fun H' p rs sm hp gp can cts => k H' p rs (s2.trans sm) (Same.none s2 hp) gp can fun z => ?_⟩
    · have := addC_keys (List.mem_map_of_mem (f := (·.1)) hq)
      rcases this with h | h
      · obtain ⟨q', h1, h2⟩ := List.mem_map.mp h
        have h2 : q'.1 = q.1 := h2
        rw [← h2]
        exact wd1 q' h1
      · obtain ⟨q', h1, h2⟩ := List.mem_map.mp h
        have h2 : q'.1 = q.1 := h2
        rw [← h2]
        obtain ⟨i, h3, _, _⟩ := mapC_mem.mp h1
        exact wd2 (q'.1, i) h3
    · have l1 := addC_len (acc := ps) (ps := mapC (fun i => n * i) (fun _ => true) qs)
      have l2 := mapC_len (f := fun i => n * i) (flt := fun _ => true) (ps := qs)
      omega
    · rw [cts, ct_addC nd3, ct_mapC nd2 (fun _ => Int.mul_zero n)]
      rfl
theorem ok_nee {f : Addr} {fd : FuncData} (F : Fun K "_law_needed" "_law_needed" sNeeL f fd) (B2 : Blt2 mg) : FnOk P w K mg base CX0 1 f fd ["_law_counts", "_law_sign"] spNee := by
  refine F.ok scNee (fun vs H Q E h => ?_) (fun cdv A outer s H vs Q E hr h => ?_)
  · obtain ⟨a, ps, n, rfl, _⟩ := h
    rfl
  · obtain ⟨a, ps, n, rfl, ha, hn, nd1, few1, k⟩ := h
    have hu := hu_of hr
    have nd : nNee.Nodup := scNee.nd
    refine ⟨_, pss_one (ps_ret (pe_callTy (call_dictP rfl) (by rfl) B2.dict bDict (pa_cons (pe_lock (pe_lc (own := [("_law_kind", 2)]) (g := gName 2) rfl nd (pi_keys (pv 0)) (blkOk_by (N := nNee) (sc := defScope sNeeL) (by decide +kernel)) (fun _ _ _ _ _ => pg_name (i := 2) nd rfl (Or.inl rfl)) (fun _ _ _ _ _ => (pts_one (pt_cmpR op_gt (pe_op op_mul (pv 1) (pe_dget hu (pv 0) (pv 2) (fun _ _ => rfl))) pe_int (nomark _)))) (fun _ _ _ _ _ => (pe_tup (pa_cons (pv 2) (pa_cons (pe_op op_mul (pv 1) (pe_dget hu (pv 0) (pv 2) (fun _ _ => rfl))) pa_nil)))))) pa_nil))), ?_⟩
    refine ⟨a, _, ha, trivial, fun od => ⟨_, rfl, a, od, rfl, .inl ⟨cD ps, upd_same, fun E0 hE => ?_⟩⟩⟩
    refine lk_counts (fun i => n * i) (fun i => decide (0 < n * i)) upd_same (Nat.le_trans few1 (by decide)) hE (fun z i H3 R R' rd hm c1 c2 => ?_) (fun H' us same eD hus => ?_)
    · have dg := dget_in rd nd1 hm
      refine ⟨rfl, _, rfl, _, rfl, _, rfl, a, _, rfl, dg, _, _, rfl, rfl, cm1 hn, _, _, rfl, rfl, _, rfl, ifb (fun hb => ?_) (fun hb => ?_)⟩
      · exact ⟨_, rfl, _, rfl, _, rfl, _, rfl, a, _, rfl, dg, _, _, rfl, rfl, cm1 hn, by show 2 ≤ sizeLine; decide, fun T hT => c1 hb T hT⟩
      · exact c2 hb
    · obtain ⟨f1, f2, f3, f4⟩ := lk_end ha hE same eD hus
      refine ⟨f1, E0, us, cD _, rfl, .inl (.inl f3), TupsAt.cD f4, fun q hq => ?_⟩
      rw [merge_nd (mapC_nd nd1)]
      exact k _ _ (f2.trans (same_new hq)) (Same.none f2 hq) upd_same
end
end Ld
namespace Ld
open PySem PySem.Spec PyProof.Rows L2
open TL
/-! ### a drive done, by the law's own look -/
/-- counts at an address that is none of N -/
def LdX (N : List Addr) (H : Hp) (x : Addr) (ps : List (Str × Int)) : Prop := x ∉ N ∧ H x = some (.dK (cD ps))
abbrev StkL (N : List Addr) (H : Hp) (a : Addr) (n : Nat) (S : StF) : Prop := StkG (LdX N) H a n S
theorem StkL.keep {N : List Addr} {H H' : Hp} {a : Addr} {n : Nat} {S : StF} (h : StkL N H a n S) (s : Same H H') : StkL N H' a n S := h.same s fun _ _ e => ⟨e.1, s _ _ e.2⟩
theorem stk_getL {N : List Addr} {H : Hp} {a q : Addr} {n : Nat} {S : StF} {h : Str} (g : StkL N H a n S) (z : H q = some (.dK [])) : ∃ o y ps, DGet H a (.str h) o ∧ o.getD (.ref q) = .ref y ∧ H y = some (.dK (cD ps)) ∧ Can ps ∧ ∀ z, ct ps z = S h z := by
  obtain ⟨es, h1, h2, h3, h4, h5⟩ := g
  have d := DGet.k (k := (Sum.inr h : Key)) h1
  rw [valV_eD] at d
  cases e : getE es h with
  | none =>
    rw [e] at d
    exact ⟨_, q, [], d, rfl, z, can_nil, fun z => (h5 h e z).symm ▸ rfl⟩
  | some b =>
    rw [e] at d
    obtain ⟨ps, r, c, q, _⟩ := h4 _ (getE_mem e)
    exact ⟨_, b, ps, d, rfl, r.2, c, q⟩
/-- the kinds that a house lacks -/
def lackK (s : Int) (c : List (Str × Int)) (f : Str → Int) : List Str := ((sgn s c).filter fun q => decide (f q.1 < q.2)).map (·.1)
theorem lack_empty {s : Int} {c : List (Str × Int)} {f : Str → Int} (hf : ∀ z, 0 ≤ f z) : (lackK s c f).isEmpty = c.all fun q => decide (s * q.2 ≤ f q.1) := by
  unfold lackK
  rw [Bool.eq_iff_iff, List.isEmpty_iff, List.map_eq_nil_iff, List.filter_eq_nil_iff, List.all_eq_true]
  constructor
  · intro h q hq
    refine decide_eq_true ?_
    have hz := hf q.1
    by_cases g : 0 < s * q.2
    · have hm : (q.1, s * q.2) ∈ sgn s c := mapC_mem.mpr ⟨q.2, hq, decide_eq_true g, rfl⟩
      have := h _ hm
      rw [decide_eq_true_eq] at this
      dsimp only at this
      omega
    · omega
  · intro h q hq hl
    obtain ⟨i, h1, h2, h3⟩ := mapC_mem.mp hq
    have := of_decide_eq_true (h _ h1)
    have hl := of_decide_eq_true hl
    dsimp only at this h3
    omega
abbrev nDon : List Str := ["_law_drive", "_law_held", "_law_one", "_law_other", "_law_counts", "_law_house", "_law_part", "_law_found", "_law_kind"]
theorem scDon : FnScope nDon ["_law_drive", "_law_held"] (defScope sDonL) := ⟨rfl, rfl, rfl, by decide +kernel, rfl, by decide +kernel, by decide +kernel⟩
def spDon : Sp := fun vs H Q _ => ∃ (p t a : Addr) (r : Row) (n : Nat) (S : StF) (W : List Str), vs = [.ref t, .ref a] ∧ (∃ o, H p = some o) ∧ RowAt p H t r ∧ RowOk r ∧ StkL [p] H a n S ∧ n < 900 ∧ Pos0 S ∧ SupW W S ∧ W.length ≤ 40 ∧
  (canB S r = false → ∀ H', Same H H' → Q .non H') ∧ (canB S r = true → ∀ (H' : Hp) (b : Addr), Same H H' → H b = none → StkL [p] H' b (n + 2) (app S r) → Q (.ref b) H')
section
variable {P : Program} {w : World} {K : PySem.W.Frag} {mg : Str → Option Value} {base : Heap}
theorem ok_don {f : Addr} {fd : FuncData} (F : Fun K "_law_done" "_law_done" sDonL f fd) (B2 : Blt2 mg) (HN : Has P w K mg base 1 "_law_needed" ["_law_counts", "_law_sign"] spNee) (HP : Has P w K mg base 2 "_law_plus" ["_law_one", "_law_other", "_law_times"] spPlu) : FnOk P w K mg base CX0 3 f fd ["_law_drive", "_law_held"] spDon := by
  obtain ⟨g1, gd1, G1, b1, m1, k1⟩ := HN
  obtain ⟨g2, gd2, G2, b2, m2, k2⟩ := HP
  refine F.ok scDon (fun vs H Q E h => ?_) (fun cdv A outer s H vs Q E hr h => ?_)
  · obtain ⟨p, t, a, r, n, S, W, rfl, _⟩ := h
    rfl
  · obtain ⟨p, t, a, ⟨one, other, c⟩, n, S, W, rfl, ⟨op, hpp⟩, ⟨e, nep, gT, gE⟩, ok, gS, hn, hp0, sup, hW, kF, kT⟩ := h
    have hr1 : Room 1 _ := hr.mono (by decide : 1 ≤ 2)
    have hr2 : Room 2 _ := hr
    have hu := hu_of hr
    have hu0 := Nat.lt_of_succ_lt hu
    have nd : nDon.Nodup := scDon.nd
    have can : Can c := ok.can
    have few : c.length ≤ 3 := ok.few
    refine ⟨_, pss_cons (ps_asg (pv 0) (pg_tup (by rfl) (pgs_cons (pg_name (i := 2) nd rfl (Or.inl rfl)) (pgs_cons (pg_name (i := 3) nd rfl (Or.inl rfl)) (pgs_cons (pg_name (i := 4) nd rfl (Or.inl rfl)) pgs_nil)))))
      (pss_cons (ps_for PassesOwn.never rfl (pi_list (pe_lst (pa_cons (pe_tup (pa_cons (pv 2) (pa_cons (pe_call G1 hr1 (by rfl) m1 k1 b1 .nil pass0 (pa_cons (pv 4) (pa_cons pe_int pa_nil))) pa_nil))) (pa_cons (pe_tup (pa_cons (pv 3) (pa_cons (pe_call G1 hr1 (by rfl) m1 k1 b1 .nil pass0 (pa_cons (pv 4) (pa_cons (pe_un un_neg pe_int) pa_nil))) pa_nil))) pa_nil)))) (pg_tup rfl (pgs_cons (pg_name (i := 5) nd rfl (Or.inr rfl)) (pgs_cons (pg_name (i := 6) nd rfl (Or.inr rfl)) pgs_nil)))
        (pss_one (ps_if (pt_cmpR (op_neE hu0) (pe_lock (pe_lc (own := [("_law_kind", 8)]) (g := gName 8) rfl nd (pi_keys (pv 6)) (blkOk_by (N := nDon) (sc := defScope sDonL) (by decide +kernel)) (fun _ _ _ _ _ => pg_name (i := 8) nd rfl (Or.inl rfl)) (fun _ _ _ _ _ => (pts_one (pt_cmpR op_lt (pe_dget2 hu (pe_dget2 hu (pv 1) (pv 5) pe_dnewK ⟨by rfl, by rfl, by rfl, by rfl⟩) (pv 8) pe_int ⟨by rfl, by rfl, by rfl, by rfl⟩) (pe_dget hu (pv 6) (pv 8) (fun _ _ => rfl)) (nomark _)))) (fun _ _ _ _ _ => (pv 8)))) (pe_lst pa_nil) (nomark _)) (pss_one (ps_ret pe_non)) pss_nil)))
      (pss_cons (ps_set (i := 7) nd rfl (Or.inl rfl) (pe_callTy call_dictD (by rfl) B2.dict bDict (pa_cons (pv 1) pa_nil)))
      (pss_cons (ps_dput hu (pv 7) (pv 2) (pe_call G2 hr2 (by rfl) m2 k2 b2 .nil pass0 (pa_cons (pe_dget2 hu (pv 1) (pv 2) pe_dnewK ⟨by rfl, by rfl, by rfl, by rfl⟩) (pa_cons (pv 4) (pa_cons (pe_un un_neg pe_int) pa_nil)))) rfl)
      (pss_cons (ps_dput hu (pv 7) (pv 3) (pe_call G2 hr2 (by rfl) m2 k2 b2 .nil pass0 (pa_cons (pe_dget2 hu (pv 1) (pv 3) pe_dnewK ⟨by rfl, by rfl, by rfl, by rfl⟩) (pa_cons (pv 4) (pa_cons pe_int pa_nil)))) rfl)
      (pss_one (ps_ret (pv 7))))))), ?_⟩
    refine seq_step (fun σ' H' => σ' = [some (.ref t), some (.ref a), some (.str one), some (.str other), some (.ref e), none, none, none, none] ∧ H = H') (fun R hR => ⟨_, rfl, t, _, rfl, .inl (.inl gT), rfl, _, _, rfl, _, _, rfl, _, _, rfl, rfl, hR _ _ ⟨rfl, rfl⟩⟩) (fun σ0 H0 h0 => ?_)
    obtain ⟨rfl, rfl⟩ := h0
    -- the two ways
    refine seq_step (fun σ' H' => ∃ x5 x6, σ' = [some (.ref t), some (.ref a), some (.str one), some (.str other), some (.ref e), x5, x6, none, none] ∧ Same H H' ∧ canB S (one, other, c) = true) (fun R hR => ?_) (fun σ1 H1 h1 => ?_)
    · refine ⟨_, rfl, _, rfl, e, c, 1, rfl, gE, .inl rfl, can.nd, by omega, fun H1 q1 s1 hq1 gq1 => ⟨by show 2 ≤ sizeLine; decide, fun T1 hT1 => ?_⟩⟩
      have t1 := same_new (o := .tup [.str one, .ref q1]) hT1
      refine ⟨_, rfl, _, rfl, _, rfl, e, c, -1, rfl, t1 _ _ (s1 _ _ gE), .inr rfl, can.nd, by omega, fun H2 q2 s2 hq2 gq2 => ⟨by show 2 ≤ sizeLine; decide, fun T2 hT2 => ⟨by show 2 ≤ sizeLine; decide, fun I hI => ?_⟩⟩⟩
      have t2 := same_new (o := .tup [.str other, .ref q2]) hT2
      have hqn2 : H q2 = none := Same.none (s1.trans t1) hq2
      have t3 := same_new (o := .lst [.ref T1, .ref T2]) hI
      have s23 := s2.trans (t2.trans t3)
      have g1 := s23 _ _ (upd_same (H := H1) (a := T1) (o := .tup [.str one, .ref q1]))
      have g2 := t3 _ _ (upd_same (H := H2) (a := T2) (o := .tup [.str other, .ref q2]))
      have g3 := upd_same (H := upd H2 T2 (.tup [.str other, .ref q2])) (a := I) (o := .lst [.ref T1, .ref T2])
      have gq1' := s23 _ _ (t1 _ _ gq1)
      have gq2' := t3 _ _ (t2 _ _ gq2)
      have s03 : Same H _ := s1.trans (t1.trans s23)
      clear hI hT1 hT2 t1 t2 t3 s23
      generalize upd (upd H2 T2 (.tup [.str other, .ref q2])) I (.lst [.ref T1, .ref T2]) = H3 at g1 g2 g3 gq1' gq2' s03 ⊢
      refine ⟨I, rfl, ⟨_, .inl (.inl g3)⟩, for_list (xs := [.ref T1, .ref T2]) (fun j σ' H' => ∃ x5 x6, σ' = [some (.ref t), some (.ref a), some (.str one), some (.str other), some (.ref e), x5, x6, none, none] ∧ Same H3 H' ∧ (1 ≤ j → (c.all fun q => decide (1 * q.2 ≤ S one q.1)) = true) ∧ (2 ≤ j → (c.all fun q => decide (-1 * q.2 ≤ S other q.1)) = true))
        ⟨_, _, rfl, fun _ _ e => e, fun h => by omega, fun h => by omega⟩ (fun j σ' H' _ ⟨_, _, _, h, _⟩ => .inl (.inl (h _ _ g3))) ?_ ?_⟩
      · rintro j y σ' H4 hy ⟨x5, x6, rfl, sm, c1, c2⟩
        obtain ⟨T3, hh, q3, sg, hqn, rfl, hT3, hq3, hj⟩ : ∃ T3 hh q3 sg, H q3 = none ∧ y = .ref T3 ∧ H3 T3 = some (.tup [.str hh, .ref q3]) ∧ H3 q3 = some (.dK (cD (sgn sg c))) ∧ ((j = 0 ∧ hh = one ∧ sg = 1) ∨ (j = 1 ∧ hh = other ∧ sg = -1)) := by
          match j, hy with
          | 0, hy => exact ⟨T1, one, q1, 1, hq1, (Option.some.inj hy).symm, g1, gq1', .inl ⟨rfl, rfl, rfl⟩⟩
          | 1, hy => exact ⟨T2, other, q2, -1, hqn2, (Option.some.inj hy).symm, g2, gq2', .inr ⟨rfl, rfl, rfl⟩⟩
        have hT4 := sm _ _ hT3
        have hq4 := sm _ _ hq3
        have snd : ((sgn sg c).map (·.1)).Nodup := mapC_nd can.nd
        have sfew : (sgn sg c).length ≤ 3 := Nat.le_trans mapC_len few
        refine ⟨T3, _, rfl, .inl (.inl hT4), rfl, _, _, rfl, _, _, rfl, rfl, ?_⟩
        -- the comprehension
        refine ⟨q3, _, hq4, trivial, fun od => ⟨_, rfl, q3, od, rfl, .inl ⟨cD (sgn sg c), upd_same, fun D hD => ?_⟩⟩⟩
        have sA : Same H (upd H4 q3 (.frz od (.dK (cD (sgn sg c))))) := fun b o e => by
          rw [upd_ne (ne_of_none e hqn)]
          exact sm _ _ (s03 _ _ e)
        have nDq : D ≠ q3 := fun x => by rw [x, upd_same] at hD; cases hD
        refine lc_it (walk_keys (d := q3) (o := od) (kvs := cD (sgn sg c))) (fun i H' => H' D = some (.lst (((((sgn sg c).take i).filter fun q => decide (S hh q.1 < q.2)).map (·.1)).map V.str)) ∧ Same (upd H4 q3 (.frz od (.dK (cD (sgn sg c))))) H')
          ⟨upd_same, same_new hD⟩ (fun i H' _ h => h.2 _ _ upd_same) ?_ ?_
        · rintro i x H5 H6 hi ⟨eD, s5⟩ ⟨rfl, kk, v, hx, rfl⟩
          rw [cD_len] at hi
          have hp : (cD (sgn sg c))[i]? = some (Sum.inr (sgn sg c)[i].1, V.int (sgn sg c)[i].2) := by
            unfold cD
            rw [List.getElem?_map, List.getElem?_eq_getElem hi]
            rfl
          rw [hp] at hx
          cases hx
          have gS6 := gS.keep (sA.trans s5)
          obtain ⟨es, ea, _⟩ := id gS6
          have et : ((sgn sg c).take (i + 1)).filter (fun q => decide (S hh q.1 < q.2)) = ((sgn sg c).take i).filter (fun q => decide (S hh q.1 < q.2)) ++ (if decide (S hh (sgn sg c)[i].1 < (sgn sg c)[i].2) = true then [(sgn sg c)[i]] else []) := by
            rw [List.take_add_one, List.getElem?_eq_getElem hi, List.filter_append]
            congr 1
            show List.filter _ [(sgn sg c)[i]] = _
            rw [List.filter_cons]
            rfl
          refine ⟨rfl, _, rfl, a, rfl, .inl ⟨_, .inl ea⟩, _, rfl, fun q0 hq0 => ?_⟩
          have t0 := same_new (o := .dK []) hq0
          obtain ⟨o, y, ps, d, eo, gy, cy, ey⟩ := stk_getL (h := hh) (gS6.keep t0) upd_same
          have rd : Rd (upd H6 q0 (.dK [])) q3 (.dK (cD (sgn sg c))) := .inr ⟨od, t0 _ _ (s5 _ _ upd_same)⟩
          have dg := dget_in rd snd (List.getElem_mem hi)
          refine ⟨o, d, y, eo, .inl ⟨_, .inl gy⟩, _, rfl, _, dget_ct gy, _, rfl, _, rfl, q3, _, rfl, dg, _, _, getD_ct, rfl, _, rfl, ifb (fun hb => ?_) (fun hb => ?_)⟩
          · rw [ey] at hb
            replace hb : decide (S hh (sgn sg c)[i].1 < (sgn sg c)[i].2) = true := hb
            refine ⟨_, rfl, _, t0 _ _ eD, ?_, ?_, ?_⟩
            · rw [List.length_map, List.length_map]
              refine Nat.lt_of_le_of_lt (List.length_filter_le _ _) ?_
              rw [List.length_take]
              exact Nat.lt_of_le_of_lt (by omega : _ ≤ 3) (by decide)
            · rw [upd_same, et, if_pos hb, List.map_append, List.map_append]
              rfl
            · intro b o' e'
              rw [upd_ne (ne_of_none e' hD)]
              exact t0 _ _ (s5 _ _ e')
          · rw [ey] at hb
            replace hb : decide (S hh (sgn sg c)[i].1 < (sgn sg c)[i].2) = false := hb
            refine ⟨?_, s5.trans t0⟩
            rw [et, if_neg (by rw [hb]; exact Bool.false_ne_true), List.append_nil]
            exact t0 _ _ eD
        · rintro H5 ⟨eD, s5⟩
          rw [cD_len, List.take_length] at eD
          have s6 : Same H4 (upd H5 q3 (.dK (cD (sgn sg c)))) := fun b o e' => by
            by_cases eb : b = q3
            · rw [eb, upd_same, ← hq4, ← eb, e']
            · rw [upd_ne eb]
              exact s5 _ _ (by rw [upd_ne eb]; exact e')
          refine ⟨s5 _ _ upd_same, Nat.zero_le _, fun p5 hp5 => ?_⟩
          have t5 := same_new (o := .lst []) hp5
          have s7 := s6.trans t5
          refine ⟨D, p5, (lackK sg c (S hh)).map V.str, rfl, rfl, .inl (.inl (t5 _ _ (by rw [upd_ne nDq]; exact eD))), .inl (.inl upd_same), _, rfl, ifb (fun hb => ?_) (fun hb => ?_)⟩
          · refine kF ?_ _ (s03.trans (sm.trans s7))
            have hne : (lackK sg c (S hh)).isEmpty = false := by
              rw [Bool.not_eq_true'] at hb
              cases hl : lackK sg c (S hh) with
              | nil => rw [hl] at hb; cases hb
              | cons _ _ => rfl
            rw [lack_empty fun z => hp0 hh z] at hne
            refine (Bool.not_eq_true _).mp fun hc => ?_
            unfold canB at hc
            rw [List.all_eq_true] at hc
            have : (c.all fun q => decide (sg * q.2 ≤ S hh q.1)) = true := by
              rw [List.all_eq_true]
              intro q hq
              have h9 := (Bool.and_eq_true _ _).mp (hc q hq)
              rcases hj with ⟨_, rfl, rfl⟩ | ⟨_, rfl, rfl⟩
              · rw [Int.one_mul]; exact h9.1
              · rw [Int.neg_one_mul]; exact h9.2
            rw [this] at hne
            cases hne
          · have hem : (c.all fun q => decide (sg * q.2 ≤ S hh q.1)) = true := by
              rw [← lack_empty fun z => hp0 hh z]
              rw [Bool.not_eq_false'] at hb
              cases hl : lackK sg c (S hh) with
              | nil => rfl
              | cons _ _ => rw [hl] at hb; cases hb
            refine ⟨_, _, rfl, sm.trans s7, fun h1 => ?_, fun h2 => ?_⟩
            · rcases hj with ⟨_, rfl, rfl⟩ | ⟨rfl, _, _⟩
              · exact hem
              · exact c1 (by decide)
            · rcases hj with ⟨rfl, _, _⟩ | ⟨_, rfl, rfl⟩
              · omega
              · exact hem
      · rintro σ' H4 ⟨x5, x6, rfl, sm, c1, c2⟩
        refine hR _ _ ⟨_, _, rfl, s03.trans sm, ?_⟩
        have a1 := c1 (Nat.le_succ 1)
        have a2 := c2 (Nat.le_refl 2)
        unfold canB
        rw [List.all_eq_true] at a1 a2 ⊢
        intro q hq
        have b1 := a1 q hq
        have b2 := a2 q hq
        rw [Int.one_mul] at b1
        rw [Int.neg_one_mul] at b2
        rw [b1, b2]
        rfl
    obtain ⟨x5, x6, rfl, s1, hcan⟩ := h1
    have gS1 := gS.keep s1
    obtain ⟨es, e1, e2, e3, e4, e5⟩ := id gS1
    -- found
    refine ⟨_, rfl, a, eD es, rfl, .inl e1, fun D hD => ?_⟩
    have hD0 : H D = none := Same.none s1 hD
    have k1 := s1.trans (same_new (o := .dK (eD es)) hD)
    have ep : (upd H1 D (.dK (eD es))) D = some (.dK (eD es)) := upd_same
    have gP : StkL [p, D] (upd H1 D (.dK (eD es))) D n S := ⟨es, upd_same, e2, e3, fun x hx => by
      obtain ⟨ps, r, c4, c5⟩ := e4 x hx
      refine ⟨ps, ⟨fun hm => ?_, same_new hD _ _ r.2⟩, c4, c5⟩
      rcases List.mem_cons.mp hm with h | h
      · exact r.1 (h ▸ List.mem_cons_self)
      · exact ne_of_none r.2 hD (List.mem_singleton.mp h), e5⟩
    clear e1
    generalize upd H1 D (.dK (eD es)) = H2 at k1 ep gP ⊢
    have npD : p ≠ D := ne_of_none hpp hD0
    have fresh : ∀ {H' : Hp} {z : Addr}, Same H H' → (∃ o, H' D = some o) → H' z = none → z ∉ [p, D] := fun {H' z} s h hz hm => by
      rcases List.mem_cons.mp hm with h1 | h1
      · rw [h1, s _ _ hpp] at hz
        cases hz
      · obtain ⟨o, h⟩ := h
        rw [List.mem_singleton.mp h1, h] at hz
        cases hz
    have keepN : ∀ {H' : Hp} {kvs : List (Key × V)} {x : Addr} {qs : List (Str × Int)}, LdX [p, D] H' x qs → LdX [p, D] (upd H' D (.dK kvs)) x qs := fun {H' kvs x qs} r => ⟨r.1, by
      have : x ≠ D := fun h => r.1 (by rw [h]; exact List.mem_cons_of_mem _ List.mem_cons_self)
      rw [upd_ne this]
      exact r.2⟩
    -- found[one]
    have gA := gS.keep k1
    obtain ⟨esA, eA, _⟩ := id gA
    refine ⟨_, rfl, a, rfl, .inl ⟨_, .inl eA⟩, _, rfl, fun q0 hq0 => ?_⟩
    have t0 := same_new (o := .dK []) hq0
    obtain ⟨o, y, ps, d, eo, gy, cy, ey⟩ := stk_getL (h := one) (gA.keep t0) upd_same
    refine ⟨o, d, _, rfl, _, rfl, y, e, ps, c, -1, by rw [eo]; rfl, gy, t0 _ _ (k1 _ _ gE), .inr rfl, cy.nd, cy.wd, Nat.le_trans (sup_len sup cy ey) hW, can.nd, can.wd, by omega, fun H3 z3 rs s3 hz3 gz3 can3 ct3 => ?_⟩
    have k3 := k1.trans (t0.trans s3)
    have ep2 := t0 _ _ ep
    have ep3 := s3 _ _ ep2
    have gP3 : StkL [p, D] H3 D n S := (gP.keep t0).keep s3
    obtain ⟨dp, gP4⟩ := stk_put (R := LdX [p, D]) (h := one) (H' := upd H3 D (.dK (putK (eD es) (Sum.inr one) (.ref z3)))) gP3 ok.w1 (by omega) ⟨fresh (k1.trans t0) ⟨_, ep2⟩ hz3, gz3⟩ can3 (fun x qs r => keepN r) (fun kvs h => by rw [ep3] at h; cases h; rfl)
    refine ⟨_, rfl, _, rfl, D, _, rfl, dp, ?_⟩
    rw [putK_eD] at gP4 ⊢
    have k4 : Same H (upd H3 D (.dK (eD (putE es one z3)))) := fun b o e => by rw [upd_ne (ne_of_none e hD0)]; exact k3 _ _ e
    have ep4 : (upd H3 D (.dK (eD (putE es one z3)))) D = some (.dK (eD (putE es one z3))) := upd_same
    clear dp hz3
    generalize upd H3 D (.dK (eD (putE es one z3))) = H4 at gP4 k4 ep4 ⊢
    generalize putE es one z3 = es2 at ep4 ⊢
    -- found[other]
    have gA4 := gS.keep k4
    obtain ⟨esB, eB, _⟩ := id gA4
    refine ⟨_, rfl, a, rfl, .inl ⟨_, .inl eB⟩, _, rfl, fun q5 hq5 => ?_⟩
    have t5 := same_new (o := .dK []) hq5
    obtain ⟨o6, y6, ps6, d6, eo6, gy6, cy6, ey6⟩ := stk_getL (h := other) (gA4.keep t5) upd_same
    refine ⟨o6, d6, _, rfl, y6, e, ps6, c, 1, by rw [eo6]; rfl, gy6, t5 _ _ (k4 _ _ gE), .inl rfl, cy6.nd, cy6.wd, Nat.le_trans (sup_len sup cy6 ey6) hW, can.nd, can.wd, by omega, fun H7 z7 rs7 s7 hz7 gz7 can7 ct7 => ?_⟩
    have ep6 := t5 _ _ ep4
    have ep7 := s7 _ _ ep6
    have gP7 : StkL [p, D] H7 D (n + 1) (setH S one (ct rs)) := StkL.keep (StkL.keep gP4 t5) s7
    obtain ⟨dp7, gP8⟩ := stk_put (R := LdX [p, D]) (h := other) (H' := upd H7 D (.dK (putK (eD es2) (Sum.inr other) (.ref z7)))) gP7 ok.w2 (by omega) ⟨fresh (k4.trans t5) ⟨_, ep6⟩ hz7, gz7⟩ can7 (fun x qs r => keepN r) (fun kvs h => by rw [ep7] at h; cases h; rfl)
    refine ⟨_, rfl, _, rfl, D, _, rfl, dp7, ?_⟩
    have ea : setH (setH S one (ct rs)) other (ct rs7) = app S (one, other, c) := setH_app (r := (one, other, c)) ok.ne (fun z => by
      have h9 := ct3 z
      rw [ey] at h9
      show ct rs z = S one z - ct c z
      omega) (fun z => by
      have h9 := ct7 z
      rw [ey6] at h9
      show ct rs7 z = S other z + ct c z
      omega)
    rw [ea] at gP8
    have k8 : Same H (upd H7 D (.dK (putK (eD es2) (Sum.inr other) (.ref z7)))) := fun b o e => by rw [upd_ne (ne_of_none e hD0)]; exact s7 _ _ (t5 _ _ (k4 _ _ e))
    exact ⟨_, rfl, kT hcan _ D k8 hD0 (gP8.imp fun x ps r => ⟨fun hm => r.1 (List.mem_cons.mpr (.inl (List.mem_singleton.mp hm))), r.2⟩)⟩
end
end Ld
namespace Ld
open PySem PySem.Spec PyProof.Rows L2
open TL
/-! ### the law's own search -/
abbrev nFir : List Str := ["_law_rows", "_law_held", "_law_left", "_law_k", "_law_after", "_law_rest", "_law_found", "_law_one"]
theorem scFir : FnScope nFir ["_law_rows", "_law_held", "_law_left"] (defScope sFirL) := ⟨rfl, rfl, rfl, by decide +kernel, rfl, by decide +kernel, by decide +kernel⟩
theorem filter_ne_len {l : List Nat} {k : Nat} (nd : l.Nodup) (h : k ∈ l) : (l.filter fun j => j != k).length + 1 = l.length := by
  have e2 : l.filter (fun j => j != k) = l.erase k := by rw [List.Nodup.erase_eq_filter nd]
  have : 0 < l.length := List.length_pos_of_mem h
  rw [e2, List.length_erase_of_mem h]
  omega
theorem dfs_nil {rows : List Row} {S : StF} {m : Nat} {left : List Nat} (hl : left.length = m) (h : left = []) : dfs rows m left S = some [] := by
  subst h
  obtain rfl : m = 0 := hl.symm
  rfl
theorem neb {j k : Nat} : (!decide (V.int ((j : Nat) : Int) = V.int ((k : Nat) : Int))) = (j != k) := by
  rw [Bool.eq_iff_iff, Bool.not_eq_true', decide_eq_false_iff_not, bne_iff_ne]
  constructor
  · intro h e
    exact h (by rw [e])
  · intro h e
    have := V.int.inj e
    omega
theorem dfs_len {rows : List Row} : ∀ {m : Nat} {left : List Nat} {S : StF} {t : List Nat}, dfs rows m left S = some t → t.length = m
  | 0, _, _, t, h => by
    have h : some [] = some t := h
    cases h
    rfl
  | m + 1, left, S, t, h => by
    rw [dfs_succ] at h
    obtain ⟨k, _, hk⟩ := List.exists_of_findSome?_eq_some h
    unfold turnF at hk
    split at hk
    · obtain ⟨u, hu, rfl⟩ := Option.map_eq_some_iff.mp hk
      rw [List.length_cons, dfs_len hu]
    · cases hk
theorem lc_intf {K : PySem.W.Frag} {l D : Addr} {xs : List Nat} {flt : Nat → Bool} {g : TG} {tt : TT} {te : TE} {vs : List Nat} {σ : L2.St} {H : Hp} {Qd : Hp → Prop} (hl : H l = some (.lst (iV xs))) (few : xs.length ≤ 1000) (hD : H D = none)
    (hturn : ∀ (j : Nat) (H3 : Hp) (R : V → Hp → Prop) (R' : Hp → Prop), (flt j = true → R (.int ((j : Nat) : Int)) H3) → (flt j = false → R' H3) →
      g (.int ((j : Nat) : Int)) (wipe σ vs) H3 fun σ2 H2 => wipe σ2 vs = wipe σ vs ∧ tt σ2 H2 fun b H3 => if b = true then te σ2 H3 fun y H4 => R y H4 else R' H3)
    (hq : ∀ H', Same H H' → H' D = some (.lst (iV (xs.filter flt))) → Qd H') :
    ∃ W : Nat → Nat → Hp → Prop, (∃ m, W 0 m (upd H D (.lst []))) ∧ ∀ i m H, W i m H →
      ((Itl K l).stop i H ∧ Qd H) ∨ ((Itl K l).go i H ∧ ∃ Nx : Hp → Prop, (∀ H', Nx H' → ∃ m', m' < m ∧ W (i + 1) m' H') ∧ ∀ x H', (Itl K l).yld i H x H' → g x (wipe σ vs) H' fun σ2 H2 => wipe σ2 vs = wipe σ vs ∧ tt σ2 H2 fun b H3 =>
        if b = true then te σ2 H3 fun y H4 => ∃ acc, H4 D = some (.lst acc) ∧ acc.length < sizeLine ∧ Nx (upd H4 D (.lst (acc ++ [y]))) else Nx H3) := by
  refine lc_it (walk_list (xs := iV xs)) (fun j H' => Same H H' ∧ H' D = some (.lst (iV ((xs.take j).filter flt))))
    ⟨same_new hD, upd_same⟩ (fun j H' _ ⟨h, _⟩ => .inl (.inl (h _ _ hl))) ?_ ?_
  · rintro j x H5 H6 hj ⟨same, eD⟩ ⟨rfl, hx⟩
    unfold iV at hj hx
    rw [List.length_map] at hj
    rw [List.getElem?_map, List.getElem?_eq_getElem hj] at hx
    obtain rfl : x = V.int ((xs[j] : Nat) : Int) := (Option.some.inj hx).symm
    have e1 : (xs.take (j + 1)).filter flt = (xs.take j).filter flt ++ (if flt xs[j] = true then [xs[j]] else []) := by
      rw [List.take_add_one, List.getElem?_eq_getElem hj, List.filter_append]
      congr 1
      show List.filter _ [xs[j]] = _
      rw [List.filter_cons]
      rfl
    refine hturn xs[j] H6 _ _ (fun c => ?_) (fun c => ?_)
    · refine ⟨_, eD, ?_, ?_, ?_⟩
      · unfold iV
        rw [List.length_map]
        refine Nat.lt_of_le_of_lt (List.length_filter_le _ _) ?_
        rw [List.length_take]
        exact Nat.lt_of_le_of_lt (by omega : _ ≤ 1000) (by decide)
      · intro b o e
        rw [upd_ne (ne_of_none e hD)]
        exact same _ _ e
      · rw [upd_same, e1, if_pos c]
        unfold iV
        rw [List.map_append]
        rfl
    · refine ⟨same, ?_⟩
      rw [e1, if_neg (by rw [c]; exact Bool.false_ne_true), List.append_nil]
      exact eD
  · rintro H5 ⟨same, eD⟩
    unfold iV at eD
    rw [List.length_map, List.take_length] at eD
    exact hq H5 same eD
def spFir (m : Nat) : Sp := fun vs H Q _ => ∃ (p R a l : Addr) (ts : List Addr) (rows : List Row) (left : List Nat) (S : StF) (W : List Str) (n : Nat), vs = [.ref R, .ref a, .ref l] ∧ (∃ o, H p = some o) ∧ H R = some (.lst (ts.map V.ref)) ∧ Paired (RowAt p H) ts rows ∧ (∀ r ∈ rows, RowOk r) ∧ StkL [p] H a n S ∧ n + 2 * m ≤ 800 ∧ Pos0 S ∧ SupW W S ∧ (∀ r ∈ rows, ∀ z ∈ r.2.2.map (·.1), z ∈ W) ∧ W.length ≤ 40 ∧
  H l = some (.lst (iV left)) ∧ left.length = m ∧ left.Nodup ∧ (∀ i ∈ left, i < rows.length) ∧ m ≤ 9 ∧ ∀ v H', Same H H' → OutAt [] (dfs rows m left S) v H' → Q v H'
def spFirP : Nat → Sp
  | 0 => fun _ _ _ _ => False
  | m + 1 => spFir m
section
variable {P : Program} {w : World} {K : PySem.W.Frag} {mg : Str → Option Value} {base : Heap}
theorem ok_firS {f : Addr} {fd : FuncData} (m : Nat) (F : Fun K "_law_first" "_law_first" sFirL f fd) (HD : Has P w K mg base 3 "_law_done" ["_law_drive", "_law_held"] spDon)
    (b3 : Binds K fd ["_law_rows", "_law_held", "_law_left"] []) (m3 : mg "_law_first" = some (.ref f)) (k3 : PySem.W.keepIn K (.ref f) = true) (G3 : FnOk P w K mg base CX0 (3 + m) f fd ["_law_rows", "_law_held", "_law_left"] (spFirP m)) : FnOk P w K mg base CX0 (3 + m + 1) f fd ["_law_rows", "_law_held", "_law_left"] (spFir m) := by
  obtain ⟨g1, gd1, G1, b1, m1, k1⟩ := HD
  refine F.ok scFir (fun vs H Q E h => ?_) (fun cdv A outer s H vs Q E hr h => ?_)
  · obtain ⟨p, R, a, l, ts, rows, left, S, W, n, rfl, _⟩ := h
    rfl
  · obtain ⟨p, R, a, l, ts, rows, left, S, W, n, rfl, hpp, gR, hrows, hok, gS, hn, hp0, sup, hsub, hW, gL, hlen, hnd, hlt, h9, k⟩ := h
    have hr1 : Room 3 _ := hr.mono (by omega : 3 ≤ 3 + m)
    have hu := hu_of hr
    have hu0 := Nat.lt_of_succ_lt hu
    have nd : nFir.Nodup := scFir.nd
    have htl := Paired.length hrows
    refine ⟨_, pss_cons (ps_if (pt_cmpR (op_eqE hu0) (pv 2) (pe_lst pa_nil) (nomark _)) (pss_one (ps_ret (pe_tup pa_nil))) pss_nil)
      (pss_cons (ps_for PassesOwn.never rfl (pi_list (pv 2)) (pg_name (i := 3) nd rfl (Or.inr rfl))
        (pss_cons (ps_par (i := 4) (j := 5) rfl nd rfl rfl (by decide) rfl rfl (pa_cons (pe_call G1 hr1 (by rfl) m1 k1 b1 .nil pass0 (pa_cons (pe_ix ix_list (pv 0) (pv 3) (fun _ _ => rfl)) (pa_cons (pv 1) pa_nil))) (pa_cons (pe_lc (own := [("_law_one", 7)]) (g := gName 7) rfl nd (pi_list (pv 2)) (blkOk_by (N := nFir) (sc := defScope sFirL) (by decide +kernel)) (fun _ _ _ _ _ => pg_name (i := 7) nd rfl (Or.inl rfl)) (fun _ _ _ _ _ => (pts_one (pt_cmpR op_ne (pv 7) (pv 3) (nomark _)))) (fun _ _ _ _ _ => (pv 7))) pa_nil)) (by rfl))
        (pss_cons (ps_set (i := 6) nd rfl (Or.inl rfl) (pe_ifExp (pt_cmp (pc_notN (pv 4))) (pe_call G3 hr (by rfl) m3 k3 b3 .nil pass0 (pa_cons (pv 0) (pa_cons (pv 4) (pa_cons (pv 5) pa_nil)))) pe_non))
        (pss_one (ps_if (pt_cmp (pc_notN (pv 6))) (pss_one (ps_ret (pe_op op_catT (pe_tup (pa_cons (pv 3) pa_nil)) (pv 6)))) pss_nil)))))
      (pss_one (ps_ret pe_non))), ?_⟩
    -- if left == []
    refine seq_step (fun σ' H' => σ' = [some (.ref R), some (.ref a), some (.ref l), none, none, none, none, none] ∧ Same H H' ∧ 0 < m) (fun R' hR => ?_) (fun σ1 H1 h1 => ?_)
    · refine ⟨_, rfl, Nat.zero_le _, fun p5 hp5 => ?_⟩
      have t5 := same_new (o := .lst []) hp5
      refine ⟨l, p5, iV left, rfl, rfl, .inl (.inl (t5 _ _ gL)), .inl (.inl upd_same), _, rfl, ifb (fun hb => ?_) (fun hb => ?_)⟩
      · have e : left = [] := by
          cases left with
          | nil => rfl
          | cons _ _ => cases hb
        refine ⟨Nat.zero_le _, fun p6 hp6 => ?_⟩
        exact k _ _ (t5.trans (same_new hp6)) (.inr ⟨[], p6, dfs_nil hlen e, rfl, upd_same⟩)
      · refine hR _ _ ⟨rfl, t5, ?_⟩
        cases left with
        | nil => cases hb
        | cons _ _ => rw [← hlen]; exact Nat.succ_pos _
    obtain ⟨rfl, s1, h0⟩ := h1
    obtain ⟨m, rfl⟩ : ∃ m', m = m' + 1 := ⟨m - 1, by omega⟩
    have gL1 := s1 _ _ gL
    have gR1 := s1 _ _ gR
    obtain ⟨op, hpp⟩ := hpp
    refine seq_step (fun σ' H' => ∃ x3 x4 x5 x6 x7, σ' = [some (.ref R), some (.ref a), some (.ref l), x3, x4, x5, x6, x7] ∧ Same H1 H' ∧ dfs rows (m + 1) left S = none) (fun R' hR => ?_) (fun σ2 H2 h2 => ?_)
    · refine ⟨_, rfl, l, rfl, ⟨_, .inl (.inl gL1)⟩, for_list (xs := iV left) (fun i σ' H' => ∃ x3 x4 x5 x6 x7, σ' = [some (.ref R), some (.ref a), some (.ref l), x3, x4, x5, x6, x7] ∧ Same H1 H' ∧ (left.take i).findSome? (turnF rows m left S) = none)
        ⟨_, _, _, _, _, rfl, fun _ _ e => e, rfl⟩ (fun i σ' H' _ ⟨_, _, _, _, _, _, h, _⟩ => .inl (.inl (h _ _ gL1))) ?_ ?_⟩
      · rintro i y σ' H2 hy ⟨x3, x4, x5, x6, x7, rfl, s2, hno⟩
        unfold iV at hy
        rw [List.getElem?_map] at hy
        obtain ⟨kk, hk, rfl⟩ := Option.map_eq_some_iff.mp hy
        have hil : i < left.length := (List.getElem?_eq_some_iff.mp hk).1
        have hkm : kk ∈ left := List.mem_of_getElem? hk
        have hkr := hlt kk hkm
        have hri : rows[kk]? = some rows[kk] := List.getElem?_eq_getElem hkr
        have hkt : kk < ts.length := by omega
        have hti : ts[kk]? = some ts[kk] := List.getElem?_eq_getElem hkt
        have hro := hok _ (List.getElem_mem hkr)
        have ern : rowN rows kk = rows[kk] := by
          unfold rowN
          rw [List.getD_eq_getElem?_getD, hri]
          rfl
        have s12 := s1.trans s2
        have hrow : RowAt p H2 ts[kk] rows[kk] := (Paired.nth hrows hti hri).same s12
        have hsp : left = left.take i ++ kk :: left.drop (i + 1) := by
          have e := List.getElem?_eq_some_iff.mp hk
          obtain ⟨_, e⟩ := e
          conv => lhs; rw [← List.take_append_drop i left, List.drop_eq_getElem_cons hil, e]
        have etk : left.take (i + 1) = left.take i ++ [kk] := by
          rw [List.take_add_one, hk]
          rfl
        -- after, rest
        refine seq_step (fun σ' H' => ∃ (v4 : V) (rl : Addr), σ' = [some (.ref R), some (.ref a), some (.ref l), some (.int ((kk : Nat) : Int)), some v4, some (.ref rl), x6, x7] ∧ Same H2 H' ∧ H' rl = some (.lst (iV (left.filter fun j => j != kk))) ∧ ((canB S rows[kk] = false ∧ v4 = .non) ∨ (canB S rows[kk] = true ∧ ∃ b, v4 = .ref b ∧ StkL [p] H' b (n + 2) (app S rows[kk])))) (fun R2 hR2 => ?_) (fun σ4 H4 h4 => ?_)
        · refine ⟨_, rfl, _, rfl, R, _, _, .ref ts[kk], rfl, rfl, .inl (.inl (s2 _ _ gR1)), atI_nat (by rw [List.getElem?_map, hti]; rfl), _, rfl, p, ts[kk], a, rows[kk], n, S, W, rfl, ⟨_, s12 _ _ hpp⟩, hrow, hro, gS.keep s12, by omega, hp0, sup, hW, fun hc H3 s3 => ?_, fun hc H3 b s3 hb gb => ?_⟩
          · refine ⟨_, rfl, l, rfl, ⟨_, .inl (.inl (s3 _ _ (s2 _ _ gL1)))⟩, fun D hD => ?_⟩
            refine lc_intf (flt := fun j => j != kk) (s3 _ _ (s2 _ _ gL1)) (by omega) hD (fun j H3' R4 R5 c1 c2 => ?_) (fun H' same eD => ?_)
            · exact ⟨rfl, _, rfl, _, rfl, rfl, _, rfl, ifb (fun hb => ⟨_, rfl, c1 (by rw [← neb]; exact hb)⟩) (fun hb => c2 (by rw [← neb]; exact hb))⟩
            · exact ⟨_, _, rfl, hR2 _ _ ⟨.non, D, rfl, s3.trans same, eD, .inl ⟨hc, rfl⟩⟩⟩
          · refine ⟨_, rfl, l, rfl, ⟨_, .inl (.inl (s3 _ _ (s2 _ _ gL1)))⟩, fun D hD => ?_⟩
            refine lc_intf (flt := fun j => j != kk) (s3 _ _ (s2 _ _ gL1)) (by omega) hD (fun j H3' R4 R5 c1 c2 => ?_) (fun H' same eD => ?_)
            · exact ⟨rfl, _, rfl, _, rfl, rfl, _, rfl, ifb (fun hb => ⟨_, rfl, c1 (by rw [← neb]; exact hb)⟩) (fun hb => c2 (by rw [← neb]; exact hb))⟩
            · exact ⟨_, _, rfl, hR2 _ _ ⟨.ref b, D, rfl, s3.trans same, eD, .inr ⟨hc, b, rfl, gb.keep same⟩⟩⟩
        obtain ⟨v4, rl, rfl, s4, gl, hv⟩ := h4
        have hlr := filter_ne_len hnd hkm
        have s14 := s12.trans s4
        -- found
        refine seq_step (fun σ' H' => ∃ v6, σ' = [some (.ref R), some (.ref a), some (.ref l), some (.int ((kk : Nat) : Int)), some v4, some (.ref rl), some v6, x7] ∧ Same H4 H' ∧ OutAt [] (if canB S rows[kk] = true then dfs rows m (left.filter fun j => j != kk) (app S rows[kk]) else none) v6 H') (fun R3 hR3 => ?_) (fun σ5 H5 h5 => ?_)
        · refine ⟨_, rfl, _, rfl, ifb (fun hb => ?_) (fun hb => ?_)⟩
          · rcases hv with ⟨_, rfl⟩ | ⟨hc, b, rfl, gb⟩
            · cases hb
            · refine ⟨_, rfl, _, rfl, _, rfl, p, R, b, rl, ts, rows, left.filter (fun j => j != kk), app S rows[kk], W, n + 2, rfl, ⟨_, s14 _ _ hpp⟩, s14 _ _ gR, Paired.mono (fun _ _ h => h.same s14) hrows, hok, gb, by omega, pos_app hp0 hro.can.nd hro.ne hc, sup_app sup (hsub _ (List.getElem_mem hkr)), hsub, hW, gl, by omega, List.Nodup.sublist List.filter_sublist hnd, fun i hi => hlt i (List.mem_filter.mp hi |>.1), by omega, fun v H5 s5 out => hR3 _ _ ⟨v, rfl, s5, ?_⟩⟩
              rw [if_pos hc]
              exact out
          · rcases hv with ⟨hc, rfl⟩ | ⟨hc, b, rfl, gb⟩
            · refine hR3 _ _ ⟨.non, rfl, fun _ _ e => e, ?_⟩
              rw [hc]
              exact .inl ⟨rfl, rfl⟩
            · cases hb
        obtain ⟨v6, rfl, s5, out⟩ := h5
        have etn : turnF rows m left S kk = (if canB S rows[kk] = true then dfs rows m (left.filter fun j => j != kk) (app S rows[kk]) else none).map (kk :: ·) := by
          unfold turnF
          rw [ern]
          split <;> rfl
        refine ⟨_, rfl, _, rfl, ifb (fun hb => ?_) (fun hb => ?_)⟩
        · rcases out with ⟨_, rfl⟩ | ⟨t, pf, et, rfl, gp⟩
          · cases hb
          · have hfull : dfs rows (m + 1) left S = some (kk :: t) := by
              rw [et] at etn
              rw [dfs_succ]
              generalize turnF rows m left S = g at hno etn ⊢
              rw [hsp, List.findSome?_append, hno, Option.none_or, List.findSome?_cons, etn]
              rfl
            have htl2 := dfs_len hfull
            rw [List.length_cons] at htl2
            have s15 := s1.trans (s2.trans (s4.trans s5))
            refine ⟨_, rfl, by show 1 ≤ sizeLine; decide, fun T hT => ⟨_, rfl, T, pf, [V.int ((kk : Nat) : Int)], iV t, rfl, rfl, .inl (.inl upd_same), .inl (.inl (same_new hT _ _ gp)), by simp, ?_, fun e => ?_, fun _ p9 hp9 => ?_⟩⟩
            · unfold iV
              rw [List.length_map]
              exact Nat.le_trans (by show 1 + t.length ≤ 10; omega) (by decide)
            · refine k _ _ (s15.trans (same_new hT)) (.inr ⟨kk :: t, T, hfull, rfl, ?_⟩)
              have : t = [] := List.map_eq_nil_iff.mp e
              subst this
              exact upd_same
            · exact k _ _ (s15.trans ((same_new hT).trans (same_new hp9))) (.inr ⟨kk :: t, p9, hfull, rfl, upd_same⟩)
        · rcases out with ⟨en, rfl⟩ | ⟨t, pf, et, rfl, gp⟩
          · refine ⟨_, _, _, _, _, rfl, s2.trans (s4.trans s5), ?_⟩
            rw [etk, List.findSome?_append, hno, Option.none_or, List.findSome?_cons, etn, en]
            rfl
          · cases hb
      · rintro σ' H3 ⟨x3, x4, x5, x6, x7, rfl, s2, hno⟩
        unfold iV at hno
        rw [List.length_map, List.take_length] at hno
        exact hR _ _ ⟨_, _, _, _, _, rfl, s2, hno⟩
    obtain ⟨x3, x4, x5, x6, x7, rfl, s2, hno⟩ := h2
    exact k _ _ (s1.trans s2) (.inl ⟨hno, rfl⟩)
theorem ok_fir {f : Addr} {fd : FuncData} (F : Fun K "_law_first" "_law_first" sFirL f fd) (HD : Has P w K mg base 3 "_law_done" ["_law_drive", "_law_held"] spDon)
    (b3 : Binds K fd ["_law_rows", "_law_held", "_law_left"] []) (m3 : mg "_law_first" = some (.ref f)) (k3 : PySem.W.keepIn K (.ref f) = true) : ∀ m, FnOk P w K mg base CX0 (3 + m + 1) f fd ["_law_rows", "_law_held", "_law_left"] (spFir m)
  | 0 => ok_firS 0 F HD b3 m3 k3 ⟨fun _ _ _ _ h => h.elim, fun _ _ _ _ _ _ _ _ _ _ _ _ _ h => h.elim⟩
  | m + 1 => ok_firS (m + 1) F HD b3 m3 k3 (ok_fir F HD b3 m3 k3 m)
end
end Ld
namespace Ld
open PySem PySem.Spec PyProof.Rows L2
open TL
/-! ### entries of their own, lacks -/
structure EntU (N : List Addr) (W : List Str) (lo B : Int) (H : Hp) (es : Ent) : Prop where
  nd1 : (es.map (·.1)).Nodup
  nd2 : (es.map (·.2)).Nodup
  all : ∀ e ∈ es, wordB e.1 = true ∧ ∃ ps, LdX N H e.2 ps ∧ Can ps ∧ ∀ q ∈ ps, lo ≤ q.2 ∧ q.2 ≤ B ∧ q.1 ∈ W
theorem EntU.nil {N : List Addr} {W : List Str} {lo B : Int} {H : Hp} : EntU N W lo B H [] := ⟨List.nodup_nil, List.nodup_nil, fun _ h => nomatch h⟩
theorem EntU.imp {N N' : List Addr} {W : List Str} {lo lo' B B' : Int} {H H' : Hp} {es : Ent} (h : EntU N W lo B H es) (hl : lo' ≤ lo) (hB : B ≤ B') (k : ∀ x ps, LdX N H x ps → LdX N' H' x ps) : EntU N' W lo' B' H' es :=
  ⟨h.nd1, h.nd2, fun e he => by
    obtain ⟨w, ps, r, c, b⟩ := h.all e he
    exact ⟨w, ps, k _ _ r, c, fun q hq => ⟨Int.le_trans hl (b q hq).1, Int.le_trans (b q hq).2.1 hB, (b q hq).2.2⟩⟩⟩
theorem LdX.same {N : List Addr} {H H' : Hp} {x : Addr} {ps : List (Str × Int)} (h : LdX N H x ps) (s : Same H H') : LdX N H' x ps := ⟨h.1, s _ _ h.2⟩
theorem LdX.samP {N : List Addr} {p : Addr} {H H' : Hp} {x : Addr} {ps : List (Str × Int)} (h : LdX N H x ps) (hp : p ∈ N) (s : SameP p H H') : LdX N H' x ps := ⟨h.1, s _ _ h.2 fun e => h.1 (e ▸ hp)⟩
theorem LdX.updN {N : List Addr} {H : Hp} {x z : Addr} {o : HO} {ps : List (Str × Int)} (h : LdX N H x ps) (hz : z ∈ N) : LdX N (upd H z o) x ps := ⟨h.1, by
  have : x ≠ z := fun e => h.1 (e ▸ hz)
  rw [upd_ne this]
  exact h.2⟩
theorem EntU.same {N : List Addr} {W : List Str} {lo B : Int} {H H' : Hp} {es : Ent} (h : EntU N W lo B H es) (s : Same H H') : EntU N W lo B H' es := h.imp (Int.le_refl _) (Int.le_refl _) fun _ _ r => r.same s
theorem EntU.updN {N : List Addr} {W : List Str} {lo B : Int} {H : Hp} {z : Addr} {o : HO} {es : Ent} (h : EntU N W lo B H es) (hz : z ∈ N) : EntU N W lo B (upd H z o) es := h.imp (Int.le_refl _) (Int.le_refl _) fun _ _ r => r.updN hz
theorem EntU.grow {N : List Addr} {W : List Str} {lo lo' B B' : Int} {H : Hp} {es : Ent} (h : EntU N W lo B H es) (hl : lo' ≤ lo) (hB : B ≤ B') : EntU N W lo' B' H es := h.imp hl hB fun _ _ r => r
theorem EntU.fresh {N : List Addr} {W : List Str} {lo B : Int} {H : Hp} {es : Ent} (h : EntU N W lo B H es) {z : Addr} (hz : H z = none) : z ∉ es.map (·.2) := fun hm => by
  obtain ⟨e, he, rfl⟩ := List.mem_map.mp hm
  obtain ⟨_, ps, r, _⟩ := h.all e he
  rw [r.2] at hz
  cases hz
theorem getE_of_mem {es : Ent} (nd : (es.map (·.1)).Nodup) {q : Str × Addr} (hm : q ∈ es) : getE es q.1 = some q.2 := by
  induction es with
  | nil => exact nomatch hm
  | cons a r ih =>
    rw [List.map_cons, List.nodup_cons] at nd
    unfold getE
    rw [List.find?_cons]
    rcases List.mem_cons.mp hm with rfl | hm
    · rw [decide_eq_true rfl]; rfl
    · have : ¬ a.1 = q.1 := fun x => nd.1 (x ▸ List.mem_map_of_mem hm)
      rw [decide_eq_false this]
      exact ih nd.2 hm
theorem putE_mem {es : Ent} {h : Str} {y : Addr} (nd : (es.map (·.1)).Nodup) {q : Str × Addr} (hq : q ∈ putE es h y) : q = (h, y) ∨ (q ∈ es ∧ q.1 ≠ h) := by
  have g := getE_of_mem (putE_nd (b := y) (h := h) nd) hq
  rw [getE_putE] at g
  by_cases e : q.1 = h
  · rw [if_pos e] at g
    obtain ⟨q1, q2⟩ := q
    dsimp only at e g
    rw [e, Option.some.inj g]
    exact .inl rfl
  · rw [if_neg e] at g
    exact .inr ⟨getE_mem g, e⟩
theorem putE_nd2 {es : Ent} {h : Str} {y : Addr} (nd : (es.map (·.1)).Nodup) (nd2 : (es.map (·.2)).Nodup) (hy : y ∉ es.map (·.2)) : ((putE es h y).map (·.2)).Nodup := by
  induction es with
  | nil =>
    show ([y] : List Addr).Nodup
    exact List.nodup_cons.mpr ⟨List.not_mem_nil, List.nodup_nil⟩
  | cons a r ih =>
    rw [List.map_cons, List.nodup_cons] at nd nd2
    rw [List.map_cons, List.mem_cons, not_or] at hy
    by_cases e : a.1 = h
    · have er : r.map (fun e => if e.1 = h then (e.1, y) else e) = r := by
        conv => rhs; rw [← List.map_id r]
        refine List.map_congr_left fun x hx => ?_
        have : ¬ x.1 = h := fun z => nd.1 (by rw [e, ← z]; exact List.mem_map_of_mem hx)
        rw [if_neg this]
        rfl
      unfold putE
      rw [if_pos (by rw [List.any_cons, decide_eq_true e]; rfl), List.map_cons, if_pos e, er]
      exact List.nodup_cons.mpr ⟨hy.2, nd2.2⟩
    · have ep : putE (a :: r) h y = a :: putE r h y := by
        unfold putE
        rw [List.any_cons, decide_eq_false e, Bool.false_or]
        split
        · rw [List.map_cons, if_neg e]
        · rfl
      rw [ep, List.map_cons]
      refine List.nodup_cons.mpr ⟨fun hm => ?_, ih nd.2 nd2.2 hy.2⟩
      obtain ⟨q, hq, eq⟩ := List.mem_map.mp hm
      rcases putE_mem nd.2 hq with rfl | ⟨hq, _⟩
      · exact hy.1 eq
      · exact nd2.1 (eq ▸ List.mem_map_of_mem hq)
theorem EntU.put {N : List Addr} {W : List Str} {lo B : Int} {H : Hp} {es : Ent} {h : Str} {y : Addr} {rs : List (Str × Int)} (u : EntU N W lo B H es) (hy : y ∉ es.map (·.2)) (hw : wordB h = true) (r : LdX N H y rs) (can : Can rs) (b : ∀ q ∈ rs, lo ≤ q.2 ∧ q.2 ≤ B ∧ q.1 ∈ W) : EntU N W lo B H (putE es h y) :=
  ⟨putE_nd u.nd1, putE_nd2 u.nd1 u.nd2 hy, fun e he => by
    rcases putE_mem u.nd1 he with rfl | ⟨he, _⟩
    · exact ⟨hw, rs, r, can, b⟩
    · exact u.all e he⟩
/-- d.get(h, {}) -/
theorem EntU.get {N : List Addr} {W : List Str} {lo B : Int} {H : Hp} {es : Ent} {a q : Addr} {h : Str} (u : EntU N W lo B H es) (ha : H a = some (.dK (eD es))) (z : H q = some (.dK [])) :
    ∃ o y ps, DGet H a (.str h) o ∧ o.getD (.ref q) = .ref y ∧ H y = some (.dK (cD ps)) ∧ Can ps ∧ (∀ q ∈ ps, lo ≤ q.2 ∧ q.2 ≤ B ∧ q.1 ∈ W) ∧ (y = q ∨ ∃ e ∈ es, e.2 = y) := by
  have d := DGet.k (k := (Sum.inr h : Key)) ha
  rw [valV_eD] at d
  cases e : getE es h with
  | none =>
    rw [e] at d
    exact ⟨_, q, [], d, rfl, z, can_nil, (fun _ h => nomatch h), .inl rfl⟩
  | some b =>
    rw [e] at d
    obtain ⟨_, ps, r, c, k⟩ := u.all _ (getE_mem e)
    exact ⟨_, b, ps, d, rfl, r.2, c, k, .inr ⟨_, getE_mem e, rfl⟩⟩
/-- d[h], there -/
theorem EntU.at {N : List Addr} {W : List Str} {lo B : Int} {H : Hp} {es : Ent} {a : Addr} {h : Str} (u : EntU N W lo B H es) (ha : H a = some (.dK (eD es))) (hk : getE es h ≠ none) :
    ∃ y ps, DGet H a (.str h) (some (.ref y)) ∧ H y = some (.dK (cD ps)) ∧ Can ps ∧ (∀ q ∈ ps, lo ≤ q.2 ∧ q.2 ≤ B ∧ q.1 ∈ W) ∧ getE es h = some y := by
  have d := DGet.k (k := (Sum.inr h : Key)) ha
  rw [valV_eD] at d
  cases e : getE es h with
  | none => exact absurd e hk
  | some b =>
    rw [e] at d
    obtain ⟨_, ps, r, c, k⟩ := u.all _ (getE_mem e)
    exact ⟨b, ps, d, r.2, c, k, rfl⟩
theorem dput_eD {H : Hp} {a y : Addr} {es : Ent} {h : Str} (e : H a = some (.dK (eD es))) (hl : es.length ≤ 1000) : DPut H a (.str h) (.ref y) (upd H a (.dK (eD (putE es h y)))) := by
  have q := DPut.k (k := (Sum.inr h : Key)) (v := .ref y) e (by unfold eD; rw [List.length_map]; exact Nat.lt_of_le_of_lt hl (by decide))
  rw [putK_eD] at q
  exact q
/-- what a plus may hold -/
theorem plus_bnd {W : List Str} {ps qs rs : List (Str × Int)} {n l1 B1 l2 B2 : Int} (hn : n = 1 ∨ n = -1) (b1 : ∀ q ∈ ps, l1 ≤ q.2 ∧ q.2 ≤ B1 ∧ q.1 ∈ W) (b2 : ∀ q ∈ qs, l2 ≤ n * q.2 ∧ n * q.2 ≤ B2 ∧ q.1 ∈ W) (c1 : (ps.map (·.1)).Nodup) (c2 : (qs.map (·.1)).Nodup) (can : Can rs) (ct3 : ∀ z, ct rs z = ct ps z + n * ct qs z) (h1 : l1 ≤ 0) (h2 : l2 ≤ 0) (h3 : 0 ≤ B1) (h4 : 0 ≤ B2) :
    ∀ q ∈ rs, l1 + l2 ≤ q.2 ∧ q.2 ≤ B1 + B2 ∧ q.1 ∈ W := by
  intro q hq
  have e := ct_mem can.nd hq
  rw [ct3] at e
  have nz := can.nz q hq
  have p1 : l1 ≤ ct ps q.1 ∧ ct ps q.1 ≤ B1 ∧ (ct ps q.1 ≠ 0 → q.1 ∈ W) := by
    by_cases h : ct ps q.1 = 0
    · rw [h]; exact ⟨h1, h3, fun x => absurd rfl x⟩
    · obtain ⟨q', hq', e'⟩ := List.mem_map.mp (ct_in h)
      have := ct_mem c1 hq'
      rw [e'] at this
      rw [this]
      obtain ⟨k1, k2, k3⟩ := b1 q' hq'
      exact ⟨k1, k2, fun _ => e' ▸ k3⟩
  have p2 : l2 ≤ n * ct qs q.1 ∧ n * ct qs q.1 ≤ B2 ∧ (n * ct qs q.1 ≠ 0 → q.1 ∈ W) := by
    by_cases h : ct qs q.1 = 0
    · rw [h, Int.mul_zero]; exact ⟨h2, h4, fun x => absurd rfl x⟩
    · obtain ⟨q', hq', e'⟩ := List.mem_map.mp (ct_in h)
      have := ct_mem c2 hq'
      rw [e'] at this
      rw [this]
      obtain ⟨k1, k2, k3⟩ := b2 q' hq'
      exact ⟨k1, k2, fun _ => e' ▸ k3⟩
  refine ⟨by omega, by omega, ?_⟩
  by_cases h : ct ps q.1 = 0
  · exact p2.2.2 (by omega)
  · exact p1.2.2 h
/-! ### pairs made of a dict's keys, by the keys too -/
def mapK (f : Str → Int → Int) (flt : Str → Int → Bool) (ps : List (Str × Int)) : List (Str × Int) := (ps.filter fun p => flt p.1 p.2).map fun p => (p.1, f p.1 p.2)
theorem mapK_len {f : Str → Int → Int} {flt : Str → Int → Bool} {ps : List (Str × Int)} : (mapK f flt ps).length ≤ ps.length := by
  unfold mapK
  rw [List.length_map]
  exact List.length_filter_le _ _
theorem mapK_nd {f : Str → Int → Int} {flt : Str → Int → Bool} {ps : List (Str × Int)} (nd : (ps.map (·.1)).Nodup) : ((mapK f flt ps).map (·.1)).Nodup := by
  have e : (mapK f flt ps).map (·.1) = (ps.filter fun p => flt p.1 p.2).map (·.1) := by
    unfold mapK
    rw [List.map_map]
    rfl
  rw [e]
  exact List.Nodup.sublist (List.filter_sublist.map _) nd
theorem mapK_mem {f : Str → Int → Int} {flt : Str → Int → Bool} {ps : List (Str × Int)} {q : Str × Int} (h : q ∈ mapK f flt ps) : ∃ i, (q.1, i) ∈ ps ∧ flt q.1 i = true ∧ q.2 = f q.1 i := by
  obtain ⟨p, hp, rfl⟩ := List.mem_map.mp h
  obtain ⟨h1, h2⟩ := List.mem_filter.mp hp
  exact ⟨p.2, h1, h2, rfl⟩
theorem lk_gen {t D : Addr} {od : Obj} {ps : List (Str × Int)} {g : TG} {tt : TT} {te : TE} {vs : List Nat} {σ : L2.St} {H : Hp} {Qd : Hp → Prop} (f : Str → Int → Int) (flt : Str → Int → Bool) (ht : H t = some (.frz od (.dK (cD ps)))) (few : ps.length ≤ 1000) (hD : H D = none)
    (hturn : ∀ (z : Str) (i : Int) (H3 : Hp) (R : V → Hp → Prop) (R' : Hp → Prop), Same H H3 → Rd H3 t (.dK (cD ps)) → (z, i) ∈ ps → (flt z i = true → ∀ T', H3 T' = none → R (.ref T') (upd H3 T' (.tup [.str z, .int (f z i)]))) → (flt z i = false → R' H3) →
      g (.str z) (wipe σ vs) H3 fun σ2 H2 => wipe σ2 vs = wipe σ vs ∧ tt σ2 H2 fun b H3 => if b = true then te σ2 H3 fun y H4 => R y H4 else R' H3)
    (hq : ∀ H' us, Same H H' → H' D = some (.lst (us.map V.ref)) → TupsAt H' us (mapK f flt ps) → Qd H') :
    ∃ W : Nat → Nat → Hp → Prop, (∃ m, W 0 m (upd H D (.lst []))) ∧ ∀ i m H, W i m H →
      ((Itk t od (cD ps)).stop i H ∧ Qd H) ∨ ((Itk t od (cD ps)).go i H ∧ ∃ Nx : Hp → Prop, (∀ H', Nx H' → ∃ m', m' < m ∧ W (i + 1) m' H') ∧ ∀ x H', (Itk t od (cD ps)).yld i H x H' → g x (wipe σ vs) H' fun σ2 H2 => wipe σ2 vs = wipe σ vs ∧ tt σ2 H2 fun b H3 =>
        if b = true then te σ2 H3 fun y H4 => ∃ acc, H4 D = some (.lst acc) ∧ acc.length < sizeLine ∧ Nx (upd H4 D (.lst (acc ++ [y]))) else Nx H3) := by
  refine lc_it (walk_keys (d := t) (o := od) (kvs := cD ps)) (fun j H' => ∃ us : List Addr, Same H H' ∧ H' D = some (.lst (us.map V.ref)) ∧ TupsAt H' us (mapK f flt (ps.take j)))
    ⟨[], same_new hD, upd_same, .nil⟩ (fun j H' _ ⟨_, h, _⟩ => h _ _ ht) ?_ ?_
  · rintro j x H5 H6 hj ⟨us, same, eD, hus⟩ ⟨rfl, k, v, hx, rfl⟩
    rw [cD_len] at hj
    have hp : (cD ps)[j]? = some (Sum.inr ps[j].1, V.int ps[j].2) := by
      unfold cD
      rw [List.getElem?_map, List.getElem?_eq_getElem hj]
      rfl
    rw [hp] at hx
    cases hx
    have e1 : mapK f flt (ps.take (j + 1)) = mapK f flt (ps.take j) ++ (if flt ps[j].1 ps[j].2 = true then [(ps[j].1, f ps[j].1 ps[j].2)] else []) := by
      unfold mapK
      rw [List.take_add_one, List.getElem?_eq_getElem hj, List.filter_append, List.map_append]
      congr 1
      show (List.filter _ [ps[j]]).map _ = _
      rw [List.filter_cons]
      split <;> rfl
    refine hturn ps[j].1 ps[j].2 H6 _ _ same (.inr ⟨od, same _ _ ht⟩) (List.getElem_mem hj) (fun c T1 hT => ?_) (fun c => ?_)
    · have nTD : D ≠ T1 := ne_of_none eD hT
      refine ⟨_, by rw [upd_ne nTD]; exact eD, ?_, us ++ [T1], ?_, ?_, ?_⟩
      · have e5 : us.length = (mapK f flt (ps.take j)).length := Paired.length hus
        have e6 : (mapK f flt (ps.take j)).length ≤ ps.length := by
          refine Nat.le_trans mapK_len ?_
          rw [List.length_take]
          omega
        rw [List.length_map, e5]
        exact Nat.lt_of_le_of_lt (Nat.le_trans e6 few) (by decide)
      · intro c o ec
        have e6 := same _ _ ec
        rw [upd_ne (ne_of_none ec hD), upd_ne (ne_of_none e6 hT)]
        exact e6
      · rw [upd_same, List.map_append]
        rfl
      · rw [e1, if_pos c]
        refine .snoc (TupsAt.keep hus fun t xs ht => ?_) ?_
        · rw [upd_ne (ne_of ht eD fun z => nomatch z), upd_ne (ne_of_none ht hT)]
          exact ht
        · rw [upd_ne nTD.symm, upd_same]
    · refine ⟨us, same, eD, ?_⟩
      rw [e1, if_neg (by rw [c]; exact Bool.false_ne_true), List.append_nil]
      exact hus
  · rintro H5 ⟨us, same, eD, hus⟩
    rw [cD_len, List.take_of_length_le (Nat.le_refl _)] at hus
    exact hq H5 us same eD hus
end Ld
namespace Ld
open PySem PySem.Spec PyProof.Rows L2
open TL
/-! ### the least stocks of a drawn order -/
def bnd : Nat → Int
  | 0 => 1
  | i + 1 => 4 * bnd i + 50
theorem bnd1 : ∀ {i : Nat}, 1 ≤ bnd i
  | 0 => by decide
  | i + 1 => by
    have := bnd1 (i := i)
    show 1 ≤ 4 * bnd i + 50
    omega
theorem bnd7 : ∀ {i : Nat}, i ≤ 7 → bnd i ≤ 1000000 := by
  intro i h
  have k : ∀ j ≤ 7, bnd j ≤ 1000000 := by decide +kernel
  exact k i h
theorem paired_ex {α β : Type} {F : α → β → Prop} : ∀ {l : List α} {m : List β}, Paired F l m → ∀ a ∈ l, ∃ b ∈ m, F a b
  | _, _, .nil, a, h => nomatch h
  | _, _, .cons f t, a, h => by
    rcases List.mem_cons.mp h with rfl | h
    · exact ⟨_, List.mem_cons_self, f⟩
    · obtain ⟨b, hb, q⟩ := paired_ex t a h
      exact ⟨b, List.mem_cons_of_mem _ hb, q⟩
theorem ct_bnd {W : List Str} {ps : List (Str × Int)} {lo B : Int} (nd : (ps.map (·.1)).Nodup) (b : ∀ q ∈ ps, lo ≤ q.2 ∧ q.2 ≤ B ∧ q.1 ∈ W) (h1 : lo ≤ 0) (h2 : 0 ≤ B) (z : Str) : lo ≤ ct ps z ∧ ct ps z ≤ B := by
  by_cases h : ct ps z = 0
  · rw [h]; exact ⟨h1, h2⟩
  · obtain ⟨q, hq, e⟩ := List.mem_map.mp (ct_in h)
    have := ct_mem nd hq
    rw [e] at this
    rw [this]
    exact ⟨(b q hq).1, (b q hq).2.1⟩
theorem len_W {W : List Str} {ps : List (Str × Int)} {lo B : Int} (nd : (ps.map (·.1)).Nodup) (b : ∀ q ∈ ps, lo ≤ q.2 ∧ q.2 ≤ B ∧ q.1 ∈ W) : ps.length ≤ W.length := by
  have := nd_len (l := ps.map (·.1)) (m := W) nd fun x hx => by
    obtain ⟨q, hq, rfl⟩ := List.mem_map.mp hx
    exact (b q hq).2.2
  rwa [List.length_map] at this
abbrev lackL (s : Int) (c ps : List (Str × Int)) : List (Str × Int) := mapK (fun z i => i - ct ps z) (fun z i => decide (ct ps z < i)) (sgn s c)
theorem lack_bnd {W : List Str} {s : Int} {c ps : List (Str × Int)} {B0 : Int} (hs : s = 1 ∨ s = -1) (hc : ∀ q ∈ c, -10 ≤ q.2 ∧ q.2 ≤ 10 ∧ q.1 ∈ W) (nd : (ps.map (·.1)).Nodup) (b : ∀ q ∈ ps, -B0 ≤ q.2 ∧ q.2 ≤ B0 ∧ q.1 ∈ W) (h0 : 1 ≤ B0) : ∀ q ∈ lackL s c ps, 0 ≤ 1 * q.2 ∧ 1 * q.2 ≤ B0 + 10 ∧ q.1 ∈ W := by
  intro q hq
  obtain ⟨i, h1, h2, h3⟩ := mapK_mem hq
  have h2 := of_decide_eq_true h2
  obtain ⟨i0, h4, _, h6⟩ := mapC_mem.mp h1
  dsimp only at h4 h6
  obtain ⟨k1, k2, k3⟩ := hc _ h4
  dsimp only at k1 k2 k3
  have k4 := ct_bnd nd b (by omega) (by omega) q.1
  rw [Int.one_mul, h3]
  rcases hs with rfl | rfl
  · exact ⟨by omega, by omega, k3⟩
  · exact ⟨by omega, by omega, k3⟩
theorem lack_wd {W : List Str} {s : Int} {c ps : List (Str × Int)} (can : Can c) : ∀ q ∈ lackL s c ps, wordB q.1 = true := by
  intro q hq
  obtain ⟨i, h1, _, _⟩ := mapK_mem hq
  obtain ⟨i0, h4, _, _⟩ := mapC_mem.mp h1
  exact can.wd (q.1, i0) h4
theorem notin_al {N : List Addr} {H : Hp} {z : Addr} (hz : H z = none) (h : ∀ n ∈ N, ∃ o, H n = some o) : z ∉ N := fun hm => by
  obtain ⟨o, e⟩ := h _ hm
  rw [hz] at e
  cases e
theorem nd2_inj : ∀ {es : Ent}, (es.map (·.2)).Nodup → ∀ {a b : Str × Addr}, a ∈ es → b ∈ es → a.2 = b.2 → a = b
  | [], _, _, _, h, _, _ => nomatch h
  | x :: r, nd, a, b, ha, hb, e => by
    rw [List.map_cons, List.nodup_cons] at nd
    rcases List.mem_cons.mp ha with ea | ha2
    · rcases List.mem_cons.mp hb with eb | hb2
      · exact ea.trans eb.symm
      · exact absurd (by rw [← ea, e]; exact List.mem_map_of_mem hb2) nd.1
    · rcases List.mem_cons.mp hb with eb | hb2
      · exact absurd (by rw [← eb, ← e]; exact List.mem_map_of_mem ha2) nd.1
      · exact nd2_inj nd.2 ha2 hb2 e
abbrev nSto : List Str := ["_law_pen_here", "_law_rows", "_law_now", "_law_found", "_law_one", "_law_other", "_law_counts", "_law_house", "_law_sign", "_law_part", "_law_here", "_law_lack", "_law_kind"]
theorem scSto : FnScope nSto ["_law_pen_here", "_law_rows"] (defScope sStoL) := ⟨rfl, rfl, rfl, by decide +kernel, rfl, by decide +kernel, by decide +kernel⟩
/-- all but two stays -/
def SameD (x y : Addr) (H H' : Hp) : Prop := ∀ b o, b ≠ x → b ≠ y → H b = some o → H' b = some o
def spSto : Sp := fun vs H Q _ => ∃ (p c L : Addr) (ts : List Addr) (W : List Str) (ns : List Int) (u r : Int), vs = [.ref p, .ref L] ∧ PenAt H p c ns u r ∧ H L = some (.lst (ts.map V.ref)) ∧ (∀ t ∈ ts, ∃ r, RowAt p H t r ∧ RowOk r ∧ ∀ z ∈ r.2.2.map (·.1), z ∈ W) ∧ ts.length ≤ 7 ∧ W.length ≤ 4 ∧ u + 200 ≤ 1000000 ∧
  ∀ (H' : Hp) (b : Addr) (es : Ent) (u' r' : Int), H b = none → SameP p H H' → PenAt H' p c ns u' r' → u' ≤ u + 100 → H' b = some (.dK (eD es)) → EntU [p] W 0 10000000 H' es → es.length ≤ 40 → Q (.ref b) H'
section
variable {P : Program} {w : World} {K : PySem.W.Frag} {mg : Str → Option Value} {base : Heap}
theorem ok_sto {f : Addr} {fd : FuncData} (F : Fun K "_law_stocks" "_law_stocks" sStoL f fd) (B : Blt mg) (B2 : Blt2 mg) (HS : Has P w K mg base 2 "_law_shuffled" ["_law_pen_here", "_law_items"] spShufV) (HN : Has P w K mg base 1 "_law_needed" ["_law_counts", "_law_sign"] spNee) (HP : Has P w K mg base 2 "_law_plus" ["_law_one", "_law_other", "_law_times"] spPlu) (HI : Has P w K mg base 2 "_law_pick" ["_law_pen_here", "_law_items"] (spPick K)) (HC : Has P w K mg base 1 "_law_clean" ["_law_counts"] spClnL) :
    FnOk P w K mg base CX0 3 f fd ["_law_pen_here", "_law_rows"] spSto := by
  obtain ⟨g1, gd1, G1, b1, m1, k1⟩ := HN
  obtain ⟨g2, gd2, G2, b2, m2, k2⟩ := HS
  obtain ⟨g3, gd3, G3, b3, m3, k3⟩ := HP
  obtain ⟨g4, gd4, G4, b4, m4, k4⟩ := HI
  obtain ⟨g5, gd5, G5, b5, m5, k5⟩ := HC
  refine F.ok scSto (fun vs H Q E h => ?_) (fun cdv A outer s H vs Q E hr h => ?_)
  · obtain ⟨p, c, L, ts, W, ns, u, r, rfl, _⟩ := h
    rfl
  · obtain ⟨p, c0, L, ts, W, ns, u, r0, rfl, PA, gL, hts, h7, hW, hu6, k⟩ := h
    have hr1 : Room 1 _ := hr.mono (by decide : 1 ≤ 2)
    have hr2 : Room 2 _ := hr
    have hu := hu_of hr
    have nd : nSto.Nodup := scSto.nd
    obtain ⟨kvp, hpp, _⟩ := id PA.ob
    refine ⟨_, pss_cons (ps_par (i := 2) (j := 3) rfl nd rfl rfl (by decide) rfl rfl (pa_cons pe_dnewK (pa_cons pe_dnewK pa_nil)) (by rfl))
      (pss_cons (ps_for PassesOwn.never rfl (pi_list (pe_call G2 hr2 (by rfl) m2 k2 b2 .nil pass0 (pa_cons (pv 0) (pa_cons (pv 1) pa_nil)))) (pg_tup rfl (pgs_cons (pg_name (i := 4) nd rfl (Or.inl rfl)) (pgs_cons (pg_name (i := 5) nd rfl (Or.inl rfl)) (pgs_cons (pg_name (i := 6) nd rfl (Or.inl rfl)) pgs_nil))))
        (pss_cons (ps_for PassesOwn.never rfl (pi_list (pe_lst (pa_cons (pe_tup (pa_cons (pv 4) (pa_cons pe_int pa_nil))) (pa_cons (pe_tup (pa_cons (pv 5) (pa_cons (pe_un un_neg pe_int) pa_nil))) pa_nil)))) (pg_tup rfl (pgs_cons (pg_name (i := 7) nd rfl (Or.inl rfl)) (pgs_cons (pg_name (i := 8) nd rfl (Or.inl rfl)) pgs_nil)))
          (pss_cons (ps_asg (pe_tup (pa_cons (pe_call G1 hr1 (by rfl) m1 k1 b1 .nil pass0 (pa_cons (pv 6) (pa_cons (pv 8) pa_nil))) (pa_cons (pe_dget2 hu (pv 2) (pv 7) pe_dnewK ⟨by rfl, by rfl, by rfl, by rfl⟩) pa_nil))) (pg_tup (by rfl) (pgs_cons (pg_name (i := 9) nd rfl (Or.inr rfl)) (pgs_cons (pg_name (i := 10) nd rfl (Or.inr rfl)) pgs_nil))))
          (pss_cons (ps_set (i := 11) nd rfl (Or.inl rfl) (pe_callTy (call_dictP rfl) (by rfl) B2.dict bDict (pa_cons (pe_lock (pe_lc (own := [("_law_kind", 12)]) (g := gName 12) rfl nd (pi_keys (pv 9)) (blkOk_by (N := nSto) (sc := defScope sStoL) (by decide +kernel)) (fun _ _ _ _ _ => pg_name (i := 12) nd rfl (Or.inl rfl)) (fun _ _ _ _ _ => (pts_one (pt_cmpR op_gt (pe_dget hu (pv 9) (pv 12) (fun _ _ => rfl)) (pe_dget2 hu (pv 10) (pv 12) pe_int ⟨by rfl, by rfl, by rfl, by rfl⟩) (nomark _)))) (fun _ _ _ _ _ => (pe_tup (pa_cons (pv 12) (pa_cons (pe_op op_sub (pe_dget hu (pv 9) (pv 12) (fun _ _ => rfl)) (pe_dget2 hu (pv 10) (pv 12) pe_int ⟨by rfl, by rfl, by rfl, by rfl⟩)) pa_nil)))))) pa_nil)))
          (pss_cons (ps_dput hu (pv 3) (pv 7) (pe_call G3 hr2 (by rfl) m3 k3 b3 .nil pass0 (pa_cons (pe_dget2 hu (pv 3) (pv 7) pe_dnewK ⟨by rfl, by rfl, by rfl, by rfl⟩) (pa_cons (pv 11) (pa_cons pe_int pa_nil)))) rfl)
          (pss_one (ps_dput hu (pv 2) (pv 7) (pe_call G3 hr2 (by rfl) m3 k3 b3 .nil pass0 (pa_cons (pv 10) (pa_cons (pv 11) (pa_cons pe_int pa_nil)))) rfl))))))
        (pss_cons (ps_dput hu (pv 2) (pv 4) (pe_call G3 hr2 (by rfl) m3 k3 b3 .nil pass0 (pa_cons (pe_dget hu (pv 2) (pv 4) (fun _ _ => rfl)) (pa_cons (pv 6) (pa_cons (pe_un un_neg pe_int) pa_nil)))) rfl)
        (pss_one (ps_dput hu (pv 2) (pv 5) (pe_call G3 hr2 (by rfl) m3 k3 b3 .nil pass0 (pa_cons (pe_dget hu (pv 2) (pv 5) (fun _ _ => rfl)) (pa_cons (pv 6) (pa_cons pe_int pa_nil)))) rfl)))))
      (pss_cons (ps_for PassesOwn.never rfl (pi_list (pe_callTy (call_listD rfl) (by rfl) B.list bList (pa_cons (pv 3) pa_nil))) (pg_name (i := 7) nd rfl (Or.inl rfl))
        (pss_cons (ps_for PassesOwn.never rfl (pi_list (pe_callTy (call_listD rfl) (by rfl) B.list bList (pa_cons (pe_dget hu (pv 3) (pv 7) (fun _ _ => rfl)) pa_nil))) (pg_name (i := 12) nd rfl (Or.inl rfl))
          (pss_one (ps_dput hu (pe_dget hu (pv 3) (pv 7) (fun _ _ => rfl)) (pv 12) (pe_op op_add (pe_dget hu (pe_dget hu (pv 3) (pv 7) (fun _ _ => rfl)) (pv 12) (fun _ _ => rfl)) (pe_call G4 hr2 (by rfl) m4 k4 b4 .nil pass0 (pa_cons (pv 0) (pa_cons (pe_lst (pa_cons pe_int (pa_cons pe_int (pa_cons pe_int (pa_cons pe_int (pa_cons pe_int (pa_cons pe_int (pa_cons (pe_un un_neg pe_int) pa_nil)))))))) pa_nil)))) rfl)))
        (pss_one (ps_dput hu (pv 3) (pv 7) (pe_call G5 hr1 (by rfl) m5 k5 b5 .nil pass0 (pa_cons (pe_dget hu (pv 3) (pv 7) (fun _ _ => rfl)) pa_nil)) rfl))))
      (pss_one (ps_ret (pv 3))))), ?_⟩
    -- now, found
    refine seq_step (fun σ' H' => ∃ aN aF : Addr, σ' = [some (.ref p), some (.ref L), some (.ref aN), some (.ref aF), none, none, none, none, none, none, none, none, none] ∧ aN ≠ aF ∧ H aN = none ∧ H aF = none ∧ H' aN = some (.dK (eD [])) ∧ H' aF = some (.dK (eD [])) ∧ Same H H') (fun R hR => ?_) (fun σ1 H1 h1 => ?_)
    · intro aN hN
      have t1 := same_new (o := .dK []) hN
      intro aF hF
      exact ⟨_, _, rfl, hR _ _ ⟨aN, aF, rfl, ne_of_none upd_same hF, hN, Same.none t1 hF, same_new hF _ _ upd_same, upd_same, t1.trans (same_new hF)⟩⟩
    obtain ⟨aN, aF, rfl, nNF, hN, hF, gN1, gF1, s1⟩ := h1
    have npN : p ≠ aN := ne_of_none hpp hN
    have npF : p ≠ aF := ne_of_none hpp hF
    -- the rows in a drawn order
    refine seq_step (fun σ' H' => ∃ (x4 x5 x6 x7 x8 x9 x10 x11 : Option V) (esN esF : Ent) (u1 r1 : Int), σ' = [some (.ref p), some (.ref L), some (.ref aN), some (.ref aF), x4, x5, x6, x7, x8, x9, x10, x11, none] ∧ H' aF = some (.dK (eD esF)) ∧ EntU [p, aN, aF] W 0 1000000 H' esF ∧ (∀ e ∈ esF, H e.2 = none) ∧ esF.length ≤ 14 ∧ u1 ≤ u + 7 ∧ PenAt H' p c0 ns u1 r1 ∧ (∀ b o, b ≠ p → H b = some o → H' b = some o)) (fun R hR => ?_) (fun σ2 H2 h2 => ?_)
    · refine ⟨_, rfl, _, rfl, p, c0, L, ts.map V.ref, ns, u, r0, rfl, PA.same s1, s1 _ _ gL, by rw [List.length_map]; omega, by rw [List.length_map]; omega, fun q ys u1 r1 H2 hq gq hperm hu1 PA2 keep2 => ?_⟩
      obtain ⟨zs, hzp, rfl⟩ := perm_of_map hperm rfl
      rw [List.length_map] at hu1
      have hzl := hzp.length_eq
      have nqN : q ≠ aN := (ne_of_none gN1 hq).symm
      have nqF : q ≠ aF := (ne_of_none gF1 hq).symm
      refine ⟨q, rfl, ⟨_, .inl (.inl gq)⟩, for_list (xs := zs.map V.ref) (fun i σ' H' => ∃ (x4 x5 x6 x7 x8 x9 x10 x11 : Option V) (esN esF : Ent), σ' = [some (.ref p), some (.ref L), some (.ref aN), some (.ref aF), x4, x5, x6, x7, x8, x9, x10, x11, none] ∧ H' aN = some (.dK (eD esN)) ∧ EntU [p, aN, aF] W (-bnd i) (bnd i) H' esN ∧ esN.length ≤ 4 * i ∧ H' aF = some (.dK (eD esF)) ∧ EntU [p, aN, aF] W 0 (bnd i) H' esF ∧ (∀ e ∈ esF, H e.2 = none) ∧ esF.length ≤ 2 * i ∧ SameD aN aF H2 H')
        ⟨_, _, _, _, _, _, _, _, [], [], rfl, keep2 _ _ gN1 npN.symm, .nil, by decide, keep2 _ _ gF1 npF.symm, .nil, (fun _ h => nomatch h), by decide, fun _ _ _ _ e => e⟩ (fun i σ' H' _ h => ?_) ?_ ?_⟩
      · obtain ⟨_, _, _, _, _, _, _, _, _, _, _, _, _, _, _, _, _, _, h⟩ := h
        exact .inl (.inl (h _ _ nqN nqF gq))
      · rintro i y σ' H3 hy ⟨x4, x5, x6, x7, x8, x9, x10, x11, esN, esF, rfl, gN, uN, lN, gF, uF, fF, lF, kp⟩
        rw [List.getElem?_map] at hy
        obtain ⟨T0, hT0, rfl⟩ := Option.map_eq_some_iff.mp hy
        have hil : i < zs.length := (List.getElem?_eq_some_iff.mp hT0).1
        obtain ⟨⟨one, other, c⟩, ⟨e, nep, gT, gE⟩, ok, hsub⟩ := hts T0 (hzp.mem_iff.mp (List.mem_of_getElem? hT0))
        dsimp only at gT gE hsub
        have B1 := bnd1 (i := i)
        have hbs : bnd (i + 1) = 4 * bnd i + 50 := rfl
        obtain ⟨kv2, hp2, _⟩ := id PA2.ob
        have hp3 := kp _ _ npN npF hp2
        have can : Can c := ok.can
        have few : c.length ≤ 3 := ok.few
        have neN : e ≠ aN := ne_of_none gE hN
        have neF : e ≠ aF := ne_of_none gE hF
        have h13 : ∀ b o, b ≠ p → b ≠ aN → b ≠ aF → H b = some o → H3 b = some o := fun b o n1 n2 n3 e => kp _ _ n2 n3 (keep2 _ _ (s1 _ _ e) n1)
        have gT3 := h13 _ _ (ne_of gT hpp fun z => nomatch z) (ne_of_none gT hN) (ne_of_none gT hF) gT
        have gE3 := h13 _ _ nep neN neF gE
        have hcb : ∀ q ∈ c, -10 ≤ q.2 ∧ q.2 ≤ 10 ∧ q.1 ∈ W := fun q hq => by
          have := ok.sm q hq
          exact ⟨by omega, by omega, hsub _ (List.mem_map_of_mem hq)⟩
        generalize bnd i = BB at uN uF B1 hbs ⊢
        refine ⟨T0, _, rfl, .inl (.inl gT3), rfl, _, _, rfl, _, _, rfl, _, _, rfl, rfl, ?_⟩
        let bb : Nat → Int := fun j => match j with
          | 0 => BB
          | 1 => 2 * BB + 10
          | _ => 4 * BB + 30
        -- the two houses
        refine seq_step (fun σ' H' => ∃ (x7 x8 x9 x10 x11 : Option V) (esN esF : Ent), σ' = [some (.ref p), some (.ref L), some (.ref aN), some (.ref aF), some (.str one), some (.str other), some (.ref e), x7, x8, x9, x10, x11, none] ∧ H' aN = some (.dK (eD esN)) ∧ EntU [p, aN, aF] W (-(4 * BB + 30)) (4 * BB + 30) H' esN ∧ esN.length ≤ 4 * i + 2 ∧ H' aF = some (.dK (eD esF)) ∧ EntU [p, aN, aF] W 0 (4 * BB + 30) H' esF ∧ (∀ e ∈ esF, H e.2 = none) ∧ esF.length ≤ 2 * i + 2 ∧ getE esN one ≠ none ∧ getE esN other ≠ none ∧ SameD aN aF H3 H') (fun R5 hR5 => ?_) (fun σ5 H5 h5 => ?_)
        · refine ⟨_, rfl, by show 2 ≤ sizeLine; decide, fun T1 hT1 => ?_⟩
          have t1 := same_new (o := .tup [.str one, .int 1]) hT1
          refine ⟨_, rfl, _, rfl, by show 2 ≤ sizeLine; decide, fun T2 hT2 => ⟨by show 2 ≤ sizeLine; decide, fun I hI => ?_⟩⟩
          have t2 := same_new (o := .tup [.str other, .int (-1)]) hT2
          have t3 := same_new (o := .lst [.ref T1, .ref T2]) hI
          have g1 := t3 _ _ (t2 _ _ (upd_same (H := H3) (a := T1) (o := .tup [.str one, .int 1])))
          have g2 := t3 _ _ (upd_same (H := upd H3 T1 (.tup [.str one, .int 1])) (a := T2) (o := .tup [.str other, .int (-1)]))
          have g3 := upd_same (H := upd (upd H3 T1 (.tup [.str one, .int 1])) T2 (.tup [.str other, .int (-1)])) (a := I) (o := .lst [.ref T1, .ref T2])
          have s34 := t1.trans (t2.trans t3)
          clear hI hT1 hT2 t1 t2 t3
          generalize upd (upd (upd H3 T1 (.tup [.str one, .int 1])) T2 (.tup [.str other, .int (-1)])) I (.lst [.ref T1, .ref T2]) = H4 at g1 g2 g3 s34 ⊢
          have gN4 := s34 _ _ gN
          have gF4 := s34 _ _ gF
          have nIN : I ≠ aN := ne_of g3 gN4 fun z => nomatch z
          have nIF : I ≠ aF := ne_of g3 gF4 fun z => nomatch z
          refine ⟨I, rfl, ⟨_, .inl (.inl (g3))⟩, for_list (xs := [.ref T1, .ref T2]) (fun j σ' H' => ∃ (x7 x8 x9 x10 x11 : Option V) (esN esF : Ent), σ' = [some (.ref p), some (.ref L), some (.ref aN), some (.ref aF), some (.str one), some (.str other), some (.ref e), x7, x8, x9, x10, x11, none] ∧ H' aN = some (.dK (eD esN)) ∧ EntU [p, aN, aF] W (-bb j) (bb j) H' esN ∧ esN.length ≤ 4 * i + j ∧ H' aF = some (.dK (eD esF)) ∧ EntU [p, aN, aF] W 0 (bb j) H' esF ∧ (∀ e ∈ esF, H e.2 = none) ∧ esF.length ≤ 2 * i + j ∧ (1 ≤ j → getE esN one ≠ none) ∧ (2 ≤ j → getE esN other ≠ none) ∧ SameD aN aF H4 H')
            ⟨_, _, _, _, _, esN, esF, rfl, gN4, uN.same s34, lN, gF4, uF.same s34, fF, lF, fun h => by omega, fun h => by omega, fun _ _ _ _ e => e⟩ (fun j σ' H' _ h => ?_) ?_ ?_⟩
          · obtain ⟨_, _, _, _, _, _, _, _, _, _, _, _, _, _, _, _, _, h⟩ := h
            exact .inl (.inl (h _ _ nIN nIF g3))
          · rintro j y σ' H5 hy ⟨x7, x8, x9, x10, x11, esN, esF, rfl, gN, uN, lN, gF, uF, fF, lF, o1, o2, kp5⟩
            obtain ⟨T3, hh, sg, rfl, hT3, hwd, hsg, hj⟩ : ∃ T3 hh sg, y = .ref T3 ∧ H4 T3 = some (.tup [.str hh, .int sg]) ∧ wordB hh = true ∧ (sg = 1 ∨ sg = -1) ∧ ((j = 0 ∧ hh = one) ∨ (j = 1 ∧ hh = other)) := by
              match j, hy with
              | 0, hy => exact ⟨T1, one, 1, (Option.some.inj hy).symm, g1, ok.w1, .inl rfl, .inl ⟨rfl, rfl⟩⟩
              | 1, hy => exact ⟨T2, other, -1, (Option.some.inj hy).symm, g2, ok.w2, .inr rfl, .inr ⟨rfl, rfl⟩⟩
            have hT5 := kp5 _ _ (ne_of hT3 gN4 fun z => nomatch z) (ne_of hT3 gF4 fun z => nomatch z) hT3
            have gE5 := kp5 _ _ neN neF (s34 _ _ gE3)
            have al5 : ∀ n ∈ [p, aN, aF], ∃ o, H5 n = some o := fun n hn => by
              rw [List.mem_cons, List.mem_cons, List.mem_singleton] at hn
              rcases hn with rfl | rfl | rfl
              · exact ⟨_, kp5 _ _ npN npF (s34 _ _ hp3)⟩
              · exact ⟨_, gN⟩
              · exact ⟨_, gF⟩
            have hb1 : 1 ≤ bb j := by
              rcases hj with ⟨rfl, _⟩ | ⟨rfl, _⟩
              · exact B1
              · show 1 ≤ 2 * BB + 10; omega
            have hb2 : bb (j + 1) = 2 * bb j + 10 := by
              rcases hj with ⟨rfl, _⟩ | ⟨rfl, _⟩
              · rfl
              · show 4 * BB + 30 = 2 * (2 * BB + 10) + 10; omega
            rw [hb2]
            generalize bb j = B0 at uN uF hb1 ⊢
            clear hb2
            have sfew : (sgn sg c).length ≤ 3 := Nat.le_trans mapC_len few
            have snd : ((sgn sg c).map (·.1)).Nodup := mapC_nd can.nd
            refine ⟨T3, _, rfl, .inl (.inl hT5), rfl, _, _, rfl, _, _, rfl, rfl, ?_⟩
            -- part, here
            refine seq_step (fun σ' H' => ∃ (pt y : Addr) (ps : List (Str × Int)), σ' = [some (.ref p), some (.ref L), some (.ref aN), some (.ref aF), some (.str one), some (.str other), some (.ref e), some (.str hh), some (.int sg), some (.ref pt), some (.ref y), x11, none] ∧ H' pt = some (.dK (cD (sgn sg c))) ∧ H' y = some (.dK (cD ps)) ∧ Can ps ∧ (∀ q ∈ ps, -B0 ≤ q.2 ∧ q.2 ≤ B0 ∧ q.1 ∈ W) ∧ pt ≠ y ∧ y ≠ aN ∧ y ≠ aF ∧ Same H5 H') (fun R6 hR6 => ?_) (fun σ6 H6 h6 => ?_)
            · refine ⟨_, rfl, _, rfl, e, c, sg, rfl, gE5, hsg, can.nd, by omega, fun H6 q1 s6 hq1 gq1 => ?_⟩
              refine ⟨_, rfl, aN, rfl, .inl ⟨_, .inl (s6 _ _ gN)⟩, _, rfl, fun q0 hq0 => ?_⟩
              have t0 := same_new (o := .dK []) hq0
              obtain ⟨o, yy, ps, d, eo, gy, cy, hby, wh⟩ := (uN.same (s6.trans t0)).get (h := hh) (t0 _ _ (s6 _ _ gN)) upd_same
              refine ⟨o, d, by show 2 ≤ sizeLine; decide, fun T hT => ?_⟩
              have tT := same_new (o := .tup [.ref q1, o.getD (.ref q0)]) hT
              refine ⟨T, _, rfl, .inl (.inl upd_same), rfl, _, _, rfl, _, _, rfl, rfl, hR6 _ _ ⟨q1, yy, ps, by rw [eo]; rfl, tT _ _ (t0 _ _ gq1), tT _ _ gy, cy, hby, ?_, ?_, ?_, s6.trans (t0.trans tT)⟩⟩
              · rcases wh with rfl | ⟨en, hen, rfl⟩
                · exact ne_of_none gq1 hq0
                · obtain ⟨_, ps', r', _⟩ := uN.all en hen
                  exact (ne_of_none r'.2 hq1).symm
              · rcases wh with rfl | ⟨en, hen, rfl⟩
                · exact (ne_of_none (s6 _ _ gN) hq0).symm
                · obtain ⟨_, ps', r', _⟩ := uN.all en hen
                  exact fun h => r'.1 (by rw [h]; exact List.mem_cons_of_mem _ List.mem_cons_self)
              · rcases wh with rfl | ⟨en, hen, rfl⟩
                · exact (ne_of_none (s6 _ _ gF) hq0).symm
                · obtain ⟨_, ps', r', _⟩ := uN.all en hen
                  exact fun h => r'.1 (by rw [h]; exact List.mem_cons_of_mem _ (List.mem_cons_of_mem _ List.mem_cons_self))
            obtain ⟨pt, y, ps, rfl, gpt, gy, cy, hby, npy, nyN, nyF, s56⟩ := h6
            -- lack
            refine seq_step (fun σ' H' => ∃ lk : Addr, σ' = [some (.ref p), some (.ref L), some (.ref aN), some (.ref aF), some (.str one), some (.str other), some (.ref e), some (.str hh), some (.int sg), some (.ref pt), some (.ref y), some (.ref lk), none] ∧ H' lk = some (.dK (cD (lackL sg c ps))) ∧ lk ≠ aF ∧ Same H6 H') (fun R7 hR7 => ?_) (fun σ7 H7 h7' => ?_)
            · refine ⟨pt, _, gpt, trivial, fun od => ⟨_, rfl, pt, od, rfl, .inl ⟨cD _, upd_same, fun E0 hE => ?_⟩⟩⟩
              refine lk_gen (fun z i => i - ct ps z) (fun z i => decide (ct ps z < i)) upd_same (Nat.le_trans sfew (by decide)) hE (fun z i H7 R8 R9 s7 rd hm c1 c2 => ?_) (fun H' us same eD hus => ?_)
              · have gy7 : H7 y = some (.dK (cD ps)) := s7 _ _ (by rw [upd_ne npy.symm]; exact gy)
                have dg := dget_in rd snd hm
                refine ⟨rfl, _, rfl, _, rfl, pt, _, rfl, dg, _, rfl, y, rfl, .inl ⟨_, .inl gy7⟩, _, rfl, _, dget_ct gy7, _, _, rfl, getD_ct, _, rfl, ifb (fun hb => ?_) (fun hb => ?_)⟩
                · exact ⟨_, rfl, _, rfl, _, rfl, pt, _, rfl, dg, _, rfl, y, rfl, .inl ⟨_, .inl gy7⟩, _, rfl, _, dget_ct gy7, _, _, rfl, getD_ct, by show 2 ≤ sizeLine; decide, fun T hT => c1 hb T hT⟩
                · exact c2 hb
              · obtain ⟨f1, f2, f3, f4⟩ := lk_end gpt hE same eD hus
                refine ⟨f1, E0, us, cD _, rfl, .inl (.inl f3), TupsAt.cD f4, fun q hq => ?_⟩
                rw [merge_nd (mapK_nd snd)]
                exact hR7 _ _ ⟨q, rfl, upd_same, (ne_of_none (f2 _ _ (s56 _ _ gF)) hq).symm, f2.trans (same_new hq)⟩
            obtain ⟨lk, rfl, glk, nlF, s67⟩ := h7'
            have lb := lack_bnd (ps := ps) hsg hcb cy.nd hby hb1
            have lnd : ((lackL sg c ps).map (·.1)).Nodup := mapK_nd snd
            have lwd := lack_wd (W := W) (s := sg) (ps := ps) can
            have llen : (lackL sg c ps).length ≤ 40 := Nat.le_trans mapK_len (by omega)
            generalize lackL sg c ps = LL at glk lb lnd lwd llen
            have s57 := s56.trans s67
            -- found[house]
            refine ⟨_, rfl, aF, rfl, .inl ⟨_, .inl (s57 _ _ gF)⟩, _, rfl, fun q0 hq0 => ?_⟩
            have t0 := same_new (o := .dK []) hq0
            obtain ⟨o, y2, ps2, d, eo, gy2, cy2, hby2, _⟩ := (uF.same (s57.trans t0)).get (h := hh) (t0 _ _ (s57 _ _ gF)) upd_same
            refine ⟨o, d, _, rfl, y2, lk, ps2, LL, 1, by rw [eo]; rfl, gy2, t0 _ _ glk, .inl rfl, cy2.nd, cy2.wd, Nat.le_trans (len_W cy2.nd hby2) (by omega), lnd, lwd, llen, fun H8 z8 rs8 s8 hz8 gz8 can8 ct8 => ?_⟩
            have s58 := s57.trans (t0.trans s8)
            have gF8 := s58 _ _ gF
            have gN8 := s58 _ _ gN
            have u8 := uF.same s58
            have b8 := plus_bnd (.inl rfl) hby2 lb cy2.nd lnd can8 ct8 (Int.le_refl 0) (Int.le_refl 0) (by omega) (by omega)
            have z8N : z8 ∉ [p, aN, aF] := notin_al hz8 fun n hn => let ⟨o, e⟩ := al5 n hn; ⟨o, t0 _ _ (s57 _ _ e)⟩
            have z8H : H z8 = none := by
              cases hh8 : H z8 with
              | none => rfl
              | some o =>
                rw [List.mem_cons, List.mem_cons, List.mem_singleton, not_or, not_or] at z8N
                obtain ⟨m1, m2, m3⟩ := z8N
                have := t0 _ _ (s57 _ _ (kp5 _ _ m2 m3 (s34 _ _ (h13 _ _ m1 m2 m3 hh8))))
                rw [hz8] at this
                cases this
            have fF9 : ∀ e ∈ putE esF hh z8, H e.2 = none := fun e he => by
              rcases putE_mem uF.nd1 he with rfl | ⟨he, _⟩
              · exact z8H
              · exact fF e he
            have u8' := ((u8.grow (lo' := 0) (B' := 2 * B0 + 10) (Int.le_refl 0) (by omega)).put (h := hh) ((uF.same (s57.trans t0)).fresh hz8) hwd ⟨z8N, gz8⟩ can8 (fun q hq => ⟨by have := (b8 q hq).1; omega, by have := (b8 q hq).2.1; omega, (b8 q hq).2.2⟩)).updN (z := aF) (o := .dK (eD (putE esF hh z8))) (List.mem_cons_of_mem _ (List.mem_cons_of_mem _ List.mem_cons_self))
            refine ⟨_, rfl, _, rfl, aF, _, rfl, dput_eD gF8 (by omega), ?_⟩
            -- now[house]
            have un8 := (uN.same s58).updN (z := aF) (o := .dK (eD (putE esF hh z8))) (List.mem_cons_of_mem _ (List.mem_cons_of_mem _ List.mem_cons_self))
            have gy8 : (upd H8 aF (.dK (eD (putE esF hh z8)))) y = some (.dK (cD ps)) := by rw [upd_ne nyF]; exact s8 _ _ (t0 _ _ (s67 _ _ gy))
            have glk8 : (upd H8 aF (.dK (eD (putE esF hh z8)))) lk = some (.dK (cD LL)) := by rw [upd_ne nlF]; exact s8 _ _ (t0 _ _ glk)
            have gN9 : (upd H8 aF (.dK (eD (putE esF hh z8)))) aN = some (.dK (eD esN)) := by rw [upd_ne nNF]; exact gN8
            have gF9 : (upd H8 aF (.dK (eD (putE esF hh z8)))) aF = some (.dK (eD (putE esF hh z8))) := upd_same
            have kp9 : SameD aN aF H4 (upd H8 aF (.dK (eD (putE esF hh z8)))) := fun b o n1 n2 e => by
              rw [upd_ne n2]
              exact s58 _ _ (kp5 _ _ n1 n2 e)
            have lF9 : (putE esF hh z8).length ≤ 2 * i + (j + 1) := Nat.le_trans putE_len (by omega)
            have al9 : ∀ n ∈ [p, aN, aF], ∃ o, (upd H8 aF (.dK (eD (putE esF hh z8)))) n = some o := fun n hn => by
              by_cases en : n = aF
              · rw [en]; exact ⟨_, gF9⟩
              · obtain ⟨o, e⟩ := al5 n hn
                exact ⟨o, by rw [upd_ne en]; exact s58 _ _ e⟩
            clear gN8 gF8 u8 b8
            generalize upd H8 aF (.dK (eD (putE esF hh z8))) = H9 at u8' un8 gy8 glk8 gN9 gF9 kp9 al9 ⊢
            generalize putE esF hh z8 = esF9 at u8' gF9 lF9 fF9
            refine ⟨_, rfl, _, rfl, y, lk, ps, LL, 1, rfl, gy8, glk8, .inl rfl, cy.nd, cy.wd, Nat.le_trans (len_W cy.nd hby) (by omega), lnd, lwd, llen, fun H10 z10 rs10 s10 hz10 gz10 can10 ct10 => ?_⟩
            have b10 := plus_bnd (.inl rfl) hby lb cy.nd lnd can10 ct10 (by omega) (Int.le_refl 0) (by omega) (by omega)
            have z10N : z10 ∉ [p, aN, aF] := notin_al hz10 al9
            have u10 := ((((un8.same s10).grow (lo' := -(2 * B0 + 10)) (B' := 2 * B0 + 10) (by omega) (by omega)).put (h := hh) (un8.fresh hz10) hwd ⟨z10N, gz10⟩ can10 (fun q hq => ⟨by have := (b10 q hq).1; omega, by have := (b10 q hq).2.1; omega, (b10 q hq).2.2⟩))).updN (z := aN) (o := .dK (eD (putE esN hh z10))) (List.mem_cons_of_mem _ List.mem_cons_self)
            refine ⟨_, rfl, _, rfl, aN, _, rfl, dput_eD (s10 _ _ gN9) (by omega), ?_⟩
            refine ⟨_, _, _, _, _, putE esN hh z10, esF9, rfl, upd_same, u10, Nat.le_trans putE_len (by omega), by rw [upd_ne nNF.symm]; exact s10 _ _ gF9, (u8'.same s10).updN (List.mem_cons_of_mem _ List.mem_cons_self), fF9, lF9, fun _ => ?_, fun h2 => ?_, fun b o n1 n2 e => ?_⟩
            · rw [getE_putE]
              rcases hj with ⟨_, rfl⟩ | ⟨rfl, _⟩
              · rw [if_pos rfl]; simp
              · split
                · simp
                · exact o1 (by decide)
            · rcases hj with ⟨rfl, _⟩ | ⟨_, rfl⟩
              · omega
              · rw [getE_putE, if_pos rfl]; simp
            · rw [upd_ne n1]
              exact s10 _ _ (kp9 _ _ n1 n2 e)
          · rintro σ' H5 ⟨x7, x8, x9, x10, x11, esN, esF, rfl, gN, uN, lN, gF, uF, fF, lF, o1, o2, kp5⟩
            exact hR5 _ _ ⟨_, _, _, _, _, esN, esF, rfl, gN, uN, lN, gF, uF, fF, lF, o1 (by show 1 ≤ 2; decide), o2 (by show 2 ≤ 2; decide), fun b o n1 n2 e => kp5 _ _ n1 n2 (s34 _ _ e)⟩
        obtain ⟨x7, x8, x9, x10, x11, esN, esF, rfl, gN, uN, lN, gF, uF, fF, lF, o1, o2, kp5⟩ := h5
        have gE5 := kp5 _ _ neN neF gE3
        have al5 : ∀ n ∈ [p, aN, aF], ∃ o, H5 n = some o := fun n hn => by
          rw [List.mem_cons, List.mem_cons, List.mem_singleton] at hn
          rcases hn with rfl | rfl | rfl
          · exact ⟨_, kp5 _ _ npN npF hp3⟩
          · exact ⟨_, gN⟩
          · exact ⟨_, gF⟩
        have hcn : ∀ q ∈ c, -10 ≤ -1 * q.2 ∧ -1 * q.2 ≤ 10 ∧ q.1 ∈ W := fun q hq => by
          obtain ⟨k1, k2, k3⟩ := hcb q hq
          exact ⟨by omega, by omega, k3⟩
        have hcp : ∀ q ∈ c, -10 ≤ 1 * q.2 ∧ 1 * q.2 ≤ 10 ∧ q.1 ∈ W := fun q hq => by
          obtain ⟨k1, k2, k3⟩ := hcb q hq
          exact ⟨by omega, by omega, k3⟩
        -- now[one]
        obtain ⟨y, ps, d, gy, cy, hby, ey⟩ := uN.at (h := one) gN o1
        refine ⟨_, rfl, _, rfl, aN, _, rfl, d, _, rfl, _, rfl, y, e, ps, c, -1, rfl, gy, gE5, .inr rfl, cy.nd, cy.wd, Nat.le_trans (len_W cy.nd hby) (by omega), can.nd, can.wd, by omega, fun H6 z6 rs6 s6 hz6 gz6 can6 ct6 => ?_⟩
        have b6 := plus_bnd (.inr rfl) hby hcn cy.nd can.nd can6 ct6 (by omega) (by decide) (by omega) (by decide)
        have u6 := (((uN.same s6).grow (lo' := -(4 * BB + 40)) (B' := 4 * BB + 40) (by omega) (by omega)).put (h := one) (uN.fresh hz6) ok.w1 ⟨notin_al hz6 al5, gz6⟩ can6 (fun q hq => ⟨by have := (b6 q hq).1; omega, by have := (b6 q hq).2.1; omega, (b6 q hq).2.2⟩)).updN (z := aN) (o := .dK (eD (putE esN one z6))) (List.mem_cons_of_mem _ List.mem_cons_self)
        refine ⟨_, rfl, _, rfl, aN, _, rfl, dput_eD (s6 _ _ gN) (by omega), ?_⟩
        have gN7 : (upd H6 aN (.dK (eD (putE esN one z6)))) aN = some (.dK (eD (putE esN one z6))) := upd_same
        have gF7 : (upd H6 aN (.dK (eD (putE esN one z6)))) aF = some (.dK (eD esF)) := by rw [upd_ne nNF.symm]; exact s6 _ _ gF
        have gE7 : (upd H6 aN (.dK (eD (putE esN one z6)))) e = some (.dK (cD c)) := by rw [upd_ne neN]; exact s6 _ _ gE5
        have uF7 := (uF.same s6).updN (z := aN) (o := .dK (eD (putE esN one z6))) (List.mem_cons_of_mem _ List.mem_cons_self)
        have kp7 : SameD aN aF H3 (upd H6 aN (.dK (eD (putE esN one z6)))) := fun b o n1 n2 e => by
          rw [upd_ne n1]
          exact s6 _ _ (kp5 _ _ n1 n2 e)
        have al7 : ∀ n ∈ [p, aN, aF], ∃ o, (upd H6 aN (.dK (eD (putE esN one z6)))) n = some o := fun n hn => by
          by_cases en : n = aN
          · rw [en]; exact ⟨_, gN7⟩
          · obtain ⟨o, e⟩ := al5 n hn
            exact ⟨o, by rw [upd_ne en]; exact s6 _ _ e⟩
        have o7 : getE (putE esN one z6) other ≠ none := by
          rw [getE_putE]
          split
          · simp
          · exact o2
        have lN7 : (putE esN one z6).length ≤ 4 * i + 3 := Nat.le_trans putE_len (by omega)
        generalize upd H6 aN (.dK (eD (putE esN one z6))) = H7 at u6 gN7 gF7 gE7 uF7 kp7 al7 ⊢
        generalize putE esN one z6 = esN7 at u6 gN7 o7 lN7
        -- now[other]
        obtain ⟨y8, ps8, d8, gy8, cy8, hby8, _⟩ := u6.at (h := other) gN7 o7
        refine ⟨_, rfl, _, rfl, aN, _, rfl, d8, _, rfl, y8, e, ps8, c, 1, rfl, gy8, gE7, .inl rfl, cy8.nd, cy8.wd, Nat.le_trans (len_W cy8.nd hby8) (by omega), can.nd, can.wd, by omega, fun H8 z8 rs8 s8 hz8 gz8 can8 ct8 => ?_⟩
        have b8 := plus_bnd (.inl rfl) hby8 hcp cy8.nd can.nd can8 ct8 (by omega) (by decide) (by omega) (by decide)
        have u8 := (((u6.same s8).grow (lo' := -(4 * BB + 50)) (B' := 4 * BB + 50) (by omega) (by omega)).put (h := other) (u6.fresh hz8) ok.w2 ⟨notin_al hz8 al7, gz8⟩ can8 (fun q hq => ⟨by have := (b8 q hq).1; omega, by have := (b8 q hq).2.1; omega, (b8 q hq).2.2⟩)).updN (z := aN) (o := .dK (eD (putE esN7 other z8))) (List.mem_cons_of_mem _ List.mem_cons_self)
        refine ⟨_, rfl, _, rfl, aN, _, rfl, dput_eD (s8 _ _ gN7) (by omega), ?_⟩
        refine ⟨_, _, _, _, _, _, _, _, putE esN7 other z8, esF, rfl, upd_same, by rw [hbs]; exact u8, Nat.le_trans putE_len (by omega), by rw [upd_ne nNF.symm]; exact s8 _ _ gF7, ?_, fF, by omega, fun b o n1 n2 e => ?_⟩
        · rw [hbs]
          exact ((uF7.same s8).grow (Int.le_refl 0) (by omega)).updN (List.mem_cons_of_mem _ List.mem_cons_self)
        · rw [upd_ne n1]
          exact s8 _ _ (kp7 _ _ n1 n2 (kp _ _ n1 n2 e))
      · rintro σ' H3 ⟨x4, x5, x6, x7, x8, x9, x10, x11, esN, esF, rfl, gN, uN, lN, gF, uF, fF, lF, kp⟩
        rw [List.length_map, hzl] at uF lF
        refine hR _ _ ⟨_, _, _, _, _, _, _, _, esN, esF, u1, r1, rfl, gF, uF.grow (Int.le_refl _) (bnd7 h7), fF, by omega, by omega, ?_, fun b o nb e => ?_⟩
        · obtain ⟨kv2, h1, h2⟩ := PA2.ob
          exact ⟨⟨kv2, kp _ _ npN npF h1, h2⟩, kp _ _ (ne_of_none PA.cl hN) (ne_of_none PA.cl hF) PA2.cl, PA2.few, PA2.u0, PA2.r0⟩
        · exact kp _ _ (ne_of_none e hN) (ne_of_none e hF) (keep2 _ _ (s1 _ _ e) nb)
    obtain ⟨x4, x5, x6, x7, x8, x9, x10, x11, esN, esF, u1, r1, rfl, gF2, uF, fF, lF, hu1, PA2, keep2⟩ := h2
    -- one carrier less or more
    have npF' := npF
    have hal : ∀ e ∈ esF, e.2 ≠ p ∧ e.2 ≠ aF := fun e he => by
      obtain ⟨_, ps, r, _⟩ := uF.all e he
      exact ⟨fun h => r.1 (by rw [h]; exact List.mem_cons_self), fun h => r.1 (by rw [h]; exact List.mem_cons_of_mem _ (List.mem_cons_of_mem _ List.mem_cons_self))⟩
    refine seq_step (fun σ' H' => ∃ (x7 x12 : Option V) (es : Ent) (u2 r2 : Int), σ' = [some (.ref p), some (.ref L), some (.ref aN), some (.ref aF), x4, x5, x6, x7, x8, x9, x10, x11, x12] ∧ H' aF = some (.dK (eD es)) ∧ EntU [p, aF] W 0 10000000 H' es ∧ es.length ≤ 14 ∧ u2 ≤ u1 + 60 ∧ PenAt H' p c0 ns u2 r2 ∧ (∀ b o, b ≠ p → H b = some o → H' b = some o)) (fun R hR => ?_) (fun σ3 H3 h3 => ?_)
    · refine ⟨_, rfl, aF, eD esF, rfl, .inl gF2, fun q hq => ?_⟩
      have tq := same_new (o := .lst ((eD esF).map fun kv : Key × V => kV kv.1)) hq
      have ekq : ((eD esF).map fun kv : Key × V => kV kv.1) = (esF.map (·.1)).map V.str := by
        unfold eD
        rw [List.map_map, List.map_map]
        rfl
      rw [ekq] at tq ⊢
      have gq : (upd H2 q (.lst ((esF.map (·.1)).map V.str))) q = _ := upd_same
      have nqp : q ≠ p := PA2.nd hq
      have nqF : q ≠ aF := (ne_of_none gF2 hq).symm
      refine ⟨q, rfl, ⟨_, .inl (.inl upd_same)⟩, for_list (xs := (esF.map (·.1)).map V.str) (fun j σ' H' => ∃ (x7 x12 : Option V) (es : Ent) (u2 r2 : Int), σ' = [some (.ref p), some (.ref L), some (.ref aN), some (.ref aF), x4, x5, x6, x7, x8, x9, x10, x11, x12] ∧ H' aF = some (.dK (eD es)) ∧ es.map (·.1) = esF.map (·.1) ∧ EntU [p, aF] W 0 (1000000 + (j : Int)) H' es ∧ (∀ e ∈ es, H e.2 = none) ∧ u2 ≤ u1 + 4 * j ∧ PenAt H' p c0 ns u2 r2 ∧ H' q = some (.lst ((esF.map (·.1)).map V.str)) ∧ (∀ b o, b ≠ p → H b = some o → H' b = some o))
        ⟨_, _, esF, u1, r1, rfl, tq _ _ gF2, rfl, ((uF.same tq).grow (Int.le_refl 0) (by omega)).imp (Int.le_refl _) (Int.le_refl _) (fun x ps r => ⟨fun hm => r.1 (by
            rcases List.mem_cons.mp hm with h | h
            · rw [h]; exact List.mem_cons_self
            · rw [List.mem_singleton.mp h]; exact List.mem_cons_of_mem _ (List.mem_cons_of_mem _ List.mem_cons_self)), r.2⟩), fF, by omega, PA2.same tq, gq, fun b o nb e => tq _ _ (keep2 _ _ nb e)⟩ (fun j σ' H' _ h => ?_) ?_ ?_⟩
      · obtain ⟨_, _, _, _, _, _, _, _, _, _, _, _, h, _⟩ := h
        exact .inl (.inl h)
      · rintro j y σ' H3 hy ⟨x7, x12, es, u2, r2, rfl, gF, ek, uE, fE, hu2, PA3, gq3, kp3⟩
        rw [List.getElem?_map] at hy
        obtain ⟨hh, hhh, rfl⟩ := Option.map_eq_some_iff.mp hy
        have hmem : hh ∈ es.map (·.1) := by rw [ek]; exact List.mem_of_getElem? hhh
        have hj : j < esF.length := by
          have := (List.getElem?_eq_some_iff.mp hhh).1
          rwa [List.length_map] at this
        obtain ⟨⟨hh', ye⟩, hye, e0⟩ := List.mem_map.mp hmem
        have e0 : hh' = hh := e0
        subst e0
        obtain ⟨hwd, ps, ⟨hyN, gy⟩, cy, hby⟩ := uE.all _ hye
        dsimp only at hyN gy hwd
        have nyp : ye ≠ p := fun h => hyN (by rw [h]; exact List.mem_cons_self)
        have nyF : ye ≠ aF := fun h => hyN (by rw [h]; exact List.mem_cons_of_mem _ List.mem_cons_self)
        have hget := getE_of_mem uE.nd1 hye
        dsimp only at hget
        have dgF : ∀ {H' : Hp}, H' aF = some (.dK (eD es)) → DGet H' aF (.str hh') (some (.ref ye)) := fun {H'} h => by
          have d := DGet.k (k := (Sum.inr hh' : Key)) h
          rw [valV_eD, hget] at d
          exact d
        have hps4 : ps.length ≤ 4 := Nat.le_trans (len_W cy.nd hby) hW
        have hHy : H ye = none := fE _ hye
        have nyc : ye ≠ c0 := ne_of gy PA3.cl fun z => nomatch z
        -- the kinds
        refine seq_step (fun σ' H' => ∃ (x12 : Option V) (psi : List (Str × Int)) (u3 r3 : Int), σ' = [some (.ref p), some (.ref L), some (.ref aN), some (.ref aF), x4, x5, x6, some (.str hh'), x8, x9, x10, x11, x12] ∧ H' aF = some (.dK (eD es)) ∧ H' ye = some (.dK (cD psi)) ∧ psi.map (·.1) = ps.map (·.1) ∧ (∀ z, 0 ≤ ct psi z ∧ ct psi z ≤ 1000000 + (j : Int) + 1) ∧ u3 ≤ u2 + 4 ∧ PenAt H' p c0 ns u3 r3 ∧ (∀ b o, b ≠ p → b ≠ ye → H3 b = some o → H' b = some o)) (fun R4 hR4 => ?_) (fun σ4 H4 h4 => ?_)
        · refine ⟨_, rfl, _, rfl, aF, _, rfl, dgF gF, ye, cD ps, rfl, .inl gy, fun q2 hq2 => ?_⟩
          have tq2 := same_new (o := .lst ((cD ps).map fun kv : Key × V => kV kv.1)) hq2
          rw [cD_kV] at tq2 ⊢
          have nq2p : q2 ≠ p := PA3.nd hq2
          have nq2y : q2 ≠ ye := (ne_of_none gy hq2).symm
          refine ⟨q2, rfl, ⟨_, .inl (.inl upd_same)⟩, for_list (xs := (ps.map (·.1)).map V.str) (fun i σ' H' => ∃ (x12 : Option V) (psi : List (Str × Int)) (u3 r3 : Int), σ' = [some (.ref p), some (.ref L), some (.ref aN), some (.ref aF), x4, x5, x6, some (.str hh'), x8, x9, x10, x11, x12] ∧ H' aF = some (.dK (eD es)) ∧ H' ye = some (.dK (cD psi)) ∧ psi.map (·.1) = ps.map (·.1) ∧ (∀ z, z ∉ (ps.take i).map (·.1) → ct psi z = ct ps z) ∧ (∀ z, 0 ≤ ct psi z ∧ ct psi z ≤ 1000000 + (j : Int) + 1) ∧ u3 ≤ u2 + i ∧ PenAt H' p c0 ns u3 r3 ∧ H' q2 = some (.lst ((ps.map (·.1)).map V.str)) ∧ (∀ b o, b ≠ p → b ≠ ye → H3 b = some o → H' b = some o))
            ⟨_, ps, u2, r2, rfl, tq2 _ _ gF, tq2 _ _ gy, rfl, fun _ _ => rfl, fun z => ?_, by omega, PA3.same tq2, upd_same, fun b o _ _ e => tq2 _ _ e⟩ (fun i σ' H' _ h => ?_) ?_ ?_⟩
          · have := ct_bnd cy.nd hby (Int.le_refl 0) (by omega) z
            omega
          · obtain ⟨_, _, _, _, _, _, _, _, _, _, _, _, h, _⟩ := h
            exact .inl (.inl h)
          · rintro i y σ' H4 hy4 ⟨x12, psi, u3, r3, rfl, gF4, gy4, ek4, hun, hbn, hu3, PA4, gq4, kp4⟩
            rw [List.getElem?_map] at hy4
            obtain ⟨kk, hkk, rfl⟩ := Option.map_eq_some_iff.mp hy4
            rw [List.getElem?_map] at hkk
            obtain ⟨pk, hpk, e5⟩ := Option.map_eq_some_iff.mp hkk
            have e5 : pk.1 = kk := e5
            subst e5
            have hip : i < ps.length := (List.getElem?_eq_some_iff.mp hpk).1
            have hpm : pk ∈ ps := List.mem_of_getElem? hpk
            have hno : pk.1 ∉ (ps.take i).map (·.1) := fun hm => by
              obtain ⟨i', hi', e'⟩ := List.mem_iff_getElem.mp hm
              rw [List.length_map, List.length_take] at hi'
              have e6 : (ps.map (·.1))[i']? = some pk.1 := by
                rw [List.getElem_map, List.getElem_take] at e'
                rw [List.getElem?_map, List.getElem?_eq_getElem (by omega)]
                exact congrArg some e'
              have e7 : (ps.map (·.1))[i]? = some pk.1 := by
                rw [List.getElem?_map, hpk]
                rfl
              have := (List.getElem?_inj (by rw [List.length_map]; omega) cy.nd).mp (e6.trans e7.symm)
              omega
            have hct : ct psi pk.1 = pk.2 := (hun _ hno).trans (ct_mem cy.nd hpm)
            have hlo := hby pk hpm
            have hnz := cy.nz pk hpm
            have hkm : pk.1 ∈ psi.map (·.1) := by rw [ek4]; exact List.mem_map_of_mem hpm
            have hg : DGet H4 ye (.str pk.1) (some (.int (ct psi pk.1))) := by
              have z := dget_ct (z := pk.1) gy4
              rw [ctO_some hkm] at z
              exact z
            have plen : psi.length ≤ 1000 := by
              have := congrArg List.length ek4
              rw [List.length_map, List.length_map] at this
              omega
            refine ⟨_, rfl, _, rfl, aF, _, rfl, dgF gF4, _, rfl, ye, _, rfl, hg, _, rfl, _, rfl, by show 7 ≤ sizeLine; decide, fun l hl => ?_⟩
            have tl := same_new (o := .lst [.int 0, .int 0, .int 0, .int 0, .int 0, .int 1, .int (-1)]) hl
            refine ⟨p, c0, .ref l, ns, u3, r3, rfl, PA4.same tl, by omega, .inl ⟨l, [.int 0, .int 0, .int 0, .int 0, .int 0, .int 1, .int (-1)], rfl, upd_same, by decide, by decide, fun v u4 r4 H5 hv hu4 PA5 keep5 => ?_⟩⟩
            obtain ⟨d, rfl, d1, d2⟩ : ∃ d : Int, v = .int d ∧ -1 ≤ d ∧ d ≤ 1 := by
              simp only [List.mem_cons, List.mem_nil_iff, or_false] at hv
              rcases hv with rfl | rfl | rfl | rfl | rfl | rfl | rfl
              · exact ⟨0, rfl, by decide, by decide⟩
              · exact ⟨0, rfl, by decide, by decide⟩
              · exact ⟨0, rfl, by decide, by decide⟩
              · exact ⟨0, rfl, by decide, by decide⟩
              · exact ⟨0, rfl, by decide, by decide⟩
              · exact ⟨1, rfl, by decide, by decide⟩
              · exact ⟨-1, rfl, by decide, by decide⟩
            have gF5 := keep5 _ _ (tl _ _ gF4) npF.symm
            have gy5 := keep5 _ _ (tl _ _ gy4) nyp
            refine ⟨_, _, rfl, rfl, _, rfl, _, rfl, aF, _, rfl, dgF gF5, _, rfl, ye, _, rfl, dput_ct gy5 plen, ?_⟩
            refine ⟨_, putI psi pk.1 (ct psi pk.1 + d), u4, r4, rfl, by rw [upd_ne nyF.symm]; exact gF5, upd_same, by rw [putI_keys_in hkm]; exact ek4, fun z hz => ?_, fun z => ?_, by omega, PA5.upd nyp nyc, by rw [upd_ne nq2y]; exact keep5 _ _ (tl _ _ gq4) nq2p, fun b o n1 n2 e => by rw [upd_ne n2]; exact keep5 _ _ (tl _ _ (kp4 _ _ n1 n2 e)) n1⟩
            · rw [List.take_add_one, hpk] at hz
              rw [List.map_append, List.mem_append, not_or] at hz
              rw [ct_putI, if_neg fun h => hz.2 (by rw [h]; exact List.mem_singleton_self _)]
              exact hun z hz.1
            · rw [ct_putI]
              split
              · rw [hct]
                omega
              · exact hbn z
          · rintro σ' H4 ⟨x12, psi, u3, r3, rfl, gF4, gy4, ek4, hun, hbn, hu3, PA4, gq4, kp4⟩
            rw [List.length_map, List.length_map] at hu3
            exact hR4 _ _ ⟨_, psi, u3, r3, rfl, gF4, gy4, ek4, hbn, by omega, PA4, kp4⟩
        obtain ⟨x12, psi, u3, r3, rfl, gF4, gy4, ek4, hbn, hu3, PA4, kp4⟩ := h4
        have pnd : (psi.map (·.1)).Nodup := by rw [ek4]; exact cy.nd
        have plen : psi.length ≤ 100 := by
          have := congrArg List.length ek4
          rw [List.length_map, List.length_map] at this
          omega
        have pwd : ∀ q ∈ psi, wordB q.1 = true := fun q hq => by
          have : q.1 ∈ ps.map (·.1) := by rw [← ek4]; exact List.mem_map_of_mem hq
          obtain ⟨q', hq', e'⟩ := List.mem_map.mp this
          have e' : q'.1 = q.1 := e'
          rw [← e']
          exact cy.wd q' hq'
        -- found[house] = clean
        refine ⟨_, rfl, _, rfl, aF, _, rfl, dgF gF4, ye, psi, rfl, gy4, pnd, pwd, plen, fun H6 z6 rs s6 hz6 gz6 can6 ct6 => ?_⟩
        have ale : ∀ e ∈ es, ∃ o, H4 e.2 = some o := fun e he => by
          by_cases h : e.2 = ye
          · rw [h]; exact ⟨_, gy4⟩
          · obtain ⟨_, ps', r', _⟩ := uE.all e he
            exact ⟨_, kp4 _ _ (fun x => r'.1 (by rw [x]; exact List.mem_cons_self)) h r'.2⟩
        obtain ⟨kv4, hp4, _⟩ := id PA4.ob
        have z6N : z6 ∉ [p, aF] := notin_al hz6 fun n hn => by
          rcases List.mem_cons.mp hn with rfl | hn
          · exact ⟨_, hp4⟩
          · rw [List.mem_singleton.mp hn]; exact ⟨_, gF4⟩
        have z6e : z6 ∉ es.map (·.2) := fun hm => by
          obtain ⟨e, he, ez⟩ := List.mem_map.mp hm
          have ez : e.2 = z6 := ez
          obtain ⟨o, ho⟩ := ale e he
          rw [ez, hz6] at ho
          cases ho
        have z6H : H z6 = none := by
          cases hh8 : H z6 with
          | none => rfl
          | some o =>
            have m1 : z6 ≠ p := fun x => z6N (by rw [x]; exact List.mem_cons_self)
            have m2 : z6 ≠ ye := fun x => by rw [x, hHy] at hh8; cases hh8
            have := kp4 _ _ m1 m2 (kp3 _ _ m1 hh8)
            rw [hz6] at this
            cases this
        have z6F : z6 ≠ aF := fun x => z6N (by rw [x]; exact List.mem_cons_of_mem _ List.mem_cons_self)
        have el := congrArg List.length ek
        rw [List.length_map, List.length_map] at el
        refine ⟨_, rfl, _, rfl, aF, _, rfl, dput_eD (s6 _ _ gF4) (by omega), ?_⟩
        have hany : (es.any fun e => decide (e.1 = hh')) = true := List.any_eq_true.mpr ⟨_, hye, decide_eq_true rfl⟩
        refine ⟨_, _, putE es hh' z6, u3, r3, rfl, upd_same, by rw [putE_keys, if_pos hany]; exact ek, ⟨putE_nd uE.nd1, putE_nd2 uE.nd1 uE.nd2 z6e, fun e he => ?_⟩, fun e he => ?_, by omega, (PA4.same s6).upd npF.symm (ne_of (s6 _ _ gF4) (PA4.same s6).cl fun z => nomatch z), ?_, fun b o nb e => ?_⟩
        · rcases putE_mem uE.nd1 he with rfl | ⟨he, hne⟩
          · refine ⟨hwd, rs, ⟨z6N, by rw [upd_ne z6F]; exact gz6⟩, can6, fun q hq => ?_⟩
            have e9 := ct_mem can6.nd hq
            rw [ct6] at e9
            have hb9 := hbn q.1
            refine ⟨by omega, by omega, ?_⟩
            have hq1 : q.1 ∈ ps.map (·.1) := by
              rw [← ek4]
              exact ct_in (by rw [e9]; exact can6.nz q hq)
            obtain ⟨q', hq', e'⟩ := List.mem_map.mp hq1
            have e' : q'.1 = q.1 := e'
            rw [← e']
            exact (hby q' hq').2.2
          · obtain ⟨w', ps', ⟨rN, rg⟩, c', b'⟩ := uE.all e he
            have n1 : e.2 ≠ ye := fun x => hne (by
              have := nd2_inj uE.nd2 he hye x
              rw [this])
            refine ⟨w', ps', ⟨rN, ?_⟩, c', fun q hq => ⟨(b' q hq).1, by have := (b' q hq).2.1; omega, (b' q hq).2.2⟩⟩
            rw [upd_ne fun x => rN (by rw [x]; exact List.mem_cons_of_mem _ List.mem_cons_self)]
            exact s6 _ _ (kp4 _ _ (fun x => rN (by rw [x]; exact List.mem_cons_self)) n1 rg)
        · rcases putE_mem uE.nd1 he with rfl | ⟨he, _⟩
          · exact z6H
          · exact fE e he
        · rw [upd_ne nqF]
          exact s6 _ _ (kp4 _ _ nqp (ne_of gq3 gy fun z => nomatch z) gq3)
        · rw [upd_ne (ne_of_none e hF)]
          exact s6 _ _ (kp4 _ _ nb (fun x => by rw [x, hHy] at e; cases e) (kp3 _ _ nb e))
      · rintro σ' H3 ⟨x7, x12, es, u2, r2, rfl, gF, ek, uE, fE, hu2, PA3, gq3, kp3⟩
        rw [List.length_map, List.length_map] at uE hu2
        have el := congrArg List.length ek
        rw [List.length_map, List.length_map] at el
        exact hR _ _ ⟨_, _, es, u2, r2, rfl, gF, uE.grow (Int.le_refl 0) (by omega), by omega, by omega, PA3, kp3⟩
    obtain ⟨x7', x12, es, u2, r2, rfl, gF3, uE, lE, hu2, PA3, keep3⟩ := h3
    exact ⟨_, rfl, k H3 aF es u2 r2 hF (fun b o e nb => keep3 b o nb e) PA3 (by omega) gF3 (uE.imp (Int.le_refl _) (Int.le_refl _) fun x ps r => ⟨fun hm => r.1 (by rw [List.mem_singleton.mp hm]; exact List.mem_cons_self), r.2⟩) (by omega)⟩
end
end Ld
namespace Ld
open PySem PySem.Spec PyProof.Rows L2
open TL
/-! ### some drives -/
theorem cut_take {xs : List V} {j : Nat} : cutV xs none (some (j : Int)) = xs.take j := by
  unfold cutV
  rw [HT.sIx_nat, HT.sIx_none, Nat.sub_zero, List.drop_zero]
  rcases Nat.le_total j xs.length with h | h
  · rw [Nat.min_eq_left h]
  · rw [Nat.min_eq_right h, List.take_length, List.take_of_length_le h]
def spSomL (P : Program) (w : World) : Sp := fun vs H Q _ => ∃ (p c kl hl : Addr) (ks hs : List Str) (ns : List Int) (u r : Int) (n : Nat), vs = [.ref p, .ref kl, .ref hl, .int n] ∧ PenAt H p c ns u r ∧ H kl = some (.lst (ks.map V.str)) ∧ 1 ≤ ks.length ∧ ks.length ≤ 3 ∧ ks.Nodup ∧ (∀ z ∈ ks, Wd 1 8 z) ∧
  H hl = some (.lst (hs.map V.str)) ∧ hs.length ≤ 26 ∧ 2 ≤ hs.length ∧ hs.Nodup ∧ (∀ z ∈ hs, Wd 1 8 z) ∧ n ≤ 5 ∧ u + 300 ≤ 1000000 ∧
  ∀ (L : Addr) (ts : List Addr) (rows : List Row) (u' r' : Int) (H' : Hp), H L = none → H' L = some (.lst (ts.map V.ref)) → Paired (RowAt p H') ts rows → (∀ r ∈ rows, RowOk r ∧ ∀ z ∈ r.2.2.map (·.1), z ∈ ks) → rows.length = n → u' ≤ u + 300 → PenAt H' p c ns u' r' → SameP p H H' → Q (.ref L) H'
/-- counts that are drawn -/
structure Cx3 (ks : List Str) (ps : List (Str × Int)) : Prop where
  nd : (ps.map (·.1)).Nodup
  sub : ∀ q ∈ ps, -3 ≤ q.2 ∧ q.2 ≤ 3 ∧ q.1 ∈ ks
  nz : ∀ q ∈ ps, q.2 ≠ 0
  ne : ps ≠ []
section
variable {P : Program} {w : World} {K : PySem.W.Frag} {mg : Str → Option Value} {base : Heap}
abbrev nSom : List Str := ["_law_pen_here", "_law_kinds", "_law_houses", "_law_many", "_law_found", "_law_k", "_law_one", "_law_other", "_law_counts", "_law_kind"]
theorem scSomL : FnScope nSom ["_law_pen_here", "_law_kinds", "_law_houses", "_law_many"] (defScope sSomL) := ⟨rfl, rfl, rfl, by decide +kernel, rfl, by decide +kernel, by decide +kernel⟩
theorem ok_somL {f : Addr} {fd : FuncData} (F : Fun K "_law_some_drives" "_law_some_drives" sSomL f fd) (B : Blt mg) (B2 : Blt2 mg) (HD : Has P w K mg base 1 "_law_draw" ["_law_pen_here", "_law_many"] spDraw) (HS : Has P w K mg base 2 "_law_shuffled" ["_law_pen_here", "_law_items"] spShufV) (HC : Has P w K mg base 1 "_law_clean" ["_law_counts"] spClnL) :
    FnOk P w K mg base CX0 3 f fd ["_law_pen_here", "_law_kinds", "_law_houses", "_law_many"] (spSomL P w) := by
  obtain ⟨g1, gd1, G1, b1, m1, k1⟩ := HD
  obtain ⟨g2, gd2, G2, b2, m2, k2⟩ := HS
  obtain ⟨g3, gd3, G3, b3, m3, k3⟩ := HC
  refine F.ok scSomL (fun vs H Q E h => ?_) (fun cdv A outer s H vs Q E hr h => ?_)
  · obtain ⟨p, c, kl, hl, ks, hs, ns, u, r, n, rfl, _⟩ := h
    rfl
  · obtain ⟨p, c, kl, hl, ks, hs, ns, u, r, n, rfl, PA, gK, hk1, hkl, hkn, hkw, gH, hhl, hh2, hhn, hhw, hn5, hu6, k⟩ := h
    have hr1 : Room 1 _ := hr.mono (by decide)
    have hr2 : Room 2 _ := hr
    have hu := hu_of hr
    have nd : nSom.Nodup := scSomL.nd
    refine ⟨_, pss_cons (ps_set (i := 4) nd rfl (Or.inl rfl) (pe_lst pa_nil))
      (pss_cons (ps_for PassesOwn.never rfl (pi_range1 (by rfl) B.range (pa_cons (pv 3) pa_nil)) (pg_name (i := 5) nd rfl (Or.inl rfl))
        (pss_cons (ps_asg (pe_slice sl_list (pe_call G2 hr2 (by rfl) m2 k2 b2 .nil pass0 (pa_cons (pv 0) (pa_cons (pv 2) pa_nil))) po_none (po_some pe_int)) (pg_unl rfl (pgs_cons (pg_name (i := 6) nd rfl (Or.inl rfl)) (pgs_cons (pg_name (i := 7) nd rfl (Or.inl rfl)) pgs_nil))))
        (pss_cons (ps_set (i := 8) nd rfl (Or.inl rfl) (pe_callTy (call_dictP rfl) (by rfl) B2.dict bDict (pa_cons (pe_lc (own := [("_law_kind", 9)]) (g := gName 9) (tt := tYes) rfl nd (pi_list (pe_slice sl_list (pe_call G2 hr2 (by rfl) m2 k2 b2 .nil pass0 (pa_cons (pv 0) (pa_cons (pv 1) pa_nil))) po_none (po_some (pe_op op_add pe_int (pe_call G1 hr1 (by rfl) m1 k1 b1 .nil pass0 (pa_cons (pv 0) (pa_cons pe_int pa_nil))))))) (blkOk_by (N := nSom) (sc := defScope sSomL) (by decide +kernel)) (fun _ _ _ _ _ => pg_name (i := 9) nd rfl (Or.inl rfl)) (fun _ _ _ _ _ => pts_nil) (fun _ _ _ _ _ => (pe_tup (pa_cons (pv 9) (pa_cons (pe_op op_add pe_int (pe_call G1 hr1 (by rfl) m1 k1 b1 .nil pass0 (pa_cons (pv 0) (pa_cons pe_int pa_nil)))) pa_nil))))) pa_nil)))
        (pss_cons (ps_if (pt_cmpR op_eq (pe_call G1 hr1 (by rfl) m1 k1 b1 .nil pass0 (pa_cons (pv 0) (pa_cons pe_int pa_nil))) pe_int (nomark _)) (pss_one (ps_dput hu (pv 8) (pe_ix ix_list (pv 1) pe_int (fun _ _ => rfl)) (pe_op op_sub (pe_un un_neg pe_int) (pe_call G1 hr1 (by rfl) m1 k1 b1 .nil pass0 (pa_cons (pv 0) (pa_cons pe_int pa_nil)))) rfl)) pss_nil)
        (pss_one (ps_expr (pe_bm PySem.F.plainAttrs_list PySem.F.slot_list_append PySem.F.type_list_append mt_append (pv 4) (pa_cons (pe_tup (pa_cons (pv 6) (pa_cons (pv 7) (pa_cons (pe_call G3 hr1 (by rfl) m3 k3 b3 .nil pass0 (pa_cons (pv 8) pa_nil)) pa_nil)))) pa_nil))))))))
      (pss_one (ps_ret (pv 4)))), ?_⟩
    -- found
    refine seq_step (fun σ' H' => ∃ D : Addr, σ' = [some (.ref p), some (.ref kl), some (.ref hl), some (.int n), some (.ref D), none, none, none, none, none] ∧ H D = none ∧ H' = upd H D (.lst [])) (fun R hR => ?_) (fun σ1 H1 h1 => ?_)
    · exact ⟨Nat.zero_le _, fun D hD => hR _ _ ⟨D, rfl, hD, rfl⟩⟩
    obtain ⟨D, rfl, hD, e1⟩ := h1
    have nDp := PA.nd hD
    have nDc := PA.nc hD
    have sD := same_new (o := .lst []) hD
    have PA1 : PenAt H1 p c ns u r := by rw [e1]; exact PA.same sD
    have gD1 : H1 D = some (.lst []) := by rw [e1, upd_same]
    have s1 : Same H H1 := by rw [e1]; exact sD
    clear e1
    have nKp := PA.nl gK
    have nHp := PA.nl gH
    -- the drives
    refine seq_step (fun σ' H' => ∃ (x5 x6 x7 x8 : Option V) (ts : List Addr) (rows : List Row) (u' r' : Int), σ' = [some (.ref p), some (.ref kl), some (.ref hl), some (.int n), some (.ref D), x5, x6, x7, x8, none] ∧ H' D = some (.lst (ts.map V.ref)) ∧ Paired (RowAt p H') ts rows ∧ (∀ r ∈ rows, RowOk r ∧ ∀ z ∈ r.2.2.map (·.1), z ∈ ks) ∧ rows.length = n ∧ u' ≤ u + 300 ∧ PenAt H' p c ns u' r' ∧ SameP p H H') (fun R hR => ?_) (fun σ2 H2 h2 => ?_)
    · refine ⟨_, rfl, _, rfl, by omega, by omega, for_range (n := n) (fun i σ' H' => ∃ (x5 x6 x7 x8 : Option V) (ts : List Addr) (rows : List Row) (u' r' : Int), σ' = [some (.ref p), some (.ref kl), some (.ref hl), some (.int n), some (.ref D), x5, x6, x7, x8, none] ∧ H' D = some (.lst (ts.map V.ref)) ∧ Paired (RowAt p H') ts rows ∧ (∀ r ∈ rows, RowOk r ∧ ∀ z ∈ r.2.2.map (·.1), z ∈ ks) ∧ rows.length = i ∧ u' ≤ u + 60 * i ∧ PenAt H' p c ns u' r' ∧ SameP p H H')
        ⟨_, _, _, _, [], [], u, r, rfl, gD1, .nil, (fun _ h => nomatch h), rfl, by omega, PA1, .of s1⟩ ?_ ?_⟩
      · rintro i σ' H3 hi ⟨x5, x6, x7, x8, ts, rows, u', r', rfl, gD, hrows, hok, hlen, hu', PA3, kp3⟩
        have gK3 := kp3 _ _ gK nKp
        have gH3 := kp3 _ _ gH nHp
        -- one, other
        refine seq_step (fun σ' H' => ∃ (g t : Str) (u2 r2 : Int), σ' = [some (.ref p), some (.ref kl), some (.ref hl), some (.int n), some (.ref D), some (.int (0 + (i : Int))), some (.str g), some (.str t), x8, none] ∧ wordB g = true ∧ wordB t = true ∧ t ≠ g ∧ u2 ≤ u' + 26 ∧ PenAt H' p c ns u2 r2 ∧ SameP p H3 H') (fun R hR => ?_) (fun σ4 H4 h4 => ?_)
        · refine ⟨_, rfl, _, rfl, p, c, hl, hs.map V.str, ns, u', r', rfl, PA3, gH3, by rw [List.length_map]; omega, by rw [List.length_map]; omega, fun q0 yv u2 r2 H4 _ gq hp qb PAb sb => ?_⟩
          obtain ⟨ys, hpq, rfl⟩ := perm_of_map hp rfl
          rw [List.length_map] at qb
          have hyl := hpq.length_eq
          obtain ⟨g, t, yr, rfl⟩ : ∃ g t yr, ys = g :: t :: yr := by
            match ys, (by omega : 2 ≤ ys.length) with
            | g :: t :: yr, _ => exact ⟨g, t, yr, rfl⟩
          have hyn := hpq.nodup_iff.mpr hhn
          refine ⟨_, rfl, q0, _, rfl, .inl (.inl gq), fun t0 ht0 => ?_⟩
          have e2 : cutV ((g :: t :: yr).map V.str) none (some (2 : Int)) = [.str g, .str t] := (cut_take (xs := (g :: t :: yr).map V.str) (j := 2)).trans rfl
          rw [e2]
          have s0 := same_new (o := .lst [.str g, .str t]) ht0
          exact ⟨t0, _, rfl, .inl (.inl upd_same), rfl, _, _, rfl, _, _, rfl, rfl, hR _ _ ⟨g, t, u2, r2, rfl, (hhw g (hpq.mem_iff.mp List.mem_cons_self)).word, (hhw t (hpq.mem_iff.mp (List.mem_cons_of_mem _ List.mem_cons_self))).word, fun e => by
            rw [e] at hyn
            exact (List.nodup_cons.mp hyn).1 List.mem_cons_self, by omega, PAb.same s0, sb.trans (.of s0)⟩⟩
        obtain ⟨g, t, u2, r2, rfl, hg, ht, hne, hu2, PA4, keep4⟩ := h4
        -- counts
        refine seq_step (fun σ' H' => ∃ (d : Addr) (ps : List (Str × Int)) (u3 r3 : Int), σ' = [some (.ref p), some (.ref kl), some (.ref hl), some (.int n), some (.ref D), some (.int (0 + (i : Int))), some (.str g), some (.str t), some (.ref d), none] ∧ H' d = some (.dK (cD ps)) ∧ H3 d = none ∧ Cx3 ks ps ∧ u3 ≤ u' + 40 ∧ PenAt H' p c ns u3 r3 ∧ SameP p H3 H') (fun R hR => ?_) (fun σ5 H5 h5 => ?_)
        · refine ⟨_, rfl, _, rfl, p, c, kl, ks.map V.str, ns, u2, r2, rfl, PA4, keep4 _ _ gK3 nKp, by rw [List.length_map]; omega, by rw [List.length_map]; omega, fun q0 yv u4 r4 H5 hq0 gq hp qb PAb sb => ?_⟩
          obtain ⟨ys, hpq, rfl⟩ := perm_of_map hp rfl
          rw [List.length_map] at qb
          have hyl := hpq.length_eq
          refine ⟨_, rfl, p, c, ns, u4, r4, 2, rfl, PAb, by omega, by decide, by decide, fun e u5 r5 H6 e0 e1 hu5 PA6 keep6 => ?_⟩
          obtain ⟨jn, rfl⟩ : ∃ n : Nat, e = (n : Int) := ⟨e.toNat, by omega⟩
          have gq2 := keep6 _ _ gq (PA4.nd hq0)
          refine ⟨_, _, rfl, rfl, _, rfl, q0, _, rfl, .inl (.inl gq2), fun S hS => ?_⟩
          have ec : cutV (ys.map V.str) none (some ((1 : Int) + (jn : Int))) = (ys.take (1 + jn)).map V.str := by
            have e9 : ((1 : Int) + (jn : Int)) = ((1 + jn : Nat) : Int) := by omega
            rw [e9, cut_take, List.map_take]
          rw [ec]
          generalize hzs : ys.take (1 + jn) = zs
          have hzl : zs.length ≤ 2 := by rw [← hzs, List.length_take]; omega
          have hz1 : 1 ≤ zs.length := by rw [← hzs, List.length_take]; omega
          have hzn : zs.Nodup := by rw [← hzs]; exact (hpq.nodup_iff.mpr hkn).sublist (List.take_sublist _ _)
          have hzw : ∀ z ∈ zs, z ∈ ks := fun z hz => hpq.mem_iff.mp (List.mem_of_mem_take (by rw [hzs]; exact hz))
          have sS := same_new (o := .lst (zs.map V.str)) hS
          have gS : (upd H6 S (.lst (zs.map V.str))) S = some (.lst (zs.map V.str)) := upd_same
          have PA7 := PA6.same sS
          have kp7 : SameP p H3 (upd H6 S (.lst (zs.map V.str))) := keep4.trans (sb.trans (keep6.trans (.of sS)))
          have nSp := PA7.nl gS
          generalize upd H6 S (.lst (zs.map V.str)) = H7 at gS PA7 kp7
          refine ⟨S, rfl, ⟨_, .inl (.inl gS)⟩, fun D2 hD2 => ?_⟩
          have nD2p := PA7.nd hD2
          have nD2c := PA7.nc hD2
          have sD2 := same_new (o := .lst []) hD2
          refine lc_it (walk_list (xs := zs.map V.str)) (fun j H' => ∃ (us : List Addr) (qs : List (Str × Int)) (u' r' : Int), H' D2 = some (.lst (us.map V.ref)) ∧ TupsAt H' us qs ∧ qs.map (·.1) = zs.take j ∧ (∀ q ∈ qs, 1 ≤ q.2 ∧ q.2 ≤ 3) ∧ u' ≤ u5 + j ∧ PenAt H' p c ns u' r' ∧ SameP p H7 H')
            ⟨[], [], u5, r5, upd_same, .nil, rfl, (fun _ h => nomatch h), by omega, PA7.same sD2, .of sD2⟩ (fun j H' _ ⟨_, _, _, _, _, _, _, _, _, _, h⟩ => .inl (.inl (h _ _ gS nSp))) ?_ ?_
          · rintro j x H8 H9 hj ⟨us, qs, u6, r6, eD, hus, hk, hb, hu6, PA', keep'⟩ ⟨rfl, hx⟩
            rw [List.length_map] at hj
            rw [List.getElem?_map, List.getElem?_eq_getElem hj] at hx
            obtain rfl : x = V.str zs[j] := (Option.some.inj hx).symm
            have hql : qs.length ≤ j := by
              have := congrArg List.length hk
              rw [List.length_map, List.length_take] at this
              omega
            refine ⟨rfl, _, rfl, _, rfl, p, c, ns, u6, r6, 3, rfl, PA', by omega, by decide, by decide, fun d u7 r7 H10 d0 d1 hu7 PA10 keep10 => ⟨_, _, rfl, rfl, by show 2 ≤ sizeLine; decide, fun T hT => ?_⟩⟩
            have eD3 := keep10 _ _ eD nD2p
            have nTD : D2 ≠ T := ne_of_none eD3 hT
            have sT := same_new (o := .tup [.str zs[j], .int (1 + d)]) hT
            have hul := Paired.length hus
            refine ⟨_, by rw [upd_ne nTD]; exact eD3, ?_, us ++ [T], qs ++ [(zs[j], 1 + d)], u7, r7, ?_, ?_, ?_, ?_, by omega, (PA10.same sT).upd nD2p nD2c, ?_⟩
            · rw [List.length_map, hul]
              exact Nat.lt_of_le_of_lt (by omega : qs.length ≤ 3) (by decide)
            · rw [upd_same, List.map_append]
              rfl
            · refine .snoc (TupsAt.keep hus fun t xs ht => ?_) ?_
              · have h3 := SameP.tup keep10 PA' t xs ht
                rw [upd_ne (ne_of h3 eD3 fun z => nomatch z), upd_ne (ne_of_none h3 hT)]
                exact h3
              · rw [upd_ne nTD.symm, upd_same]
            · rw [List.map_append, hk, List.take_succ, List.getElem?_eq_getElem hj]
              rfl
            · intro q hq
              rcases List.mem_append.mp hq with h | h
              · exact hb q h
              · rw [List.mem_singleton.mp h]
                exact ⟨by show 1 ≤ 1 + d; omega, by show 1 + d ≤ 3; omega⟩
            · intro b o eb nb
              have e6 := keep10 _ _ (keep' b o eb nb) nb
              rw [upd_ne (ne_of_none eb hD2), upd_ne (ne_of_none e6 hT)]
              exact e6
          · rintro H8 ⟨us, qs, u6, r6, eD, hus, hk, hb, hu6, PA', keep'⟩
            rw [List.length_map, List.take_length] at hk
            rw [List.length_map] at hu6
            have ndq : (qs.map (·.1)).Nodup := by rw [hk]; exact hzn
            have hql : qs.length = zs.length := by rw [← hk, List.length_map]
            refine ⟨D2, us, cD qs, rfl, .inl (.inl eD), TupsAt.cD hus, fun d hd => ?_⟩
            rw [merge_nd ndq]
            have sd := same_new (o := .dK (cD qs)) hd
            have kk := kp7.trans keep'
            refine hR _ _ ⟨d, qs, u6, r6, rfl, upd_same, SameP.none kk hd (PA'.nd hd), ⟨ndq, fun q hq => ?_, fun q hq => ?_, fun e => ?_⟩, by omega, PA'.same sd, kk.trans (.of sd)⟩
            · have hb9 := hb q hq
              refine ⟨by omega, hb9.2, hzw _ ?_⟩
              rw [← hk]
              exact List.mem_map_of_mem hq
            · have hb9 := hb q hq
              omega
            · rw [e] at hql
              have : ([] : List (Str × Int)).length = 0 := rfl
              omega
        obtain ⟨d, ps, u3, r3, rfl, gd, hd3, cx, hu3, PA5, keep5⟩ := h5
        -- if draw == 0
        refine seq_step (fun σ' H' => ∃ (ps : List (Str × Int)) (u3 r3 : Int), σ' = [some (.ref p), some (.ref kl), some (.ref hl), some (.int n), some (.ref D), some (.int (0 + (i : Int))), some (.str g), some (.str t), some (.ref d), none] ∧ H' d = some (.dK (cD ps)) ∧ Cx3 ks ps ∧ u3 ≤ u' + 50 ∧ PenAt H' p c ns u3 r3 ∧ SameP p H3 H') (fun R hR => ?_) (fun σ6 H6 h6 => ?_)
        · have ndp := PA3.nd hd3
          have ndc := PA3.nc hd3
          refine ⟨_, rfl, p, c, ns, u3, r3, 3, rfl, PA5, by omega, by decide, by decide, fun e u4 r4 H6 e0 e1 hu4 PA6 keep6 => ⟨rfl, _, rfl, ifb (fun _ => ?_) (fun _ => ?_)⟩⟩
          · have gd6 := keep6 _ _ gd ndp
            refine ⟨_, rfl, _, rfl, p, c, ns, u4, r4, 2, rfl, PA6, by omega, by decide, by decide, fun e2 u5 r5 H7 e20 e21 hu5 PA7 keep7 => ?_⟩
            have gd7 := keep7 _ _ gd6 ndp
            have gK7 := keep7 _ _ (keep6 _ _ (keep5 _ _ gK3 nKp) nKp) nKp
            have hk0 : ks[0]? = some ks[0] := List.getElem?_eq_getElem hk1
            have pl : ps.length ≤ 3 := Nat.le_trans (len_W cx.nd cx.sub) hkl
            refine ⟨_, _, rfl, rfl, _, rfl, _, rfl, kl, ks.map V.str, 0, .str ks[0], rfl, rfl, .inl (.inl gK7), atI_nat (j := 0) (by rw [List.getElem?_map, hk0]; rfl), d, _, rfl, dput_ct gd7 (by omega), ?_⟩
            refine hR _ _ ⟨putI ps ks[0] (-1 - e2), u5, r5, rfl, upd_same, ⟨putI_nd cx.nd, fun q hq => ?_, fun q hq => ?_, fun e => ?_⟩, by omega, PA7.upd ndp ndc, fun b o e nb => ?_⟩
            · rcases putI_mem hq with rfl | hq
              · exact ⟨by show -3 ≤ -1 - e2; omega, by show -1 - e2 ≤ 3; omega, List.getElem_mem hk1⟩
              · exact cx.sub q hq
            · rcases putI_mem hq with rfl | hq
              · show -1 - e2 ≠ 0; omega
              · exact cx.nz q hq
            · have := putI_key (ps := ps) (z := ks[0]) (i := -1 - e2)
              rw [e] at this
              exact nomatch this
            · rw [upd_ne (ne_of_none e hd3)]
              exact keep7 _ _ (keep6 _ _ (keep5 _ _ e nb) nb) nb
          · exact hR _ _ ⟨ps, u4, r4, rfl, keep6 _ _ gd ndp, cx, by omega, PA6, keep5.trans keep6⟩
        obtain ⟨ps2, u4, r4, rfl, gd6, cx2, hu4, PA6, kp6⟩ := h6
        clear cx gd ps
        have pl : ps2.length ≤ 3 := Nat.le_trans (len_W cx2.nd cx2.sub) hkl
        -- found.append((one, other, clean(counts)))
        refine ⟨_, rfl, .inl ⟨rfl, _, .inl (.inl (kp6 _ _ gD nDp))⟩, _, rfl, _, rfl, _, rfl, d, ps2, rfl, gd6, cx2.nd, fun q hq => (hkw _ (cx2.sub q hq).2.2).word, by omega, fun H8 q rs s8 hq eq can cts => ⟨by show 3 ≤ sizeLine; decide, fun T hT => ?_⟩⟩
        have sT := same_new (o := .tup [.str g, .str t, .ref q]) hT
        have s79 := s8.trans sT
        have gD9 := s79 _ _ (kp6 _ _ gD nDp)
        refine ⟨D, _, _, rfl, rfl, gD9, ?_, ?_⟩
        · have := Paired.length hrows
          rw [List.length_map, this]
          exact Nat.lt_of_le_of_lt (by omega : _ ≤ 7) (by decide)
        have hin : ∀ x ∈ rs, x.1 ∈ ps2.map (·.1) ∧ -3 ≤ x.2 ∧ x.2 ≤ 3 := fun x hx => by
          have e9 := ct_mem can.nd hx
          rw [cts] at e9
          have hb9 := ct_bnd cx2.nd cx2.sub (by decide) (by decide) x.1
          exact ⟨ct_in (by rw [e9]; exact can.nz x hx), by omega, by omega⟩
        have hrk : ∀ z ∈ rs.map (·.1), z ∈ ks := fun z hz => by
          obtain ⟨x, hx, rfl⟩ := List.mem_map.mp hz
          obtain ⟨x', hx', e'⟩ := List.mem_map.mp (hin x hx).1
          have e' : x'.1 = x.1 := e'
          rw [← e']
          exact (cx2.sub x' hx').2.2
        have hro : RowOk (g, t, rs) := by
          refine ⟨hg, ht, hne, can, ?_, fun e => ?_, fun x hx => ?_⟩
          · have := nd_len (l := rs.map (·.1)) (m := ks) can.nd hrk
            rw [List.length_map] at this
            exact Nat.le_trans this hkl
          · obtain ⟨x, hx⟩ := List.exists_mem_of_ne_nil _ cx2.ne
            have e1 := cts x.1
            rw [ct_mem cx2.nd hx] at e1
            have e : rs = [] := e
            rw [e] at e1
            exact cx2.nz x hx e1.symm
          · have := hin x hx
            show x.2.natAbs ≤ 10
            omega
        have hqp : q ≠ p := PA6.nd hq
        have nqT : q ≠ T := ne_of_none eq hT
        refine ⟨_, _, _, _, ts ++ [T], rows ++ [(g, t, rs)], u4, r4, rfl, by rw [upd_same, List.map_append]; rfl, ?_, fun r hr => ?_, by rw [List.length_append, hlen]; rfl, by omega, (PA6.same s79).upd nDp nDc, ?_⟩
        · refine .snoc (Paired.mono (fun t r h => ?_) hrows) ⟨q, hqp, ?_, ?_⟩
          · obtain ⟨e, e1, e2, e3⟩ := (h.keepP PA3 kp6).same s79
            exact ⟨e, e1, by rw [upd_ne (ne_of e2 gD9 fun z => nomatch z)]; exact e2, by rw [upd_ne (ne_of e3 gD9 fun z => nomatch z)]; exact e3⟩
          · rw [upd_ne (ne_of_none (s8 _ _ (kp6 _ _ gD nDp)) hT).symm]
            exact upd_same
          · rw [upd_ne (ne_of_none (kp6 _ _ gD nDp) hq).symm]
            exact sT _ _ eq
        · rcases List.mem_append.mp hr with hr | hr
          · exact hok r hr
          · rw [List.mem_singleton.mp hr]
            exact ⟨hro, hrk⟩
        · intro b o e nb
          rw [upd_ne (ne_of_none e hD)]
          exact s79 _ _ (kp6 _ _ (kp3 _ _ e nb) nb)
      · rintro σ' H3 ⟨x5, x6, x7, x8, ts, rows, u', r', rfl, gD, hrows, hok, hlen, hu', PA3, kp3⟩
        exact hR _ _ ⟨_, _, _, _, ts, rows, u', r', rfl, gD, hrows, hok, hlen, by omega, PA3, kp3⟩
    obtain ⟨x5, x6, x7, x8, ts, rows, u', r', rfl, gD, hrows, hok, hlen, hu', PA3, kp3⟩ := h2
    exact ⟨_, rfl, k D ts rows u' r' H2 hD gD hrows hok hlen hu' PA3 kp3⟩
end
end Ld
namespace Ld
open PySem PySem.Spec PyProof.Rows L2
open TL
/-! ### loads of a dict, shown -/
def SameL (H H' : Hp) : Prop := ∀ b o, H b = some o → (∀ xs, o ≠ .lst xs) → H' b = some o
theorem sameL_upd {H : Hp} {L : Addr} {xs ys : List V} (h : H L = some (.lst xs)) : SameL H (upd H L (.lst ys)) := fun b o e n => by
  rw [upd_ne (fun q => by subst q; rw [h] at e; exact n xs (Option.some.inj e).symm)]
  exact e
theorem LoadAt.sameL {C : Addr} {H H' : Hp} {x : Addr} {ps : List (Str × Int)} (h : LoadAt C H x ps) (s : SameL H H') : LoadAt C H' x ps := by
  obtain ⟨dx, t, h1, h2, cn⟩ := h
  exact ⟨dx, t, s _ _ h1 (fun _ z => nomatch z), s _ _ h2 (fun _ z => nomatch z), cn⟩
def EntAt (R : Hp → Addr → List (Str × Int) → Prop) (H : Hp) (a : Addr) (L : List (Str × List (Str × Int))) : Prop := ∃ es : Ent, H a = some (.dK (eD es)) ∧ Paired (fun e l => e.1 = l.1 ∧ R H e.2 l.2) es L
theorem EntAt.keys {R : Hp → Addr → List (Str × Int) → Prop} {H : Hp} : ∀ {es : Ent} {L : List (Str × List (Str × Int))}, Paired (fun e l => e.1 = l.1 ∧ R H e.2 l.2) es L → es.map (·.1) = L.map (·.1)
  | _, _, .nil => rfl
  | _, _, .cons h t => by
    rw [List.map_cons, List.map_cons, EntAt.keys t, h.1]
theorem EntAt.imp {R R' : Hp → Addr → List (Str × Int) → Prop} {H H' : Hp} {a : Addr} {L : List (Str × List (Str × Int))} (h : EntAt R H a L) (s : ∀ kvs : List (Key × V), H a = some (.dK kvs) → H' a = some (.dK kvs)) (k : ∀ x ps, R H x ps → R' H' x ps) : EntAt R' H' a L := by
  obtain ⟨es, h1, h2⟩ := h
  exact ⟨es, s _ h1, Paired.mono (fun _ _ q => ⟨q.1, k _ _ q.2⟩) h2⟩
/-- what the entries tell -/
def sL (L : List (Str × List (Str × Int))) : StF := fun h z => ct (((L.find? fun l => decide (l.1 = h)).map (·.2)).getD []) z
theorem EntAt.stk {R : Hp → Addr → List (Str × Int) → Prop} {H : Hp} {a : Addr} {L : List (Str × List (Str × Int))} (h : EntAt R H a L) (nd : (L.map (·.1)).Nodup) (hL : ∀ l ∈ L, Can l.2 ∧ wordB l.1 = true) : StkG R H a L.length (sL L) := by
  obtain ⟨es, h1, h2⟩ := h
  have key : ∀ {es : Ent} {L : List (Str × List (Str × Int))}, Paired (fun e l => e.1 = l.1 ∧ R H e.2 l.2) es L → (L.map (·.1)).Nodup → (∀ e ∈ es, ∃ l ∈ L, e.1 = l.1 ∧ R H e.2 l.2 ∧ L.find? (fun x => decide (x.1 = l.1)) = some l) ∧ ∀ h, getE es h = none → L.find? (fun x => decide (x.1 = h)) = none := by
    intro es L p
    induction p with
    | nil => exact fun _ => ⟨(fun _ h => nomatch h), fun _ _ => rfl⟩
    | @cons e l es L hp t ih =>
      intro nd
      rw [List.map_cons, List.nodup_cons] at nd
      obtain ⟨i1, i2⟩ := ih nd.2
      refine ⟨fun e' he' => ?_, fun h g => ?_⟩
      · rcases List.mem_cons.mp he' with rfl | he'
        · exact ⟨l, List.mem_cons_self, hp.1, hp.2, by rw [List.find?_cons, decide_eq_true rfl]⟩
        · obtain ⟨l', hl', q1, q2, q3⟩ := i1 e' he'
          refine ⟨l', List.mem_cons_of_mem _ hl', q1, q2, ?_⟩
          have : ¬ l.1 = l'.1 := fun x => nd.1 (by rw [x]; exact List.mem_map_of_mem hl')
          rw [List.find?_cons, decide_eq_false this]
          exact q3
      · unfold getE at g
        rw [Option.map_eq_none_iff, List.find?_cons] at g
        by_cases q : e.1 = h
        · rw [decide_eq_true q] at g
          cases g
        · rw [decide_eq_false q] at g
          have q' : ¬ l.1 = h := fun x => q (hp.1.trans x)
          rw [List.find?_cons, decide_eq_false q']
          exact i2 h (by unfold getE; rw [Option.map_eq_none_iff]; exact g)
  obtain ⟨k1, k2⟩ := key h2 nd
  have hlen := Paired.length h2
  refine ⟨es, h1, by omega, by rw [EntAt.keys h2]; exact nd, fun e he => ?_, fun h g z => ?_⟩
  · obtain ⟨l, hl, q1, q2, q3⟩ := k1 e he
    refine ⟨l.2, q2, (hL l hl).1, fun z => ?_, by rw [q1]; exact (hL l hl).2⟩
    unfold sL
    rw [q1, q3]
    rfl
  · unfold sL
    rw [k2 h g]
    rfl
/-- entries of their own, listed -/
theorem EntU.list {N : List Addr} {W : List Str} {lo B : Int} {H : Hp} {a : Addr} {es : Ent} (u : EntU N W lo B H es) (ha : H a = some (.dK (eD es))) : ∃ L : List (Str × List (Str × Int)), EntAt (LdX N) H a L ∧ (L.map (·.1)).Nodup ∧ L.length = es.length ∧ ∀ l ∈ L, wordB l.1 = true ∧ Can l.2 ∧ ∀ q ∈ l.2, lo ≤ q.2 ∧ q.2 ≤ B ∧ q.1 ∈ W := by
  have key : ∀ {es : Ent}, (∀ e ∈ es, wordB e.1 = true ∧ ∃ ps, LdX N H e.2 ps ∧ Can ps ∧ ∀ q ∈ ps, lo ≤ q.2 ∧ q.2 ≤ B ∧ q.1 ∈ W) → ∃ L : List (Str × List (Str × Int)), Paired (fun e l => e.1 = l.1 ∧ LdX N H e.2 l.2) es L ∧ ∀ l ∈ L, wordB l.1 = true ∧ Can l.2 ∧ ∀ q ∈ l.2, lo ≤ q.2 ∧ q.2 ≤ B ∧ q.1 ∈ W := by
    intro es
    induction es with
    | nil => exact fun _ => ⟨[], .nil, fun _ h => nomatch h⟩
    | cons e r ih =>
      intro h
      obtain ⟨w, ps, q1, q2, q3⟩ := h e List.mem_cons_self
      obtain ⟨L, p, k⟩ := ih fun x hx => h x (List.mem_cons_of_mem _ hx)
      exact ⟨(e.1, ps) :: L, .cons ⟨rfl, q1⟩ p, fun l hl => by
        rcases List.mem_cons.mp hl with rfl | hl
        · exact ⟨w, q2, q3⟩
        · exact k l hl⟩
  obtain ⟨L, p, k⟩ := key u.all
  exact ⟨L, ⟨es, ha, p⟩, by rw [← EntAt.keys p]; exact u.nd1, (Paired.length p).symm, k⟩
theorem merge_eD : ∀ {es acc : Ent}, ((acc ++ es).map (·.1)).Nodup → mergeK (eD acc) (eD es) = eD (acc ++ es)
  | [], acc, _ => by rw [List.append_nil]; rfl
  | e :: r, acc, nd => by
    have hno : (acc.any fun x => decide (x.1 = e.1)) = false := by
      rw [List.any_eq_false]
      intro x hx he
      rw [List.map_append, List.nodup_append] at nd
      exact nd.2.2 _ (List.mem_map_of_mem hx) _ (List.mem_map_of_mem List.mem_cons_self) (of_decide_eq_true he)
    have hp : putE acc e.1 e.2 = acc ++ [e] := by
      unfold putE
      rw [if_neg (by rw [hno]; exact Bool.false_ne_true)]
    have e1 : mergeK (eD acc) (eD (e :: r)) = mergeK (putK (eD acc) (Sum.inr e.1) (.ref e.2)) (eD r) := rfl
    rw [e1, putK_eD, hp, merge_eD (by rw [List.append_assoc]; exact nd), List.append_assoc]
    rfl
theorem eD_cD {es : Ent} {ps : List (Str × Int)} (h : eD es = cD ps) : es = [] := by
  cases es with
  | nil => rfl
  | cons q r =>
    cases ps with
    | nil => cases h
    | cons q' r' =>
      unfold eD cD at h
      rw [List.map_cons, List.map_cons] at h
      injection h with b1 b2
      injection b1 with b3 b4
      cases b4
theorem tups_eD {K : PySem.W.Frag} {H : Hp} : ∀ {us : List Addr} {es : Ent}, Paired (fun u (e : Str × Addr) => H u = some (.tup [.str e.1, .ref e.2])) us es → Paired (fun p kv => SqT K H p [kV kv.1, kv.2]) us (eD es)
  | _, _, .nil => .nil
  | _, _, .cons h t => .cons (.inl (.inl h)) (tups_eD t)
abbrev nLod : List Str := ["_law_counts_by", "_law_key"]
abbrev nSho : List Str := ["_law_loads_here", "_law_key"]
theorem scLod : FnScope nLod ["_law_counts_by"] (defScope sLodL) := ⟨rfl, rfl, rfl, by decide +kernel, rfl, by decide +kernel, by decide +kernel⟩
theorem scSho : FnScope nSho ["_law_loads_here"] (defScope sShoL) := ⟨rfl, rfl, rfl, by decide +kernel, rfl, by decide +kernel, by decide +kernel⟩
def spLod (C : Addr) (N : List Addr) : Sp := fun vs H Q _ => ∃ (a : Addr) (L : List (Str × List (Str × Int))), vs = [.ref a] ∧ EntAt (LdX N) H a L ∧ (L.map (·.1)).Nodup ∧ L.length ≤ 100 ∧ (∀ l ∈ L, Can l.2) ∧
  ∀ (H' : Hp) (b : Addr), Same H H' → H b = none → EntAt (LoadAt C) H' b L → Q (.ref b) H'
def dPair (l : Str × List (Str × Int)) : PyData := .tuple [.str l.1, datD (cD l.2)]
def spSho (C : Addr) : Sp := fun vs H Q _ => ∃ (a : Addr) (L : List (Str × List (Str × Int))), vs = [.ref a] ∧ EntAt (LoadAt C) H a L ∧ (L.map (·.1)).Nodup ∧ L.length ≤ 100 ∧ (∀ l ∈ L, wordB l.1 = true ∧ l.2.length ≤ 10 ∧ ∀ q ∈ l.2, wordB q.1 = true ∧ q.2.natAbs < 10 ^ 100) ∧
  ∀ H', Same H H' → Q (.str (PyData.list (L.map dPair)).shown) H'
theorem shw_pair {l : Str × List (Str × Int)} (hg : wordB l.1 = true) (hp : ∀ p ∈ l.2, wordB p.1 = true ∧ p.2.natAbs < 10 ^ 100) (few : l.2.length ≤ 10) : Shw 5000 (dPair l) := by
  obtain ⟨c1, c2, c3⟩ := show_ct (k := 100) (by decide) (by decide) hp
  refine ⟨?_, ?_, ?_⟩
  · simp only [dPair, PyData.showable, PyData.showableAll]
    rw [c1]
    rfl
  · simp only [dPair, PyData.depth, PyData.depthAll]
    rw [c2]
    decide
  · simp only [dPair, PyData.shown, PyData.shownAll]
    refine Nat.le_trans (tupleText_len_le _) ?_
    have w1 := word_small hg
    simp only [List.map_cons, List.map_nil, List.sum_cons, List.sum_nil, List.length_cons, List.length_nil]
    have : l.2.length * (100 + 87) ≤ 10 * (100 + 87) := Nat.mul_le_mul_right _ few
    omega
theorem dget_eD {H : Hp} {a y : Addr} {es : Ent} {h : Str} (e : Rd H a (.dK (eD es))) (g : getE es h = some y) : DGet H a (.str h) (some (.ref y)) := by
  refine .inl ⟨eD es, Sum.inr h, e, rfl, ?_⟩
  rw [valV_eD, g]
  rfl
section
variable {P : Program} {w : World} {K : PySem.W.Frag} {mg : Str → Option Value} {base : Heap} {C fi : Addr}
theorem ok_lod {f : Addr} {fd : FuncData} {N : List Addr} (F : Fun K "_law_loads" "_law_loads" sLodL f fd) (B2 : Blt2 mg) (T : LoadC K mg C fi) (HO : HasC P w K mg base 5 C "of" (spOf C)) : FnOk P w K mg base CX0 6 f fd ["_law_counts_by"] (spLod C N) := by
  obtain ⟨mc, po, go, rO, cO, FO⟩ := HO
  refine F.ok scLod (fun vs H Q E h => ?_) (fun cdv A outer s H vs Q E hr h => ?_)
  · obtain ⟨a, L, rfl, _⟩ := h
    rfl
  · obtain ⟨a, L, rfl, ⟨es, ha, hp⟩, hnd, hlen, hL, k⟩ := h
    have hr5 : Room 5 _ := hr
    have hu := hu_of hr
    have nd : nLod.Nodup := scLod.nd
    have hel := Paired.length hp
    have hek : (es.map (·.1)).Nodup := by rw [EntAt.keys hp]; exact hnd
    refine ⟨_, pss_one (ps_ret (pe_callTy (call_dictP rfl) (by rfl) B2.dict bDict (pa_cons (pe_lock (pe_lc (own := [("_law_key", 1)]) (g := gName 1) (tt := tYes) rfl nd (pi_keys (pv 0)) (blkOk_by (N := nLod) (sc := defScope sLodL) (by decide +kernel)) (fun _ _ _ _ _ => pg_name (i := 1) nd rfl (Or.inl rfl)) (fun _ _ _ _ _ => pts_nil) (fun _ _ _ _ _ => (pe_tup (pa_cons (pv 1) (pa_cons (ClX.pe_cmeth (pe_glob (v := .ref C) (by rfl) T.gC rfl) rO cO FO hr5 pass0 (pa_cons (pe_dget hu (pv 0) (pv 1) (fun _ _ => rfl)) pa_nil)) pa_nil)))))) pa_nil))), ?_⟩
    refine ⟨a, _, ha, trivial, fun od => ⟨_, rfl, a, od, rfl, .inl ⟨eD es, upd_same, fun D hD => ?_⟩⟩⟩
    have nDa : D ≠ a := fun x => by rw [x, upd_same] at hD; cases hD
    have hed : (eD es).length = es.length := by unfold eD; exact List.length_map ..
    refine lc_it (walk_keys (d := a) (o := od) (kvs := eD es)) (fun j H' => ∃ (us : List Addr) (es' : Ent), Same (upd H a (.frz od (.dK (eD es)))) H' ∧ H' D = some (.lst (us.map V.ref)) ∧ Paired (fun u e => H' u = some (.tup [.str e.1, .ref e.2])) us es' ∧ Paired (fun e l => e.1 = l.1 ∧ LoadAt C H' e.2 l.2) es' (L.take j))
      ⟨[], [], same_new hD, upd_same, .nil, .nil⟩ (fun j H' _ ⟨_, _, h, _⟩ => h _ _ upd_same) ?_ ?_
    · rintro j x H5 H6 hj ⟨us, es', same, eDD, hus, hes⟩ ⟨rfl, kk, v, hx, rfl⟩
      rw [hed] at hj
      have hx2 : (eD es)[j]? = some (Sum.inr es[j].1, V.ref es[j].2) := by
        unfold eD
        rw [List.getElem?_map, List.getElem?_eq_getElem hj]
        rfl
      rw [hx2] at hx
      cases hx
      have hlj : L[j]? = some (L[j]'(by omega)) := List.getElem?_eq_getElem (by omega)
      obtain ⟨q1, q2⟩ := Paired.nth hp (List.getElem?_eq_getElem hj) hlj
      have hcan := hL _ (List.getElem_mem (by omega : j < L.length))
      have hge := getE_of_mem hek (List.getElem_mem hj)
      have rd : Rd H6 a (.dK (eD es)) := .inr ⟨od, same _ _ upd_same⟩
      have nxa : es[j].2 ≠ a := fun x => by
        have h9 := q2.2
        rw [x, ha] at h9
        have h10 : eD es = cD L[j].2 := by injection h9 with h9; injection h9
        have := eD_cD h10
        rw [this] at hj
        exact absurd hj (Nat.not_lt_zero _)
      have hx6 : H6 es[j].2 = some (.dK (cD L[j].2)) := same _ _ (by rw [upd_ne nxa]; exact q2.2)
      refine ⟨rfl, _, rfl, rfl, _, rfl, _, rfl, a, _, rfl, dget_eD rd hge, .ref C, es[j].2, L[j].2, rfl, ⟨hx6, hcan.nd, hcan.few, hcan.wd⟩, fun H8 x ps' s8 hx0 hLd hC => ⟨by show 2 ≤ sizeLine; decide, fun T1 hT => ?_⟩⟩
      have ec : ps' = L[j].2 := by
        obtain ⟨_, _, _, _, cn⟩ := id hLd
        exact can_eq cn hcan hC
      subst ec
      have a2 := same_new (o := .tup [.str es[j].1, .ref x]) hT
      have a12 := s8.trans a2
      have eD9 := a12 _ _ eDD
      have nTD : T1 ≠ D := (ne_of_none (s8 _ _ eDD) hT).symm
      have sLL := sameL_upd (ys := us.map V.ref ++ [V.ref T1]) eD9
      refine ⟨_, eD9, ?_, us ++ [T1], es' ++ [(es[j].1, x)], ?_, ?_, ?_, ?_⟩
      · have h1 := Paired.length hus
        have h2 := Paired.length hes
        rw [List.length_map, h1, h2, List.length_take]
        exact Nat.lt_of_le_of_lt (by omega : _ ≤ 100) (by decide)
      · intro b o eb
        rw [upd_ne (ne_of_none eb hD)]
        exact a12 _ _ (same _ _ eb)
      · rw [upd_same, List.map_append]
        rfl
      · refine .snoc (Paired.mono (fun t e h => ?_) hus) ?_
        · exact sLL _ _ (a12 _ _ h) (fun _ z => nomatch z)
        · rw [upd_ne nTD, upd_same]
          rfl
      · rw [List.take_succ, hlj]
        refine .snoc (Paired.mono (fun e l h => ⟨h.1, (h.2.same a12).sameL sLL⟩) hes) ⟨q1, (hLd.same a2).sameL sLL⟩
    · rintro H5 ⟨us, es', same, eDD, hus, hes⟩
      rw [hed, hel, List.take_length] at hes
      have fz := same _ _ (upd_same (H := H) (a := a) (o := .frz od (.dK (eD es))))
      have f2 : Same H (upd H5 a (.dK (eD es))) := fun b o e => by
        by_cases eb : b = a
        · rw [eb, upd_same, ← ha, ← eb, e]
        · rw [upd_ne eb]
          exact same _ _ (by rw [upd_ne eb]; exact e)
      have kq : ∀ {t : Addr} {o : HO}, H5 t = some o → (∀ v, o ≠ .frz od v) → (upd H5 a (.dK (eD es))) t = some o := fun {t o} h ho => by
        rw [upd_ne (fun x => by rw [x, fz] at h; exact ho _ (Option.some.inj h).symm)]
        exact h
      have hek' : (es'.map (·.1)).Nodup := by rw [EntAt.keys hes]; exact hnd
      refine ⟨fz, D, us, eD es', rfl, .inl (.inl (by rw [upd_ne nDa]; exact eDD)), tups_eD (Paired.mono (fun u (e : Str × Addr) (h : H5 u = some (.tup [.str e.1, .ref e.2])) => kq h (fun v z => nomatch z)) hus), fun q hq => ?_⟩
      have em : mergeK [] (eD es') = eD es' := by
        have := merge_eD (es := es') (acc := []) (by rw [List.nil_append]; exact hek')
        rw [List.nil_append] at this
        exact this
      rw [em]
      refine k _ q (f2.trans (same_new hq)) (Same.none f2 hq) ⟨es', upd_same, Paired.mono (fun e l h => ⟨h.1, ?_⟩) hes⟩
      obtain ⟨dx, t, r1, r2, r3⟩ := h.2
      exact LoadAt.same ⟨dx, t, kq r1 (fun v z => nomatch z), kq r2 (fun v z => nomatch z), r3⟩ (same_new hq)
theorem ok_sho {f : Addr} {fd : FuncData} (F : Fun K "_law_shown" "_law_shown" sShoL f fd) (B3 : Blt3 mg) (T : LoadC K mg C fi) (HC : HasP P w K mg base 1 C "counts" (spCounts C)) : FnG P w K mg base 3 f fd ["_law_loads_here"] (spSho C) := by
  obtain ⟨pc, gc, dc, pC, FC, bC⟩ := HC
  refine FnG.of F scSho (fun vs H Q E h => ?_) (fun cdv A outer s H vs Q hr hgd h => ?_)
  · obtain ⟨a, L, rfl, _⟩ := h
    rfl
  · obtain ⟨a, L, rfl, ⟨es, ha, hp⟩, hnd, hlen, hL, k⟩ := h
    have hek : (es.map (·.1)).Nodup := by rw [EntAt.keys hp]; exact hnd
    have hr2 : Room 2 _ := hr
    have hu := hu_of hr
    have hu64 := hr.units
    have nd : nSho.Nodup := scSho.nd
    have hel := Paired.length hp
    refine ⟨_, pss_one (ps_ret (pe_callB (call_reprL2 hgd hu64) (by rfl) B3.repr bRepr (pa_cons (pe_lock (pe_lc (own := [("_law_key", 1)]) (g := gName 1) (tt := tYes) rfl nd (pi_keys (pv 0)) (blkOk_by (N := nSho) (sc := defScope sShoL) (by decide +kernel)) (fun _ _ _ _ _ => pg_name (i := 1) nd rfl (Or.inl rfl)) (fun _ _ _ _ _ => pts_nil) (fun _ _ _ _ _ => (pe_tup (pa_cons (pv 1) (pa_cons (pe_prop (pe_dget hu (pv 0) (pv 1) (fun _ _ => rfl)) T.c pC FC hr2 bC .nil pass0 rfl) pa_nil)))))) pa_nil))), ?_⟩
    refine ⟨a, _, ha, trivial, fun od => ⟨_, rfl, a, od, rfl, .inl ⟨eD es, upd_same, fun D hD => ?_⟩⟩⟩
    have nDa : D ≠ a := fun x => by rw [x, upd_same] at hD; cases hD
    have hed : (eD es).length = es.length := by unfold eD; exact List.length_map ..
    refine lc_it (walk_keys (d := a) (o := od) (kvs := eD es)) (fun j H' => ∃ us : List Addr, Same (upd H a (.frz od (.dK (eD es)))) H' ∧ H' D = some (.lst (us.map V.ref)) ∧ Paired (fun u l => ∃ e, H' u = some (.tup [.str l.1, .ref e]) ∧ H' e = some (.dK (cD l.2))) us (L.take j))
      ⟨[], same_new hD, upd_same, .nil⟩ (fun j H' _ ⟨_, h, _⟩ => h _ _ upd_same) ?_ ?_
    · rintro j x H5 H6 hj ⟨us, same, eDD, hus⟩ ⟨rfl, kk, v, hx, rfl⟩
      rw [hed] at hj
      have hx2 : (eD es)[j]? = some (Sum.inr es[j].1, V.ref es[j].2) := by
        unfold eD
        rw [List.getElem?_map, List.getElem?_eq_getElem hj]
        rfl
      rw [hx2] at hx
      cases hx
      have hlj : L[j]? = some (L[j]'(by omega)) := List.getElem?_eq_getElem (by omega)
      obtain ⟨q1, dx, tx, r1, r2, r3⟩ := Paired.nth hp (List.getElem?_eq_getElem hj) hlj
      have rd : Rd H6 a (.dK (eD es)) := .inr ⟨od, same _ _ upd_same⟩
      have nxa : es[j].2 ≠ a := ne_of r1 ha fun z => nomatch z
      have nta : tx ≠ a := fun x => by
        rw [x, ha] at r2
        have h10 : eD es = cD L[j].2 := by injection r2 with r2; injection r2
        have := eD_cD h10
        rw [this] at hj
        exact absurd hj (Nat.not_lt_zero _)
      have l1 := same _ _ (by rw [upd_ne nxa]; exact r1)
      have l2 := same _ _ (by rw [upd_ne nta]; exact r2)
      have hge : DGet H6 a (.str es[j].1) (some (.ref es[j].2)) := dget_eD rd (getE_of_mem hek (List.getElem_mem hj))
      refine ⟨rfl, _, rfl, _, rfl, _, rfl, a, _, rfl, hge, es[j].2, dx, _, rfl, l1, es[j].2, L[j].2, rfl, ⟨dx, tx, l1, l2, r3⟩, fun E1 hE1 => ⟨by show 2 ≤ sizeLine; decide, fun T1 hT => ?_⟩⟩
      have a1 := same_new (o := .dK (cD L[j].2)) hE1
      have a2 := same_new (o := .tup [.str es[j].1, .ref E1]) hT
      have a12 := a1.trans a2
      have eD9 := a12 _ _ eDD
      have nTD : T1 ≠ D := (ne_of_none (a1 _ _ eDD) hT).symm
      have nED : E1 ≠ D := (ne_of_none eDD hE1).symm
      have nET : E1 ≠ T1 := ne_of_none (upd_same (H := H6) (a := E1) (o := .dK (cD L[j].2))) hT
      have sLL := sameL_upd (ys := us.map V.ref ++ [V.ref T1]) eD9
      refine ⟨_, eD9, ?_, us ++ [T1], ?_, ?_, ?_⟩
      · have h1 := Paired.length hus
        rw [List.length_map, h1, List.length_take]
        exact Nat.lt_of_le_of_lt (by omega : _ ≤ 100) (by decide)
      · intro b o eb
        rw [upd_ne (ne_of_none eb hD)]
        exact a12 _ _ (same _ _ eb)
      · rw [upd_same, List.map_append]
        rfl
      · rw [List.take_succ, hlj]
        refine .snoc (Paired.mono (fun t l h => ?_) hus) ⟨E1, ?_, ?_⟩
        · obtain ⟨e, h1, h2⟩ := h
          exact ⟨e, sLL _ _ (a12 _ _ h1) (fun _ z => nomatch z), sLL _ _ (a12 _ _ h2) (fun _ z => nomatch z)⟩
        · rw [upd_ne nTD, upd_same, q1]
          rfl
        · rw [upd_ne nED, upd_ne nET, upd_same]
    · rintro H5 ⟨us, same, eDD, hus⟩
      rw [hed, hel, List.take_length] at hus
      have fz := same _ _ (upd_same (H := H) (a := a) (o := .frz od (.dK (eD es))))
      have f2 : Same H (upd H5 a (.dK (eD es))) := fun b o e => by
        by_cases eb : b = a
        · rw [eb, upd_same, ← ha, ← eb, e]
        · rw [upd_ne eb]
          exact same _ _ (by rw [upd_ne eb]; exact e)
      have kq : ∀ {t : Addr} {o : HO}, H5 t = some o → (∀ v, o ≠ .frz od v) → (upd H5 a (.dK (eD es))) t = some o := fun {t o} h ho => by
        rw [upd_ne (fun x => by rw [x, fz] at h; exact ho _ (Option.some.inj h).symm)]
        exact h
      have its : ∀ {us : List Addr} {L : List (Str × List (Str × Int))}, Paired (fun u (l : Str × List (Str × Int)) => ∃ e, H5 u = some (.tup [.str l.1, .ref e]) ∧ H5 e = some (.dK (cD l.2))) us L → Paired (ItR2 (upd H5 a (.dK (eD es)))) (us.map V.ref) (L.map dPair) := by
        intro us L p
        induction p with
        | nil => exact .nil
        | cons h _ ih =>
          obtain ⟨e, h1, h2⟩ := h
          exact .cons (.inr ⟨_, _, _, rfl, kq h1 (fun v z => nomatch z), .cons (.inl ⟨rfl, rfl⟩) (.cons (.inr ⟨e, _, rfl, kq h2 (fun v z => nomatch z), scalar_cD _, rfl⟩) .nil), rfl⟩) ih
      obtain ⟨sh1, sh2, sh3⟩ := shw_list (b := 5000) (ds := L.map dPair) (fun d hd => by
        obtain ⟨l, hl, rfl⟩ := List.mem_map.mp hd
        obtain ⟨w1, w2, w3⟩ := hL l hl
        exact shw_pair w1 w3 w2) (by
        rw [List.length_map]
        have hs : sizeLine = 16777216 := sizeLine_eq
        have : L.length * (5000 + 2) ≤ 100 * (5000 + 2) := Nat.mul_le_mul_right _ hlen
        omega)
      exact ⟨fz, D, us.map V.ref, L.map dPair, rfl, .inl (.inl (by rw [upd_ne nDa]; exact eDD)), its hus, sh1, sh2, sh3, k _ f2⟩
end
end Ld
namespace Ld
open PySem PySem.Spec PyProof.Rows L2
open TL
open LamX
/-! ### a call of a lambda, its TooMany caught -/
abbrev nRef : List Str := ["_law_call", "e"]
theorem scRef : FnScope nRef ["_law_call"] (defScope sRefL) := ⟨rfl, rfl, rfl, by decide +kernel, rfl, by decide +kernel, by decide +kernel⟩
/-- isinstance(e, c), e the exception that the suite holds, with fields -/
def rIsEd (K : PySem.W.Frag) (D a : Addr) (cls : Value) (d : Option Addr) : List V → Hp → VK → Prop := fun xs H Q => ∃ (c : V) (cv : Value) (b : Bool) (dd : Addr) (fs : List (Str × V)), xs = [.ref a, c] ∧ cls = .ref D ∧ d = some dd ∧ H dd = some (.xd fs) ∧ ClsV c cv ∧ PySem.W.kitOne K (.ref D) cv = some b ∧ Q (.bl b) H
theorem call_isEd {X : Cx} {a D : Addr} {oe : Obj} {cls : Value} {d : Option Addr} {pn : List (Addr × Obj)} (C : ExcC X.K D) (hz : Zc cls d oe) (hf : ∃ vs, oe.data = .fields vs) : CallR (X.suite a ((a, oe) :: pn)) (.builtin "isinstance") (rIsEd X.K D a cls d) := by
  intro pins s σ H xs us Q I r h
  obtain ⟨c, cv, b, dd, fs, rfl, ec, ed, hdd, hcv, e, q⟩ := h
  subst ec
  subst ed
  obtain ⟨u1, u2, rfl, r1, r2⟩ := vals2 r
  obtain rfl : u1 = Value.ref a := r1
  have e2 := hcv.eq r2
  subst e2
  obtain ⟨hget, _⟩ := I.pin (a, oe) (List.mem_append.mpr (.inl List.mem_cons_self))
  obtain ⟨vs, hv⟩ := hf
  have hx : ObjOk X.prog X.w H s.heap dd (.xd fs) := I.hok dd _ hdd
  obtain ⟨mA, hns, _⟩ := hx
  obtain ⟨od, ho, _⟩ := lookIn_ns hns
  have J : PySem.W.InstAt s.heap a oe D (some od) := ⟨hget, hz.1, by unfold PySem.W.notCls; rw [hv] <;> rfl, by rw [hz.2]; exact ho⟩
  exact PySem.W.kia_one (PySem.CrX.kitx_excO (od := some od) C.hg C.hk C.hs C.hd C.ha C.hn C.ht C.hm) I.kIn J e (fun z => nomatch z) fun tk => ⟨.bl b, H, I.kept (t' := tk) fun _ _ z => z, rfl, q⟩
/-- what of the text the caught error's class must have -/
structure XCat (K : PySem.W.Frag) (CT : Addr) : Prop where
  ex : ExcC K CT
  xf : XfC K CT
  no : PySem.W.findIn K (.ref CT) "most" = some none
  me : PySem.W.exmOne K (.ref CT) (.ref CT) = some true
  ve : PySem.W.kitOne K (.ref CT) (.type "OverflowError") = some true
def TRefX (CT : Addr) : (XK → Hp → VK → Prop) → Hp → VK → Prop := fun tl H Q =>
  tl (fun cls d H' => cls = .ref CT ∧ ∃ (dd : Addr) (v : V), d = some dd ∧ H' dd = some (.xd [("most", v)]) ∧ Q v H') H (fun x H1 => Q .non H1)
theorem bOE : bootBuiltins "OverflowError" = some (.type "OverflowError") := by decide +kernel
theorem ref_gives {X : Cx} {CT g : Addr} {cdg : Value} {q : Str} (XC : XCat X.K CT) (mI : X.mg "TooMany" = some (.ref CT)) (mIsi : X.mg "isinstance" = none) (mOE : X.mg "OverflowError" = none) :
    GivesTo X nRef "_law_refused" (defScope sRefL) g cdg (defBody sRefL) "_law_call" q (TRefX CT) := by
  intro f c' s H Q tl act hc h
  have nd : nRef.Nodup := scRef.nd
  refine ⟨_, pss_cons (ps_try_as (X := (cxOf C8.CX0 X.prog X.w X.K X.mg X.base nRef "_law_refused" (defScope sRefL) g cdg X.A X.stack s H C8.E0).nox) (c := .ref CT) (i := 1)
      (tb := fun W D σ H => ∃ Ech : XK, (∀ cls d (σ' : L2.St) H', Ech cls d H' → σ'.length = 2 → W cls d σ' H') ∧ σ[0]? = some (some (.ref f)) ∧ H c' = some (CodeO c' q) ∧ tl Ech H (fun _ H' => D.nx σ H'))
      rfl rfl nd rfl rfl ⟨by rfl, by decide, .inl mI⟩ LamX.takes0 (fun W pn xe tk _ => ?_) (fun a oe cls d pn hz hf => pss_one (ps_ret (pe_ifExp (pt_val (pe_callB (call_isEd XC.ex hz hf) (by rfl) mIsi bIsi (pa_cons (pv 1) (pa_cons (pe_bltn (v := .ty "OverflowError") (by rfl) mOE bOE rfl) pa_nil)))) (pe_xf XC.xf XC.no hz hf (pv 1)) pe_str))))
      (pss_one (ps_ret pe_non)), ?_⟩
  · refine ⟨fun pins s' σ H' D I h' => ?_⟩
    obtain ⟨Ech, hW, h1, h2, h3⟩ := h'
    have tk2 : Takes ((cxOf C8.CX0 X.prog X.w X.K X.mg X.base nRef "_law_refused" (defScope sRefL) g cdg X.A X.stack s H C8.E0).tr pn xe) (fun cls d σ' H' => σ'.length = 2 → W cls d σ' H') := fun u s1 ⟨a, B, sI, pins1, σ1, H2, cls, d, e1, I1, nb, up, sky, na, os, ag, w⟩ =>
      tk u s1 ⟨a, B, sI, pins1, σ1, H2, cls, d, e1, I1, nb, up, sky, na, os, ag, w I1.len⟩
    refine PSs.run (t := tDrop (fun σZ HZ Q => σZ[0]? = some (some (.ref f)) ∧ HZ c' = some (CodeO c' q) ∧ tl Ech HZ Q)) ?_ pins s' σ H' D I ⟨h1, h2, h3⟩
    exact pss_one (ps_expr (act _ pn xe Ech _ _ tk2 fun cls d σ' H' hE hl => hW cls d σ' H' hE hl))
  · refine ⟨fun cls d H' => cls = .ref CT ∧ ∃ (dd : Addr) (v : V), d = some dd ∧ H' dd = some (.xd [("most", v)]) ∧ Q v H', fun cls d σ' H' hE hl => ?_, rfl, hc, ?_⟩
    · obtain ⟨rfl, dd, v, rfl, hdd, hq⟩ := hE
      refine ⟨true, XC.me, fun _ a ha => ?_, fun z => nomatch z⟩
      have h1 : (σ'.set 1 (some (V.ref a)))[1]? = some (some (V.ref a)) := by
        rw [List.getElem?_set_self]
        omega
      exact ⟨_, h1, .ty "OverflowError", _, true, dd, [("most", v)], rfl, rfl, rfl, hdd, .ty _, XC.ve, true, rfl, iteT ⟨_, h1, rfl, rfl, dd, [("most", v)], v, rfl, hdd, rfl, hq⟩⟩
    · exact h
end Ld
namespace Ld
open PySem PySem.Spec PyProof.Rows L2
open TL
/-! ### nine drives along a line -/
def lineN (ws : List Str) (k : Nat) : Str := ws.getD k (⟨#[]⟩ : Str)
def lineR (ws : List Str) (c : List (Str × Int)) (k : Nat) : Row := (lineN ws k, lineN ws (k + 1), c)
def sg (ws : List Str) (c : List (Str × Int)) (j : Nat) : StF := fun h z => if h = lineN ws j then ct c z else 0
theorem lineN_inj {ws : List Str} (hl : ws.length = 10) (nd : ws.Nodup) {j k : Nat} (hj : j < 10) (hk : k < 10) (e : lineN ws j = lineN ws k) : j = k := by
  unfold lineN at e
  rw [List.getD_eq_getElem?_getD, List.getD_eq_getElem?_getD, List.getElem?_eq_getElem (by omega), List.getElem?_eq_getElem (by omega)] at e
  exact (List.getElem_inj nd).mp e
theorem sg_app {ws : List Str} {c : List (Str × Int)} {j : Nat} (ne : lineN ws (j + 1) ≠ lineN ws j) : app (sg ws c j) (lineR ws c j) = sg ws c (j + 1) := by
  funext h z
  show (if h = lineN ws j then ct c z else 0) + ((if h = lineN ws (j + 1) then ct c z else 0) - (if h = lineN ws j then ct c z else 0)) = (if h = lineN ws (j + 1) then ct c z else 0)
  omega
theorem sg_can {ws : List Str} {kd : Str} {n : Int} {j k : Nat} (hn : 1 ≤ n) (hl : ws.length = 10) (nd : ws.Nodup) (hj : j < 10) (hk : k < 9) : canB (sg ws [(kd, n)] j) (lineR ws [(kd, n)] k) = decide (k = j) := by
  have hc : ct [(kd, n)] kd = n := ct_mem (ps := [(kd, n)]) (p := (kd, n)) (by
    show ([kd] : List Str).Nodup
    exact List.nodup_cons.mpr ⟨List.not_mem_nil, List.nodup_nil⟩) List.mem_cons_self
  show ((decide (n ≤ if lineN ws k = lineN ws j then ct [(kd, n)] kd else 0) && decide (-n ≤ if lineN ws (k + 1) = lineN ws j then ct [(kd, n)] kd else 0)) && true) = _
  rw [hc, Bool.and_true]
  have h2 : decide (-n ≤ if lineN ws (k + 1) = lineN ws j then n else 0) = true := decide_eq_true (by split <;> omega)
  rw [h2, Bool.and_true]
  by_cases e : k = j
  · rw [e, if_pos rfl, decide_eq_true (Int.le_refl n), decide_eq_true rfl]
  · have : ¬ lineN ws k = lineN ws j := fun x => e (lineN_inj hl nd (by omega) hj x)
    rw [if_neg this, decide_eq_false e, decide_eq_false (by omega)]
theorem find_one {α β : Type} {g : α → Option β} {a : α} {b : β} : ∀ {l : List α}, a ∈ l → (∀ x ∈ l, x ≠ a → g x = none) → g a = some b → l.findSome? g = some b
  | [], h, _, _ => nomatch h
  | x :: r, h, hn, ha => by
    rw [List.findSome?_cons]
    by_cases e : x = a
    · rw [e, ha]
    · rw [hn x List.mem_cons_self e]
      rcases List.mem_cons.mp h with h | h
      · exact absurd h.symm e
      · exact find_one h (fun y hy => hn y (List.mem_cons_of_mem _ hy)) ha
section
variable {ws : List Str} {kd : Str} {n : Int} {spots : List Nat}
theorem pos_row {ws : List Str} {c : List (Str × Int)} {k : Nat} (hp : spots.Perm (List.range 9)) (hk : k < 9) : rowN (spots.map (lineR ws c)) (spots.idxOf k) = lineR ws c k := by
  have hm : k ∈ spots := hp.mem_iff.mpr (List.mem_range.mpr hk)
  have hi := List.idxOf_lt_length_iff.mpr hm
  unfold rowN
  rw [List.getD_eq_getElem?_getD, List.getElem?_map, List.getElem?_eq_getElem hi, List.getElem_idxOf]
  rfl
theorem pos_inj {j k : Nat} (hp : spots.Perm (List.range 9)) (hj : j < 9) (hk : k < 9) (e : spots.idxOf j = spots.idxOf k) : j = k := by
  have hm : j ∈ spots := hp.mem_iff.mpr (List.mem_range.mpr hj)
  have hm2 : k ∈ spots := hp.mem_iff.mpr (List.mem_range.mpr hk)
  have h1 := List.getElem_idxOf (List.idxOf_lt_length_iff.mpr hm)
  have h2 := List.getElem_idxOf (List.idxOf_lt_length_iff.mpr hm2)
  rw [← h1, ← h2]
  congr 1
theorem line_some (hn : 1 ≤ n) (hl : ws.length = 10) (nd : ws.Nodup) (hp : spots.Perm (List.range 9)) : ∀ (m j : Nat) (left : List Nat), j + m = 9 → left.length = m → left.Nodup → (∀ k, j ≤ k → k < 9 → spots.idxOf k ∈ left) → (∀ i ∈ left, ∃ k, j ≤ k ∧ k < 9 ∧ i = spots.idxOf k) →
    dfs (spots.map (lineR ws [(kd, n)])) m left (sg ws [(kd, n)] j) = some ((List.range' j m).map fun k => spots.idxOf k)
  | 0, j, left, _, _, _, _, _ => rfl
  | m + 1, j, left, hj, hlen, hnd, hin, hall => by
    have hj9 : j < 9 := by omega
    have hm := hin j (Nat.le_refl _) hj9
    rw [dfs_succ]
    have hrow := pos_row (ws := ws) (c := [(kd, n)]) hp hj9
    have ht : turnF (spots.map (lineR ws [(kd, n)])) m left (sg ws [(kd, n)] j) (spots.idxOf j) = some ((List.range' j (m + 1)).map fun k => spots.idxOf k) := by
      unfold turnF
      rw [hrow, sg_can hn hl nd (by omega) hj9, decide_eq_true rfl, if_pos rfl, sg_app (fun e => by
        have := lineN_inj hl nd (by omega) (by omega) e
        omega)]
      have hfl := filter_ne_len hnd hm
      rw [line_some hn hl nd hp m (j + 1) _ (by omega) (by omega) (List.Nodup.sublist List.filter_sublist hnd) (fun k h1 h2 => List.mem_filter.mpr ⟨hin k (by omega) h2, by
        rw [bne_iff_ne]
        intro e
        have := pos_inj hp h2 hj9 e
        omega⟩) (fun i hi => by
        obtain ⟨h1, h2⟩ := List.mem_filter.mp hi
        obtain ⟨k, k1, k2, rfl⟩ := hall i h1
        refine ⟨k, ?_, k2, rfl⟩
        rw [bne_iff_ne] at h2
        have : k ≠ j := fun e => h2 (by rw [e])
        omega)]
      rfl
    refine find_one hm (fun i hi hne => ?_) ht
    obtain ⟨k, k1, k2, rfl⟩ := hall i hi
    unfold turnF
    have : ¬ k = j := fun e => hne (by rw [e])
    rw [pos_row hp k2, sg_can hn hl nd (by omega) k2, decide_eq_false this]
    rfl
theorem line_none (hn : 1 ≤ n) (hl : ws.length = 10) (nd : ws.Nodup) (hp : spots.Perm (List.range 9)) : ∀ (m j : Nat) (left : List Nat), 1 ≤ j → j + m = 10 → left.length = m → left.Nodup → spots.idxOf 0 ∈ left → (∀ i ∈ left, i = spots.idxOf 0 ∨ ∃ k, j ≤ k ∧ k < 9 ∧ i = spots.idxOf k) →
    dfs (spots.map (lineR ws [(kd, n)])) m left (sg ws [(kd, n)] j) = none
  | 0, j, left, _, _, hlen, _, h0, _ => by
    have : left = [] := List.length_eq_zero_iff.mp hlen
    rw [this] at h0
    exact nomatch h0
  | m + 1, j, left, h1, hj, hlen, hnd, h0, hall => by
    rw [dfs_succ, List.findSome?_eq_none_iff]
    intro i hi
    unfold turnF
    rcases hall i hi with rfl | ⟨k, k1, k2, rfl⟩
    · rw [pos_row hp (by decide : 0 < 9), sg_can hn hl nd (by omega) (by decide), decide_eq_false (by omega : ¬ 0 = j)]
      rfl
    · rw [pos_row hp k2, sg_can hn hl nd (by omega) k2]
      by_cases e : k = j
      · subst e
        rw [decide_eq_true rfl, if_pos rfl, sg_app (fun e => by
          have := lineN_inj hl nd (by omega) (by omega) e
          omega)]
        have hfl := filter_ne_len hnd hi
        have hne : spots.idxOf 0 ≠ spots.idxOf k := fun e => by
          have := pos_inj hp (by decide) k2 e
          omega
        rw [line_none hn hl nd hp m (k + 1) _ (by omega) (by omega) (by omega) (List.Nodup.sublist List.filter_sublist hnd) (List.mem_filter.mpr ⟨h0, by rw [bne_iff_ne]; exact hne⟩) (fun i hi => by
          obtain ⟨q1, q2⟩ := List.mem_filter.mp hi
          rw [bne_iff_ne] at q2
          rcases hall i q1 with h | ⟨k', k3, k4, rfl⟩
          · exact .inl h
          · refine .inr ⟨k', ?_, k4, rfl⟩
            have : k' ≠ k := fun e => q2 (by rw [e])
            omega)]
        rfl
      · rw [decide_eq_false e]
        rfl
theorem range_pos (hp : spots.Perm (List.range 9)) {i : Nat} (hi : i < 9) : ∃ k, k < 9 ∧ i = spots.idxOf k := by
  have hlen : spots.length = 9 := by rw [hp.length_eq, List.length_range]
  have hi' : i < spots.length := by omega
  have nds : spots.Nodup := hp.nodup_iff.mpr List.nodup_range
  refine ⟨spots[i], List.mem_range.mp (hp.mem_iff.mp (List.getElem_mem hi')), ?_⟩
  rw [List.Nodup.idxOf_getElem nds]
theorem line_first (hn : 1 ≤ n) (hl : ws.length = 10) (nd : ws.Nodup) (hp : spots.Perm (List.range 9)) : dfs (spots.map (lineR ws [(kd, n)])) 9 (List.range 9) (sg ws [(kd, n)] 0) = some ((List.range 9).map fun k => spots.idxOf k) := by
  have hlen : spots.length = 9 := by rw [hp.length_eq, List.length_range]
  rw [line_some hn hl nd hp 9 0 (List.range 9) rfl (by simp) List.nodup_range (fun k _ h => List.mem_range.mpr (by
    have := List.idxOf_lt_length_iff.mpr (hp.mem_iff.mpr (List.mem_range.mpr h))
    omega)) (fun i hi => by
    obtain ⟨k, h1, h2⟩ := range_pos hp (List.mem_range.mp hi)
    exact ⟨k, Nat.zero_le _, h1, h2⟩)]
  rw [List.range_eq_range']
theorem line_second (hn : 1 ≤ n) (hl : ws.length = 10) (nd : ws.Nodup) (hp : spots.Perm (List.range 9)) : dfs (spots.map (lineR ws [(kd, n)])) 9 (List.range 9) (sg ws [(kd, n)] 1) = none := by
  have hlen : spots.length = 9 := by rw [hp.length_eq, List.length_range]
  refine line_none hn hl nd hp 9 1 (List.range 9) (by decide) rfl (by simp) List.nodup_range (List.mem_range.mpr ?_) (fun i hi => ?_)
  · have := List.idxOf_lt_length_iff.mpr (hp.mem_iff.mpr (List.mem_range.mpr (by decide : 0 < 9)))
    omega
  · obtain ⟨k, h1, h2⟩ := range_pos hp (List.mem_range.mp hi)
    by_cases e : k = 0
    · exact .inl (by rw [h2, e])
    · exact .inr ⟨k, by omega, h1, h2⟩
end
end Ld
namespace Ld
open PySem PySem.Spec PyProof.Rows L2
open TL
/-! ### the law's own line -/
theorem can1 {kd : Str} {n : Int} (hk : wordB kd = true) (hn : 1 ≤ n) : Can [(kd, n)] := by
  refine ⟨?_, rfl, fun p hp => ?_, fun p hp => ?_, by show 1 ≤ 1000; decide⟩
  · show ([kd] : List Str).Nodup
    exact List.nodup_cons.mpr ⟨List.not_mem_nil, List.nodup_nil⟩
  · rw [List.mem_singleton.mp hp]
    show n ≠ 0
    omega
  · rw [List.mem_singleton.mp hp]
    exact hk
theorem lineN_get {ws : List Str} {k : Nat} (h : k < ws.length) : ws[k]? = some (lineN ws k) := by
  unfold lineN
  rw [List.getD_eq_getElem?_getD, List.getElem?_eq_getElem h]
  rfl
theorem lineN_mem {ws : List Str} {k : Nat} (h : k < ws.length) : lineN ws k ∈ ws := List.mem_of_getElem? (lineN_get h)
abbrev nLin : List Str := ["_law_pen_here", "_law_line", "_law_kind", "_law_spots", "_law_load", "_law_some", "_law_k"]
theorem scLin : FnScope nLin ["_law_pen_here"] (defScope sLinL) := ⟨rfl, rfl, rfl, by decide +kernel, rfl, by decide +kernel, by decide +kernel⟩
theorem bRange : bootBuiltins "range" = some (.type "range") := by decide +kernel
def spLin : Sp := fun vs H Q _ => ∃ (p c : Addr) (ns : List Int) (u r : Int), vs = [.ref p] ∧ PenAt H p c ns u r ∧ u + 300 ≤ 1000000 ∧ ∀ H', Q (.bl true) H'
section
variable {P : Program} {w : World} {K : PySem.W.Frag} {mg : Str → Option Value} {base : Heap} {C CT fi : Addr}
theorem ok_lin {f : Addr} {fd : FuncData} (F : Fun K "_law_is_line_right" "_law_is_line_right" sLinL f fd) (B : Blt mg) (mTu : mg "tuple" = none) (T : LoadC K mg C fi) (HD : Has P w K mg base 1 "_law_draw" ["_law_pen_here", "_law_many"] spDraw) (HW : Has P w K mg base 3 "_law_words" ["_law_pen_here", "_law_many"] spWords) (HS : Has P w K mg base 2 "_law_shuffled" ["_law_pen_here", "_law_items"] spShufV) (HO : HasC P w K mg base 5 C "of" (spOf C))
    {gf : Addr} {gfd : FuncData} (G4 : FnOk P w K mg base (L2.CX P w) 20 gf gfd ["drives", "stocks"] (spFro C CT)) (b4 : L2.Binds K gfd ["drives", "stocks"] []) (m4 : mg "first_order" = some (.ref gf)) (k4 : PySem.W.keepIn K (.ref gf) = true) : FnOk P w K mg base CX0 21 f fd ["_law_pen_here"] spLin := by
  obtain ⟨g1, gd1, G1, b1, m1, k1⟩ := HD
  obtain ⟨g2, gd2, G2, b2, m2, k2⟩ := HW
  obtain ⟨g3, gd3, G3, b3, m3, k3⟩ := HS
  obtain ⟨mc, po, go, rO, cO, FO⟩ := HO
  refine F.ok scLin (fun vs H Q E h => ?_) (fun cdv A outer s H vs Q E hr h => ?_)
  · obtain ⟨p, c, ns, u, r, rfl, _⟩ := h
    rfl
  · obtain ⟨p, c, ns, u, r, rfl, PA, hu6, k⟩ := h
    have hr1 : Room 1 _ := hr.mono (by decide : 1 ≤ 20)
    have hr2 : Room 3 _ := hr.mono (by decide : 3 ≤ 20)
    have hr3 : Room 2 _ := hr.mono (by decide : 2 ≤ 20)
    have hr4 : Room 20 _ := hr
    have hr5 : Room 5 _ := hr.mono (by decide : 5 ≤ 20)
    have hu := hu_of hr
    have nd : nLin.Nodup := scLin.nd
    refine ⟨_, pss_cons (ps_asg (pe_tup (pa_cons (pe_call G2 hr2 (by rfl) m2 k2 b2 .nil pass0 (pa_cons (pv 0) (pa_cons pe_int pa_nil))) (pa_cons (pe_ix ix_list (pe_call G2 hr2 (by rfl) m2 k2 b2 .nil pass0 (pa_cons (pv 0) (pa_cons pe_int pa_nil))) pe_int (fun _ _ => rfl)) pa_nil))) (pg_tup (by rfl) (pgs_cons (pg_name (i := 1) nd rfl (Or.inr rfl)) (pgs_cons (pg_name (i := 2) nd rfl (Or.inl rfl)) pgs_nil))))
      (pss_cons (ps_asg (pe_tup (pa_cons (pe_call G3 hr3 (by rfl) m3 k3 b3 .nil pass0 (pa_cons (pv 0) (pa_cons (pe_callTy (cr_listRng rfl) (by rfl) B.list bList (pa_cons (pe_callTy cr_range1V (by rfl) B.range bRange (pa_cons pe_int pa_nil)) pa_nil)) pa_nil))) (pa_cons (ClX.pe_cmeth (pe_glob (v := .ref C) (by rfl) T.gC rfl) rO cO FO hr5 pass0 (pa_cons (pe_disp (pps_cons (pv 2) (pe_op op_add pe_int (pe_call G1 hr1 (by rfl) m1 k1 b1 .nil pass0 (pa_cons (pv 0) (pa_cons pe_int pa_nil)))) pps_nil) rfl rfl (by simp) (by decide)) pa_nil)) pa_nil))) (pg_tup (by rfl) (pgs_cons (pg_name (i := 3) nd rfl (Or.inr rfl)) (pgs_cons (pg_name (i := 4) nd rfl (Or.inr rfl)) pgs_nil))))
      (pss_cons (ps_setLc (i := 5) (own := [("_law_k", 6)]) (g := gName 6) (tt := tYes) (te := tTup (tCons (tOp (rIxL K) (tVar 1) (tVar 6)) (tCons (tOp (rIxL K) (tVar 1) (tOp (rI0 fun i j => .int (i + j)) (tVar 6) (tC (.int 1)))) (tCons (tVar 4) tNil)))) rfl nd rfl rfl (sw_true rfl rfl rfl (by decide +kernel)) (pi_list (pv 3)) (blkOk_by (N := nLin) (sc := defScope sLinL) (by decide +kernel)) (fun _ _ _ _ _ => pg_name (i := 6) nd rfl (Or.inl rfl)) (fun _ _ _ _ _ => pts_nil) (fun _ _ _ _ _ => (pe_tup (pa_cons (pe_ix ix_list (pv 1) (pv 6) (fun _ _ => rfl)) (pa_cons (pe_ix ix_list (pv 1) (pe_op op_add (pv 6) pe_int) (fun _ _ => rfl)) (pa_cons (pv 4) pa_nil))))))
      (pss_cons (ps_if (pt_cmpR (op_neDq hu) (pe_call G4 hr4 (by rfl) m4 k4 b4 .nil (passes_call takes0 fun _ _ _ _ h => (h : False)) (pa_cons (pv 5) (pa_cons (pe_disp (pps_cons (pe_ix ix_list (pv 1) pe_int (fun _ _ => rfl)) (pv 4) pps_nil) rfl rfl (by simp) (by decide)) pa_nil))) (pe_callTy call_tuple_of (by rfl) mTu (by decide +kernel) (pa_cons (pe_lc (own := [("_law_k", 6)]) (g := gName 6) (tt := tYes) (te := tBM K "list" (rIndex K) (tVar 3) (tCons (tVar 6) tNil)) rfl nd (pi_range1 (by rfl) B.range (pa_cons pe_int pa_nil)) (blkOk_by (N := nLin) (sc := defScope sLinL) (by decide +kernel)) (fun _ _ _ _ _ => pg_name (i := 6) nd rfl (Or.inl rfl)) (fun _ _ _ _ _ => pts_nil) (fun _ _ _ _ _ => (pe_bm PySem.F.plainAttrs_list PySem.F.slot_list_index PySem.F.type_list_index mt_index (pv 3) (pa_cons (pv 6) pa_nil)))) pa_nil)) (nomark _)) (pss_one (ps_ret pe_bl)) pss_nil)
      (pss_one (ps_ret (pe_cmp (pc_isN (pe_call G4 hr4 (by rfl) m4 k4 b4 .nil (passes_call takes0 fun _ _ _ _ h => (h : False)) (pa_cons (pv 5) (pa_cons (pe_disp (pps_cons (pe_ix ix_list (pv 1) pe_int (fun _ _ => rfl)) (pv 4) pps_nil) rfl rfl (by simp) (by decide)) pa_nil)))) rfl)))))), ?_⟩
    -- line, kind
    refine seq_step (fun σ' H' => ∃ (kl : Addr) (ws : List Str) (kd : Str) (u' r' : Int), σ' = [some (.ref p), some (.ref kl), some (.str kd), none, none, none, none] ∧ H' kl = some (.lst (ws.map V.str)) ∧ ws.length = 10 ∧ ws.Nodup ∧ (∀ z ∈ ws, Wd 1 8 z) ∧ wordB kd = true ∧ u' ≤ u + 50 ∧ PenAt H' p c ns u' r') (fun R hR => ?_) (fun σ1 H1 h1 => ?_)
    · refine ⟨_, rfl, p, c, ns, u, r, 10, rfl, PA, by omega, by omega, fun kl ws u1 r1 H1 hkl gk lk nk wk hu1 PA1 keep1 => ?_⟩
      refine ⟨_, rfl, p, c, ns, u1, r1, 1, rfl, PA1, by omega, by omega, fun k2 ks u2 r2 H2 _ gk2 lk2 nk2 wk2 hu2 PA2 keep2 => ?_⟩
      have h0 : ks[0]? = some (ks[0]'(by omega)) := List.getElem?_eq_getElem (by omega)
      refine ⟨k2, _, 0, .str (ks[0]'(by omega)), rfl, rfl, .inl (.inl gk2), atI_nat (j := 0) (by rw [List.getElem?_map, h0]; rfl), by show 2 ≤ sizeLine; decide, fun T1 hT1 => ?_⟩
      have t1 := same_new (o := .tup [.ref kl, .str (ks[0]'(by omega))]) hT1
      exact ⟨T1, _, rfl, .inl (.inl upd_same), rfl, _, _, rfl, _, _, rfl, rfl, hR _ _ ⟨kl, ws, ks[0]'(by omega), u2, r2, rfl, t1 _ _ (keep2 _ _ gk (PA.nd hkl)), by omega, nk, wk, (wk2 _ (List.getElem_mem (by omega))).word, by omega, PA2.same t1⟩⟩
    obtain ⟨kl, ws, kd, u1, r1, rfl, gk, hlw, ndw, hww, hkd, hu1, PA1⟩ := h1
    -- spots, load
    refine seq_step (fun σ' H' => ∃ (sl : Addr) (spots : List Nat) (x : Addr) (n : Int) (u' r' : Int), σ' = [some (.ref p), some (.ref kl), some (.str kd), some (.ref sl), some (.ref x), none, none] ∧ H' kl = some (.lst (ws.map V.str)) ∧ H' sl = some (.lst (iV spots)) ∧ spots.Perm (List.range 9) ∧ 1 ≤ n ∧ LoadAt C H' x [(kd, n)]) (fun R hR => ?_) (fun σ2 H2 h2 => ?_)
    · refine ⟨_, rfl, 9, rfl, fun rg hrg => ⟨rg, 9, rfl, upd_same, by decide, fun l hl => ?_⟩⟩
      have tg := same_new (o := .rng 0 9) hrg
      have tl := same_new (o := .lst (iV (List.range 9))) hl
      have tgl := tg.trans tl
      refine ⟨p, c, l, iV (List.range 9), ns, u1, r1, rfl, PA1.same tgl, upd_same, by decide, by show u1 + ((iV (List.range 9)).length : Int) ≤ 1000000; show u1 + 9 ≤ 1000000; omega, fun q yv u3 r3 H3 hq gq hp hu3 PA3 keep3 => ?_⟩
      obtain ⟨spots, hps, rfl⟩ := perm_of_map (f := fun i : Nat => V.int ((i : Nat) : Int)) hp rfl
      have hu3' : u3 ≤ u1 + 9 := hu3
      have gk3 := keep3 _ _ (tgl _ _ gk) (PA1.nl gk)
      have nqp := (PA1.same tgl).nd hq
      refine ⟨rfl, fun pd hpd => ?_⟩
      have td := same_new (o := .dK []) hpd
      have npd := PA3.nd hpd
      refine ⟨_, rfl, _, rfl, p, c, ns, u3, r3, 9, rfl, PA3.same td, by omega, by decide, by decide, fun d u4 r4 H4 d0 d1 hu4 PA4 keep4 => ?_⟩
      have gd4 := keep4 _ _ (upd_same (H := H3) (a := pd) (o := .dK [])) npd
      refine ⟨_, _, rfl, rfl, gd4, [(Sum.inr kd, .int (1 + d))], rfl, by show 1 ≤ 15; decide, ?_⟩
      have hc := can1 (n := 1 + d) hkd (by omega)
      refine ⟨.ref C, pd, [(kd, 1 + d)], rfl, ⟨upd_same, hc.nd, hc.few, hc.wd⟩, fun H8 x ps' s8 hx0 hLd hC => ⟨by show 2 ≤ sizeLine; decide, fun T hT => ?_⟩⟩
      have e0 : ps' = [(kd, 1 + d)] := by
        obtain ⟨_, _, _, _, cn⟩ := id hLd
        exact can_eq cn hc hC
      subst e0
      have tT := same_new (o := .tup [.ref q, .ref x]) hT
      have nqd : q ≠ pd := ne_of_none gq hpd
      have nkd : kl ≠ pd := ne_of_none gk3 hpd
      have gq8 := s8 _ _ (show (upd H4 pd (.dK (mergeK [] [(Sum.inr kd, .int (1 + d))]))) q = _ by rw [upd_ne nqd]; exact keep4 _ _ (td _ _ gq) nqp)
      have gk8 := s8 _ _ (show (upd H4 pd (.dK (mergeK [] [(Sum.inr kd, .int (1 + d))]))) kl = _ by rw [upd_ne nkd]; exact keep4 _ _ (td _ _ gk3) (PA1.nl gk))
      exact ⟨T, _, rfl, .inl (.inl upd_same), rfl, _, _, rfl, _, _, rfl, rfl, hR _ _ ⟨q, spots, x, 1 + d, u4, r4, rfl, tT _ _ gk8, tT _ _ gq8, hps, by omega, hLd.same tT⟩⟩
    obtain ⟨sl, spots, x, n, u2, r2, rfl, gk2, gs, hperm, hn, gx⟩ := h2
    have hsl : spots.length = 9 := by rw [hperm.length_eq, List.length_range]
    have hk9 : ∀ {j : Nat} (h : j < spots.length), spots[j] < 9 := fun h => List.mem_range.mp (hperm.mem_iff.mp (List.getElem_mem h))
    have hcan := can1 (n := n) hkd hn
    -- some
    refine seq_step (fun σ' H' => ∃ (L : Addr) (ts : List Addr), σ' = [some (.ref p), some (.ref kl), some (.str kd), some (.ref sl), some (.ref x), some (.ref L), none] ∧ Same H2 H' ∧ H' L = some (.lst (ts.map V.ref)) ∧ Paired (DrvAt C H') ts (spots.map (lineR ws [(kd, n)]))) (fun R hR => ?_) (fun σ3 H3 h3 => ?_)
    · refine ⟨_, rfl, sl, rfl, ⟨_, .inl (.inl gs)⟩, fun D hD => ?_⟩
      refine lc_it (walk_list (xs := iV spots)) (fun j H' => ∃ us : List Addr, Same H2 H' ∧ H' D = some (.lst (us.map V.ref)) ∧ Paired (DrvAt C H') us ((spots.take j).map (lineR ws [(kd, n)])))
        ⟨[], same_new hD, upd_same, .nil⟩ (fun j H' _ ⟨_, h, _⟩ => .inl (.inl (h _ _ gs))) ?_ ?_
      · rintro j y H5 H6 hj ⟨us, same, eD, hus⟩ ⟨rfl, hx⟩
        unfold iV at hj hx
        rw [List.length_map] at hj
        rw [List.getElem?_map, List.getElem?_eq_getElem hj] at hx
        obtain rfl : y = V.int ((spots[j] : Nat) : Int) := (Option.some.inj hx).symm
        have hk := hk9 hj
        have gk6 := same _ _ gk2
        have gx6 := gx.same same
        have i1 : atI (ws.map V.str) ((spots[j] : Nat) : Int) = some (V.str (lineN ws spots[j])) := atI_nat (by rw [List.getElem?_map, lineN_get (by omega)]; rfl)
        have i2 : atI (ws.map V.str) (((spots[j] : Nat) : Int) + 1) = some (V.str (lineN ws (spots[j] + 1))) := by
          have := atI_nat (xs := ws.map V.str) (j := spots[j] + 1) (v := V.str (lineN ws (spots[j] + 1))) (by rw [List.getElem?_map, lineN_get (by omega)]; rfl)
          rwa [Int.natCast_add] at this
        refine ⟨rfl, _, rfl, _, rfl, kl, _, _, _, rfl, rfl, .inl (.inl gk6), i1, _, rfl, _, rfl, _, _, rfl, rfl, kl, _, _, _, rfl, rfl, .inl (.inl gk6), i2, _, rfl, by show 3 ≤ sizeLine; decide, fun T1 hT => ?_⟩
        have a2 := same_new (o := .tup [.str (lineN ws spots[j]), .str (lineN ws (spots[j] + 1)), .ref x]) hT
        have eD9 := a2 _ _ eD
        have nTD : T1 ≠ D := (ne_of_none eD hT).symm
        have sLL := sameL_upd (ys := us.map V.ref ++ [V.ref T1]) eD9
        refine ⟨_, eD9, ?_, us ++ [T1], ?_, ?_, ?_⟩
        · have h1 := Paired.length hus
          rw [List.length_map, h1, List.length_map, List.length_take]
          exact Nat.lt_of_le_of_lt (by omega : _ ≤ 9) (by decide)
        · intro b o eb
          rw [upd_ne (ne_of_none eb hD)]
          exact a2 _ _ (same _ _ eb)
        · rw [upd_same, List.map_append]
          rfl
        · rw [List.take_succ, List.getElem?_eq_getElem hj, List.map_append]
          refine .snoc (Paired.mono (fun t r h => ?_) hus) ⟨x, ?_, ?_⟩
          · obtain ⟨y, q1, q2⟩ := h.same a2
            exact ⟨y, sLL _ _ q1 (fun _ z => nomatch z), q2.sameL sLL⟩
          · rw [upd_ne nTD, upd_same]
            rfl
          · exact (gx6.same a2).sameL sLL
      · rintro H5 ⟨us, same, eD, hus⟩
        unfold iV at hus
        rw [List.length_map, List.take_length] at hus
        exact hR _ _ ⟨D, us, rfl, same, eD, hus⟩
    obtain ⟨L, ts, rfl, s3, gL, hdrv⟩ := h3
    have hrl : (spots.map (lineR ws [(kd, n)])).length = 9 := by rw [List.length_map, hsl]
    have hrok : ∀ r ∈ spots.map (lineR ws [(kd, n)]), RowD [kd] r := fun r hr => by
      obtain ⟨k', hk', rfl⟩ := List.mem_map.mp hr
      have hk' := List.mem_range.mp (hperm.mem_iff.mp hk')
      refine ⟨(hww _ (lineN_mem (by omega))).word, (hww _ (lineN_mem (by omega))).word, fun e => ?_, hcan, by show 1 ≤ 100; decide, (fun h => by cases h), fun z hz => hz⟩
      have := lineN_inj hlw ndw (by omega) (by omega) e
      omega
    have hctn : ∀ z, 0 ≤ ct [(kd, n)] z := fun z => by
      by_cases e : ct [(kd, n)] z = 0
      · omega
      · obtain ⟨q, hq, e1⟩ := List.mem_map.mp (ct_in e)
        have := ct_mem hcan.nd hq
        rw [e1] at this
        rw [this, List.mem_singleton.mp hq]
        show 0 ≤ n
        omega
    have hpos : ∀ j, Pos0 (sg ws [(kd, n)] j) := fun j h z => by
      unfold sg
      split
      · exact hctn z
      · exact Int.le_refl 0
    have hsup : ∀ j, SupW [kd] (sg ws [(kd, n)] j) := fun j h z hz => by
      unfold sg at hz
      split at hz
      · exact ct_in hz
      · exact absurd rfl hz
    have hstk : ∀ {H' : Hp} {d : Addr} {j : Nat}, j < 10 → LoadAt C H' x [(kd, n)] → H' d = some (.dK (eD [(lineN ws j, x)])) → StkP C H' d 1 (sg ws [(kd, n)] j) := fun {H' d j} hj hx hd => by
      refine ⟨[(lineN ws j, x)], hd, Nat.le_refl 1, List.nodup_cons.mpr ⟨List.not_mem_nil, List.nodup_nil⟩, fun e he => ?_, fun h g z => ?_⟩
      · rw [List.mem_singleton.mp he]
        exact ⟨[(kd, n)], hx, hcan, fun z => by unfold sg; rw [if_pos rfl], (hww _ (lineN_mem (by omega))).word⟩
      · unfold sg
        by_cases e : h = lineN ws j
        · subst e
          unfold getE at g
          rw [List.find?_cons, decide_eq_true rfl] at g
          cases g
        · rw [if_neg e]
    have gk3 := s3 _ _ gk2
    have gx3 := gx.same s3
    have gs3 := s3 _ _ gs
    -- the first
    refine seq_step (fun σ' H' => σ' = [some (.ref p), some (.ref kl), some (.str kd), some (.ref sl), some (.ref x), some (.ref L), none] ∧ Same H3 H') (fun R hR => ?_) (fun σ4 H4 h4 => ?_)
    · refine ⟨_, rfl, fun d hd => ?_⟩
      have t0 := same_new (o := .dK []) hd
      refine ⟨_, rfl, kl, _, 0, _, rfl, rfl, .inl (.inl (t0 _ _ gk3)), atI_nat (j := 0) (by rw [List.getElem?_map, lineN_get (by omega)]; rfl), _, rfl, upd_same, [(Sum.inr (lineN ws 0), .ref x)], rfl, by show 1 ≤ 15; decide, ?_⟩
      have s0 : Same H3 (upd (upd H3 d (.dK [])) d (.dK (mergeK [] [(Sum.inr (lineN ws 0), .ref x)]))) := fun b o e => by
        rw [upd_ne (ne_of_none e hd), upd_ne (ne_of_none e hd)]
        exact e
      refine ⟨L, d, ts, rfl, .inl (s0 _ _ gL), .inl ⟨spots.map (lineR ws [(kd, n)]), sg ws [(kd, n)] 0, [kd], 1, by omega, Paired.mono (fun _ _ h => h.same s0) hdrv, hrok, by show 1 ≤ 90; decide, hstk (by decide) (gx3.same s0) upd_same, by decide, hpos 0, hsup 0, fun v H5 s5 out => ?_⟩⟩
      rw [hrl, line_first hn hlw ndw hperm] at out
      have s05 := s0.trans s5
      rcases out with ⟨h, _⟩ | ⟨t, pt, et, rfl, gt⟩
      · cases h
      · have et := Option.some.inj et
        subst et
        rw [List.nil_append] at gt
        have gs5 := s05 _ _ gs3
        refine ⟨9, rfl, by decide, by decide, fun D hD => ?_⟩
        refine lc_range (lo := 0) (n := 9) (fun i H' => Same H5 H' ∧ H' D = some (.lst (iV ((List.range i).map fun k => spots.idxOf k)))) ⟨same_new hD, upd_same⟩ ?_ ?_
        · rintro i H' hi ⟨s6, gD⟩
          have gs6 := s6 _ _ gs5
          have hm : i ∈ spots := hperm.mem_iff.mpr (List.mem_range.mpr hi)
          have hix := List.idxOf_lt_length_iff.mpr hm
          have hgi : spots[spots.idxOf i]? = some i := by
            rw [List.getElem?_eq_getElem hix, List.getElem_idxOf]
          refine ⟨rfl, _, rfl, .inl ⟨rfl, _, .inl (.inl gs6)⟩, _, rfl, sl, iV spots, .int (0 + (i : Int)), spots.idxOf i, .int ((i : Nat) : Int), rfl, rfl, .inl (.inl gs6), rfl, iV_flat _, ?_, ?_, fun m z' hm' hz' => ?_, ?_⟩
          · unfold iV
            rw [List.getElem?_map, hgi]
            rfl
          · simp [eqV]
          · unfold iV at hz'
            rw [List.getElem?_map] at hz'
            obtain ⟨q, hq, rfl⟩ := Option.map_eq_some_iff.mp hz'
            have hqi : q ≠ i := fun e => by
              have h1 := (List.getElem?_inj (by omega) (hperm.nodup_iff.mpr List.nodup_range)).mp (hq.trans (by rw [e]; exact hgi.symm))
              omega
            have : ¬ ((q : Int) = 0 + (i : Int)) := by omega
            simp [eqV, this]
            omega
          · refine ⟨_, gD, ?_, ?_, ?_⟩
            · unfold iV
              rw [List.length_map, List.length_map, List.length_range]
              exact Nat.lt_of_le_of_lt (by omega : i ≤ 9) (by decide)
            · intro b o e
              rw [upd_ne (ne_of_none e hD)]
              exact s6 _ _ e
            · rw [upd_same, List.range_succ]
              unfold iV
              rw [List.map_append, List.map_append]
              rfl
        · rintro H' ⟨s6, gD⟩
          refine ⟨D, _, rfl, .inl ⟨.inl (.inl gD), fun l hl => ?_⟩⟩
          have tl := same_new (o := .tup (iV ((List.range 9).map fun k => spots.idxOf k))) hl
          refine ⟨pt, l, _, _, rfl, rfl, .inl (.inl (tl _ _ (s6 _ _ gt))), .inl (.inl upd_same), .inr ⟨rfl, fun v hv => ?_, _, rfl, iteF (hR _ _ ⟨rfl, s05.trans (s6.trans tl)⟩)⟩⟩
          obtain ⟨i, _, rfl⟩ := List.mem_map.mp hv
          exact .inl rfl
    obtain ⟨rfl, s4⟩ := h4
    have gk4 := s4 _ _ gk3
    refine ⟨_, rfl, fun d hd => ?_⟩
    have t0 := same_new (o := .dK []) hd
    refine ⟨_, rfl, kl, _, 1, _, rfl, rfl, .inl (.inl (t0 _ _ gk4)), atI_nat (j := 1) (by rw [List.getElem?_map, lineN_get (by omega)]; rfl), _, rfl, upd_same, [(Sum.inr (lineN ws 1), .ref x)], rfl, by show 1 ≤ 15; decide, ?_⟩
    have s0 : Same H4 (upd (upd H4 d (.dK [])) d (.dK (mergeK [] [(Sum.inr (lineN ws 1), .ref x)]))) := fun b o e => by
      rw [upd_ne (ne_of_none e hd), upd_ne (ne_of_none e hd)]
      exact e
    have s40 := s4.trans s0
    refine ⟨L, d, ts, rfl, .inl (s40 _ _ gL), .inl ⟨spots.map (lineR ws [(kd, n)]), sg ws [(kd, n)] 1, [kd], 1, by omega, Paired.mono (fun _ _ h => h.same s40) hdrv, hrok, by show 1 ≤ 90; decide, hstk (by decide) (gx3.same s40) upd_same, by decide, hpos 1, hsup 1, fun v H5 s5 out => ?_⟩⟩
    rw [hrl, line_second hn hlw ndw hperm] at out
    rcases out with ⟨_, rfl⟩ | ⟨t, pt, et, rfl, gt⟩
    · exact k _
    · cases et
end
end Ld
namespace Ld
open PySem PySem.Spec PyProof.Rows L2
open TL
open LamX
/-! ### the law -/
theorem FnG.ofL {P : Program} {w : World} {K : PySem.W.Frag} {mg : Str → Option Value} {base : Heap} {k : Nat} {f : Addr} {x qual : Str} {st : Stmt} {N ps : List Str} {sp : Sp} {oc kV doc pm cdv ct : Value} {od an : Option Addr} {osl : Array (Option Value)}
    (lk : K.lookup f = some ⟨oc, od, .func (PySem.W.fnOf x qual (defArgs st) (defBody st) (defScope st) .none kV doc pm an cdv ct), osl⟩) (hcd : PySem.W.codeIn K cdv qual = true) (S : FnScope N ps (defScope st)) (len : ∀ vs H Q E, sp vs H Q E → vs.length = ps.length)
    (hbody : ∀ (A : Around) (outer : List Env) (s : Shared) (H : Hp) (vs : List V) (Q : VK), Room k (A.deeper (envOfC qual (defScope st) s.heap.objs.size f cdv)) → (A.deeper (envOfC qual (defScope st) s.heap.objs.size f cdv)).guards = some [] → sp vs H Q E0 →
      ∃ t, PSs (cxOf CX0 P w K mg base N qual (defScope st) f cdv A outer s H E0).nox (defBody st) t ∧ t { nx := fun _ H' => Q .non H', rt := Q } (start N vs) H) : FnG P w K mg base (k + 1) f (PySem.W.fnOf x qual (defArgs st) (defBody st) (defScope st) .none kV doc pm an cdv ct) ps sp := by
  refine ⟨len, fun A outer s H us vs Q hr hgd e0 hb r hsp => ?_⟩
  have inS : ∀ b o, base.get? b = some o → s.heap.get? b = some o := fun b o e => (e0.bs b o e).1
  have hkind : ∀ y ∈ ps.zip us, (defScope st).names.lookup y.1 = some .local ∨ ((defScope st).names.lookup y.1 = some .cell ∧ ((cellsFrom (s.heap.objs.size + 1) (defScope st).names []).lookup y.1).isSome = true) := by
    rintro ⟨n, v⟩ hy
    rcases S.par n (List.of_mem_zip hy).1 with q | q
    · exact .inl q
    · exact .inr ⟨q, PySem.W.cellsFrom_some _ _ _ (.inl q)⟩
  refine codeAny_call_function hr.depth ((e0.mod.kin.keeps inS) _ _ lk) rfl S.co S.gen rfl (PySem.W.codeRec_of (e0.mod.kin.keeps inS) hcd) (hb _ _ _ _ (wpAny_newFunctionEnv_cells S.kind hkind fun env he s1 x => ?_))
  subst he
  refine ⟨(e0.mod.nolimit.keeps inS).keeps x.toInCall.keep, codeAny_func ?_⟩
  obtain ⟨t, ht, hq⟩ := hbody A outer s H vs Q (hr.deeper _) hgd hsp
  refine wpAny_mono (ht.nox.run [] s1 (start N vs) H _ (inv_start S hr.hd e0 (len _ _ _ _ hsp) r x) hq) (fun fl s' hs => ?_) fun e s' hs => hs
  cases fl with
  | ret u =>
    obtain ⟨v, σ', H', J, rv, q⟩ := hs
    exact ⟨v, H', J.os, J.bare, J.base, J.hok, rv, q⟩
  | next =>
    obtain ⟨σ', H', J, q⟩ := hs
    exact ⟨V.non, H', J.os, J.bare, J.base, J.hok, rfl, q⟩
  | brk => exact hs.elim fun _ z => z.elim fun _ z => z.2.elim
  | cont => exact hs.elim fun _ z => z.elim fun _ z => z.2.elim
abbrev tabL (Pt : Addr) : List (Addr × Str) := [(Pt, ("law" : Str) ++ ".<locals>." ++ "<lambda>")]
theorem PenAt.extN {H H' : Hp} {p c : Addr} {ns : List Int} {u r : Int} (P : PenAt H p c ns u r) (e : ExtN H H') : PenAt H' p c ns u r := by
  obtain ⟨kvs, h, k⟩ := P.ob
  exact ⟨⟨kvs, e _ _ h (fun _ z => nomatch z), k⟩, e _ _ P.cl (fun _ z => nomatch z), P.few, P.u0, P.r0⟩
theorem Tabs.keepP {T : List (Addr × Str)} {H H' : Hp} {p c : Addr} {ns : List Int} {u r : Int} (t : Tabs T H) (P : PenAt H p c ns u r) (s : SameP p H H') : Tabs T H' := fun q hq => by
  obtain ⟨ps, h1, h2, h3⟩ := t q hq
  obtain ⟨kvs, hp, _⟩ := P.ob
  refine ⟨ps, s _ _ h1 (ne_of h1 hp fun z => nomatch z), h2, fun pos cv hc => ?_⟩
  obtain ⟨c0, e, hco⟩ := h3 pos cv hc
  exact ⟨c0, e, s _ _ hco (ne_of hco hp fun z => nomatch z)⟩
theorem dfs_mem {rows : List Row} : ∀ {m : Nat} {left : List Nat} {S : StF} {t : List Nat}, dfs rows m left S = some t → ∀ i ∈ t, i ∈ left
  | 0, _, _, t, h => by
    have h : some [] = some t := h
    cases h
    exact fun _ h => nomatch h
  | m + 1, left, S, t, h => by
    rw [dfs_succ] at h
    obtain ⟨k, hkm, hk⟩ := List.exists_of_findSome?_eq_some h
    unfold turnF at hk
    split at hk
    · obtain ⟨u, hu, rfl⟩ := Option.map_eq_some_iff.mp hk
      intro i hi
      rcases List.mem_cons.mp hi with rfl | hi
      · exact hkm
      · exact (List.mem_filter.mp (dfs_mem hu i hi)).1
    · cases hk
/-- an order's text -/
def txO : Option (List Nat) → Str
  | none => "None"
  | some t => (PyData.tuple (t.map fun i => PyData.int ((i : Nat) : Int))).shown
def rReprO (K : PySem.W.Frag) : List V → Hp → VK → Prop := fun vs H Q => ∃ (v : V) (o : Option (List Nat)), vs = [v] ∧ OutAt [] o v H ∧ (∀ t, o = some t → t.length ≤ 9 ∧ ∀ i ∈ t, i < 9) ∧ Q (.str (txO o)) H
theorem call_reprO {X : Cx} (hgd : X.A.guards = some []) (hu : X.A.units + 64 < cLine) : CallR X (.builtin "repr") (rReprO X.K) := by
  intro pins s σ H vs us Q I r h
  obtain ⟨v, o, rfl, ho, hs, q⟩ := h
  rcases ho with ⟨rfl, rfl⟩ | ⟨t, p, rfl, rfl, gp⟩
  · obtain ⟨u, rfl, e⟩ := vals1 r
    obtain rfl : u = Value.none := e
    exact PySem.P.repr_of_none ⟨.str "None", H, I.tok _, ⟨_, rfl⟩, q⟩
  · obtain ⟨h1, h2⟩ := hs t rfl
    rw [List.nil_append] at gp
    have hd : ∀ d ∈ t.map (fun i => PyData.int ((i : Nat) : Int)), Shw 20 d := fun d hd => by
      obtain ⟨i, hi, rfl⟩ := List.mem_map.mp hd
      have hi9 := h2 i hi
      have b : ((i : Nat) : Int).natAbs < 10 ^ 2 := by
        rw [Int.natAbs_natCast]
        omega
      obtain ⟨a1, a2⟩ := int_show b (by decide) (by decide)
      exact ⟨a1, by simp only [PyData.depth]; omega, Nat.le_trans a2 (by decide)⟩
    obtain ⟨k1, k2, k3, k4⟩ := shw_all hd
    refine call_reprT hgd hu pins s σ H _ us Q I r ⟨p, iV t, t.map (fun i => PyData.int ((i : Nat) : Int)), rfl, .inl (.inl gp), ?_, ?_, ?_, ?_, q⟩
    · have key : ∀ l : List Nat, Paired (ItR H) (iV l) (l.map fun i => PyData.int ((i : Nat) : Int)) := fun l => by
        induction l with
        | nil => exact .nil
        | cons a r ih => exact .cons (.inl ⟨rfl, rfl⟩) ih
      exact key t
    · simp only [PyData.showable]
      exact k1
    · simp only [PyData.depth]
      omega
    · simp only [PyData.shown]
      refine Nat.le_trans (tupleText_len_le _) ?_
      have hsum : ∀ l : List Str, (∀ x ∈ l, x.length ≤ 20) → (l.map (·.length)).sum ≤ 20 * l.length := fun l => by
        induction l with
        | nil => exact fun _ => Nat.zero_le _
        | cons a r ih =>
          intro h
          have := ih fun x hx => h x (List.mem_cons_of_mem _ hx)
          have := h a List.mem_cons_self
          rw [List.map_cons, List.sum_cons, List.length_cons]
          omega
      have e1 := hsum _ k3
      rw [k4, List.length_map] at e1
      have hs : sizeLine = 16777216 := sizeLine_eq
      rw [k4, List.length_map]
      omega
end Ld
namespace Ld
open PySem PySem.Spec PyProof.Rows L2
open TL
open LamX
/-! ### the law, walked -/
abbrev sLaw : Stmt := top 44
abbrev nLaw : List Str := ["_law_script", "_law_pen_here", "_law_turn", "_law_kinds", "_law_houses", "_law_rows", "_law_held", "_law_some", "_law_given", "_law_due", "_law_was", "_law_told", "_law_more", "_law_one", "_law_other", "_law_counts"]
theorem scLaw : FnScope nLaw ["_law_script"] (defScope sLaw) := ⟨rfl, rfl, rfl, by decide +kernel, rfl, by decide +kernel, by decide +kernel⟩
theorem if_ne {v : V} {A B : Prop} (h : B) : if (!decide (v = v)) = true then A else B := by
  rw [decide_eq_true rfl]
  exact iteF h
theorem PenAt.ne_eD {H : Hp} {p c g : Addr} {ns : List Int} {u r : Int} {es : Ent} (P : PenAt H p c ns u r) (h : H g = some (.dK (eD es))) : g ≠ p := fun e => by
  obtain ⟨kvs, hp, _, _, v2, _⟩ := P.ob
  rw [e, hp] at h
  have e2 : kvs = eD es := by injection h with h; injection h
  rw [e2, valV_eD] at v2
  cases g : getE es ("begun" : Str) with
  | none => rw [g] at v2; cases v2
  | some b => rw [g] at v2; cases v2
theorem LoadAt.penP {C : Addr} {H H' : Hp} {p c x : Addr} {ns : List Int} {u r : Int} {ps : List (Str × Int)} (h : LoadAt C H x ps) (P : PenAt H p c ns u r) (s : SameP p H H') : LoadAt C H' x ps := by
  obtain ⟨dx, t, h1, h2, h3⟩ := h
  obtain ⟨kvs, hp, _, v1, _⟩ := P.ob
  refine ⟨dx, t, s _ _ h1 (ne_of h1 hp fun z => nomatch z), s _ _ h2 fun e => ?_, h3⟩
  rw [e, hp] at h2
  have e2 : kvs = cD ps := by injection h2 with h2; injection h2
  rw [e2, valV_cD] at v1
  cases g : ctO ps ("cells" : Str) with
  | none => rw [g] at v1; cases v1
  | some b => rw [g] at v1; cases v1
def spFirA : Sp := fun vs H Q E => ∃ m, m ≤ 5 ∧ spFir m vs H Q E
theorem fir_all {P : Program} {w : World} {K : PySem.W.Frag} {mg : Str → Option Value} {base : Heap} {f : Addr} {fd : FuncData} {ps : List Str} (F : ∀ m, m ≤ 5 → FnOk P w K mg base CX0 9 f fd ps (spFir m)) : FnOk P w K mg base CX0 9 f fd ps spFirA :=
  ⟨fun vs H Q E ⟨m, hm, h⟩ => (F m hm).len vs H Q E h, fun A outer s H args us vs Q E hr he hb hv ⟨m, hm, h⟩ => (F m hm).run A outer s H args us vs Q E hr he hb hv h⟩
structure LawT (P : Program) (w : World) (K : PySem.W.Frag) (mg : Str → Option Value) (base : Heap) (C CT : Addr) : Prop where
  pen : Has P w K mg base 1 "_law_pen" ["_law_script"] (spPen K)
  draw : Has P w K mg base 1 "_law_draw" ["_law_pen_here", "_law_many"] spDraw
  pick : Has P w K mg base 2 "_law_pick" ["_law_pen_here", "_law_items"] (spPick K)
  words : Has P w K mg base 3 "_law_words" ["_law_pen_here", "_law_many"] spWords
  somed : Has P w K mg base 3 "_law_some_drives" ["_law_pen_here", "_law_kinds", "_law_houses", "_law_many"] (spSomL P w)
  stocks : Has P w K mg base 3 "_law_stocks" ["_law_pen_here", "_law_rows"] spSto
  loads : Has P w K mg base 6 "_law_loads" ["_law_counts_by"] (spLod C [])
  first : Has P w K mg base 9 "_law_first" ["_law_rows", "_law_held", "_law_left"] spFirA
  shown : ∃ g gd, FnG P w K mg base 3 g gd ["_law_loads_here"] (spSho C) ∧ L2.Binds K gd ["_law_loads_here"] [] ∧ mg "_law_shown" = some (.ref g) ∧ PySem.W.keepIn K (.ref g) = true
  rows : Has P w K mg base 3 "_law_rows_of" ["_law_told"] (spRowL C)
  line : Has P w K mg base 21 "_law_is_line_right" ["_law_pen_here"] spLin
  fo : ∃ g gd gs gv, FnOk P w K mg base (L2.CX P w) 20 g gd ["drives", "stocks"] (spFro C CT) ∧ L2.Binds K gd ["drives", "stocks"] [] ∧ KBn K gd ["drives", "stocks"] 0 ["stocks", "drives"] gs gv ∧ (∀ a b : V, gv [] [a, b] = [b, a]) ∧ mg "first_order" = some (.ref g) ∧ PySem.W.keepIn K (.ref g) = true
def spLaw (K : PySem.W.Frag) (Pt : Addr) : Sp := fun vs H Q _ => ∃ (a : Addr) (ns : List Int), vs = [.ref a] ∧ SqL K H a (ns.map V.int) ∧ ns.length ≤ 63 ∧ H Pt = some (.tbl #[]) ∧ ∀ H', Q (.bl true) H'
section
variable {P : Program} {w : World} {K : PySem.W.Frag} {mg : Str → Option Value} {base : Heap} {C CT fi : Addr}
theorem ok_law {f c0 Pt g13 : Addr} {oc kV doc pm ct0 : Value} {od an : Option Addr} {osl : Array (Option Value)} {fd13 : FuncData}
    (lk : K.lookup f = some ⟨oc, od, .func (PySem.W.fnOf "law" "law" (defArgs sLaw) (defBody sLaw) (defScope sLaw) .none kV doc pm an (.ref c0) ct0), osl⟩) (hcd : PySem.W.codeIn K (.ref c0) "law" = true) (TB : TabB base mg c0 Pt)
    (F13 : Fun K "_law_refused" "_law_refused" sRefL g13 fd13) (b13 : L2.Binds K fd13 ["_law_call"] []) (m13 : mg "_law_refused" = some (.ref g13)) (XC : XCat K CT) (mTM : mg "TooMany" = some (.ref CT)) (mOE : mg "OverflowError" = none)
    (B : Blt mg) (B2 : Blt2 mg) (B3 : Blt3 mg) (mTu : mg "tuple" = none) (T : LoadC K mg C fi) (HO : HasC P w K mg base 5 C "of" (spOf C)) (FI : FnK P w K mg base CX0 3 fi [] (spKw [] (spInitB C))) (W : LawT P w K mg base C CT) :
    FnG P w K mg base 23 f (PySem.W.fnOf "law" "law" (defArgs sLaw) (defBody sLaw) (defScope sLaw) .none kV doc pm an (.ref c0) ct0) ["_law_script"] (spLaw K Pt) := by
  have k13 := F13.kp
  obtain ⟨oc13, od13, kV13, doc13, pm13, an13, cd13, ct13, sl13, rfl, lk13, cg13⟩ := F13.ex
  obtain ⟨f1, d1, G1, b1, m1, k1⟩ := W.pen
  obtain ⟨f2, d2, G2, b2, m2, k2⟩ := W.draw
  obtain ⟨f3, d3, G3, b3, m3, k3⟩ := W.pick
  obtain ⟨f4, d4, G4, b4, m4, k4⟩ := W.words
  obtain ⟨f5, d5, G5, b5, m5, k5⟩ := W.somed
  obtain ⟨f6, d6, G6, b6, m6, k6⟩ := W.stocks
  obtain ⟨f7, d7, G7, b7, m7, k7⟩ := W.loads
  obtain ⟨f8, d8, G8, b8, m8, k8⟩ := W.first
  obtain ⟨f9, d9, gs9, gv9, G9, b9, kb9, hgv, m9, k9⟩ := W.fo
  obtain ⟨f10, d10, G10, b10, m10, k10⟩ := W.shown
  obtain ⟨f11, d11, G11, b11, m11, k11⟩ := W.rows
  obtain ⟨f12, d12, G12, b12, m12, k12⟩ := W.line
  obtain ⟨mc, po, go, rO, cO, FO⟩ := HO
  refine FnG.ofL lk hcd scLaw (fun vs H Q E h => ?_) fun A outer s H vs Q hr hgd h => ?_
  · obtain ⟨a, ns, rfl, _⟩ := h
    rfl
  · obtain ⟨a, ns, rfl, hS, hl, hPt, q⟩ := h
    have nd := scLaw.nd
    have hu := hu_of hr
    have hu64 := hr.units
    have hr1 : Room 1 _ := hr.mono (by decide : 1 ≤ 22)
    have hr2 : Room 2 _ := hr.mono (by decide : 2 ≤ 22)
    have hr3 : Room 3 _ := hr.mono (by decide : 3 ≤ 22)
    have hr4 : Room 4 _ := hr.mono (by decide : 4 ≤ 22)
    have hr5 : Room 5 _ := hr.mono (by decide : 5 ≤ 22)
    have hr6 : Room 6 _ := hr.mono (by decide : 6 ≤ 22)
    have hr9 : Room 9 _ := hr.mono (by decide : 9 ≤ 22)
    have hr20 : Room 20 _ := hr.mono (by decide : 20 ≤ 22)
    have hr21 : Room 21 _ := hr.mono (by decide : 21 ≤ 22)
    have hT0 : Tabs (tabL Pt) H := fun p hp => by
      rw [List.mem_singleton.mp hp]
      exact TabS.nil hPt
    have hq : (cxOf CX0 P w K mg base nLaw "law" (defScope sLaw) f (.ref c0) A outer s H E0).nox.env.qual = ("law" : Str) ++ ".<locals>." := rfl
    have hmT : ((Pt, (cxOf CX0 P w K mg base nLaw "law" (defScope sLaw) f (.ref c0) A outer s H E0).nox.env.qual ++ ("<lambda>" : Str)) : Addr × Str) ∈ tabL Pt := by
      rw [hq]
      exact List.mem_singleton_self _
    have huT : ∀ p ∈ tabL Pt, p.1 = Pt → p.2 = (cxOf CX0 P w K mg base nLaw "law" (defScope sLaw) f (.ref c0) A outer s H E0).nox.env.qual ++ ("<lambda>" : Str) := fun p hp _ => by
      rw [hq, List.mem_singleton.mp hp]
    refine ⟨_, pss_cons (ps_set (i := 1) nd rfl (Or.inl rfl) (pe_call G1 hr1 (by rfl) m1 k1 b1 .nil pass0 (pa_cons (pv 0) pa_nil)))
      (pss_cons (ps_for PassesOwn.never rfl (pi_range1 (by rfl) B.range (pa_cons (pe_op op_add pe_int (pe_callB (call_min2 rfl) (by rfl) B3.min bMin (pa_cons pe_int (pa_cons (pe_callB call_len_seq (by rfl) B.len PySem.boot_len (pa_cons (pv 0) pa_nil)) pa_nil)))) pa_nil)) (pg_name (i := 2) nd rfl (Or.inl rfl))
        (pss_cons (ps_par (i := 3) (j := 4) rfl nd rfl rfl (by decide) rfl rfl (pa_cons (pe_call G4 hr3 (by rfl) m4 k4 b4 .nil pass0 (pa_cons (pv 1) (pa_cons pe_int pa_nil))) (pa_cons (pe_call G4 hr3 (by rfl) m4 k4 b4 .nil pass0 (pa_cons (pv 1) (pa_cons (pe_op op_add pe_int (pe_call G2 hr1 (by rfl) m2 k2 b2 .nil pass0 (pa_cons (pv 1) (pa_cons pe_int pa_nil)))) pa_nil))) pa_nil)) (by rfl))
        (pss_cons (ps_set (i := 5) nd rfl (Or.inl rfl) (pe_call G5 hr3 (by rfl) m5 k5 b5 .nil pass0 (pa_cons (pv 1) (pa_cons (pv 3) (pa_cons (pv 4) (pa_cons (pe_call G3 hr2 (by rfl) m3 k3 b3 .nil pass0 (pa_cons (pv 1) (pa_cons (pe_lst (pa_cons pe_int (pa_cons pe_int (pa_cons pe_int (pa_cons pe_int (pa_cons pe_int (pa_cons pe_int (pa_cons pe_int (pa_cons pe_int (pa_cons pe_int pa_nil)))))))))) pa_nil))) pa_nil))))))
        (pss_cons (ps_set (i := 6) nd rfl (Or.inl rfl) (pe_ifExp (pt_cmpR op_gt (pe_call G2 hr1 (by rfl) m2 k2 b2 .nil pass0 (pa_cons (pv 1) (pa_cons pe_int pa_nil))) pe_int (nomark _)) (pe_call G6 hr3 (by rfl) m6 k6 b6 .nil pass0 (pa_cons (pv 1) (pa_cons (pv 5) pa_nil))) pe_dnewK))
        (pss_cons (ps_setLc (i := 7) (own := [("_law_one", 13), ("_law_other", 14), ("_law_counts", 15)]) (g := gTup K 3 (gCons (gName 13) (gCons (gName 14) (gCons (gName 15) gNil)))) (tt := tYes) rfl nd rfl rfl (sw_true rfl rfl rfl (by decide +kernel)) (pi_list (pv 5)) (blkOk_by (N := nLaw) (sc := defScope sLaw) (by decide +kernel)) (fun _ _ _ _ _ => pg_tup rfl (pgs_cons (pg_name (i := 13) nd rfl (Or.inl rfl)) (pgs_cons (pg_name (i := 14) nd rfl (Or.inl rfl)) (pgs_cons (pg_name (i := 15) nd rfl (Or.inl rfl)) pgs_nil)))) (fun _ _ _ _ _ => pts_nil) (fun _ _ _ _ _ => (pe_tup (pa_cons (pv 13) (pa_cons (pv 14) (pa_cons (ClX.pe_cmeth (pe_glob (v := .ref C) (by rfl) T.gC rfl) rO cO FO hr5 pass0 (pa_cons (pv 15) pa_nil)) pa_nil))))))
        (pss_cons (ps_asg (pe_tup (pa_cons (pe_call G7 hr6 (by rfl) m7 k7 b7 .nil pass0 (pa_cons (pv 6) pa_nil)) (pa_cons (pe_callB (call_reprO hgd hu64) (by rfl) B3.repr bRepr (pa_cons (pe_call G8 hr9 (by rfl) m8 k8 b8 .nil pass0 (pa_cons (pv 5) (pa_cons (pv 6) (pa_cons (pe_callTy (cr_listRng rfl) (by rfl) B.list bList (pa_cons (pe_callTy cr_range1V (by rfl) B.range bRange (pa_cons (pe_callB call_len_seq (by rfl) B.len PySem.boot_len (pa_cons (pv 5) pa_nil)) pa_nil)) pa_nil)) pa_nil)))) pa_nil)) pa_nil))) (pg_tup (by rfl) (pgs_cons (pg_name (i := 8) nd rfl (Or.inr rfl)) (pgs_cons (pg_name (i := 9) nd rfl (Or.inl rfl)) pgs_nil))))
        (pss_cons (ps_set (i := 10) nd rfl (Or.inl rfl) (pe_callG G10 hr3 hgd (by rfl) m10 k10 b10 (pa_cons (pv 8) pa_nil)))
        (pss_cons (ps_for PassesOwn.never rfl (pi_list (pe_lst (pa_cons (pe_call G9 hr20 (by rfl) m9 k9 b9 .nil (passes_call LamX.takes0 fun _ _ _ _ h => (h : False)) (pa_cons (pv 7) (pa_cons (pv 8) pa_nil))) (pa_cons (pe_callN0 G9 hr20 (by rfl) m9 k9 kb9 (passes_call LamX.takes0 fun _ _ _ _ h => (h : False)) (pk_cons (pv 8) (pk_cons (pe_callTy call_tuple_of (by rfl) mTu (by decide +kernel) (pa_cons (pv 7) pa_nil)) pk_nil))) pa_nil)))) (pg_name (i := 11) nd rfl (Or.inl rfl))
          (pss_one (ps_if (pt_cmpR op_ne (pe_callB (call_reprO hgd hu64) (by rfl) B3.repr bRepr (pa_cons (pv 11) pa_nil)) (pv 9) (nomark _)) (pss_one (ps_ret pe_bl)) pss_nil)))
        (pss_cons (ps_if (PW.pt (pw_or (pt_cmpR op_ne (pe_callG G10 hr3 hgd (by rfl) m10 k10 b10 (pa_cons (pv 8) pa_nil)) (pv 10) (nomark _)) (pw_or1 (pt_cmpR op_ne (pe_callB (call_reprL2 hgd hu64) (by rfl) B3.repr bRepr (pa_cons (pe_call G11 hr3 (by rfl) m11 k11 b11 .nil pass0 (pa_cons (pv 7) pa_nil)) pa_nil)) (pe_callB (call_reprL2 hgd hu64) (by rfl) B3.repr bRepr (pa_cons (pv 5) pa_nil)) (nomark _))))) (pss_one (ps_ret pe_bl)) pss_nil)
        (pss_cons (ps_set (i := 12) nd rfl (Or.inr rfl) (pe_op op_cat (pv 7) (pe_op op_rep (pe_lst (pa_cons (pe_tup (pa_cons (pe_ix ix_list (pv 4) pe_int (fun _ _ => rfl)) (pa_cons (pe_ix ix_list (pv 4) pe_int (fun _ _ => rfl)) (pa_cons (pe_makeQ0 T.mkC FI hr4 (by rfl) T.gC pass0) pa_nil)))) pa_nil)) (pe_op op_add (pe_op op_sub pe_int (pe_callB call_len_seq (by rfl) B.len PySem.boot_len (pa_cons (pv 7) pa_nil))) (pe_call G2 hr1 (by rfl) m2 k2 b2 .nil pass0 (pa_cons (pv 1) (pa_cons pe_int pa_nil)))))))
        (pss_one (ps_if (pt_cmpR op_ne (LamX.pe_lamcall (T := tabL Pt) (TT := TRefX CT) (t := fun E => tCall (spFro C CT) [] E (tCons (tVar 12) (tCons (tVar 8) tNil))) (c := c0) (P := Pt) (k := 20) (Ng := nRef) (a := "_law_call") (by rfl) m13 k13 lk13 cg13 b13 scRef rfl (Or.inl rfl) (ref_gives XC mTM B2.isi mOE) TB rfl hmT huT hr (lamS_by (by show lamSB (defScope sLaw) _ = true; decide +kernel)) rfl (fun _ _ _ _ _ => rfl) (fun A outer s H E f c' hr' => pe_call G9 hr' (by rfl) m9 k9 b9 .nil (passes_call (takes_of rfl rfl rfl rfl) fun _ _ _ _ h => h) (pa_cons (pv 12) (pa_cons (pv 8) pa_nil)))) pe_int (nomark _)) (pss_one (ps_ret pe_bl)) pss_nil))))))))))))
      (pss_one (ps_ret (pe_call G12 hr21 (by rfl) m12 k12 b12 .nil pass0 (pa_cons (pv 1) pa_nil))))), ?_⟩
    -- the pen
    refine seq_step (fun σ' H' => ∃ p c, σ' = [some (.ref a), some (.ref p), none, none, none, none, none, none, none, none, none, none, none, none, none, none] ∧ Same H H' ∧ PenAt H' p c ns 0 0) (fun R hR => ?_) (fun σ1 H1 h1 => ?_)
    · exact ⟨_, rfl, a, ns, rfl, hS, hl, fun p c H' same PA => hR _ _ ⟨p, c, rfl, same, PA⟩⟩
    obtain ⟨p, c, rfl, same1, PA⟩ := h1
    have hT1 := hT0.ext same1
    have hN : (4 + (if ((ns.map V.int).length : Int) < 4 then ((ns.map V.int).length : Int) else 4)).toNat ≤ 8 := by split <;> omega
    -- the turns
    refine seq_step (fun σ' H' => ∃ x2 x3 x4 x5 x6 x7 x8 x9 x10 x11 x12 x13 x14 x15 u r, σ' = [some (.ref a), some (.ref p), x2, x3, x4, x5, x6, x7, x8, x9, x10, x11, x12, x13, x14, x15] ∧ PenAt H' p c ns u r ∧ u ≤ 5000) (fun R hR => ?_) (fun σ2 H2 h2 => ?_)
    · refine ⟨_, rfl, _, _, rfl, .inl (same1.seq hS), _, _, rfl, _, _, rfl, rfl, _, rfl, by omega, by omega, for_range (n := (4 + (if ((ns.map V.int).length : Int) < 4 then ((ns.map V.int).length : Int) else 4)).toNat)
        (fun i σ' H' => (∃ x2 x3 x4 x5 x6 x7 x8 x9 x10 x11 x12 x13 x14 x15, σ' = [some (.ref a), some (.ref p), x2, x3, x4, x5, x6, x7, x8, x9, x10, x11, x12, x13, x14, x15]) ∧ Tabs (tabL Pt) H' ∧ ∃ u r, PenAt H' p c ns u r ∧ u ≤ 600 * i)
        ⟨⟨_, _, _, _, _, _, _, _, _, _, _, _, _, _, rfl⟩, hT1, 0, 0, PA, by omega⟩ ?_ (fun σ' H' h => ?_)⟩
      · clear hR PA
        rintro i σ' H' hi ⟨⟨x2, x3, x4, x5, x6, x7, x8, x9, x10, x11, x12, x13, x14, x15, rfl⟩, hT, u, r, PA, hu0⟩
        have hi12 : i < 8 := Nat.lt_of_lt_of_le hi hN
        have hu1 : u ≤ 4800 := by omega
        -- kinds, houses
        refine seq_step (fun σ' H' => ∃ (kl hl : Addr) (ks hs : List Str) (u' r' : Int), σ' = [some (.ref a), some (.ref p), some (.int (0 + (i : Int))), some (.ref kl), some (.ref hl), x5, x6, x7, x8, x9, x10, x11, x12, x13, x14, x15] ∧ Tabs (tabL Pt) H' ∧ H' kl = some (.lst (ks.map V.str)) ∧ H' hl = some (.lst (hs.map V.str)) ∧ ks.length = 2 ∧ ks.Nodup ∧ (∀ z ∈ ks, Wd 1 8 z) ∧ hs.length ≤ 5 ∧ 2 ≤ hs.length ∧ hs.Nodup ∧ (∀ z ∈ hs, Wd 1 8 z) ∧ u' ≤ u + 26 ∧ PenAt H' p c ns u' r') (fun R hR => ?_) (fun σ3 H3 h3 => ?_)
        · refine ⟨_, rfl, p, c, ns, u, r, 2, rfl, PA, by omega, by omega, fun kl ks u2 r2 H2 _ gk lk nk wk hu2 PA2 keep2 => ?_⟩
          refine ⟨_, rfl, _, rfl, p, c, ns, u2, r2, 4, rfl, PA2, by omega, by decide, by decide, fun e2 u3 r3 H3 e3 e4 hu3 PA3 keep3 => ?_⟩
          refine ⟨_, _, rfl, rfl, p, c, ns, u3, r3, (2 + e2).toNat, ?_, PA3, by omega, by omega, fun hl hs u4 r4 H4 _ gh lh nh wh hu4 PA4 keep4 => ?_⟩
          · show [V.ref p, V.int (2 + e2)] = [V.ref p, V.int (((2 + e2).toNat : Nat) : Int)]
            rw [Int.toNat_of_nonneg (by omega)]
          exact ⟨_, _, rfl, hR _ _ ⟨kl, hl, ks, hs, u4, r4, rfl, Tabs.keepP (Tabs.keepP (Tabs.keepP hT PA keep2) PA2 keep3) PA3 keep4, (keep3.trans keep4) _ _ gk (PA2.nl gk), gh, lk, nk, wk, by omega, by omega, nh, wh, by omega, PA4⟩⟩
        obtain ⟨kl, hl, ks, hs, u3, r3, rfl, hT3, gK, gH, lK, nK, wK, lH, lH2, nH, wH, hu3, PA3⟩ := h3
        -- rows
        refine seq_step (fun σ' H' => ∃ (L : Addr) (ts : List Addr) (rows : List Row) (u' r' : Int), σ' = [some (.ref a), some (.ref p), some (.int (0 + (i : Int))), some (.ref kl), some (.ref hl), some (.ref L), x6, x7, x8, x9, x10, x11, x12, x13, x14, x15] ∧ Tabs (tabL Pt) H' ∧ H' hl = some (.lst (hs.map V.str)) ∧ H' L = some (.lst (ts.map V.ref)) ∧ Paired (RowAt p H') ts rows ∧ (∀ r ∈ rows, RowOk r ∧ ∀ z ∈ r.2.2.map (·.1), z ∈ ks) ∧ rows.length ≤ 5 ∧ u' ≤ u + 330 ∧ PenAt H' p c ns u' r') (fun R hR => ?_) (fun σ4 H4 h4 => ?_)
        · refine ⟨_, rfl, _, rfl, _, rfl, _, rfl, by show 9 ≤ sizeLine; decide, fun l hl' => ?_⟩
          have sl := same_new (o := .lst [.int 0, .int 1, .int 2, .int 3, .int 4, .int 5, .int 4, .int 5, .int 5]) hl'
          refine ⟨p, c, .ref l, ns, u3, r3, rfl, PA3.same sl, by omega, .inl ⟨l, [.int 0, .int 1, .int 2, .int 3, .int 4, .int 5, .int 4, .int 5, .int 5], rfl, upd_same, by show 0 < 9; decide, by show 9 ≤ 100000; decide, fun v u5 r5 H5 hv hu5 PA5 keep5 => ?_⟩⟩
          obtain ⟨n, rfl, hn⟩ : ∃ n : Nat, v = .int (n : Int) ∧ n ≤ 5 := by
            simp only [List.mem_cons, List.mem_nil_iff, or_false] at hv
            rcases hv with h | h | h | h | h | h | h | h | h
            · exact ⟨0, h, by decide⟩
            · exact ⟨1, h, by decide⟩
            · exact ⟨2, h, by decide⟩
            · exact ⟨3, h, by decide⟩
            · exact ⟨4, h, by decide⟩
            · exact ⟨5, h, by decide⟩
            · exact ⟨4, h, by decide⟩
            · exact ⟨5, h, by decide⟩
            · exact ⟨5, h, by decide⟩
          have kp := (SameP.of sl).trans keep5
          have hT5 := Tabs.keepP hT3 PA3 kp
          refine ⟨p, c, kl, hl, ks, hs, ns, u5, r5, n, rfl, PA5, kp _ _ gK (PA3.nl gK), by omega, by omega, nK, wK, kp _ _ gH (PA3.nl gH), by omega, lH2, nH, wH, hn, by omega, fun L ts rows u6 r6 H6 _ gL hrows hok hlen hu6 PA6 keep6 => ?_⟩
          exact hR _ _ ⟨L, ts, rows, u6, r6, rfl, Tabs.keepP hT5 PA5 keep6, keep6 _ _ (kp _ _ gH (PA3.nl gH)) (PA3.nl gH), gL, hrows, hok, by omega, by omega, PA6⟩
        obtain ⟨L, ts, rows, u4, r4, rfl, hT4, gH4, gL, hrows, hok, hlen, hu4, PA4⟩ := h4
        clear gK gH hT3 PA3
        -- held
        refine seq_step (fun σ' H' => ∃ (hd : Addr) (LH : List (Str × List (Str × Int))) (u' r' : Int), σ' = [some (.ref a), some (.ref p), some (.int (0 + (i : Int))), some (.ref kl), some (.ref hl), some (.ref L), some (.ref hd), x7, x8, x9, x10, x11, x12, x13, x14, x15] ∧ Tabs (tabL Pt) H' ∧ H' hl = some (.lst (hs.map V.str)) ∧ H' L = some (.lst (ts.map V.ref)) ∧ Paired (RowAt p H') ts rows ∧ EntAt (LdX [p]) H' hd LH ∧ (LH.map (·.1)).Nodup ∧ LH.length ≤ 40 ∧ (∀ l ∈ LH, wordB l.1 = true ∧ Can l.2 ∧ ∀ q ∈ l.2, 0 ≤ q.2 ∧ q.2 ≤ 10000000 ∧ q.1 ∈ ks) ∧ u' ≤ u + 440 ∧ PenAt H' p c ns u' r') (fun R hR => ?_) (fun σ5 H5 h5 => ?_)
        · refine ⟨_, rfl, p, c, ns, u4, r4, 8, rfl, PA4, by omega, by decide, by decide, fun e u5 r5 H5 e0 e1 hu5 PA5 keep5 => ⟨_, _, rfl, rfl, _, rfl, ifb (fun _ => ?_) (fun _ => ?_)⟩⟩
          · have hT5 := Tabs.keepP hT4 PA4 keep5
            have hrows5 : Paired (RowAt p H5) ts rows := Paired.mono (fun _ _ h => h.keepP PA4 keep5) hrows
            have htl := Paired.length hrows
            refine ⟨_, rfl, _, rfl, p, c, L, ts, ks, ns, u5, r5, rfl, PA5, keep5 _ _ gL (PA4.nl gL), fun t ht => ?_, by omega, by omega, by omega, fun H6 b es u6 r6 hb keep6 PA6 hu6 gb ue le => ?_⟩
            · obtain ⟨r0, hr0, h1⟩ := paired_ex hrows5 t ht
              exact ⟨r0, h1, (hok r0 hr0).1, (hok r0 hr0).2⟩
            · obtain ⟨LH, hLH, ndL, lenL, propL⟩ := ue.list gb
              exact hR _ _ ⟨b, LH, u6, r6, rfl, Tabs.keepP hT5 PA5 keep6, keep6 _ _ (keep5 _ _ gH4 (PA4.nl gH4)) (PA4.nl gH4), keep6 _ _ (keep5 _ _ gL (PA4.nl gL)) (PA4.nl gL), Paired.mono (fun _ _ h => h.keepP PA5 keep6) hrows5, hLH, ndL, by omega, propL, by omega, PA6⟩
          · intro hd hhd
            have s0 := same_new (o := .dK []) hhd
            have kp := keep5.trans (.of s0)
            exact hR _ _ ⟨hd, [], u5, r5, rfl, Tabs.keepP hT4 PA4 kp, kp _ _ gH4 (PA4.nl gH4), kp _ _ gL (PA4.nl gL), Paired.mono (fun _ _ h => h.keepP PA4 kp) hrows, ⟨[], upd_same, .nil⟩, List.nodup_nil, Nat.zero_le _, (fun _ h => nomatch h), by omega, PA5.same s0⟩
        obtain ⟨hd, LH, u5, r5, rfl, hT5, gH5, gL5, hrows5, hLH, ndL, lenL, propL, hu5, PA5⟩ := h5
        clear hrows gL PA4 hT4 gH4
        have htl := Paired.length hrows5
        have hcanL : ∀ l ∈ LH, Can l.2 ∧ wordB l.1 = true := fun l hl => ⟨(propL l hl).2.1, (propL l hl).1⟩
        have hfind : ∀ h, ∃ ps, (∀ z, sL LH h z = ct ps z) ∧ (ps = [] ∨ ∃ l ∈ LH, l.2 = ps) := fun h => by
          refine ⟨((LH.find? fun l => decide (l.1 = h)).map (·.2)).getD [], fun z => rfl, ?_⟩
          cases e : LH.find? (fun l => decide (l.1 = h)) with
          | none => exact .inl rfl
          | some l => exact .inr ⟨l, List.mem_of_find?_eq_some e, rfl⟩
        have hpos : Pos0 (sL LH) := fun h z => by
          obtain ⟨ps, e, h1⟩ := hfind h
          rw [e]
          rcases h1 with rfl | ⟨l, hl, rfl⟩
          · exact Int.le_refl 0
          · exact (ct_bnd (propL l hl).2.1.nd (propL l hl).2.2 (Int.le_refl 0) (by decide) z).1
        have hsup : SupW ks (sL LH) := fun h z hz => by
          obtain ⟨ps, e, h1⟩ := hfind h
          rw [e] at hz
          rcases h1 with rfl | ⟨l, hl, rfl⟩
          · exact absurd rfl hz
          · obtain ⟨q, hq, e1⟩ := List.mem_map.mp (ct_in hz)
            have e1 : q.1 = z := e1
            rw [← e1]
            exact ((propL l hl).2.2 q hq).2.2
        obtain ⟨kvp, hpp, _⟩ := id PA5.ob
        -- some
        refine seq_step (fun σ' H' => ∃ (M : Addr) (us : List Addr), σ' = [some (.ref a), some (.ref p), some (.int (0 + (i : Int))), some (.ref kl), some (.ref hl), some (.ref L), some (.ref hd), some (.ref M), x8, x9, x10, x11, x12, x13, x14, x15] ∧ Same H5 H' ∧ H' M = some (.lst (us.map V.ref)) ∧ Paired (DrvAt C H') us rows) (fun R hR => ?_) (fun σ6 H6 h6 => ?_)
        · refine ⟨_, rfl, L, rfl, ⟨_, .inl (.inl gL5)⟩, fun D hD => ?_⟩
          refine lc_it (walk_list (xs := ts.map V.ref)) (fun j H' => ∃ us : List Addr, Same H5 H' ∧ H' D = some (.lst (us.map V.ref)) ∧ Paired (DrvAt C H') us (rows.take j))
            ⟨[], same_new hD, upd_same, .nil⟩ (fun j H' _ ⟨_, h, _⟩ => .inl (.inl (h _ _ gL5))) ?_ ?_
          · rintro j x H6 H7 hj ⟨us, same, eD, hus⟩ ⟨rfl, hx⟩
            rw [List.length_map] at hj
            rw [List.getElem?_map, List.getElem?_eq_getElem hj] at hx
            obtain rfl : x = V.ref ts[j] := (Option.some.inj hx).symm
            have hjr : j < rows.length := by omega
            have hri : rows[j]? = some rows[j] := List.getElem?_eq_getElem hjr
            have hro := (hok _ (List.getElem_mem hjr)).1
            obtain ⟨e, _, h1, h2⟩ : RowAt p H5 ts[j] rows[j] := Paired.nth hrows5 (List.getElem?_eq_getElem hj) hri
            have h3 := same _ _ h1
            have h4 := same _ _ h2
            refine ⟨ts[j], _, rfl, .inl (.inl h3), rfl, _, _, rfl, _, _, rfl, _, _, rfl, rfl, rfl, _, rfl, _, rfl, rfl, _, rfl, .ref C, e, rows[j].2.2, rfl, ⟨h4, hro.can.nd, hro.can.few, hro.can.wd⟩, fun H8 x ps' s8 hx0 hL hC => ⟨by show 3 ≤ sizeLine; decide, fun T1 hT => ?_⟩⟩
            have e0 : ps' = rows[j].2.2 := by
              obtain ⟨_, _, _, _, cn⟩ := id hL
              exact can_eq cn hro.can hC
            subst e0
            have a2 := same_new (o := .tup [.str rows[j].1, .str rows[j].2.1, .ref x]) hT
            have a12 := s8.trans a2
            have eD9 := a12 _ _ eD
            have nTD : T1 ≠ D := (ne_of_none (s8 _ _ eD) hT).symm
            have sLL := sameL_upd (ys := us.map V.ref ++ [V.ref T1]) eD9
            refine ⟨_, eD9, ?_, us ++ [T1], ?_, ?_, ?_⟩
            · have := Paired.length hus
              rw [List.length_map, this, List.length_take]
              exact Nat.lt_of_le_of_lt (by omega : _ ≤ 7) (by decide)
            · intro b o eb
              rw [upd_ne (ne_of_none eb hD)]
              exact a12 _ _ (same _ _ eb)
            · rw [upd_same, List.map_append]
              rfl
            · rw [List.take_succ, hri]
              refine .snoc (Paired.mono (fun t r h => ?_) hus) ⟨x, ?_, ?_⟩
              · obtain ⟨y, q1, q2⟩ := h.same a12
                exact ⟨y, sLL _ _ q1 (fun _ z => nomatch z), q2.sameL sLL⟩
              · rw [upd_ne nTD, upd_same]
              · exact (hL.same a2).sameL sLL
          · rintro H6 ⟨us, same, eD, hus⟩
            rw [List.length_map, htl, List.take_length] at hus
            exact hR _ _ ⟨D, us, rfl, same, eD, hus⟩
        obtain ⟨M, us, rfl, s6, gM, hdrv⟩ := h6
        have hul := Paired.length hdrv
        have hrd : ∀ r ∈ rows, RowD ks r := fun r hr => by
          obtain ⟨h1, h2⟩ := hok r hr
          exact ⟨h1.w1, h1.w2, h1.ne, h1.can, Nat.le_trans h1.few (by decide), h1.one, h2⟩
        have hbd : ∀ t, dfs rows rows.length (List.range rows.length) (sL LH) = some t → t.length ≤ 9 ∧ ∀ i ∈ t, i < 9 := fun t ht => by
          refine ⟨by have := dfs_len ht; omega, fun i hi => ?_⟩
          have := List.mem_range.mp (dfs_mem ht i hi)
          omega
        generalize hoo : dfs rows rows.length (List.range rows.length) (sL LH) = oo at hbd
        -- given, due
        refine seq_step (fun σ' H' => ∃ g : Addr, σ' = [some (.ref a), some (.ref p), some (.int (0 + (i : Int))), some (.ref kl), some (.ref hl), some (.ref L), some (.ref hd), some (.ref M), some (.ref g), some (.str (txO oo)), x10, x11, x12, x13, x14, x15] ∧ Same H6 H' ∧ EntAt (LoadAt C) H' g LH) (fun R hR => ?_) (fun σ7 H7 h7 => ?_)
        · have hLH6 : EntAt (LdX [p]) H6 hd LH := hLH.imp (fun kvs e => s6 _ _ e) fun _ _ r => r.same s6
          refine ⟨_, rfl, hd, LH, rfl, hLH6.imp (fun _ e => e) (fun _ _ r => ⟨List.not_mem_nil, r.2⟩), ndL, by omega, fun l hl => (hcanL l hl).1, fun H7 g s7 hg gg => ?_⟩
          have s67 := s6.trans s7
          refine ⟨_, rfl, _, rfl, _, rfl, L, _, rfl, .inl (.inl (.inl (s67 _ _ gL5))), _, rfl, fun rg hrg => ⟨rg, (ts.map V.ref).length, rfl, upd_same, by rw [List.length_map]; omega, fun l hl => ?_⟩⟩
          have t1 := same_new (o := .rng 0 ((ts.map V.ref).length : Int)) hrg
          have t2 := same_new (o := .lst (iV (List.range (ts.map V.ref).length))) hl
          have s7l := s67.trans (t1.trans t2)
          have hLH7 : EntAt (LdX [p]) _ hd LH := hLH.imp (fun kvs e => s7l _ _ e) fun _ _ r => r.same s7l
          refine ⟨rows.length, hlen, p, L, hd, l, ts, rows, List.range rows.length, sL LH, ks, LH.length, rfl, ⟨_, s7l _ _ hpp⟩, s7l _ _ gL5, Paired.mono (fun _ _ h => h.same s7l) hrows5, fun r hr => (hok r hr).1, hLH7.stk ndL hcanL, by omega, hpos, hsup, fun r hr => (hok r hr).2, by omega, ?_, List.length_range, List.nodup_range, fun i hi => List.mem_range.mp hi, by omega, fun v H8 s8 out => ?_⟩
          · have := upd_same (H := upd H7 rg (.rng 0 ((ts.map V.ref).length : Int))) (a := l) (o := .lst (iV (List.range (ts.map V.ref).length)))
            rw [List.length_map, htl] at this
            rw [List.length_map, htl]
            exact this
          · rw [hoo] at out
            refine ⟨v, oo, rfl, out, hbd, by show 2 ≤ sizeLine; decide, fun T1 hT => ?_⟩
            have tT := same_new (o := .tup [.ref g, .str (txO oo)]) hT
            have s7T := s7.trans ((t1.trans t2).trans (s8.trans tT))
            exact ⟨T1, _, rfl, .inl (.inl upd_same), rfl, _, _, rfl, _, _, rfl, rfl, hR _ _ ⟨g, rfl, s7T, gg.imp (fun kvs e => tT _ _ (s8 _ _ (t2 _ _ (t1 _ _ e)))) fun _ _ r => r.same ((t1.trans t2).trans (s8.trans tT))⟩⟩
        obtain ⟨g, rfl, s7, gg⟩ := h7
        have hshp : ∀ l ∈ LH, wordB l.1 = true ∧ l.2.length ≤ 10 ∧ ∀ q ∈ l.2, wordB q.1 = true ∧ q.2.natAbs < 10 ^ 100 := fun l hl => by
          obtain ⟨h1, h2, h3⟩ := propL l hl
          refine ⟨h1, Nat.le_trans (len_W h2.nd h3) (by omega), fun q hq => ⟨h2.wd q hq, ?_⟩⟩
          have b : (10000000 : Nat) < 10 ^ 100 := by decide +kernel
          have := h3 q hq
          exact Nat.lt_of_le_of_lt (by omega) b
        -- was
        refine seq_step (fun σ' H' => σ' = [some (.ref a), some (.ref p), some (.int (0 + (i : Int))), some (.ref kl), some (.ref hl), some (.ref L), some (.ref hd), some (.ref M), some (.ref g), some (.str (txO oo)), some (.str (PyData.list (LH.map dPair)).shown), x11, x12, x13, x14, x15] ∧ Same H7 H') (fun R hR => ?_) (fun σ8 H8 h8 => ?_)
        · exact ⟨_, rfl, g, LH, rfl, gg, ndL, by omega, hshp, fun H8 s8 => hR _ _ ⟨rfl, s8⟩⟩
        obtain ⟨rfl, s8⟩ := h8
        generalize hwas : (PyData.list (LH.map dPair)).shown = was
        have s78 := s7.trans s8
        have s58 := s6.trans s78
        have gM8 := s78 _ _ gM
        have hdrv8 : Paired (DrvAt C H8) us rows := Paired.mono (fun _ _ h => h.same s78) hdrv
        have gg8 : EntAt (LoadAt C) H8 g LH := gg.imp (fun kvs e => s8 _ _ e) fun _ _ r => r.same s8
        have hgo : ∀ {H' : Hp} {v : V}, EntAt (LoadAt C) H' g LH → Paired (DrvAt C H') us rows → OutAt [] (dfs rows rows.length (List.range rows.length) (sL LH)) v H' → OutAt [] oo v H' := fun {H' v} _ _ h => hoo ▸ h
        -- the two calls
        refine seq_step (fun σ' H' => ∃ y11, σ' = [some (.ref a), some (.ref p), some (.int (0 + (i : Int))), some (.ref kl), some (.ref hl), some (.ref L), some (.ref hd), some (.ref M), some (.ref g), some (.str (txO oo)), some (.str was), y11, x12, x13, x14, x15] ∧ Same H8 H') (fun R hR => ?_) (fun σ9 H9 h9 => ?_)
        · refine ⟨_, rfl, _, rfl, M, g, us, rfl, .inl gM8, .inl ⟨rows, sL LH, ks, LH.length, by omega, hdrv8, hrd, by omega, gg8.stk ndL hcanL, by omega, hpos, hsup, fun v1 H9 s9 out1 => ?_⟩⟩
          refine ⟨_, rfl, _, rfl, M, us.map V.ref, rfl, .inl ⟨.inl (.inl (s9 _ _ gM8)), fun l hl => ⟨rfl, rfl, ?_⟩⟩⟩
          rw [hgv]
          have tl := same_new (o := .tup (us.map V.ref)) hl
          have s9l := s9.trans tl
          refine ⟨l, g, us, rfl, .inr upd_same, .inl ⟨rows, sL LH, ks, LH.length, by omega, Paired.mono (fun _ _ h => h.same s9l) hdrv8, hrd, by omega, (gg8.imp (fun kvs e => s9l _ _ e) fun _ _ r => r.same s9l).stk ndL hcanL, by omega, hpos, hsup, fun v2 HA sA out2 => ⟨by show 2 ≤ sizeLine; decide, fun I hI => ?_⟩⟩⟩
          rw [hoo] at out1 out2
          have sI := same_new (o := .lst [v1, v2]) hI
          have keepO : ∀ {H' H'' : Hp} {v : V}, Same H' H'' → OutAt [] oo v H' → OutAt [] oo v H'' := fun {H' H'' v} sm h => h.imp (fun h => h) fun ⟨t, p0, h1, h2, h3⟩ => ⟨t, p0, h1, h2, sm _ _ h3⟩
          have o1 := keepO (tl.trans (sA.trans sI)) out1
          have o2 := keepO sI out2
          have gI := upd_same (H := HA) (a := I) (o := .lst [v1, v2])
          have s8I := s9l.trans (sA.trans sI)
          clear hI sI sA s9l tl hl out1 out2
          generalize upd HA I (.lst [v1, v2]) = HB at o1 o2 gI s8I ⊢
          refine ⟨I, rfl, ⟨_, .inl (.inl gI)⟩, for_list (xs := [v1, v2]) (fun j σ' H' => ∃ y11, σ' = [some (.ref a), some (.ref p), some (.int (0 + (i : Int))), some (.ref kl), some (.ref hl), some (.ref L), some (.ref hd), some (.ref M), some (.ref g), some (.str (txO oo)), some (.str was), y11, x12, x13, x14, x15] ∧ Same HB H')
            ⟨_, rfl, fun _ _ e => e⟩ (fun j σ' H' _ ⟨_, _, h⟩ => .inl (.inl (h _ _ gI))) ?_ ?_⟩
          · rintro j y σ' HC hy ⟨y11, rfl, sC⟩
            have oy : OutAt [] oo y HC := by
              match j, hy with
              | 0, hy => exact keepO sC ((Option.some.inj hy) ▸ o1)
              | 1, hy => exact keepO sC ((Option.some.inj hy) ▸ o2)
            exact ⟨_, rfl, y, oo, rfl, oy, hbd, _, rfl, rfl, _, rfl, if_ne ⟨_, rfl, sC⟩⟩
          · rintro σ' HC ⟨y11, rfl, sC⟩
            exact hR _ _ ⟨_, rfl, s8I.trans sC⟩
        obtain ⟨y11, rfl, s9⟩ := h9
        have gM9 := s9 _ _ gM8
        have hdrv9 : Paired (DrvAt C H9) us rows := Paired.mono (fun _ _ h => h.same s9) hdrv8
        have gg9 : EntAt (LoadAt C) H9 g LH := gg8.imp (fun kvs e => s9 _ _ e) fun _ _ r => r.same s9
        have s59 := s58.trans s9
        obtain ⟨sr1, sr2, sr3⟩ := shw_rows (fun r hr => (hok r hr).1) (by omega : rows.length ≤ 7)
        -- nothing changed
        refine seq_step (fun σ' H' => σ' = [some (.ref a), some (.ref p), some (.int (0 + (i : Int))), some (.ref kl), some (.ref hl), some (.ref L), some (.ref hd), some (.ref M), some (.ref g), some (.str (txO oo)), some (.str was), y11, x12, x13, x14, x15] ∧ Same H9 H') (fun R hR => ?_) (fun σA HA hA => ?_)
        · refine ⟨_, rfl, g, LH, rfl, gg9, ndL, by omega, hshp, fun HB sB => ?_⟩
          rw [hwas]
          refine ⟨_, rfl, rfl, _, rfl, if_ne ⟨_, rfl, M, us, rows, rfl, sB _ _ gM9, Paired.mono (fun _ _ h => h.same sB) hdrv9, by omega, fun HC M2 vs sC _ gM2 hvs => ?_⟩⟩
          have sBC := sB.trans sC
          have gLC := sBC _ _ (s59 _ _ gL5)
          have hrC : Paired (DRow HC) ts rows := Paired.mono (fun _ _ h => (h.same (s59.trans sBC)).dr) hrows5
          exact ⟨M2, vs.map V.ref, rows.map dRow, rfl, .inl (.inl gM2), it_rows hvs, sr1, sr2, sr3, _, rfl, L, ts.map V.ref, rows.map dRow, rfl, .inl (.inl gLC), it_rows hrC, sr1, sr2, sr3, rfl, _, rfl, if_ne (hR _ _ ⟨rfl, sBC⟩)⟩
        obtain ⟨rfl, sA⟩ := hA
        have s5A := s59.trans sA
        have PA_A := PA5.same s5A
        have gMA := sA _ _ gM9
        have gHA := s5A _ _ gH5
        -- more
        refine seq_step (fun σ' H' => ∃ (mr : Addr) (as : List Addr) (u' r' : Int), σ' = [some (.ref a), some (.ref p), some (.int (0 + (i : Int))), some (.ref kl), some (.ref hl), some (.ref L), some (.ref hd), some (.ref M), some (.ref g), some (.str (txO oo)), some (.str was), y11, some (.ref mr), x13, x14, x15] ∧ Tabs (tabL Pt) H' ∧ H' mr = some (.lst (as.map V.ref)) ∧ 9 < as.length ∧ EntAt (LoadAt C) H' g LH ∧ u' ≤ u + 450 ∧ PenAt H' p c ns u' r') (fun R hR => ?_) (fun σB HB hB => ?_)
        · have hh0 : (hs.map V.str)[0]? = some (V.str (hs[0]'(by omega))) := by rw [List.getElem?_map, List.getElem?_eq_getElem (by omega)]; rfl
          have hh1 : (hs.map V.str)[1]? = some (V.str (hs[1]'(by omega))) := by rw [List.getElem?_map, List.getElem?_eq_getElem (by omega)]; rfl
          refine ⟨_, rfl, _, rfl, hl, _, 0, _, rfl, rfl, .inl (.inl gHA), atI_nat (j := 0) hh0, _, rfl, hl, _, 1, _, rfl, rfl, .inl (.inl gHA), atI_nat (j := 1) hh1, rfl, made_load (y := []) (zs := []) (ps := []) rfl rfl List.nodup_nil (by decide) (fun _ h => nomatch h) fun HB o1 zs sB ho1 h1 hc0 => ⟨by show 3 ≤ sizeLine; decide, fun T hT => ⟨by show 1 ≤ sizeLine; decide, fun l hl' => ?_⟩⟩⟩
          have tT := same_new (o := .tup [.str (hs[0]'(by omega)), .str (hs[1]'(by omega)), .ref o1]) hT
          have tl := same_new (o := .lst [.ref T]) hl'
          have sAl := sB.trans (tT.trans tl)
          have PAl := PA_A.same sAl
          refine ⟨_, rfl, M, _, rfl, .inl (.inl (.inl (sAl _ _ gMA))), _, _, rfl, rfl, _, rfl, p, c, ns, u5, r5, 3, rfl, PAl, by omega, by decide, by decide, fun e u6 r6 HC e0 e1 hu6 PA6 keep6 => ⟨_, _, rfl, rfl, ?_⟩⟩
          have gl6 := keep6 _ _ (upd_same (a := l) (o := .lst [.ref T])) (PAl.nl upd_same)
          have gM6 := keep6 _ _ (sAl _ _ gMA) (PA_A.nl gMA)
          have hk : (10 : Int) - ((us.map V.ref).length : Int) + e = ((10 - us.length + e.toNat : Nat) : Int) := by
            rw [List.length_map]
            omega
          refine ⟨l, ((10 - us.length + e.toNat : Nat) : Int), [.ref T], rfl, congrArg V.int hk, gl6, by omega, by omega, ?_, fun q hq => ?_⟩
          · rw [Int.toNat_natCast]
            show 1 * _ ≤ _
            exact Nat.le_trans (by omega : _ ≤ 20) (by decide)
          have tq := same_new (o := .lst (List.replicate ((10 - us.length + e.toNat : Nat) : Int).toNat [V.ref T]).flatten) hq
          have erep : (List.replicate ((10 - us.length + e.toNat : Nat) : Int).toNat [V.ref T]).flatten = (List.replicate (10 - us.length + e.toNat) T).map V.ref := by
            rw [Int.toNat_natCast, List.flatten_replicate_singleton, List.map_replicate]
          refine ⟨M, q, us.map V.ref, _, rfl, rfl, tq _ _ gM6, upd_same, ?_, fun z hz => ?_⟩
          · rw [erep, List.length_map, List.length_map, List.length_replicate]
            exact Nat.le_trans (by omega : _ ≤ 20) (by decide)
          have tz := same_new (o := .lst (us.map V.ref ++ (List.replicate ((10 - us.length + e.toNat : Nat) : Int).toNat [V.ref T]).flatten)) hz
          have sqz := tq.trans tz
          have ggl : EntAt (LoadAt C) _ g LH := gg9.imp (fun kvs e => sAl _ _ (sA _ _ e)) fun _ _ r => r.same (sA.trans sAl)
          refine hR _ _ ⟨z, us ++ List.replicate (10 - us.length + e.toNat) T, u6, r6, rfl, (Tabs.keepP (hT5.ext (s5A.trans sAl)) PAl keep6).ext sqz, ?_, ?_, ?_, by omega, PA6.same sqz⟩
          · rw [upd_same, erep, List.map_append]
          · rw [List.length_append, List.length_replicate]
            omega
          · refine (ggl.imp (H' := HC) (R' := LoadAt C) ?_ ?_).imp (fun kvs e => sqz _ _ e) fun _ _ r => r.same sqz
            · intro kvs e
              refine keep6 _ _ e ?_
              obtain ⟨es, h1, _⟩ := ggl
              exact PAl.ne_eD h1
            · intro x ps r
              exact r.penP PAl keep6
        obtain ⟨mr, as, u6, r6, rfl, hTB, gmr, hasl, ggB, hu6, PAB⟩ := hB
        -- refused
        refine ⟨hTB, fun H1 eN T1 => ?_⟩
        refine ⟨_, rfl, _, rfl, mr, g, as, rfl, .inl (eN _ _ gmr (fun _ z => nomatch z)), .inr ⟨hasl, fun H' d sd hd => ⟨rfl, d, .int 9, rfl, hd, rfl, _, rfl, if_ne ⟨⟨_, _, _, _, _, _, _, _, _, _, _, _, _, _, rfl⟩, T1.ext sd, u6, r6, (PAB.extN eN).same sd, by omega⟩⟩⟩⟩
      · obtain ⟨⟨x2, x3, x4, x5, x6, x7, x8, x9, x10, x11, x12, x13, x14, x15, rfl⟩, _, u, r, PA', hu'⟩ := h
        exact hR _ _ ⟨_, _, _, _, _, _, _, _, _, _, _, _, _, _, u, r, rfl, PA', by omega⟩
    obtain ⟨x2, x3, x4, x5, x6, x7, x8, x9, x10, x11, x12, x13, x14, x15, u, r, rfl, PA', hu'⟩ := h2
    exact ⟨_, rfl, p, c, ns, u, r, rfl, PA', by omega, fun H' => q _⟩
end
end Ld
namespace Ld
open PySem PySem.Spec PyProof.Rows L2
open TL
open LamX
/-! ### the end: a law's call where its code object has a table, by a promise without guards -/
theorem call_atG {P : Program} {w : World} {K : PySem.W.Frag} {mg mb : Str → Option Value} {k : Nat} {fa a c0 Pt : Addr} {fd : FuncData} {x : Str} {sp : Sp} {s₁ : Shared} {vs : List Value} {ns : List Int}
    (KX : K.In s₁.heap) (hns : s₁.heap.Ns mainGlobals mg) (hb : s₁.heap.Ns builtinsNs mb) (hbb : ∀ x : Str, x ≠ "__name__" → mb x = bootBuiltins x) (hlim : s₁.heap.NoLimit) (hg : s₁.gens = #[])
    (tP : s₁.heap.get? Pt = some { cls := .none, data := .fields #[] }) (nP : K.lookup Pt = none) (cP : PySem.W.CodeHd s₁.heap c0 Pt)
    (hbm : ∃ (bm : Addr) (ob : Obj), mg "__builtins__" = some (.ref bm) ∧ bm ≠ builtinsNs ∧ s₁.heap.get? bm = some ob ∧ ob.cls = .type "module" ∧ ob.dict = some builtinsNs ∧ ob.data = .plain)
    (ha : s₁.heap.get? a = some { cls := .type "list", data := .seq vs.toArray }) (hi : IntsAre vs ns) (hl : ns.length ≤ sizeLine) (hr : Room k callerA)
    (F : ∀ base : Heap, K.In base → base.Ns mainGlobals mg → TabB base mg c0 Pt → FnG P w K mg base k fa fd [x] sp) (hbind : ∀ (s : Shared) (u : Value), BindsTo s fd ⟨[u], []⟩ [(x, u)])
    (hsp : ∀ H : Hp, H Pt = some (.tbl #[]) → SqL K H a (ns.map V.int) → sp [.ref a] H (fun v _ => v = .bl true) L2.E0) :
    codeAny (model P w) callerA (.call (.ref fa) ⟨[.ref a], []⟩) (fun r s' => r = .ok (.ret (.bool true)) ∧ OldK s₁.heap s'.heap ∧ s'.os = s₁.os ∧ AllBare s'.gens) s₁ := by
  have rv := vals_ints hi
  have fsz : vs.length = ns.length := hi.length
  have aP : a ≠ Pt := fun z => by
    rw [z, tP] at ha
    cases ha
  have core : ∀ H : Hp, H Pt = some (.tbl #[]) → SqL K H a (ns.map V.int) → HOk P w H s₁.heap → (∀ b u, H b = some u → b = Pt ∨ (b = a ∧ K.lookup a = none ∧ ∃ o xs, u = .frz o (.lst xs))) →
      codeAny (model P w) callerA (.call (.ref fa) ⟨[.ref a], []⟩) (fun r s' => r = .ok (.ret (.bool true)) ∧ OldK s₁.heap s'.heap ∧ s'.os = s₁.os ∧ AllBare s'.gens) s₁ := by
    intro H hP hS hok hA
    have hid : ∀ {b : Addr} {o : Obj}, s₁.heap.get? b = some o → (∀ ws n, o.data ≠ .seq ws n) → o.data ≠ .fields #[] → (hidT s₁.heap H).get? b = some o := fun {b o} e h1 h2 => hidT_get e (by
      cases q : H b with
      | none => rfl
      | some u =>
        rcases hA b u q with z | ⟨z, _⟩
        · rw [z, tP] at e
          cases e
          exact (h2 rfl).elim
        · rw [z, ha] at e
          cases e
          exact (h1 _ _ rfl).elim)
    have under : ∀ {b : Addr} {m : Str → Option Value}, s₁.heap.Ns b m → (hidT s₁.heap H).Ns b m := fun {b m} ⟨o, es, ep, e, d, r⟩ => ⟨o, es, ep, hid e (fun ws n z => by rw [d] at z; cases z) (fun z => by rw [d] at z; cases z), d, r⟩
    have hKb : K.In (hidT s₁.heap H) := fun b o e => hidT_get (KX b o e) (by
      cases q : H b with
      | none => rfl
      | some u =>
        rcases hA b u q with z | ⟨z, n, _⟩
        · rw [z, nP] at e
          cases e
        · rw [z, n] at e
          cases e)
    have hM : Mod K mg (hidT s₁.heap H) := ⟨hKb, under hns, ⟨mb, under hb, hbb⟩, let ⟨mc, h1, h2⟩ := hlim; ⟨mc, under h1, h2⟩⟩
    have gP : mainGlobals ≠ Pt := fun z => by
      obtain ⟨o, es, ep, e, d, _⟩ := hns
      rw [z, tP] at e
      cases e
      cases d
    have TB : TabB (hidT s₁.heap H) mg c0 Pt := by
      refine ⟨?_, ?_, gP⟩
      · obtain ⟨o, us, file, tf, flags, tg, inF, text, tt, e, q1, q2, q3, rest⟩ := cP
        refine ⟨o, us, file, tf, flags, tg, inF, text, tt, hid e (fun ws n z => ?_) (fun z => ?_), q1, q2, q3, rest⟩
        · rw [q2] at z
          cases z
        · rw [q2] at z
          cases z
          simp at q3
      · obtain ⟨bm, ob, b1, b2, b3, b4, b5, b6⟩ := hbm
        refine ⟨bm, ob, b1, b2, fun z => ?_, fun z => ?_, hid b3 (fun ws n z => ?_) (fun z => ?_), b4, b5, b6⟩
        · obtain ⟨o, es, ep, e, d, _⟩ := hns
          rw [z, e] at b3
          cases b3
          rw [d] at b6
          cases b6
        · rw [z, tP] at b3
          cases b3
          cases b6
        · rw [b6] at z
          cases z
        · rw [b6] at z
          cases z
    have e0 : Env0 P w K mg (hidT s₁.heap H) callerA [] s₁ H := ⟨rfl, hM, fun b o e => of_hidT e, Nat.le_of_eq (hidT_size _ _), trivial, fun b z => absurd (show b ∈ ([] : List Addr) from z) (by simp), hok, .of_eq hg⟩
    refine codeAny_mono ((F _ hKb (under hns) TB).goes callerA [] s₁ H [.ref a] [.ref a] _ hr rfl e0 (hbind s₁ (.ref a)) (.cons rfl .nil) (hsp H hP hS)) fun r s' h => ?_
    cases r with
    | error e => exact False.elim h
    | ok fl =>
      cases fl with
      | next => exact False.elim h
      | brk => exact False.elim h
      | cont => exact False.elim h
      | ret u =>
        obtain ⟨v, H', os, bare, un, hok', r', q⟩ := h
        obtain rfl : v = .bl true := q
        obtain rfl : u = Value.bool true := r'
        obtain ⟨more, z⟩ := un.tbls Pt #[] hP
        have grown := hok' Pt _ z
        have key : ∀ b o, b ≠ Pt → s₁.heap.get? b = some o → s'.heap.get? b = some o := fun b o nb e => by
          cases q : H b with
          | none => exact un.keep b o e q (by intro z; exact absurd (show b ∈ ([] : List Addr) from z) (by simp)) (by simp)
          | some u =>
            rcases hA b u q with z | ⟨_, _, ob, xs, z⟩
            · exact absurd z nb
            · rw [z] at q
              obtain ⟨e1, _⟩ := hok b _ q
              obtain ⟨e2, _⟩ := hok' b _ (un.frzs b ob _ q)
              rw [e] at e1
              cases e1
              exact e2
        refine ⟨rfl, ⟨fun b o e => ?_, fun b o e => ?_⟩, os, bare⟩
        · by_cases nb : b = Pt
          · rw [nb] at e ⊢
            rw [tP] at e
            cases e
            exact .inr (.inl ⟨(cP.tab tP).isCodeTable, rfl, #[], more, rfl, by rw [Array.empty_append]; rw [Array.empty_append] at grown; exact grown⟩)
          · exact .inl (key b o nb e)
        · by_cases nb : b = Pt
          · rw [nb]
            exact ⟨_, grown⟩
          · exact ⟨o, key b o nb e⟩
  have tPk : ∀ {H : Hp}, H Pt = some (.tbl #[]) → (∀ b u, H b = some u → b = Pt ∨ (b = a ∧ u = .frz { cls := .type "list", data := .seq vs.toArray } (.lst (ns.map V.int)))) → HOk P w H s₁.heap := fun {H} hP hA b u q => by
    rcases hA b u q with z | ⟨z, y⟩
    · rw [z] at q ⊢
      rw [hP] at q
      cases q
      exact tP
    · rw [z, y]
      exact ⟨ha, by rw [List.length_map]; exact hl, vs, _, rv, ha⟩
  cases hk : K.lookup a with
  | some o =>
    have e := KX a o hk
    rw [ha] at e
    cases e
    have only : ∀ b u, (if b = Pt then some (HO.tbl #[]) else none) = some u → b = Pt := fun b u z => by
      by_cases y : b = Pt
      · exact y
      · exact nomatch (if_neg y).symm.trans z
    exact core (fun b => if b = Pt then some (.tbl #[]) else none) (if_pos rfl) (.inr ⟨_, vs.toArray, _, hk, rfl, rfl, rfl, by rw [List.size_toArray, fsz]; exact hl, by simpa using rv⟩) (tPk (if_pos rfl) fun b u z => .inl (only b u z)) fun b u z => .inl (only b u z)
  | none =>
    have only : ∀ b u, (if b = Pt then some (HO.tbl #[]) else if b = a then some (.frz { cls := .type "list", data := .seq vs.toArray } (.lst (ns.map V.int))) else none) = some u → b = Pt ∨ (b = a ∧ u = .frz { cls := .type "list", data := .seq vs.toArray } (.lst (ns.map V.int))) := fun b u z => by
      by_cases y : b = Pt
      · exact .inl y
      · have z1 := (if_neg y).symm.trans z
        by_cases y2 : b = a
        · exact .inr ⟨y2, (Option.some.inj ((if_pos y2).symm.trans z1)).symm⟩
        · exact nomatch (if_neg y2).symm.trans z1
    refine core (fun b => if b = Pt then some (.tbl #[]) else if b = a then some (.frz { cls := .type "list", data := .seq vs.toArray } (.lst (ns.map V.int))) else none) (if_pos rfl) (.inl (.inr ⟨{ cls := .type "list", data := .seq vs.toArray }, (if_neg aP).trans (if_pos rfl)⟩)) (tPk (if_pos rfl) only) fun b u z => ?_
    rcases only b u z with y | ⟨y1, y2⟩
    · exact .inl y
    · exact .inr ⟨y1, hk, _, _, y2⟩
/-- what the end tells of a law whose code object has a table -/
def LawAtG (l : PySem.W.OpenLaw) (w : World) (K : PySem.W.Frag) (k n : Nat) (x : Str) (mg : Str → Option Value) (fa : Addr) (h : Heap) : Prop :=
  ∃ (fd : FuncData) (c0 Pt : Addr) (sp : Sp), h.get? Pt = some { cls := .none, data := .fields #[] } ∧ K.lookup Pt = none ∧ PySem.W.CodeHd h c0 Pt ∧ (∀ (s : Shared) (u : Value), BindsTo s fd ⟨[u], []⟩ [(x, u)]) ∧
    (∀ (H : Hp) (a : Addr) (ns : List Int), ns.length ≤ n → H Pt = some (.tbl #[]) → SqL K H a (ns.map V.int) → sp [.ref a] H (fun v _ => v = .bl true) L2.E0) ∧
    ∀ base : Heap, K.In base → base.Ns mainGlobals mg → TabB base mg c0 Pt → FnG l.prog w K mg base k fa fd [x] sp
theorem walk_atG {l : PySem.W.OpenLaw} {n k : Nat} {q : Program} {loose : List Str} {XP : (Str → Option Value) → Heap → Prop} {YP : World → Heap → Prop} {d : DefRec} {K : Params → PySem.W.Frag} {x : Str}
    (hn : l.most = some n) (hn2 : n ≤ sizeLine) (hdf : d.params.defaults = []) (hr : Room k callerA) (hY : ∀ (w : World) (h : Heap), YP w h → (K w.params).In h)
    (F : ∀ (w : World) (mg : Str → Option Value) (fa : Addr) (h : Heap), YP w h → (K w.params).In h → h.Ns mainGlobals mg → mg d.name = some (.ref fa) → LawAtG l w (K w.params) k n x mg fa h) :
    PySem.W.WalkO q loose XP YP l.row.toRowW d [] (fun f vs => PySem.call f vs) := by
  refine Att.attach_call hn hdf fun w s₀ s₁ mg mb fa o pm cd doc a vs ns G Y ho hd hcd hmg hobj hints hlen hg => ?_
  have KX := hY w _ Y
  obtain ⟨fd, c0, Pt, sp, tP, nP, cP, hb, hsp, hF⟩ := F w mg fa _ Y KX G.T.g hmg
  exact call_atG KX G.T.g G.T.b G.T.builtins G.T.nolimit hg tP nP cP G.T.bmain hobj hints (Nat.le_trans hlen hn2) hr hF hb fun H hH hS => hsp H a ns hlen hH hS
def rot2 {α : Type} (_ ws : List α) : List α := match ws with
  | [a, b] => [b, a]
  | _ => []
theorem kb_fo {K : PySem.W.Frag} {f : Addr} {fd : FuncData} (F : Fun K "first_order" "first_order" sFro f fd) : KBn K fd ["drives", "stocks"] 0 ["stocks", "drives"] rot2 rot2 := by
  obtain ⟨oc, od, kV, doc, pm, an, cdv, ct, osl, rfl, lk, hcd⟩ := F.ex
  refine ⟨fun s us ws X l1 l2 => ?_, fun {vs us zs ws} r1 r2 => ?_⟩
  · match us, l1, ws, l2 with
    | [], _, [a, b], _ => exact .of_eq rfl
  · match zs, ws, r2 with
    | [], _, .nil => exact .nil
    | [_], _, .cons _ .nil => exact .nil
    | [_, _], _, .cons h1 (.cons h2 .nil) => exact .cons h2 (.cons h1 .nil)
    | _ :: _ :: _ :: _, _, .cons _ (.cons _ (.cons _ _)) => exact .nil
end Ld
namespace Ld
open PySem PySem.Spec PyProof.Rows L2
open TL
open LamX
theorem fin_mk {l : PySem.W.OpenLaw} {w : World} {K : PySem.W.Frag} {h : Heap} {mg : Str → Option Value} {fa : Addr} (X : K.In h) (G : h.Ns mainGlobals mg) (hfa : mg "law" = some (.ref fa))
    {g2 g3 g4 g15 g16 g22 g23 g24 g25 g27 g28 g29 g30 g31 g32 g33 g34 g35 g36 g37 g38 g39 g40 g41 g42 g43 g44 c0 Pt C gm0 q_m1 gm1 q_m3 gm3 Tm3 q_m4 gm4 q_m6 gm6 q_m7 gm7 gm9 gm14 gm15 gm16 gm20 CT gx8 : Addr} {od2 an2 od3 an3 od4 an4 od15 an15 od16 an16 od22 an22 od23 an23 od24 an24 od25 an25 od27 an27 od28 an28 od29 an29 od30 an30 od31 an31 od32 an32 od33 an33 od34 an34 od35 an35 od36 an36 od37 an37 od38 an38 od39 an39 od40 an40 od41 an41 od42 an42 od43 an43 od44 an44 odm0 anm0 odm1 anm1 odm3 anm3 odT odm4 anm4 odm6 anm6 odm7 anm7 odm9 anm9 odm14 anm14 odm15 anm15 odm16 anm16 odm20 anm20 odx8 anx8 : Option Addr} {sl2 sl3 sl4 sl15 sl16 sl22 sl23 sl24 sl25 sl27 sl28 sl29 sl30 sl31 sl32 sl33 sl34 sl35 sl36 sl37 sl38 sl39 sl40 sl41 sl42 sl43 sl44 slm0 slm1 slm3 slT slm4 slm6 slm7 slm9 slm14 slm15 slm16 slm20 slx8 : Array (Option Value)} {oc2 kV2 dc2 pm2 cd2 ct2 oc3 kV3 dc3 pm3 cd3 ct3 oc4 kV4 dc4 pm4 cd4 ct4 oc15 kV15 dc15 pm15 cd15 ct15 oc16 kV16 dc16 pm16 cd16 ct16 oc22 kV22 dc22 pm22 cd22 ct22 oc23 kV23 dc23 pm23 cd23 ct23 oc24 kV24 dc24 pm24 cd24 ct24 oc25 kV25 dc25 pm25 cd25 ct25 oc27 kV27 dc27 pm27 cd27 ct27 oc28 kV28 dc28 pm28 cd28 ct28 oc29 kV29 dc29 pm29 cd29 ct29 oc30 kV30 dc30 pm30 cd30 ct30 oc31 kV31 dc31 pm31 cd31 ct31 oc32 kV32 dc32 pm32 cd32 ct32 oc33 kV33 dc33 pm33 cd33 ct33 oc34 kV34 dc34 pm34 cd34 ct34 oc35 kV35 dc35 pm35 cd35 ct35 oc36 kV36 dc36 pm36 cd36 ct36 oc37 kV37 dc37 pm37 cd37 ct37 oc38 kV38 dc38 pm38 cd38 ct38 oc39 kV39 dc39 pm39 cd39 ct39 oc40 kV40 dc40 pm40 cd40 ct40 oc41 kV41 dc41 pm41 cd41 ct41 oc42 kV42 dc42 pm42 cd42 ct42 oc43 kV43 dc43 pm43 cd43 ct43 oc44 kV44 dc44 pm44 ct44 ocm0 kVm0 dcm0 pmm0 cdm0 ctm0 ocm1 kVm1 dcm1 pmm1 cdm1 ctm1 ocm3 kVm3 dcm3 pmm3 cdm3 ctm3 ocT ocm4 kVm4 dcm4 pmm4 cdm4 ctm4 ocm6 kVm6 dcm6 pmm6 cdm6 ctm6 ocm7 kVm7 dcm7 pmm7 cdm7 ctm7 ocm9 kVm9 dcm9 pmm9 cdm9 ctm9 ocm14 kVm14 dcm14 pmm14 cdm14 ctm14 ocm15 kVm15 dcm15 pmm15 cdm15 ctm15 ocm16 kVm16 dcm16 pmm16 cdm16 ctm16 ocm20 kVm20 dcm20 pmm20 cdm20 ctm20 ocx8 kVx8 dcx8 pmx8 cdx8 ctx8 : Value} {nT : Nat} {tM tO : Tok} {nmT qT : Str} {NT : Addr} {bsT snL : List Value} {snT : List Str} {abT : Bool} {coT : Option Bool} {ddT : Option Addr} {k0T k1T k2T k3T k5T : Option Value} {rm1 rm3 rm4 rm6 rm7 : List Value}
    (a2 : PySem.W.nsIn K mainGlobals "is_integer" = some (some (.ref g2)))
    (l2 : K.lookup g2 = some ⟨oc2, od2, .func (PySem.W.fnOf "is_integer" "is_integer" (defArgs (top 2)) (defBody (top 2)) (defScope (top 2)) .none kV2 dc2 pm2 an2 cd2 ct2), sl2⟩)
    (c2 : PySem.W.codeIn K cd2 "is_integer" = true)
    (k2 : PySem.W.keepIn K (.ref g2) = true)
    (a3 : PySem.W.nsIn K mainGlobals "is_word" = some (some (.ref g3)))
    (l3 : K.lookup g3 = some ⟨oc3, od3, .func (PySem.W.fnOf "is_word" "is_word" (defArgs (top 3)) (defBody (top 3)) (defScope (top 3)) .none kV3 dc3 pm3 an3 cd3 ct3), sl3⟩)
    (c3 : PySem.W.codeIn K cd3 "is_word" = true)
    (k3 : PySem.W.keepIn K (.ref g3) = true)
    (a4 : PySem.W.nsIn K mainGlobals "ascending" = some (some (.ref g4)))
    (l4 : K.lookup g4 = some ⟨oc4, od4, .func (PySem.W.fnOf "ascending" "ascending" (defArgs (top 4)) (defBody (top 4)) (defScope (top 4)) .none kV4 dc4 pm4 an4 cd4 ct4), sl4⟩)
    (c4 : PySem.W.codeIn K cd4 "ascending" = true)
    (k4 : PySem.W.keepIn K (.ref g4) = true)
    (a15 : PySem.W.nsIn K mainGlobals "check_counts" = some (some (.ref g15)))
    (l15 : K.lookup g15 = some ⟨oc15, od15, .func (PySem.W.fnOf "check_counts" "check_counts" (defArgs (top 15)) (defBody (top 15)) (defScope (top 15)) .none kV15 dc15 pm15 an15 cd15 ct15), sl15⟩)
    (c15 : PySem.W.codeIn K cd15 "check_counts" = true)
    (k15 : PySem.W.keepIn K (.ref g15) = true)
    (a16 : PySem.W.nsIn K mainGlobals "tidy_counts" = some (some (.ref g16)))
    (l16 : K.lookup g16 = some ⟨oc16, od16, .func (PySem.W.fnOf "tidy_counts" "tidy_counts" (defArgs (top 16)) (defBody (top 16)) (defScope (top 16)) .none kV16 dc16 pm16 an16 cd16 ct16), sl16⟩)
    (c16 : PySem.W.codeIn K cd16 "tidy_counts" = true)
    (k16 : PySem.W.keepIn K (.ref g16) = true)
    (a22 : PySem.W.nsIn K mainGlobals "first_order" = some (some (.ref g22)))
    (l22 : K.lookup g22 = some ⟨oc22, od22, .func (PySem.W.fnOf "first_order" "first_order" (defArgs (top 22)) (defBody (top 22)) (defScope (top 22)) .none kV22 dc22 pm22 an22 cd22 ct22), sl22⟩)
    (c22 : PySem.W.codeIn K cd22 "first_order" = true)
    (k22 : PySem.W.keepIn K (.ref g22) = true)
    (a23 : PySem.W.nsIn K mainGlobals "order_from" = some (some (.ref g23)))
    (l23 : K.lookup g23 = some ⟨oc23, od23, .func (PySem.W.fnOf "order_from" "order_from" (defArgs (top 23)) (defBody (top 23)) (defScope (top 23)) .none kV23 dc23 pm23 an23 cd23 ct23), sl23⟩)
    (c23 : PySem.W.codeIn K cd23 "order_from" = true)
    (k23 : PySem.W.keepIn K (.ref g23) = true)
    (a24 : PySem.W.nsIn K mainGlobals "can_drive" = some (some (.ref g24)))
    (l24 : K.lookup g24 = some ⟨oc24, od24, .func (PySem.W.fnOf "can_drive" "can_drive" (defArgs (top 24)) (defBody (top 24)) (defScope (top 24)) .none kV24 dc24 pm24 an24 cd24 ct24), sl24⟩)
    (c24 : PySem.W.codeIn K cd24 "can_drive" = true)
    (k24 : PySem.W.keepIn K (.ref g24) = true)
    (a25 : PySem.W.nsIn K mainGlobals "stocks_after" = some (some (.ref g25)))
    (l25 : K.lookup g25 = some ⟨oc25, od25, .func (PySem.W.fnOf "stocks_after" "stocks_after" (defArgs (top 25)) (defBody (top 25)) (defScope (top 25)) .none kV25 dc25 pm25 an25 cd25 ct25), sl25⟩)
    (c25 : PySem.W.codeIn K cd25 "stocks_after" = true)
    (k25 : PySem.W.keepIn K (.ref g25) = true)
    (a27 : PySem.W.nsIn K mainGlobals "_law_pen" = some (some (.ref g27)))
    (l27 : K.lookup g27 = some ⟨oc27, od27, .func (PySem.W.fnOf "_law_pen" "_law_pen" (defArgs (top 27)) (defBody (top 27)) (defScope (top 27)) .none kV27 dc27 pm27 an27 cd27 ct27), sl27⟩)
    (c27 : PySem.W.codeIn K cd27 "_law_pen" = true)
    (k27 : PySem.W.keepIn K (.ref g27) = true)
    (a28 : PySem.W.nsIn K mainGlobals "_law_draw" = some (some (.ref g28)))
    (l28 : K.lookup g28 = some ⟨oc28, od28, .func (PySem.W.fnOf "_law_draw" "_law_draw" (defArgs (top 28)) (defBody (top 28)) (defScope (top 28)) .none kV28 dc28 pm28 an28 cd28 ct28), sl28⟩)
    (c28 : PySem.W.codeIn K cd28 "_law_draw" = true)
    (k28 : PySem.W.keepIn K (.ref g28) = true)
    (a29 : PySem.W.nsIn K mainGlobals "_law_pick" = some (some (.ref g29)))
    (l29 : K.lookup g29 = some ⟨oc29, od29, .func (PySem.W.fnOf "_law_pick" "_law_pick" (defArgs (top 29)) (defBody (top 29)) (defScope (top 29)) .none kV29 dc29 pm29 an29 cd29 ct29), sl29⟩)
    (c29 : PySem.W.codeIn K cd29 "_law_pick" = true)
    (k29 : PySem.W.keepIn K (.ref g29) = true)
    (a30 : PySem.W.nsIn K mainGlobals "_law_shuffled" = some (some (.ref g30)))
    (l30 : K.lookup g30 = some ⟨oc30, od30, .func (PySem.W.fnOf "_law_shuffled" "_law_shuffled" (defArgs (top 30)) (defBody (top 30)) (defScope (top 30)) .none kV30 dc30 pm30 an30 cd30 ct30), sl30⟩)
    (c30 : PySem.W.codeIn K cd30 "_law_shuffled" = true)
    (k30 : PySem.W.keepIn K (.ref g30) = true)
    (a31 : PySem.W.nsIn K mainGlobals "_law_words" = some (some (.ref g31)))
    (l31 : K.lookup g31 = some ⟨oc31, od31, .func (PySem.W.fnOf "_law_words" "_law_words" (defArgs (top 31)) (defBody (top 31)) (defScope (top 31)) .none kV31 dc31 pm31 an31 cd31 ct31), sl31⟩)
    (c31 : PySem.W.codeIn K cd31 "_law_words" = true)
    (k31 : PySem.W.keepIn K (.ref g31) = true)
    (a32 : PySem.W.nsIn K mainGlobals "_law_clean" = some (some (.ref g32)))
    (l32 : K.lookup g32 = some ⟨oc32, od32, .func (PySem.W.fnOf "_law_clean" "_law_clean" (defArgs (top 32)) (defBody (top 32)) (defScope (top 32)) .none kV32 dc32 pm32 an32 cd32 ct32), sl32⟩)
    (c32 : PySem.W.codeIn K cd32 "_law_clean" = true)
    (k32 : PySem.W.keepIn K (.ref g32) = true)
    (a33 : PySem.W.nsIn K mainGlobals "_law_plus" = some (some (.ref g33)))
    (l33 : K.lookup g33 = some ⟨oc33, od33, .func (PySem.W.fnOf "_law_plus" "_law_plus" (defArgs (top 33)) (defBody (top 33)) (defScope (top 33)) .none kV33 dc33 pm33 an33 cd33 ct33), sl33⟩)
    (c33 : PySem.W.codeIn K cd33 "_law_plus" = true)
    (k33 : PySem.W.keepIn K (.ref g33) = true)
    (a34 : PySem.W.nsIn K mainGlobals "_law_loads" = some (some (.ref g34)))
    (l34 : K.lookup g34 = some ⟨oc34, od34, .func (PySem.W.fnOf "_law_loads" "_law_loads" (defArgs (top 34)) (defBody (top 34)) (defScope (top 34)) .none kV34 dc34 pm34 an34 cd34 ct34), sl34⟩)
    (c34 : PySem.W.codeIn K cd34 "_law_loads" = true)
    (k34 : PySem.W.keepIn K (.ref g34) = true)
    (a35 : PySem.W.nsIn K mainGlobals "_law_shown" = some (some (.ref g35)))
    (l35 : K.lookup g35 = some ⟨oc35, od35, .func (PySem.W.fnOf "_law_shown" "_law_shown" (defArgs (top 35)) (defBody (top 35)) (defScope (top 35)) .none kV35 dc35 pm35 an35 cd35 ct35), sl35⟩)
    (c35 : PySem.W.codeIn K cd35 "_law_shown" = true)
    (k35 : PySem.W.keepIn K (.ref g35) = true)
    (a36 : PySem.W.nsIn K mainGlobals "_law_rows_of" = some (some (.ref g36)))
    (l36 : K.lookup g36 = some ⟨oc36, od36, .func (PySem.W.fnOf "_law_rows_of" "_law_rows_of" (defArgs (top 36)) (defBody (top 36)) (defScope (top 36)) .none kV36 dc36 pm36 an36 cd36 ct36), sl36⟩)
    (c36 : PySem.W.codeIn K cd36 "_law_rows_of" = true)
    (k36 : PySem.W.keepIn K (.ref g36) = true)
    (a37 : PySem.W.nsIn K mainGlobals "_law_some_drives" = some (some (.ref g37)))
    (l37 : K.lookup g37 = some ⟨oc37, od37, .func (PySem.W.fnOf "_law_some_drives" "_law_some_drives" (defArgs (top 37)) (defBody (top 37)) (defScope (top 37)) .none kV37 dc37 pm37 an37 cd37 ct37), sl37⟩)
    (c37 : PySem.W.codeIn K cd37 "_law_some_drives" = true)
    (k37 : PySem.W.keepIn K (.ref g37) = true)
    (a38 : PySem.W.nsIn K mainGlobals "_law_needed" = some (some (.ref g38)))
    (l38 : K.lookup g38 = some ⟨oc38, od38, .func (PySem.W.fnOf "_law_needed" "_law_needed" (defArgs (top 38)) (defBody (top 38)) (defScope (top 38)) .none kV38 dc38 pm38 an38 cd38 ct38), sl38⟩)
    (c38 : PySem.W.codeIn K cd38 "_law_needed" = true)
    (k38 : PySem.W.keepIn K (.ref g38) = true)
    (a39 : PySem.W.nsIn K mainGlobals "_law_done" = some (some (.ref g39)))
    (l39 : K.lookup g39 = some ⟨oc39, od39, .func (PySem.W.fnOf "_law_done" "_law_done" (defArgs (top 39)) (defBody (top 39)) (defScope (top 39)) .none kV39 dc39 pm39 an39 cd39 ct39), sl39⟩)
    (c39 : PySem.W.codeIn K cd39 "_law_done" = true)
    (k39 : PySem.W.keepIn K (.ref g39) = true)
    (a40 : PySem.W.nsIn K mainGlobals "_law_stocks" = some (some (.ref g40)))
    (l40 : K.lookup g40 = some ⟨oc40, od40, .func (PySem.W.fnOf "_law_stocks" "_law_stocks" (defArgs (top 40)) (defBody (top 40)) (defScope (top 40)) .none kV40 dc40 pm40 an40 cd40 ct40), sl40⟩)
    (c40 : PySem.W.codeIn K cd40 "_law_stocks" = true)
    (k40 : PySem.W.keepIn K (.ref g40) = true)
    (a41 : PySem.W.nsIn K mainGlobals "_law_first" = some (some (.ref g41)))
    (l41 : K.lookup g41 = some ⟨oc41, od41, .func (PySem.W.fnOf "_law_first" "_law_first" (defArgs (top 41)) (defBody (top 41)) (defScope (top 41)) .none kV41 dc41 pm41 an41 cd41 ct41), sl41⟩)
    (c41 : PySem.W.codeIn K cd41 "_law_first" = true)
    (k41 : PySem.W.keepIn K (.ref g41) = true)
    (a42 : PySem.W.nsIn K mainGlobals "_law_refused" = some (some (.ref g42)))
    (l42 : K.lookup g42 = some ⟨oc42, od42, .func (PySem.W.fnOf "_law_refused" "_law_refused" (defArgs (top 42)) (defBody (top 42)) (defScope (top 42)) .none kV42 dc42 pm42 an42 cd42 ct42), sl42⟩)
    (c42 : PySem.W.codeIn K cd42 "_law_refused" = true)
    (k42 : PySem.W.keepIn K (.ref g42) = true)
    (a43 : PySem.W.nsIn K mainGlobals "_law_is_line_right" = some (some (.ref g43)))
    (l43 : K.lookup g43 = some ⟨oc43, od43, .func (PySem.W.fnOf "_law_is_line_right" "_law_is_line_right" (defArgs (top 43)) (defBody (top 43)) (defScope (top 43)) .none kV43 dc43 pm43 an43 cd43 ct43), sl43⟩)
    (c43 : PySem.W.codeIn K cd43 "_law_is_line_right" = true)
    (k43 : PySem.W.keepIn K (.ref g43) = true)
    (a44 : PySem.W.nsIn K mainGlobals "law" = some (some (.ref g44)))
    (l44 : K.lookup g44 = some ⟨oc44, od44, .func (PySem.W.fnOf "law" "law" (defArgs (top 44)) (defBody (top 44)) (defScope (top 44)) .none kV44 dc44 pm44 an44 (.ref c0) ct44), sl44⟩)
    (c44 : PySem.W.codeIn K (.ref c0) "law" = true)
    (z_int : PySem.W.nsIn K mainGlobals "int" = some none)
    (z_abs : PySem.W.nsIn K mainGlobals "abs" = some none)
    (z_list : PySem.W.nsIn K mainGlobals "list" = some none)
    (z_len : PySem.W.nsIn K mainGlobals "len" = some none)
    (z_range : PySem.W.nsIn K mainGlobals "range" = some none)
    (z_str : PySem.W.nsIn K mainGlobals "str" = some none)
    (z_bool : PySem.W.nsIn K mainGlobals "bool" = some none)
    (z_sorted : PySem.W.nsIn K mainGlobals "sorted" = some none)
    (z_isinstance : PySem.W.nsIn K mainGlobals "isinstance" = some none)
    (z_all : PySem.W.nsIn K mainGlobals "all" = some none)
    (z_dict : PySem.W.nsIn K mainGlobals "dict" = some none)
    (z_min : PySem.W.nsIn K mainGlobals "min" = some none)
    (z_max : PySem.W.nsIn K mainGlobals "max" = some none)
    (z_repr : PySem.W.nsIn K mainGlobals "repr" = some none)
    (z_set : PySem.W.nsIn K mainGlobals "set" = some none)
    (z_tuple : PySem.W.nsIn K mainGlobals "tuple" = some none)
    (z_enumerate : PySem.W.nsIn K mainGlobals "enumerate" = some none)
    (z_OverflowError : PySem.W.nsIn K mainGlobals "OverflowError" = some none)
    (aC : PySem.W.nsIn K mainGlobals "Load" = some (some (.ref C)))
    (pgC : PySem.W.plainGet K C Str.empty = true)
    (hdC : PySem.W.hasDictIn K C = true)
    (poC : PySem.W.plainOver K C = true)
    (saC : PySem.W.findIn K (.ref C) "__setattr__" = some (some (.builtin "object.__setattr__")))
    (ncC : PySem.W.findIn K (.ref C) "_counts" = some none)
    (mkC : PySem.W.makesIn K C = true)
    (kpC : PySem.W.keepIn K (.ref C) = true)
    (caC : PySem.W.findIn K (.ref C) "__class__" = some (some (.builtin "object.__class__")))
    (cnC : PySem.W.specialIn K (.builtin "object.__class__") "__get__" = some (some (.builtin "getset_descriptor.__get__")))
    (ctC : PySem.W.takesIn K (.builtin "object.__class__") = some true)
    (cmC : PySem.W.mroIn K C (.type "object") = some true)
    (neC : PySem.W.findIn K (.ref C) "__ne__" = some (some (.builtin "object.__ne__")))
    (icC : PySem.W.isClsIn K C = true)
    (tyC : PySem.W.typeIn K (.ref C) = some (.type "type"))
    (rdC : PySem.W.readsIn K C (.type "type") = true)
    (gaC : PySem.W.specialIn K (.ref C) "__getattribute__" = some (some (.builtin "type.__getattribute__")))
    (am0 : PySem.W.findIn K (.ref C) "__init__" = some (some (.ref gm0)))
    (lm0 : K.lookup gm0 = some ⟨ocm0, odm0, .func (PySem.W.fnOf "__init__" "Load.__init__" (defArgs (inClass (top 14) 0)) (defBody (inClass (top 14) 0)) (defScope (inClass (top 14) 0)) .none kVm0 dcm0 pmm0 anm0 cdm0 ctm0), slm0⟩)
    (cm0 : PySem.W.codeIn K cdm0 "Load.__init__" = true)
    (km0 : PySem.W.keepIn K (.ref gm0) = true)
    (fm0 : PySem.W.fnIn K gm0 = true)
    (im0 : PySem.W.isFn K (.ref gm0) = true)
    (am1 : PySem.W.findCls K (.ref C) (.type "type") "of" = some (.get (.builtin "classmethod.__get__") (.ref q_m1) .none (.ref C)))
    (rcm1 : PySem.W.recIn K q_m1 "classmethod" = some (.ref gm1 :: rm1))
    (lm1 : K.lookup gm1 = some ⟨ocm1, odm1, .func (PySem.W.fnOf "of" "Load.of" (defArgs (inClass (top 14) 1)) (defBody (inClass (top 14) 1)) (defScope (inClass (top 14) 1)) .none kVm1 dcm1 pmm1 anm1 cdm1 ctm1), slm1⟩)
    (cm1 : PySem.W.codeIn K cdm1 "Load.of" = true)
    (km1 : PySem.W.keepIn K (.ref gm1) = true)
    (fm1 : PySem.W.fnIn K gm1 = true)
    (am3 : PySem.W.findCls K (.ref C) (.type "type") "total" = some (.get (.builtin "staticmethod.__get__") (.ref q_m3) .none (.ref C)))
    (rcm3 : PySem.W.recIn K q_m3 "staticmethod" = some (.ref gm3 :: rm3))
    (lm3 : K.lookup gm3 = some ⟨ocm3, odm3, .func (PySem.W.fnOf "total" "Load.total" (defArgs (inClass (top 14) 3)) (defBody (inClass (top 14) 3)) (defScope (inClass (top 14) 3)) (.ref Tm3) kVm3 dcm3 pmm3 anm3 cdm3 ctm3), slm3⟩)
    (cm3 : PySem.W.codeIn K cdm3 "Load.total" = true)
    (km3 : PySem.W.keepIn K (.ref gm3) = true)
    (lTm3 : K.lookup Tm3 = some ⟨ocT, odT, .seq #[.none] nT, slT⟩)
    (am4 : PySem.W.findIn K (.ref C) "counts" = some (some (.ref q_m4)))
    (rcm4 : PySem.W.recIn K q_m4 "property" = some (.ref gm4 :: rm4))
    (lm4 : K.lookup gm4 = some ⟨ocm4, odm4, .func (PySem.W.fnOf "counts" "Load.counts" (defArgs (inClass (top 14) 4)) (defBody (inClass (top 14) 4)) (defScope (inClass (top 14) 4)) .none kVm4 dcm4 pmm4 anm4 cdm4 ctm4), slm4⟩)
    (cm4 : PySem.W.codeIn K cdm4 "Load.counts" = true)
    (km4 : PySem.W.keepIn K (.ref gm4) = true)
    (gem4 : PySem.W.specialIn K (.ref q_m4) "__get__" = some (some (.builtin "property.__get__")))
    (tkm4 : PySem.W.takesIn K (.ref q_m4) = some true)
    (am6 : PySem.W.findIn K (.ref C) "positive" = some (some (.ref q_m6)))
    (rcm6 : PySem.W.recIn K q_m6 "property" = some (.ref gm6 :: rm6))
    (lm6 : K.lookup gm6 = some ⟨ocm6, odm6, .func (PySem.W.fnOf "positive" "Load.positive" (defArgs (inClass (top 14) 6)) (defBody (inClass (top 14) 6)) (defScope (inClass (top 14) 6)) .none kVm6 dcm6 pmm6 anm6 cdm6 ctm6), slm6⟩)
    (cm6 : PySem.W.codeIn K cdm6 "Load.positive" = true)
    (km6 : PySem.W.keepIn K (.ref gm6) = true)
    (gem6 : PySem.W.specialIn K (.ref q_m6) "__get__" = some (some (.builtin "property.__get__")))
    (tkm6 : PySem.W.takesIn K (.ref q_m6) = some true)
    (am7 : PySem.W.findIn K (.ref C) "negative" = some (some (.ref q_m7)))
    (rcm7 : PySem.W.recIn K q_m7 "property" = some (.ref gm7 :: rm7))
    (lm7 : K.lookup gm7 = some ⟨ocm7, odm7, .func (PySem.W.fnOf "negative" "Load.negative" (defArgs (inClass (top 14) 7)) (defBody (inClass (top 14) 7)) (defScope (inClass (top 14) 7)) .none kVm7 dcm7 pmm7 anm7 cdm7 ctm7), slm7⟩)
    (cm7 : PySem.W.codeIn K cdm7 "Load.negative" = true)
    (km7 : PySem.W.keepIn K (.ref gm7) = true)
    (gem7 : PySem.W.specialIn K (.ref q_m7) "__get__" = some (some (.builtin "property.__get__")))
    (tkm7 : PySem.W.takesIn K (.ref q_m7) = some true)
    (am9 : PySem.W.findIn K (.ref C) "__getitem__" = some (some (.ref gm9)))
    (lm9 : K.lookup gm9 = some ⟨ocm9, odm9, .func (PySem.W.fnOf "__getitem__" "Load.__getitem__" (defArgs (inClass (top 14) 9)) (defBody (inClass (top 14) 9)) (defScope (inClass (top 14) 9)) .none kVm9 dcm9 pmm9 anm9 cdm9 ctm9), slm9⟩)
    (cm9 : PySem.W.codeIn K cdm9 "Load.__getitem__" = true)
    (km9 : PySem.W.keepIn K (.ref gm9) = true)
    (fm9 : PySem.W.fnIn K gm9 = true)
    (im9 : PySem.W.isFn K (.ref gm9) = true)
    (am14 : PySem.W.findIn K (.ref C) "__add__" = some (some (.ref gm14)))
    (lm14 : K.lookup gm14 = some ⟨ocm14, odm14, .func (PySem.W.fnOf "__add__" "Load.__add__" (defArgs (inClass (top 14) 14)) (defBody (inClass (top 14) 14)) (defScope (inClass (top 14) 14)) .none kVm14 dcm14 pmm14 anm14 cdm14 ctm14), slm14⟩)
    (cm14 : PySem.W.codeIn K cdm14 "Load.__add__" = true)
    (km14 : PySem.W.keepIn K (.ref gm14) = true)
    (fm14 : PySem.W.fnIn K gm14 = true)
    (im14 : PySem.W.isFn K (.ref gm14) = true)
    (am15 : PySem.W.findIn K (.ref C) "__sub__" = some (some (.ref gm15)))
    (lm15 : K.lookup gm15 = some ⟨ocm15, odm15, .func (PySem.W.fnOf "__sub__" "Load.__sub__" (defArgs (inClass (top 14) 15)) (defBody (inClass (top 14) 15)) (defScope (inClass (top 14) 15)) .none kVm15 dcm15 pmm15 anm15 cdm15 ctm15), slm15⟩)
    (cm15 : PySem.W.codeIn K cdm15 "Load.__sub__" = true)
    (km15 : PySem.W.keepIn K (.ref gm15) = true)
    (fm15 : PySem.W.fnIn K gm15 = true)
    (im15 : PySem.W.isFn K (.ref gm15) = true)
    (am16 : PySem.W.findIn K (.ref C) "__neg__" = some (some (.ref gm16)))
    (lm16 : K.lookup gm16 = some ⟨ocm16, odm16, .func (PySem.W.fnOf "__neg__" "Load.__neg__" (defArgs (inClass (top 14) 16)) (defBody (inClass (top 14) 16)) (defScope (inClass (top 14) 16)) .none kVm16 dcm16 pmm16 anm16 cdm16 ctm16), slm16⟩)
    (cm16 : PySem.W.codeIn K cdm16 "Load.__neg__" = true)
    (km16 : PySem.W.keepIn K (.ref gm16) = true)
    (fm16 : PySem.W.fnIn K gm16 = true)
    (im16 : PySem.W.isFn K (.ref gm16) = true)
    (am20 : PySem.W.findIn K (.ref C) "__le__" = some (some (.ref gm20)))
    (lm20 : K.lookup gm20 = some ⟨ocm20, odm20, .func (PySem.W.fnOf "__le__" "Load.__le__" (defArgs (inClass (top 14) 20)) (defBody (inClass (top 14) 20)) (defScope (inClass (top 14) 20)) .none kVm20 dcm20 pmm20 anm20 cdm20 ctm20), slm20⟩)
    (cm20 : PySem.W.codeIn K cdm20 "Load.__le__" = true)
    (km20 : PySem.W.keepIn K (.ref gm20) = true)
    (fm20 : PySem.W.fnIn K gm20 = true)
    (im20 : PySem.W.isFn K (.ref gm20) = true)
    (sfC : PySem.W.selfFirst K C = true)
    (cM : PySem.W.nsIn K mainGlobals "MOST_LETTERS" = some (some (.int 8 tM)))
    (cO : PySem.W.nsIn K mainGlobals "MOST_ORDERED" = some (some (.int 9 tO)))
    (aT : PySem.W.nsIn K mainGlobals "TooMany" = some (some (.ref CT)))
    (xT : K.lookup CT = some (excClassObj nmT qT CT NT bsT ovM true snT snL abT coT ddT k0T k1T k2T k3T k5T ovN))
    (saT : PySem.W.findIn K (.ref CT) "__setattr__" = some (some (.builtin "object.__setattr__")))
    (exT : PySem.W.subIn K (.ref CT) (.type "BaseException") = some true)
    (tyT : PySem.W.typeIn K (.ref CT) = some (.type "type"))
    (kpT : PySem.W.keepIn K (.ref CT) = true)
    (ax8 : PySem.W.findIn K (.ref CT) "__init__" = some (some (.ref gx8)))
    (lx8 : K.lookup gx8 = some ⟨ocx8, odx8, .func (PySem.W.fnOf "__init__" "TooMany.__init__" (defArgs (inClass (top 8) 0)) (defBody (inClass (top 8) 0)) (defScope (inClass (top 8) 0)) .none kVx8 dcx8 pmx8 anx8 cdx8 ctx8), slx8⟩)
    (cx8 : PySem.W.codeIn K cdx8 "TooMany.__init__" = true)
    (kx8 : PySem.W.keepIn K (.ref gx8) = true)
    (tfT : PySem.W.typeIn K (.ref gx8) = some (.type "function"))
    (vV : PySem.W.findCls K (.type "OverflowError") (.type "type") "__init__" = some (.val (.builtin ovI)))
    (noT : PySem.W.findIn K (.ref CT) "most" = some none)
    (gaT : PySem.W.findIn K (.ref CT) "__getattribute__" = some (some (.builtin "BaseException.__getattribute__")))
    (ggT : PySem.W.findIn K (.ref CT) "__getattr__" = some none)
    (hdT : PySem.W.hasDictIn K CT = true)
    (caT : PySem.W.findIn K (.ref CT) "__class__" = some (some (.builtin "object.__class__")))
    (moT : PySem.W.mroIn K CT (.type "object") = some true)
    (seT : PySem.W.subIn K (.ref CT) (.ref CT) = some true)
    (svT : PySem.W.subIn K (.ref CT) (.type "OverflowError") = some true)
    (hP : h.get? Pt = some (PySem.W.tabObj #[])) (nP : K.lookup Pt = none) (hC : PySem.W.codeHdIn K c0 Pt = true)
    : LawAtG l w K 23 63 "_law_script" mg fa h := by
  have D2 := fun_mk (st := top 2) l2 c2 k2
  have b2 := D2.binds (ps := ["value"]) fun _ _ _ _ _ _ us hl => match us, hl with | [_], _ => rfl
  have D3 := fun_mk (st := top 3) l3 c3 k3
  have b3 := D3.binds (ps := ["value"]) fun _ _ _ _ _ _ us hl => match us, hl with | [_], _ => rfl
  have D4 := fun_mk (st := top 4) l4 c4 k4
  have b4 := D4.binds (ps := ["words"]) fun _ _ _ _ _ _ us hl => match us, hl with | [_], _ => rfl
  have D15 := fun_mk (st := top 15) l15 c15 k15
  have b15 := D15.binds (ps := ["counts"]) fun _ _ _ _ _ _ us hl => match us, hl with | [_], _ => rfl
  have D16 := fun_mk (st := top 16) l16 c16 k16
  have b16 := D16.binds (ps := ["counts"]) fun _ _ _ _ _ _ us hl => match us, hl with | [_], _ => rfl
  have D22 := fun_mk (st := top 22) l22 c22 k22
  have b22 := D22.binds (ps := ["drives", "stocks"]) fun _ _ _ _ _ _ us hl => match us, hl with | [_, _], _ => rfl
  have D23 := fun_mk (st := top 23) l23 c23 k23
  have b23 := D23.binds (ps := ["done", "drives", "stocks", "failed"]) fun _ _ _ _ _ _ us hl => match us, hl with | [_, _, _, _], _ => rfl
  have D24 := fun_mk (st := top 24) l24 c24 k24
  have b24 := D24.binds (ps := ["drive", "stocks"]) fun _ _ _ _ _ _ us hl => match us, hl with | [_, _], _ => rfl
  have D25 := fun_mk (st := top 25) l25 c25 k25
  have b25 := D25.binds (ps := ["drive", "stocks"]) fun _ _ _ _ _ _ us hl => match us, hl with | [_, _], _ => rfl
  have D27 := fun_mk (st := top 27) l27 c27 k27
  have b27 := D27.binds (ps := ["_law_script"]) fun _ _ _ _ _ _ us hl => match us, hl with | [_], _ => rfl
  have D28 := fun_mk (st := top 28) l28 c28 k28
  have b28 := D28.binds (ps := ["_law_pen_here", "_law_many"]) fun _ _ _ _ _ _ us hl => match us, hl with | [_, _], _ => rfl
  have D29 := fun_mk (st := top 29) l29 c29 k29
  have b29 := D29.binds (ps := ["_law_pen_here", "_law_items"]) fun _ _ _ _ _ _ us hl => match us, hl with | [_, _], _ => rfl
  have D30 := fun_mk (st := top 30) l30 c30 k30
  have b30 := D30.binds (ps := ["_law_pen_here", "_law_items"]) fun _ _ _ _ _ _ us hl => match us, hl with | [_, _], _ => rfl
  have D31 := fun_mk (st := top 31) l31 c31 k31
  have b31 := D31.binds (ps := ["_law_pen_here", "_law_many"]) fun _ _ _ _ _ _ us hl => match us, hl with | [_, _], _ => rfl
  have D32 := fun_mk (st := top 32) l32 c32 k32
  have b32 := D32.binds (ps := ["_law_counts"]) fun _ _ _ _ _ _ us hl => match us, hl with | [_], _ => rfl
  have D33 := fun_mk (st := top 33) l33 c33 k33
  have b33 := D33.binds (ps := ["_law_one", "_law_other", "_law_times"]) fun _ _ _ _ _ _ us hl => match us, hl with | [_, _, _], _ => rfl
  have D34 := fun_mk (st := top 34) l34 c34 k34
  have b34 := D34.binds (ps := ["_law_counts_by"]) fun _ _ _ _ _ _ us hl => match us, hl with | [_], _ => rfl
  have D35 := fun_mk (st := top 35) l35 c35 k35
  have b35 := D35.binds (ps := ["_law_loads_here"]) fun _ _ _ _ _ _ us hl => match us, hl with | [_], _ => rfl
  have D36 := fun_mk (st := top 36) l36 c36 k36
  have b36 := D36.binds (ps := ["_law_told"]) fun _ _ _ _ _ _ us hl => match us, hl with | [_], _ => rfl
  have D37 := fun_mk (st := top 37) l37 c37 k37
  have b37 := D37.binds (ps := ["_law_pen_here", "_law_kinds", "_law_houses", "_law_many"]) fun _ _ _ _ _ _ us hl => match us, hl with | [_, _, _, _], _ => rfl
  have D38 := fun_mk (st := top 38) l38 c38 k38
  have b38 := D38.binds (ps := ["_law_counts", "_law_sign"]) fun _ _ _ _ _ _ us hl => match us, hl with | [_, _], _ => rfl
  have D39 := fun_mk (st := top 39) l39 c39 k39
  have b39 := D39.binds (ps := ["_law_drive", "_law_held"]) fun _ _ _ _ _ _ us hl => match us, hl with | [_, _], _ => rfl
  have D40 := fun_mk (st := top 40) l40 c40 k40
  have b40 := D40.binds (ps := ["_law_pen_here", "_law_rows"]) fun _ _ _ _ _ _ us hl => match us, hl with | [_, _], _ => rfl
  have D41 := fun_mk (st := top 41) l41 c41 k41
  have b41 := D41.binds (ps := ["_law_rows", "_law_held", "_law_left"]) fun _ _ _ _ _ _ us hl => match us, hl with | [_, _, _], _ => rfl
  have D42 := fun_mk (st := top 42) l42 c42 k42
  have b42 := D42.binds (ps := ["_law_call"]) fun _ _ _ _ _ _ us hl => match us, hl with | [_], _ => rfl
  have D43 := fun_mk (st := top 43) l43 c43 k43
  have b43 := D43.binds (ps := ["_law_pen_here"]) fun _ _ _ _ _ _ us hl => match us, hl with | [_], _ => rfl
  have Dm0 := fun_mk (st := inClass (top 14) 0) lm0 cm0 km0
  have Dm1 := fun_mk (st := inClass (top 14) 1) lm1 cm1 km1
  have bm1 := Dm1.binds (ps := ["cls", "counts"]) fun _ _ _ _ _ _ us hl => match us, hl with | [_, _], _ => rfl
  have Dm4 := fun_mk (st := inClass (top 14) 4) lm4 cm4 km4
  have bm4 := Dm4.binds (ps := ["self"]) fun _ _ _ _ _ _ us hl => match us, hl with | [_], _ => rfl
  have Dm6 := fun_mk (st := inClass (top 14) 6) lm6 cm6 km6
  have bm6 := Dm6.binds (ps := ["self"]) fun _ _ _ _ _ _ us hl => match us, hl with | [_], _ => rfl
  have Dm7 := fun_mk (st := inClass (top 14) 7) lm7 cm7 km7
  have bm7 := Dm7.binds (ps := ["self"]) fun _ _ _ _ _ _ us hl => match us, hl with | [_], _ => rfl
  have Dm9 := fun_mk (st := inClass (top 14) 9) lm9 cm9 km9
  have bm9 := Dm9.binds (ps := ["self", "at"]) fun _ _ _ _ _ _ us hl => match us, hl with | [_, _], _ => rfl
  have Dm14 := fun_mk (st := inClass (top 14) 14) lm14 cm14 km14
  have bm14 := Dm14.binds (ps := ["self", "other"]) fun _ _ _ _ _ _ us hl => match us, hl with | [_, _], _ => rfl
  have Dm15 := fun_mk (st := inClass (top 14) 15) lm15 cm15 km15
  have bm15 := Dm15.binds (ps := ["self", "other"]) fun _ _ _ _ _ _ us hl => match us, hl with | [_, _], _ => rfl
  have Dm16 := fun_mk (st := inClass (top 14) 16) lm16 cm16 km16
  have bm16 := Dm16.binds (ps := ["self"]) fun _ _ _ _ _ _ us hl => match us, hl with | [_], _ => rfl
  have Dm20 := fun_mk (st := inClass (top 14) 20) lm20 cm20 km20
  have bm20 := Dm20.binds (ps := ["self", "other"]) fun _ _ _ _ _ _ us hl => match us, hl with | [_, _], _ => rfl
  have Dx8 := fun_mk (st := inClass (top 8) 0) lx8 cx8 kx8
  have bx8 := Dx8.binds (ps := ["self", "most"]) fun _ _ _ _ _ _ us hl => match us, hl with | [_, _], _ => rfl
  have e := hfa.symm.trans (PySem.W.mg_of X G a44)
  cases e
  have N := fun {x : Str} (z : PySem.W.nsIn K mainGlobals x = some none) => PySem.W.mg_none_of X G z
  have B : Blt mg := ⟨N z_int, N z_abs, N z_list, N z_len, N z_range⟩
  have B2 : Blt2 mg := ⟨N z_str, N z_bool, N z_sorted, N z_isinstance, N z_all, N z_dict⟩
  have B3 : Blt3 mg := ⟨N z_min, N z_max, N z_repr⟩
  have mM : ∃ t, mg "MOST_LETTERS" = some (.int 8 t) := ⟨_, PySem.W.mg_of X G cM⟩
  have mO : ∃ t, mg "MOST_ORDERED" = some (.int 9 t) := ⟨_, PySem.W.mg_of X G cO⟩
  refine ⟨PySem.W.fnOf "law" "law" (defArgs (top 44)) (defBody (top 44)) (defScope (top 44)) .none kV44 dc44 pm44 an44 (.ref c0) ct44, c0, Pt, spLaw K Pt, hP, nP, PySem.W.codeHd_of_K X hC, fun s v => .of_eq rfl, fun H a ns hl hH hS => ⟨a, ns, rfl, hS, hl, hH, fun _ => rfl⟩, fun base KB GB TB => ?_⟩
  have H_ascending : Has l.prog w K mg base 1 "ascending" ["words"] spAsc := ⟨g4, _, ok_asc D4 B2, b4, PySem.W.mg_of X G a4, k4⟩
  have H_is_word : Has l.prog w K mg base 1 "is_word" ["value"] (spIsWord K) := ⟨g3, _, ok_isWord D3 B2 B.len mM, b3, PySem.W.mg_of X G a3, k3⟩
  have H_is_integer : Has l.prog w K mg base 1 "is_integer" ["value"] (spIsInt K) := ⟨g2, _, ok_isInt D2 B2 B.int, b2, PySem.W.mg_of X G a2, k2⟩
  have H_check_counts : Has l.prog w K mg base 2 "check_counts" ["counts"] spCheck := ⟨g15, _, ok_check D15 H_ascending H_is_word H_is_integer, b15, PySem.W.mg_of X G a15, k15⟩
  have H_tidy_counts : Has l.prog w K mg base 2 "tidy_counts" ["counts"] spTidy := ⟨g16, _, ok_tidy D16 H_ascending, b16, PySem.W.mg_of X G a16, k16⟩
  have OX : OexO K CT := ⟨PySem.F.excBase_OverflowError, PySem.F.store_OverflowError, by decide, ⟨nmT, qT, NT, bsT, snT, snL, abT, coT, ddT, k0T, k1T, k2T, k3T, k5T, xT⟩, saT, kpT⟩
  have FT := ok_xm (P := l.prog) (w := w) (base := base) Dx8 OX (N z_OverflowError) vV noT
  have mTM := PySem.W.mg_of X G aT
  have XT : XClsB K mg "OverflowError" ovN ovI ovM "TooMany" CT gx8 := ⟨OX, exT, tyT, ax8, tfT, mTM⟩
  have kVE : PySem.W.kitOne K (.ref CT) (.type "OverflowError") = some true := by
    unfold PySem.W.kitOne PySem.W.kitCls
    rw [if_neg (by intro q; exact nomatch (show Value.ref CT = Value.type "OverflowError" from beq_iff_eq.mp q))]
    show (if PySem.W.kitMeta "OverflowError" = true then PySem.W.subIn K (.ref CT) (.type "OverflowError") else none) = _
    rw [if_pos (by decide +kernel)]
    exact svT
  have XC : XCat K CT := ⟨⟨gaT, ggT, exT, hdT, caT, cnC, ctC, moT⟩, ⟨gaT, ggT, exT, hdT⟩, noT, PySem.W.exm_ref exT hdT tyT seT, kVE⟩
  have T : LoadC K mg C gm0 := ⟨⟨pgC, hdC, poC, saC⟩, ncC, ⟨mkC, am0, im0, kpC⟩, PySem.W.mg_of X G aC⟩
  have S : SlX.SIsi K C := ⟨caC, cnC, ctC, cmC⟩
  have I0 := ok_init0 (P := l.prog) (w := w) (base := base) Dm0 T H_check_counts H_tidy_counts
  have RD : ClX.CRead K C (.type "type") := ⟨rdC, gaC⟩
  have HO : HasC l.prog w K mg base 5 C "of" (spOf C) := ⟨.type "type", q_m1, gm1, RD, ⟨am1, ⟨_, rcm1⟩, fm1⟩, fnR_of (ok_of Dm1 T B2 I0 H_check_counts H_tidy_counts) bm1⟩
  have HTo : HasS l.prog w K mg base 6 C "total" (spTotal C) := ⟨.type "type", q_m3, gm3, RD, ⟨am3, ⟨_, rcm3⟩, km3⟩, ok_total T HO lm3 cm3 lTm3 rfl⟩
  have HNe : HasM l.prog w K mg base 6 C "__neg__" (spMapC C (fun i => -i) (fun _ => true)) := ⟨_, am16, fm16, im16, fnR_of (ok_uneg Dm16 T HO) bm16⟩
  have HG : HasM l.prog w K mg base 1 C "__getitem__" (spGet C) := ⟨_, am9, fm9, im9, fnR_of (ok_get Dm9 T) bm9⟩
  have HLe : HasM l.prog w K mg base 3 C "__le__" (spLe C) := ⟨_, am20, fm20, im20, fnR_of (ok_le Dm20 T S B2 HG) bm20⟩
  have HC : HasP l.prog w K mg base 1 C "counts" (spCounts C) := ⟨q_m4, gm4, _, ⟨am4, gem4, tkm4, ⟨_, rcm4⟩⟩, ok_counts Dm4 T B2, bm4⟩
  have HP : HasP l.prog w K mg base 6 C "positive" (spMapC C (fun i => i) (fun i => decide (0 < i))) := ⟨q_m6, gm6, _, ⟨am6, gem6, tkm6, ⟨_, rcm6⟩⟩, ok_pos Dm6 T HO, bm6⟩
  have HM : HasP l.prog w K mg base 6 C "negative" (spMapC C (fun i => -i) (fun i => decide (i < 0))) := ⟨q_m7, gm7, _, ⟨am7, gem7, tkm7, ⟨_, rcm7⟩⟩, ok_neg Dm7 T HO, bm7⟩
  have H_can_drive : Has l.prog w K mg base 8 "can_drive" ["drive", "stocks"] (spCan C) := ⟨g24, _, ok_can D24 T S HP HM HLe I0, b24, PySem.W.mg_of X G a24, k24⟩
  have H_stocks_after : Has l.prog w K mg base 9 "stocks_after" ["drive", "stocks"] (spAft C) := ⟨g25, _, ok_aft D25 T S B2 sfC am14 im14 (fnR_of (ok_add Dm14 T S B2 HTo) bm14) am15 im15 (fnR_of ((ok_sub (fn := gm16) Dm15 T S B2 HTo HNe).mono (by decide)) bm15) I0, b25, PySem.W.mg_of X G a25, k25⟩
  have FO := fun (m : Nat) (hm : m ≤ 9) => (ok_ord (P := l.prog) (w := w) (base := base) D23 B B2 (N z_enumerate) (N z_tuple) B.int H_can_drive H_stocks_after b23 (PySem.W.mg_of X G a23) k23 m).mono (show 9 + m + 1 ≤ 19 by omega)
  have FF := ok_fro (P := l.prog) (w := w) (base := base) (C := C) D22 B mO FO b23 (PySem.W.mg_of X G a23) k23 XT FT bx8
  have H__law_draw : Has l.prog w K mg base 1 "_law_draw" ["_law_pen_here", "_law_many"] spDraw := ⟨g28, _, ok_draw D28 B, b28, PySem.W.mg_of X G a28, k28⟩
  have H__law_pick : Has l.prog w K mg base 2 "_law_pick" ["_law_pen_here", "_law_items"] (spPick K) := ⟨g29, _, ok_pick D29 B H__law_draw, b29, PySem.W.mg_of X G a29, k29⟩
  have H__law_pen : Has l.prog w K mg base 1 "_law_pen" ["_law_script"] (spPen K) := ⟨g27, _, ok_pen D27 B, b27, PySem.W.mg_of X G a27, k27⟩
  have H__law_words : Has l.prog w K mg base 3 "_law_words" ["_law_pen_here", "_law_many"] spWords := ⟨g31, _, ok_words D31 B H__law_draw H__law_pick, b31, PySem.W.mg_of X G a31, k31⟩
  have H__law_shuffled : Has l.prog w K mg base 2 "_law_shuffled" ["_law_pen_here", "_law_items"] spShufV := ⟨g30, _, ok_shufV D30 B H__law_draw, b30, PySem.W.mg_of X G a30, k30⟩
  have H__law_clean : Has l.prog w K mg base 1 "_law_clean" ["_law_counts"] spClnL := ⟨g32, _, ok_clnL D32 B2 (N z_set), b32, PySem.W.mg_of X G a32, k32⟩
  have H__law_plus : Has l.prog w K mg base 2 "_law_plus" ["_law_one", "_law_other", "_law_times"] spPlu := ⟨g33, _, ok_plu D33 B2 H__law_clean, b33, PySem.W.mg_of X G a33, k33⟩
  have H__law_needed : Has l.prog w K mg base 1 "_law_needed" ["_law_counts", "_law_sign"] spNee := ⟨g38, _, ok_nee D38 B2, b38, PySem.W.mg_of X G a38, k38⟩
  have H__law_loads : Has l.prog w K mg base 6 "_law_loads" ["_law_counts_by"] (spLod C []) := ⟨g34, _, ok_lod D34 B2 T HO, b34, PySem.W.mg_of X G a34, k34⟩
  have H__law_rows_of : Has l.prog w K mg base 3 "_law_rows_of" ["_law_told"] (spRowL C) := ⟨g36, _, ok_rowL D36 T HC, b36, PySem.W.mg_of X G a36, k36⟩
  have H__law_some_drives : Has l.prog w K mg base 3 "_law_some_drives" ["_law_pen_here", "_law_kinds", "_law_houses", "_law_many"] (spSomL l.prog w) := ⟨g37, _, ok_somL D37 B B2 H__law_draw H__law_shuffled H__law_clean, b37, PySem.W.mg_of X G a37, k37⟩
  have H__law_stocks : Has l.prog w K mg base 3 "_law_stocks" ["_law_pen_here", "_law_rows"] spSto := ⟨g40, _, ok_sto D40 B B2 H__law_shuffled H__law_needed H__law_plus H__law_pick H__law_clean, b40, PySem.W.mg_of X G a40, k40⟩
  have H__law_done : Has l.prog w K mg base 3 "_law_done" ["_law_drive", "_law_held"] spDon := ⟨g39, _, ok_don D39 B2 H__law_needed H__law_plus, b39, PySem.W.mg_of X G a39, k39⟩
  have H__law_first : Has l.prog w K mg base 9 "_law_first" ["_law_rows", "_law_held", "_law_left"] spFirA := ⟨g41, _, fir_all fun m hm => (ok_fir D41 H__law_done b41 (PySem.W.mg_of X G a41) k41 m).mono (show 3 + m + 1 ≤ 9 by omega), b41, PySem.W.mg_of X G a41, k41⟩
  have H__law_is_line_right : Has l.prog w K mg base 21 "_law_is_line_right" ["_law_pen_here"] spLin := ⟨g43, _, ok_lin D43 B (N z_tuple) T H__law_draw H__law_words H__law_shuffled HO FF b22 (PySem.W.mg_of X G a22) k22, b43, PySem.W.mg_of X G a43, k43⟩
  exact ok_law l44 c44 TB D42 b42 (PySem.W.mg_of X G a42) XC mTM (N z_OverflowError) B B2 B3 (N z_tuple) T HO I0 {
    pen := H__law_pen
    draw := H__law_draw
    pick := H__law_pick
    words := H__law_words
    somed := H__law_some_drives
    stocks := H__law_stocks
    loads := H__law_loads
    first := H__law_first
    shown := ⟨g35, _, ok_sho D35 B3 T HC, b35, PySem.W.mg_of X G a35, k35⟩
    rows := H__law_rows_of
    line := H__law_is_line_right
    fo := ⟨g22, _, rot2, rot2, FF, b22, kb_fo D22, fun _ _ => rfl, PySem.W.mg_of X G a22, k22⟩ }
theorem walk {l : PySem.W.OpenLaw} {q : Program} {loose : List Str} {XP : (Str → Option Value) → Heap → Prop} {YP : World → Heap → Prop} {d : DefRec} {K : Params → PySem.W.Frag} (hn : l.most = some 63) (hdf : d.params.defaults = [])
    (hY : ∀ (w : World) (h : Heap), YP w h → (K w.params).In h)
    (F : ∀ (w : World) (mg : Str → Option Value) (fa : Addr) (h : Heap), YP w h → (K w.params).In h → h.Ns mainGlobals mg → mg d.name = some (.ref fa) → LawAtG l w (K w.params) 23 63 "_law_script" mg fa h) :
    PySem.W.WalkO q loose XP YP l.row.toRowW d [] (fun f vs => PySem.call f vs) :=
  walk_atG (n := 63) (k := 23) (x := "_law_script") hn (by decide) hdf ⟨rfl, by decide, by decide⟩ hY F
end Ld
open PySem PySem.W PyProof.Rows
set_option maxRecDepth 100000 in
set_option maxHeartbeats 0 in
theorem PySem.Challenge.cw_crateround_k88_first_orders_holds : PySem.Challenge.rw_crateround_k88_first_orders.Holds := by
  w_on; o_law; k_head; (case hw => w_witness2)
  k_fill
  refine Ld.walk (l := PySem.Challenge.rw_crateround_k88_first_orders) rfl rfl (fun w h Y => PySem.W.km_in_of Y) ?F
  case F =>
    intro w mg fa h Y KX G hmg
    refine' Ld.fin_mk KX G hmg ?a2 ?l2 ?c2 ?k2 ?a3 ?l3 ?c3 ?k3 ?a4 ?l4 ?c4 ?k4 ?a15 ?l15 ?c15 ?k15 ?a16 ?l16 ?c16 ?k16 ?a22 ?l22 ?c22 ?k22 ?a23 ?l23 ?c23 ?k23 ?a24 ?l24 ?c24 ?k24 ?a25 ?l25 ?c25 ?k25 ?a27 ?l27 ?c27 ?k27 ?a28 ?l28 ?c28 ?k28 ?a29 ?l29 ?c29 ?k29 ?a30 ?l30 ?c30 ?k30 ?a31 ?l31 ?c31 ?k31 ?a32 ?l32 ?c32 ?k32 ?a33 ?l33 ?c33 ?k33 ?a34 ?l34 ?c34 ?k34 ?a35 ?l35 ?c35 ?k35 ?a36 ?l36 ?c36 ?k36 ?a37 ?l37 ?c37 ?k37 ?a38 ?l38 ?c38 ?k38 ?a39 ?l39 ?c39 ?k39 ?a40 ?l40 ?c40 ?k40 ?a41 ?l41 ?c41 ?k41 ?a42 ?l42 ?c42 ?k42 ?a43 ?l43 ?c43 ?k43 ?a44 ?l44 ?c44 ?z_int ?z_abs ?z_list ?z_len ?z_range ?z_str ?z_bool ?z_sorted ?z_isinstance ?z_all ?z_dict ?z_min ?z_max ?z_repr ?z_set ?z_tuple ?z_enumerate ?z_OverflowError ?aC ?pgC ?hdC ?poC ?saC ?ncC ?mkC ?kpC ?caC ?cnC ?ctC ?cmC ?neC ?icC ?tyC ?rdC ?gaC ?am0 ?lm0 ?cm0 ?km0 ?fm0 ?im0 ?am1 ?rcm1 ?lm1 ?cm1 ?km1 ?fm1 ?am3 ?rcm3 ?lm3 ?cm3 ?km3 ?lTm3 ?am4 ?rcm4 ?lm4 ?cm4 ?km4 ?gem4 ?tkm4 ?am6 ?rcm6 ?lm6 ?cm6 ?km6 ?gem6 ?tkm6 ?am7 ?rcm7 ?lm7 ?cm7 ?km7 ?gem7 ?tkm7 ?am9 ?lm9 ?cm9 ?km9 ?fm9 ?im9 ?am14 ?lm14 ?cm14 ?km14 ?fm14 ?im14 ?am15 ?lm15 ?cm15 ?km15 ?fm15 ?im15 ?am16 ?lm16 ?cm16 ?km16 ?fm16 ?im16 ?am20 ?lm20 ?cm20 ?km20 ?fm20 ?im20 ?sfC ?cM ?cO ?aT ?xT ?saT ?exT ?tyT ?kpT ?ax8 ?lx8 ?cx8 ?kx8 ?tfT ?vV ?noT ?gaT ?ggT ?hdT ?caT ?moT ?seT ?svT ?hP ?nP ?hC
    (case a2 => k_is)
    (case l2 => k_is)
    (case c2 => k_is)
    (case k2 => k_is)
    (case a3 => k_is)
    (case l3 => k_is)
    (case c3 => k_is)
    (case k3 => k_is)
    (case a4 => k_is)
    (case l4 => k_is)
    (case c4 => k_is)
    (case k4 => k_is)
    (case a15 => k_is)
    (case l15 => k_is)
    (case c15 => k_is)
    (case k15 => k_is)
    (case a16 => k_is)
    (case l16 => k_is)
    (case c16 => k_is)
    (case k16 => k_is)
    (case a22 => k_is)
    (case l22 => k_is)
    (case c22 => k_is)
    (case k22 => k_is)
    (case a23 => k_is)
    (case l23 => k_is)
    (case c23 => k_is)
    (case k23 => k_is)
    (case a24 => k_is)
    (case l24 => k_is)
    (case c24 => k_is)
    (case k24 => k_is)
    (case a25 => k_is)
    (case l25 => k_is)
    (case c25 => k_is)
    (case k25 => k_is)
    (case a27 => k_is)
    (case l27 => k_is)
    (case c27 => k_is)
    (case k27 => k_is)
    (case a28 => k_is)
    (case l28 => k_is)
    (case c28 => k_is)
    (case k28 => k_is)
    (case a29 => k_is)
    (case l29 => k_is)
    (case c29 => k_is)
    (case k29 => k_is)
    (case a30 => k_is)
    (case l30 => k_is)
    (case c30 => k_is)
    (case k30 => k_is)
    (case a31 => k_is)
    (case l31 => k_is)
    (case c31 => k_is)
    (case k31 => k_is)
    (case a32 => k_is)
    (case l32 => k_is)
    (case c32 => k_is)
    (case k32 => k_is)
    (case a33 => k_is)
    (case l33 => k_is)
    (case c33 => k_is)
    (case k33 => k_is)
    (case a34 => k_is)
    (case l34 => k_is)
    (case c34 => k_is)
    (case k34 => k_is)
    (case a35 => k_is)
    (case l35 => k_is)
    (case c35 => k_is)
    (case k35 => k_is)
    (case a36 => k_is)
    (case l36 => k_is)
    (case c36 => k_is)
    (case k36 => k_is)
    (case a37 => k_is)
    (case l37 => k_is)
    (case c37 => k_is)
    (case k37 => k_is)
    (case a38 => k_is)
    (case l38 => k_is)
    (case c38 => k_is)
    (case k38 => k_is)
    (case a39 => k_is)
    (case l39 => k_is)
    (case c39 => k_is)
    (case k39 => k_is)
    (case a40 => k_is)
    (case l40 => k_is)
    (case c40 => k_is)
    (case k40 => k_is)
    (case a41 => k_is)
    (case l41 => k_is)
    (case c41 => k_is)
    (case k41 => k_is)
    (case a42 => k_is)
    (case l42 => k_is)
    (case c42 => k_is)
    (case k42 => k_is)
    (case a43 => k_is)
    (case l43 => k_is)
    (case c43 => k_is)
    (case k43 => k_is)
    (case a44 => k_is)
    (case l44 => k_is)
    (case c44 => k_is)
    (case z_int => k_is)
    (case z_abs => k_is)
    (case z_list => k_is)
    (case z_len => k_is)
    (case z_range => k_is)
    (case z_str => k_is)
    (case z_bool => k_is)
    (case z_sorted => k_is)
    (case z_isinstance => k_is)
    (case z_all => k_is)
    (case z_dict => k_is)
    (case z_min => k_is)
    (case z_max => k_is)
    (case z_repr => k_is)
    (case z_set => k_is)
    (case z_tuple => k_is)
    (case z_enumerate => k_is)
    (case z_OverflowError => k_is)
    (case aC => k_is)
    (case pgC => k_is)
    (case hdC => k_is)
    (case poC => k_is)
    (case saC => k_is)
    (case ncC => k_is)
    (case mkC => k_is)
    (case kpC => k_is)
    (case caC => k_is)
    (case cnC => k_is)
    (case ctC => k_is)
    (case cmC => k_is)
    (case neC => k_is)
    (case icC => k_is)
    (case tyC => k_is)
    (case rdC => k_is)
    (case gaC => k_is)
    (case am0 => k_is)
    (case lm0 => k_is)
    (case cm0 => k_is)
    (case km0 => k_is)
    (case fm0 => k_is)
    (case im0 => k_is)
    (case am1 => k_is)
    (case rcm1 => k_is)
    (case lm1 => k_is)
    (case cm1 => k_is)
    (case km1 => k_is)
    (case fm1 => k_is)
    (case am3 => k_is)
    (case rcm3 => k_is)
    (case lm3 => k_is)
    (case cm3 => k_is)
    (case km3 => k_is)
    (case lTm3 => k_is)
    (case am4 => k_is)
    (case rcm4 => k_is)
    (case lm4 => k_is)
    (case cm4 => k_is)
    (case km4 => k_is)
    (case gem4 => k_is)
    (case tkm4 => k_is)
    (case am6 => k_is)
    (case rcm6 => k_is)
    (case lm6 => k_is)
    (case cm6 => k_is)
    (case km6 => k_is)
    (case gem6 => k_is)
    (case tkm6 => k_is)
    (case am7 => k_is)
    (case rcm7 => k_is)
    (case lm7 => k_is)
    (case cm7 => k_is)
    (case km7 => k_is)
    (case gem7 => k_is)
    (case tkm7 => k_is)
    (case am9 => k_is)
    (case lm9 => k_is)
    (case cm9 => k_is)
    (case km9 => k_is)
    (case fm9 => k_is)
    (case im9 => k_is)
    (case am14 => k_is)
    (case lm14 => k_is)
    (case cm14 => k_is)
    (case km14 => k_is)
    (case fm14 => k_is)
    (case im14 => k_is)
    (case am15 => k_is)
    (case lm15 => k_is)
    (case cm15 => k_is)
    (case km15 => k_is)
    (case fm15 => k_is)
    (case im15 => k_is)
    (case am16 => k_is)
    (case lm16 => k_is)
    (case cm16 => k_is)
    (case km16 => k_is)
    (case fm16 => k_is)
    (case im16 => k_is)
    (case am20 => k_is)
    (case lm20 => k_is)
    (case cm20 => k_is)
    (case km20 => k_is)
    (case fm20 => k_is)
    (case im20 => k_is)
    (case sfC => k_is)
    (case cM => k_is)
    (case cO => k_is)
    (case aT => k_is)
    (case xT => k_is)
    (case saT => k_is)
    (case exT => k_is)
    (case tyT => k_is)
    (case kpT => k_is)
    (case ax8 => k_is)
    (case lx8 => k_is)
    (case cx8 => k_is)
    (case kx8 => k_is)
    (case tfT => k_is)
    (case vV => k_is)
    (case noT => k_is)
    (case gaT => k_is)
    (case ggT => k_is)
    (case hdT => k_is)
    (case caT => k_is)
    (case moT => k_is)
    (case seT => k_is)
    (case svT => k_is)
    (case hP => exact PySem.W.km_tabs_of Y _ List.mem_cons_self)
    (case nP => kernel_rfl)
    (case hC => kernel_rfl)
