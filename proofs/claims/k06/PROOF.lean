import PyProof.Rows.All
import Wide.All
import OpenK.AllK
import Wide.FinOn
import KE.KExcInit
import HandS.Base
import HandS.Call
import HandS.List
import HandS.Exc
import HandS.ExcInit
import KE.KIsAll
import HandS.Words
import PyProof.ReprRoads
import HandS.ForMost
import HandS.IsInst
import HandS.Conv
import HandS.More
import HandS.Style
import HandS.SortKw
import HandS.RaiseMore
import KE.KSortKey
import PyProof.Rows.SortShellAny
import HandS.DictComp
import HandS.Walk
import HandS.Flow
import KE.KParD
import HandS.Star
import HandS.MakeKw
import HandS.MakeKwOnly
import HandS.ClsMeth
import HandS.Property
import HandS.SlotsOwn
import PyProof.InstNe
import KE.KExcStr
import KE.KFmtOwn
import HandS.Text
import HandS.Strs
import HandS.FStr
import PyProof.ReprLen
import KE.KDictLaws
import PyProof.Rows.SetObj
import HandS.Set
import HandS.SetFor
import HandS.TupSets
import PyProof.StrLawsRepr
import KE.KOpsOwn
import PyProof.AutoIntG3
import HandS.OwnEq
import HandS.Wide
import PyProof.StrBlock2
import HandS.WordsExc
import PyProof.ListStr
import HandS.Lambda
import HandS.ExcField
import HandS.ExcIs
import HandS.EndTab
import PySem.Challenge.RW_crateround_k06_whole_load_texts_bent
set_option Elab.async false
set_option linter.all false
set_option maxRecDepth 100000
set_option maxHeartbeats 4000000
/-! k06: all texts read, over the landed program -/
/-! own exception classes over any built-in base, made with positions or keywords, held as values -/
namespace PySem
namespace CrX
open PySem.W PySem.Calls PyProof.Rows PySem.HandSPX
section
open Builtin Builtin.ObjectAttr
variable {M : Model} {prog : Program} {w : World} {A : Around} {E : Value → Shared → Prop} {R : Result → Shared → Prop} {h : Heap} {g : Array GenState} {d : Drawn} {t : Nat} {os : OsState}
variable {nm q : Str} {C N : Addr} {bs bm bmB : List Value} {hdct : Bool} {sn : List Str} {sub : List Value} {ab : Bool} {col : Option Bool} {dd : Option Addr} {k0 k1 k2 k3 k5 : Option Value} {B newId initId : String}

theorem check_new_kw (F : ExcBaseFacts B newId initId bmB) (hT : ∀ X : String, bm.contains (.type X) = bmB.contains (.type X)) {rest : List Value} {kw : List (Str × Value)} {Q : Unit → Shared → Prop}
    (hC : h.get? C = some (excClassObj nm q C N bs bm hdct sn sub ab col dd k0 k1 k2 k3 k5 newId)) (hq : Q () ⟨h, g, d, t, os⟩) : wpAny M A (checkBuiltinCall newId ⟨.ref C :: rest, kw⟩) Q E ⟨h, g, d, t, os⟩ := by
  have hcont : (Value.ref C :: bm).contains (.type B) = true := by rw [List.contains_cons, hT, F.hasB, Bool.or_true]
  have hstar := F.noStar
  simp only [checkBuiltinCall, F.newKind, F.newSplit, F.newRow]
  repeat (first | refine wpAny_loadPart_at hC ?_ | (refine wpAny_isSubtype_exc hC ?_; rw [hcont]) | refine wpAny_staticBase_exc hC ?_ | refine wpAny_madeBy_exc hC ?_ | simp only [bne_self_eq_false, Bool.false_eq_true, if_false] | wp_step)
  exact hq
theorem new_kw (F : ExcBaseFacts B newId initId bmB) (hT : ∀ X : String, bm.contains (.type X) = bmB.contains (.type X)) {rest : List Value} {kw : List (Str × Value)}
    (hC : h.get? C = some (excClassObj nm q C N bs bm hdct sn sub ab col dd k0 k1 k2 k3 k5 newId))
    (hq : R (.ok (.ret (.ref (h.objs.size + 1)))) ⟨(h.push { cls := .type "tuple", data := .seq rest.toArray }).push
      { cls := .ref C, data := .fields #[.ref h.objs.size, .none, .none, .none, .bool false, .none] }, g, d, t, os⟩) (hrest : rest.length ≤ sizeLine) :
    codeAny (model prog w) A (.builtin newId ⟨.ref C :: rest, kw⟩) R ⟨h, g, d, t, os⟩ := by
  have hends := F.ends
  have hcB : (Value.ref C :: bm).contains (.type B) = true := by rw [List.contains_cons, hT, F.hasB, Bool.or_true]
  have hcA : (Value.ref C :: bm).contains (.type "AttributeError") = false := by rw [List.contains_cons, hT, F.noAttr]; rfl
  have hcN : (Value.ref C :: bm).contains (.type "NameError") = false := by rw [List.contains_cons, hT, F.noName]; rfl
  refine codeAny_builtinAt F.entry ?_
  unfold Builtin.«BaseException.__new__»
  refine wpAt_bind ?_
  show wpAt _ _ _ (stack >>= _) _ _ _
  refine wpAt_bind (wpAt_stack fun p below => wpAt_of_wpAny ?_)
  wp_walk
  refine wpAt_of_wpAny ?_
  rw [F.owner]
  repeat (first | with_reducible refine wpAny_madeHere_exc F.canon hC ?_ | with_reducible refine wpAny_loadPart_at hC ?_ | (with_reducible refine wpAny_isSubtype_exc hC ?_; first | rw [hcB] | rw [hcA] | rw [hcN]) | wp_step)
  show R _ _
  rw [Heap.size_push]
  exact hq
theorem type_call_kw (F : ExcBaseFacts B newId initId bmB) (hT : ∀ X : String, bm.contains (.type X) = bmB.contains (.type X)) {rest : List Value} {kw : List (Str × Value)} {fI : Addr} {Q : Fin → Shared → Prop}
    (hC : h.get? C = some (excClassObj nm q C N bs bm hdct sn sub ab col dd k0 k1 k2 k3 k5 newId))
    (hi : W.Looks (model prog w) h (typeLookup (.ref C) "__init__") (some (.ref fI))) (hb : ∀ self, W.Looks (model prog w) h (bindSpecial (.ref fI) self) (.ref fI, [self])) (hrest : rest.length ≤ sizeLine)
    (hq : codeAny (model prog w) A (.call (.ref fI) ⟨.ref (h.objs.size + 1) :: rest, kw⟩)
      (fun r s' => match r with | .ok (.ret v) => v = .none ∧ Q (.done (.ret (.ref (h.objs.size + 1)))) s' | .ok _ => False | .error e => E e s')
      ⟨(h.push (W.kdv_tup rest)).push (excO C h.objs.size), g, d, t, os⟩) :
    wpAny (model prog w) A (Builtin.«type.__call__» ⟨.ref C :: rest, kw⟩) Q E ⟨h, g, d, t, os⟩ := by
  repeat (first | with_reducible refine wpAny_loadPart_at hC ?_ | with_reducible refine wpAny_madeBy_exc hC ?_ | wp_step)
  refine codeAny_call_builtin_code (Code.quiet_builtin _ F.quiet) (check_new_kw F hT hC ?_)
  refine new_kw F hT hC ?_ hrest
  show wpAny _ _ _ _ _ _
  have k : ∀ b o, h.get? b = some o → ((h.push (W.kdv_tup rest)).push (excO C h.objs.size)).get? b = some o := fun b o e => Heap.get?_push_of_some _ (Heap.get?_push_of_some _ e)
  have hC₁ := k _ _ hC
  have hget : ((h.push (W.kdv_tup rest)).push (excO C h.objs.size)).get? (h.objs.size + 1) = some (excO C h.objs.size) := by heap_get
  have hcC : (Value.ref C :: bm).contains (.ref C) = true := by simp
  have i1 := hi.keeps k
  have b1 := (hb (.ref (h.objs.size + 1))).keeps k
  unfold isInstance
  repeat (first | with_reducible refine wpAny_loadPart_at hget ?_ | (with_reducible refine wpAny_isSubtype_exc hC₁ ?_; rw [hcC]) | wp_step)
  show wpAny _ _ (typeLookup (.ref C) _) _ _ _
  refine i1.at ?_
  refine wpAny_holding (wpAny_bind (b1.at ?_))
  refine wpAny_bind (wpAny_call (codeAny_mono hq fun r s' z => ?_))
  rcases r with e | (v | _ | _ | _) <;> first | exact z | exact z.elim | skip
  obtain ⟨rfl, z⟩ := z
  first
    | exact wpAny_pure (wpAny_pure z)
    | (wp_walk; exact z)
theorem call_kw (F : ExcBaseFacts B newId initId bmB) (hT : ∀ X : String, bm.contains (.type X) = bmB.contains (.type X)) {rest : List Value} {kw : List (Str × Value)} {fI : Addr}
    (hC : h.get? C = some (excClassObj nm q C N bs bm hdct sn sub ab col dd k0 k1 k2 k3 k5 newId))
    (hi : W.Looks (model prog w) h (typeLookup (.ref C) "__init__") (some (.ref fI))) (hb : ∀ self, W.Looks (model prog w) h (bindSpecial (.ref fI) self) (.ref fI, [self])) (hrest : rest.length ≤ sizeLine)
    (hq : codeAny (model prog w) (A.under (.builtin "type.__call__" ⟨.ref C :: rest, kw⟩)) (.call (.ref fI) ⟨.ref (h.objs.size + 1) :: rest, kw⟩) (W.InitBack (h.objs.size + 1) R)
      ⟨(h.push (W.kdv_tup rest)).push (excO C h.objs.size), g, d, t, os⟩) :
    codeAny (model prog w) A (.call (.ref C) ⟨rest, kw⟩) R ⟨h, g, d, t, os⟩ := by
  have f1 := tc_lookup
  have f2 := tc_bind (.ref C)
  have hTy : (⟨h, g, d, t, os⟩ : Shared).TypeIs (.ref C) "type" := ⟨_, hC, rfl⟩
  refine codeAny_of_tree ?_
  show wpAny _ _ (callAny (.ref C) _) _ _ _
  repeat (any_goals (first | assumption | with_reducible refine wpAny_loadPart_at hC ?_ | wp_step))
  refine ⟨rfl, ?_⟩
  refine codeAny_call_builtin_at (Code.quiet_builtin _ (by decide +kernel)) entry_typeCall (wpAny_check_type_call_sub hC (type_call_kw F hT hC hi hb hrest ?_))
  refine codeAny_mono hq fun r s' z => ?_
  rcases r with e | (v | _ | _ | _) <;> exact z

/-- self.name = v, the first attribute -/
theorem osa_new (SF : StoreFacts B bmB "object.__setattr__" "object") {K : W.Frag} {name : Str} {tk : Tok} {v : Value} {x C : Addr} {fv : Array Value} {cd : ClassData}
    (X : K.In h) (hx : h.get? x = some { cls := .ref C, data := .fields fv }) (hcd : W.clsIn K C = some cd) (hm : cd.mro = .ref C :: bmB) (hob : bmB.contains (.type "object") = true) (hh : cd.hasDict = true) (ha : W.findIn K (.ref C) name = some none)
    (hq : ∀ h' tk' dx, (∀ b o, b ≠ x → h.get? b = some o → h'.get? b = some o) → h.objs.size ≤ dx → dx ≠ x → h'.get? x = some { cls := .ref C, dict := some dx, data := .fields fv } →
      h'.Ns1 dx (fun y => if y = name then some v else none) → R (.ok (.ret .none)) ⟨h', g, d, tk', os⟩) :
    codeAny (model prog w) A (.call (.builtin "object.__setattr__") ⟨[.ref x, .str name tk, v], []⟩) R ⟨h, g, d, t, os⟩ := by
  have I : W.InstAt h x { cls := .ref C, data := .fields fv } C none := ⟨hx, rfl, rfl, trivial⟩
  have SO := F.store_object
  have hob' : cd.mro.contains (.type "object") = true := by rw [hm, List.contains_cons, hob, Bool.or_true]
  have hxs : x ≠ h.objs.size := Nat.ne_of_lt (Heap.lt_size hx)
  have sub : W.Looks (model prog w) h (isInstance (.ref x) (.type "object")) true := I.type.andThen (W.looks_mroIn X (by unfold W.mroIn; rw [hcd, Option.bind_some, if_neg (by rw [hm]; exact Bool.false_ne_true), hob']))
  refine codeAny_call_builtin SO.slot.plain SO.entry (@W.check_slot (model prog w) _ _ ⟨h, g, d, t, os⟩ "object.__setattr__" "object" "__setattr__" (.ref x) [.str name tk, v] [] _ SO.kind SO.split sub (SO.args (.ref x) (.str name tk) v) ?_)
  have hmr : W.Looks (model prog w) h (mroOf (.ref C)) cd.mro := (W.looks_clsIn X hcd).andThen .now
  have L3 : W.Looks (model prog w) h (storeTaker? none) none := .now
  have hcls : W.Looks (model prog w) h (classData C) cd := W.looks_clsIn X hcd
  rw [W.osa_eq, refuse_eq]
  refine wpAny_bind (wpAny_bind (I.type.at (wpAny_bind (hmr.at ?_))))
  rw [hm, refuseLoop_ref, SF.passes]
  refine wpAny_pure (wpAny_bind (I.type.at (wpAny_bind ((W.looks_findIn X ha).at (wpAny_bind (L3.at ?_))))))
  show wpAny _ _ (storeInOwnDict (.ref x) (.ref C) (.str name tk) name v false) _ _ _
  obtain ⟨nm, bs, mro, ns, qn, hd, sn, sb, ab, col, del⟩ := cd
  dsimp only at hh
  subst hh
  unfold storeInOwnDict ownDictForStores
  repeat (first | with_reducible refine HandSPX.store_in_new ?_ ?_ | with_reducible refine wpAny_loadPart_at hx ?_ | with_reducible refine hcls.at ?_ | wp_step)
  · exact ⟨_, #[], _, (Heap.get?_update_ne _ _ _ _ hxs.symm).trans (Heap.get?_push_at rfl rfl), rfl, fun e he => absurd he (by simp), fun _ => rfl⟩
  · intro h' tk' hn' hs
    have hx₁ : (h.push { cls := .type "dict", data := .dict #[] }).get? x = some { cls := .ref C, data := .fields fv } := Heap.get?_push_of_some _ hx
    refine hq h' tk' h.objs.size (fun b o hb ho => ?_) (Nat.le_refl _) hxs.symm ?_ hn'
    · exact (hs.2 b (Nat.ne_of_lt (Heap.lt_size ho))).trans ((Heap.get?_update_ne _ _ _ _ hb).trans (Heap.get?_push_of_some _ ho))
    · exact (hs.2 x hxs).trans (Heap.get?_update_self _ hx₁ rfl)
theorem osa_old (SF : StoreFacts B bmB "object.__setattr__" "object") {K : W.Frag} {name : Str} {tk : Tok} {v : Value} {x C dx : Addr} {fv : Array Value} {cd : ClassData} {m0 : Str → Option Value} {nl : List Str}
    (X : K.In h) (hx : h.get? x = some { cls := .ref C, dict := some dx, data := .fields fv }) (hns : h.Ns1 dx m0) (hw : Within m0 nl) (hz : nl.length ≤ 1000) (hcd : W.clsIn K C = some cd) (hm : cd.mro = .ref C :: bmB) (hob : bmB.contains (.type "object") = true) (hh : cd.hasDict = true)
    (ha : W.findIn K (.ref C) name = some none)
    (hq : ∀ h' tk', (∀ b o, b ≠ dx → h.get? b = some o → h'.get? b = some o) → h'.Ns1 dx (fun y => if y = name then some v else m0 y) → R (.ok (.ret .none)) ⟨h', g, d, tk', os⟩) :
    codeAny (model prog w) A (.call (.builtin "object.__setattr__") ⟨[.ref x, .str name tk, v], []⟩) R ⟨h, g, d, t, os⟩ := by
  obtain ⟨oD, esD, epD, hoD, hdD, _⟩ := hns.count hw
  have I : W.InstAt h x { cls := .ref C, dict := some dx, data := .fields fv } C (some oD) := ⟨hx, rfl, rfl, hoD⟩
  have SO := F.store_object
  have hob' : cd.mro.contains (.type "object") = true := by rw [hm, List.contains_cons, hob, Bool.or_true]
  have sub : W.Looks (model prog w) h (isInstance (.ref x) (.type "object")) true := I.type.andThen (W.looks_mroIn X (by unfold W.mroIn; rw [hcd, Option.bind_some, if_neg (by rw [hm]; exact Bool.false_ne_true), hob']))
  refine codeAny_call_builtin SO.slot.plain SO.entry (@W.check_slot (model prog w) _ _ ⟨h, g, d, t, os⟩ "object.__setattr__" "object" "__setattr__" (.ref x) [.str name tk, v] [] _ SO.kind SO.split sub (SO.args (.ref x) (.str name tk) v) ?_)
  have hmr : W.Looks (model prog w) h (mroOf (.ref C)) cd.mro := (W.looks_clsIn X hcd).andThen .now
  have L3 : W.Looks (model prog w) h (storeTaker? none) none := .now
  have hcls : W.Looks (model prog w) h (classData C) cd := W.looks_clsIn X hcd
  rw [W.osa_eq, refuse_eq]
  refine wpAny_bind (wpAny_bind (I.type.at (wpAny_bind (hmr.at ?_))))
  rw [hm, refuseLoop_ref, SF.passes]
  refine wpAny_pure (wpAny_bind (I.type.at (wpAny_bind ((W.looks_findIn X ha).at (wpAny_bind (L3.at ?_))))))
  show wpAny _ _ (storeInOwnDict (.ref x) (.ref C) (.str name tk) name v false) _ _ _
  obtain ⟨nm, bs, mro, ns, qn, hd, sn, sb, ab, col, del⟩ := cd
  dsimp only at hh
  subst hh
  unfold storeInOwnDict ownDictForStores
  repeat (first | with_reducible refine OEX.store_in_old hns hw hz ?_ | with_reducible refine wpAny_loadPart_at hx ?_ | with_reducible refine hcls.at ?_ | wp_step)
  intro h' tk' hn' hs
  exact hq h' tk' (fun b o hb ho => (hs.2 b hb).trans ho) hn'
end
end CrX
end PySem
namespace PySem.CrX
open PySem PySem.Spec PySem.W PySem.Calls PyProof.Rows
section
variable {prog : Program} {w : World} {A : Around} {E : Value → Shared → Prop} {s : Shared} {K : Frag} {x D : Addr} {ox : Obj} {od : Option Obj}
theorem findObj_dataO {C : Addr} {name : Str} {a g : Value} (hc : (clsIn K C).isSome = true) (ha : findIn K (.ref C) name = some (some a)) (hg : specialIn K a "__get__" = some (some g)) (ht : takesIn K a = some true) : findObj K C od name = some (.bind g a) := by
  obtain ⟨cd, hc⟩ := Option.isSome_iff_exists.mp hc
  unfold findObj
  rw [hc, Option.bind_some, ha, Option.bind_some]
  simp [hg, ht]
theorem kin_classO {Q : Option Value → Shared → Prop} (hga : findIn K (.ref D) "__getattribute__" = some (some (.builtin "BaseException.__getattribute__"))) (hgt : findIn K (.ref D) "__getattr__" = some none) (hsub : subIn K (.ref D) (.type "BaseException") = some true)
    (hdct : hasDictIn K D = true) (ha : findIn K (.ref D) "__class__" = some (some (.builtin "object.__class__")))
    (hn : specialIn K (.builtin "object.__class__") "__get__" = some (some (.builtin "getset_descriptor.__get__"))) (htk : takesIn K (.builtin "object.__class__") = some true) (hm : mroIn K D (.type "object") = some true)
    (X : K.In s.heap) (I : InstAt s.heap x ox D od) (h : Q (some (.ref D)) { s with toks := s.toks + 1 }) : wpAny (model prog w) A (getAttr? (.ref x) "__class__") Q E s := by
  have hf : findObj K D od "__class__" = some (.bind (.builtin "getset_descriptor.__get__") (.builtin "object.__class__")) := findObj_dataO (by obtain ⟨cd, hc, _⟩ := any_some hdct; rw [hc]; rfl) ha hn htk
  obtain ⟨hp, g, d, t, os⟩ := s
  have L0 := I.type (M := model prog w)
  have L1 := looks_findIn (M := model prog w) X hga
  have L2 := looks_findIn (M := model prog w) X hgt
  have L3 := looks_find (M := model prog w) X I hf
  have sub : Looks (model prog w) hp (isInstance (.ref x) (.type "BaseException")) true := L0.andThen (looks_subIn X hsub)
  have hx0 : (false && onTheHeap (Value.builtin "BaseException.__getattribute__")) = false := rfl
  have hx2 : (Value.builtin "BaseException.__getattribute__" == Value.builtin "object.__getattribute__") = false := by decide +kernel
  have hx1 : (onTheHeap (Value.ref D) && Value.builtin "BaseException.__getattribute__" == Value.builtin "object.__getattribute__") = false := by rw [hx2]; rfl
  unfold getAttr? getAttrBy? getAttrBy
  refine wpAny_bind (wpAny_mkText (wpAny_bind (wpAny_attempt (wpAny_holding (wpAny_bind (L0.at (wpAny_bind (L1.at ?_))))))))
  show wpAny _ _ (if (onTheHeap (Value.ref D) && Value.builtin "BaseException.__getattribute__" == Value.builtin "object.__getattribute__") = true then _ else _) _ _ _
  rw [hx1, if_neg Bool.false_ne_true]
  unfold getAttrByItsOwn hookBefore
  refine wpAny_bind ?_
  rw [if_pos (show onTheHeap (Value.ref D) = true from rfl)]
  refine L2.at ?_
  refine wpAny_bind (wpAny_attempt (wpAny_holding ?_))
  unfold callGetattribute
  rw [hx0, if_neg Bool.false_ne_true]
  unfold boundAndCalled
  rw [PySem.F.excAttr_ValueError.ga.bind (.ref x)]
  refine wpAny_bind (wpAny_pure ?_)
  show wpAny _ _ (call (.builtin "BaseException.__getattribute__") [.ref x, .str "__class__" t]) _ _ _
  refine wpAny_call (codeAny_call_builtin PySem.F.excAttr_ValueError.ga.plain PySem.F.entry_bexc_ga ?_)
  refine @check_slot (model prog w) _ _ ⟨hp, g, d, t + 1, os⟩ "BaseException.__getattribute__" "BaseException" "__getattribute__" (.ref x) [.str "__class__" t] [] _ (by decide +kernel) (by decide +kernel) sub (PySem.F.args_bexc_ga (.ref x) (.str "__class__" t)) ?_
  unfold Builtin.«object.__getattribute__»
  refine wpAny_bind (wpAny_of_eq (a := ((Value.ref x : Value), [Value.str "__class__" t])) (by first | rfl | (simp only [slotArgs]; rfl)) ?_)
  refine wpAny_bind (wpAny_pure (wpAny_bind (L0.at (wpAny_bind (L3.at ?_)))))
  show wpAny _ _ (holding [Value.builtin "object.__class__"] (call (.builtin "getset_descriptor.__get__") [.builtin "object.__class__", .ref x, .ref D]) >>= ret) _ _ _
  refine wpAny_bind (wpAny_holding (wpAny_call (class_get (s := ⟨hp, g, d, t + 1, os⟩) (ox := ox) (od := od) X I hm ?_)))
  refine wpAny_pure ?_
  show wpAny _ _ (handedOut (.ref D)) _ _ _
  rw [handedOut_of (v := .ref D) rfl]
  first
    | exact wpAny_pure (wpAny_pure h)
    | exact wpAny_pure h
    | exact wpAny_pure (wpAny_bind (wpAny_pure (wpAny_pure h)))
theorem kitx_excO (hga : findIn K (.ref D) "__getattribute__" = some (some (.builtin "BaseException.__getattribute__"))) (hgt : findIn K (.ref D) "__getattr__" = some none) (hsub : subIn K (.ref D) (.type "BaseException") = some true) (hdct : hasDictIn K D = true) (ha : findIn K (.ref D) "__class__" = some (some (.builtin "object.__class__")))
    (hn : specialIn K (.builtin "object.__class__") "__get__" = some (some (.builtin "getset_descriptor.__get__"))) (htk : takesIn K (.builtin "object.__class__") = some true) (hm : mroIn K D (.type "object") = some true) :
    KitX K (.ref x) (.ref D) (fun h => InstAt h x ox D od) where
  ty := fun _ _ _ I => I.type
  it := fun _ _ X _ => by
    obtain ⟨cdD, hcD, _⟩ := any_some hdct
    unfold clsIn at hcD
    split at hcD
    · rename_i c' d' cd' sl' ho
      intro A' Q' E' s' k q
      unfold isType loadHead
      exact wpAny_bind (wpAny_loadPart (k _ _ (X _ _ ho)) (wpAny_pure q))
    · cases hcD
  ne := fun h tp dd its n sl X htp => by
    obtain ⟨cdD, hcD, _⟩ := any_some hdct
    refine Bool.eq_false_iff.mpr fun q => ?_
    have e : D = tp := Value.ref.inj (beq_iff_eq.mp q)
    subst e
    unfold clsIn at hcD
    split at hcD
    · rename_i c' d' cd' sl' ho
      have z := (X _ _ ho).symm.trans htp
      cases z
    · cases hcD
  ca := fun X I k => kin_classO hga hgt hsub hdct ha hn htk hm X I k
end
end PySem.CrX

namespace L2
open PySem PySem.Spec PyProof.Rows
/-- an own exception class at C directly over a built-in base, its own __init__ at fI; its objects have the attributes f only -/
structure OexB (K : PySem.W.Frag) (B newId initId : String) (bmB : List Value) (C : Addr) : Prop where
  F : ExcBaseFacts B newId initId bmB
  S : StoreFacts B bmB "object.__setattr__" "object"
  ob : bmB.contains (.type "object") = true
  cls : ∃ nm q N bs sn sub ab col dd k0 k1 k2 k3 k5, K.lookup C = some (excClassObj nm q C N bs bmB true sn sub ab col dd k0 k1 k2 k3 k5 newId)
  sa : PySem.W.findIn K (.ref C) "__setattr__" = some (some (.builtin "object.__setattr__"))
  kC : PySem.W.keepIn K (.ref C) = true
section
variable {X : Cx} {pins : List (Addr × Obj)} {σ : St} {H : Hp} {s : Shared} {a C dx : Addr} {f : Str} {y : V} {u : Value} {fs : List (Str × V)} {Q : Unit → Shared → Prop} {E : Value → Shared → Prop} {A : Around}
variable {B newId initId : String} {bmB : List Value}
theorem OexB.clsIs (T : OexB X.K B newId initId bmB C) : ∃ cd, PySem.W.clsIn X.K C = some cd ∧ cd.mro = .ref C :: bmB ∧ cd.hasDict = true := by
  obtain ⟨nm, q, N, bs, sn, sub, ab, col, dd, k0, k1, k2, k3, k5, hC⟩ := T.cls
  exact ⟨{ name := nm, bases := bs, mro := .ref C :: bmB, ns := N, qualname := q, hasDict := true, slotNames := sn, subclasses := sub, abstract := ab, collection := col, hasDel := false }, by unfold PySem.W.clsIn; rw [hC] <;> rfl, rfl, rfl⟩
/-- self.f = y, the first one -/
theorem ostB_new (T : OexB X.K B newId initId bmB C) (I : Inv X pins σ H s) (e : H a = some (exo a C none)) (hno : PySem.W.findIn X.K (.ref C) f = some none) (ry : RelV y u)
    (h : ∀ dx s', H dx = none → dx ≠ a → Inv X pins σ (upd (upd H dx (exd dx [(f, y)])) a (exo a C (some dx))) s' → Q () s') : wpAny (model X.prog X.w) A (setAttr (.ref a) f u) Q E s := by
  obtain ⟨cd, hcl, hmro, hhd⟩ := T.clsIs
  obtain ⟨t1, ho⟩ := exo_at I.hok e
  obtain ⟨hp, g, d, t, os⟩ := s
  refine PySem.W.set_plain I.kIn (ox := { cls := .ref C, dict := none, data := .fields #[.ref t1, .none, .none, .none, .bool false, .none] }) (od := none) ⟨ho, rfl, rfl, trivial⟩ T.sa ?_
  refine PySem.CrX.osa_new T.S I.kIn ho hcl hmro T.ob hhd hno (fun h' tk' dx k dn dne hx hn => ?_)
  have hnd : H dx = none := I.hok.fresh dn
  have nd : ∀ {b : Addr} {o : Obj}, hp.get? b = some o → b ≠ dx := fun {b o} q => Nat.ne_of_lt (Nat.lt_of_lt_of_le (Heap.lt_size q) dn)
  have na : ∀ {b : Addr}, H b = none → b ≠ a := fun {b} n z => by
    rw [z, e] at n
    cases n
  have Un1 : Un X.fs [] H (upd (upd H dx (exd dx [(f, y)])) a (exo a C (some dx))) hp h' := {
    keep := fun b o q n _ _ => k b o (na n) q
    slot := fun b o q n _ _ => ⟨o.slots, k b o (na n) q⟩
    free := fun b o q n _ => by rw [upd_ne (na n), upd_ne (nd q)]; exact n
    there := fun b o q _ => by
      by_cases hb : b = a
      · exact ⟨_, by rw [hb]; exact hx⟩
      · exact ⟨o, k b o hb q⟩
    tups := fun b xs q => by rw [upd_ne (at_ne e q exo_tup), upd_ne (ne_of_none q hnd)]; exact q
    frzs := fun b o v q => by rw [upd_ne (at_ne e q exo_frz), upd_ne (ne_of_none q hnd)]; exact q
    tbls := fun b ps q => ⟨#[], by rw [upd_ne (at_ne e q exo_tbl), upd_ne (ne_of_none q hnd), q]; simp⟩ }
  refine h dx _ hnd dne (I.un (t' := tk') Un1 fun b o q => ?_)
  by_cases hb : b = a
  · subst hb
    rw [upd_same] at q
    cases q
    exact exo_ok hx
  · rw [upd_ne hb] at q
    by_cases hd : b = dx
    · subst hd
      rw [upd_same] at q
      cases q
      exact exd_ok hn (relO_put (fs := []) ry fun g => True.intro)
    · rw [upd_ne hd] at q
      exact (I.hok b o q).stay (fun c v hc z => k c v (by
          rcases hc with hc | hc
          · rw [hc]
            exact hb
          · exact at_ne e hc exo_own) z)
        (fun c hc => by rw [upd_ne (at_ne e hc exo_own), upd_ne (ne_of_none hc hnd)]; exact hc) (fun c xs hc => by rw [upd_ne (at_ne e hc exo_tup), upd_ne (ne_of_none hc hnd)]; exact hc)
/-- self.f = y, a further one -/
theorem ostB_old (T : OexB X.K B newId initId bmB C) (I : Inv X pins σ H s) (e : H a = some (exo a C (some dx))) (ed : H dx = some (exd dx fs)) (hl : fs.length ≤ 900) (hno : PySem.W.findIn X.K (.ref C) f = some none) (ry : RelV y u)
    (h : ∀ s', Inv X pins σ (upd H dx (exd dx ((f, y) :: fs))) s' → Q () s') : wpAny (model X.prog X.w) A (setAttr (.ref a) f u) Q E s := by
  obtain ⟨cd, hcl, hmro, hhd⟩ := T.clsIs
  obtain ⟨t1, ho⟩ := exo_at I.hok e
  obtain ⟨mA, hns, rel⟩ := exd_at I.hok ed
  have hw := within_of rel
  obtain ⟨hp, g, d, t, os⟩ := s
  obtain ⟨oD, _, _, hoD, _, _⟩ := hns.count hw
  refine PySem.W.set_plain I.kIn (ox := { cls := .ref C, dict := some dx, data := .fields #[.ref t1, .none, .none, .none, .bool false, .none] }) (od := some oD) ⟨ho, rfl, rfl, hoD⟩ T.sa ?_
  refine PySem.CrX.osa_old T.S I.kIn ho hns hw (by rw [List.length_map]; omega) hcl hmro T.ob hhd hno (fun h' tk' k hn => ?_)
  have hd : ∃ o, h'.get? dx = some o := by
    obtain ⟨o, _, _, e', _⟩ := hn
    exact ⟨o, e'⟩
  exact h _ (I.write (t' := tk') (x := dx) (e := dx) (o := exd dx ((f, y) :: fs)) (by rw [ed]; exact True.intro) (.inl rfl) k hd (exd_ok hn (relO_put ry rel)))
/-- B.__init__(self, ..): nothing of it is told -/
theorem binit_ok {us : List Value} {Q : Value → Shared → Prop} (T : OexB X.K B newId initId bmB C) (I : Inv X pins σ H s) (e : H a = some (exo a C none)) (hl : us.length ≤ sizeLine) (h : ∀ s', Inv X pins σ H s' → Q .none s') :
    wpAny (model X.prog X.w) A (call (.builtin initId) (.ref a :: us)) Q E s := by
  obtain ⟨nm, q, N, bs, sn, sub, ab, col, dd, k0, k1, k2, k3, k5, hC⟩ := T.cls
  obtain ⟨t1, ho⟩ := exo_at I.hok e
  obtain ⟨hp, g, d, t, os⟩ := s
  refine wpAny_call (PySem.HandSPX.init_base T.F (fun Y => rfl) (I.kIn _ _ hC) ho hl fun h' t2 k hx => ?_)
  have J := I.write (t' := t) (x := a) (e := a) (o := exo a C none) (by rw [e]; exact True.intro) (.inl rfl) k ⟨_, hx⟩ (exo_ok hx)
  have eu : upd H a (exo a C none) = H := by
    funext b
    by_cases hb : b = a
    · rw [hb, upd_same, e]
    · rw [upd_ne hb]
  rw [eu] at J
  exact h _ J
end

/-- B.__init__(self, ..) -/
def tBi (K : PySem.W.Frag) (B newId initId : String) (bmB : List Value) (ta : TA) : TE := fun σ H Q => ta σ H fun vs H1 => ∃ (a C : Addr) (ws : List V), vs = .ref a :: ws ∧ ws.length ≤ 1000 ∧ OexB K B newId initId bmB C ∧ H1 a = some (exo a C none) ∧ Q .non H1
/-- self.f = e -/
def tOstB (K : PySem.W.Frag) (B newId initId : String) (bmB : List Value) (f : Str) (to te : TE) : TS := fun D σ H => te σ H fun y H1 => to σ H1 fun x H2 => ∃ a C : Addr, x = .ref a ∧ OexB K B newId initId bmB C ∧ PySem.W.findIn K (.ref C) f = some none ∧
  ((H2 a = some (exo a C none) ∧ ∀ dx, H2 dx = none → dx ≠ a → D.nx σ (upd (upd H2 dx (exd dx [(f, y)])) a (exo a C (some dx)))) ∨
    ∃ (dx : Addr) (fs : List (Str × V)), H2 a = some (exo a C (some dx)) ∧ H2 dx = some (exd dx fs) ∧ fs.length ≤ 900 ∧ D.nx σ (upd H2 dx (exd dx ((f, y) :: fs))))
/-- C(e, .., k = v, ..) as a value: a new exception object, then C's own __init__, which keeps sp -/
def tMkV (C : Addr) (sp : Sp) (ta : TA) : TE := fun σ H Q => ta σ H fun vs H1 => vs.length ≤ 1000 ∧ ∀ a, H1 a = none → sp (.ref a :: vs) (upd H1 a (exo a C none)) (fun v H2 => v = .non ∧ Q (.ref a) H2) (fun _ _ _ => False)
section
variable {X : Cx} {o e : Expr} {es : List Expr} {to te : TE} {ta tk : TA} {f : Str} {p p' p1 p2 pos : Pos} {B newId initId : String} {bmB : List Value} {kws : List Keyword} {ks : List Str}
theorem pe_binit {pl : Sem Bool} (x : Str) (hg : Gl X x) (hm : X.mg x = none) (hv : bootBuiltins x = some (.type B)) (ty : typeOf (.type B) = pure (.type "type")) (stub : Manifest.isStub B = false)
    (vV : PySem.W.findCls X.K (.type B) (.type "type") "__init__" = some (.val (.builtin initId))) (hh : PySem.W.handedIn (.builtin initId) = true) (ha : PA X (e :: es) ta)
    (hn : x ≠ "__name__" := by decide) (hdb : (x == ("__debug__" : Str)) = false := by decide)
    (hc : eval (.Call (.Attribute (.Name x p1) "__init__" p2) (e :: es) [] pos) X.env = (do
      let ov ← eval (.Name x p1) X.env
      standAt p2.atName
      let (f, first) ← holding [ov] (getMethod ov "__init__" pl)
      callWith pos f first (backTo pos (starEach (e :: es) X.env)) (backToKw pos (keywordEach [] X.env))) := by rfl)
    (he : starEach (e :: es) X.env = (false, eval e X.env) :: starEach es X.env := by rfl) (hpl : (backTo pos (starEach es X.env)).any (·.1) = false := by rfl) :
    PE X (.Call (.Attribute (.Name x p1) "__init__" p2) (e :: es) [] pos) (tBi X.K B newId initId bmB ta) := by
  refine ⟨fun pins s σ H Q I h => ?_⟩
  refine PySem.W.methodCall_KW (ld_blt I hg hm hv ?_ hn hdb) hc
  obtain ⟨m, fr⟩ := I.fr
  refine PySem.W.method_type fr I.ok.mod.kin ty stub vV hh ?_
  show wpAny _ _ (callWith pos (Value.builtin initId) [] (backTo pos (starEach (e :: es) X.env)) []) _ _ _
  refine PyProof.Rows.callWith_method1 (thn (ha.run pos pins _ σ H _ (I.tok _) h) fun us s1 ⟨vs, H1, I1, r1, a, C, ws, ev, hl, T, ea, q⟩ => ?_) he hpl
  subst ev
  cases r1 with
  | @cons _ u0 _ ur ra rw' =>
    obtain rfl : u0 = Value.ref a := ra
    have hlen : ur.length ≤ sizeLine := by
      rw [← Paired.length rw', sizeLine_eq]
      omega
    exact binit_ok T I1 ea hlen fun s' J => ⟨.non, H1, J, rfl, q⟩
theorem ps_ostB (ho : PE X o to) (he : PE X e te) (hs : swapsWith e (some (.Attribute o f p')) pos.line X.env = pure false := by rfl) : PS X (.Assign [.Attribute o f p'] e pos) (tOstB X.K B newId initId bmB f to te) := by
  refine ⟨fun pins s σ H D I h => ?_⟩
  refine plainObj_wpAny_Assign_Attribute (thn (he.run pins s σ H _ I h) fun v s1 ⟨y, H1, I1, r1, q1⟩ => thn (ho.run pins s1 σ H1 _ I1 q1) fun u s2 ⟨x, H2, I2, r2, a, C, ex, T, hno, q⟩ => ?_) hs
  subst ex
  obtain rfl : u = Value.ref a := r2
  rcases q with ⟨ea, q⟩ | ⟨dx, fs, ea, ed, hl, q⟩
  · exact ostB_new T I2 ea hno r1 fun dx s' n ne J => ⟨σ, _, J, q dx n ne⟩
  · exact ostB_old T I2 ea ed hl hno r1 fun s' J => ⟨σ, _, J, q⟩
/-- C's call: the object is laid, the __init__ runs -/
theorem run_mkV {pins : List (Addr × Obj)} {σ : St} {H : Hp} {s : Shared} {Q : VK} {C fI : Addr} {k : Nat} {fd : FuncData} {ps : List Str} {sp : Sp} {us : List Value} {kw : List (Str × Value)} {vs : List V} {ws : List Value}
    (T : OexB X.K B newId initId bmB C) (iC : PySem.W.findIn X.K (.ref C) "__init__" = some (some (.ref fI))) (tI : PySem.W.typeIn X.K (.ref fI) = some (.type "function"))
    (F1 : FnOk X.prog X.w X.K X.mg X.base CX0 k fI fd ps sp) (hr : Room (k + 1) X.A) (I : Inv X pins σ H s) (hus : us.length ≤ sizeLine)
    (hb : ∀ (s' : Shared) (a : Addr), X.K.In s'.heap → BindsTo s' fd ⟨.ref a :: us, kw⟩ (ps.zip (.ref a :: ws))) (r : Vals vs ws)
    (h : ∀ a, H a = none → sp (.ref a :: vs) (upd H a (exo a C none)) (fun v H2 => v = .non ∧ Q (.ref a) H2) (fun _ _ _ => False)) :
    wpAny (model X.prog X.w) X.A (call (.ref C) us kw) (EP X pins σ Q) X.xe s := by
  obtain ⟨nm, q, N, bs, sn, sub, ab, col, dd, k0, k1, k2, k3, k5, hC⟩ := T.cls
  obtain ⟨hp, g, dr, tk, os⟩ := s
  have hsz : hp.objs.size ≤ hp.objs.size + 1 := Nat.le_succ _
  have hn : H (hp.objs.size + 1) = none := I.hok.fresh hsz
  have hq := h (hp.objs.size + 1) hn
  have kk : ∀ b o, hp.get? b = some o → ((hp.push (PySem.W.kdv_tup us)).push (PySem.HandSPX.excO C hp.objs.size)).get? b = some o := fun b o e => Heap.get?_push_of_some _ (Heap.get?_push_of_some _ e)
  have hget : ((hp.push (PySem.W.kdv_tup us)).push (PySem.HandSPX.excO C hp.objs.size)).get? (hp.objs.size + 1) = some (PySem.HandSPX.excO C hp.objs.size) := by heap_get
  have I2 : Inv X pins σ (upd H (hp.objs.size + 1) (exo (hp.objs.size + 1) C none)) ⟨(hp.push (PySem.W.kdv_tup us)).push (PySem.HandSPX.excO C hp.objs.size), g, dr, tk, os⟩ :=
    I.laid (t' := tk) (a := hp.objs.size + 1) (o := exo (hp.objs.size + 1) C none) (h' := (hp.push (PySem.W.kdv_tup us)).push (PySem.HandSPX.excO C hp.objs.size)) kk hsz (exo_ok hget)
  have r2 : Vals (V.ref (hp.objs.size + 1) :: vs) (Value.ref (hp.objs.size + 1) :: ws) := .cons rfl r
  refine wpAny_call (PySem.CrX.call_kw T.F (fun Y => rfl) (I.kIn _ _ hC) (PySem.W.looks_findIn I.kIn iC) (fun self => PySem.W.bind_fn I.kIn self tI) hus
    (codeAny_mono (F1.run _ X.stack _ _ ⟨Value.ref (hp.objs.size + 1) :: us, kw⟩ (Value.ref (hp.objs.size + 1) :: ws) _ _ (fun _ _ _ => False) (hr.make C us kw) (I2.env0.make C us kw) (hb _ _ I2.kIn) r2 hq) fun rr s' hq' => ?_))
  cases rr with
  | error er => exact False.elim hq'
  | ok fl =>
    cases fl with
    | ret u =>
      obtain ⟨v, H2, I3, rv, ev, q2⟩ := I2.after hq'
      subst ev
      exact ⟨rv, V.ref (hp.objs.size + 1), H2, I3, rfl, q2⟩
    | next => exact False.elim hq'
    | brk => exact False.elim hq'
    | cont => exact False.elim hq'
end
end L2
namespace L2
open PySem PySem.Spec PyProof.Rows
section
variable {X : Cx} {e : Expr} {es : List Expr} {ta tk te : TA} {x : Str} {p pos : Pos} {B newId initId : String} {bmB : List Value} {kws : List Keyword} {ks : List Str} {C fI : Addr} {k : Nat} {fd : FuncData} {ps : List Str} {sp : Sp}
/-- C(e, ..) -/
theorem pe_mkV (T : OexB X.K B newId initId bmB C) (iC : PySem.W.findIn X.K (.ref C) "__init__" = some (some (.ref fI))) (tI : PySem.W.typeIn X.K (.ref fI) = some (.type "function"))
    (F1 : FnOk X.prog X.w X.K X.mg X.base CX0 k fI fd ps sp) (hr : Room (k + 1) X.A) (hb : Binds X.K fd ps []) (hg : Gl X x) (hm : X.mg x = some (.ref C)) (ha : PA X (e :: es) ta)
    (hdb : (x == ("__debug__" : Str)) = false := by decide) (he : starEach (e :: es) X.env = (false, eval e X.env) :: starEach es X.env := by rfl) (hpl : (backTo pos (starEach es X.env)).any (·.1) = false := by rfl) :
    PE X (.Call (.Name x p) (e :: es) [] pos) (tMkV C sp ta) := by
  refine ⟨fun pins s σ H Q I h => ?_⟩
  refine wpAny_Call_Name_kw (ld_glob I hg hm ?_ hdb)
  refine PySem.W.callWith_K (h₀ := X.base) I.ok.mod.kin T.kC (thn (ha.run pos pins s σ H _ I h) fun us s1 ⟨vs, H1, I1, r1, hz, q1⟩ => ⟨I1.kIn, ?_⟩) he hpl
  show wpAny _ _ (call (.ref C) us) _ _ _
  have hus : us.length ≤ sizeLine := by
    rw [← Paired.length r1, sizeLine_eq]
    omega
  have hlen : vs.length + 1 = ps.length := by
    have hq := q1 (s1.heap.objs.size + 1) (I1.hok.fresh (Nat.le_succ _))
    exact F1.len _ _ _ _ hq
  refine run_mkV (kw := []) (ws := us) T iC tI F1 hr I1 hus (fun s' a K1 => ?_) r1 q1
  have z := hb s' (.ref a :: us) K1 (by rw [List.append_nil, List.length_cons, ← Paired.length r1]; exact hlen)
  rwa [List.append_nil] at z
/-- C(k = v, ..): n keywords; permV puts the values in the order of the parameters -/
def tMkVK (C : Addr) (sp : Sp) (n : Nat) (permV : List V → List V) (tk : TA) : TE := fun σ H Q => tk σ H fun zs H1 => zs.length = n ∧ ∀ a, H1 a = none → sp (.ref a :: permV zs) (upd H1 a (exo a C none)) (fun v H2 => v = .non ∧ Q (.ref a) H2) (fun _ _ _ => False)
theorem pe_mkVK {perm : List Value → List Value} {permV : List V → List V} (T : OexB X.K B newId initId bmB C) (iC : PySem.W.findIn X.K (.ref C) "__init__" = some (some (.ref fI))) (tI : PySem.W.typeIn X.K (.ref fI) = some (.type "function"))
    (F1 : FnOk X.prog X.w X.K X.mg X.base CX0 k fI fd ps sp) (hr : Room (k + 1) X.A) (hb : ∀ (s' : Shared) (a : Addr) (ws : List Value), ws.length = ks.length → BindsTo s' fd ⟨[.ref a], ks.zip ws⟩ (ps.zip (.ref a :: perm ws)))
    (hrel : ∀ {zs : List V} {ws : List Value}, Vals zs ws → Vals (permV zs) (perm ws)) (hg : Gl X x) (hm : X.mg x = some (.ref C)) (hkw : PK X kws tk)
    (hall : (backToKw pos (keywordEach kws X.env)).all (·.1.isSome) = true := by rfl) (hks : (backToKw pos (keywordEach kws X.env)).filterMap (·.1) = ks := by rfl) (hdb : (x == ("__debug__" : Str)) = false := by decide)
    (hpl : ((backTo pos (starEach [] X.env)).any (·.1) || (backToKw pos (keywordEach kws X.env)).any (·.1.isNone)) = false := by rfl) :
    PE X (.Call (.Name x p) [] kws pos) (tMkVK C sp ks.length permV tk) := by
  refine ⟨fun pins s σ H Q I h => ?_⟩
  refine wpAny_Call_Name_kw (ld_glob I hg hm ?_ hdb)
  refine PySem.W.callWith_KW0 (h₀ := X.base) I.ok.mod.kin T.kC hall ?_ hpl
  refine thn (hkw.run pos pins s σ H _ I h) fun ws s2 ⟨zs, H2, I2, rz, l2, q2⟩ => ⟨I2.kIn, ?_⟩
  rw [hks]
  show wpAny _ _ (call (.ref C) [] (ks.zip ws)) _ _ _
  exact run_mkV (us := []) (kw := ks.zip ws) (ws := perm ws) T iC tI F1 hr I2 (Nat.zero_le _) (fun s' a _ => hb s' a ws (by rw [← Paired.length rz]; exact l2)) (hrel rz) q2
end

/-! ### an exception held as a value: its field, isinstance -/
/-- what the class at D says of its instances -/
structure ExcV (K : PySem.W.Frag) (D : Addr) : Prop where
  ga : PySem.W.findIn K (.ref D) "__getattribute__" = some (some (.builtin "BaseException.__getattribute__"))
  gg : PySem.W.findIn K (.ref D) "__getattr__" = some none
  sb : PySem.W.subIn K (.ref D) (.type "BaseException") = some true
  hd : PySem.W.hasDictIn K D = true
  ca : PySem.W.findIn K (.ref D) "__class__" = some (some (.builtin "object.__class__"))
  mo : PySem.W.mroIn K D (.type "object") = some true
/-- facts of object.__class__ itself -/
structure ClsD (K : PySem.W.Frag) : Prop where
  sp : PySem.W.specialIn K (.builtin "object.__class__") "__get__" = some (some (.builtin "getset_descriptor.__get__"))
  tk : PySem.W.takesIn K (.builtin "object.__class__") = some true
/-- e.f, e an exception that is held -/
def tExF (K : PySem.W.Frag) (f : Str) (te : TE) : TE := fun σ H Q => te σ H fun x H1 => ∃ (a C d : Addr) (fs : List (Str × V)) (v : V), x = .ref a ∧ H1 a = some (exo a C (some d)) ∧ H1 d = some (exd d fs) ∧ ExcV K C ∧ PySem.W.findIn K (.ref C) f = some none ∧ fs.lookup f = some v ∧ Q v H1
theorem pe_exF {X : Cx} {e : Expr} {f : Str} {te : TE} {pos : Pos} (he : PE X e te) (hb : attributeBase e f X.env (eval e X.env) = eval e X.env := by rfl) : PE X (.Attribute e f pos) (tExF X.K f te) := by
  refine ⟨fun pins s σ H Q I h => ?_⟩
  refine attr_of hb (thn (he.run pins s σ H _ I h) fun u s1 hh => ?_)
  obtain ⟨x, H1, I1, rx, a, C, d, fs, v, rfl, ea, ed, T, hno, l, q⟩ := hh
  obtain rfl : u = Value.ref a := rx
  obtain ⟨t1, ho⟩ := exo_at I1.hok ea
  obtain ⟨mA, hns, hr⟩ := exd_at I1.hok ed
  have hw := within_of hr
  obtain ⟨od, es, ep, hod, hrest⟩ := id hns
  obtain ⟨od', hod', hl⟩ := lookIn_ns hns
  obtain ⟨u, hu, ru⟩ := RelO.some_of (v := v) (o := mA f) (by rw [← l]; exact hr f)
  have J : PySem.W.InstAt s1.heap a { cls := .ref C, dict := some d, data := .fields #[.ref t1, .none, .none, .none, .bool false, .none] } C (some od') := ⟨ho, rfl, rfl, hod'⟩
  exact HandSPX.exc_get I1.kIn J T.ga T.gg T.sb (PySem.W.findObj_own T.hd hno rfl (by rw [hl, hu])) (handed_of ru) ⟨v, H1, I1.tok _, ru, q⟩
/-- isinstance(e, c), e an exception that is held -/
def rIsX (K : PySem.W.Frag) : List V → Hp → VK → Prop := fun xs H Q => ∃ (a C d : Addr) (fs : List (Str × V)) (c : V) (u : Value) (b : Bool), xs = [.ref a, c] ∧ H a = some (exo a C (some d)) ∧ H d = some (exd d fs) ∧ ExcV K C ∧ ClsD K ∧ ClsV c u ∧ PySem.W.kitOne K (.ref C) u = some b ∧ Q (.bl b) H
theorem call_isX {X : Cx} : CallR X (.builtin "isinstance") (rIsX X.K) := by
  intro pins s σ H xs us Q I r h
  obtain ⟨a, C, d, fs, c, u, b, rfl, ea, ed, T, D, k, e, q⟩ := h
  obtain ⟨u1, u2, rfl, r1, r2⟩ := vals2 r
  have e2 := k.eq r2
  subst e2
  obtain rfl : u1 = Value.ref a := r1
  obtain ⟨t1, ho⟩ := exo_at I.hok ea
  obtain ⟨mA, hns, hr⟩ := exd_at I.hok ed
  obtain ⟨od', hod', hl⟩ := lookIn_ns hns
  have J : PySem.W.InstAt s.heap a { cls := .ref C, dict := some d, data := .fields #[.ref t1, .none, .none, .none, .bool false, .none] } C (some od') := ⟨ho, rfl, rfl, hod'⟩
  exact PySem.W.kia_one (PySem.CrX.kitx_excO (od := some od') T.ga T.gg T.sb T.hd T.ca D.sp D.tk T.mo) I.kIn J e (fun z => nomatch z) fun tk => ⟨.bl b, H, I.tok tk, rfl, q⟩

/-! ### repr of data; data that holds dicts -/
/-- a value of None, bools, ints, texts, lists, tuples, dicts of such, as it stands in the heap -/
inductive Dq (K : PySem.W.Frag) (H : Hp) : V → PyData → Prop
  | base {v : V} {d : PyData} : Dp K H v d → Dq K H v d
  | dict {a : Addr} {kvs : List (Key × V)} {ds : List (PyData × PyData)} : H a = some (.dK kvs) → DpAll K H (kvs.map fun p => kV p.1) (ds.map (·.1)) → DpAll K H (kvs.map (·.2)) (ds.map (·.2)) → Dq K H (.ref a) (.dict ds)
end L2
namespace L2
open PySem PySem.Spec PyProof.Rows

/-! ### promises that may use that no container is being shown (guards) -/
/-- as FnOk, for calls made where no guard stands; nothing is raised -/
structure FnG (P : Program) (w : World) (K : PySem.W.Frag) (mg : Str → Option Value) (base : Heap) (k : Nat) (f : Addr) (fd : FuncData) (ps : List Str) (sp : Sp) : Prop where
  arity : ∀ vs H Q E, sp vs H Q E → vs.length = ps.length
  goes : ∀ (A : Around) (outer : List Env) (s : Shared) (H : Hp) (us : List Value) (vs : List V) (Q : VK), Room k A → A.guards = some [] → Env0 P w K mg base A outer s H → BindsTo s fd ⟨us, []⟩ (ps.zip us) → Vals vs us → sp vs H Q E0 →
    codeAny (model P w) A (.call (.ref f) ⟨us, []⟩) (CR CX0 outer P w H s Q E0) s
theorem FnG.of {P : Program} {w : World} {K : PySem.W.Frag} {mg : Str → Option Value} {base : Heap} {k : Nat} {f : Addr} {x qual : Str} {st : Stmt} {fd : FuncData} {N ps : List Str} {sp : Sp}
    (F : Fun K x qual st f fd) (S : FnScope N ps (defScope st)) (len : ∀ vs H Q E, sp vs H Q E → vs.length = ps.length)
    (hbody : ∀ (cdv : Value) (A : Around) (outer : List Env) (s : Shared) (H : Hp) (vs : List V) (Q : VK), Room k (A.deeper (envOfC qual (defScope st) s.heap.objs.size f cdv)) → (A.deeper (envOfC qual (defScope st) s.heap.objs.size f cdv)).guards = some [] → sp vs H Q E0 →
      ∃ t, PSs (cxOf CX0 P w K mg base N qual (defScope st) f cdv A outer s H E0).nox (defBody st) t ∧ t { nx := fun _ H' => Q .non H', rt := Q } (start N vs) H) : FnG P w K mg base (k + 1) f fd ps sp := by
  obtain ⟨oc, od, kV, doc, pm, an, cdv, ct, osl, rfl, lk, hcd⟩ := F.ex
  refine ⟨len, fun A outer s H us vs Q hr hgd e0 hb r hsp => ?_⟩
  have inS : ∀ b o, base.get? b = some o → s.heap.get? b = some o := fun b o e => (e0.bs b o e).1
  have hkind : ∀ y ∈ ps.zip us, (defScope st).names.lookup y.1 = some .local ∨ ((defScope st).names.lookup y.1 = some .cell ∧ ((cellsFrom (s.heap.objs.size + 1) (defScope st).names []).lookup y.1).isSome = true) := by
    rintro ⟨n, v⟩ hy
    rcases S.par n (List.of_mem_zip hy).1 with q | q
    · exact .inl q
    · exact .inr ⟨q, PySem.W.cellsFrom_some _ _ _ (.inl q)⟩
  refine codeAny_call_function hr.depth ((e0.mod.kin.keeps inS) _ _ lk) rfl S.co S.gen rfl (PySem.W.codeRec_of (e0.mod.kin.keeps inS) hcd) (hb _ _ _ _ (wpAny_newFunctionEnv_cells S.kind hkind fun env he s1 x => ?_))
  subst he
  refine ⟨(e0.mod.nolimit.keeps inS).keeps x.toInCall.keep, codeAny_func ?_⟩
  obtain ⟨t, ht, hq⟩ := hbody cdv A outer s H vs Q (hr.deeper _) hgd hsp
  refine wpAny_mono (ht.nox.run [] s1 (start N vs) H _ (inv_start S hr.hd e0 (len _ _ _ _ hsp) r x) hq) (fun fl s' hs => ?_) fun e s' hs => hs
  cases fl with
  | ret u =>
    obtain ⟨v, σ', H', J, rv, q⟩ := hs
    exact ⟨v, H', J.os, J.bare, J.base, J.hok, rv, q⟩
  | next =>
    obtain ⟨σ', H', J, q⟩ := hs
    exact ⟨V.non, H', J.os, J.bare, J.base, J.hok, rfl, q⟩
  | brk => exact hs.elim fun _ z => z.elim fun _ z => z.2.elim
  | cont => exact hs.elim fun _ z => z.elim fun _ z => z.2.elim
section
variable {X : Cx} {k : Nat} {f : Addr} {fd : FuncData} {ps : List Str} {sp : Sp} {x : Str} {p pos : Pos} {e : Expr} {es : List Expr} {t : TA}
/-- f(e, ..), f such a def -/
theorem pe_callG (F : FnG X.prog X.w X.K X.mg X.base k f fd ps sp) (hr : Room k X.A) (hgd : X.A.guards = some []) (hg : Gl X x) (hm : X.mg x = some (.ref f)) (hk : PySem.W.keepIn X.K (.ref f) = true) (hb : Binds X.K fd ps [])
    (ha : PA X (e :: es) t) (hdb : (x == ("__debug__" : Str)) = false := by decide) (he : starEach (e :: es) X.env = (false, eval e X.env) :: starEach es X.env := by rfl) (hpl : (backTo pos (starEach es X.env)).any (·.1) = false := by rfl) :
    PE X (.Call (.Name x p) (e :: es) [] pos) (tCall sp [] E0 t) := by
  refine ⟨fun pins s σ H Q I h => wpAny_Call_Name_kw (ld_glob I hg hm ?_ hdb)⟩
  refine PySem.W.callWith_K (h₀ := X.base) I.ok.mod.kin hk (thn (ha.run pos pins s σ H _ I h) fun us s1 ⟨vs, H1, I1, r, q⟩ => ⟨I1.kIn, ?_⟩) he hpl
  have q0 : sp (vs ++ []) H1 Q E0 := q
  have q' : sp vs H1 Q E0 := by rw [List.append_nil] at q0; exact q0
  have z := hb s1 us I1.kIn (by rw [List.append_nil, ← Paired.length r]; exact F.arity _ _ _ _ q')
  rw [List.append_nil] at z
  show wpAny _ _ (call (.ref f) us) _ _ _
  refine wpAny_call (codeAny_mono (F.goes X.A X.stack s1 H1 us vs Q hr hgd I1.env0 z r q') fun rr s' hq => ?_)
  cases rr with
  | error e => exact False.elim hq
  | ok fl =>
    cases fl with
    | ret u => exact I1.after hq
    | next => exact False.elim hq
    | brk => exact False.elim hq
    | cont => exact False.elim hq
end
/-- the law's own call, by such a promise -/
theorem law_callG {P : Program} {w : World} {K : PySem.W.Frag} {mg mb : Str → Option Value} {k : Nat} {fa a : Addr} {fd : FuncData} {x : Str} {sp : Sp} {s₁ : Shared} {vs : List Value} {ns : List Int}
    (KX : K.In s₁.heap) (hns : s₁.heap.Ns mainGlobals mg) (hb : s₁.heap.Ns builtinsNs mb) (hbb : ∀ x : Str, x ≠ "__name__" → mb x = bootBuiltins x) (hlim : s₁.heap.NoLimit) (hg : s₁.gens = #[])
    (ha : s₁.heap.get? a = some { cls := .type "list", data := .seq vs.toArray }) (hi : IntsAre vs ns) (hl : ns.length ≤ sizeLine) (hr : Room k callerA)
    (F : ∀ base : Heap, K.In base → base.Ns mainGlobals mg → FnG P w K mg base k fa fd [x] sp) (hbind : ∀ (s : Shared) (u : Value), BindsTo s fd ⟨[u], []⟩ [(x, u)])
    (hsp : ∀ H : Hp, Only H → SqL K H a (ns.map V.int) → sp [.ref a] H (fun v _ => v = .bl true) E0) :
    codeAny (model P w) callerA (.call (.ref fa) ⟨[.ref a], []⟩) (fun r s' => r = .ok (.ret (.bool true)) ∧ OldK s₁.heap s'.heap ∧ s'.os = s₁.os ∧ AllBare s'.gens) s₁ := by
  have rv := vals_ints hi
  have fsz : vs.length = ns.length := hi.length
  -- any abstract heap that tracks the script at most
  have core : ∀ H : Hp, Only H → SqL K H a (ns.map V.int) → HOk P w H s₁.heap → (∀ b u, H b = some u → b = a ∧ K.lookup a = none) →
      codeAny (model P w) callerA (.call (.ref fa) ⟨[.ref a], []⟩) (fun r s' => r = .ok (.ret (.bool true)) ∧ OldK s₁.heap s'.heap ∧ s'.os = s₁.os ∧ AllBare s'.gens) s₁ := by
    intro H hO hS hok hA
    have free : ∀ {b : Addr}, (∀ u, H b = some u → False) → H b = none := fun {b} z => by
      cases q : H b with
      | none => rfl
      | some u => exact (z u q).elim
    have dictFree : ∀ {b : Addr} {o : Obj} {es : Array DictEntry} {ep : Nat}, s₁.heap.get? b = some o → o.data = .dict es ep → H b = none := fun {b o es ep} e d => free fun u q => by
      obtain ⟨rfl, _⟩ := hA b u q
      rw [ha] at e
      cases e
      have d' : Data.seq vs.toArray _ = Data.dict es ep := d
      cases d'
    have under : ∀ {b : Addr} {m : Str → Option Value}, s₁.heap.Ns b m → (hidT s₁.heap H).Ns b m := fun {b m} ⟨o, es, ep, e, d, r⟩ => ⟨o, es, ep, hidT_get e (dictFree e d), d, r⟩
    have hKb : K.In (hidT s₁.heap H) := fun b o e => hidT_get (KX b o e) (free fun u q => by
      obtain ⟨rfl, z⟩ := hA b u q
      rw [z] at e
      cases e)
    have hM : Mod K mg (hidT s₁.heap H) := ⟨hKb, under hns, ⟨mb, under hb, hbb⟩, let ⟨mc, h1, h2⟩ := hlim; ⟨mc, under h1, h2⟩⟩
    have e0 : Env0 P w K mg (hidT s₁.heap H) callerA [] s₁ H := ⟨rfl, hM, fun b o e => of_hidT e, Nat.le_of_eq (hidT_size _ _), trivial, fun b hb => absurd (show b ∈ ([] : List Addr) from hb) (by simp), hok, .of_eq hg⟩
    refine codeAny_mono ((F _ hKb (under hns)).goes callerA [] s₁ H [.ref a] [.ref a] _ hr rfl e0 (hbind s₁ (.ref a)) (.cons rfl .nil) (hsp H hO hS)) fun r s' h => ?_
    cases r with
    | error e => exact False.elim h
    | ok fl =>
      cases fl with
      | next => exact False.elim h
      | brk => exact False.elim h
      | cont => exact False.elim h
      | ret u =>
        obtain ⟨v, H', os, bare, un, hok', r', q⟩ := h
        obtain rfl : v = .bl true := q
        obtain rfl : u = Value.bool true := r'
        refine ⟨rfl, OldK.of_keep fun b o e => ?_, os, bare⟩
        cases q : H b with
        | none => exact un.keep b o e q (by intro z; exact absurd (show b ∈ ([] : List Addr) from z) (by simp)) (by simp)
        | some u =>
          rcases hO b with z | ⟨ob, xs, z⟩
          · rw [q] at z
            cases z
          · obtain ⟨e1, _⟩ := hok b _ z
            obtain ⟨e2, _⟩ := hok' b _ (un.frzs b ob _ z)
            rw [e] at e1
            cases e1
            exact e2
  cases hk : K.lookup a with
  | some o =>
    have e := KX a o hk
    rw [ha] at e
    cases e
    exact core (fun _ => none) (fun _ => .inl rfl) (.inr ⟨_, vs.toArray, _, hk, rfl, rfl, rfl, by rw [List.size_toArray, fsz]; exact hl, by simpa using rv⟩) (fun b u z => nomatch z) fun b u z => nomatch z
  | none =>
    refine core (fun b => if b = a then some (.frz { cls := .type "list", data := .seq vs.toArray } (.lst (ns.map V.int))) else none) (fun b => ?_) (.inl (.inr ⟨{ cls := .type "list", data := .seq vs.toArray }, if_pos rfl⟩)) (fun b u z => ?_) fun b u z => ?_
    · by_cases hb : b = a
      · exact .inr ⟨_, _, if_pos hb⟩
      · exact .inl (if_neg hb)
    · by_cases hb : b = a
      · have z' := (if_pos hb).symm.trans z
        cases z'
        subst hb
        exact ⟨ha, by rw [List.length_map]; exact hl, vs, _, rv, ha⟩
      · have z' := (if_neg hb).symm.trans z
        cases z'
    · by_cases hb : b = a
      · exact ⟨hb, hk⟩
      · have z' := (if_neg hb).symm.trans z
        cases z'
theorem walk_G {l : PySem.W.OpenLaw} {n k : Nat} {q : Program} {loose : List Str} {XP : (Str → Option Value) → Heap → Prop} {YP : World → Heap → Prop} {d : DefRec} {K : Params → PySem.W.Frag} {sp : World → Sp} {x : Str}
    (hn : l.most = some n) (hn2 : n ≤ sizeLine) (hdf : d.params.defaults = []) (hr : Room k callerA) (hY : ∀ (w : World) (h : Heap), YP w h → (K w.params).In h)
    (F : ∀ (w : World) (mg : Str → Option Value) (fa : Addr) (h : Heap), (K w.params).In h → h.Ns mainGlobals mg → mg d.name = some (.ref fa) →
      ∃ fd : FuncData, (∀ (s : Shared) (u : Value), BindsTo s fd ⟨[u], []⟩ [(x, u)]) ∧ ∀ base : Heap, (K w.params).In base → base.Ns mainGlobals mg → FnG l.prog w (K w.params) mg base k fa fd [x] (sp w))
    (hsp : ∀ (w : World) (H : Hp) (a : Addr) (ns : List Int), ns.length ≤ n → Only H → SqL (K w.params) H a (ns.map V.int) → sp w [.ref a] H (fun v _ => v = .bl true) E0) :
    PySem.W.WalkO q loose XP YP l.row.toRowW d [] (fun f vs => PySem.call f vs) := by
  refine Att.attach_call hn hdf fun w s₀ s₁ mg mb fa o pm cd doc a vs ns G Y ho hd hcd hmg hobj hints hlen hg => ?_
  obtain ⟨fd, hb, hF⟩ := F w mg fa _ (hY w _ Y) G.T.g hmg
  exact law_callG (hY w _ Y) G.T.g G.T.b G.T.builtins G.T.nolimit hg hobj hints (Nat.le_trans hlen hn2) hr hF hb fun H hO hS => hsp w H a ns hlen hO hS

/-! ### repr of data -/
/-- a scalar as data -/
def datV : V → PyData
  | .bl b => .bool b
  | .int i => .int i
  | .str x => .str x
  | _ => .none
def scaV : V → Bool
  | .non | .bl _ | .int _ | .str _ => true
  | _ => false
theorem reads_sca {h : Heap} {v : V} {u : Value} (f : scaV v = true) (r : RelV v u) : Reads h u (datV v) [] := by
  cases v with
  | non => cases (show u = Value.none from r); exact .none
  | bl b => cases (show u = Value.bool b from r); exact .bool b
  | int i => obtain ⟨t, rfl⟩ := (show ∃ t, u = Value.int i t from r); exact .int i t
  | str x => obtain ⟨t, rfl⟩ := (show ∃ t, u = Value.str x t from r); exact .str x t
  | _ => cases f
theorem readsAll_sca {h : Heap} : ∀ {vs : List V} {us : List Value}, (∀ v ∈ vs, scaV v = true) → Vals vs us → ReadsAll h us (vs.map datV) []
  | _, _, _, .nil => .nil
  | _, _, f, .cons r t => .cons (as := []) (bs := []) (reads_sca (f _ List.mem_cons_self) r) (readsAll_sca (fun v hv => f v (List.mem_cons_of_mem _ hv)) t)
theorem pairs_vals {P : Program} {w : World} : ∀ {es : List DictEntry} {vs : List (Key × Value)} {kvs : List (Key × V)}, Pairs (mixKind P w) es vs → KV kvs vs → Vals (kvs.map fun p => kV p.1) (es.map (·.key)) ∧ Vals (kvs.map (·.2)) (es.map (·.val))
  | _, _, _, .nil, h => by
    unfold KV at h
    cases h
    exact ⟨.nil, .nil⟩
  | _, _, _, .cons h1 h2 hr, h => by
    unfold KV at h
    cases h with
    | @cons p q ps qs hp ht =>
      obtain ⟨k1, k2⟩ := pairs_vals hr ht
      obtain ⟨e1, e2⟩ := hp
      refine ⟨.cons ?_ k1, .cons ?_ k2⟩
      · have h1' := h1
        rw [mixKind_is, ← e1] at h1'
        rcases keyIs_shape h1' with ⟨i, t, ek, ev⟩ | ⟨x, t, ek, ev⟩
        · show RelV (kV p.1) _
          rw [ek]
          exact ⟨t, ev⟩
        · show RelV (kV p.1) _
          rw [ek]
          exact ⟨t, ev⟩
      · show RelV p.2 (DictEntry.val _)
        rw [h2]
        exact e2
/-- a dict of scalars as data -/
def datD (kvs : List (Key × V)) : PyData := .dict (kvs.map fun p => (datV (kV p.1), datV p.2))
theorem reads_dict {P : Program} {w : World} {H : Hp} {h : Heap} {a : Addr} {kvs : List (Key × V)} (ok : HOk P w H h) (e : H a = some (.dK kvs)) (f : ∀ p ∈ kvs, scaV p.2 = true) : Reads h (.ref a) (datD kvs) [a] ∧ sysModules ∉ [a] := by
  obtain ⟨_, ns, vs, hkv, o, es, ep, ho, ex, hd, _, hp, _⟩ := ok a _ e
  obtain ⟨k1, k2⟩ := pairs_vals hp hkv
  refine ⟨Reads.dict (as := []) (bs := []) ho ex.1 hd ?_ ?_, fun m => ?_⟩
  · have z := readsAll_sca (h := h) (fun v hv => by
      obtain ⟨p, _, rfl⟩ := List.mem_map.mp hv
      obtain ⟨k, x⟩ := p
      cases k <;> rfl) k1
    rw [List.map_map] at z
    rw [List.map_map]
    exact z
  · have z := readsAll_sca (h := h) (fun v hv => by
      obtain ⟨p, hp, rfl⟩ := List.mem_map.mp hv
      exact f p hp) k2
    rw [List.map_map] at z
    rw [List.map_map]
    exact z
  · have z := List.mem_singleton.mp m
    rw [← z] at ns
    exact absurd ns (by decide)
/-- repr(x): x a scalar, or data in the heap -/
def rRepr (K : PySem.W.Frag) : List V → Hp → VK → Prop := fun xs H Q => ∃ (x : V) (d : PyData), xs = [x] ∧ (Dp K H x d ∨ ∃ a kvs, x = .ref a ∧ H a = some (.dK kvs) ∧ (∀ p ∈ kvs, scaV p.2 = true) ∧ d = datD kvs) ∧ d.showable = true ∧ d.depth ≤ 60 ∧ d.shown.length ≤ sizeLine ∧ Q (.str d.shown) H
theorem noDict_of_dp {K : PySem.W.Frag} {H : Hp} : ∀ (d : PyData) (v : V), Dp K H v d → d.hasDict = false := by
  intro d
  exact (PyData.rec (motive_1 := fun d => ∀ v, Dp K H v d → d.hasDict = false) (motive_2 := fun ds => ∀ vs, DpAll K H vs ds → PyData.hasDictAll ds = false) (motive_3 := fun _ => True) (motive_4 := fun _ => True)
    (fun v _ => by simp only [PyData.hasDict]) (fun b v _ => by simp only [PyData.hasDict]) (fun i v _ => by simp only [PyData.hasDict]) (fun x v _ => by simp only [PyData.hasDict])
    (fun xs ih v h => by cases h with | lst hs ha => simp only [PyData.hasDict]; exact ih _ ha)
    (fun xs ih v h => by cases h with | tup hs ha => simp only [PyData.hasDict]; exact ih _ ha)
    (fun kvs _ v h => by cases h)
    (fun vs h => by simp only [PyData.hasDictAll]) (fun d ds i1 i2 vs h => by cases h with | cons h1 h2 => simp only [PyData.hasDictAll, i1 _ h1, i2 _ h2, Bool.or_self])
    trivial (fun _ _ _ _ => trivial) (fun _ _ _ _ => trivial) d)
theorem call_repr {X : Cx} (hgd : X.A.guards = some []) (hu : X.A.units + 64 < cLine) : CallR X (.builtin "repr") (rRepr X.K) := by
  intro pins s σ H xs us Q I r h
  obtain ⟨x, d, rfl, hd, hsh, hdp, hsz, q⟩ := h
  obtain ⟨u, rfl, ru⟩ := vals1 r
  have key : ∃ as, Reads s.heap u d as ∧ (d.hasDict = true → sysModules ∉ as) := by
    rcases hd with hd | ⟨a, kvs, rfl, e, f, rfl⟩
    · obtain ⟨as, hr⟩ := Dp.reads I d x u hd ru
      exact ⟨as, hr, PyData.noDict_hsm (noDict_of_dp d x hd)⟩
    · obtain ⟨hr, hm⟩ := reads_dict I.hok e f
      cases (show u = Value.ref a from ru)
      exact ⟨_, hr, fun _ => hm⟩
  obtain ⟨as, hr, hm⟩ := key
  cases hr with
  | none =>
    simp only [PyData.shown] at q
    exact PySem.P.repr_of_none ⟨.str _, H, I.tok _, ⟨_, rfl⟩, q⟩
  | bool b =>
    simp only [PyData.shown] at q
    exact PySem.P.repr_of_bool ⟨.str _, H, I.tok _, ⟨_, rfl⟩, q⟩
  | int i t =>
    simp only [PyData.shown] at q
    exact PySem.P.repr_of_int (by simpa [PyData.showable] using hsh) ⟨.str _, H, I.tok _, ⟨_, rfl⟩, q⟩
  | str y t =>
    simp only [PyData.shown] at q hsz
    exact PySem.P.repr_of_str ⟨.str _, H, I.tok _, ⟨_, rfl⟩, q⟩ hsz
  | list h1 h2 h3 h4 => exact repr_of_reads' (Reads.list h1 h2 h3 h4) hsh hm hgd (by omega) (fun _ _ e => e) (fun h' u tk hk => ⟨.str _, H, I.kept (t' := tk) hk, ⟨u, rfl⟩, q⟩) hsz
  | tuple h1 h2 h3 h4 => exact repr_of_reads' (Reads.tuple h1 h2 h3 h4) hsh hm hgd (by omega) (fun _ _ e => e) (fun h' u tk hk => ⟨.str _, H, I.kept (t' := tk) hk, ⟨u, rfl⟩, q⟩) hsz
  | dict h1 h2 h3 h4 h5 => exact repr_of_reads' (Reads.dict h1 h2 h3 h4 h5) hsh hm hgd (by omega) (fun _ _ e => e) (fun h' u tk hk => ⟨.str _, H, I.kept (t' := tk) hk, ⟨u, rfl⟩, q⟩) hsz
end L2
namespace Ld
open PySem PySem.Spec PyProof.Rows L2
def top (i : Nat) : Stmt := PySem.Challenge.pw_crateround_k06_whole_load_texts_bent.main.body.getD i (.Pass ⟨0, 0, 0, 0⟩)
abbrev sPen : Stmt := top 21
abbrev sDraw : Stmt := top 22
abbrev sPick : Stmt := top 23
abbrev sWords : Stmt := top 24
abbrev sGreat : Stmt := top 25
abbrev sTimes : Stmt := top 26
abbrev sWhole : Stmt := top 28
theorem seq_step {t u : TS} {D : Ends} {σ : L2.St} {H : Hp} (Rp : L2.St → Hp → Prop) (h1 : ∀ R : L2.St → Hp → Prop, (∀ σ' H', Rp σ' H' → R σ' H') → t { D with nx := R } σ H) (h2 : ∀ σ' H', Rp σ' H' → u D σ' H') : tSeq t u D σ H := h1 (u D) h2
/-! ### the pen: the script's cells, how many were begun, what is left of a great one -/
structure PenAt (H : Hp) (p c : Addr) (ns : List Int) (u r : Int) : Prop where
  ob : ∃ kvs : List (Key × V), H p = some (.dK kvs) ∧ kvs.length ≤ 10 ∧ valV kvs (Sum.inr ("cells" : Str) : Key) = some (.ref c) ∧ valV kvs (Sum.inr ("begun" : Str) : Key) = some (.int u) ∧ valV kvs (Sum.inr ("left" : Str) : Key) = some (.int r)
  cl : H c = some (.lst (ns.map V.int))
  few : ns.length ≤ 63
  u0 : 0 ≤ u
  r0 : 0 ≤ r
theorem PenAt.ne {H : Hp} {p c : Addr} {ns : List Int} {u r : Int} (P : PenAt H p c ns u r) : c ≠ p := by
  obtain ⟨kvs, h, _⟩ := P.ob
  exact ne_of P.cl h (fun z => nomatch z)
theorem PenAt.same {H H' : Hp} {p c : Addr} {ns : List Int} {u r : Int} (P : PenAt H p c ns u r) (s : Same H H') : PenAt H' p c ns u r := by
  obtain ⟨kvs, h, k⟩ := P.ob
  exact ⟨⟨kvs, s _ _ h, k⟩, s _ _ P.cl, P.few, P.u0, P.r0⟩
/-- all but the pen stands -/
def SameP (p : Addr) (H H' : Hp) : Prop := ∀ b o, H b = some o → b ≠ p → H' b = some o
theorem SameP.trans {p : Addr} {H H1 H2 : Hp} (a : SameP p H H1) (b : SameP p H1 H2) : SameP p H H2 := fun x o h n => b x o (a x o h n) n
theorem SameP.of {p : Addr} {H H' : Hp} (s : Same H H') : SameP p H H' := fun b o h _ => s b o h
theorem putK_len {kvs : List (Key × V)} {k : Key} {v x : V} (h : valV kvs k = some x) : (putK kvs k v).length = kvs.length := by
  unfold putK
  rw [if_pos (by rw [valV_any, h]; rfl), List.length_map]
theorem kCU : ¬ (Sum.inr ("cells" : Str) : Key) = Sum.inr ("begun" : Str) := by decide +kernel
theorem kCR : ¬ (Sum.inr ("cells" : Str) : Key) = Sum.inr ("left" : Str) := by decide +kernel
theorem kUR : ¬ (Sum.inr ("begun" : Str) : Key) = Sum.inr ("left" : Str) := by decide +kernel
theorem kRU : ¬ (Sum.inr ("left" : Str) : Key) = Sum.inr ("begun" : Str) := by decide +kernel
theorem PenAt.setRest {H : Hp} {p c : Addr} {ns : List Int} {u r r' : Int} {kvs : List (Key × V)} (P : PenAt H p c ns u r) (h : H p = some (.dK kvs)) (hl : kvs.length ≤ 10)
    (v1 : valV kvs (Sum.inr ("cells" : Str) : Key) = some (.ref c)) (v2 : valV kvs (Sum.inr ("begun" : Str) : Key) = some (.int u)) (v3 : valV kvs (Sum.inr ("left" : Str) : Key) = some (.int r)) (h0 : 0 ≤ r') :
    PenAt (upd H p (.dK (putK kvs (Sum.inr ("left" : Str)) (.int r')))) p c ns u r' :=
  ⟨⟨_, upd_same, by rw [putK_len v3]; exact hl, by rw [valV_put, if_neg kCR]; exact v1, by rw [valV_put, if_neg kUR]; exact v2, by rw [valV_put, if_pos rfl]⟩, by rw [upd_ne P.ne]; exact P.cl, P.few, P.u0, h0⟩
theorem PenAt.setUsed {H : Hp} {p c : Addr} {ns : List Int} {u r u' : Int} {kvs : List (Key × V)} (P : PenAt H p c ns u r) (h : H p = some (.dK kvs)) (hl : kvs.length ≤ 10)
    (v1 : valV kvs (Sum.inr ("cells" : Str) : Key) = some (.ref c)) (v2 : valV kvs (Sum.inr ("begun" : Str) : Key) = some (.int u)) (v3 : valV kvs (Sum.inr ("left" : Str) : Key) = some (.int r)) (h0 : 0 ≤ u') :
    PenAt (upd H p (.dK (putK kvs (Sum.inr ("begun" : Str)) (.int u')))) p c ns u' r :=
  ⟨⟨_, upd_same, by rw [putK_len v2]; exact hl, by rw [valV_put, if_neg kCU]; exact v1, by rw [valV_put, if_pos rfl], by rw [valV_put, if_neg kRU]; exact v3⟩, by rw [upd_ne P.ne]; exact P.cl, P.few, h0, P.r0⟩
/-! ### lists of ints as data -/
theorem dp_ints {K : PySem.W.Frag} {H : Hp} : ∀ ns : List Int, DpAll K H (ns.map V.int) (ns.map PyData.int)
  | [] => .nil
  | n :: r => .cons (.int n) (dp_ints r)
theorem lay_ints : ∀ ns : List Int, PyData.canLayAll0 (ns.map PyData.int) = true
  | [] => by simp [PyData.canLayAll0]
  | n :: r => by simp [PyData.canLayAll0, PyData.canLay0, lay_ints r]
theorem dep_ints : ∀ ns : List Int, PyData.depthAll (ns.map PyData.int) = 0
  | [] => by simp [PyData.depthAll]
  | n :: r => by simp [PyData.depthAll, PyData.depth, dep_ints r]
theorem shaped_ints (ns : List Int) : SeqAt.shaped (.list (ns.map PyData.int)) = true := by
  unfold SeqAt.shaped
  rw [Bool.and_eq_true]
  refine ⟨?_, decide_eq_true ?_⟩
  · simp only [PyData.canLay0]
    exact lay_ints ns
  · simp only [PyData.depth, dep_ints]
    omega
theorem eqv_nil (ns : List Int) : PyData.eqv (.list (ns.map PyData.int)) (.list []) = ns.isEmpty := by
  cases ns with
  | nil => simp [PyData.eqv, PyData.eqvAll]
  | cons n r => simp [PyData.eqv, PyData.eqvAll]
theorem bInt : bootBuiltins "int" = some (.type "int") := by decide +kernel
theorem bAbs : bootBuiltins "abs" = some (.builtin "abs") := by decide +kernel
theorem bList : bootBuiltins "list" = some (.type "list") := by decide +kernel
theorem same_new {H : Hp} {p : Addr} {o : HO} (h : H p = none) : Same H (upd H p o) := fun b u e => by rw [upd_ne (ne_of_none e h)]; exact e
theorem new_at {H : Hp} {p : Addr} {o : HO} (h : H p = none) : ∃ H', upd H p o = H' ∧ Same H H' ∧ H' p = some o := ⟨_, rfl, same_new h, upd_same⟩
theorem new_dict {H : Hp} {p : Addr} {o u : HO} (h : H p = none) : ∃ H', upd (upd H p u) p o = H' ∧ Same H H' ∧ H' p = some o := ⟨_, rfl, by rw [upd_upd]; exact same_new h, upd_same⟩
theorem Same.tup {K : PySem.W.Frag} {H H' : Hp} {a : Addr} {xs : List V} (e : Same H H') (h : SqT K H a xs) : SqT K H' a xs := by
  rcases h with (h | ⟨o, h⟩) | h
  · exact .inl (.inl (e _ _ h))
  · exact .inl (.inr ⟨o, e _ _ h⟩)
  · exact .inr h
theorem dp_same {K : PySem.W.Frag} {H H' : Hp} (s : Same H H') : ∀ (d : PyData) (v : V), Dp K H v d → Dp K H' v d := fun d =>
  PyData.rec (motive_1 := fun d => ∀ v, Dp K H v d → Dp K H' v d) (motive_2 := fun ds => ∀ vs, DpAll K H vs ds → DpAll K H' vs ds) (motive_3 := fun _ => True) (motive_4 := fun _ => True)
    (fun v h => by cases h; exact .non) (fun b v h => by cases h; exact .bl b) (fun i v h => by cases h; exact .int i) (fun x v h => by cases h; exact .str x)
    (fun xs ih v h => by cases h with | lst hs ha => exact .lst (s.seq hs) (ih _ ha))
    (fun xs ih v h => by cases h with | tup hs ha => exact .tup (Same.tup s hs) (ih _ ha))
    (fun kvs _ v h => by cases h)
    (fun vs h => by cases h; exact .nil) (fun d ds i1 i2 vs h => by cases h with | cons h1 h2 => exact .cons (i1 _ h1) (i2 _ h2))
    trivial (fun _ _ _ _ => trivial) (fun _ _ _ _ => trivial) d

/-- names of the module that are the built-ins' own -/
structure Blt (mg : Str → Option Value) : Prop where
  int : mg "int" = none
  abs : mg "abs" = none
  list : mg "list" = none
  len : mg "len" = none
  range : mg "range" = none
theorem dget_s {H : Hp} {a : Addr} {kvs : List (Key × V)} {x : Str} {v : V} (e : H a = some (.dK kvs)) (h : valV kvs (Sum.inr x : Key) = some v) : DGet H a (.str x) (some v) := by
  have z := DGet.k (k := (Sum.inr x : Key)) e
  rw [h] at z
  exact z
theorem dput_s {H : Hp} {a : Addr} {kvs : List (Key × V)} {x : Str} {v : V} (e : H a = some (.dK kvs)) (hl : kvs.length ≤ 10) : DPut H a (.str x) v (upd H a (.dK (putK kvs (Sum.inr x : Key) v))) :=
  DPut.k (k := (Sum.inr x : Key)) e (Nat.lt_of_le_of_lt hl (by decide))
theorem ifd {c : Prop} [Decidable c] {A B : Prop} (h1 : c → A) (h2 : ¬ c → B) : if decide c = true then A else B := by
  by_cases h : c
  · rw [if_pos (decide_eq_true h)]
    exact h1 h
  · rw [if_neg (by rw [decide_eq_false h]; exact Bool.false_ne_true)]
    exact h2 h
theorem ifb {b : Bool} {A B : Prop} (h1 : b = true → A) (h2 : b = false → B) : if b = true then A else B := by
  cases b with
  | true => exact (if_pos rfl : (if true = true then A else B) = A) ▸ h1 rfl
  | false => exact (if_neg Bool.false_ne_true : (if false = true then A else B) = B) ▸ h2 rfl
theorem atI_in {xs : List V} {i : Int} {n : Int} (hn : n = (xs.length : Int)) (h0 : 0 ≤ i) (h1 : i < n) : ∃ v, atI xs i = some v ∧ v ∈ xs := by
  have hl : i.toNat < xs.length := by omega
  refine ⟨xs[i.toNat], ?_, List.getElem_mem hl⟩
  have e : i = ((i.toNat : Nat) : Int) := by omega
  have z : atI xs ((i.toNat : Nat) : Int) = some xs[i.toNat] := atI_nat (by simp [List.getElem?_eq_getElem hl])
  rwa [← e] at z
theorem em {x n : Int} (h0 : 0 < n) (h1 : n ≤ 18446744073709551616) : -(2 ^ 64) < x % n ∧ x % n < 2 ^ 64 := by
  have a := Int.emod_nonneg x (by omega : n ≠ 0)
  have b := Int.emod_lt_of_pos x h0
  omega
/-! ### the promises -/
def spDraw : Sp := fun vs H Q _ => ∃ (p c : Addr) (ns : List Int) (u r m : Int), vs = [.ref p, .int m] ∧ PenAt H p c ns u r ∧ u ≤ 1000000 ∧ 0 < m ∧ m ≤ 1000000 ∧
  ∀ (d u' r' : Int) (H' : Hp), 0 ≤ d → d < m → u' ≤ u + 1 → PenAt H' p c ns u' r' → SameP p H H' → Q (.int d) H'
local macro_rules | `(tactic| walk_at "pe") => `(tactic| first
  | exact pe_int
  | exact pe_bl
  | exact pe_non
  | exact pe_str
  | ((with_reducible show PE _ (Expr.Name _ _) _); first | exact pv 0 | exact pv 1 | exact pv 2 | exact pv 3 | exact pv 4 | exact pv 5 | exact pv 6 | exact pv 7 | exact pv 8 | exact pv 9 | exact pv 10 | exact pv 11)
  | ((with_reducible show PE _ (Expr.BinOp _ Operator.Add _ _) _); refine' pe_op op_add ?p1 ?p2; (case p1 => walk_at "pe"); (case p2 => walk_at "pe"))
  | ((with_reducible show PE _ (Expr.BinOp _ Operator.Sub _ _) _); refine' pe_op op_sub ?p1 ?p2; (case p1 => walk_at "pe"); (case p2 => walk_at "pe"))
  | ((with_reducible show PE _ (Expr.BinOp _ Operator.Mult _ _) _); refine' pe_op op_mul ?p1 ?p2; (case p1 => walk_at "pe"); (case p2 => walk_at "pe"))
  | ((with_reducible show PE _ (Expr.BinOp _ Operator.Mod _ _) _); refine' pe_op op_mod ?p1 ?p2; (case p1 => walk_at "pe"); (case p2 => walk_at "pe"))
  | ((with_reducible show PE _ (Expr.BinOp _ Operator.FloorDiv _ _) _); refine' pe_op op_fdiv ?p1 ?p2; (case p1 => walk_at "pe"); (case p2 => walk_at "pe"))
  | ((with_reducible show PE _ (Expr.BinOp _ Operator.Pow _ _) _); refine' pe_op op_pow ?p1 ?p2; (case p1 => walk_at "pe"); (case p2 => walk_at "pe"))
  | ((with_reducible show PE _ (Expr.UnaryOp UnaryOp.USub _ _) _); refine' pe_un un_neg ?p1; (case p1 => walk_at "pe"))
  | ((with_reducible show PE _ (Expr.Subscript _ (Expr.Constant (Const.str _) _ _) _) _); refine' pe_dget (by assumption) ?p1 pe_str (fun _ _ => rfl); (case p1 => walk_at "pe"))
  | ((with_reducible show PE _ (Expr.Subscript _ _ _) _); refine' pe_ix ix_list ?p1 ?p2 (fun _ _ => rfl); (case p1 => walk_at "pe"); (case p2 => walk_at "pe"))
  | ((with_reducible show PE _ (Expr.Call (Expr.Name "int" _) _ _ _) _); refine' pe_callTy call_int1 (by rfl) (by assumption) bInt (pa_cons ?p1 pa_nil); (case p1 => walk_at "pe"))
  | ((with_reducible show PE _ (Expr.Call (Expr.Name "abs" _) _ _ _) _); refine' pe_callB call_abs (by rfl) (by assumption) bAbs (pa_cons ?p1 pa_nil); (case p1 => walk_at "pe"))
  | ((with_reducible show PE _ (Expr.Call (Expr.Name "len" _) _ _ _) _); refine' pe_callB call_len_seq (by rfl) (by assumption) PySem.boot_len (pa_cons ?p1 pa_nil); (case p1 => walk_at "pe"))
  | ((with_reducible show PE _ (Expr.List _ _) _); refine' pe_lst ?p1; (case p1 => walk_at "pa"))
  | ((with_reducible show PE _ (Expr.Tuple _ _ _) _); refine' pe_tup ?p1; (case p1 => walk_at "pa")))
local macro_rules | `(tactic| walk_at "pa") => `(tactic| first | exact pa_nil | (refine' pa_cons ?p1 ?p2; (case p1 => walk_at "pe"); (case p2 => walk_at "pa")))
local macro_rules | `(tactic| walk_at "pt") => `(tactic| first
  | ((with_reducible show PT _ (Expr.Compare _ [CmpOp.Gt] [_] _) _); refine' pt_cmpR op_gt ?p1 ?p2 (nomark _); (case p1 => walk_at "pe"); (case p2 => walk_at "pe"))
  | ((with_reducible show PT _ (Expr.Compare _ [CmpOp.GtE] [_] _) _); refine' pt_cmpR op_ge ?p1 ?p2 (nomark _); (case p1 => walk_at "pe"); (case p2 => walk_at "pe"))
  | ((with_reducible show PT _ (Expr.Compare _ [CmpOp.Lt] [_] _) _); refine' pt_cmpR op_lt ?p1 ?p2 (nomark _); (case p1 => walk_at "pe"); (case p2 => walk_at "pe"))
  | ((with_reducible show PT _ (Expr.Compare _ [CmpOp.LtE] [_] _) _); refine' pt_cmpR op_le ?p1 ?p2 (nomark _); (case p1 => walk_at "pe"); (case p2 => walk_at "pe"))
  | ((with_reducible show PT _ (Expr.Compare _ [CmpOp.NotEq] [Expr.List [] _] _) _); refine' pt_cmpR (op_neD (by assumption)) ?p1 (pe_lst pa_nil) (nomark _); (case p1 => walk_at "pe"))
  | ((with_reducible show PT _ (Expr.BoolOp BoolOp.And [_, _] _) _); refine' PW.pt (pw_and ?p1 (pw_and1 ?p2)); (case p1 => walk_at "pt"); (case p2 => walk_at "pt")))
local macro_rules | `(tactic| walk_at "st") => `(tactic| first
  | ((with_reducible show PS _ (Stmt.Return (some _) _) _); refine' ps_ret ?p1; (case p1 => walk_at "pe"))
  | ((with_reducible show PS _ (Stmt.Assign [Expr.Subscript _ _ _] _ _) _); refine' ps_dput (by assumption) ?p1 ?p2 ?p3 rfl; (case p1 => walk_at "pe"); (case p2 => walk_at "pe"); (case p3 => walk_at "pe"))
  | ((with_reducible show PS _ (Stmt.Assign [Expr.Name _ _] _ _) _); (first | refine' ps_set (i := 1) (by assumption) rfl (Or.inl rfl) ?p1 | refine' ps_set (i := 2) (by assumption) rfl (Or.inl rfl) ?p1 | refine' ps_set (i := 3) (by assumption) rfl (Or.inl rfl) ?p1 | refine' ps_set (i := 4) (by assumption) rfl (Or.inl rfl) ?p1 | refine' ps_set (i := 5) (by assumption) rfl (Or.inl rfl) ?p1 | refine' ps_set (i := 6) (by assumption) rfl (Or.inl rfl) ?p1 | refine' ps_set (i := 7) (by assumption) rfl (Or.inl rfl) ?p1 | refine' ps_set (i := 8) (by assumption) rfl (Or.inl rfl) ?p1 | refine' ps_set (i := 9) (by assumption) rfl (Or.inl rfl) ?p1 | refine' ps_set (i := 10) (by assumption) rfl (Or.inl rfl) ?p1 | refine' ps_set (i := 11) (by assumption) rfl (Or.inl rfl) ?p1); (case p1 => walk_at "pe"))
  | ((with_reducible show PS _ (Stmt.If _ _ _ _) _); refine' ps_if ?p1 ?p2 ?p3; (case p1 => walk_at "pt"); (case p2 => walk_at "ps"); (case p3 => walk_at "ps")))
local macro_rules | `(tactic| walk_at "ps") => `(tactic| first
  | exact pss_nil | (refine' pss_one ?p1; (case p1 => walk_at "st")) | (refine' pss_cons ?p1 ?p2; (case p1 => walk_at "st"); (case p2 => walk_at "ps")))

section
variable {P : Program} {w : World} {K : PySem.W.Frag} {mg : Str → Option Value} {base : Heap}
abbrev nDraw : List Str := ["_law_pen_here", "_law_many", "_law_digit", "_law_place", "_law_size", "_law_told_here", "_law_blend"]
theorem scDraw : FnScope nDraw ["_law_pen_here", "_law_many"] (defScope sDraw) := ⟨rfl, rfl, rfl, by decide +kernel, rfl, by decide +kernel, by decide +kernel⟩
theorem ok_draw {f : Addr} {fd : FuncData} (F : Fun K "_law_draw" "_law_draw" sDraw f fd) (B : Blt mg) : FnOk P w K mg base CX0 1 f fd ["_law_pen_here", "_law_many"] spDraw := by
  refine F.ok scDraw (fun vs H Q E h => ?_) (fun cdv A outer s H vs Q E hr h => ?_)
  · obtain ⟨p, c, ns, u, r, m, rfl, _⟩ := h
    rfl
  · obtain ⟨p, c, ns, u, r, m, rfl, PA, hu6, hm0, hm1, k⟩ := h
    have hu := hu_of hr
    have hu64 := hr.units
    have m1 := B.int
    have m2 := B.abs
    have m3 := B.len
    have nd : nDraw.Nodup := scDraw.nd
    refine ⟨_, pss_cons (ps_if (by walk_at "pt") (by walk_at "ps") pss_nil)
      (pss_cons (ps_par (i := 3) (j := 4) rfl nd rfl rfl (by decide) rfl rfl (pa_cons (by walk_at "pe") (pa_cons (by walk_at "pe") pa_nil)) (by rfl))
      (pss_cons (ps_dput hu (by walk_at "pe") (by walk_at "pe") (by walk_at "pe") rfl)
      (pss_cons (ps_set (i := 5) nd rfl (Or.inl rfl) (pe_ifExp (by walk_at "pt") (by walk_at "pe") (by walk_at "pe")))
      (by walk_at "ps")))), ?_⟩
    obtain ⟨kvs, hp, hl, v1, v2, v3⟩ := PA.ob
    have hc := PA.cl
    have u0 := PA.u0
    refine seq_step (fun σ' H' => σ' = [some (.ref p), some (.int m), none, none, none, none, none] ∧ H' = H) (fun R hR => ?_) (fun σ1 H1 h1 => ?_)
    · -- if pen['left'] > 0
      refine ⟨_, rfl, _, _, rfl, dget_s hp v3, _, _, rfl, rfl, _, rfl, ifd (fun c0 => ?_) (fun c0 => hR _ _ ⟨rfl, rfl⟩)⟩
      refine ⟨_, rfl, _, _, rfl, dget_s hp v3, .inl ⟨_, rfl, ?_⟩⟩
      refine ⟨_, rfl, _, _, rfl, rfl, hm0, ?_⟩
      refine ⟨_, rfl, _, _, rfl, dget_s hp v3, _, rfl, _, _, rfl, rfl, ⟨hm0, by omega⟩, ?_⟩
      refine ⟨_, rfl, _, _, rfl, dput_s hp hl, ?_⟩
      refine ⟨_, rfl, ?_⟩
      exact k _ _ _ _ (Int.emod_nonneg _ (by omega)) (Int.emod_lt_of_pos _ hm0) (by omega) (PA.setRest hp hl v1 v2 v3 (Int.ediv_nonneg PA.r0 (by omega))) fun b o e hb => by rw [upd_ne hb]; exact e
    obtain ⟨rfl, rfl⟩ := h1
    have hlen : (ns.map V.int).length = ns.length := List.length_map ..
    -- place, size = pen['begun'], len(pen['cells']); pen['begun'] = place + 1
    refine seq_step (fun σ' H' => σ' = [some (.ref p), some (.int m), none, some (.int u), some (.int ((ns.map V.int).length : Nat)), none, none] ∧ H' = H1) (fun R hR => ?_) (fun σ2 H2 h2 => ?_)
    · exact ⟨_, rfl, _, _, rfl, dget_s hp v2, _, rfl, _, _, rfl, dget_s hp v1, _, _, rfl, .inl (.inl (.inl hc)), _, _, rfl, hR _ _ ⟨rfl, rfl⟩⟩
    obtain ⟨rfl, rfl⟩ := h2
    refine seq_step (fun σ' H' => σ' = [some (.ref p), some (.int m), none, some (.int u), some (.int ((ns.map V.int).length : Nat)), none, none] ∧ PenAt H' p c ns (u + 1) r ∧ SameP p H2 H') (fun R hR => ?_) (fun σ3 H3 h3 => ?_)
    · refine ⟨_, rfl, _, _, rfl, rfl, _, rfl, _, _, rfl, dput_s hp hl, ?_⟩
      exact hR _ _ ⟨rfl, PA.setUsed (u' := u + 1) hp hl v1 v2 v3 (by omega), fun b o e hb => by rw [upd_ne hb]; exact e⟩
    obtain ⟨rfl, PA1, keep⟩ := h3
    clear hp hl v1 v2 v3 hc kvs
    obtain ⟨kvs, hp, hl, v1, v2, v3⟩ := PA1.ob
    have hc := PA1.cl
    -- told = ..
    refine seq_step (fun σ' H' => ∃ z : Int, σ' = [some (.ref p), some (.int m), none, some (.int u), some (.int ((ns.map V.int).length : Nat)), some (.int z), none] ∧ H' = H3) (fun R hR => ?_) (fun σ4 H4 h4 => ?_)
    · refine ⟨_, rfl, _, _, rfl, rfl, _, rfl, ifd (fun c1 => ?_) (fun c1 => ?_)⟩
      · refine ⟨_, rfl, _, _, rfl, dget_s hp v1, _, rfl, .inl ⟨_, rfl, _, rfl, _, _, rfl, rfl, c1, ?_⟩⟩
        obtain ⟨v, hv, hm⟩ := atI_in (xs := ns.map V.int) (i := u % ((ns.map V.int).length : Int)) rfl (Int.emod_nonneg _ (by omega)) (Int.emod_lt_of_pos _ c1)
        obtain ⟨z, _, rfl⟩ := List.mem_map.mp hm
        exact ⟨_, _, _, _, rfl, rfl, .inl (.inl hc), hv, hR _ _ ⟨z, rfl, rfl⟩⟩
      · exact ⟨_, rfl, _, _, rfl, rfl, .inl ⟨by decide, by decide⟩, _, _, rfl, rfl, hR _ _ ⟨_, rfl, rfl⟩⟩
    obtain ⟨z, rfl, rfl⟩ := h4
    -- place < size and abs(told) >= 10 ** 18
    refine seq_step (fun σ' H' => σ' = [some (.ref p), some (.int m), none, some (.int u), some (.int ((ns.map V.int).length : Nat)), some (.int z), none] ∧ H' = H4) (fun R hR => ?_) (fun σ5 H5 h5 => ?_)
    · refine ⟨_, rfl, _, rfl, _, _, rfl, rfl, _, rfl, ifd (fun cl => ?_) (fun ncl => ?_)⟩
      · refine ⟨_, rfl, _, rfl, _, _, rfl, rfl, ⟨by decide, by decide, by decide⟩, _, _, rfl, rfl, _, rfl, ifd (fun big => ?_) (fun nbig => hR _ _ ⟨rfl, rfl⟩)⟩
        refine ⟨_, rfl, _, rfl, _, _, rfl, rfl, ⟨by decide, by decide, by decide⟩, _, _, rfl, rfl, _, rfl, _, _, rfl, rfl, ⟨hm0, by omega⟩, ?_⟩
        refine ⟨_, rfl, _, _, rfl, dput_s hp hl, ?_⟩
        refine ⟨_, rfl, _, rfl, _, _, rfl, rfl, ⟨by decide, by decide, by decide⟩, _, _, rfl, rfl, .inl ⟨_, rfl, ?_⟩⟩
        refine ⟨_, rfl, _, _, rfl, rfl, hm0, ?_⟩
        exact k _ _ _ _ (Int.emod_nonneg _ (by omega)) (Int.emod_lt_of_pos _ hm0) (by omega) (PA1.setRest hp hl v1 v2 v3 (Int.ediv_nonneg (by omega) (by omega))) fun b o e hb => by rw [upd_ne hb]; exact keep b o e hb
      · exact iteF (hR _ _ ⟨rfl, rfl⟩)
    obtain ⟨rfl, rfl⟩ := h5
    -- the mixings
    refine seq_step (fun σ' H' => ∃ b : Int, σ' = [some (.ref p), some (.int m), none, some (.int u), some (.int ((ns.map V.int).length : Nat)), some (.int z), some (.int (b % 4294967279))] ∧ H' = H5) (fun R hR => ?_) (fun σ6 H6 h6 => ?_)
    · refine ⟨_, rfl, .inl ⟨_, rfl, _, _, rfl, rfl, (by decide : (0 : Int) < 4294967231), _, _, rfl, rfl, .inr ⟨by decide, by decide⟩, ?_⟩⟩
      exact ⟨_, rfl, _, _, rfl, rfl, .inl ⟨by decide, by decide⟩, _, rfl, _, _, rfl, rfl, .inr ⟨by omega, by omega⟩, _, _, rfl, rfl, _, _, rfl, rfl, .inl ⟨_, rfl, _, _, rfl, rfl, (by decide : (0 : Int) < 4294967279), hR _ _ ⟨_, rfl, rfl⟩⟩⟩
    obtain ⟨b, rfl, rfl⟩ := h6
    refine seq_step (fun σ' H' => ∃ b : Int, σ' = [some (.ref p), some (.int m), none, some (.int u), some (.int ((ns.map V.int).length : Nat)), some (.int z), some (.int (b % 4294967291))] ∧ H' = H6) (fun R hR => ?_) (fun σ7 H7 h7 => ?_)
    · refine ⟨_, rfl, _, rfl, _, _, rfl, rfl, .inl (em (by decide) (by decide)), ?_⟩
      refine ⟨_, rfl, _, _, rfl, rfl, .inl ⟨by decide, by decide⟩, _, _, rfl, rfl, ?_⟩
      exact ⟨_, rfl, _, _, rfl, rfl, .inl ⟨by decide, by decide⟩, _, _, rfl, rfl, _, _, rfl, rfl, .inl ⟨_, rfl, _, _, rfl, rfl, (by decide : (0 : Int) < 4294967291), hR _ _ ⟨_, rfl, rfl⟩⟩⟩
    obtain ⟨b2, rfl, rfl⟩ := h7
    refine ⟨_, rfl, _, rfl, _, _, rfl, rfl, _, _, rfl, rfl, .inl (em (by decide) (by decide)), .inl ⟨_, rfl, ?_⟩⟩
    refine ⟨_, _, rfl, rfl, (by decide : (0 : Int) < 4294967197), _, _, rfl, rfl, ⟨by decide, by decide⟩, .inl ⟨_, rfl, ?_⟩⟩
    refine ⟨_, rfl, _, _, rfl, rfl, hm0, ?_⟩
    exact k _ _ _ _ (Int.emod_nonneg _ (by omega)) (Int.emod_lt_of_pos _ hm0) (by omega) PA1 keep
end
end Ld
namespace Ld
open PySem PySem.Spec PyProof.Rows L2
local macro_rules | `(tactic| walk_at "pe") => `(tactic| first
  | exact pe_int
  | exact pe_bl
  | exact pe_non
  | exact pe_str
  | ((with_reducible show PE _ (Expr.Name _ _) _); first | exact pv 0 | exact pv 1 | exact pv 2 | exact pv 3 | exact pv 4 | exact pv 5 | exact pv 6 | exact pv 7 | exact pv 8 | exact pv 9 | exact pv 10 | exact pv 11)
  | ((with_reducible show PE _ (Expr.BinOp _ Operator.Add _ _) _); refine' pe_op op_add ?p1 ?p2; (case p1 => walk_at "pe"); (case p2 => walk_at "pe"))
  | ((with_reducible show PE _ (Expr.BinOp _ Operator.Sub _ _) _); refine' pe_op op_sub ?p1 ?p2; (case p1 => walk_at "pe"); (case p2 => walk_at "pe"))
  | ((with_reducible show PE _ (Expr.BinOp _ Operator.Mult _ _) _); refine' pe_op op_mul ?p1 ?p2; (case p1 => walk_at "pe"); (case p2 => walk_at "pe"))
  | ((with_reducible show PE _ (Expr.BinOp _ Operator.Mod _ _) _); refine' pe_op op_mod ?p1 ?p2; (case p1 => walk_at "pe"); (case p2 => walk_at "pe"))
  | ((with_reducible show PE _ (Expr.BinOp _ Operator.FloorDiv _ _) _); refine' pe_op op_fdiv ?p1 ?p2; (case p1 => walk_at "pe"); (case p2 => walk_at "pe"))
  | ((with_reducible show PE _ (Expr.BinOp _ Operator.Pow _ _) _); refine' pe_op op_pow ?p1 ?p2; (case p1 => walk_at "pe"); (case p2 => walk_at "pe"))
  | ((with_reducible show PE _ (Expr.UnaryOp UnaryOp.USub _ _) _); refine' pe_un un_neg ?p1; (case p1 => walk_at "pe"))
  | ((with_reducible show PE _ (Expr.Subscript _ (Expr.Constant (Const.str _) _ _) _) _); refine' pe_dget (by assumption) ?p1 pe_str (fun _ _ => rfl); (case p1 => walk_at "pe"))
  | ((with_reducible show PE _ (Expr.Subscript _ _ _) _); refine' pe_ix ix_list ?p1 ?p2 (fun _ _ => rfl); (case p1 => walk_at "pe"); (case p2 => walk_at "pe"))
  | ((with_reducible show PE _ (Expr.Call (Expr.Name "int" _) _ _ _) _); refine' pe_callTy call_int1 (by rfl) (by assumption) bInt (pa_cons ?p1 pa_nil); (case p1 => walk_at "pe"))
  | ((with_reducible show PE _ (Expr.Call (Expr.Name "abs" _) _ _ _) _); refine' pe_callB call_abs (by rfl) (by assumption) bAbs (pa_cons ?p1 pa_nil); (case p1 => walk_at "pe"))
  | ((with_reducible show PE _ (Expr.Call (Expr.Name "len" _) _ _ _) _); refine' pe_callB call_len_seq (by rfl) (by assumption) PySem.boot_len (pa_cons ?p1 pa_nil); (case p1 => walk_at "pe"))
  | ((with_reducible show PE _ (Expr.List _ _) _); refine' pe_lst ?p1; (case p1 => walk_at "pa"))
  | ((with_reducible show PE _ (Expr.Tuple _ _ _) _); refine' pe_tup ?p1; (case p1 => walk_at "pa")))
local macro_rules | `(tactic| walk_at "pa") => `(tactic| first | exact pa_nil | (refine' pa_cons ?p1 ?p2; (case p1 => walk_at "pe"); (case p2 => walk_at "pa")))
local macro_rules | `(tactic| walk_at "pt") => `(tactic| first
  | ((with_reducible show PT _ (Expr.Compare _ [CmpOp.Gt] [_] _) _); refine' pt_cmpR op_gt ?p1 ?p2 (nomark _); (case p1 => walk_at "pe"); (case p2 => walk_at "pe"))
  | ((with_reducible show PT _ (Expr.Compare _ [CmpOp.GtE] [_] _) _); refine' pt_cmpR op_ge ?p1 ?p2 (nomark _); (case p1 => walk_at "pe"); (case p2 => walk_at "pe"))
  | ((with_reducible show PT _ (Expr.Compare _ [CmpOp.Lt] [_] _) _); refine' pt_cmpR op_lt ?p1 ?p2 (nomark _); (case p1 => walk_at "pe"); (case p2 => walk_at "pe"))
  | ((with_reducible show PT _ (Expr.Compare _ [CmpOp.LtE] [_] _) _); refine' pt_cmpR op_le ?p1 ?p2 (nomark _); (case p1 => walk_at "pe"); (case p2 => walk_at "pe"))
  | ((with_reducible show PT _ (Expr.Compare _ [CmpOp.NotEq] [Expr.List [] _] _) _); refine' pt_cmpR (op_neD (by assumption)) ?p1 (pe_lst pa_nil) (nomark _); (case p1 => walk_at "pe"))
  | ((with_reducible show PT _ (Expr.BoolOp BoolOp.And [_, _] _) _); refine' PW.pt (pw_and ?p1 (pw_and1 ?p2)); (case p1 => walk_at "pt"); (case p2 => walk_at "pt")))
local macro_rules | `(tactic| walk_at "st") => `(tactic| first
  | ((with_reducible show PS _ (Stmt.Return (some _) _) _); refine' ps_ret ?p1; (case p1 => walk_at "pe"))
  | ((with_reducible show PS _ (Stmt.Assign [Expr.Subscript _ _ _] _ _) _); refine' ps_dput (by assumption) ?p1 ?p2 ?p3 rfl; (case p1 => walk_at "pe"); (case p2 => walk_at "pe"); (case p3 => walk_at "pe"))
  | ((with_reducible show PS _ (Stmt.Assign [Expr.Name _ _] _ _) _); (first | refine' ps_set (i := 1) (by assumption) rfl (Or.inl rfl) ?p1 | refine' ps_set (i := 2) (by assumption) rfl (Or.inl rfl) ?p1 | refine' ps_set (i := 3) (by assumption) rfl (Or.inl rfl) ?p1 | refine' ps_set (i := 4) (by assumption) rfl (Or.inl rfl) ?p1 | refine' ps_set (i := 5) (by assumption) rfl (Or.inl rfl) ?p1 | refine' ps_set (i := 6) (by assumption) rfl (Or.inl rfl) ?p1 | refine' ps_set (i := 7) (by assumption) rfl (Or.inl rfl) ?p1 | refine' ps_set (i := 8) (by assumption) rfl (Or.inl rfl) ?p1 | refine' ps_set (i := 9) (by assumption) rfl (Or.inl rfl) ?p1 | refine' ps_set (i := 10) (by assumption) rfl (Or.inl rfl) ?p1 | refine' ps_set (i := 11) (by assumption) rfl (Or.inl rfl) ?p1); (case p1 => walk_at "pe"))
  | ((with_reducible show PS _ (Stmt.If _ _ _ _) _); refine' ps_if ?p1 ?p2 ?p3; (case p1 => walk_at "pt"); (case p2 => walk_at "ps"); (case p3 => walk_at "ps")))
local macro_rules | `(tactic| walk_at "ps") => `(tactic| first
  | exact pss_nil | (refine' pss_one ?p1; (case p1 => walk_at "st")) | (refine' pss_cons ?p1 ?p2; (case p1 => walk_at "st"); (case p2 => walk_at "ps")))

def spPen (K : PySem.W.Frag) : Sp := fun vs H Q _ => ∃ (a : Addr) (ns : List Int), vs = [.ref a] ∧ SqL K H a (ns.map V.int) ∧ ns.length ≤ 63 ∧ ∀ (p c : Addr) (H' : Hp), Same H H' → PenAt H' p c ns 0 0 → Q (.ref p) H'
/-- an item of a list, or a sign of a text, drawn -/
def spPick (K : PySem.W.Frag) : Sp := fun vs H Q _ => ∃ (p c : Addr) (x : V) (ns : List Int) (u r : Int), vs = [.ref p, x] ∧ PenAt H p c ns u r ∧ u ≤ 1000000 ∧
  ((∃ (l : Addr) (xs : List V), x = .ref l ∧ H l = some (.lst xs) ∧ 0 < xs.length ∧ xs.length ≤ 100000 ∧ ∀ (v : V) (u' r' : Int) (H' : Hp), v ∈ xs → u' ≤ u + 1 → PenAt H' p c ns u' r' → SameP p H H' → Q v H') ∨
   (∃ (z : Str), x = .str z ∧ 0 < z.length ∧ z.length ≤ 1000 ∧ ∀ (d : Nat) (u' r' : Int) (H' : Hp), d ∈ z.cps.toList → u' ≤ u + 1 → PenAt H' p c ns u' r' → SameP p H H' → Q (.str ⟨#[d]⟩) H'))
/-- a number of so many figures -/
def spGreat : Sp := fun vs H Q _ => ∃ (p c : Addr) (ns : List Int) (u r : Int) (n : Nat), vs = [.ref p, .int (n : Int)] ∧ PenAt H p c ns u r ∧ u + n ≤ 1000000 ∧ n ≤ 100 ∧
  ∀ (d u' r' : Int) (H' : Hp), 0 ≤ d → d < 10 ^ n → u' ≤ u + n → PenAt H' p c ns u' r' → SameP p H H' → Q (.int d) H'
def spTimes : Sp := fun vs H Q _ => ∃ (p c : Addr) (ns : List Int) (u r : Int), vs = [.ref p] ∧ PenAt H p c ns u r ∧ u + 7 ≤ 1000000 ∧
  ∀ (d u' r' : Int) (H' : Hp), 1 ≤ d → d ≤ 1000000 → u' ≤ u + 7 → PenAt H' p c ns u' r' → SameP p H H' → Q (.int d) H'
def spWhole : Sp := fun vs H Q _ => ∃ (p c : Addr) (ns : List Int) (u r : Int), vs = [.ref p] ∧ PenAt H p c ns u r ∧ u + 40 ≤ 1000000 ∧
  ∀ (d u' r' : Int) (H' : Hp), d.natAbs < 10 ^ 30 → u' ≤ u + 40 → PenAt H' p c ns u' r' → SameP p H H' → Q (.int d) H'
theorem merge3 (x y z : V) : mergeK [] [((Sum.inr ("cells" : Str) : Key), x), (Sum.inr ("begun" : Str), y), (Sum.inr ("left" : Str), z)] = [((Sum.inr ("cells" : Str) : Key), x), (Sum.inr ("begun" : Str), y), (Sum.inr ("left" : Str), z)] := by
  kernel_rfl
theorem val3a (x y z : V) : valV [((Sum.inr ("cells" : Str) : Key), x), (Sum.inr ("begun" : Str), y), (Sum.inr ("left" : Str), z)] (Sum.inr ("cells" : Str)) = some x := by kernel_rfl
theorem val3b (x y z : V) : valV [((Sum.inr ("cells" : Str) : Key), x), (Sum.inr ("begun" : Str), y), (Sum.inr ("left" : Str), z)] (Sum.inr ("begun" : Str)) = some y := by kernel_rfl
theorem val3c (x y z : V) : valV [((Sum.inr ("cells" : Str) : Key), x), (Sum.inr ("begun" : Str), y), (Sum.inr ("left" : Str), z)] (Sum.inr ("left" : Str)) = some z := by kernel_rfl
theorem cut_all {xs : List V} (h : xs.length ≤ 63) : cutV xs none (some 63) = xs := by
  unfold cutV
  have e1 : HT.sIx xs.length xs.length (some 63) = xs.length := by
    have z := HT.sIx_nat xs.length xs.length 63
    have z' : HT.sIx xs.length xs.length (some (63 : Int)) = min 63 xs.length := z
    rw [z']
    exact Nat.min_eq_right h
  rw [e1, HT.sIx_none, Nat.sub_zero, List.drop_zero, List.take_length]

section
variable {P : Program} {w : World} {K : PySem.W.Frag} {mg : Str → Option Value} {base : Heap}
/-- a def of the module that its callers may call -/
def Has (P : Program) (w : World) (K : PySem.W.Frag) (mg : Str → Option Value) (base : Heap) (k : Nat) (x : Str) (ps : List Str) (sp : Sp) : Prop := ∃ f fd, FnOk P w K mg base CX0 k f fd ps sp ∧ Binds K fd ps [] ∧ mg x = some (.ref f) ∧ PySem.W.keepIn K (.ref f) = true
theorem scPen : FnScope ["_law_script"] ["_law_script"] (defScope sPen) := ⟨rfl, rfl, rfl, by decide +kernel, rfl, by decide +kernel, by decide +kernel⟩
theorem ok_pen {f : Addr} {fd : FuncData} (F : Fun K "_law_pen" "_law_pen" sPen f fd) (B : Blt mg) : FnOk P w K mg base CX0 1 f fd ["_law_script"] (spPen K) := by
  refine F.ok scPen (fun vs H Q E h => ?_) (fun cdv A outer s H vs Q E hr h => ?_)
  · obtain ⟨a, ns, rfl, _⟩ := h
    rfl
  · obtain ⟨a, ns, rfl, hS, hl, k⟩ := h
    refine ⟨_, pss_one (ps_ret (pe_disp (pps_cons pe_str (pe_callTy call_list_of (by rfl) B.list bList (pa_cons (pe_slice sl_list (pv 0) po_none (po_some pe_int)) pa_nil)) (pps_cons pe_str pe_int (pps_cons pe_str pe_int pps_nil))) rfl rfl (by simp) (by decide))), ?_⟩
    intro p hp
    have s1 := same_new (o := .dK []) hp
    refine ⟨_, rfl, _, rfl, _, _, rfl, s1.seq hS, fun t ht => ?_⟩
    have s2 : Same H (upd (upd H p (.dK [])) t (.lst (cutV (ns.map V.int) none (some 63)))) := s1.trans (same_new ht)
    refine ⟨_, _, rfl, .inl (.inl (.inl upd_same)), fun l hl' => ?_⟩
    have npt : p ≠ t := ne_of_none (upd_same (H := H) (a := p) (o := .dK [])) ht
    have npl : p ≠ l := ne_of_none (show (upd (upd H p (.dK [])) t (.lst (cutV (ns.map V.int) none (some 63)))) p = some (.dK []) by rw [upd_ne npt, upd_same]) hl'
    refine ⟨by rw [upd_ne npl, upd_ne npt, upd_same], [(Sum.inr "cells", .ref l), (Sum.inr "begun", .int 0), (Sum.inr "left", .int 0)], rfl, by show 3 ≤ 15; decide, ?_⟩
    rw [merge3]
    refine k p l _ (fun b o e => ?_) ⟨⟨_, upd_same, by show 3 ≤ 10; decide, val3a _ _ _, val3b _ _ _, val3c _ _ _⟩, ?_, hl, Int.le_refl 0, Int.le_refl 0⟩
    · rw [upd_ne (ne_of_none e hp)]
      exact (s2.trans (same_new hl')) b o e
    · rw [upd_ne npl.symm, upd_same, cut_all (by rw [List.length_map]; exact hl)]
theorem scPick : FnScope ["_law_pen_here", "_law_options"] ["_law_pen_here", "_law_options"] (defScope sPick) := ⟨rfl, rfl, rfl, by decide +kernel, rfl, by decide +kernel, by decide +kernel⟩
theorem ok_pick {f : Addr} {fd : FuncData} (F : Fun K "_law_pick" "_law_pick" sPick f fd) (B : Blt mg) (HD : Has P w K mg base 1 "_law_draw" ["_law_pen_here", "_law_many"] spDraw) : FnOk P w K mg base CX0 2 f fd ["_law_pen_here", "_law_options"] (spPick K) := by
  obtain ⟨g, gd, G, bG, mG, kG⟩ := HD
  refine F.ok scPick (fun vs H Q E h => ?_) (fun cdv A outer s H vs Q E hr h => ?_)
  · obtain ⟨p, c, x, ns, u, r, rfl, _⟩ := h
    rfl
  · obtain ⟨p, c, x, ns, u, r, rfl, PA, hu6, hx⟩ := h
    refine ⟨_, pss_one (ps_ret (pe_ix ix_seq (pv 1) (pe_call G hr (by rfl) mG kG bG .nil pass0 (pa_cons (pv 0) (pa_cons (pe_callB (CallR.or call_len_seq call_len_str) (by rfl) B.len PySem.boot_len (pa_cons (pv 1) pa_nil)) pa_nil))) (fun _ _ => rfl))), ?_⟩
    rcases hx with ⟨l, xs, rfl, hL, h0, h1, k⟩ | ⟨z, rfl, h0, h1, k⟩
    · have nlp : l ≠ p := by
        obtain ⟨kvs, hp, _⟩ := PA.ob
        exact ne_of hL hp (fun z => nomatch z)
      refine ⟨_, rfl, _, rfl, _, rfl, .inl ⟨_, _, rfl, .inl (.inl (.inl hL)), p, c, ns, u, r, _, rfl, PA, hu6, by omega, by omega, fun d u' r' H' d0 d1 hu' PA' keep => ?_⟩⟩
      obtain ⟨v, hv, hm⟩ := atI_in (xs := xs) (i := d) rfl d0 d1
      exact .inl ⟨_, _, _, _, rfl, rfl, .inl (.inl (keep _ _ hL nlp)), hv, k v u' r' H' hm hu' PA' keep⟩
    · have hz : z.length ≤ sizeLine := Nat.le_trans h1 (by decide)
      refine ⟨_, rfl, _, rfl, _, rfl, .inr ⟨_, rfl, hz, p, c, ns, u, r, _, rfl, PA, hu6, by omega, by omega, fun d u' r' H' d0 d1 hu' PA' keep => ?_⟩⟩
      have hl : d.toNat < z.cps.toList.length := by
        rw [Array.length_toList]
        have : (z.length : Int) = (z.cps.size : Int) := rfl
        omega
      have e : d = ((d.toNat : Nat) : Int) := by omega
      have hv : atI z.cps.toList d = some z.cps.toList[d.toNat] := by
        have q : atI z.cps.toList ((d.toNat : Nat) : Int) = some z.cps.toList[d.toNat] := atI_nat (List.getElem?_eq_getElem hl)
        rwa [← e] at q
      exact .inr (.inr ⟨_, _, _, rfl, rfl, hz, hv, k _ u' r' H' (List.getElem_mem hl) hu' PA' keep⟩)
abbrev nGreat : List Str := ["_law_pen_here", "_law_figures", "_law_found", "_law_k"]
theorem scGreat : FnScope nGreat ["_law_pen_here", "_law_figures"] (defScope sGreat) := ⟨rfl, rfl, rfl, by decide +kernel, rfl, by decide +kernel, by decide +kernel⟩
theorem ok_great {f : Addr} {fd : FuncData} (F : Fun K "_law_great" "_law_great" sGreat f fd) (B : Blt mg) (HD : Has P w K mg base 1 "_law_draw" ["_law_pen_here", "_law_many"] spDraw) : FnOk P w K mg base CX0 2 f fd ["_law_pen_here", "_law_figures"] spGreat := by
  obtain ⟨g, gd, G, bG, mG, kG⟩ := HD
  refine F.ok scGreat (fun vs H Q E h => ?_) (fun cdv A outer s H vs Q E hr h => ?_)
  · obtain ⟨p, c, ns, u, r, n, rfl, _⟩ := h
    rfl
  · obtain ⟨p, c, ns, u, r, n, rfl, PA, hu6, hn, k⟩ := h
    have nd : nGreat.Nodup := scGreat.nd
    refine ⟨_, pss_cons (ps_set (i := 2) nd rfl (Or.inl rfl) pe_int)
      (pss_cons (ps_for PassesOwn.never rfl (pi_range1 (by rfl) B.range (pa_cons (pv 1) pa_nil)) (pg_name (i := 3) nd rfl (Or.inl rfl))
        (pss_one (ps_set (i := 2) nd rfl (Or.inl rfl) (pe_op op_add (pe_op op_mul pe_int (pv 2)) (pe_call G hr (by rfl) mG kG bG .nil pass0 (pa_cons (pv 0) (pa_cons pe_int pa_nil)))))))
      (pss_one (ps_ret (pv 2)))), ?_⟩
    refine ⟨_, rfl, _, rfl, by omega, by omega, for_range (n := n) (fun i σ' H' => ∃ (d u' r' : Int) (x : Option V), σ' = [some (.ref p), some (.int (n : Int)), some (.int d), x] ∧ 0 ≤ d ∧ d < 10 ^ i ∧ u' ≤ u + i ∧ PenAt H' p c ns u' r' ∧ SameP p H H')
      ⟨0, u, r, none, rfl, by omega, by decide, by omega, PA, fun b o e _ => e⟩ ?_ ?_⟩
    · rintro i σ' H' hi ⟨d, u', r', x, rfl, d0, d1, hu', PA', keep⟩
      refine ⟨_, rfl, _, _, rfl, rfl, .inl ⟨by decide, by decide⟩, _, rfl, p, c, ns, u', r', 10, rfl, PA', by omega, by decide, by decide, fun e u2 r2 H2 e0 e1 hu2 PA2 keep2 => ?_⟩
      refine ⟨_, _, rfl, rfl, _, u2, r2, _, rfl, by omega, ?_, by omega, PA2, keep.trans keep2⟩
      rw [Int.pow_succ]
      omega
    · rintro σ' H' ⟨d, u', r', x, rfl, d0, d1, hu', PA', keep⟩
      exact ⟨_, rfl, k d u' r' H' d0 d1 hu' PA' keep⟩
theorem scTimes : FnScope ["_law_pen_here", "_law_way"] ["_law_pen_here"] (defScope sTimes) := ⟨rfl, rfl, rfl, by decide +kernel, rfl, by decide +kernel, by decide +kernel⟩
theorem ok_times {f : Addr} {fd : FuncData} (F : Fun K "_law_times" "_law_times" sTimes f fd) (HD : Has P w K mg base 1 "_law_draw" ["_law_pen_here", "_law_many"] spDraw) (HG : Has P w K mg base 2 "_law_great" ["_law_pen_here", "_law_figures"] spGreat) : FnOk P w K mg base CX0 3 f fd ["_law_pen_here"] spTimes := by
  obtain ⟨g, gd, G, bG, mG, kG⟩ := HD
  obtain ⟨g2, gd2, G2, bG2, mG2, kG2⟩ := HG
  refine F.ok scTimes (fun vs H Q E h => ?_) (fun cdv A outer s H vs Q E hr h => ?_)
  · obtain ⟨p, c, ns, u, r, rfl, _⟩ := h
    rfl
  · obtain ⟨p, c, ns, u, r, rfl, PA, hu6, k⟩ := h
    have hr1 : Room 1 _ := hr.mono (by decide)
    have nd : (["_law_pen_here", "_law_way"] : List Str).Nodup := scTimes.nd
    refine ⟨_, pss_cons (ps_set (i := 1) nd rfl (Or.inl rfl) (pe_call G hr1 (by rfl) mG kG bG .nil pass0 (pa_cons (pv 0) (pa_cons pe_int pa_nil))))
      (pss_cons (ps_if (by walk_at "pt") (pss_one (ps_ret (pe_ix ix_list (by walk_at "pe") (pv 1) (fun _ _ => rfl)))) pss_nil)
      (pss_one (ps_ret (pe_ifExp (pt_cmpR op_eq (pv 1) pe_int (nomark _)) (pe_op op_add pe_int (pe_call G hr1 (by rfl) mG kG bG .nil pass0 (pa_cons (pv 0) (pa_cons pe_int pa_nil)))) (pe_op op_add pe_int (pe_call G2 hr (by rfl) mG2 kG2 bG2 .nil pass0 (pa_cons (pv 0) (pa_cons pe_int pa_nil)))))))), ?_⟩
    refine seq_step (fun σ' H' => ∃ (d u' r' : Int), σ' = [some (.ref p), some (.int d)] ∧ 0 ≤ d ∧ d < 8 ∧ u' ≤ u + 1 ∧ PenAt H' p c ns u' r' ∧ SameP p H H') (fun R hR => ?_) (fun σ1 H1 h1 => ?_)
    · exact ⟨_, rfl, p, c, ns, u, r, 8, rfl, PA, by omega, by decide, by decide, fun d u' r' H' d0 d1 hu' PA' keep => hR _ _ ⟨d, u', r', rfl, d0, d1, hu', PA', keep⟩⟩
    obtain ⟨d, u', r', rfl, d0, d1, hu', PA', keep⟩ := h1
    refine seq_step (fun σ' H' => σ' = [some (.ref p), some (.int d)] ∧ H' = H1) (fun R hR => ?_) (fun σ2 H2 h2 => ?_)
    · refine ⟨_, rfl, _, _, rfl, rfl, _, rfl, ifd (fun c1 => ?_) (fun c1 => hR _ _ ⟨rfl, rfl⟩)⟩
      refine ⟨by show 6 ≤ sizeLine; decide, fun l hl => ?_⟩
      have sl := same_new (o := .lst [.int 1, .int 1, .int 2, .int 2, .int 3, .int 4]) hl
      obtain ⟨v, hv, hm⟩ := atI_in (xs := [.int 1, .int 1, .int 2, .int 2, .int 3, .int 4]) (i := d) (n := 6) rfl d0 c1
      refine ⟨_, rfl, _, _, _, _, rfl, rfl, .inl (.inl upd_same), hv, ?_⟩
      simp only [List.mem_cons, List.not_mem_nil, or_false] at hm
      have fin : ∀ x : Int, 1 ≤ x → x ≤ 4 → Q (.int x) (upd H1 l (.lst [.int 1, .int 1, .int 2, .int 2, .int 3, .int 4])) := fun x x0 x1 => k x u' r' _ x0 (by omega) (by omega) (PA'.same sl) (keep.trans (.of sl))
      rcases hm with rfl | rfl | rfl | rfl | rfl | rfl <;> exact fin _ (by decide) (by decide)
    obtain ⟨rfl, rfl⟩ := h2
    refine ⟨_, rfl, rfl, _, rfl, ifd (fun c1 => ?_) (fun c1 => ?_)⟩
    · refine ⟨_, rfl, p, c, ns, u', r', 11, rfl, PA', by omega, by decide, by decide, fun e u2 r2 H3 e0 e1 hu2 PA2 keep2 => ?_⟩
      exact ⟨_, _, rfl, rfl, k _ u2 r2 _ (by omega) (by omega) (by omega) PA2 (keep.trans keep2)⟩
    · refine ⟨_, rfl, p, c, ns, u', r', 6, rfl, PA', by omega, by decide, fun e u2 r2 H3 e0 e1 hu2 PA2 keep2 => ?_⟩
      have e1' : e < 1000000 := e1
      exact ⟨_, _, rfl, rfl, k _ u2 r2 _ (by omega) (by omega) (by omega) PA2 (keep.trans keep2)⟩
end
end Ld
namespace Ld
open PySem PySem.Spec PyProof.Rows L2
local macro_rules | `(tactic| walk_at "pe") => `(tactic| first
  | exact pe_int
  | exact pe_bl
  | exact pe_non
  | exact pe_str
  | ((with_reducible show PE _ (Expr.Name _ _) _); first | exact pv 0 | exact pv 1 | exact pv 2 | exact pv 3 | exact pv 4 | exact pv 5 | exact pv 6 | exact pv 7 | exact pv 8 | exact pv 9 | exact pv 10 | exact pv 11)
  | ((with_reducible show PE _ (Expr.BinOp _ Operator.Add _ _) _); refine' pe_op op_add ?p1 ?p2; (case p1 => walk_at "pe"); (case p2 => walk_at "pe"))
  | ((with_reducible show PE _ (Expr.BinOp _ Operator.Sub _ _) _); refine' pe_op op_sub ?p1 ?p2; (case p1 => walk_at "pe"); (case p2 => walk_at "pe"))
  | ((with_reducible show PE _ (Expr.BinOp _ Operator.Mult _ _) _); refine' pe_op op_mul ?p1 ?p2; (case p1 => walk_at "pe"); (case p2 => walk_at "pe"))
  | ((with_reducible show PE _ (Expr.BinOp _ Operator.Mod _ _) _); refine' pe_op op_mod ?p1 ?p2; (case p1 => walk_at "pe"); (case p2 => walk_at "pe"))
  | ((with_reducible show PE _ (Expr.BinOp _ Operator.FloorDiv _ _) _); refine' pe_op op_fdiv ?p1 ?p2; (case p1 => walk_at "pe"); (case p2 => walk_at "pe"))
  | ((with_reducible show PE _ (Expr.BinOp _ Operator.Pow _ _) _); refine' pe_op op_pow ?p1 ?p2; (case p1 => walk_at "pe"); (case p2 => walk_at "pe"))
  | ((with_reducible show PE _ (Expr.UnaryOp UnaryOp.USub _ _) _); refine' pe_un un_neg ?p1; (case p1 => walk_at "pe"))
  | ((with_reducible show PE _ (Expr.Subscript _ (Expr.Constant (Const.str _) _ _) _) _); refine' pe_dget (by assumption) ?p1 pe_str (fun _ _ => rfl); (case p1 => walk_at "pe"))
  | ((with_reducible show PE _ (Expr.Subscript _ _ _) _); refine' pe_ix ix_list ?p1 ?p2 (fun _ _ => rfl); (case p1 => walk_at "pe"); (case p2 => walk_at "pe"))
  | ((with_reducible show PE _ (Expr.Call (Expr.Name "int" _) _ _ _) _); refine' pe_callTy call_int1 (by rfl) (by assumption) bInt (pa_cons ?p1 pa_nil); (case p1 => walk_at "pe"))
  | ((with_reducible show PE _ (Expr.Call (Expr.Name "abs" _) _ _ _) _); refine' pe_callB call_abs (by rfl) (by assumption) bAbs (pa_cons ?p1 pa_nil); (case p1 => walk_at "pe"))
  | ((with_reducible show PE _ (Expr.Call (Expr.Name "len" _) _ _ _) _); refine' pe_callB call_len_seq (by rfl) (by assumption) PySem.boot_len (pa_cons ?p1 pa_nil); (case p1 => walk_at "pe"))
  | ((with_reducible show PE _ (Expr.List _ _) _); refine' pe_lst ?p1; (case p1 => walk_at "pa"))
  | ((with_reducible show PE _ (Expr.Tuple _ _ _) _); refine' pe_tup ?p1; (case p1 => walk_at "pa")))
local macro_rules | `(tactic| walk_at "pa") => `(tactic| first | exact pa_nil | (refine' pa_cons ?p1 ?p2; (case p1 => walk_at "pe"); (case p2 => walk_at "pa")))
local macro_rules | `(tactic| walk_at "pt") => `(tactic| first
  | ((with_reducible show PT _ (Expr.Compare _ [CmpOp.Gt] [_] _) _); refine' pt_cmpR op_gt ?p1 ?p2 (nomark _); (case p1 => walk_at "pe"); (case p2 => walk_at "pe"))
  | ((with_reducible show PT _ (Expr.Compare _ [CmpOp.GtE] [_] _) _); refine' pt_cmpR op_ge ?p1 ?p2 (nomark _); (case p1 => walk_at "pe"); (case p2 => walk_at "pe"))
  | ((with_reducible show PT _ (Expr.Compare _ [CmpOp.Lt] [_] _) _); refine' pt_cmpR op_lt ?p1 ?p2 (nomark _); (case p1 => walk_at "pe"); (case p2 => walk_at "pe"))
  | ((with_reducible show PT _ (Expr.Compare _ [CmpOp.LtE] [_] _) _); refine' pt_cmpR op_le ?p1 ?p2 (nomark _); (case p1 => walk_at "pe"); (case p2 => walk_at "pe"))
  | ((with_reducible show PT _ (Expr.Compare _ [CmpOp.NotEq] [Expr.List [] _] _) _); refine' pt_cmpR (op_neD (by assumption)) ?p1 (pe_lst pa_nil) (nomark _); (case p1 => walk_at "pe"))
  | ((with_reducible show PT _ (Expr.BoolOp BoolOp.And [_, _] _) _); refine' PW.pt (pw_and ?p1 (pw_and1 ?p2)); (case p1 => walk_at "pt"); (case p2 => walk_at "pt")))
local macro_rules | `(tactic| walk_at "st") => `(tactic| first
  | ((with_reducible show PS _ (Stmt.Return (some _) _) _); refine' ps_ret ?p1; (case p1 => walk_at "pe"))
  | ((with_reducible show PS _ (Stmt.Assign [Expr.Subscript _ _ _] _ _) _); refine' ps_dput (by assumption) ?p1 ?p2 ?p3 rfl; (case p1 => walk_at "pe"); (case p2 => walk_at "pe"); (case p3 => walk_at "pe"))
  | ((with_reducible show PS _ (Stmt.Assign [Expr.Name _ _] _ _) _); (first | refine' ps_set (i := 1) (by assumption) rfl (Or.inl rfl) ?p1 | refine' ps_set (i := 2) (by assumption) rfl (Or.inl rfl) ?p1 | refine' ps_set (i := 3) (by assumption) rfl (Or.inl rfl) ?p1 | refine' ps_set (i := 4) (by assumption) rfl (Or.inl rfl) ?p1 | refine' ps_set (i := 5) (by assumption) rfl (Or.inl rfl) ?p1 | refine' ps_set (i := 6) (by assumption) rfl (Or.inl rfl) ?p1 | refine' ps_set (i := 7) (by assumption) rfl (Or.inl rfl) ?p1 | refine' ps_set (i := 8) (by assumption) rfl (Or.inl rfl) ?p1 | refine' ps_set (i := 9) (by assumption) rfl (Or.inl rfl) ?p1 | refine' ps_set (i := 10) (by assumption) rfl (Or.inl rfl) ?p1 | refine' ps_set (i := 11) (by assumption) rfl (Or.inl rfl) ?p1); (case p1 => walk_at "pe"))
  | ((with_reducible show PS _ (Stmt.If _ _ _ _) _); refine' ps_if ?p1 ?p2 ?p3; (case p1 => walk_at "pt"); (case p2 => walk_at "ps"); (case p3 => walk_at "ps")))
local macro_rules | `(tactic| walk_at "ps") => `(tactic| first
  | exact pss_nil | (refine' pss_one ?p1; (case p1 => walk_at "st")) | (refine' pss_cons ?p1 ?p2; (case p1 => walk_at "st"); (case p2 => walk_at "ps")))

theorem bStr0 : bootBuiltins "str" = some (.type "str") := by decide +kernel
/-- a text of lo to hi letters from a to z -/
structure Wd (lo hi : Nat) (z : Str) : Prop where
  l0 : lo ≤ z.length
  l1 : z.length ≤ hi
  az : ∀ c ∈ z.cps.toList, 97 ≤ c ∧ c ≤ 122
theorem wd_app {a b c d : Nat} {x y : Str} (h1 : Wd a b x) (h2 : Wd c d y) : Wd (a + c) (b + d) (x ++ y) := by
  have e : (x ++ y).length = x.length + y.length := by
    show (x ++ y).cps.size = _
    rw [Str.cps_append, Array.size_append]
    rfl
  refine ⟨by rw [e]; exact Nat.add_le_add h1.l0 h2.l0, by rw [e]; exact Nat.add_le_add h1.l1 h2.l1, fun q hq => ?_⟩
  rw [Str.cps_append, Array.toList_append] at hq
  rcases List.mem_append.mp hq with h | h
  · exact h1.az q h
  · exact h2.az q h
theorem wd_cut {a b : Nat} {x : Str} (h : Wd a b x) (lo hi : Option Int) : Wd 0 b (cutS x lo hi) := by
  refine ⟨Nat.zero_le _, Nat.le_trans (cutS_length x lo hi) h.l1, fun q hq => ?_⟩
  exact h.az q (List.mem_of_mem_drop (List.mem_of_mem_take hq))
theorem wd_sign {c : Nat} (h : 97 ≤ c ∧ c ≤ 122) : Wd 1 1 ⟨#[c]⟩ := ⟨Nat.le_refl _, Nat.le_refl _, fun q hq => by
  have e : q = c := by simpa using hq
  rw [e]
  exact h⟩
section
variable {P : Program} {w : World} {K : PySem.W.Frag} {mg : Str → Option Value} {base : Heap}
theorem scWhole : FnScope ["_law_pen_here", "_law_n"] ["_law_pen_here"] (defScope sWhole) := ⟨rfl, rfl, rfl, by decide +kernel, rfl, by decide +kernel, by decide +kernel⟩
theorem ok_whole {f : Addr} {fd : FuncData} (F : Fun K "_law_whole" "_law_whole" sWhole f fd) (HD : Has P w K mg base 1 "_law_draw" ["_law_pen_here", "_law_many"] spDraw) (HP : Has P w K mg base 2 "_law_pick" ["_law_pen_here", "_law_options"] (spPick K))
    (HG : Has P w K mg base 2 "_law_great" ["_law_pen_here", "_law_figures"] spGreat) (HT : Has P w K mg base 3 "_law_times" ["_law_pen_here"] spTimes) : FnOk P w K mg base CX0 4 f fd ["_law_pen_here"] spWhole := by
  obtain ⟨g1, gd1, G1, b1, m1, k1⟩ := HD
  obtain ⟨g2, gd2, G2, b2, m2, k2⟩ := HP
  obtain ⟨g3, gd3, G3, b3, m3, k3⟩ := HG
  obtain ⟨g4, gd4, G4, b4, m4, k4⟩ := HT
  refine F.ok scWhole (fun vs H Q E h => ?_) (fun cdv A outer s H vs Q E hr h => ?_)
  · obtain ⟨p, c, ns, u, r, rfl, _⟩ := h
    rfl
  · obtain ⟨p, c, ns, u, r, rfl, PA, hu6, k⟩ := h
    have hr1 : Room 1 _ := hr.mono (by decide)
    have hr2 : Room 2 _ := hr.mono (by decide)
    have nd : (["_law_pen_here", "_law_n"] : List Str).Nodup := scWhole.nd
    refine ⟨_, pss_cons (ps_set (i := 1) nd rfl (Or.inl rfl) (pe_call G2 hr2 (by rfl) m2 k2 b2 .nil pass0 (pa_cons (pv 0) (pa_cons (pe_lst (pa_cons pe_int (pa_cons pe_int (pa_cons pe_int (pa_cons pe_int (pa_cons pe_int (pa_cons pe_int (pa_cons pe_int
        (pa_cons (pe_call G4 hr (by rfl) m4 k4 b4 .nil pass0 (pa_cons (pv 0) pa_nil))
        (pa_cons (pe_call G3 hr2 (by rfl) m3 k3 b3 .nil pass0 (pa_cons (pv 0) (pa_cons (pe_op op_add pe_int (pe_call G1 hr1 (by rfl) m1 k1 b1 .nil pass0 (pa_cons (pv 0) (pa_cons pe_int pa_nil)))) pa_nil))) pa_nil)))))))))) pa_nil))))
      (pss_one (ps_ret (pe_ifExp (pt_cmpR op_eq (pe_call G1 hr1 (by rfl) m1 k1 b1 .nil pass0 (pa_cons (pv 0) (pa_cons pe_int pa_nil))) pe_int (nomark _)) (pv 1) (pe_un un_neg (pv 1))))), ?_⟩
    refine seq_step (fun σ' H' => ∃ (d u' r' : Int), σ' = [some (.ref p), some (.int d)] ∧ d.natAbs < 10 ^ 30 ∧ u' ≤ u + 39 ∧ PenAt H' p c ns u' r' ∧ SameP p H H') (fun R hR => ?_) (fun σ1 H1 h1 => ?_)
    · refine ⟨_, rfl, _, rfl, p, c, ns, u, r, rfl, PA, by omega, fun t u1 r1 H1 t0 t1 hu1 PA1 keep1 => ?_⟩
      refine ⟨_, rfl, _, rfl, p, c, ns, u1, r1, 30, rfl, PA1, by omega, by decide, by decide, fun e u2 r2 H2 e0 e1 hu2 PA2 keep2 => ?_⟩
      refine ⟨_, _, rfl, rfl, p, c, ns, u2, r2, (1 + e).toNat, ?_, PA2, by omega, by omega, fun g u3 r3 H3 q0 q1 hu3 PA3 keep3 => ?_⟩
      · show [V.ref p, V.int (1 + e)] = [V.ref p, V.int (((1 + e).toNat : Nat) : Int)]
        rw [Int.toNat_of_nonneg (by omega)]
      have g30 : g.natAbs < 10 ^ 30 := by
        have h30 : (10 : Int) ^ (1 + e).toNat ≤ 10 ^ 30 := by
          have z : (10 : Nat) ^ (1 + e).toNat ≤ 10 ^ 30 := Nat.pow_le_pow_right (by decide) (by omega)
          exact_mod_cast z
        have : g < 10 ^ 30 := Int.lt_of_lt_of_le q1 h30
        omega
      refine ⟨by show 9 ≤ sizeLine; decide, fun l hl => ?_⟩
      have sl := same_new (o := .lst [.int 0, .int 1, .int 2, .int 9, .int 10, .int 99, .int 100, .int t, .int g]) hl
      have keep := (keep1.trans keep2).trans (keep3.trans (.of sl))
      refine ⟨p, c, .ref l, ns, u3, r3, rfl, PA3.same sl, by omega, .inl ⟨l, _, rfl, upd_same, by show 0 < 9; decide, by show 9 ≤ 100000; decide, fun v u4 r4 H4 hm hu4 PA4 keep4 => ?_⟩⟩
      have fin : ∀ x : Int, v = .int x → x.natAbs < 10 ^ 30 → R (([some (.ref p), none] : L2.St).set 1 (some v)) H4 := fun x hx hb => by
        subst hx
        exact hR _ _ ⟨x, u4, r4, rfl, hb, by omega, PA4, keep.trans keep4⟩
      simp only [List.mem_cons, List.not_mem_nil, or_false] at hm
      rcases hm with h | h | h | h | h | h | h | h | h
      all_goals first
        | exact fin _ h (by decide)
        | exact fin _ h (by omega)
        | exact fin _ h g30
    obtain ⟨d, u', r', rfl, hd, hu', PA', keep⟩ := h1
    refine ⟨_, rfl, p, c, ns, u', r', 2, rfl, PA', by omega, by decide, by decide, fun e u2 r2 H2 e0 e1 hu2 PA2 keep2 => ?_⟩
    refine ⟨rfl, _, rfl, ifd (fun _ => ?_) (fun _ => ?_)⟩
    · exact ⟨_, rfl, k _ u2 r2 _ hd (by omega) PA2 (keep.trans keep2)⟩
    · exact ⟨_, rfl, _, rfl, k _ u2 r2 _ (by rw [Int.natAbs_neg]; exact hd) (by omega) PA2 (keep.trans keep2)⟩
end
end Ld
namespace Ld
open PySem PySem.Spec PyProof.Rows L2
open TL (tl joinL tl_join join_eq)
local macro_rules | `(tactic| walk_at "pe") => `(tactic| first
  | exact pe_int
  | exact pe_bl
  | exact pe_non
  | exact pe_str
  | ((with_reducible show PE _ (Expr.Name _ _) _); first | exact pv 0 | exact pv 1 | exact pv 2 | exact pv 3 | exact pv 4 | exact pv 5 | exact pv 6 | exact pv 7 | exact pv 8 | exact pv 9 | exact pv 10 | exact pv 11)
  | ((with_reducible show PE _ (Expr.BinOp _ Operator.Add _ _) _); refine' pe_op op_add ?p1 ?p2; (case p1 => walk_at "pe"); (case p2 => walk_at "pe"))
  | ((with_reducible show PE _ (Expr.BinOp _ Operator.Sub _ _) _); refine' pe_op op_sub ?p1 ?p2; (case p1 => walk_at "pe"); (case p2 => walk_at "pe"))
  | ((with_reducible show PE _ (Expr.BinOp _ Operator.Mult _ _) _); refine' pe_op op_mul ?p1 ?p2; (case p1 => walk_at "pe"); (case p2 => walk_at "pe"))
  | ((with_reducible show PE _ (Expr.BinOp _ Operator.Mod _ _) _); refine' pe_op op_mod ?p1 ?p2; (case p1 => walk_at "pe"); (case p2 => walk_at "pe"))
  | ((with_reducible show PE _ (Expr.BinOp _ Operator.FloorDiv _ _) _); refine' pe_op op_fdiv ?p1 ?p2; (case p1 => walk_at "pe"); (case p2 => walk_at "pe"))
  | ((with_reducible show PE _ (Expr.BinOp _ Operator.Pow _ _) _); refine' pe_op op_pow ?p1 ?p2; (case p1 => walk_at "pe"); (case p2 => walk_at "pe"))
  | ((with_reducible show PE _ (Expr.UnaryOp UnaryOp.USub _ _) _); refine' pe_un un_neg ?p1; (case p1 => walk_at "pe"))
  | ((with_reducible show PE _ (Expr.Subscript _ (Expr.Constant (Const.str _) _ _) _) _); refine' pe_dget (by assumption) ?p1 pe_str (fun _ _ => rfl); (case p1 => walk_at "pe"))
  | ((with_reducible show PE _ (Expr.Subscript _ _ _) _); refine' pe_ix ix_list ?p1 ?p2 (fun _ _ => rfl); (case p1 => walk_at "pe"); (case p2 => walk_at "pe"))
  | ((with_reducible show PE _ (Expr.Call (Expr.Name "int" _) _ _ _) _); refine' pe_callTy call_int1 (by rfl) (by assumption) bInt (pa_cons ?p1 pa_nil); (case p1 => walk_at "pe"))
  | ((with_reducible show PE _ (Expr.Call (Expr.Name "abs" _) _ _ _) _); refine' pe_callB call_abs (by rfl) (by assumption) bAbs (pa_cons ?p1 pa_nil); (case p1 => walk_at "pe"))
  | ((with_reducible show PE _ (Expr.Call (Expr.Name "len" _) _ _ _) _); refine' pe_callB call_len_seq (by rfl) (by assumption) PySem.boot_len (pa_cons ?p1 pa_nil); (case p1 => walk_at "pe"))
  | ((with_reducible show PE _ (Expr.List _ _) _); refine' pe_lst ?p1; (case p1 => walk_at "pa"))
  | ((with_reducible show PE _ (Expr.Tuple _ _ _) _); refine' pe_tup ?p1; (case p1 => walk_at "pa")))
local macro_rules | `(tactic| walk_at "pa") => `(tactic| first | exact pa_nil | (refine' pa_cons ?p1 ?p2; (case p1 => walk_at "pe"); (case p2 => walk_at "pa")))
local macro_rules | `(tactic| walk_at "pt") => `(tactic| first
  | ((with_reducible show PT _ (Expr.Compare _ [CmpOp.Gt] [_] _) _); refine' pt_cmpR op_gt ?p1 ?p2 (nomark _); (case p1 => walk_at "pe"); (case p2 => walk_at "pe"))
  | ((with_reducible show PT _ (Expr.Compare _ [CmpOp.GtE] [_] _) _); refine' pt_cmpR op_ge ?p1 ?p2 (nomark _); (case p1 => walk_at "pe"); (case p2 => walk_at "pe"))
  | ((with_reducible show PT _ (Expr.Compare _ [CmpOp.Lt] [_] _) _); refine' pt_cmpR op_lt ?p1 ?p2 (nomark _); (case p1 => walk_at "pe"); (case p2 => walk_at "pe"))
  | ((with_reducible show PT _ (Expr.Compare _ [CmpOp.LtE] [_] _) _); refine' pt_cmpR op_le ?p1 ?p2 (nomark _); (case p1 => walk_at "pe"); (case p2 => walk_at "pe"))
  | ((with_reducible show PT _ (Expr.Compare _ [CmpOp.NotEq] [Expr.List [] _] _) _); refine' pt_cmpR (op_neD (by assumption)) ?p1 (pe_lst pa_nil) (nomark _); (case p1 => walk_at "pe"))
  | ((with_reducible show PT _ (Expr.BoolOp BoolOp.And [_, _] _) _); refine' PW.pt (pw_and ?p1 (pw_and1 ?p2)); (case p1 => walk_at "pt"); (case p2 => walk_at "pt")))
local macro_rules | `(tactic| walk_at "st") => `(tactic| first
  | ((with_reducible show PS _ (Stmt.Return (some _) _) _); refine' ps_ret ?p1; (case p1 => walk_at "pe"))
  | ((with_reducible show PS _ (Stmt.Assign [Expr.Subscript _ _ _] _ _) _); refine' ps_dput (by assumption) ?p1 ?p2 ?p3 rfl; (case p1 => walk_at "pe"); (case p2 => walk_at "pe"); (case p3 => walk_at "pe"))
  | ((with_reducible show PS _ (Stmt.Assign [Expr.Name _ _] _ _) _); (first | refine' ps_set (i := 1) (by assumption) rfl (Or.inl rfl) ?p1 | refine' ps_set (i := 2) (by assumption) rfl (Or.inl rfl) ?p1 | refine' ps_set (i := 3) (by assumption) rfl (Or.inl rfl) ?p1 | refine' ps_set (i := 4) (by assumption) rfl (Or.inl rfl) ?p1 | refine' ps_set (i := 5) (by assumption) rfl (Or.inl rfl) ?p1 | refine' ps_set (i := 6) (by assumption) rfl (Or.inl rfl) ?p1 | refine' ps_set (i := 7) (by assumption) rfl (Or.inl rfl) ?p1 | refine' ps_set (i := 8) (by assumption) rfl (Or.inl rfl) ?p1 | refine' ps_set (i := 9) (by assumption) rfl (Or.inl rfl) ?p1 | refine' ps_set (i := 10) (by assumption) rfl (Or.inl rfl) ?p1 | refine' ps_set (i := 11) (by assumption) rfl (Or.inl rfl) ?p1); (case p1 => walk_at "pe"))
  | ((with_reducible show PS _ (Stmt.If _ _ _ _) _); refine' ps_if ?p1 ?p2 ?p3; (case p1 => walk_at "pt"); (case p2 => walk_at "ps"); (case p3 => walk_at "ps")))
local macro_rules | `(tactic| walk_at "ps") => `(tactic| first
  | exact pss_nil | (refine' pss_one ?p1; (case p1 => walk_at "st")) | (refine' pss_cons ?p1 ?p2; (case p1 => walk_at "st"); (case p2 => walk_at "ps")))

theorem joinL_all {q : Nat → Prop} : ∀ {parts : List (List Nat)}, (∀ p ∈ parts, ∀ c ∈ p, q c) → ∀ c ∈ joinL [] parts, q c
  | [], _, c, h => by simp [joinL] at h
  | [p], k, c, h => k p List.mem_cons_self c h
  | p :: r :: rs, k, c, h => by
    rcases List.mem_append.mp h with h | h
    · exact k p List.mem_cons_self c h
    · exact joinL_all (parts := r :: rs) (fun x hx => k x (List.mem_cons_of_mem _ hx)) c h
theorem joinL_ones : ∀ {parts : List (List Nat)}, (∀ p ∈ parts, p.length = 1) → (joinL [] parts).length = parts.length
  | [], _ => rfl
  | [p], k => k p List.mem_cons_self
  | p :: r :: rs, k => by
    show (p ++ ([] ++ joinL [] (r :: rs))).length = _
    rw [List.nil_append, List.length_append, joinL_ones (parts := r :: rs) (fun x hx => k x (List.mem_cons_of_mem _ hx)), k p List.mem_cons_self, List.length_cons (a := p)]
    omega
theorem wd_join {ys : List Str} (h : ∀ y ∈ ys, Wd 1 1 y) : Wd ys.length ys.length (Txt.join "" ys) := by
  rw [join_eq]
  have e : tl (Str.join "" ys) = joinL [] (ys.map tl) := by
    rw [tl_join]
    rfl
  have hl : (Str.join "" ys).length = ys.length := by
    have z : (tl (Str.join "" ys)).length = ys.length := by
      rw [e, joinL_ones (fun p hp => ?_), List.length_map]
      obtain ⟨y, hy, rfl⟩ := List.mem_map.mp hp
      have w := h y hy
      have e1 : (tl y).length = y.length := by
        show y.cps.toList.length = y.cps.size
        exact Array.length_toList
      rw [e1]
      exact Nat.le_antisymm w.l1 w.l0
    have e2 : (tl (Str.join "" ys)).length = (Str.join "" ys).length := by
      show (Str.join "" ys).cps.toList.length = (Str.join "" ys).cps.size
      exact Array.length_toList
    rw [← e2, z]
  refine ⟨Nat.le_of_eq hl.symm, Nat.le_of_eq hl, fun c hc => ?_⟩
  have hc' : c ∈ tl (Str.join "" ys) := hc
  rw [e] at hc'
  refine joinL_all (q := fun c => 97 ≤ c ∧ c ≤ 122) (fun p hp c hc => ?_) c hc'
  obtain ⟨y, hy, rfl⟩ := List.mem_map.mp hp
  exact (h y hy).az c hc
theorem sum_ones {ys : List Str} (h : ∀ y ∈ ys, Wd 1 1 y) : (ys.map (·.length)).sum = ys.length := by
  induction ys with
  | nil => rfl
  | cons y r ih =>
    have w := h y List.mem_cons_self
    rw [List.map_cons, List.sum_cons, ih (fun x hx => h x (List.mem_cons_of_mem _ hx)), List.length_cons]
    have := w.l0
    have := w.l1
    omega
theorem cut_head {z : Str} {a : Nat} (h : a ≤ z.length) : (cutS z none (some (a : Int))).length ≤ a := by
  show (((z.cps.toList.drop (HT.sIx z.length 0 none)).take (HT.sIx z.length z.length (some (a : Int)) - HT.sIx z.length 0 none)).toArray).size ≤ a
  rw [HT.sIx_nat, HT.sIx_none, List.size_toArray, List.length_take]
  omega
theorem cut_tail {z : Str} {a : Nat} (h : a ≤ z.length) : (cutS z (some (a : Int)) none).length ≤ z.length - a := by
  show (((z.cps.toList.drop (HT.sIx z.length 0 (some (a : Int)))).take (HT.sIx z.length z.length none - HT.sIx z.length 0 (some (a : Int)))).toArray).size ≤ z.length - a
  rw [HT.sIx_nat, HT.sIx_none, List.size_toArray, List.length_take, List.length_drop]
  omega
def spWords : Sp := fun vs H Q _ => ∃ (p c : Addr) (ns : List Int) (u r : Int) (m : Nat), vs = [.ref p, .int (m : Int)] ∧ PenAt H p c ns u r ∧ u + 11 ≤ 1000000 ∧ m ≤ 100 ∧
  ∀ (l : Addr) (ws : List Str) (u' r' : Int) (H' : Hp), H' l = some (.lst (ws.map V.str)) → ws.length = m → (∀ z ∈ ws, Wd 1 8 z) → u' ≤ u + 11 → PenAt H' p c ns u' r' → SameP p H H' → Q (.ref l) H'
theorem abc_az : ∀ c ∈ (("abcdefghijklmnopqrstuvwxyz" : Str)).cps.toList, 97 ≤ c ∧ c ≤ 122 := by decide +kernel
theorem abc_len : (("abcdefghijklmnopqrstuvwxyz" : Str)).length = 26 := by decide +kernel
theorem PenAt.upd {H : Hp} {p c : Addr} {ns : List Int} {u r : Int} (P : PenAt H p c ns u r) {l : Addr} {o : HO} (h1 : l ≠ p) (h2 : l ≠ c) : PenAt (L2.upd H l o) p c ns u r := by
  obtain ⟨kvs, hp, k2⟩ := P.ob
  exact ⟨⟨kvs, by rw [upd_ne h1.symm]; exact hp, k2⟩, by rw [upd_ne h2.symm]; exact P.cl, P.few, P.u0, P.r0⟩
theorem len_app (x y : Str) : (x ++ y).length = x.length + y.length := by
  show (x ++ y).cps.size = _
  rw [Str.cps_append, Array.size_append]
  rfl
theorem abc_at {i : Int} (h0 : 0 ≤ i) (h1 : i < 26) : ∃ c, c ∈ (("abcdefghijklmnopqrstuvwxyz" : Str)).cps.toList ∧ atI (("abcdefghijklmnopqrstuvwxyz" : Str)).cps.toList i = some c := by
  have hl : (("abcdefghijklmnopqrstuvwxyz" : Str)).cps.toList.length = 26 := by decide +kernel
  obtain ⟨n, rfl⟩ : ∃ n : Nat, i = (n : Int) := ⟨i.toNat, by omega⟩
  have hn : n < (("abcdefghijklmnopqrstuvwxyz" : Str)).cps.toList.length := by omega
  refine ⟨_, List.getElem_mem hn, ?_⟩
  exact atI_nat (List.getElem?_eq_getElem hn)
section
variable {P : Program} {w : World} {K : PySem.W.Frag} {mg : Str → Option Value} {base : Heap}
abbrev nWords : List Str := ["_law_pen_here", "_law_many", "_law_letters", "_law_k", "_law_stem", "_law_front", "_law_step", "_law_at", "_law_tail", "_law_found", "_law_sign"]
theorem scWords : FnScope nWords ["_law_pen_here", "_law_many"] (defScope sWords) := ⟨rfl, rfl, rfl, by decide +kernel, rfl, by decide +kernel, by decide +kernel⟩
theorem ok_words {f : Addr} {fd : FuncData} (F : Fun K "_law_words" "_law_words" sWords f fd) (B : Blt mg) (HD : Has P w K mg base 1 "_law_draw" ["_law_pen_here", "_law_many"] spDraw) (HP : Has P w K mg base 2 "_law_pick" ["_law_pen_here", "_law_options"] (spPick K)) :
    FnOk P w K mg base CX0 3 f fd ["_law_pen_here", "_law_many"] spWords := by
  obtain ⟨g1, gd1, G1, b1, m1, k1⟩ := HD
  obtain ⟨g2, gd2, G2, b2, m2, k2⟩ := HP
  refine F.ok scWords (fun vs H Q E h => ?_) (fun cdv A outer s H vs Q E hr h => ?_)
  · obtain ⟨p, c, ns, u, r, m, rfl, _⟩ := h
    rfl
  · obtain ⟨p, c, ns, u, r, m, rfl, PA, hu6, hm, k⟩ := h
    have hr1 : Room 1 _ := hr.mono (by decide)
    have nd : nWords.Nodup := scWords.nd
    have mI := B.int
    have mL := B.len
    refine ⟨_, pss_cons (ps_set (i := 2) nd rfl (Or.inr rfl) pe_str)
      (pss_cons (ps_set (i := 4) nd rfl (Or.inl rfl) (pe_bm PySem.F.plainAttrs_str PySem.F.slot_str_join PySem.F.type_str_join mt_join pe_str (pa_cons
        (pe_lc (own := [("_law_k", 3)]) (g := gName 3) (tt := tYes) rfl nd (pi_range1 (by rfl) B.range (pa_cons (pe_call G1 hr1 (by rfl) m1 k1 b1 .nil pass0 (pa_cons (pv 0) (pa_cons pe_int pa_nil))) pa_nil)) (blkOk_by (N := nWords) (sc := defScope sWords) (by decide +kernel))
          (fun _ _ _ _ _ => pg_name (i := 3) nd rfl (Or.inl rfl)) (fun _ _ _ _ _ => pts_nil) (fun _ _ _ _ _ => pe_call G2 hr (by rfl) m2 k2 b2 .nil pass0 (pa_cons (pv 0) (pa_cons (pv 2) pa_nil)))) pa_nil)))
      (pss_cons (ps_par3 (i := 5) (j := 6) (l := 7) rfl nd rfl rfl rfl (by decide) (by decide) (by decide) rfl rfl rfl
        (pa_cons (pe_call G1 hr1 (by rfl) m1 k1 b1 .nil pass0 (pa_cons (pv 0) (pa_cons pe_int pa_nil)))
        (pa_cons (pe_call G2 hr (by rfl) m2 k2 b2 .nil pass0 (pa_cons (pv 0) (pa_cons (by walk_at "pe") pa_nil)))
        (pa_cons (pe_call G1 hr1 (by rfl) m1 k1 b1 .nil pass0 (pa_cons (pv 0) (pa_cons (pe_op op_add (pe_callB call_len_str (by rfl) mL PySem.boot_len (pa_cons (pv 4) pa_nil)) pe_int) pa_nil))) pa_nil))) (by rfl))
      (pss_cons (ps_par (i := 8) (j := 9) rfl nd rfl rfl (by decide) rfl rfl (pa_cons (pe_slice sl_str (pv 4) (po_some (pv 7)) po_none) (pa_cons (pe_lst pa_nil) pa_nil)) (by rfl))
      (pss_cons (ps_for PassesOwn.never rfl (pi_range1 (by rfl) B.range (pa_cons (pv 1) pa_nil)) (pg_name (i := 3) nd rfl (Or.inl rfl))
        (pss_cons (ps_set (i := 10) nd rfl (Or.inl rfl) (pe_ix ix_str (pv 2) (by walk_at "pe") (fun _ _ => rfl)))
        (pss_one (ps_expr (pe_bm PySem.F.plainAttrs_list PySem.F.slot_list_append PySem.F.type_list_append mt_append (pv 9) (pa_cons
          (pe_op op_add_str (pe_op op_add_str (pe_slice sl_str (pv 4) po_none (po_some (pv 7))) (pv 10))
            (pe_slice sl_str (pv 8) po_none (po_some (pe_op op_sub (pe_callB call_len_str (by rfl) mL PySem.boot_len (pa_cons (pv 8) pa_nil)) (pe_op op_mul (pv 3) (pe_callTy call_int1 (by rfl) mI bInt (pa_cons (pe_cmpR op_lt (pv 3) pe_int (nomark _)) pa_nil))))))) pa_nil))))))
      (pss_one (ps_ret (pv 9))))))), ?_⟩
    -- letters
    refine seq_step (fun σ' H' => σ' = [some (.ref p), some (.int (m : Int)), some (.str "abcdefghijklmnopqrstuvwxyz"), none, none, none, none, none, none, none, none] ∧ H' = H) (fun R hR => hR _ _ ⟨rfl, rfl⟩) (fun σ1 H1 h1 => ?_)
    obtain ⟨rfl, rfl⟩ := h1
    -- stem
    refine seq_step (fun σ' H' => ∃ (z : Str) (x : Option V) (u' r' : Int), σ' = [some (.ref p), some (.int (m : Int)), some (.str "abcdefghijklmnopqrstuvwxyz"), x, some (.str z), none, none, none, none, none, none] ∧ Wd 0 7 z ∧ u' ≤ u + 8 ∧ PenAt H' p c ns u' r' ∧ SameP p H1 H') (fun R hR => ?_) (fun σ2 H2 h2 => ?_)
    · refine ⟨rfl, ?_⟩
      refine ⟨_, rfl, p, c, ns, u, r, 8, rfl, PA, by omega, by decide, by decide, fun d u1 r1 H2 d0 d1 hu1 PA1 keep1 => ?_⟩
      refine ⟨d, rfl, by omega, by omega, fun D hD => ?_⟩
      have nDp : D ≠ p := by
        obtain ⟨kvs, hp, _⟩ := PA1.ob
        exact (ne_of_none hp hD).symm
      refine lc_range (lo := 0) (n := d.toNat) (fun i H' => ∃ (u' r' : Int) (ys : List Str), PenAt H' p c ns u' r' ∧ u' ≤ u1 + i ∧ SameP p H2 H' ∧ H' D = some (.lst (ys.map V.str)) ∧ ys.length = i ∧ ∀ y ∈ ys, Wd 1 1 y)
        ⟨u1, r1, [], PA1.same (same_new hD), by omega, .of (same_new hD), upd_same, rfl, fun _ h => nomatch h⟩ ?_ ?_
      · rintro i H' hi ⟨u', r', ys, PA', hu', keep', gD, hy, hw⟩
        refine ⟨rfl, _, rfl, _, rfl, p, c, .str "abcdefghijklmnopqrstuvwxyz", ns, u', r', rfl, PA', by omega, .inr ⟨_, rfl, by rw [abc_len]; decide, by rw [abc_len]; decide, fun e u2 r2 H3 he hu2 PA2 keep2 => ?_⟩⟩
        have nC : c ≠ D := ne_of_none PA1.cl hD
        refine ⟨_, keep2 _ _ gD nDp, by rw [List.length_map, hy]; exact Nat.lt_of_lt_of_le hi (Nat.le_trans (by omega : d.toNat ≤ 8) (by decide)), u2, r2, ys ++ [⟨#[e]⟩], ?_, by omega, ?_, ?_, by simp [hy], ?_⟩
        · obtain ⟨kvs, hp, k2⟩ := PA2.ob
          exact ⟨⟨kvs, by rw [upd_ne nDp.symm]; exact hp, k2⟩, by rw [upd_ne nC]; exact PA2.cl, PA2.few, PA2.u0, PA2.r0⟩
        · intro b o eb nb
          rw [upd_ne (ne_of_none eb hD)]
          exact keep2 _ _ (keep' _ _ eb nb) nb
        · rw [upd_same, List.map_append]
          rfl
        · intro y hy'
          rcases List.mem_append.mp hy' with h | h
          · exact hw y h
          · rw [List.mem_singleton.mp h]
            exact wd_sign (abc_az e he)
      · rintro H' ⟨u', r', ys, PA', hu', keep', gD, hy, hw⟩
        have wj := wd_join hw
        refine ⟨_, D, ys, rfl, rfl, .inl (.inl (.inl gD)), ?_, hR _ _ ⟨_, none, u', r', rfl, ⟨Nat.zero_le _, Nat.le_trans wj.l1 (by omega), wj.az⟩, by omega, PA', keep1.trans keep'⟩⟩
        rw [sum_ones hw]
        have e0 : ("" : Str).length = 0 := by decide +kernel
        rw [e0]
        omega
    obtain ⟨z, x3, u2, r2, rfl, wz, hu2, PA2, keep2⟩ := h2
    have hz7 := wz.l1
    have hzs : z.length ≤ sizeLine := Nat.le_trans hz7 (by decide)
    -- front, step, at
    refine seq_step (fun σ' H' => ∃ (f s a : Int) (u' r' : Int), σ' = [some (.ref p), some (.int (m : Int)), some (.str "abcdefghijklmnopqrstuvwxyz"), x3, some (.str z), some (.int f), some (.int s), some (.int a), none, none, none] ∧ 0 ≤ f ∧ f < 26 ∧ 1 ≤ s ∧ s ≤ 17 ∧ 0 ≤ a ∧ a ≤ z.length ∧ u' ≤ u + 11 ∧ PenAt H' p c ns u' r' ∧ SameP p H1 H') (fun R hR => ?_) (fun σ3 H3 h3 => ?_)
    · refine ⟨_, rfl, p, c, ns, u2, r2, 26, rfl, PA2, by omega, by decide, by decide, fun f u3 r3 H3 f0 f1 hu3 PA3 keep3 => ?_⟩
      refine ⟨_, rfl, by show 8 ≤ sizeLine; decide, fun l hl => ?_⟩
      have sl := same_new (o := .lst [.int 1, .int 3, .int 5, .int 7, .int 9, .int 11, .int 15, .int 17]) hl
      refine ⟨p, c, .ref l, ns, u3, r3, rfl, PA3.same sl, by omega, .inl ⟨l, _, rfl, upd_same, by show 0 < 8; decide, by show 8 ≤ 100000; decide, fun v u4 r4 H4 hm4 hu4 PA4 keep4 => ?_⟩⟩
      obtain ⟨st, rfl, s0, s1⟩ : ∃ st : Int, v = .int st ∧ 1 ≤ st ∧ st ≤ 17 := by
        simp only [List.mem_cons, List.not_mem_nil, or_false] at hm4
        rcases hm4 with h | h | h | h | h | h | h | h <;> exact ⟨_, h, by decide, by decide⟩
      refine ⟨_, rfl, _, rfl, _, rfl, hzs, _, _, rfl, rfl, p, c, ns, u4, r4, _, rfl, PA4, by omega, by omega, by omega, fun a u5 r5 H5 a0 a1 hu5 PA5 keep5 => ?_⟩
      exact ⟨_, _, _, rfl, hR _ _ ⟨f, st, a, u5, r5, rfl, f0, f1, s0, s1, a0, by omega, by omega, PA5, (keep2.trans keep3).trans ((SameP.of sl).trans (keep4.trans keep5))⟩⟩
    obtain ⟨f0, st, a, u3, r3, rfl, q0, q1, q2, q3, q4, q5, hu3, PA3, keep3⟩ := h3
    clear keep2 PA2
    obtain ⟨an, rfl⟩ : ∃ n : Nat, a = (n : Int) := ⟨a.toNat, by omega⟩
    have han : an ≤ z.length := by omega
    have wt := wd_cut wz (some (an : Int)) none
    have lt := cut_tail (z := z) han
    -- tail, found
    refine seq_step (fun σ' H' => ∃ (l : Addr), σ' = [some (.ref p), some (.int (m : Int)), some (.str "abcdefghijklmnopqrstuvwxyz"), x3, some (.str z), some (.int f0), some (.int st), some (.int (an : Int)), some (.str (cutS z (some (an : Int)) none)), some (.ref l), none] ∧ l ≠ p ∧ l ≠ c ∧ H3 l = none ∧ H' l = some (.lst []) ∧ PenAt H' p c ns u3 r3 ∧ SameP p H1 H') (fun R hR => ?_) (fun σ4 H4 h4 => ?_)
    · refine ⟨_, rfl, _, rfl, _, rfl, _, rfl, hzs, Nat.zero_le _, fun l hl => ⟨_, _, rfl, ?_⟩⟩
      have nl : l ≠ p := by
        obtain ⟨kvs, hp, _⟩ := PA3.ob
        exact (ne_of_none hp hl).symm
      exact hR _ _ ⟨l, rfl, nl, (ne_of_none PA3.cl hl).symm, hl, upd_same, PA3.same (same_new hl), keep3.trans (.of (same_new hl))⟩
    obtain ⟨l, rfl, nlp, nlc, hl3, gl, PA4, keep4⟩ := h4
    -- for k in range(many)
    refine seq_step (fun σ' H' => ∃ (x y : Option V) (ws : List Str), σ' = [some (.ref p), some (.int (m : Int)), some (.str "abcdefghijklmnopqrstuvwxyz"), x, some (.str z), some (.int f0), some (.int st), some (.int (an : Int)), some (.str (cutS z (some (an : Int)) none)), some (.ref l), y] ∧ H' l = some (.lst (ws.map V.str)) ∧ ws.length = m ∧ (∀ z ∈ ws, Wd 1 8 z) ∧ PenAt H' p c ns u3 r3 ∧ SameP p H1 H') (fun R hR => ?_) (fun σ5 H5 h5 => ?_)
    · refine ⟨_, rfl, _, rfl, by omega, by omega, for_range (n := m) (fun i σ' H' => ∃ (x y : Option V) (ws : List Str), σ' = [some (.ref p), some (.int (m : Int)), some (.str "abcdefghijklmnopqrstuvwxyz"), x, some (.str z), some (.int f0), some (.int st), some (.int (an : Int)), some (.str (cutS z (some (an : Int)) none)), some (.ref l), y] ∧ H' l = some (.lst (ws.map V.str)) ∧ ws.length = i ∧ (∀ z ∈ ws, Wd 1 8 z) ∧ PenAt H' p c ns u3 r3 ∧ SameP p H1 H')
        ⟨x3, none, [], rfl, gl, rfl, (fun _ h => nomatch h), PA4, keep4⟩ ?_ (fun σ' H' h => hR _ _ h)⟩
      rintro i σ' H' hi ⟨x, y, ws, rfl, gw, hw, ww, PA', keep'⟩
      refine seq_step (fun σ' H'' => ∃ e : Nat, σ' = [some (.ref p), some (.int (m : Int)), some (.str "abcdefghijklmnopqrstuvwxyz"), some (.int (0 + (i : Int))), some (.str z), some (.int f0), some (.int st), some (.int (an : Int)), some (.str (cutS z (some (an : Int)) none)), some (.ref l), some (.str ⟨#[e]⟩)] ∧ (97 ≤ e ∧ e ≤ 122) ∧ H'' = H') (fun R hR => ?_) (fun σ6 H6 h6 => ?_)
      · have hx0 : 0 ≤ (f0 + st * (0 + (i : Int))) % 26 := Int.emod_nonneg _ (by decide)
        have hx1 : (f0 + st * (0 + (i : Int))) % 26 < 26 := Int.emod_lt_of_pos _ (by decide)
        obtain ⟨e, he, hae⟩ := abc_at hx0 hx1
        refine ⟨_, rfl, _, rfl, _, rfl, _, rfl, _, _, rfl, rfl, .inl ⟨by omega, by omega⟩, _, _, rfl, rfl, .inl ⟨_, rfl, _, _, rfl, rfl, by show (0 : Int) < 26; decide, _, _, e, rfl, rfl, by rw [abc_len]; decide, hae, ?_⟩⟩
        exact hR _ _ ⟨e, rfl, abc_az e he, rfl⟩
      obtain ⟨e, rfl, he, rfl⟩ := h6
      have wsg := wd_sign he
      have wf := wd_cut wz none (some (an : Int))
      have lf := cut_head (z := z) han
      refine ⟨_, rfl, .inl ⟨rfl, _, .inl (.inl gw)⟩, _, rfl, _, rfl, _, rfl, _, rfl, hzs, _, rfl, _, _, rfl, rfl, ?_, _, rfl, _, rfl, _, rfl, ?_, _, rfl, _, rfl, _, _, rfl, rfl, .inr ⟨_, rfl, _, _, rfl, rfl, ?_, _, _, rfl, rfl, _, rfl, _, rfl, ?_, _, _, rfl, rfl, ?_, l, _, _, rfl, rfl, gw, ?_, ?_⟩⟩
      · show _ + 1 ≤ sizeLine
        exact Nat.le_trans (by omega : _ ≤ 8) (by decide)
      · exact Nat.le_trans (by omega : _ ≤ 8) (by decide)
      · exact .inr ⟨by split <;> decide, by split <;> decide⟩
      · exact Nat.le_trans (by omega : _ ≤ 8) (by decide)
      · rw [len_app]
        exact Nat.le_trans (Nat.add_le_add_left (cutS_length _ _ _) _) (Nat.le_trans (by show _ + 1 + _ ≤ 8; omega) (by decide))
      · rw [List.length_map, hw]
        exact Nat.lt_of_lt_of_le hi (Nat.le_trans hm (by decide))
      · refine ⟨_, _, ws ++ [cutS z none (some (an : Int)) ++ ⟨#[e]⟩ ++ cutS (cutS z (some (an : Int)) none) none (some ((cutS z (some (an : Int)) none).length - (0 + (i : Int)) * (if decide (0 + (i : Int) < 2) = true then 1 else 0)))], rfl, ?_, ?_, ?_, ?_, ?_⟩
        · rw [upd_same, List.map_append]
          rfl
        · rw [List.length_append, hw]
          rfl
        · intro v hv
          rcases List.mem_append.mp hv with h | h
          · exact ww v h
          · rw [List.mem_singleton.mp h]
            have wall := wd_app (wd_app wf wsg) (wd_cut wt none (some ((cutS z (some (an : Int)) none).length - (0 + (i : Int)) * (if decide (0 + (i : Int) < 2) = true then 1 else 0))))
            refine ⟨wall.l0, ?_, wall.az⟩
            rw [len_app, len_app]
            exact Nat.le_trans (Nat.add_le_add_left (cutS_length _ _ _) _) (by show _ + 1 + _ ≤ 8; omega)
        · exact PA'.upd nlp nlc
        · intro b o eb nb
          rw [upd_ne (ne_of_none (keep3 _ _ eb nb) hl3)]
          exact keep' _ _ eb nb
    obtain ⟨x, y, ws, rfl, g5, hw5, ww, PA5, keep5⟩ := h5
    exact ⟨_, rfl, k l ws u3 r3 H5 g5 hw5 ww (by omega) PA5 keep5⟩
end
end Ld
/-! sorted(d, key=str), d a dict with texts as keys -/
namespace Ld
open PySem PyProof.Rows
theorem kss_t (a : Addr) : Builtin.«list.sort» ⟨[.ref a], [(Str.ofString "key", .type "str")]⟩ = ksk_tree a (.type "str") false := rfl
section
variable {prog : Program} {w : World} {A : Around} {E : Value → Shared → Prop} {s : Shared} {P : PySem.Fin → Shared → Prop}
theorem kss_tail {a kS : Addr} {keys vs : List Value} {ss : List Str} {e e1 : Nat} {st : SortSt} (hk : s.heap.get? kS = some (seqObj "list" vs.toArray e)) (ha : s.heap.get? a = some (seqObj "list" #[] e1)) (hka : kS ≠ a) (hz : vs.length ≤ sizeLine)
    (hp : (arrOf st).Perm (pairsOf vs)) (hfl : failedOf st = none)
    (h : ∀ h' c, (∀ b o, b ≠ a → b ≠ kS → s.heap.get? b = some o → h'.get? b = some o) → h'.get? a = some (seqObj "list" ((arrOf st).map (·.2)) c) → P (.done (.ret .none)) { s with heap := h' }) :
    wpAny (model prog w) A (ksk_tail a false e1 (.ref kS) st) P E s := by
  have hout : ((arrOf st).map (·.2)).size = vs.length := by rw [Array.size_map, hp.size_eq, pairsOf_size]
  have s1 := Heap.SameBut.update s.heap kS (Obj.mapSeq fun _ => (#[] : Array Value))
  have na1 : (s.heap.update kS (Obj.mapSeq fun _ => (#[] : Array Value))).get? a = some (seqObj "list" #[] e1) := (s1.2 a hka.symm).trans ha
  have s2 := Heap.SameBut.update (s.heap.update kS (Obj.mapSeq fun _ => (#[] : Array Value))) a (Obj.mapSeq fun _ => (arrOf st).map (·.2))
  obtain ⟨c2, hc2⟩ : ∃ c2, ((s.heap.update kS (Obj.mapSeq fun _ => (#[] : Array Value))).update a (Obj.mapSeq fun _ => (arrOf st).map (·.2))).get? a = some (seqObj "list" ((arrOf st).map (·.2)) c2) :=
    ⟨_, get?_update_seq na1 fun _ => (arrOf st).map (·.2)⟩
  unfold ksk_tail
  try dsimp only
  refine wpAny_bind (listUpdate_at hk rfl ?_ (by rw [List.size_toArray]; exact hz) (Nat.zero_le _))
  refine wpAny_bind (wpAny_letGo ?_)
  refine wpAny_bind (seqEpoch_at na1 rfl ?_)
  simp only [Bool.false_eq_true, if_false]
  refine wpAny_bind (listUpdate_at na1 rfl ?_ (Nat.zero_le _) (Nat.le_trans (Nat.le_of_eq hout) (Nat.le_trans hz (Nat.le_succ _))))
  rw [hfl]
  simp only [bne_self_eq_false, Bool.false_eq_true, if_false]
  exact wpAny_pure (h _ c2 (fun b o h1 h2 eb => (s2.2 b h1).trans ((s1.2 b h2).trans eb)) hc2)
theorem kss_end {a kS : Addr} {vs : List Value} {ss : List Str} {e e1 : Nat} (hS : StrsAre vs ss) (hk : s.heap.get? kS = some (seqObj "list" vs.toArray e)) (ha : s.heap.get? a = some (seqObj "list" #[] e1)) (hka : kS ≠ a) (hz : vs.length ≤ sizeLine)
    (h : ∀ h' out ss' c, (∀ b o, b ≠ a → b ≠ kS → s.heap.get? b = some o → h'.get? b = some o) → h'.get? a = some (seqObj "list" out c) → StrsAre out.toList ss' → ss'.Perm ss → sortedS ss' = true → P (.done (.ret .none)) { s with heap := h' }) :
    wpAny (model prog w) A (ksk_end a false vs.toArray e1 (.ref kS) vs.toArray) P E s := by
  have hsz : vs.toArray.size = vs.length := by simp
  have fin : ∀ st : SortSt, (arrOf st).Perm (pairsOf vs) → failedOf st = none → SortedToK strKind (arrOf st) (pairsOf vs).size → wpAny (model prog w) A (ksk_tail a false e1 (.ref kS) st) P E s := by
    intro st hp hf hs
    obtain ⟨ss', h1, h2, h3⟩ := sorted_out_str hS hp hs
    exact kss_tail (keys := vs) (ss := ss) hk ha hka hz hp hf fun h' c keep hc => h h' _ ss' c keep hc h1 h2 h3
  unfold ksk_end
  try dsimp only
  simp only [Bool.false_eq_true, if_false]
  by_cases h2 : vs.toArray.size < 2
  · rw [if_pos h2, if_pos h2]
    refine wpAny_bind (wpAny_pure ?_)
    rw [StateT.run_pure]
    refine wpAny_bind (wpAny_pure ?_)
    try dsimp only
    refine fin (SortSt.mk' general' (vs.toArray.zip vs.toArray) #[] 7 none) (Array.Perm.refl _) rfl ?_
    intro i j hij hj
    have : i = j := by rw [pairsOf_size] at hj; omega
    subst this; exact KeyOrd.kle_refl _
  · rw [if_neg h2, if_neg h2]
    obtain ⟨v₁, v₂, rest, rfl⟩ : ∃ v₁ v₂ rest, vs = v₁ :: v₂ :: rest := by
      match vs, hsz, h2 with
      | [], _, h2 => simp at h2
      | [_], _, h2 => simp at h2
      | v₁ :: v₂ :: rest, _, _ => exact ⟨v₁, v₂, rest, rfl⟩
    rw [keyKind_strs hS]
    refine wpAny_bind (wpAny_pure ?_)
    refine wpAny_bind (wpAny_mono (wpS_sortRunsAny (κ := strKind) (a₀ := pairsOf (v₁ :: v₂ :: rest)) (st := SortSt.mk' oneType' ((v₁ :: v₂ :: rest).toArray.zip (v₁ :: v₂ :: rest).toArray) #[] 7 none)
      (Q := fun _ st' => (arrOf st').Perm (pairsOf (v₁ :: v₂ :: rest)) ∧ failedOf st' = none ∧ SortedToK strKind (arrOf st') (pairsOf (v₁ :: v₂ :: rest)).size)
      strKind_oneLt hS.keysOf ⟨Array.Perm.refl _, rfl, rfl⟩ rfl (by rw [pairsOf_size]; simp) fun st' a1 a2 a3 => ⟨a1, a2, a3⟩) ?_ fun _ _ e => e)
    rintro ⟨⟨⟩, st'⟩ s' ⟨rfl, hp, hf, hs⟩
    try dsimp only
    exact fin st' hp hf hs
theorem kss_sort {a : Addr} {vs : List Value} {ss : List Str} {n : Nat} (ho : s.heap.get? a = some (seqObj "list" vs.toArray n)) (hS : StrsAre vs ss) (hz : vs.length < sizeLine)
    (h : ∀ h' out ss' c, (∀ b o, b ≠ a → s.heap.get? b = some o → h'.get? b = some o) → h'.get? a = some (seqObj "list" out c) → StrsAre out.toList ss' → ss'.Perm ss → sortedS ss' = true → P (.done (.ret .none)) { s with heap := h' }) :
    wpAny (model prog w) A (ksk_tree a (.type "str") false) P E s := by
  have hz' : vs.length ≤ sizeLine := Nat.le_of_lt hz
  have ha : a < s.heap.objs.size := Heap.lt_size ho
  have s1 := Heap.SameBut.update s.heap a (Obj.mapSeq fun _ => (#[] : Array Value))
  obtain ⟨e1, ho1⟩ : ∃ e1, (s.heap.update a (Obj.mapSeq fun _ => (#[] : Array Value))).get? a = some (seqObj "list" #[] e1) := ⟨_, get?_update_seq ho fun _ => #[]⟩
  have hkS : ((s.heap.update a (Obj.mapSeq fun _ => (#[] : Array Value))).push (seqObj "tuple" vs.toArray 0)).objs.size = s.heap.objs.size + 1 := by rw [size_push', Heap.size_update]
  unfold ksk_tree
  refine wpAny_bind (listItems_at ho rfl ?_)
  refine wpAny_bind (listUpdate_at ho rfl ?_ (by rw [List.size_toArray]; exact hz') (Nat.zero_le _))
  refine wpAny_bind (seqEpoch_at ho1 rfl ?_)
  refine wpAny_bind (wpAny_newTuple ?_ (by show vs.length ≤ _; exact hz'))
  refine wpAny_bind (wpAny_newList ?_ (Nat.zero_le _))
  refine wpAny_holding ?_
  obtain ⟨g, hg⟩ : ∃ g, ((s.heap.update a (Obj.mapSeq fun _ => (#[] : Array Value))).push (seqObj "tuple" vs.toArray 0)).push (seqObj "list" #[] 0) = g := ⟨_, rfl⟩
  obtain ⟨kS, ek⟩ : ∃ kS, ((s.heap.update a (Obj.mapSeq fun _ => (#[] : Array Value))).push (seqObj "tuple" vs.toArray 0)).objs.size = kS := ⟨_, rfl⟩
  have hkg : g.get? kS = some (seqObj "list" #[] 0) := by rw [← hg, ← ek]; exact Heap.get?_push_size _ rfl
  have hag : g.get? a = some (seqObj "list" #[] e1) := by rw [← hg]; exact Heap.get?_push_of_some _ (Heap.get?_push_of_some _ ho1)
  have hka : kS ≠ a := by rw [← ek, hkS]; exact Nat.ne_of_gt (Nat.lt_succ_of_lt ha)
  have keep0 : ∀ b o, b ≠ a → s.heap.get? b = some o → g.get? b = some o ∧ b ≠ kS := fun b o hb eb =>
    ⟨by rw [← hg]; exact Heap.get?_push_of_some _ (Heap.get?_push_of_some _ ((s1.2 b hb).trans eb)), by rw [← ek, hkS]; exact Nat.ne_of_lt (Nat.lt_succ_of_lt (Heap.lt_size eb))⟩
  show wpAny (model prog w) _ (ksk_rest a (.type "str") false vs.toArray e1 (.ref ((s.heap.update a (Obj.mapSeq fun _ => (#[] : Array Value))).push (seqObj "tuple" vs.toArray 0)).objs.size)) P E { s with heap := ((s.heap.update a (Obj.mapSeq fun _ => (#[] : Array Value))).push (seqObj "tuple" vs.toArray 0)).push (seqObj "list" #[] 0) }
  rw [hg, ek]
  unfold ksk_rest
  refine wpAny_bind (wpAny_rule ?_)
  first
    | rw [List.forIn_toArray]
    | (rw [← Array.forIn_toList]; simp only [List.toList_toArray])
    | rw [← Array.forIn_toList]
  refine wpAny_bind (ksk_fold (fun i s' => ∃ h' e, s' = { s with heap := h' } ∧ (∀ b o, b ≠ kS → g.get? b = some o → h'.get? b = some o) ∧ h'.get? kS = some (seqObj "list" (vs.take i).toArray e)) vs 0 _
    ⟨g, 0, rfl, fun b o _ eb => eb, hkg⟩ ?step ?done)
  case step =>
    rintro j x s' hx ⟨h', e, rfl, keep, hk⟩
    simp only [Nat.zero_add] at hk ⊢
    have hj : j < vs.length := (List.getElem?_eq_some_iff.mp hx).1
    obtain ⟨z, t, rfl⟩ := hS.all x (List.mem_of_getElem? hx)
    refine wpAny_bind (wpAny_attempt (PySem.P.str_of_str ?_))
    try dsimp only
    have s2 := Heap.SameBut.update h' kS (Obj.mapSeq (·.push (.str z t)))
    obtain ⟨c2, hc2⟩ : ∃ c2, (h'.update kS (Obj.mapSeq (·.push (.str z t)))).get? kS = some (seqObj "list" ((vs.take j).toArray.push (.str z t)) c2) := ⟨_, get?_update_seq hk (·.push (.str z t))⟩
    have et : ((vs.take j).toArray.push (Value.str z t)) = (vs.take (j + 1)).toArray := by
      rw [List.take_add_one, hx]
      simp
    have hl : (vs.take j).length ≤ j := by rw [List.length_take]; omega
    refine wpAny_bind (listUpdate_at hk rfl ?_ (by rw [List.size_toArray]; omega) (by rw [Array.size_push, List.size_toArray]; omega))
    refine wpAny_pure ⟨rfl, _, c2, rfl, fun b o hb eb => (s2.2 b hb).trans (keep b o hb eb), by rw [hc2, et]⟩
  case done =>
    rintro s' ⟨h', e, rfl, keep, hk⟩
    have e3 : vs.take (0 + vs.length) = vs := List.take_of_length_le (by omega)
    rw [e3] at hk
    try dsimp only
    refine wpAny_bind (listItems_at hk rfl ?_)
    refine kss_end (s := { s with heap := h' }) hS hk (keep a _ hka.symm hag) hka hz' fun h2 out ss' c keep2 h21 h22 h23 h24 => h h2 out ss' c (fun b o hb eb => ?_) h21 h22 h23 h24
    obtain ⟨k1, k2⟩ := keep0 b o hb eb
    exact keep2 b o hb k2 (keep b o k2 k1)
end
end Ld
namespace Ld
open PySem PySem.Spec PyProof.Rows L2
section
variable {X : Cx}
/-- sorted(d, key=str) -/
def rSortedDK : List V → List V → Hp → VK → Prop := fun xs zs H Q => ∃ (a : Addr) (kvs : List (Key × V)) (ks : List Str), xs = [.ref a] ∧ zs = [.ty "str"] ∧ Rd H a (.dK kvs) ∧ kvs.map (·.1) = ks.map Sum.inr ∧ ks.length < sizeLine ∧
    ∀ ys p, ys.Perm ks → sortedS ys = true → H p = none → Q (.ref p) (upd H p (.lst (ys.map V.str)))
theorem cr_sortedDK (hcalm : X.calm = true) : CallRK X (.builtin "sorted") ["key"] rSortedDK := by
  intro pins s σ H xs zs us ws Q I r rz q
  obtain ⟨a, kvs, ks, rfl, rfl, hd, hks, h64, q⟩ := q
  obtain ⟨u, rfl, rx⟩ := vals1 r
  obtain ⟨u2, rfl, ru⟩ := vals1 rz
  cases rx
  cases (show u2 = Value.type "str" from ru)
  obtain ⟨z, lo, vs, rel, dd⟩ := dk_rd I.hok hd
  obtain ⟨ep, hat⟩ := dd.dictAt
  have hkeys : vs.map (·.1) = ks.map Sum.inr := rel.keys.symm.trans hks
  have hl : vs.length = ks.length := by
    have e := congrArg List.length hkeys
    rw [List.length_map, List.length_map] at e
    exact e
  have h16 : vs.length ≤ sizeLine := by rw [hl]; exact Nat.le_of_lt h64
  show wpAny _ _ (call (.builtin "sorted") [.ref a] [(Str.ofString "key", .type "str")]) _ _ _
  refine call_function_entry_kw kind_sorted plain_sorted entry_sorted (ksk_s1 _ _) ?_
  unfold Builtin.«sorted»
  refine wpAny_bind (m := checkCount "sorted" 1 1 _) (wpAny_pure ?_)
  refine wpAny_bind (PySem.W.kdu_collect (A := X.A.in1) (PySem.W.kdl_dict (knd := mixKind X.prog X.w) (kvs := vs) (ep := ep) lo) (I.ok.hd hcalm) hat h16 fun h' tk acc hk hacc => ?_)
  have hal : acc.toList.length = ks.length := by rw [Array.length_toList, hacc.1, hl]
  have hS : StrsAre acc.toList ks := strs_at hal fun j v e => by
    obtain ⟨k, x, e1, e2⟩ := hacc.2 j v (by rw [← Array.getElem?_toList]; exact e)
    have e3 : (vs.map (·.1))[j]? = some k := by rw [List.getElem?_map, e1]; all_goals rfl
    rw [hkeys, List.getElem?_map] at e3
    cases e4 : ks[j]? with
    | none => rw [e4] at e3; cases e3
    | some y =>
      rw [e4] at e3
      have e5 : Sum.inr y = k := Option.some.inj e3
      subst e5
      obtain ⟨t, ev⟩ := Value.isStrOf_shape (x := y) (v := v) e2
      exact ⟨y, t, rfl, ev⟩
  have I1 : Inv X pins σ H { s with heap := h', toks := tk } := I.kept hk
  refine wpAny_bind (wpAny_newList ?_ (by rw [hal]; exact Nat.le_of_lt h64))
  have hoL : (h'.push (seqObj "list" acc.toList.toArray 0)).get? h'.objs.size = some (seqObj "list" acc.toList.toArray 0) := Heap.get?_push_size _ rfl
  show wpAny _ _ _ _ _ { s with heap := h'.push (seqObj "list" acc.toList.toArray 0), toks := tk }
  refine wpAny_bind (wpAny_holding (wpAny_call_entry_kw slot_list_sort ⟨_, hoL, rfl⟩ entry_list_sort ?_ (ksk_l1 _ _)))
  rw [kss_t]
  refine kss_sort (s := { s with heap := h'.push (seqObj "list" acc.toList.toArray 0), toks := tk }) hoL hS (by rw [hal]; exact h64) fun h2 out ys c keep hc g1 g2 g3 => ⟨_, rfl, ?_⟩
  have hlen : (ys.map V.str).length ≤ sizeLine := by
    rw [List.length_map, g2.length_eq]
    exact Nat.le_of_lt h64
  refine wpAny_pure ⟨_, rfl, .ref h'.objs.size, upd H h'.objs.size (.lst (ys.map V.str)), I1.laid (t' := tk) (fun b u e => ?_) (Nat.le_refl _)
    (show ObjOk X.prog X.w _ _ _ (.lst (ys.map V.str)) from ⟨hlen, out.toList, c, vals_of_strs g1, by rw [Array.toArray_toList]; exact hc⟩), rfl, q ys _ g2 g3 (I1.hok.fresh (Nat.le_refl _))⟩
  have hb : b < h'.objs.size := Heap.lt_size e
  exact keep b _ (Nat.ne_of_lt hb) (Heap.get?_push_of_some _ e)
end
end Ld
namespace Ld
open PySem PySem.Spec PyProof.Rows L2
section
variable {J : It} {n : Nat} {G : Hp → Prop} {Y : Nat → Hp → V → Hp → Prop}
/-- a dict comprehension over a walk -/
theorem dc_it (w : Walk J n G Y) {g : TG} {tt : TT} {tk tv : TE} {vs : List Nat} {σ : L2.St} {H1 : Hp} {D : Addr} {Qd : Hp → Prop} (Pv : Nat → Hp → Prop) (h0 : Pv 0 (upd H1 D (.dK []))) (hG : ∀ i H, i ≤ n → Pv i H → G H)
    (hs : ∀ i x H H', i < n → Pv i H → Y i H x H' → g x (wipe σ vs) H' fun σ2 H2 => wipe σ2 vs = wipe σ vs ∧ tt σ2 H2 fun b H3 =>
      if b = true then tk σ2 H3 fun y H4 => tv σ2 H4 fun z H5 => ∃ kvs k, y = kV k ∧ H5 D = some (.dK kvs) ∧ kvs.length < sizeLine ∧ Pv (i + 1) (upd H5 D (.dK (putK kvs k z))) else Pv (i + 1) H3) (hd : ∀ H, Pv n H → Qd H) :
    ∃ W : Nat → Nat → Hp → Prop, (∃ m, W 0 m (upd H1 D (.dK []))) ∧ ∀ i m H, W i m H →
      (J.stop i H ∧ Qd H) ∨ (J.go i H ∧ ∃ Nx : Hp → Prop, (∀ H', Nx H' → ∃ m', m' < m ∧ W (i + 1) m' H') ∧ ∀ x H', J.yld i H x H' → g x (wipe σ vs) H' fun σ2 H2 => wipe σ2 vs = wipe σ vs ∧ tt σ2 H2 fun b H3 =>
        if b = true then tk σ2 H3 fun y H4 => tv σ2 H4 fun z H5 => ∃ kvs k, y = kV k ∧ H5 D = some (.dK kvs) ∧ kvs.length < sizeLine ∧ Nx (upd H5 D (.dK (putK kvs k z))) else Nx H3) := by
  refine ⟨fun i m H => m = n - i ∧ i ≤ n ∧ Pv i H, ⟨n, by simp, Nat.zero_le _, h0⟩, ?_⟩
  rintro i m H ⟨rfl, hi, p⟩
  have q := hG i H hi p
  by_cases hlt : i < n
  · refine .inr ⟨w.goes i H hlt q, Pv (i + 1), fun H' p' => ⟨n - (i + 1), by omega, rfl, hlt, p'⟩, fun x H' y => hs i x H H' hlt p (w.yields i H x H' hlt q y)⟩
  · have e : i = n := by omega
    subst e
    exact .inl ⟨w.stops H q, hd H p⟩
end
section
variable {X : Cx}
/-- name = {.. for ..} on one line, the name a local -/
theorem ps_setDc {i : Nat} {y : Str} {py : Pos} {kx vx tg iter : Expr} {ifs : List Expr} {scope : Scope} {own : List (Str × Nat)} {pos spos : Pos} {wi : TI} {g : TG} {tt : TT} {tk tv : TE} (hc : X.calm = true) (hN : X.N.Nodup) (hy : X.N[i]? = some y) (hyl : X.env.scope.names.lookup y = some .local)
    (hsw : swapsWith (.DictComp kx vx [⟨tg, iter, ifs, 0⟩] scope pos) (some (.Name y py)) spos.line X.env = pure true) (hi : PI X tg iter wi) (ok : BlkOk X.N X.env.scope scope own)
    (hg : ∀ (s : Shared) (H : Hp) (C : Addr) (cl : List (Str × Addr)) (fp : List Addr), PG (X.blk s H scope (compEnvC scope cl C X.env) fp) tg g) (ht : ∀ (s : Shared) (H : Hp) (C : Addr) (cl : List (Str × Addr)) (fp : List Addr), PTs (X.blk s H scope (compEnvC scope cl C X.env) fp) ifs tt)
    (hk : ∀ (s : Shared) (H : Hp) (C : Addr) (cl : List (Str × Addr)) (fp : List Addr), PE (X.blk s H scope (compEnvC scope cl C X.env) fp) kx tk)
    (he : ∀ (s : Shared) (H : Hp) (C : Addr) (cl : List (Str × Addr)) (fp : List Addr), PE (X.blk s H scope (compEnvC scope cl C X.env) fp) vx tv) (hs : ∀ x, foldedSetIterable iter X.env x = pure x := by intro _; rfl) :
    PS X (.Assign [.Name y py] (.DictComp kx vx [⟨tg, iter, ifs, 0⟩] scope pos) spos) (tAsg (tDc wi g tt tk tv (own.map (·.2))) (gName i)) := by
  refine ⟨fun pins s σ H D I h => ?_⟩
  rw [exec_Assign_Name_used _ _ _ _ hsw]
  refine wpAny_bind (wpAny_standAt (wpAny_bind ?_))
  show wpAny _ X.A (do let _ ← comprehension (.DictComp kx vx [⟨tg, iter, ifs, 0⟩] scope pos) scope X.env (firstIterPos [⟨tg, iter, ifs, 0⟩] pos) newDict false (eval iter X.env) (some (assign (.Name y py) X.env))) _ _ s
  have h : tDc wi g tt tk tv (own.map (·.2)) σ H (fun x H1 => gName i x σ H1 D.nx) := h
  refine wpAny_bind (thn (dc_core (Qf := fun _ s' => SP X pins D .next s') hc hN I hi ok hg ht hk he hs h fun L C s' m H' I' q hn f => ?_) fun _ s' hq => wpAny_pure (wpAny_pure hq))
  show wpAny _ _ (assign (.Name y py) X.env (.ref L)) _ _ _
  refine wpAny_assign_Name (store_ok2 (v := V.ref L) I' hN hy (.inl hyl) rfl (fun s2 I2 ⟨a, sb, ha⟩ => ?_) (.inr hyl))
  obtain ⟨f0, f1, f2, f3, f4, f5⟩ := f
  have haC : C ≠ a := by
    rcases ha with z | z
    · rw [z]; exact f1
    · exact fun e => f4 y a z e.symm
  refine ⟨m, hn.sameBut sb haC, fun h3 sb3 => ?_⟩
  exact ⟨_, H', I2.turned (t' := s2.toks) (fun b o hb e => (sb3.2 b hb).trans e) f0 f1 f3 f4 f5, q⟩
theorem sw_trueD {kx vx : Expr} {gs : List Comprehension} {scope : Scope} {pos py : Pos} {y : Str} {l : Nat} {env : Env} (hk : env.scope.kind = .function) (hy : env.scope.names.lookup y = some .local) (hl : (py.line == pos.line) = true)
    (ha : (scope.names.any fun (n, k) => n == y && (k == .local || k == .cell)) = false) : swapsWith (.DictComp kx vx gs scope pos) (some (.Name y py)) l env = pure true := by
  have ky : env.kindOf y = some .local := hy
  have hb : env.blockKind = .function := by unfold Env.blockKind; rw [hk]; rfl
  unfold swapsWith
  simp only [hb, ky, ha, Expr.pos, hl]
  rfl
end
end Ld
namespace Ld
open PySem PySem.Spec PyProof.Rows L2
abbrev sIsInt : Stmt := top 3
abbrev sIsWord : Stmt := top 4
abbrev sAsc : Stmt := top 5
theorem bSorted : bootBuiltins "sorted" = some (.builtin "sorted") := by decide +kernel
theorem bIsi : bootBuiltins "isinstance" = some (.builtin "isinstance") := by decide +kernel
theorem bBool : bootBuiltins "bool" = some (.type "bool") := by decide +kernel
theorem bAll : bootBuiltins "all" = some (.builtin "all") := by decide +kernel
/-- more names that are the built-ins' own -/
structure Blt2 (mg : Str → Option Value) : Prop where
  str : mg "str" = none
  bool : mg "bool" = none
  sorted : mg "sorted" = none
  isi : mg "isinstance" = none
  all : mg "all" = none
  dict : mg "dict" = none
/-- the keys of a dict, all texts -/
def keysOf (kvs : List (Key × V)) (ks : List Str) : Prop := kvs.map (·.1) = ks.map Sum.inr ∧ ks.Nodup
theorem keysOf.len {kvs : List (Key × V)} {ks : List Str} (h : keysOf kvs ks) : kvs.length = ks.length := by
  have e := congrArg List.length h.1
  rw [List.length_map, List.length_map] at e
  exact e
theorem keysOf.at {kvs : List (Key × V)} {ks : List Str} (h : keysOf kvs ks) {i : Nat} {k : Key} {v : V} (e : kvs[i]? = some (k, v)) : ∃ z, k = Sum.inr z ∧ ks[i]? = some z := by
  have e2 : (kvs.map (·.1))[i]? = some k := by rw [List.getElem?_map, e]; rfl
  rw [h.1, List.getElem?_map] at e2
  cases e3 : ks[i]? with
  | none => rw [e3] at e2; cases e2
  | some z => rw [e3] at e2; exact ⟨z, (Option.some.inj e2).symm, rfl⟩
theorem valV_none {kvs : List (Key × V)} {k : Key} (h : k ∉ kvs.map (·.1)) : valV kvs k = none := by
  unfold valV
  rw [List.find?_eq_none.mpr (fun x hx => ?_)]
  · rfl
  · simp only [decide_eq_true_eq]
    exact fun e => h (List.mem_map.mpr ⟨x, hx, e⟩)
theorem not_in_take {ks : List Str} (nd : ks.Nodup) {i : Nat} {z : Str} (e : ks[i]? = some z) : z ∉ ks.take i := by
  intro h
  obtain ⟨j, hj, ej⟩ := List.getElem_of_mem h
  have hji : j < i := by rw [List.length_take] at hj; omega
  obtain ⟨hi, ei⟩ := List.getElem?_eq_some_iff.mp e
  rw [List.getElem_take] at ej
  have := (List.getElem_inj nd).mp (ej.trans ei.symm)
  omega
def spAsc : Sp := fun vs H Q _ => ∃ (a : Addr) (kvs : List (Key × V)) (ks : List Str), vs = [.ref a] ∧ H a = some (.dK kvs) ∧ keysOf kvs ks ∧ ks.length ≤ 1000 ∧
  ∀ H' p ys, Same H H' → H p = none → H' p = some (.lst (ys.map V.str)) → ys.Perm ks → sortedS ys = true → Q (.ref p) H'
section
variable {P : Program} {w : World} {K : PySem.W.Frag} {mg : Str → Option Value} {base : Heap}
abbrev nAsc : List Str := ["words", "found", "word"]
theorem scAsc : FnScope nAsc ["words"] (defScope sAsc) := ⟨rfl, rfl, rfl, by decide +kernel, rfl, by decide +kernel, by decide +kernel⟩
theorem ok_asc {f : Addr} {fd : FuncData} (F : Fun K "ascending" "ascending" sAsc f fd) (B : Blt2 mg) : FnOk P w K mg base CX0 1 f fd ["words"] spAsc := by
  refine F.ok scAsc (fun vs H Q E h => ?_) (fun cdv A outer s H vs Q E hr h => ?_)
  · obtain ⟨a, kvs, ks, rfl, _⟩ := h
    rfl
  · obtain ⟨a, kvs, ks, rfl, ha, hk, hl, k⟩ := h
    have nd : nAsc.Nodup := scAsc.nd
    refine ⟨_, pss_cons (ps_lock (ps_setDc (i := 1) (own := [("word", 2)]) (g := gName 2) (tt := tYes) rfl nd rfl rfl (sw_trueD rfl rfl rfl (by decide +kernel)) (pi_keys (pv 0)) (blkOk_by (N := nAsc) (sc := defScope sAsc) (by decide +kernel))
        (fun _ _ _ _ _ => pg_name (i := 2) nd rfl (Or.inl rfl)) (fun _ _ _ _ _ => pts_nil) (fun _ _ _ _ _ => pv 2) (fun _ _ _ _ _ => pe_bl)))
      (pss_one (ps_ret (pe_callBK (cr_sortedDK rfl) (by rfl) B.sorted bSorted (pa_cons (pv 1) pa_nil) (pk_cons (pe_bltn (v := .ty "str") (by rfl) B.str bStr0 rfl) pk_nil)))), ?_⟩
    refine seq_step (fun σ' H' => ∃ (D : Addr) (es : List (Key × V)), σ' = [some (.ref a), some (.ref D), none] ∧ H' D = some (.dK es) ∧ es.map (·.1) = ks.map Sum.inr ∧ Same H H' ∧ H D = none) (fun R hR => ?_) (fun σ1 H1 h1 => ?_)
    · refine ⟨a, _, ha, trivial, fun od => ⟨_, rfl, a, od, rfl, .inl ⟨kvs, upd_same, fun D hD => ?_⟩⟩⟩
      have nDa : D ≠ a := fun e => by rw [e, upd_same] at hD; cases hD
      have hD0 : H D = none := by rw [upd_ne nDa] at hD; exact hD
      refine dc_it (walk_keys (d := a) (o := od) (kvs := kvs)) (fun i H' => ∃ es : List (Key × V), H' D = some (.dK es) ∧ es.map (·.1) = (ks.take i).map Sum.inr ∧ H' a = some (.frz od (.dK kvs)) ∧ ∀ b o, H b = some o → b ≠ a → H' b = some o)
        ⟨[], upd_same, rfl, by rw [upd_ne nDa.symm, upd_same], fun b o eb nb => by rw [upd_ne (ne_of_none eb hD0), upd_ne nb]; exact eb⟩ (fun i H' _ ⟨es, _, _, e, _⟩ => e) ?_ ?_
      · rintro i x H2 H3 hi ⟨es, eD, ek, ea, keep⟩ ⟨rfl, key, v, hkv, rfl⟩
        obtain ⟨z, rfl, hz⟩ := hk.at hkv
        refine ⟨rfl, _, rfl, es, Sum.inr z, rfl, eD, ?_, _, upd_same, ?_, by rw [upd_ne nDa.symm]; exact ea, fun b o eb nb => by rw [upd_ne (ne_of_none eb hD0)]; exact keep b o eb nb⟩
        · have := congrArg List.length ek
          rw [List.length_map, List.length_map, List.length_take] at this
          exact Nat.lt_of_le_of_lt (by omega : es.length ≤ 1000) (by decide)
        · have hn : (Sum.inr z : Key) ∉ es.map (·.1) := by
            rw [ek]
            intro hm
            obtain ⟨y, hy, e⟩ := List.mem_map.mp hm
            exact not_in_take hk.2 hz (Sum.inr.inj e ▸ hy)
          rw [putK_new _ (valV_none hn), List.map_append, ek, List.take_add_one, hz]
          simp
      · rintro H2 ⟨es, eD, ek, ea, keep⟩
        refine ⟨ea, hR _ _ ⟨D, es, rfl, by rw [upd_ne nDa]; exact eD, ?_, fun b o eb => ?_, hD0⟩⟩
        · rw [ek, hk.len, List.take_of_length_le (Nat.le_refl _)]
        · by_cases e : b = a
          · rw [e, upd_same, ← ha, ← e, eb]
          · rw [upd_ne e]
            exact keep b o eb e
    obtain ⟨D, es, rfl, eD, ek, same, hD0⟩ := h1
    refine ⟨_, rfl, D, es, ks, rfl, rfl, .inl eD, ek, Nat.lt_of_le_of_lt hl (by decide), fun ys p perm srt hp => ?_⟩
    have hpH : H p = none := by
      cases e : H p with
      | none => rfl
      | some o => rw [same _ _ e] at hp; cases hp
    exact k _ p ys (fun b o eb => by rw [upd_ne (ne_of_none (same _ _ eb) hp)]; exact same _ _ eb) hpH upd_same perm srt
end
end Ld
namespace Ld
open PySem PySem.Spec PyProof.Rows L2
def spIsInt (K : PySem.W.Frag) : Sp := fun vs H Q _ => ∃ (x : V) (t : Value) (b1 b2 : Bool), vs = [x] ∧ TyX K H x t ∧ PySem.W.kitOne K t (.type "int") = some b1 ∧ PySem.W.kitOne K t (.type "bool") = some b2 ∧ Q (.bl (b1 && !b2)) H
theorem isInt_int {K : PySem.W.Frag} {E : Value → Option Addr → Hp → Prop} {i : Int} {H : Hp} {Q : VK} (q : Q (.bl true) H) : spIsInt K [.int i] H Q E :=
  ⟨.int i, .type "int", true, false, rfl, .base (.int i), kit_ty (by decide +kernel), kit_ty (by decide +kernel), q⟩
/-- a letter from a to z -/
def azB (c : Nat) : Bool := decide (97 ≤ c) && decide (c ≤ 122)
def wordB (z : Str) : Bool := decide (1 ≤ z.length) && decide (z.length ≤ 8) && z.cps.toList.all azB
theorem Wd.word {z : Str} (h : Wd 1 8 z) : wordB z = true := by
  unfold wordB
  rw [Bool.and_eq_true, Bool.and_eq_true, decide_eq_true_eq, decide_eq_true_eq, List.all_eq_true]
  refine ⟨⟨h.l0, h.l1⟩, fun c hc => ?_⟩
  have := h.az c hc
  unfold azB
  rw [Bool.and_eq_true, decide_eq_true_eq, decide_eq_true_eq]
  exact this
theorem wordB_len {z : Str} (h : wordB z = true) : 1 ≤ z.length ∧ z.length ≤ 8 := by
  unfold wordB at h
  rw [Bool.and_eq_true, Bool.and_eq_true, decide_eq_true_eq, decide_eq_true_eq] at h
  exact h.1
def spIsWord (K : PySem.W.Frag) : Sp := fun vs H Q _ => ∃ x, vs = [x] ∧ ((∃ z : Str, x = .str z ∧ z.length ≤ sizeLine ∧ ∀ H', Same H H' → Q (.bl (wordB z)) H') ∨
  ∃ t, TyX K H x t ∧ PySem.W.kitOne K t (.type "str") = some false ∧ Q (.bl false) H)
theorem lt_one (a c : Nat) : decide ([a] < [c]) = decide (a < c) := by
  apply decide_eq_decide.mpr
  constructor
  · intro h
    rcases List.cons_lt_cons_iff.mp h with h | ⟨_, h⟩
    · exact h
    · exact absurd h (by simp)
  · intro h
    exact List.cons_lt_cons_iff.mpr (.inl h)
theorem az_chain (c : Nat) : (if (!decide (c < 97)) = true then (!decide (122 < c)) else false) = azB c := by
  unfold azB
  by_cases h : 97 ≤ c
  · have h1 : ¬ c < 97 := by omega
    by_cases h2 : c ≤ 122
    · have h3 : ¬ 122 < c := by omega
      simp [h, h1, h2, h3]
    · have h3 : 122 < c := by omega
      simp [h, h1, h2, h3]
  · have h1 : c < 97 := by omega
    simp [h, h1]
section
variable {P : Program} {w : World} {K : PySem.W.Frag} {mg : Str → Option Value} {base : Heap}
theorem scIsInt : FnScope ["value"] ["value"] (defScope sIsInt) := ⟨rfl, rfl, rfl, by decide +kernel, rfl, by decide +kernel, by decide +kernel⟩
theorem ok_isInt {f : Addr} {fd : FuncData} (F : Fun K "is_integer" "is_integer" sIsInt f fd) (B : Blt2 mg) (mInt : mg "int" = none) : FnOk P w K mg base CX0 1 f fd ["value"] (spIsInt K) := by
  refine F.ok scIsInt (fun vs H Q E h => ?_) (fun cdv A outer s H vs Q E hr h => ?_)
  · obtain ⟨x, _, _, _, rfl, _⟩ := h
    rfl
  · obtain ⟨x, t, b1, b2, rfl, ty, k1, k2, q⟩ := h
    refine ⟨_, pss_one (ps_ret (pe_and (pe_callB call_isi (by rfl) B.isi bIsi (pa_cons (pv 0) (pa_cons (pe_bltn (v := .ty "int") (by rfl) mInt bInt rfl) pa_nil)))
      (pe_one (pe_not (pe_callB call_isi (by rfl) B.isi bIsi (pa_cons (pv 0) (pa_cons (pe_bltn (v := .ty "bool") (by rfl) B.bool bBool rfl) pa_nil))))))), ?_⟩
    refine ⟨_, rfl, x, _, t, _, b1, rfl, .ty _, ty, k1, b1, rfl, ifb (fun e => ?_) (fun e => ?_)⟩
    · subst e
      exact ⟨_, rfl, x, _, t, _, b2, rfl, .ty _, ty, k2, b2, rfl, q⟩
    · subst e
      exact q
abbrev nIsWord : List Str := ["value", "letter"]
theorem scIsWord : FnScope nIsWord ["value"] (defScope sIsWord) := ⟨rfl, rfl, rfl, by decide +kernel, rfl, by decide +kernel, by decide +kernel⟩
theorem ok_isWord {f : Addr} {fd : FuncData} (F : Fun K "is_word" "is_word" sIsWord f fd) (B : Blt2 mg) (mLen : mg "len" = none) (mMost : ∃ t, mg "MOST_LETTERS" = some (.int 8 t)) : FnOk P w K mg base CX0 1 f fd ["value"] (spIsWord K) := by
  obtain ⟨t8, mMost⟩ := mMost
  refine F.ok scIsWord (fun vs H Q E h => ?_) (fun cdv A outer s H vs Q E hr h => ?_)
  · obtain ⟨x, rfl, _⟩ := h
    rfl
  · obtain ⟨x, rfl, h⟩ := h
    have nd : nIsWord.Nodup := scIsWord.nd
    refine ⟨_, pss_cons (ps_if (PW.pt (pw_or (pt_not (pt_truth (pe_callB call_isi (by rfl) B.isi bIsi (pa_cons (pv 0) (pa_cons (pe_bltn (v := .ty "str") (by rfl) B.str bStr0 rfl) pa_nil))) (fun _ => rfl)))
        (pw_or1 (pt_not (pt_chain op_le op_le pe_int (pe_callB call_len_str (by rfl) mLen PySem.boot_len (pa_cons (pv 0) pa_nil)) (pe_glob (v := .int 8) (by rfl) mMost ⟨_, rfl⟩)))))) (pss_one (ps_ret pe_bl)) pss_nil)
      (pss_one (ps_ret (pe_callB (cr_all rfl) (by rfl) B.all bAll (pa_cons (pe_lc (own := [("letter", 1)]) (g := gName 1) (tt := tYes) rfl nd (pi_str (pv 0)) (blkOk_by (N := nIsWord) (sc := defScope sIsWord) (by decide +kernel))
        (fun _ _ _ _ _ => pg_name (i := 1) nd rfl (Or.inl rfl)) (fun _ _ _ _ _ => pts_nil) (fun _ _ _ _ _ => pe_chain op_le_str op_le_str pe_str (pv 1) pe_str)) pa_nil)))), ?_⟩
    rcases h with ⟨z, rfl, hz, k⟩ | ⟨t, ty, kt, q⟩
    · refine ⟨_, rfl, _, _, _, _, true, rfl, .ty _, .base (.str z), kit_ty (by decide +kernel), true, rfl, ?_⟩
      have qF : wordB z = false → Q (.bl false) H := fun e => by
        have := k H (fun _ _ e => e)
        rw [e] at this
        exact this
      refine ⟨_, rfl, _, rfl, hz, _, _, rfl, rfl, _, rfl, ifd (fun c1 => ?_) (fun c1 => ?_)⟩
      · refine ⟨_, _, rfl, rfl, _, rfl, ifb (fun c2 => ?_) (fun c2 => ?_)⟩
        · rw [Bool.not_eq_true', decide_eq_false_iff_not] at c2
          refine qF ?_
          cases e : wordB z with
          | false => rfl
          | true =>
            have := wordB_len e
            omega
        · rw [Bool.not_eq_false', decide_eq_true_eq] at c2
          refine ⟨_, rfl, z, rfl, fun D hD => ?_⟩
          refine lc_it walk_str (fun i H' => H' D = some (.lst ((z.cps.toList.take i).map fun c => V.bl (azB c))) ∧ Same H H') ⟨upd_same, same_new hD⟩ (fun _ _ _ _ => trivial) ?_ ?_
          · rintro i x H2 H3 hi ⟨eD, same⟩ ⟨rfl, ch, hch, rfl⟩
            have hch2 : z.cps.toList[i]? = some ch := by rw [Array.getElem?_toList]; exact hch
            have nx : ∀ b : Bool, b = azB ch → ∃ acc, H3 D = some (.lst acc) ∧ acc.length < sizeLine ∧ (upd H3 D (.lst (acc ++ [V.bl b]))) D = some (.lst ((z.cps.toList.take (i + 1)).map fun c => V.bl (azB c))) ∧ Same H (upd H3 D (.lst (acc ++ [V.bl b]))) := by
              rintro b rfl
              refine ⟨_, eD, ?_, ?_, fun b o eb => by rw [upd_ne (ne_of_none eb hD)]; exact same _ _ eb⟩
              · rw [List.length_map, List.length_take]
                have : z.cps.size = z.length := rfl
                exact Nat.lt_of_le_of_lt (by omega : _ ≤ 8) (by decide)
              · rw [upd_same, List.take_add_one, hch2]
                simp
            refine ⟨rfl, _, rfl, _, _, rfl, rfl, _, rfl, ?_⟩
            have e1 : decide ((⟨#[ch]⟩ : Str).cps.toList < (("a" : Str)).cps.toList) = decide (ch < 97) := lt_one ch 97
            have e2 : decide ((("z" : Str)).cps.toList < (⟨#[ch]⟩ : Str).cps.toList) = decide (122 < ch) := lt_one 122 ch
            have ech := az_chain ch
            refine ifb (fun c3 => ?_) (fun c3 => ?_)
            · rw [e1] at c3
              rw [if_pos c3] at ech
              exact ⟨_, _, rfl, rfl, nx _ (by rw [← ech, e2])⟩
            · rw [e1] at c3
              rw [if_neg (by rw [c3]; decide)] at ech
              exact nx _ ech
          · rintro H2 ⟨eD, same⟩
            have eA : (z.cps.toList.take z.cps.size).map (fun c => V.bl (azB c)) = (z.cps.toList.map azB).map V.bl := by
              have : z.cps.toList.length = z.cps.size := Array.length_toList
              rw [List.take_of_length_le (by omega), List.map_map]
              rfl
            rw [eA] at eD
            refine ⟨D, _, rfl, .inl (.inl eD), ?_⟩
            have e : (z.cps.toList.map azB).all id = wordB z := by
              unfold wordB
              have c0 : 1 ≤ z.length := by omega
              rw [decide_eq_true c0, decide_eq_true (by omega : z.length ≤ 8), List.all_map]
              rfl
            have := k H2 same
            rw [← e] at this
            exact this
      · refine ⟨_, rfl, ?_⟩
        refine qF ?_
        cases e : wordB z with
        | false => rfl
        | true =>
          have := wordB_len e
          omega
    · refine ⟨_, rfl, x, _, t, _, false, rfl, .ty _, ty, kt, false, rfl, ?_⟩
      exact q
end
end Ld
namespace Ld
open PySem PySem.Spec PyProof.Rows L2
/-! ### what is never reached -/
theorem ps_never {X : Cx} {st : Stmt} : PS X st (fun _ _ _ => False) := ⟨fun _ _ _ _ _ _ h => False.elim h⟩
/-! ### counts -/
def cD (ps : List (Str × Int)) : List (Key × V) := ps.map fun p => (Sum.inr p.1, V.int p.2)
def ctO (ps : List (Str × Int)) (z : Str) : Option Int := (ps.find? fun p => decide (p.1 = z)).map (·.2)
def ct (ps : List (Str × Int)) (z : Str) : Int := (ctO ps z).getD 0
theorem valV_cD (ps : List (Str × Int)) (z : Str) : valV (cD ps) (Sum.inr z : Key) = (ctO ps z).map V.int := by
  unfold valV ctO cD
  induction ps with
  | nil => rfl
  | cons p r ih =>
    rw [List.map_cons, List.find?_cons, List.find?_cons]
    by_cases h : p.1 = z
    · rw [decide_eq_true (by rw [h] : (Sum.inr p.1 : Key) = Sum.inr z), decide_eq_true h]
      rfl
    · rw [decide_eq_false (fun e => h (Sum.inr.inj e)), decide_eq_false h]
      exact ih
theorem ctO_some {ps : List (Str × Int)} {z : Str} (h : z ∈ ps.map (·.1)) : ctO ps z = some (ct ps z) := by
  unfold ct
  cases e : ctO ps z with
  | some i => rfl
  | none =>
    exfalso
    unfold ctO at e
    rw [Option.map_eq_none_iff, List.find?_eq_none] at e
    obtain ⟨p, hp, rfl⟩ := List.mem_map.mp h
    exact e p hp (decide_eq_true rfl)
theorem ctO_none {ps : List (Str × Int)} {z : Str} (h : z ∉ ps.map (·.1)) : ctO ps z = none := by
  unfold ctO
  rw [Option.map_eq_none_iff, List.find?_eq_none]
  intro p hp e
  exact h (List.mem_map.mpr ⟨p, hp, of_decide_eq_true e⟩)
theorem cD_keys (ps : List (Str × Int)) : (cD ps).map (·.1) = (ps.map (·.1)).map Sum.inr := by
  unfold cD
  rw [List.map_map, List.map_map]
  rfl
theorem cD_len (ps : List (Str × Int)) : (cD ps).length = ps.length := List.length_map ..
theorem cD_put {ps : List (Str × Int)} {z : Str} {i : Int} (h : z ∉ ps.map (·.1)) : putK (cD ps) (Sum.inr z : Key) (.int i) = cD (ps ++ [(z, i)]) := by
  rw [putK_new]
  · unfold cD
    rw [List.map_append]
    rfl
  · rw [valV_cD, ctO_none h]
    rfl
/-- the counts other than 0, in the order of ys -/
def tidy (ps : List (Str × Int)) (ys : List Str) : List (Str × Int) := (ys.map fun z => (z, ct ps z)).filter fun q => q.2 != 0
def spCheck : Sp := fun vs H Q _ => ∃ (a : Addr) (ps : List (Str × Int)), vs = [.ref a] ∧ H a = some (.dK (cD ps)) ∧ (ps.map (·.1)).Nodup ∧ ps.length ≤ 1000 ∧ (∀ p ∈ ps, wordB p.1 = true) ∧
  ∀ H', Same H H' → Q .non H'
def spTidy : Sp := fun vs H Q _ => ∃ (a : Addr) (ps : List (Str × Int)), vs = [.ref a] ∧ H a = some (.dK (cD ps)) ∧ (ps.map (·.1)).Nodup ∧ ps.length ≤ 1000 ∧
  ∀ H' p ys, Same H H' → H p = none → ys.Perm (ps.map (·.1)) → sortedS ys = true → H' p = some (.dK (cD (tidy ps ys))) → Q (.ref p) H'
abbrev sCheck : Stmt := top 15
abbrev sTidy : Stmt := top 16
section
variable {P : Program} {w : World} {K : PySem.W.Frag} {mg : Str → Option Value} {base : Heap}
abbrev nCheck : List Str := ["counts", "kind"]
theorem scCheck : FnScope nCheck ["counts"] (defScope sCheck) := ⟨rfl, rfl, rfl, by decide +kernel, rfl, by decide +kernel, by decide +kernel⟩
theorem scTidy : FnScope nCheck ["counts"] (defScope sTidy) := ⟨rfl, rfl, rfl, by decide +kernel, rfl, by decide +kernel, by decide +kernel⟩
theorem ok_check {f : Addr} {fd : FuncData} (F : Fun K "check_counts" "check_counts" sCheck f fd) (HA : Has P w K mg base 1 "ascending" ["words"] spAsc) (HW : Has P w K mg base 1 "is_word" ["value"] (spIsWord K)) (HI : Has P w K mg base 1 "is_integer" ["value"] (spIsInt K)) :
    FnOk P w K mg base CX0 2 f fd ["counts"] spCheck := by
  obtain ⟨g1, gd1, G1, b1, m1, k1⟩ := HA
  obtain ⟨g2, gd2, G2, b2, m2, k2⟩ := HW
  obtain ⟨g3, gd3, G3, b3, m3, k3⟩ := HI
  refine F.ok scCheck (fun vs H Q E h => ?_) (fun cdv A outer s H vs Q E hr h => ?_)
  · obtain ⟨a, ps, rfl, _⟩ := h
    rfl
  · obtain ⟨a, ps, rfl, ha, nk, hl, hw, k⟩ := h
    have nd : nCheck.Nodup := scCheck.nd
    refine ⟨_, pss_one (ps_for PassesOwn.never rfl (pi_list (pe_call G1 hr (by rfl) m1 k1 b1 .nil pass0 (pa_cons (pv 0) pa_nil))) (pg_name (i := 1) nd rfl (Or.inl rfl))
      (pss_one (ps_if (PW.pt (pw_or (pt_not (pt_truth (pe_call G2 hr (by rfl) m2 k2 b2 .nil pass0 (pa_cons (pv 1) pa_nil)) (fun _ => rfl)))
        (pw_or1 (pt_not (pt_truth (pe_call G3 hr (by rfl) m3 k3 b3 .nil pass0 (pa_cons (pe_dget (hu_of hr) (pv 0) (pv 1) (fun _ _ => rfl)) pa_nil)) (fun _ => rfl)))))) (pss_one ps_never) pss_nil))), ?_⟩
    refine ⟨_, rfl, a, cD ps, ps.map (·.1), rfl, ha, ⟨cD_keys ps, nk⟩, by rw [List.length_map]; exact hl, fun H1 p ys same1 hp0 hp perm srt => ?_⟩
    refine ⟨p, rfl, ⟨_, .inl (.inl hp)⟩, for_list (xs := ys.map V.str) (fun i σ H' => (∃ x, σ = [some (.ref a), x]) ∧ Same H1 H') ⟨⟨_, rfl⟩, fun _ _ e => e⟩ (fun i σ H' _ h => .inl (.inl (h.2 _ _ hp))) ?_ ?_⟩
    · rintro i x σ H2 hx ⟨⟨x0, rfl⟩, same2⟩
      obtain ⟨z, hz, rfl⟩ := List.mem_map.mp (List.mem_of_getElem? hx)
      have hz2 : z ∈ ps.map (·.1) := perm.mem_iff.mp hz
      obtain ⟨q, hq, eq⟩ := List.mem_map.mp hz2
      have hwz : wordB z = true := by rw [← eq]; exact hw q hq
      refine ⟨_, rfl, .str z, rfl, .inl ⟨z, rfl, Nat.le_trans (wordB_len hwz).2 (by decide), fun H3 same3 => ?_⟩⟩
      rw [hwz]
      have ha3 : H3 a = some (.dK (cD ps)) := same3 _ _ (same2 _ _ (same1 _ _ ha))
      refine ⟨true, rfl, ?_⟩
      refine ⟨_, rfl, _, rfl, a, .int (ct ps z), rfl, .inl ⟨cD ps, Sum.inr z, .inl ha3, rfl, ?_⟩, ?_⟩
      · rw [valV_cD, ctO_some hz2]
        rfl
      · exact ⟨.int (ct ps z), .type "int", true, false, rfl, .base (.int _), kit_ty (by decide +kernel), kit_ty (by decide +kernel), true, rfl, ⟨_, rfl⟩, fun b o e => same3 _ _ (same2 _ _ e)⟩
    · rintro σ H2 ⟨⟨x0, rfl⟩, same2⟩
      exact k _ fun b o e => same2 _ _ (same1 _ _ e)
theorem ok_tidy {f : Addr} {fd : FuncData} (F : Fun K "tidy_counts" "tidy_counts" sTidy f fd) (HA : Has P w K mg base 1 "ascending" ["words"] spAsc) :
    FnOk P w K mg base CX0 2 f fd ["counts"] spTidy := by
  obtain ⟨g1, gd1, G1, b1, m1, k1⟩ := HA
  refine F.ok scTidy (fun vs H Q E h => ?_) (fun cdv A outer s H vs Q E hr h => ?_)
  · obtain ⟨a, ps, rfl, _⟩ := h
    rfl
  · obtain ⟨a, ps, rfl, ha, nk, hl, k⟩ := h
    have nd : nCheck.Nodup := scTidy.nd
    refine ⟨_, pss_one (ps_ret (pe_dc (own := [("kind", 1)]) (g := gName 1) rfl nd (pi_list (pe_call G1 hr (by rfl) m1 k1 b1 .nil pass0 (pa_cons (pv 0) pa_nil))) (blkOk_by (N := nCheck) (sc := defScope sTidy) (by decide +kernel))
        (fun _ _ _ _ _ => pg_name (i := 1) nd rfl (Or.inl rfl)) (fun _ _ _ _ _ => pts_one (pt_cmpR op_ne (pe_dget (hu_of hr) (pv 0) (pv 1) (fun _ _ => rfl)) pe_int (nomark _))) (fun _ _ _ _ _ => pv 1) (fun _ _ _ _ _ => pe_dget (hu_of hr) (pv 0) (pv 1) (fun _ _ => rfl)))), ?_⟩
    refine ⟨_, rfl, a, cD ps, ps.map (·.1), rfl, ha, ⟨cD_keys ps, nk⟩, by rw [List.length_map]; exact hl, fun H1 p ys same1 hp0 hp perm srt => ?_⟩
    have ndy : ys.Nodup := perm.nodup_iff.mpr nk
    refine ⟨p, rfl, ⟨_, .inl (.inl hp)⟩, fun D hD => ?_⟩
    refine dc_it (walk_list (xs := ys.map V.str)) (fun i H' => H' D = some (.dK (cD (tidy ps (ys.take i)))) ∧ Same H1 H') ⟨upd_same, same_new hD⟩ (fun i H' _ h => .inl (.inl (h.2 _ _ hp))) ?_ ?_
    · rintro i x H2 H3 hi ⟨eD, same2⟩ ⟨rfl, hx⟩
      rw [List.getElem?_map] at hx
      obtain ⟨z, hz, rfl⟩ : ∃ z, ys[i]? = some z ∧ x = V.str z := by
        cases e : ys[i]? with
        | none => rw [e] at hx; cases hx
        | some z => rw [e] at hx; exact ⟨z, rfl, (Option.some.inj hx).symm⟩
      have hz2 : z ∈ ps.map (·.1) := perm.mem_iff.mp (List.mem_of_getElem? hz)
      have ha3 : H3 a = some (.dK (cD ps)) := same2 _ _ (same1 _ _ ha)
      have hget : DGet H3 a (.str z) (some (.int (ct ps z))) := .inl ⟨cD ps, Sum.inr z, .inl ha3, rfl, by rw [valV_cD, ctO_some hz2]; rfl⟩
      have et : tidy ps (ys.take (i + 1)) = tidy ps (ys.take i) ++ (if ct ps z != 0 then [(z, ct ps z)] else []) := by
        unfold tidy
        rw [List.take_add_one, hz, List.map_append, List.filter_append]
        congr 1
        show List.filter _ [(z, ct ps z)] = _
        rw [List.filter_cons]
        rfl
      refine ⟨rfl, _, rfl, _, rfl, a, _, rfl, hget, rfl, _, rfl, ifb (fun c => ?_) (fun c => ?_)⟩
      · have cz : (ct ps z != 0) = true := by
          rw [bne_iff_ne]
          intro e
          rw [e] at c
          revert c
          decide +kernel
        refine ⟨_, rfl, _, rfl, _, rfl, a, _, rfl, hget, _, Sum.inr z, rfl, eD, ?_, ?_, fun b o eb => by rw [upd_ne (ne_of_none eb hD)]; exact same2 _ _ eb⟩
        · rw [cD_len]
          have h1 : (tidy ps (ys.take i)).length ≤ ys.length := by
            unfold tidy
            refine Nat.le_trans (List.length_filter_le _ _) ?_
            rw [List.length_map, List.length_take]
            omega
          rw [perm.length_eq, List.length_map] at h1
          exact Nat.lt_of_le_of_lt (Nat.le_trans h1 hl) (by decide)
        · rw [upd_same, cD_put, et, if_pos cz]
          intro hm
          obtain ⟨q, hq, e⟩ := List.mem_map.mp hm
          obtain ⟨y, hy, e2⟩ := List.mem_map.mp (List.mem_filter.mp hq).1
          have : y = z := by rw [← e, ← e2]
          exact not_in_take ndy hz (this ▸ hy)
      · have cz : ¬ (ct ps z != 0) = true := by
          rw [Bool.not_eq_false', decide_eq_true_eq] at c
          rw [bne_iff_ne]
          exact fun e => e (V.int.inj c)
        refine ⟨?_, same2⟩
        rw [eD, et, if_neg cz, List.append_nil]
    · rintro H2 ⟨eD, same2⟩
      rw [List.take_of_length_le (by rw [List.length_map]; exact Nat.le_refl _)] at eD
      refine k H2 D ys (fun b o e => same2 _ _ (same1 _ _ e)) ?_ perm srt eD
      cases e : H D with
      | none => rfl
      | some o => rw [same1 _ _ e] at hD; cases hD
end
end Ld
/-! def f(self, **d): called with keywords -/
namespace Ld
open PySem PySem.Spec PyProof.Rows L2
section
variable {prog : Program} {w : World} {A : Around} {E : Value → Shared → Prop} {d : Addr}
theorem kw_nsSet {s : Shared} {es : List DictEntry} {n : Nat} {k : Str} {v : Value} {Q : Unit → Shared → Prop} (D : s.heap.get? d = some (PySem.W.dictOf es n))
    (hs : ∀ e ∈ es, e.key.isStr k = false) (hr : ∀ e ∈ es, e.refKey = false)
    (h : ∀ h', (∀ b o, b ≠ d → s.heap.get? b = some o → h'.get? b = some o) → h'.objs.size = s.heap.objs.size → h'.get? d = some (PySem.W.dictOf (es ++ [⟨PyData.keyHash w.params k, .str k s.toks, v⟩]) (n + 1)) → Q () { s with heap := h', toks := s.toks + 1 }) :
    wpAny (model prog w) A (nsSet d k v) Q E s := by
  have e1 : es.any (·.key.isStr k) = false := by
    cases q : es.any (·.key.isStr k) with
    | false => rfl
    | true => obtain ⟨e, he, z⟩ := List.any_eq_true.mp q; rw [hs e he] at z; cases z
  have e2 : es.any (·.refKey) = false := by
    cases q : es.any (·.refKey) with
    | false => rfl
    | true => obtain ⟨e, he, z⟩ := List.any_eq_true.mp q; rw [hr e he] at z; cases z
  have e : Obj.putName k (PyData.keyHash w.params k) (.str k s.toks) v (PySem.W.dictOf es n) = PySem.W.dictOf (es ++ [⟨PyData.keyHash w.params k, .str k s.toks, v⟩]) (n + 1) := by
    rw [PySem.W.putName_dict, PySem.W.putL_new hs]
    show PySem.W.dictOf _ (if es.any (·.key.isStr k) then n else n + 1) = _
    rw [e1, if_neg Bool.false_ne_true]
  have c : aRefKeyMayBeTheName k es.toArray = false := by
    rw [aRefKeyMayBeTheName_at, ← Array.any_toList, ← Array.any_toList]
    show (!es.any (·.key.isStr k) && es.any (·.refKey)) = false
    rw [e2, Bool.and_false]
  unfold nsSet
  refine wpAny_bind (wpAny_bind (wpAny_askSetting (wpAny_pure (wpAny_bind (wpAny_mkText (wpAny_bind (wpAny_loadPart D ?_)))))))
  dsimp only
  rw [c]
  refine wpAny_updatePart D (h _ (fun b o hb eb => (Heap.get?_update_ne _ _ _ _ hb).trans eb) (Heap.size_update _ _ _) ?_)
  rw [← e]
  exact Heap.get?_update_self _ D (show (Obj.putName k (PyData.keyHash w.params k) (.str k s.toks) v (PySem.W.dictOf es n)).isFreed = false by rw [e]; rfl)
theorem kw_fill {Q : PUnit → Shared → Prop} : ∀ (ex : List (Str × Value)) (s : Shared) (es : List DictEntry) (n : Nat), s.heap.get? d = some (PySem.W.dictOf es n) →
    (∀ e ∈ es, ∀ x ∈ ex, e.key.isStr x.1 = false) → (∀ e ∈ es, e.refKey = false) → (ex.map (·.1)).Nodup →
    (∀ h', (∀ b o, b ≠ d → s.heap.get? b = some o → h'.get? b = some o) → h'.objs.size = s.heap.objs.size → h'.get? d = some (PySem.W.dictOf (es ++ PySem.W.kwEs w.params s.toks ex) (n + ex.length)) → Q ⟨⟩ { s with heap := h', toks := s.toks + ex.length }) →
    wpAny (model prog w) A (forIn ex PUnit.unit fun x _ => (nsSet d x.1 x.2 >>= fun _ => pure (ForInStep.yield PUnit.unit))) Q E s
  | [], s, es, n, D, _, _, _, h => by
    rw [List.forIn_nil]
    refine wpAny_pure (h s.heap (fun _ _ _ e => e) rfl ?_)
    show s.heap.get? d = some (PySem.W.dictOf (es ++ []) n)
    rw [List.append_nil]
    exact D
  | x :: r, s, es, n, D, hs, hr, hn, h => by
    obtain ⟨hn1, hn2⟩ := List.nodup_cons.mp (show (x.1 :: r.map (·.1)).Nodup from hn)
    rw [List.forIn_cons]
    refine wpAny_bind (wpAny_bind (kw_nsSet D (fun e he => hs e he x (.head _)) hr fun h' k1 z1 D' => wpAny_pure ?_))
    show wpAny (model prog w) A (forIn r PUnit.unit fun x _ => (nsSet d x.1 x.2 >>= fun _ => pure (ForInStep.yield PUnit.unit))) Q E { s with heap := h', toks := s.toks + 1 }
    refine kw_fill r { s with heap := h', toks := s.toks + 1 } _ _ D' (fun e he y hy => ?_) (fun e he => ?_) hn2 fun h'' k2 z2 D'' => ?_
    · rcases List.mem_append.mp he with he | he
      · exact hs e he y (.tail _ hy)
      · obtain rfl := List.mem_singleton.mp he
        show (x.1 == y.1) = false
        exact beq_eq_false_iff_ne.mpr fun q => hn1 (by rw [q]; exact List.mem_map_of_mem hy)
    · rcases List.mem_append.mp he with he | he
      · exact hr e he
      · obtain rfl := List.mem_singleton.mp he
        rfl
    · have t1 : s.toks + 1 + r.length = s.toks + (r.length + 1) := by omega
      have t2 : n + 1 + r.length = n + (r.length + 1) := by omega
      show Q ⟨⟩ { s with heap := h'', toks := s.toks + 1 + r.length }
      rw [t1]
      refine h h'' (fun b o hb eb => k2 b o hb (k1 b o hb eb)) (z2.trans z1) ?_
      rw [t2, List.append_assoc] at D''
      exact D''
theorem kwEs_mix {P : Program} {w : World} : ∀ (ex : List (Str × Value)) (t : Tok), Pairs (mixKind P w) (PySem.W.kwEs w.params t ex) (ex.map fun x => ((Sum.inr x.1 : Key), x.2))
  | [], _ => Pairs.nil
  | x :: r, t => Pairs.cons (keyIs_str x.1 t) rfl (kwEs_mix r (t + 1))
theorem kw_isDict {P : Program} {w : World} {ex : List (Str × Value)} (t : Tok) (n : Nat) (hn : (ex.map (·.1)).Nodup) : (PySem.W.dictOf (PySem.W.kwEs w.params t ex) n).IsDictOf (mixKind P w) (ex.map fun x => ((Sum.inr x.1 : Key), x.2)) := by
  refine ⟨(PySem.W.kwEs w.params t ex).toArray, n, ⟨rfl, rfl, rfl⟩, rfl, fun e he => ?_, kwEs_mix ex t, ?_⟩
  · obtain ⟨k, u, hk, hh⟩ := PySem.W.kwEs_key ex t e (List.mem_toArray.mp he)
    exact ⟨Sum.inr k, by rw [hk]; exact keyIs_str k u, hh.trans rfl⟩
  · rw [List.map_map]
    have e : ((fun x : Key × Value => x.1) ∘ fun x : Str × Value => ((Sum.inr x.1 : Key), x.2)) = (fun x : Str × Value => (Sum.inr x.1 : Key)) := rfl
    rw [e]
    have q : ex.map (fun x : Str × Value => (Sum.inr x.1 : Key)) = (ex.map (·.1)).map Sum.inr := by rw [List.map_map]; rfl
    rw [q]
    exact List.Pairwise.map _ (fun a b hab e => hab (Sum.inr.inj e)) hn
end
/-- the dict of the keywords -/
def kwD (ks : List Str) (zs : List V) : List (Key × V) := (ks.zip zs).map fun p => (Sum.inr p.1, p.2)
theorem kwD_rel : ∀ {ks : List Str} {zs : List V} {ws : List Value}, Vals zs ws → KV (kwD ks zs) ((ks.zip ws).map fun x => ((Sum.inr x.1 : Key), x.2))
  | [], _, _, _ => .nil
  | _ :: _, _, _, .nil => .nil
  | k :: ks, _, _, .cons r t => .cons ⟨rfl, r⟩ (kwD_rel t)
theorem zip_fst {α β : Type} : ∀ {ks : List α} {ws : List β}, ws.length = ks.length → (ks.zip ws).map (·.1) = ks
  | [], [], _ => rfl
  | k :: ks, w :: ws, h => by
    show k :: (ks.zip ws).map (·.1) = k :: ks
    rw [zip_fst (by simpa using h)]
  | [], _ :: _, h => by simp at h
  | _ :: _, [], h => by simp at h
section
variable {CX : CXT} {P : Program} {w : World} {K : PySem.W.Frag} {mg : Str → Option Value} {base : Heap} {k : Nat} {f : Addr} {name qual : Str} {params : Arguments} {body : List Stmt} {scope : Scope} {dV kV doc pm cdv ct oc : Value} {an od : Option Addr}
  {osl : Array (Option Value)} {N : List Str} {p1 pd : Str} {ks : List Str} {sp : Sp}
theorem env0_laid' {A : Around} {outer : List Env} {s : Shared} {H : Hp} {u : HO} {h' : Heap} {t : Nat} (e0 : Env0 P w K mg base A outer s H) (kp : ∀ b x, s.heap.get? b = some x → h'.get? b = some x) (hz : s.heap.objs.size ≤ h'.objs.size)
    (new : ObjOk P w (upd H s.heap.objs.size u) h' s.heap.objs.size u) : Env0 P w K mg base A outer { s with heap := h', toks := t } (upd H s.heap.objs.size u) := by
  refine ⟨e0.frames, e0.mod, fun b x e => ⟨kp b x (e0.bs b x e).1, ?_⟩, Nat.le_trans e0.bsz hz, Heap.FunFrames.of_keeps (fun b x e _ => ⟨x, kp b x e, rfl⟩) e0.funs, fun b hb => ?_, e0.hok.laid kp (Nat.le_refl _) new, e0.bare⟩
  · rw [upd_ne (Nat.ne_of_lt (Heap.lt_size (e0.bs b x e).1))]
    exact (e0.bs b x e).2
  · obtain ⟨_, x, hx, _⟩ := e0.funs.mem hb
    rw [upd_ne (Nat.ne_of_lt (Heap.lt_size hx))]
    exact e0.frf b hb
/-- a call with these keywords -/
def FnK (P : Program) (w : World) (K : PySem.W.Frag) (mg : Str → Option Value) (base : Heap) (CX : CXT) (k : Nat) (f : Addr) (ks : List Str) (sp : Sp) : Prop :=
  ∀ (A : Around) (outer : List Env) (s : Shared) (H : Hp) (us ws : List Value) (vs zs : List V) (Q : VK) (E : XK), Room k A → Env0 P w K mg base A outer s H → Vals vs us → Vals zs ws → zs.length = ks.length → sp (vs ++ zs) H Q E →
    codeAny (model P w) A (.call (.ref f) ⟨us, ks.zip ws⟩) (CR CX outer P w H s Q E) s
/-- def f(self, **d) -/
theorem fn_kw (lk : K.lookup f = some ⟨oc, od, .func (PySem.W.fnOf name qual params body scope dV kV doc pm an cdv ct), osl⟩) (hcd : PySem.W.codeIn K cdv qual = true) (S : FnScope N [p1, pd] scope) (hCX : StX.CXUp CX) (nd : ks.Nodup) (hks : ks.length ≤ sizeLine)
    (hb : ∀ (u : Value) (ws : List Value), ws.length = ks.length → bindArgs (PySem.W.fnOf name qual params body scope dV kV doc pm an cdv ct) ⟨[u], ks.zip ws⟩ =
      ((alloc (PySem.W.dictOf [] 0) : Sem Addr) >>= fun d => (forIn (ks.zip ws) PUnit.unit fun x _ => (nsSet d x.1 x.2 >>= fun _ => pure (ForInStep.yield PUnit.unit))) >>= fun _ => pure [(p1, u), (pd, Value.ref d)]))
    (hbody : ∀ (A : Around) (outer : List Env) (s : Shared) (H : Hp) (vs : List V) (Q : VK) (E : XK), Room k (A.deeper (envOfC qual scope s.heap.objs.size f cdv)) → sp vs H Q E →
      ∃ t, PSs (cxOf CX P w K mg base N qual scope f cdv A outer s H E) body t ∧ t { nx := fun _ H' => Q .non H', rt := Q } (start N vs) H) :
    FnK P w K mg base CX (k + 1) f ks (fun vs H Q E => ∃ v zs, vs = v :: zs ∧ zs.length = ks.length ∧ ∀ d, H d = Option.none → sp [v, V.ref d] (upd H d (.dK (kwD ks zs))) Q E) := by
  intro A outer s H us ws vs zs Q E hr e0 r rz hz hsp
  obtain ⟨v, zs', ev, hl, hq⟩ := hsp
  have hn : H s.heap.objs.size = Option.none := e0.hok.fresh (Nat.le_refl _)
  obtain ⟨e1, e2⟩ : vs = [v] ∧ zs = zs' := by
    have q : zs.length = zs'.length := hz.trans hl.symm
    cases vs with
    | nil =>
      exfalso
      have := congrArg List.length ev
      simp at this
      omega
    | cons x r' =>
      have h1 : x = v := (List.cons.inj ev).1
      have h2 : r' ++ zs = zs' := (List.cons.inj ev).2
      have h3 := congrArg List.length h2
      rw [List.length_append] at h3
      have h4 : r' = [] := List.length_eq_zero_iff.mp (by omega)
      rw [h4] at h2 ⊢
      exact ⟨by rw [h1], h2⟩
  subst e1
  subst e2
  obtain ⟨u, rfl, ru⟩ := vals1 r
  have hl2 : ws.length = ks.length := by rw [← rz.length]; exact hz
  refine StX.run_bnd lk hcd S hr e0 (G := fun xs H2 => ∃ d, H d = Option.none ∧ xs = [v, V.ref d] ∧ H2 = upd H d (.dK (kwD ks zs))) (fun A' Ex Q' h => ?_) fun s2 H2 xs ⟨d, hd, ex, eH⟩ hr' => ?_
  · rw [hb u ws hl2]
    refine wpAny_bind (wpAny_alloc (wpAny_bind ?_))
    refine kw_fill (ks.zip ws) _ [] 0 (Heap.get?_push_size _ rfl) (fun _ he => nomatch he) (fun _ he => nomatch he) (by rw [zip_fst hl2]; exact nd) fun h' kp hz' D => wpAny_pure ?_
    have kp' : ∀ b x, s.heap.get? b = some x → h'.get? b = some x := fun b x e => kp b x (Nat.ne_of_lt (Heap.lt_size e)) (Heap.get?_push_of_some _ e)
    have hsz : s.heap.objs.size ≤ h'.objs.size := by rw [hz']; show _ ≤ (s.heap.push _).objs.size; rw [Heap.size_push]; exact Nat.le_succ _
    have hm : (s.heap.objs.size == sysModules) = false := beq_eq_false_iff_ne.mpr (Ne.symm (Nat.ne_of_lt (StX.env0_big e0)))
    have new : ObjOk P w (upd H s.heap.objs.size (.dK (kwD ks zs))) h' s.heap.objs.size (.dK (kwD ks zs)) := by
      refine ⟨?_, hm, _, kwD_rel rz, Heap.dictOf_iff.mpr ⟨_, D, kw_isDict s.toks _ (by rw [zip_fst hl2]; exact nd)⟩⟩
      unfold kwD
      rw [List.length_map, List.length_zip]
      omega
    exact h { s with heap := h', toks := s.toks + (ks.zip ws).length } (upd H s.heap.objs.size (.dK (kwD ks zs))) [v, V.ref s.heap.objs.size] [u, Value.ref s.heap.objs.size] (env0_laid' (s := s) e0 kp' hsz new) (Un.laid (h := s.heap) kp' (Nat.le_refl _) hn) rfl
      (fun e s' => hCX outer s H _ _ E e s' (Un.laid (h := s.heap) kp' (Nat.le_refl _) hn) kp' rfl) (.cons ru (.cons rfl .nil)) rfl ⟨_, hn, rfl, rfl⟩
  · subst ex eH
    exact hbody A outer s2 _ _ Q E hr' (hq d hd)
end
end Ld
namespace Ld
open PySem PySem.Spec PyProof.Rows L2
/-! ### C(k = v, ..) by a promise of keywords -/
def tMakeQ (C : Addr) (m : Nat) (sp : Sp) (E : XK) (tk : TA) : TE := fun σ H Q => tk σ H fun zs H2 => zs.length = m ∧ ∀ x dx, H2 x = Option.none → H2 dx = Option.none → dx ≠ x →
  sp (V.ref x :: zs) (upd (upd H2 dx (.own x)) x (.ins C dx [])) (fun v H3 => v = .non ∧ Q (.ref x) H3) E
section
variable {X : Cx} {CX : CXT} {k n : Nat} {f C : Addr} {ks : List Str} {sp : Sp} {E : XK} {x : Str} {p pos : Pos} {kws : List Keyword} {tk : TA}
theorem run_makeQ {pins : List (Addr × Obj)} {σ : L2.St} {H : Hp} {s : Shared} {Q : VK} {ws : List Value} {zs : List V} (M : Mk X.K C f) (F : FnK X.prog X.w X.K X.mg X.base CX k f ks sp) (hr : Room (k + 1) X.A) (hx : Passes CX X E)
    (I : Inv X pins σ H s) (rz : Vals zs ws) (l2 : zs.length = ks.length)
    (h : ∀ x dx, H x = Option.none → H dx = Option.none → dx ≠ x → sp (V.ref x :: zs) (upd (upd H dx (.own x)) x (.ins C dx [])) (fun v H2 => v = .non ∧ Q (.ref x) H2) E) :
    wpAny (model X.prog X.w) X.A (call (.ref C) [] (ks.zip ws)) (EP X pins σ Q) X.xe s := by
  have hq := h (s.heap.objs.size + 1) s.heap.objs.size (I.hok.fresh (Nat.le_succ _)) (I.hok.fresh (Nat.le_refl _)) (Nat.ne_of_lt (Nat.lt_succ_self _))
  have I2 := Inv.made (C := C) I
  refine wpAny_call (make_map (f := f) I.kIn M.makes M.init (beq_iff_eq.mp M.fn) (codeAny_mono (F _ X.stack _ _ [Value.ref (s.heap.objs.size + 1)] ws [V.ref (s.heap.objs.size + 1)] zs _ E (hr.make C [] (ks.zip ws))
    (I2.env0.make C [] (ks.zip ws)) (.cons rfl .nil) rz l2 hq) fun r s' hq' => ?_))
  cases r with
  | error e => exact hx pins σ _ _ e s' I2 hq'
  | ok fl =>
    cases fl with
    | ret u =>
      obtain ⟨v, H', I3, rv, ev, q3⟩ := I2.after hq'
      subst ev
      exact ⟨rv, ⟨V.ref (s.heap.objs.size + 1), H', I3, rfl, q3⟩⟩
    | next => exact False.elim hq'
    | brk => exact False.elim hq'
    | cont => exact False.elim hq'
theorem pe_makeQ0 (M : Mk X.K C f) (F : FnK X.prog X.w X.K X.mg X.base CX k f [] sp) (hr : Room (k + 1) X.A) (hg : Gl X x) (hm : X.mg x = some (.ref C)) (hx : Passes CX X E)
    (hdb : (x == ("__debug__" : Str)) = false := by decide) : PE X (.Call (.Name x p) [] [] pos) (tMakeQ C 0 sp E tNil) := by
  refine ⟨fun pins s σ H Q I h => ?_⟩
  refine wpAny_Call_Name_kw (ld_glob I hg hm ?_ hdb)
  exact PySem.W.callWith_K0 I.kIn M.kp (run_makeQ (ws := []) (zs := []) M F hr hx I .nil rfl h.2)
theorem pe_makeQ (M : Mk X.K C f) (F : FnK X.prog X.w X.K X.mg X.base CX k f ks sp) (hr : Room (k + 1) X.A) (hg : Gl X x) (hm : X.mg x = some (.ref C)) (hx : Passes CX X E) (hkw : PK X kws tk)
    (hall : (backToKw pos (keywordEach kws X.env)).all (·.1.isSome) = true := by rfl) (hks : (backToKw pos (keywordEach kws X.env)).filterMap (·.1) = ks := by rfl) (hdb : (x == ("__debug__" : Str)) = false := by decide)
    (hpl : ((backTo pos (starEach [] X.env)).any (·.1) || (backToKw pos (keywordEach kws X.env)).any (·.1.isNone)) = false := by rfl) :
    PE X (.Call (.Name x p) [] kws pos) (tMakeQ C ks.length sp E tk) := by
  refine ⟨fun pins s σ H Q I h => ?_⟩
  refine wpAny_Call_Name_kw (ld_glob I hg hm ?_ hdb)
  refine PySem.W.callWith_KW0 (h₀ := X.base) I.ok.mod.kin M.kp hall ?_ hpl
  refine thn (hkw.run pos pins s σ H _ I h) fun ws s2 ⟨zs, H2, I2, rz, l2, q2⟩ => ⟨I2.kIn, ?_⟩
  rw [hks]
  exact run_makeQ M F hr hx I2 rz l2 q2
end
theorem okK {P : Program} {w : World} {K : PySem.W.Frag} {mg : Str → Option Value} {base : Heap} {x qual : Str} {st : Stmt} {f : Addr} {fd : FuncData} {N : List Str} {p1 pd : Str} {k : Nat} {ks : List Str} {sp : Sp} (F : Fun K x qual st f fd) (S : FnScope N [p1, pd] (defScope st)) (nd : ks.Nodup) (hks : ks.length ≤ sizeLine)
    (hb : ∀ (kV doc pm : Value) (an : Option Addr) (cdv ct : Value) (u : Value) (ws : List Value), ws.length = ks.length → bindArgs (PySem.W.fnOf x qual (defArgs st) (defBody st) (defScope st) .none kV doc pm an cdv ct) ⟨[u], ks.zip ws⟩ =
      ((alloc (PySem.W.dictOf [] 0) : Sem Addr) >>= fun d => (forIn (ks.zip ws) PUnit.unit fun x _ => (nsSet d x.1 x.2 >>= fun _ => pure (ForInStep.yield PUnit.unit))) >>= fun _ => pure [(p1, u), (pd, Value.ref d)]))
    (hbody : ∀ (cdv : Value) (A : Around) (outer : List Env) (s : Shared) (H : Hp) (vs : List V) (Q : VK) (E : XK), Room k (A.deeper (envOfC qual (defScope st) s.heap.objs.size f cdv)) → sp vs H Q E →
      ∃ t, PSs (cxOf CX0 P w K mg base N qual (defScope st) f cdv A outer s H E).nox (defBody st) t ∧ t { nx := fun _ H' => Q .non H', rt := Q } (start N vs) H) :
    FnK P w K mg base CX0 (k + 1) f ks (fun vs H Q E => ∃ v zs, vs = v :: zs ∧ zs.length = ks.length ∧ ∀ d, H d = Option.none → sp [v, V.ref d] (upd H d (.dK (kwD ks zs))) Q E) := by
  obtain ⟨oc, od, kV, doc, pm, an, cdv, ct, osl, rfl, lk, hcd⟩ := F.ex
  refine fn_kw lk hcd S StX.cxUp_none nd hks (hb kV doc pm an cdv ct) fun A outer s H vs Q E hr hsp => ?_
  obtain ⟨t, h, q⟩ := hbody cdv A outer s H vs Q E hr hsp
  exact ⟨t, h.nox, q⟩
abbrev sInit : Stmt := inClass (top 14) 0
example (kV doc pm : Value) (an : Option Addr) (cdv ct : Value) (u : Value) : bindArgs (PySem.W.fnOf "__init__" "Load.__init__" (defArgs sInit) (defBody sInit) (defScope sInit) .none kV doc pm an cdv ct) ⟨[u], ([] : List Str).zip []⟩ =
      ((alloc (PySem.W.dictOf [] 0) : Sem Addr) >>= fun d => (forIn (([] : List Str).zip []) PUnit.unit fun x _ => (nsSet d x.1 x.2 >>= fun _ => pure (ForInStep.yield PUnit.unit))) >>= fun _ => pure [(("self" : Str), u), (("counts" : Str), Value.ref d)]) := rfl
example (kV doc pm : Value) (an : Option Addr) (cdv ct : Value) (u a : Value) : bindArgs (PySem.W.fnOf "__init__" "Load.__init__" (defArgs sInit) (defBody sInit) (defScope sInit) .none kV doc pm an cdv ct) ⟨[u], (["a"] : List Str).zip [a]⟩ =
      ((alloc (PySem.W.dictOf [] 0) : Sem Addr) >>= fun d => (forIn ((["a"] : List Str).zip [a]) PUnit.unit fun x _ => (nsSet d x.1 x.2 >>= fun _ => pure (ForInStep.yield PUnit.unit))) >>= fun _ => pure [(("self" : Str), u), (("counts" : Str), Value.ref d)]) := rfl
end Ld
namespace Ld
open PySem PySem.Spec PyProof.Rows L2
/-! ### texts in order -/
def leS (a b : Str) : Prop := a.cps.toList ≤ b.cps.toList
theorem rising_pw : ∀ {p : Str} {l : List Str}, risingS p l = true → (p :: l).Pairwise leS
  | p, [], _ => List.pairwise_singleton _ _
  | p, x :: r, h => by
    rw [risingS, Bool.and_eq_true, Bool.not_eq_true', ltCps_eq, decide_eq_false_iff_not] at h
    have ih := rising_pw h.2
    have h1 : leS p x := h.1
    refine List.pairwise_cons.mpr ⟨fun y hy => ?_, ih⟩
    rcases List.mem_cons.mp hy with e | hy
    · rw [e]
      exact h1
    · exact List.le_trans h1 ((List.pairwise_cons.mp ih).1 y hy)
theorem sorted_pw {l : List Str} (h : sortedS l = true) : l.Pairwise leS := by
  cases l with
  | nil => exact List.Pairwise.nil
  | cons x r => exact rising_pw h
theorem pw_sorted {l : List Str} (h : l.Pairwise leS) : sortedS l = true := by
  refine sortedS_of_pairwise l (h.imp fun {a b} q => ?_)
  rw [ltCps_eq, decide_eq_false_iff_not]
  exact q
theorem sorted_eq {l m : List Str} (p : l.Perm m) (h1 : sortedS l = true) (h2 : sortedS m = true) : l = m :=
  List.Perm.eq_of_pairwise (le := leS) (fun a b _ _ x y => by
    have e : a.cps.toList = b.cps.toList := List.le_antisymm x y
    cases a
    cases b
    have e2 := Array.toList_inj.mp e
    exact congrArg _ e2) (sorted_pw h1) (sorted_pw h2) p
/-! ### counts as a load holds them -/
structure Can (ps : List (Str × Int)) : Prop where
  nd : (ps.map (·.1)).Nodup
  srt : sortedS (ps.map (·.1)) = true
  nz : ∀ p ∈ ps, p.2 ≠ 0
  wd : ∀ p ∈ ps, wordB p.1 = true
  few : ps.length ≤ 1000
theorem ct_mem {ps : List (Str × Int)} (nd : (ps.map (·.1)).Nodup) {p : Str × Int} (hp : p ∈ ps) : ct ps p.1 = p.2 := by
  have h := ctO_some (List.mem_map.mpr ⟨p, hp, rfl⟩ : p.1 ∈ ps.map (·.1))
  unfold ctO at h
  rw [Option.map_eq_some_iff] at h
  obtain ⟨q, hq, e⟩ := h
  have q1 := List.find?_some hq
  rw [decide_eq_true_eq] at q1
  have q2 := List.mem_of_find?_eq_some hq
  rw [← e]
  obtain ⟨i, hi, ei⟩ := List.getElem_of_mem hp
  obtain ⟨j, hj, ej⟩ := List.getElem_of_mem q2
  have : j = i := by
    have h1 : (ps.map (·.1))[j]'(by rw [List.length_map]; exact hj) = (ps.map (·.1))[i]'(by rw [List.length_map]; exact hi) := by
      rw [List.getElem_map, List.getElem_map, ei, ej]
      exact q1
    exact (List.getElem_inj nd).mp h1
  subst this
  rw [← ei, ← ej]
theorem ct_out {ps : List (Str × Int)} {z : Str} (h : z ∉ ps.map (·.1)) : ct ps z = 0 := by
  unfold ct
  rw [ctO_none h]
  rfl
theorem ct_in {ps : List (Str × Int)} {z : Str} (h : ct ps z ≠ 0) : z ∈ ps.map (·.1) := Classical.byContradiction fun n => h (ct_out n)
theorem tidy_mem {ps : List (Str × Int)} {ys : List Str} {q : Str × Int} : q ∈ tidy ps ys ↔ q.1 ∈ ys ∧ q.2 = ct ps q.1 ∧ q.2 ≠ 0 := by
  unfold tidy
  rw [List.mem_filter, List.mem_map, bne_iff_ne]
  constructor
  · rintro ⟨⟨z, hz, rfl⟩, n⟩
    exact ⟨hz, rfl, n⟩
  · rintro ⟨h1, h2, h3⟩
    exact ⟨⟨q.1, h1, by rw [← h2]⟩, h3⟩
theorem tidy_keys (ps : List (Str × Int)) (ys : List Str) : (tidy ps ys).map (·.1) = ys.filter (fun z => ct ps z != 0) := by
  unfold tidy
  induction ys with
  | nil => rfl
  | cons y r ih =>
    rw [List.map_cons, List.filter_cons, List.filter_cons]
    cases e : (ct ps y != 0) with
    | true =>
      show ((y, ct ps y) :: _).map _ = _
      rw [List.map_cons, ih]
      rfl
    | false => exact ih
theorem tidy_can {ps : List (Str × Int)} {ys : List Str} (nd : (ps.map (·.1)).Nodup) (wd : ∀ p ∈ ps, wordB p.1 = true) (few : ps.length ≤ 1000) (perm : ys.Perm (ps.map (·.1))) (srt : sortedS ys = true) : Can (tidy ps ys) ∧ ∀ z, ct (tidy ps ys) z = ct ps z := by
  have ndy : ys.Nodup := perm.nodup_iff.mpr nd
  have ndt : ((tidy ps ys).map (·.1)).Nodup := by
    rw [tidy_keys]
    exact ndy.filter _
  refine ⟨⟨ndt, ?_, fun p hp => (tidy_mem.mp hp).2.2, fun p hp => ?_, ?_⟩, fun z => ?_⟩
  · rw [tidy_keys]
    exact pw_sorted ((sorted_pw srt).filter _)
  · have h := perm.mem_iff.mp (tidy_mem.mp hp).1
    obtain ⟨q, hq, e⟩ := List.mem_map.mp h
    rw [← e]
    exact wd q hq
  · have h1 : (tidy ps ys).length ≤ ys.length := by
      unfold tidy
      refine Nat.le_trans (List.length_filter_le _ _) ?_
      rw [List.length_map]
      exact Nat.le_refl _
    rw [perm.length_eq, List.length_map] at h1
    exact Nat.le_trans h1 few
  · by_cases h : ct ps z = 0
    · rw [h]
      refine ct_out fun hm => ?_
      obtain ⟨q, hq, e⟩ := List.mem_map.mp hm
      have := tidy_mem.mp hq
      rw [e, h] at this
      exact this.2.2 this.2.1
    · have hz := perm.mem_iff.mpr (ct_in h)
      exact ct_mem ndt (tidy_mem.mpr ⟨hz, rfl, h⟩ : (z, ct ps z) ∈ tidy ps ys)
/-- two loads with the same counts are the same -/
theorem can_eq {ps qs : List (Str × Int)} (a : Can ps) (b : Can qs) (h : ∀ z, ct ps z = ct qs z) : ps = qs := by
  have key : ∀ {ps qs : List (Str × Int)}, Can ps → Can qs → (∀ z, ct ps z = ct qs z) → ∀ z, z ∈ ps.map (·.1) → z ∈ qs.map (·.1) := fun a b h z hz => by
    obtain ⟨p, hp, e⟩ := List.mem_map.mp hz
    refine ct_in ?_
    rw [← h z, ← e, ct_mem a.nd hp]
    exact a.nz p hp
  have ek : ps.map (·.1) = qs.map (·.1) := by
    refine sorted_eq ?_ a.srt b.srt
    exact (List.perm_ext_iff_of_nodup a.nd b.nd).mpr fun z => ⟨key a b h z, key b a (fun z => (h z).symm) z⟩
  have val : ∀ {ps : List (Str × Int)}, Can ps → ps = (ps.map (·.1)).map fun z => (z, ct ps z) := fun {ps} a => by
    rw [List.map_map]
    conv => lhs; rw [← List.map_id ps]
    refine List.map_congr_left fun p hp => ?_
    show p = (p.1, ct ps p.1)
    rw [ct_mem a.nd hp]
  rw [val a, val b, ek]
  exact List.map_congr_left fun z _ => by rw [h z]
end Ld
namespace Ld
open PySem PySem.Spec PyProof.Rows L2
/-- a load with these counts -/
def LoadAt (C : Addr) (H : Hp) (x : Addr) (ps : List (Str × Int)) : Prop := ∃ dx t, H x = some (.ins C dx [("_counts", .ref t)]) ∧ H t = some (.dK (cD ps)) ∧ Can ps
theorem LoadAt.same {C : Addr} {H H' : Hp} {x : Addr} {ps : List (Str × Int)} (h : LoadAt C H x ps) (s : Same H H') : LoadAt C H' x ps := by
  obtain ⟨dx, t, h1, h2, c⟩ := h
  exact ⟨dx, t, s _ _ h1, s _ _ h2, c⟩
/-- what of the text the class must have -/
structure LoadC (K : PySem.W.Frag) (mg : Str → Option Value) (C fi : Addr) : Prop where
  c : Cls K C
  nc : NoAttr K C "_counts"
  mkC : Mk K C fi
  gC : mg "Load" = some (.ref C)
abbrev sOf : Stmt := inClass (top 14) 1
/-- counts that a load can be made of -/
structure Ok (H : Hp) (a : Addr) (ps : List (Str × Int)) : Prop where
  at_ : H a = some (.dK (cD ps))
  nd : (ps.map (·.1)).Nodup
  few : ps.length ≤ 1000
  wd : ∀ p ∈ ps, wordB p.1 = true
def spInitB (C : Addr) : Sp := fun vs H Q _ => ∃ (x dx d : Addr) (ps : List (Str × Int)) (fs : List (Str × V)), vs = [.ref x, .ref d] ∧ H x = some (.ins C dx fs) ∧ fs.length < 10 ∧ Ok H d ps ∧
  ∀ (H' : Hp) (t : Addr) (ps' : List (Str × Int)), (∀ b o, b ≠ x → H b = some o → H' b = some o) → H' x = some (.ins C dx (putF "_counts" (.ref t) fs)) → H' t = some (.dK (cD ps')) → Can ps' → (∀ z, ct ps' z = ct ps z) → Q .non H'
def spKw (ks : List Str) (sp : Sp) : Sp := fun vs H Q E => ∃ v zs, vs = v :: zs ∧ zs.length = ks.length ∧ ∀ d, H d = Option.none → sp [v, V.ref d] (upd H d (.dK (kwD ks zs))) Q E
def spOf (C : Addr) : Sp := fun vs H Q _ => ∃ (c : V) (a : Addr) (ps : List (Str × Int)), vs = [c, .ref a] ∧ Ok H a ps ∧
  ∀ (H' : Hp) (x : Addr) (ps' : List (Str × Int)), Same H H' → H x = none → LoadAt C H' x ps' → (∀ z, ct ps' z = ct ps z) → Q (.ref x) H'
section
variable {P : Program} {w : World} {K : PySem.W.Frag} {mg : Str → Option Value} {base : Heap} {C fi : Addr}
theorem scInit : FnScope ["self", "counts"] ["self", "counts"] (defScope sInit) := ⟨rfl, rfl, rfl, by decide +kernel, rfl, by decide +kernel, by decide +kernel⟩
theorem init_body {f : Addr} {cdv : Value} {A : Around} {outer : List Env} {s : Shared} {H : Hp} {vs : List V} {Q : VK} {E : XK} (T : LoadC K mg C fi) (HC : Has P w K mg base 2 "check_counts" ["counts"] spCheck) (HT : Has P w K mg base 2 "tidy_counts" ["counts"] spTidy)
    (hr : Room 2 (A.deeper (envOfC "Load.__init__" (defScope sInit) s.heap.objs.size f cdv))) (h : spInitB C vs H Q E) :
    ∃ t, PSs (cxOf CX0 P w K mg base ["self", "counts"] "Load.__init__" (defScope sInit) f cdv A outer s H E).nox (defBody sInit) t ∧ t { nx := fun _ H' => Q .non H', rt := Q } (L2.start ["self", "counts"] vs) H := by
  obtain ⟨g1, gd1, G1, b1, m1, k1⟩ := HC
  obtain ⟨g2, gd2, G2, b2, m2, k2⟩ := HT
  obtain ⟨x, dx, d, ps, fs, rfl, hx, hl, ok, k⟩ := h
  refine ⟨_, pss_cons (ps_expr (pe_call G1 hr (by rfl) m1 k1 b1 .nil pass0 (pa_cons (pv 1) pa_nil)))
    (pss_one (ps_fld (pv 0) (pe_call G2 hr (by rfl) m2 k2 b2 .nil pass0 (pa_cons (pv 1) pa_nil)) rfl)), ?_⟩
  refine ⟨_, rfl, d, ps, rfl, ok.at_, ok.nd, ok.few, ok.wd, fun H1 same1 => ?_⟩
  refine ⟨_, rfl, d, ps, rfl, same1 _ _ ok.at_, ok.nd, ok.few, fun H2 t ys same2 ht0 perm srt ht => ?_⟩
  have hx2 : H2 x = some (.ins C dx fs) := same2 _ _ (same1 _ _ hx)
  have ntx : t ≠ x := (ne_of_none (same1 _ _ hx) ht0).symm
  obtain ⟨can, cts⟩ := tidy_can ok.nd ok.wd ok.few perm srt
  refine ⟨_, rfl, x, C, dx, fs, rfl, hx2, T.c, T.nc, Nat.lt_trans hl (by decide), ?_⟩
  exact k _ t (tidy ps ys) (fun b o nb eb => by rw [upd_ne nb]; exact same2 _ _ (same1 _ _ eb)) upd_same (by rw [upd_ne ntx]; exact ht) can cts
theorem ok_init0 {f : Addr} {fd : FuncData} (F : Fun K "__init__" "Load.__init__" sInit f fd) (T : LoadC K mg C f) (HC : Has P w K mg base 2 "check_counts" ["counts"] spCheck) (HT : Has P w K mg base 2 "tidy_counts" ["counts"] spTidy) :
    FnK P w K mg base CX0 3 f [] (spKw [] (spInitB C)) :=
  okK F scInit (by decide) (Nat.zero_le _) (fun _ _ _ _ _ _ u ws hw => match ws, hw with | [], _ => rfl) fun cdv A outer s H vs Q E hr h => init_body T HC HT hr h
theorem ok_init1 {f : Addr} {fd : FuncData} {y : Str} (F : Fun K "__init__" "Load.__init__" sInit f fd) (T : LoadC K mg C f) (HC : Has P w K mg base 2 "check_counts" ["counts"] spCheck) (HT : Has P w K mg base 2 "tidy_counts" ["counts"] spTidy)
    (hy : ∀ (kV doc pm : Value) (an : Option Addr) (cdv ct : Value) (u a : Value), bindArgs (PySem.W.fnOf "__init__" "Load.__init__" (defArgs sInit) (defBody sInit) (defScope sInit) .none kV doc pm an cdv ct) ⟨[u], [y].zip [a]⟩ =
      ((alloc (PySem.W.dictOf [] 0) : Sem Addr) >>= fun d => (forIn ([y].zip [a]) PUnit.unit fun x _ => (nsSet d x.1 x.2 >>= fun _ => pure (ForInStep.yield PUnit.unit))) >>= fun _ => pure [(("self" : Str), u), (("counts" : Str), Value.ref d)])) :
    FnK P w K mg base CX0 3 f [y] (spKw [y] (spInitB C)) :=
  okK F scInit (List.pairwise_singleton _ _) (by show 1 ≤ sizeLine; decide) (fun _ _ _ _ _ _ u ws hw => match ws, hw with | [a], _ => hy _ _ _ _ _ _ u a) fun cdv A outer s H vs Q E hr h => init_body T HC HT hr h
abbrev nOf : List Str := ["cls", "counts", "load", "kind"]
theorem scOf : FnScope nOf ["cls", "counts"] (defScope sOf) := ⟨rfl, rfl, rfl, by decide +kernel, rfl, by decide +kernel, by decide +kernel⟩
theorem ok_of {f : Addr} {fd : FuncData} (F : Fun K "of" "Load.of" sOf f fd) (T : LoadC K mg C fi) (B : Blt2 mg) (FI : FnK P w K mg base CX0 3 fi [] (spKw [] (spInitB C)))
    (HC : Has P w K mg base 2 "check_counts" ["counts"] spCheck) (HT : Has P w K mg base 2 "tidy_counts" ["counts"] spTidy) : FnOk P w K mg base CX0 5 f fd ["cls", "counts"] (spOf C) := by
  obtain ⟨g1, gd1, G1, b1, m1, k1⟩ := HC
  obtain ⟨g2, gd2, G2, b2, m2, k2⟩ := HT
  refine F.ok scOf (fun vs H Q E h => ?_) (fun cdv A outer s H vs Q E hr h => ?_)
  · obtain ⟨c, a, ps, rfl, _⟩ := h
    rfl
  · obtain ⟨c, a, ps, rfl, ok, k⟩ := h
    have hr2 : Room 2 _ := hr.mono (by decide)
    have nd : nOf.Nodup := scOf.nd
    refine ⟨_, pss_cons (ps_if (PW.pt (pw_or (pt_not (pt_truth (pe_callB call_isi (by rfl) B.isi bIsi (pa_cons (pv 1) (pa_cons (pe_bltn (v := .ty "dict") (by rfl) B.dict (by decide +kernel) rfl) pa_nil))) (fun _ => rfl)))
        (pw_or1 (pt_not (pt_truth (pe_callB (cr_all rfl) (by rfl) B.all bAll (pa_cons (pe_lock (pe_lc (own := [("kind", 3)]) (g := gName 3) (tt := tYes) rfl nd (pi_keys (pv 1)) (blkOk_by (N := nOf) (sc := defScope sOf) (by decide +kernel))
          (fun _ _ _ _ _ => pg_name (i := 3) nd rfl (Or.inl rfl)) (fun _ _ _ _ _ => pts_nil) (fun _ _ _ _ _ => pe_callB (r := rIsi K) call_isi (by rfl) B.isi bIsi (pa_cons (pv 3) (pa_cons (pe_bltn (v := .ty "str") (by rfl) B.str bStr0 rfl) pa_nil))))) pa_nil)) (fun _ => rfl)))))) (pss_one ps_never) pss_nil)
      (pss_cons (ps_expr (pe_call G1 hr2 (by rfl) m1 k1 b1 .nil pass0 (pa_cons (pv 1) pa_nil)))
      (pss_cons (ps_set (i := 2) nd rfl (Or.inl rfl) (pe_makeQ0 T.mkC FI hr (by rfl) T.gC pass0))
      (pss_cons (ps_fld (pv 2) (pe_call G2 hr2 (by rfl) m2 k2 b2 .nil pass0 (pa_cons (pv 1) pa_nil)) rfl)
      (pss_one (ps_ret (pv 2)))))), ?_⟩
    -- the test
    refine seq_step (fun σ' H' => σ' = [some c, some (.ref a), none, none] ∧ Same H H') (fun R hR => ?_) (fun σ1 H1 h1 => ?_)
    · refine ⟨_, rfl, .ref a, _, _, _, true, rfl, .ty _, .base (.dK ok.at_), kit_ty (by decide +kernel), true, rfl, ?_⟩
      refine ⟨a, _, ok.at_, trivial, fun od => ⟨_, rfl, a, od, rfl, .inl ⟨cD ps, upd_same, fun D hD => ?_⟩⟩⟩
      have nDa : D ≠ a := fun e => by rw [e, upd_same] at hD; cases hD
      have hD0 : H D = none := by rw [upd_ne nDa] at hD; exact hD
      refine lc_it (walk_keys (d := a) (o := od) (kvs := cD ps)) (fun i H' => H' D = some (.lst ((List.replicate i true).map V.bl)) ∧ H' a = some (.frz od (.dK (cD ps))) ∧ ∀ b o, H b = some o → b ≠ a → H' b = some o)
        ⟨upd_same, by rw [upd_ne nDa.symm, upd_same], fun b o eb nb => by rw [upd_ne (ne_of_none eb hD0), upd_ne nb]; exact eb⟩ (fun i H' _ h => h.2.1) ?_ ?_
      · rintro i x H2 H3 hi ⟨eD, ea, keep⟩ ⟨rfl, key, v, hkv, rfl⟩
        obtain ⟨z, rfl, hz⟩ := keysOf.at (kvs := cD ps) (ks := ps.map (·.1)) ⟨cD_keys ps, ok.nd⟩ hkv
        refine ⟨rfl, _, rfl, .str z, _, _, _, true, rfl, .ty _, .base (.str z), kit_ty (by decide +kernel), _, eD, ?_, ?_, by rw [upd_ne nDa.symm]; exact ea, fun b o eb nb => by rw [upd_ne (ne_of_none eb hD0)]; exact keep b o eb nb⟩
        · rw [List.length_map, List.length_replicate]
          rw [cD_len] at hi
          exact Nat.lt_of_lt_of_le hi (Nat.le_trans ok.few (by decide))
        · rw [upd_same, List.replicate_succ', List.map_append]
          rfl
      · rintro H2 ⟨eD, ea, keep⟩
        refine ⟨ea, D, _, rfl, .inl (.inl (by rw [upd_ne nDa]; exact eD)), ?_⟩
        have e : (List.replicate (cD ps).length true).all id = true := by
          rw [List.all_eq_true]
          intro b hb
          exact List.eq_of_mem_replicate hb
        rw [e]
        refine ⟨true, rfl, ?_⟩
        refine hR _ _ ⟨rfl, fun b o eb => ?_⟩
        by_cases e : b = a
        · rw [e, upd_same, ← ok.at_, ← e, eb]
        · rw [upd_ne e]
          exact keep b o eb e
    obtain ⟨rfl, same1⟩ := h1
    refine seq_step (fun σ' H' => σ' = [some c, some (.ref a), none, none] ∧ Same H1 H') (fun R hR => ?_) (fun σ2 H2 h2 => ?_)
    · exact ⟨_, rfl, a, ps, rfl, same1 _ _ ok.at_, ok.nd, ok.few, ok.wd, fun H2 same2 => hR _ _ ⟨rfl, same2⟩⟩
    obtain ⟨rfl, same2⟩ := h2
    -- load = Load()
    refine seq_step (fun σ' H' => ∃ (x dx t : Addr), σ' = [some c, some (.ref a), some (.ref x), none] ∧ Same H H' ∧ H x = none ∧ H' x = some (.ins C dx [("_counts", .ref t)])) (fun R hR => ?_) (fun σ3 H3 h3 => ?_)
    · refine ⟨rfl, fun x dx hx hdx ne => ⟨.ref x, [], rfl, rfl, fun d hd => ?_⟩⟩
      have hx0 : H x = none := by
        cases e : H x with
        | none => rfl
        | some o => rw [same2 _ _ (same1 _ _ e)] at hx; cases hx
      have ndx : d ≠ x := fun e => by rw [e, upd_same] at hd; cases hd
      refine ⟨x, dx, d, [], [], rfl, by rw [upd_ne ndx.symm, upd_same], by decide, ⟨upd_same, List.nodup_nil, by decide, fun _ h => nomatch h⟩, fun H4 t ps' keep hx4 _ _ _ => ⟨rfl, ?_⟩⟩
      refine hR _ _ ⟨x, dx, t, rfl, fun b o eb => ?_, hx0, hx4⟩
      have e2 := same2 _ _ (same1 _ _ eb)
      have nb : b ≠ x := ne_of_none e2 hx
      have nb2 : b ≠ dx := ne_of_none e2 hdx
      refine keep b o nb ?_
      by_cases e : b = d
      · exfalso
        rw [upd_ne ndx] at hd
        rw [← e, upd_ne nb2, e2] at hd
        cases hd
      · rw [upd_ne e, upd_ne nb, upd_ne nb2]
        exact e2
    obtain ⟨x, dx, t0, rfl, same3, hx0, hx3⟩ := h3
    refine ⟨_, rfl, a, ps, rfl, same3 _ _ ok.at_, ok.nd, ok.few, fun H5 t ys same5 ht0 perm srt ht => ?_⟩
    obtain ⟨can, cts⟩ := tidy_can ok.nd ok.wd ok.few perm srt
    have ntx : t ≠ x := (ne_of_none hx3 ht0).symm
    refine ⟨_, rfl, x, C, dx, _, rfl, same5 _ _ hx3, T.c, T.nc, by show 1 < 1000; decide, ?_⟩
    refine ⟨_, rfl, k _ x (tidy ps ys) (fun b o eb => by rw [upd_ne (ne_of_none eb hx0)]; exact same5 _ _ (same3 _ _ eb)) hx0 ⟨dx, t, upd_same, by rw [upd_ne ntx]; exact ht, can⟩ cts⟩
end
end Ld
namespace Ld
open PySem PySem.Spec PyProof.Rows L2
section
variable {X : Cx} {CX : CXT} {pins : List (Addr × Obj)} {σ : L2.St} {H : Hp} {s : Shared} {C g : Addr} {n : Nat} {sp : Sp} {E : XK}
theorem cls_looks {M : Model} {h : Heap} {a : Addr} {o : Obj} {t : Value} (e : h.get? a = some o) (c : o.cls = t) : PySem.W.Looks M h (typeOf (.ref a)) t := c ▸ (PySem.W.Looks.ld e).andThen .now
theorem tyX_looks {x : V} {u t : Value} (I : Inv X pins σ H s) (rx : RelV x u) (ty : TyX X.K H x t) : PySem.W.Looks (model X.prog X.w) s.heap (typeOf u) t := by
  cases ty with
  | base b =>
    cases b with
    | non => cases (show u = Value.none from rx); exact .of_pure rfl
    | bl y => cases (show u = Value.bool y from rx); exact .of_pure rfl
    | int i => obtain ⟨t, q⟩ := (show ∃ t, u = Value.int i t from rx); cases q; exact .of_pure rfl
    | str y => obtain ⟨t, q⟩ := (show ∃ t, u = Value.str y t from rx); cases q; exact .of_pure rfl
    | flt y => obtain ⟨t, q⟩ := (show ∃ t, u = Value.float y t from rx); cases q; exact .of_pure rfl
    | @lst a xs ea =>
      cases (show u = Value.ref a from rx)
      obtain ⟨_, _, n, _, h1⟩ := (show ObjOk X.prog X.w H s.heap a (.lst xs) from I.hok a _ ea)
      exact cls_looks h1 rfl
    | @frz a ob xs ea =>
      cases (show u = Value.ref a from rx)
      obtain ⟨_, _, _, n, _, h1⟩ := (show ObjOk X.prog X.w H s.heap a (.frz ob (.lst xs)) from I.hok a _ ea)
      exact cls_looks h1 rfl
    | @tup a xs ea =>
      cases (show u = Value.ref a from rx)
      obtain ⟨_, _, _, o, h1, h2, _⟩ := (show ObjOk X.prog X.w H s.heap a (.tup xs) from I.hok a _ ea)
      exact cls_looks h1 h2
    | @dK a kvs ea =>
      cases (show u = Value.ref a from rx)
      obtain ⟨_, _, vs, _, o, es, ep, h1, h2, _⟩ := (show ObjOk X.prog X.w H s.heap a (.dK kvs) from I.hok a _ ea)
      exact cls_looks h1 h2.1
    | @dT a kvs ea =>
      cases (show u = Value.ref a from rx)
      obtain ⟨_, _, xs, _, o, es, ep, h1, h2, _⟩ := (show ObjOk X.prog X.w H s.heap a (.dT kvs) from I.hok a _ ea)
      exact cls_looks h1 h2.1
    | @ins a C dx fs ea cl ha hn htk hm =>
      cases (show u = Value.ref a from rx)
      obtain ⟨mA, O, _⟩ := ins_get I.hok ea
      obtain ⟨od, J, _⟩ := O.look
      exact J.type
  | byt y => obtain ⟨t, q⟩ := (show ∃ t, u = Value.bytes y t from rx); cases q; exact .of_pure rfl
  | @set a S n ea =>
    cases (show u = Value.ref a from rx)
    obtain ⟨o, _, _, _, e, ex, _⟩ := I.hok a _ ea
    exact cls_looks e ex.1
  | @kList a o e c =>
    cases (show u = Value.ref a from rx)
    exact cls_looks (I.kIn a o e) c
  | @kTuple a o e c =>
    cases (show u = Value.ref a from rx)
    exact cls_looks (I.kIn a o e) c
  | @kDict a o e c =>
    cases (show u = Value.ref a from rx)
    exact cls_looks (I.kIn a o e) c
  | @fTuple a ob xs ea =>
    cases (show u = Value.ref a from rx)
    obtain ⟨_, _, _, _, o, h1, h2, _⟩ := (show ObjOk X.prog X.w H s.heap a (.frz ob (.tup xs)) from I.hok a _ ea)
    exact cls_looks h1 h2
  | @fDict a ob kvs ea =>
    cases (show u = Value.ref a from rx)
    obtain ⟨_, _, _, vs, _, o, es, ep, h1, h2, _⟩ := (show ObjOk X.prog X.w H s.heap a (.frz ob (.dK kvs)) from I.hok a _ ea)
    exact cls_looks h1 h2.1
/-- x op y, x an instance of the class at C whose def for op is at g, y of another type, or of the same -/
def rCmp (K : PySem.W.Frag) (C : Addr) (sp : Sp) (E : XK) : R2 := fun x y H Q => ∃ a dx fs t, x = .ref a ∧ H a = some (.ins C dx fs) ∧ TyX K H y t ∧ PySem.W.notFirst K C t = true ∧ sp [x, y] H Q E
theorem op_cmp {op : CmpOp} (hop : ∀ a b, compareOp op a b = richCompare op a b) (hs : PySem.W.findIn X.K (.ref C) (cmpInfo op).2.1 = some (some (.ref g))) (hf : PySem.W.isFn X.K (.ref g) = true) (F : FnR X.prog X.w X.K X.mg X.base CX n g sp)
    (hr : Room n X.A) (hx : Passes CX X E) : OpR X (compareOp op) (rCmp X.K C sp E) := by
  intro pins s σ H x y v u Q I rx ry h
  obtain ⟨a, dx, fs, t, rfl, ha, ty, hn, q⟩ := h
  cases (show v = Value.ref a from rx)
  obtain ⟨mA, O, _⟩ := ins_get I.hok ha
  obtain ⟨od, J, _⟩ := O.look
  obtain ⟨m, hF⟩ := I.fr
  rw [hop]
  refine PySem.W.cmp_K (op := op) (tb := t) hr.units0 hF I.ok.mod.kin J (tyX_looks I ry ty) hn hs hf ?_
  refine wpAny_mono (wpAny_call (run_fnR (us := [.ref a, u]) (vs := [.ref a, y]) F hr hx I (.cons rfl (.cons ry .nil)) q)) (fun w s' z => ?_) fun _ _ x => x
  obtain ⟨z', H', I', rz, qz⟩ := z
  exact SlX.cmpback rz ⟨z', H', I', rz, qz⟩
end
end Ld
/-! x != y by the own __eq__ -/
namespace PySem.W
open PySem PySem.Spec PyProof.Rows PySem.Calls
section
variable {prog : Program} {w : World} {A : Around} {E : Value → Shared → Prop} {s : Shared} {K : Frag} {x C L f : Addr} {h₀ : Heap} {m : Str → Option Value} {ox : Obj} {od : Option Obj} {name : Str} {b tb : Value}
theorem ifBound_B {M : Model} {id : String} {args : List Value} {Q : Option Value → Shared → Prop} (X : K.In s.heap) (I : InstAt s.heap x ox C od) (hs : findIn K (.ref C) name = some (some (.builtin id))) (hb : ∀ self, bindSpecial (.builtin id) self = pure (.builtin id, [self]))
    (h : wpAny M A (call (.builtin id) (.ref x :: args)) (fun v => Q (some v)) E s) : wpAny M A (callSpecialIfBound? (.ref x) name args) Q E s := by
  simp only [callSpecialIfBound?, bindSpecialIfBound?]
  refine wpAny_holding (wpAny_bind (wpAny_bind (wpAny_bind (I.type.here ((looks_findIn X hs).here ?_)))))
  refine wpAny_bind (wpAny_askSetting (wpAny_ite ?_))
  have fin : wpAny M A (call (.builtin id) ([.ref x] ++ args) >>= fun v => pure (some v)) Q E s := wpAny_bind (wpAny_mono h (fun v s' h' => wpAny_pure h') fun _ _ h' => h')
  have hb' : Looks M s.heap (bindSpecial (.builtin id) (.ref x)) (.builtin id, [.ref x]) := Looks.of_pure (hb _)
  split
  · exact wpAny_bind (hb'.here (wpAny_pure (by exact fin)))
  · exact wpAny_tryCatch (wpAny_bind (hb'.here (wpAny_pure (by exact fin))))
theorem isInst_looks {M : Model} (X : K.In s.heap) (I : InstAt s.heap x ox C od) (e : mroIn K C (.type "object") = some true) : Looks M s.heap (isInstance (.ref x) (.type "object")) true := by
  unfold isInstance
  exact I.type.andThen (looks_mroIn X e)
theorem ne_entry {Q : PySem.Fin → Shared → Prop} (hu : A.units < cLine) (X : K.In s.heap) (I : InstAt s.heap x ox C od) (hs : findIn K (.ref C) "__eq__" = some (some (.ref f))) (hf : isFn K (.ref f) = true)
    (h : wpAny (model prog w) A (call (.ref f) [.ref x, b]) (fun v s' => ∃ r, v = .bool r ∧ Q (.done (.ret (.bool (!r)))) s') E s) :
    wpAny (model prog w) A (Builtin.«object.__ne__» ⟨[.ref x, b], []⟩) Q E s := by
  unfold Builtin.«object.__ne__»
  repeat (first
    | with_reducible refine wpAny_cRoomFor hu ?_
    | (refine wpAny_bind (m := callSpecialIfBound? (.ref x) (Str.ofString "__eq__") [b])
        (ifBound_K X I hs hf (wpAny_mono h (fun r s' hr => by
          obtain ⟨b, rfl, hq⟩ := hr
          repeat (first | exact hq | exact wpAny_pure hq | exact wpAny_truthy_bool hq | (refine wpAny_bind (m := truthy (.bool _)) (wpAny_truthy_bool ?_)) | wp_step)) fun _ _ e => e)))
    | wp_step)
theorem ne_K {Q : Value → Shared → Prop} (hu : A.units + 1 < cLine) (F : Fr h₀ L s.heap m) (X₀ : K.In h₀) (I : InstAt s.heap x ox C od) (hb : Looks (model prog w) s.heap (typeOf b) tb) (hn : notFirst K C tb = true)
    (hne : findIn K (.ref C) "__ne__" = some (some (.builtin "object.__ne__"))) (ho : mroIn K C (.type "object") = some true)
    (hs : findIn K (.ref C) "__eq__" = some (some (.ref f))) (hf : isFn K (.ref f) = true)
    (h : wpAny (model prog w) A.in1 (call (.ref f) [.ref x, b]) (fun v s' => ∃ r, v = .bool r ∧ Q (.bool (!r)) s') E s) : wpAny (model prog w) A (richCompare .NotEq (.ref x) b) Q E s := by
  have X := X₀.keeps F.keep
  have one : wpAny (model prog w) A (tryCompare (.ref x) (cmpInfo .NotEq).2.1 b) (fun r s' => ∃ v, r = some v ∧ Q v s') E s := by
    unfold tryCompare
    refine wpAny_bind (ifBound_B X I hne PySem.F.cmp_object.ne.bind (wpAny_call (codeAny_call_builtin PySem.F.cmp_object.ne.plain PySem.F.cmpEntry_ne
      (@PySem.W.check_slot (model prog w) _ _ s "object.__ne__" "object" "__ne__" (.ref x) [b] [] _ PySem.F.cmpKind_ne PySem.F.cmpSplit_ne (isInst_looks X I ho) (PySem.F.cmpArgs_ne _ _) (ne_entry (A := A.in1) hu X I hs hf (wpAny_mono h (fun v s' hv => ?_) fun _ _ e => e))))))
    obtain ⟨r, rfl, hq⟩ := hv
    exact ⟨r, rfl, wpAny_pure ⟨_, rfl, hq⟩⟩
  unfold richCompare
  simp only [oneThing_ref]
  refine wpAny_holding (wpAny_bind (wpAny_cRoomFor (Nat.lt_of_succ_lt hu) ?_))
  refine wpAny_bind (I.type.here (wpAny_bind (hb.here ?_)))
  split
  · rename_i q
    have e : subIn K tb (.ref C) = some false := by
      rcases Bool.or_eq_true_iff.mp hn with e | e
      · rw [beq_iff_eq.mp e] at q; simp at q
      · exact beq_iff_eq.mp e
    refine wpAny_bind ((looks_subIn X e).here ?_)
    simp only [Bool.false_eq_true, if_false]
    refine wpAny_bind (wpAny_mono one (fun r s' z => ?_) fun _ _ e => e)
    obtain ⟨v, rfl, hq⟩ := z
    exact wpAny_pure hq
  · refine wpAny_bind (wpAny_pure ?_)
    simp only [Bool.false_eq_true, if_false]
    refine wpAny_bind (wpAny_mono one (fun r s' z => ?_) fun _ _ e => e)
    obtain ⟨v, rfl, hq⟩ := z
    exact wpAny_pure hq
end
end PySem.W

namespace Ld
open PySem PySem.Spec PyProof.Rows L2
section
variable {X : Cx} {CX : CXT} {C g : Addr} {n : Nat} {sp : Sp} {E : XK}
/-- x != y, by the own __eq__ -/
def rCmpNe (K : PySem.W.Frag) (C : Addr) (sp : Sp) (E : XK) : R2 := fun x y H Q => ∃ a dx fs t, x = .ref a ∧ H a = some (.ins C dx fs) ∧ TyX K H y t ∧ PySem.W.notFirst K C t = true ∧ sp [x, y] H (fun v H' => ∃ b, v = .bl b ∧ Q (.bl (!b)) H') E
theorem op_cmpNe (hne : PySem.W.findIn X.K (.ref C) "__ne__" = some (some (.builtin "object.__ne__"))) (ho : PySem.W.mroIn X.K C (.type "object") = some true) (hs : PySem.W.findIn X.K (.ref C) "__eq__" = some (some (.ref g))) (hf : PySem.W.isFn X.K (.ref g) = true)
    (F : FnR X.prog X.w X.K X.mg X.base CX n g sp) (hr : Room (n + 1) X.A) (hx : Passes CX X E) : OpR X (compareOp .NotEq) (rCmpNe X.K C sp E) := by
  intro pins s σ H x y v u Q I rx ry h
  obtain ⟨a, dx, fs, t, rfl, ha, ty, hn, q⟩ := h
  cases (show v = Value.ref a from rx)
  obtain ⟨mA, O, _⟩ := ins_get I.hok ha
  obtain ⟨od, J, _⟩ := O.look
  obtain ⟨m, hF⟩ := I.fr
  show wpAny _ _ (richCompare .NotEq _ _) _ _ _
  have hr1 : Room n X.A.in1 := Room.in1 hr
  refine PySem.W.ne_K (tb := t) (hu_of hr) hF I.ok.mod.kin J (tyX_looks I ry ty) hn hne ho hs hf ?_
  refine wpAny_mono (wpAny_call (SlX.run_at (A := X.A.in1) (us := [.ref a, u]) (ws := [.ref a, y]) F hr1 I.env0.in1 hx I (.cons rfl (.cons ry .nil)) q)) (fun w' s' z => ?_) fun _ _ x => x
  obtain ⟨z', H', I', rz, b, rfl, qz⟩ := z
  cases rz
  exact ⟨b, rfl, .bl (!b), H', I', rfl, qz⟩
end
end Ld
namespace Ld
open PySem PySem.Spec PyProof.Rows L2
def hitB (qs : List (Str × Int)) (ps : List (Str × Int)) : Bool := ps.all fun p => decide (ctO qs p.1 = some p.2)
theorem hits_ct {A : Around} {s : Shared} {qs : List (Str × Int)} {vb : List (Key × Value)} (rb : KV (cD qs) vb) : ∀ {ps : List (Str × Int)} {va : List (Key × Value)}, KV (cD ps) va → PySem.W.KeqHits A s vb va (hitB qs ps)
  | [], _, .nil => .nil
  | p :: r, (k, v) :: t, .cons h ra => by
    have h1 : (Sum.inr p.1 : Key) = k := h.1
    obtain ⟨tk, ev⟩ := (show ∃ t, v = Value.int p.2 t from h.2)
    have rr : RelO (valV (cD qs) (Sum.inr p.1)) (valueAt vb (Sum.inr p.1)) := rb.val _
    rw [valV_cD] at rr
    rw [h1] at rr
    have ih := hits_ct (A := A) (s := s) rb ra
    show PySem.W.KeqHits A s vb ((k, v) :: t) (decide (ctO qs p.1 = some p.2) && hitB qs r)
    cases e : ctO qs p.1 with
    | none =>
      rw [e] at rr
      have hn : valueAt vb k = none := by
        cases e2 : valueAt vb k with
        | none => rfl
        | some y => rw [e2] at rr; exact absurd rr (by simp [RelO])
      have : (decide ((none : Option Int) = some p.2) && hitB qs r) = false := by simp
      rw [this]
      exact .miss hn
    | some j =>
      rw [e] at rr
      obtain ⟨y, hy, ry⟩ := rr.some_of
      obtain ⟨tj, ey⟩ := (show ∃ t, y = Value.int j t from ry)
      subst ev ey
      have q : decide (some j = some p.2) = (p.2 == j) := by
        rw [Bool.eq_iff_iff, decide_eq_true_eq, beq_iff_eq, Option.some.injEq]
        exact eq_comm
      rw [q]
      exact .hit hy (SeqAt.EqAt.int_int p.2 tk j tj) ih
theorem sub_back : ∀ {l m : List Str}, l.Nodup → (∀ x ∈ l, x ∈ m) → m.length ≤ l.length → ∀ x ∈ m, x ∈ l
  | [], m, _, _, hl, x, hx => by
    have : m = [] := List.length_eq_zero_iff.mp (by simpa using hl)
    rw [this] at hx
    exact hx
  | a :: l, m, nd, hs, hl, x, hx => by
    have ha := hs a List.mem_cons_self
    have nd2 := List.nodup_cons.mp nd
    by_cases e : x = a
    · rw [e]
      exact List.mem_cons_self
    · refine List.mem_cons_of_mem _ (sub_back (l := l) (m := m.erase a) nd2.2 (fun y hy => ?_) ?_ x ((List.mem_erase_of_ne e).mpr hx))
      · exact (List.mem_erase_of_ne (fun (q : y = a) => nd2.1 (by rw [← q]; exact hy))).mpr (hs y (List.mem_cons_of_mem _ hy))
      · rw [List.length_erase_of_mem ha]
        rw [List.length_cons] at hl
        omega
theorem can_beq {ps qs : List (Str × Int)} (a : Can ps) (b : Can qs) : (ps.length == qs.length && hitB qs ps) = decide (ps = qs) := by
  rw [Bool.eq_iff_iff, Bool.and_eq_true, beq_iff_eq, decide_eq_true_eq]
  constructor
  · rintro ⟨hl, hh⟩
    have hm : ∀ p ∈ ps, ctO qs p.1 = some p.2 := fun p hp => of_decide_eq_true (List.all_eq_true.mp hh p hp)
    have sub : ∀ z ∈ ps.map (·.1), z ∈ qs.map (·.1) := fun z hz => by
      obtain ⟨p, hp, e⟩ := List.mem_map.mp hz
      refine Classical.byContradiction fun n => ?_
      have h1 := hm p hp
      rw [e, ctO_none n] at h1
      cases h1
    have back := sub_back a.nd sub (by rw [List.length_map, List.length_map, hl]; exact Nat.le_refl _)
    refine can_eq a b fun z => ?_
    by_cases hz : z ∈ ps.map (·.1)
    · obtain ⟨p, hp, e⟩ := List.mem_map.mp hz
      rw [← e, ct_mem a.nd hp]
      unfold ct
      rw [hm p hp]
      rfl
    · rw [ct_out hz, ct_out fun h => hz (back z h)]
  · rintro rfl
    refine ⟨rfl, List.all_eq_true.mpr fun p hp => decide_eq_true ?_⟩
    rw [ctO_some (List.mem_map.mpr ⟨p, hp, rfl⟩), ct_mem a.nd hp]
section
variable {X : Cx}
def rEqCt : R2 := fun x y H Q => ∃ a b ps qs, x = .ref a ∧ y = .ref b ∧ H a = some (.dK (cD ps)) ∧ H b = some (.dK (cD qs)) ∧ Q (.bl (ps.length == qs.length && hitB qs ps)) H
theorem op_eqCt (hu : X.A.units < cLine) : OpR X (compareOp .Eq) rEqCt := by
  intro pins s σ H x y v u Q I rx ry h
  obtain ⟨a, b, ps, qs, rfl, rfl, ea, eb, q⟩ := h
  obtain rfl : v = Value.ref a := rx
  obtain rfl : u = Value.ref b := ry
  obtain ⟨_, ya, va, ra, da⟩ := (show ObjOk X.prog X.w H s.heap a (.dK (cD ps)) from I.hok a _ ea)
  obtain ⟨_, yb, vb, rb, db⟩ := (show ObjOk X.prog X.w H s.heap b (.dK (cD qs)) from I.hok b _ eb)
  have hl : (va.length == vb.length) = (ps.length == qs.length) := by rw [← ra.length, ← rb.length, cD_len, cD_len]
  refine PySem.W.keq_eq (knd := mixKind X.prog X.w) (r := hitB qs ps) ya yb da db hu (fun _ => hits_ct rb ra) ?_
  exact ⟨.bl (ps.length == qs.length && hitB qs ps), H, I, by rw [hl]; rfl, q⟩
end
end Ld
namespace Ld
open PySem PySem.Spec PyProof.Rows L2
theorem LoadAt.ty {K : PySem.W.Frag} {C : Addr} {H : Hp} {x : Addr} {ps : List (Str × Int)} (h : LoadAt C H x ps) (c : Cls K C) (i : SlX.SIsi K C) : TyX K H (.ref x) (.ref C) := by
  obtain ⟨dx, t, h1, _, _⟩ := h
  exact .base (.ins h1 c i.ca i.cn i.ct i.cm)
theorem kit_self {K : PySem.W.Frag} {C : Addr} : PySem.W.kitOne K (.ref C) (.ref C) = some true := by
  unfold PySem.W.kitOne
  rw [if_pos (beq_self_eq_true _)]
theorem nf_self {K : PySem.W.Frag} {C : Addr} : PySem.W.notFirst K C (.ref C) = true := by
  unfold PySem.W.notFirst
  rw [beq_self_eq_true]
  rfl
def spEqL (K : PySem.W.Frag) (C : Addr) : Sp := fun vs H Q _ => ∃ (x : Addr) (y : V) (ps : List (Str × Int)), vs = [.ref x, y] ∧ LoadAt C H x ps ∧
  ((∃ b qs, y = .ref b ∧ LoadAt C H b qs ∧ Q (.bl (decide (ps = qs))) H) ∨ ∃ t, TyX K H y t ∧ PySem.W.kitOne K t (.ref C) = some false ∧ Q (.bl false) H)
abbrev sEq : Stmt := inClass (top 14) 19
section
variable {P : Program} {w : World} {K : PySem.W.Frag} {mg : Str → Option Value} {base : Heap} {C fi : Addr}
theorem scEq : FnScope ["self", "other"] ["self", "other"] (defScope sEq) := ⟨rfl, rfl, rfl, by decide +kernel, rfl, by decide +kernel, by decide +kernel⟩
theorem ok_eqL {f : Addr} {fd : FuncData} (F : Fun K "__eq__" "Load.__eq__" sEq f fd) (T : LoadC K mg C fi) (S : SlX.SIsi K C) (B : Blt2 mg) : FnOk P w K mg base CX0 1 f fd ["self", "other"] (spEqL K C) := by
  refine F.ok scEq (fun vs H Q E h => ?_) (fun cdv A outer s H vs Q E hr h => ?_)
  · obtain ⟨x, y, ps, rfl, _⟩ := h
    rfl
  · obtain ⟨x, y, ps, rfl, hx, h⟩ := h
    refine ⟨_, pss_one (ps_ret (pe_and (pe_callB call_isi (by rfl) B.isi bIsi (pa_cons (pv 1) (pa_cons (pe_glob (v := .ref C) (by rfl) T.gC rfl) pa_nil)))
      (pe_one (pe_cmpR (op_eqCt hr.units0) (pe_fld (pv 0) rfl) (pe_fld (pv 1) rfl) (nomark _))))), ?_⟩
    rcases h with ⟨b, qs, rfl, hb, q⟩ | ⟨t, ty, kt, q⟩
    · refine ⟨_, rfl, .ref b, _, _, _, true, rfl, .own C, hb.ty T.c S, kit_self, true, rfl, ?_⟩
      obtain ⟨dx, tx, h1, h2, cx⟩ := hx
      obtain ⟨dy, ty, h3, h4, cy⟩ := hb
      refine ⟨_, rfl, x, C, dx, _, _, rfl, h1, T.c, T.nc, rfl, _, rfl, b, C, dy, _, _, rfl, h3, T.c, T.nc, rfl, tx, ty, ps, qs, rfl, rfl, h2, h4, ?_⟩
      rw [can_beq cx cy]
      exact q
    · exact ⟨_, rfl, y, _, t, _, false, rfl, .own C, ty, kt, false, rfl, q⟩
end
end Ld
namespace Ld
open PySem PySem.Spec PyProof.Rows L2
section
variable {X : Cx} {pins : List (Addr × Obj)} {σ : L2.St} {H : Hp} {s : Shared}
theorem star_dict (hcalm : X.calm = true) {a : Addr} {kvs : List (Key × V)} {E : Value → Shared → Prop} {Q : List Value → Shared → Prop} (I : Inv X pins σ H s) (hd : Rd H a (.dK kvs)) (hQ : ∀ us s', Inv X pins σ H s' → Vals (kvs.map fun kv => kV kv.1) us → Q us s') : PySem.W.StarOf (model X.prog X.w) X.A E (.ref a) Q s := by
  obtain ⟨z, lo, vs, rel, dd⟩ := dk_rd I.hok hd
  obtain ⟨ep, hat⟩ := dd.dictAt
  have ek : (kvs.map fun kv => kV kv.1) = vs.map fun p => kV p.1 := by
    have e := congrArg (List.map kV) rel.keys
    rw [List.map_map, List.map_map] at e
    exact e
  have h16 : vs.length ≤ sizeLine := by rw [← rel.length]; exact z
  unfold PySem.W.StarOf notIterableAtAll
  refine wpAny_bind (wpAny_specialOf dd.typeIs PySem.F.slot_dict_iter.lookup (wpAny_pure ⟨rfl, ?_⟩))
  refine PySem.W.kdu_collect (A := X.A) (PySem.W.kdl_dict (knd := mixKind X.prog X.w) (kvs := vs) (ep := ep) lo) (I.ok.hd hcalm) hat h16 fun h' tk acc hk hacc => ?_
  have hv : Vals (vs.map fun p => kV p.1) acc.toList := keys_at (by rw [Array.length_toList]; exact hacc.1) fun j v e => hacc.2 j v (by rw [← Array.getElem?_toList]; exact e)
  exact hQ acc.toList _ (I.kept hk) (by rw [ek]; exact hv)
end
def tStarD (te : TE) (t : TA) : TA := fun σ H Q => te σ H fun x H1 => ∃ p kvs, x = V.ref p ∧ Rd H1 p (.dK kvs) ∧ t σ H1 fun ys H2 => Q ((kvs.map fun kv => kV kv.1) ++ ys) H2
section
variable {X : Cx} {e : Expr} {es : List Expr} {te : TE} {t : TA} {p : Pos}
theorem pa_starD (hcalm : X.calm = true) (he : PE X e te) (hr : PA X es t) (hs : starEach (.Starred e p :: es) X.env = (true, eval e X.env) :: starEach es X.env := by rfl) : PA X (.Starred e p :: es) (tStarD te t) := by
  refine ⟨fun pos pins s σ H Q I h => ?_⟩
  refine PySem.W.items_star (thn (he.run pins s σ H _ I h) fun v s1 ⟨y, H1, I1, ry, a, kvs, ey, hx, q⟩ => ?_) hs
  subst ey
  obtain rfl : v = Value.ref a := ry
  refine star_dict hcalm I1 hx fun us s2 I2 rv => ?_
  exact thn (hr.run pos pins s2 σ H1 _ I2 q) fun ws s3 ⟨vs, H3, I3, r3, q3⟩ => ⟨_ ++ vs, H3, I3, rv.append r3, q3⟩
end
end Ld
namespace Ld
open PySem PySem.Spec PyProof.Rows L2
def tSubO (C : Addr) (sp : Sp) (E : XK) (to ti : TE) : TE := fun σ H Q => to σ H fun x H1 => ti σ H1 fun y H2 => ∃ a dx fs, x = V.ref a ∧ H2 a = some (.ins C dx fs) ∧ sp [x, y] H2 Q E
section
variable {X : Cx} {CX : CXT} {C g : Addr} {n : Nat} {sp : Sp} {E : XK} {o i : Expr} {to ti : TE} {pos : Pos}
/-- o[i], o an instance of the class at C whose __getitem__ is at g -/
theorem pe_subO (hs : PySem.W.findIn X.K (.ref C) "__getitem__" = some (some (.ref g))) (hf : PySem.W.fnIn X.K g = true) (hfn : PySem.W.isFn X.K (.ref g) = true) (F : FnR X.prog X.w X.K X.mg X.base CX n g sp) (hr : Room (n + 1) X.A) (hx : Passes CX X E)
    (ho : PE X o to) (hi : PE X i ti) (hsl : ∀ a v, subscripted i true (.ref a) v = runValue (.builtin "lifetime.subscript" ⟨[.ref a, v], []⟩) := by intro _ _; with_unfolding_all rfl) : PE X (.Subscript o i pos) (tSubO C sp E to ti) := by
  refine ⟨fun pins s σ H Q I h => ?_⟩
  refine Subscript_ (thn (ho.run pins s σ H _ I h) fun u s1 ⟨x, H1, I1, rx, q1⟩ => thn (hi.run pins s1 σ H1 _ I1 q1) fun v s2 ⟨y, H2, I2, ry, a, dx, fs, ex, ha, q2⟩ => ?_)
  subst ex
  obtain rfl : u = Value.ref a := rx
  obtain ⟨mA, O, _⟩ := ins_get I2.hok ha
  obtain ⟨od, J, _⟩ := O.look
  obtain ⟨m, hF⟩ := I2.fr
  have hr1 : Room n X.A.in1 := Room.in1 hr
  refine PySem.W.sub_K hF I2.ok.mod.kin J hs hf hfn ?_ (hsl a v)
  exact wpAny_call (SlX.run_at (A := X.A.in1) (us := [.ref a, v]) (ws := [.ref a, y]) F hr1 I2.env0.in1 hx I2 (.cons rfl (.cons ry .nil)) q2)
end
end Ld
namespace Ld
open PySem PySem.Spec PyProof.Rows L2
/-- C.name is a def that keeps sp -/
def HasM (P : Program) (w : World) (K : PySem.W.Frag) (mg : Str → Option Value) (base : Heap) (n : Nat) (C : Addr) (name : Str) (sp : Sp) : Prop :=
  ∃ g, PySem.W.findIn K (.ref C) name = some (some (.ref g)) ∧ PySem.W.fnIn K g = true ∧ PySem.W.isFn K (.ref g) = true ∧ FnR P w K mg base CX0 n g sp
theorem fnR_of {P : Program} {w : World} {K : PySem.W.Frag} {mg : Str → Option Value} {base : Heap} {n : Nat} {f : Addr} {fd : FuncData} {ps : List Str} {sp : Sp} (F : FnOk P w K mg base CX0 n f fd ps sp) (b : L2.Binds K fd ps []) : FnR P w K mg base CX0 n f sp :=
  (F.raw b .nil).imp fun vs H Q E h => by rw [List.append_nil]; exact h
def spGet (C : Addr) : Sp := fun vs H Q _ => ∃ (x : Addr) (ps : List (Str × Int)) (z : Str), vs = [.ref x, .str z] ∧ LoadAt C H x ps ∧ Q (.int (ct ps z)) H
theorem cD_kV (ps : List (Str × Int)) : ((cD ps).map fun kv : Key × V => kV kv.1) = (ps.map (·.1)).map V.str := by
  unfold cD
  rw [List.map_map, List.map_map]
  rfl
def leB (ps qs : List (Str × Int)) : Bool := (ps.map (·.1) ++ qs.map (·.1)).all fun z => decide (ct ps z ≤ ct qs z)
def spLe (C : Addr) : Sp := fun vs H Q _ => ∃ (x y : Addr) (ps qs : List (Str × Int)), vs = [.ref x, .ref y] ∧ LoadAt C H x ps ∧ LoadAt C H y qs ∧ ∀ H', Same H H' → Q (.bl (leB ps qs)) H'
def spLt (C : Addr) : Sp := fun vs H Q _ => ∃ (x y : Addr) (ps qs : List (Str × Int)), vs = [.ref x, .ref y] ∧ LoadAt C H x ps ∧ LoadAt C H y qs ∧ ∀ H', Same H H' → Q (.bl (leB ps qs && !decide (ps = qs))) H'
def spGe (C : Addr) : Sp := fun vs H Q _ => ∃ (x y : Addr) (ps qs : List (Str × Int)), vs = [.ref x, .ref y] ∧ LoadAt C H x ps ∧ LoadAt C H y qs ∧ ∀ H', Same H H' → Q (.bl (leB qs ps)) H'
def spGt (C : Addr) : Sp := fun vs H Q _ => ∃ (x y : Addr) (ps qs : List (Str × Int)), vs = [.ref x, .ref y] ∧ LoadAt C H x ps ∧ LoadAt C H y qs ∧ ∀ H', Same H H' → Q (.bl (leB qs ps && !decide (qs = ps))) H'
abbrev sGet : Stmt := inClass (top 14) 9
abbrev sLe : Stmt := inClass (top 14) 20
abbrev sLt : Stmt := inClass (top 14) 21
abbrev sGe : Stmt := inClass (top 14) 22
abbrev sGt : Stmt := inClass (top 14) 23
section
variable {P : Program} {w : World} {K : PySem.W.Frag} {mg : Str → Option Value} {base : Heap} {C fi : Addr}
theorem scGet : FnScope ["self", "at"] ["self", "at"] (defScope sGet) := ⟨rfl, rfl, rfl, by decide +kernel, rfl, by decide +kernel, by decide +kernel⟩
theorem ok_get {f : Addr} {fd : FuncData} (F : Fun K "__getitem__" "Load.__getitem__" sGet f fd) (T : LoadC K mg C fi) : FnOk P w K mg base CX0 1 f fd ["self", "at"] (spGet C) := by
  refine F.ok scGet (fun vs H Q E h => ?_) (fun cdv A outer s H vs Q E hr h => ?_)
  · obtain ⟨x, ps, z, rfl, _⟩ := h
    rfl
  · obtain ⟨x, ps, z, rfl, ⟨dx, t, h1, h2, can⟩, q⟩ := h
    refine ⟨_, pss_one (ps_ret (pe_dget2 (hu_of hr) (pe_fld (pv 0) rfl) (pv 1) pe_int ⟨rfl, rfl, rfl, rfl⟩)), ?_⟩
    refine ⟨_, rfl, x, C, dx, _, _, rfl, h1, T.c, T.nc, rfl, t, rfl, .inl ⟨_, .inl h2⟩, _, rfl, _, .inl ⟨cD ps, Sum.inr z, .inl h2, rfl, rfl⟩, ?_⟩
    rw [valV_cD]
    have e : ((ctO ps z).map V.int).getD (.int 0) = .int (ct ps z) := by
      unfold ct
      cases ctO ps z <;> rfl
    rw [e]
    exact q
abbrev nLe : List Str := ["self", "other", "kind"]
theorem scLe : FnScope nLe ["self", "other"] (defScope sLe) := ⟨rfl, rfl, rfl, by decide +kernel, rfl, by decide +kernel, by decide +kernel⟩
theorem ok_le {f : Addr} {fd : FuncData} (F : Fun K "__le__" "Load.__le__" sLe f fd) (T : LoadC K mg C fi) (S : SlX.SIsi K C) (B : Blt2 mg) (HG : HasM P w K mg base 1 C "__getitem__" (spGet C)) : FnOk P w K mg base CX0 3 f fd ["self", "other"] (spLe C) := by
  obtain ⟨g, a1, a2, a3, G⟩ := HG
  refine F.ok scLe (fun vs H Q E h => ?_) (fun cdv A outer s H vs Q E hr h => ?_)
  · obtain ⟨x, y, ps, qs, rfl, _⟩ := h
    rfl
  · obtain ⟨x, y, ps, qs, rfl, hx, hy, q⟩ := h
    have nd : nLe.Nodup := scLe.nd
    refine ⟨_, pss_cons (ps_if (pt_not (pt_truth (pe_callB call_isi (by rfl) B.isi bIsi (pa_cons (pv 1) (pa_cons (pe_glob (v := .ref C) (by rfl) T.gC rfl) pa_nil))) (fun _ => rfl))) (pss_one ps_never) pss_nil)
      (pss_one (ps_ret (pe_callB (cr_all rfl) (by rfl) B.all bAll (pa_cons (pe_lc (own := [("kind", 2)]) (g := gName 2) (tt := tYes) rfl nd (pi_list (pe_lst (pa_starD rfl (pe_fld (pv 0) rfl) (pa_starD rfl (pe_fld (pv 1) rfl) pa_nil)))) (blkOk_by (N := nLe) (sc := defScope sLe) (by decide +kernel))
        (fun _ _ _ _ _ => pg_name (i := 2) nd rfl (Or.inl rfl)) (fun _ _ _ _ _ => pts_nil) (fun _ _ _ _ _ => pe_cmpR op_le (pe_subO a1 a2 a3 G hr pass0 (pv 0) (pv 2)) (pe_subO a1 a2 a3 G hr pass0 (pv 1) (pv 2)) (nomark _))) pa_nil)))), ?_⟩
    refine ⟨_, rfl, .ref y, _, _, _, true, rfl, .own C, hy.ty T.c S, kit_self, true, rfl, ?_⟩
    have hx' := hx
    have hy' := hy
    obtain ⟨dx, tx, h1, h2, cx⟩ := hx
    obtain ⟨dy, ty, h3, h4, cy⟩ := hy
    refine ⟨_, rfl, x, C, dx, _, _, rfl, h1, T.c, T.nc, rfl, tx, cD ps, rfl, .inl h2, _, rfl, y, C, dy, _, _, rfl, h3, T.c, T.nc, rfl, ty, cD qs, rfl, .inl h4, ?_⟩
    have ek : ((cD ps).map fun kv : Key × V => kV kv.1) ++ (((cD qs).map fun kv : Key × V => kV kv.1) ++ []) = (ps.map (·.1) ++ qs.map (·.1)).map V.str := by
      rw [List.append_nil, List.map_append, cD_kV, cD_kV]
    have hn : (((cD ps).map fun kv : Key × V => kV kv.1) ++ (((cD qs).map fun kv : Key × V => kV kv.1) ++ [])).length ≤ 2000 := by
      rw [ek, List.length_map, List.length_append, List.length_map, List.length_map]
      have := cx.few
      have := cy.few
      omega
    refine ⟨Nat.le_trans hn (by decide : 2000 ≤ sizeLine), fun p hp => ⟨p, rfl, ⟨_, .inl (.inl upd_same)⟩, fun D hD => ?_⟩⟩
    have nDp : D ≠ p := fun e => by rw [e, upd_same] at hD; cases hD
    have hD0 : H D = none := by rw [upd_ne nDp] at hD; exact hD
    have sp1 := same_new (o := .lst (((cD ps).map fun kv : Key × V => kV kv.1) ++ (((cD qs).map fun kv : Key × V => kV kv.1) ++ []))) hp
    refine lc_it (walk_list (K := K) (a := p) (xs := ((cD ps).map fun kv : Key × V => kV kv.1) ++ (((cD qs).map fun kv : Key × V => kV kv.1) ++ []))) (fun i H' => H' D = some (.lst (((ps.map (·.1) ++ qs.map (·.1)).take i).map fun z => V.bl (decide (ct ps z ≤ ct qs z)))) ∧ H' p = some (.lst (((cD ps).map fun kv : Key × V => kV kv.1) ++ (((cD qs).map fun kv : Key × V => kV kv.1) ++ []))) ∧ Same H H')
      ⟨upd_same, by rw [upd_ne nDp.symm, upd_same], fun b o eb => by rw [upd_ne (ne_of_none eb hD0)]; exact sp1 _ _ eb⟩ (fun i H' _ h => .inl (.inl h.2.1)) ?_ ?_
    · rintro i v H2 H3 hi ⟨eD, ep, same⟩ ⟨rfl, hv⟩
      rw [ek, List.getElem?_map] at hv
      obtain ⟨z, hz, rfl⟩ : ∃ z, (ps.map (·.1) ++ qs.map (·.1))[i]? = some z ∧ v = V.str z := by
        cases e : (ps.map (·.1) ++ qs.map (·.1))[i]? with
        | none => rw [e] at hv; cases hv
        | some z => rw [e] at hv; exact ⟨z, rfl, (Option.some.inj hv).symm⟩
      refine ⟨rfl, _, rfl, _, rfl, x, dx, _, rfl, same _ _ h1, x, ps, z, rfl, hx'.same same, _, rfl, _, rfl, y, dy, _, rfl, same _ _ h3, y, qs, z, rfl, hy'.same same, _, _, rfl, rfl, _, eD, ?_, ?_, by rw [upd_ne nDp.symm]; exact ep, fun b o eb => by rw [upd_ne (ne_of_none eb hD0)]; exact same _ _ eb⟩
      · rw [List.length_map, List.length_take]
        exact Nat.lt_of_le_of_lt (by omega : _ ≤ 2000) (by decide)
      · rw [upd_same, List.take_add_one, hz, List.map_append]
        rfl
    · rintro H2 ⟨eD, ep, same⟩
      rw [ek, List.length_map, List.take_of_length_le (Nat.le_refl _)] at eD
      have eA : (ps.map (·.1) ++ qs.map (·.1)).map (fun z => V.bl (decide (ct ps z ≤ ct qs z))) = ((ps.map (·.1) ++ qs.map (·.1)).map fun z => decide (ct ps z ≤ ct qs z)).map V.bl := by
        rw [List.map_map]
        rfl
      rw [eA] at eD
      refine ⟨D, _, rfl, .inl (.inl eD), ?_⟩
      have e : ((ps.map (·.1) ++ qs.map (·.1)).map fun z => decide (ct ps z ≤ ct qs z)).all id = leB ps qs := by
        unfold leB
        rw [List.all_map]
        rfl
      rw [e]
      exact q H2 same
end
end Ld
namespace Ld
open PySem PySem.Spec PyProof.Rows L2
/-- what != asks of the class -/
structure NeC (K : PySem.W.Frag) (C : Addr) : Prop where
  ne : PySem.W.findIn K (.ref C) "__ne__" = some (some (.builtin "object.__ne__"))
abbrev sCounts : Stmt := inClass (top 14) 4
section
variable {P : Program} {w : World} {K : PySem.W.Frag} {mg : Str → Option Value} {base : Heap} {C fi : Addr}
theorem scLt : FnScope ["self", "other"] ["self", "other"] (defScope sLt) := ⟨rfl, rfl, rfl, by decide +kernel, rfl, by decide +kernel, by decide +kernel⟩
theorem scGe : FnScope ["self", "other"] ["self", "other"] (defScope sGe) := ⟨rfl, rfl, rfl, by decide +kernel, rfl, by decide +kernel, by decide +kernel⟩
theorem scGt : FnScope ["self", "other"] ["self", "other"] (defScope sGt) := ⟨rfl, rfl, rfl, by decide +kernel, rfl, by decide +kernel, by decide +kernel⟩
theorem ok_lt {f : Addr} {fd : FuncData} (F : Fun K "__lt__" "Load.__lt__" sLt f fd) (T : LoadC K mg C fi) (S : SlX.SIsi K C) (N : NeC K C) (B : Blt2 mg) (HE : HasM P w K mg base 1 C "__eq__" (spEqL K C)) (HL : HasM P w K mg base 3 C "__le__" (spLe C)) :
    FnOk P w K mg base CX0 4 f fd ["self", "other"] (spLt C) := by
  obtain ⟨g, a1, a2, a3, G⟩ := HE
  obtain ⟨g2, c1, c2, c3, G2⟩ := HL
  refine F.ok scLt (fun vs H Q E h => ?_) (fun cdv A outer s H vs Q E hr h => ?_)
  · obtain ⟨x, y, ps, qs, rfl, _⟩ := h
    rfl
  · obtain ⟨x, y, ps, qs, rfl, hx, hy, q⟩ := h
    refine ⟨_, pss_cons (ps_if (pt_not (pt_truth (pe_callB call_isi (by rfl) B.isi bIsi (pa_cons (pv 1) (pa_cons (pe_glob (v := .ref C) (by rfl) T.gC rfl) pa_nil))) (fun _ => rfl))) (pss_one ps_never) pss_nil)
      (pss_one (ps_ret (pe_and (pe_cmpR (op_cmp (op := .LtE) (fun _ _ => rfl) c1 c3 G2 hr pass0) (pv 0) (pv 1) (nomark _)) (pe_one (pe_cmpR (op_cmpNe N.ne S.cm a1 a3 G (hr.mono (by decide)) pass0) (pv 0) (pv 1) (nomark _)))))), ?_⟩
    refine ⟨_, rfl, .ref y, _, _, _, true, rfl, .own C, hy.ty T.c S, kit_self, true, rfl, ?_⟩
    have hx' := hx
    obtain ⟨dx, tx, h1, h2, cx⟩ := hx
    refine ⟨_, rfl, _, rfl, x, dx, _, _, rfl, h1, hy.ty T.c S, nf_self, x, y, ps, qs, rfl, hx', hy, fun H1 same1 => ⟨_, rfl, ifb (fun e => ?_) (fun e => ?_)⟩⟩
    · refine ⟨_, rfl, _, rfl, x, dx, _, _, rfl, same1 _ _ h1, (hy.same same1).ty T.c S, nf_self, x, .ref y, ps, rfl, hx'.same same1, .inl ⟨y, qs, rfl, hy.same same1, _, rfl, ?_⟩⟩
      have := q H1 same1
      rw [e] at this
      exact this
    · have := q H1 same1
      rw [e] at this
      exact this
theorem ok_ge {f : Addr} {fd : FuncData} (F : Fun K "__ge__" "Load.__ge__" sGe f fd) (T : LoadC K mg C fi) (S : SlX.SIsi K C) (B : Blt2 mg) (HL : HasM P w K mg base 3 C "__le__" (spLe C)) : FnOk P w K mg base CX0 4 f fd ["self", "other"] (spGe C) := by
  obtain ⟨g2, c1, c2, c3, G2⟩ := HL
  refine F.ok scGe (fun vs H Q E h => ?_) (fun cdv A outer s H vs Q E hr h => ?_)
  · obtain ⟨x, y, ps, qs, rfl, _⟩ := h
    rfl
  · obtain ⟨x, y, ps, qs, rfl, hx, hy, q⟩ := h
    refine ⟨_, pss_cons (ps_if (pt_not (pt_truth (pe_callB call_isi (by rfl) B.isi bIsi (pa_cons (pv 1) (pa_cons (pe_glob (v := .ref C) (by rfl) T.gC rfl) pa_nil))) (fun _ => rfl))) (pss_one ps_never) pss_nil)
      (pss_one (ps_ret (pe_cmpR (op_cmp (op := .LtE) (fun _ _ => rfl) c1 c3 G2 hr pass0) (pv 1) (pv 0) (nomark _)))), ?_⟩
    refine ⟨_, rfl, .ref y, _, _, _, true, rfl, .own C, hy.ty T.c S, kit_self, true, rfl, ?_⟩
    have hy' := hy
    obtain ⟨dy, ty, h1, h2, cy⟩ := hy
    exact ⟨_, rfl, _, rfl, y, dy, _, _, rfl, h1, hx.ty T.c S, nf_self, y, x, qs, ps, rfl, hy', hx, fun H1 same1 => q H1 same1⟩
theorem ok_gt {f : Addr} {fd : FuncData} (F : Fun K "__gt__" "Load.__gt__" sGt f fd) (T : LoadC K mg C fi) (S : SlX.SIsi K C) (B : Blt2 mg) (HL : HasM P w K mg base 4 C "__lt__" (spLt C)) : FnOk P w K mg base CX0 5 f fd ["self", "other"] (spGt C) := by
  obtain ⟨g2, c1, c2, c3, G2⟩ := HL
  refine F.ok scGt (fun vs H Q E h => ?_) (fun cdv A outer s H vs Q E hr h => ?_)
  · obtain ⟨x, y, ps, qs, rfl, _⟩ := h
    rfl
  · obtain ⟨x, y, ps, qs, rfl, hx, hy, q⟩ := h
    refine ⟨_, pss_cons (ps_if (pt_not (pt_truth (pe_callB call_isi (by rfl) B.isi bIsi (pa_cons (pv 1) (pa_cons (pe_glob (v := .ref C) (by rfl) T.gC rfl) pa_nil))) (fun _ => rfl))) (pss_one ps_never) pss_nil)
      (pss_one (ps_ret (pe_cmpR (op_cmp (op := .Lt) (fun _ _ => rfl) c1 c3 G2 hr pass0) (pv 1) (pv 0) (nomark _)))), ?_⟩
    refine ⟨_, rfl, .ref y, _, _, _, true, rfl, .own C, hy.ty T.c S, kit_self, true, rfl, ?_⟩
    have hy' := hy
    obtain ⟨dy, ty, h1, h2, cy⟩ := hy
    exact ⟨_, rfl, _, rfl, y, dy, _, _, rfl, h1, hx.ty T.c S, nf_self, y, x, qs, ps, rfl, hy', hx, fun H1 same1 => q H1 same1⟩
/-- the counts, a new dict -/
def spCounts (C : Addr) : Sp := fun vs H Q _ => ∃ (x : Addr) (ps : List (Str × Int)), vs = [.ref x] ∧ LoadAt C H x ps ∧ ∀ p, H p = none → Q (.ref p) (upd H p (.dK (cD ps)))
theorem scCounts : FnScope ["self"] ["self"] (defScope sCounts) := ⟨rfl, rfl, rfl, by decide +kernel, rfl, by decide +kernel, by decide +kernel⟩
theorem ok_counts {f : Addr} {fd : FuncData} (F : Fun K "counts" "Load.counts" sCounts f fd) (T : LoadC K mg C fi) (B : Blt2 mg) : FnOk P w K mg base CX0 1 f fd ["self"] (spCounts C) := by
  refine F.ok scCounts (fun vs H Q E h => ?_) (fun cdv A outer s H vs Q E hr h => ?_)
  · obtain ⟨x, ps, rfl, _⟩ := h
    rfl
  · obtain ⟨x, ps, rfl, ⟨dx, t, h1, h2, can⟩, q⟩ := h
    refine ⟨_, pss_one (ps_ret (pe_callTy call_dictD (by rfl) B.dict (by decide +kernel) (pa_cons (pe_fld (pv 0) rfl) pa_nil))), ?_⟩
    exact ⟨_, rfl, x, C, dx, _, _, rfl, h1, T.c, T.nc, rfl, t, cD ps, rfl, .inl h2, q⟩
end
end Ld
namespace Ld
open PySem PySem.Spec PyProof.Rows L2
/-! ### dicts of counts, filled -/
def putI (ps : List (Str × Int)) (z : Str) (i : Int) : List (Str × Int) := if z ∈ ps.map (·.1) then ps.map fun p => if p.1 = z then (p.1, i) else p else ps ++ [(z, i)]
theorem putI_keys_in {ps : List (Str × Int)} {z : Str} {i : Int} (h : z ∈ ps.map (·.1)) : (putI ps z i).map (·.1) = ps.map (·.1) := by
  unfold putI
  rw [if_pos h, List.map_map]
  refine List.map_congr_left fun p _ => ?_
  show (if p.1 = z then (p.1, i) else p).1 = p.1
  split <;> rfl
theorem putI_keys_out {ps : List (Str × Int)} {z : Str} {i : Int} (h : z ∉ ps.map (·.1)) : (putI ps z i).map (·.1) = ps.map (·.1) ++ [z] := by
  unfold putI
  rw [if_neg h, List.map_append]
  rfl
theorem putI_nd {ps : List (Str × Int)} {z : Str} {i : Int} (h : (ps.map (·.1)).Nodup) : ((putI ps z i).map (·.1)).Nodup := by
  by_cases e : z ∈ ps.map (·.1)
  · rw [putI_keys_in e]
    exact h
  · rw [putI_keys_out e, List.nodup_append]
    refine ⟨h, by simp, fun a ha b hb q => ?_⟩
    rw [List.mem_singleton.mp hb] at q
    exact e (q ▸ ha)
theorem putI_keys {ps : List (Str × Int)} {z : Str} {i : Int} {y : Str} : y ∈ (putI ps z i).map (·.1) → y = z ∨ y ∈ ps.map (·.1) := by
  intro h
  by_cases e : z ∈ ps.map (·.1)
  · rw [putI_keys_in e] at h
    exact .inr h
  · rw [putI_keys_out e] at h
    rcases List.mem_append.mp h with h | h
    · exact .inr h
    · exact .inl (List.mem_singleton.mp h)
theorem putI_key {ps : List (Str × Int)} {z : Str} {i : Int} : z ∈ (putI ps z i).map (·.1) := by
  by_cases e : z ∈ ps.map (·.1)
  · rw [putI_keys_in e]
    exact e
  · rw [putI_keys_out e]
    exact List.mem_append_right _ (List.mem_singleton.mpr rfl)
theorem putI_mem {ps : List (Str × Int)} {z : Str} {i : Int} {q : Str × Int} : q ∈ putI ps z i → q = (z, i) ∨ q ∈ ps := by
  intro h
  unfold putI at h
  split at h
  · obtain ⟨p, hp, e⟩ := List.mem_map.mp h
    split at e
    · rename_i e2
      exact .inl (by rw [← e, e2])
    · exact .inr (e ▸ hp)
  · rcases List.mem_append.mp h with h | h
    · exact .inr h
    · exact .inl (List.mem_singleton.mp h)
theorem putI_len {ps : List (Str × Int)} {z : Str} {i : Int} : (putI ps z i).length ≤ ps.length + 1 := by
  unfold putI
  split
  · rw [List.length_map]
    omega
  · rw [List.length_append]
    exact Nat.le_refl _
theorem putI_cD {ps : List (Str × Int)} {z : Str} {i : Int} : putK (cD ps) (Sum.inr z : Key) (.int i) = cD (putI ps z i) := by
  by_cases e : z ∈ ps.map (·.1)
  · unfold putI putK
    rw [if_pos e, valV_any, valV_cD, ctO_some e]
    show (cD ps).map _ = _
    unfold cD
    rw [List.map_map, List.map_map]
    refine List.map_congr_left fun p _ => ?_
    show (if (Sum.inr p.1 : Key) = Sum.inr z then ((Sum.inr p.1 : Key), V.int i) else (Sum.inr p.1, V.int p.2)) = _
    by_cases h : p.1 = z
    · rw [if_pos (by rw [h])]
      show _ = (Sum.inr (if p.1 = z then (p.1, i) else p).1, V.int (if p.1 = z then (p.1, i) else p).2)
      rw [if_pos h]
    · rw [if_neg fun q => h (Sum.inr.inj q)]
      show _ = (Sum.inr (if p.1 = z then (p.1, i) else p).1, V.int (if p.1 = z then (p.1, i) else p).2)
      rw [if_neg h]
  · rw [cD_put e]
    unfold putI
    rw [if_neg e]
theorem ctO_putI (ps : List (Str × Int)) (z y : Str) (i : Int) : ctO (putI ps z i) y = if y = z then some i else ctO ps y := by
  have h : (ctO (putI ps z i) y).map V.int = (if y = z then some i else ctO ps y).map V.int := by
    rw [← valV_cD, ← putI_cD, valV_put]
    by_cases e : y = z
    · rw [if_pos e, if_pos (by rw [e])]
      rfl
    · rw [if_neg e, if_neg fun q => e (Sum.inr.inj q), valV_cD]
  cases h1 : ctO (putI ps z i) y with
  | none =>
    rw [h1] at h
    cases h2 : (if y = z then some i else ctO ps y) with
    | none => rfl
    | some b => rw [h2] at h; cases h
  | some a =>
    rw [h1] at h
    cases h2 : (if y = z then some i else ctO ps y) with
    | none => rw [h2] at h; cases h
    | some b =>
      rw [h2] at h
      have : V.int a = V.int b := Option.some.inj h
      rw [V.int.inj this]
theorem ct_putI (ps : List (Str × Int)) (z y : Str) (i : Int) : ct (putI ps z i) y = if y = z then i else ct ps y := by
  unfold ct
  rw [ctO_putI]
  split <;> rfl
/-- dict(pairs) -/
def mrg (acc qs : List (Str × Int)) : List (Str × Int) := qs.foldl (fun a q => putI a q.1 q.2) acc
theorem mergeK_cD : ∀ (qs acc : List (Str × Int)), mergeK (cD acc) (cD qs) = cD (mrg acc qs)
  | [], acc => rfl
  | q :: r, acc => by
    show mergeK (putK (cD acc) (Sum.inr q.1) (.int q.2)) (cD r) = _
    rw [putI_cD, mergeK_cD r]
    rfl
theorem mrg_nd : ∀ {qs acc : List (Str × Int)}, (acc.map (·.1)).Nodup → ((mrg acc qs).map (·.1)).Nodup
  | [], _, h => h
  | q :: r, _, h => mrg_nd (qs := r) (putI_nd h)
theorem mrg_mem : ∀ {qs acc : List (Str × Int)} {q : Str × Int}, q ∈ mrg acc qs → q ∈ acc ∨ q ∈ qs
  | [], _, _, h => .inl h
  | p :: r, acc, q, h => by
    rcases mrg_mem (qs := r) h with h | h
    · rcases putI_mem h with h | h
      · exact .inr (by rw [h]; exact List.mem_cons_self)
      · exact .inl h
    · exact .inr (List.mem_cons_of_mem _ h)
theorem mrg_len : ∀ {qs acc : List (Str × Int)}, (mrg acc qs).length ≤ acc.length + qs.length
  | [], _ => Nat.le_refl _
  | q :: r, acc => by
    have h1 := mrg_len (qs := r) (acc := putI acc q.1 q.2)
    have h2 := putI_len (ps := acc) (z := q.1) (i := q.2)
    show (mrg (putI acc q.1 q.2) r).length ≤ _
    rw [List.length_cons]
    omega
theorem cD_nil : cD [] = [] := rfl
/-- a dict from words of a list to numbers below a bound -/
structure Ds (ws : List Str) (b : Nat) (ps : List (Str × Int)) : Prop where
  nd : (ps.map (·.1)).Nodup
  sub : ∀ z ∈ ps.map (·.1), z ∈ ws
  sm : ∀ p ∈ ps, p.2.natAbs < b
  few : ps.length ≤ 100
theorem Ds.mono {ws : List Str} {b c : Nat} {ps : List (Str × Int)} (h : Ds ws b ps) (k : b ≤ c) : Ds ws c ps := ⟨h.nd, h.sub, fun p hp => Nat.lt_of_lt_of_le (h.sm p hp) k, h.few⟩
theorem Ds.ct {ws : List Str} {b : Nat} {ps : List (Str × Int)} (h : Ds ws b ps) (hb : 0 < b) (z : Str) : (ct ps z).natAbs < b := by
  by_cases e : z ∈ ps.map (·.1)
  · obtain ⟨p, hp, e⟩ := List.mem_map.mp e
    rw [← e, ct_mem h.nd hp]
    exact h.sm p hp
  · rw [ct_out e]
    exact hb
theorem ds_mrg {ws : List Str} {b : Nat} {qs : List (Str × Int)} (h1 : ∀ q ∈ qs, q.1 ∈ ws ∧ q.2.natAbs < b) (h2 : qs.length ≤ 100) : Ds ws b (mrg [] qs) := by
  refine ⟨mrg_nd List.nodup_nil, fun z hz => ?_, fun p hp => ?_, ?_⟩
  · obtain ⟨p, hp, rfl⟩ := List.mem_map.mp hz
    rcases mrg_mem hp with h | h
    · cases h
    · exact (h1 p h).1
  · rcases mrg_mem hp with h | h
    · cases h
    · exact (h1 p h).2
  · have := mrg_len (qs := qs) (acc := [])
    rw [List.length_nil] at this
    omega
theorem nd_len {l m : List Str} (nd : l.Nodup) (h : ∀ x ∈ l, x ∈ m) : l.length ≤ m.length := by
  induction l generalizing m with
  | nil => exact Nat.zero_le _
  | cons a r ih =>
    obtain ⟨h1, h2⟩ := List.nodup_cons.mp nd
    have ha : a ∈ m := h a List.mem_cons_self
    have := ih (m := m.erase a) h2 fun x hx => (List.mem_erase_of_ne (fun (e : x = a) => h1 (e ▸ hx))).mpr (h x (List.mem_cons_of_mem _ hx))
    rw [List.length_erase_of_mem ha] at this
    have : 0 < m.length := List.length_pos_of_mem ha
    rw [List.length_cons]
    omega
theorem ds_put {ws : List Str} {b : Nat} {ps : List (Str × Int)} {z : Str} {i : Int} (h : Ds ws b ps) (hz : z ∈ ws) (hi : i.natAbs < b) (hw : ws.length ≤ 100) : Ds ws b (putI ps z i) := by
  have nd := putI_nd (z := z) (i := i) h.nd
  have sub : ∀ y ∈ (putI ps z i).map (·.1), y ∈ ws := fun y hy => by
    rcases putI_keys hy with e | e
    · rw [e]
      exact hz
    · exact h.sub y e
  refine ⟨nd, sub, fun p hp => ?_, ?_⟩
  · rcases putI_mem hp with e | e
    · rw [e]
      exact hi
    · exact h.sm p e
  · have := nd_len nd sub
    rw [List.length_map] at this
    omega
/-! ### the told comparisons, by the gaps -/
theorem leB_iff {ps qs : List (Str × Int)} : leB ps qs = true ↔ ∀ z, ct ps z ≤ ct qs z := by
  unfold leB
  rw [List.all_eq_true]
  constructor
  · intro h z
    by_cases e : z ∈ ps.map (·.1) ++ qs.map (·.1)
    · exact of_decide_eq_true (h z e)
    · rw [List.mem_append, not_or] at e
      rw [ct_out e.1, ct_out e.2]
      exact Int.le_refl _
  · intro h z _
    exact decide_eq_true (h z)
theorem leB_gaps {ps qs as bs : List (Str × Int)} {ws : List Str} {m : Int} (ha : ∀ z, ct as z = ct ps z) (hb : ∀ z, ct bs z = ct qs z) (k1 : ∀ z ∈ ps.map (·.1), z ∈ ws) (k2 : ∀ z ∈ qs.map (·.1), z ∈ ws)
    (hm : m ∈ (ws.map fun z => ct qs z - ct ps z) ++ [0]) (hle : ∀ y ∈ (ws.map fun z => ct qs z - ct ps z) ++ [0], m ≤ y) : leB as bs = decide (m = 0) := by
  rw [Bool.eq_iff_iff, leB_iff, decide_eq_true_eq]
  have h0 : m ≤ 0 := hle 0 (List.mem_append_right _ (List.mem_singleton.mpr rfl))
  constructor
  · intro h
    rcases List.mem_append.mp hm with e | e
    · obtain ⟨z, _, e⟩ := List.mem_map.mp e
      have := h z
      rw [ha, hb] at this
      omega
    · exact List.mem_singleton.mp e
  · intro h z
    rw [ha, hb]
    by_cases e : z ∈ ws
    · have := hle _ (List.mem_append_left _ (List.mem_map.mpr ⟨z, e, rfl⟩))
      omega
    · rw [ct_out fun q => e (k1 z q), ct_out fun q => e (k2 z q)]
      exact Int.le_refl _
theorem leB_gaps2 {ps qs as bs : List (Str × Int)} {ws : List Str} {m : Int} (ha : ∀ z, ct as z = ct ps z) (hb : ∀ z, ct bs z = ct qs z) (k1 : ∀ z ∈ ps.map (·.1), z ∈ ws) (k2 : ∀ z ∈ qs.map (·.1), z ∈ ws)
    (hm : m ∈ (ws.map fun z => ct qs z - ct ps z) ++ [0]) (hle : ∀ y ∈ (ws.map fun z => ct qs z - ct ps z) ++ [0], y ≤ m) : leB bs as = decide (m = 0) := by
  rw [Bool.eq_iff_iff, leB_iff, decide_eq_true_eq]
  have h0 : 0 ≤ m := hle 0 (List.mem_append_right _ (List.mem_singleton.mpr rfl))
  constructor
  · intro h
    rcases List.mem_append.mp hm with e | e
    · obtain ⟨z, _, e⟩ := List.mem_map.mp e
      have := h z
      rw [ha, hb] at this
      omega
    · exact List.mem_singleton.mp e
  · intro h z
    rw [ha, hb]
    by_cases e : z ∈ ws
    · have := hle _ (List.mem_append_left _ (List.mem_map.mpr ⟨z, e, rfl⟩))
      omega
    · rw [ct_out fun q => e (k1 z q), ct_out fun q => e (k2 z q)]
      exact Int.le_refl _
theorem eq_le {as bs : List (Str × Int)} (a : Can as) (b : Can bs) : decide (as = bs) = (leB as bs && leB bs as) := by
  rw [Bool.eq_iff_iff, Bool.and_eq_true, leB_iff, leB_iff, decide_eq_true_eq]
  constructor
  · rintro rfl
    exact ⟨fun _ => Int.le_refl _, fun _ => Int.le_refl _⟩
  · rintro ⟨h1, h2⟩
    exact can_eq a b fun z => Int.le_antisymm (h1 z) (h2 z)
end Ld
namespace Ld
open PySem PySem.Spec PyProof.Rows L2
/-! ### reading dicts of counts -/
theorem dget_ct {H : Hp} {a : Addr} {ps : List (Str × Int)} {z : Str} (e : H a = some (.dK (cD ps))) : DGet H a (.str z) ((ctO ps z).map V.int) := by
  have q := DGet.k (k := (Sum.inr z : Key)) e
  rw [valV_cD] at q
  exact q
theorem getD_ct {ps : List (Str × Int)} {z : Str} : ((ctO ps z).map V.int).getD (.int 0) = .int (ct ps z) := by
  unfold ct
  cases ctO ps z <;> rfl
theorem dput_ct {H : Hp} {a : Addr} {ps : List (Str × Int)} {z : Str} {i : Int} (e : H a = some (.dK (cD ps))) (hl : ps.length ≤ 1000) : DPut H a (.str z) (.int i) (upd H a (.dK (cD (putI ps z i)))) := by
  have q := DPut.k (k := (Sum.inr z : Key)) (v := .int i) e (by rw [cD_len]; exact Nat.lt_of_le_of_lt hl (by decide))
  rw [putI_cD] at q
  exact q
/-! ### pairs made one by one -/
def TupsAt (H : Hp) (ts : List Addr) (qs : List (Str × Int)) : Prop := Paired (fun t q => H t = some (.tup [V.str q.1, V.int q.2])) ts qs
theorem TupsAt.keep {H H' : Hp} {ts : List Addr} {qs : List (Str × Int)} (h : TupsAt H ts qs) (k : ∀ t xs, H t = some (.tup xs) → H' t = some (.tup xs)) : TupsAt H' ts qs := Paired.mono (fun _ _ e => k _ _ e) h
theorem TupsAt.cD {K : PySem.W.Frag} {H : Hp} : ∀ {ts : List Addr} {qs : List (Str × Int)}, TupsAt H ts qs → Paired (fun p kv => SqT K H p [kV kv.1, kv.2]) ts (cD qs)
  | _, _, .nil => .nil
  | _, _, .cons h t => .cons (.inl (.inl h)) (TupsAt.cD t)
theorem SameP.tup {p : Addr} {H H' : Hp} {c : Addr} {ns : List Int} {u r : Int} (s : SameP p H H') (P : PenAt H p c ns u r) (t : Addr) (xs : List V) (h : H t = some (.tup xs)) : H' t = some (.tup xs) := by
  obtain ⟨kvs, hp, _⟩ := P.ob
  exact s _ _ h (ne_of h hp fun z => nomatch z)
theorem PenAt.nd {H : Hp} {p c : Addr} {ns : List Int} {u r : Int} (P : PenAt H p c ns u r) {d : Addr} (h : H d = none) : d ≠ p := by
  obtain ⟨kvs, hp, _⟩ := P.ob
  exact (ne_of_none hp h).symm
theorem PenAt.nc {H : Hp} {p c : Addr} {ns : List Int} {u r : Int} (P : PenAt H p c ns u r) {d : Addr} (h : H d = none) : d ≠ c := (ne_of_none P.cl h).symm
theorem PenAt.nl {H : Hp} {p c : Addr} {ns : List Int} {u r : Int} (P : PenAt H p c ns u r) {d : Addr} {xs : List V} (h : H d = some (.lst xs)) : d ≠ p := by
  obtain ⟨kvs, hp, _⟩ := P.ob
  exact ne_of h hp fun z => nomatch z
/-- what is new to a heap is new to the one before -/
theorem SameP.none {p : Addr} {H H' : Hp} (s : SameP p H H') {d : Addr} (h : H' d = none) (n : d ≠ p) : H d = none := by
  cases e : H d with
  | none => rfl
  | some o => rw [s _ _ e n] at h; cases h
theorem Same.none {H H' : Hp} (s : Same H H') {d : Addr} (h : H' d = none) : H d = none := by
  cases e : H d with
  | none => rfl
  | some o => rw [s _ _ e] at h; cases h
/-! ### loads made by a call of the class -/
section
variable {C : Addr} {σ : L2.St} {H : Hp} {Q : Addr → Hp → Prop}
theorem made_load {y : List Str} {zs : List V} {ps : List (Str × Int)} (hz : zs.length = y.length) (hk : kwD y zs = cD ps) (nd : (ps.map (·.1)).Nodup) (few : ps.length ≤ 1000) (wd : ∀ p ∈ ps, wordB p.1 = true)
    (h : ∀ (H' : Hp) (x : Addr) (ps' : List (Str × Int)), Same H H' → H x = none → LoadAt C H' x ps' → (∀ z, ct ps' z = ct ps z) → Q x H') :
    ∀ x dx, H x = Option.none → H dx = Option.none → dx ≠ x → spKw y (spInitB C) (V.ref x :: zs) (upd (upd H dx (.own x)) x (.ins C dx [])) (fun v H3 => v = .non ∧ Q x H3) E0 := by
  intro x dx hx hdx ne
  refine ⟨.ref x, zs, rfl, hz, fun d hd => ?_⟩
  have ndx : d ≠ x := fun e => by rw [e, upd_same] at hd; cases hd
  refine ⟨x, dx, d, ps, [], rfl, by rw [upd_ne ndx.symm, upd_same], by decide, ⟨by rw [upd_same, hk], nd, few, wd⟩, fun H4 t ps' keep hx4 ht can cts => ⟨rfl, ?_⟩⟩
  refine h H4 x ps' (fun b o eb => ?_) hx ⟨dx, t, hx4, ht, can⟩ cts
  have nb : b ≠ x := ne_of_none eb hx
  have nb2 : b ≠ dx := ne_of_none eb hdx
  refine keep b o nb ?_
  by_cases e : b = d
  · exfalso
    rw [upd_ne ndx] at hd
    rw [← e, upd_ne nb2, eb] at hd
    cases hd
  · rw [upd_ne e, upd_ne nb, upd_ne nb2]
    exact eb
end
end Ld
namespace Ld
open PySem PySem.Spec PyProof.Rows L2
open TL
/-! ### texts of loads, as functions -/
abbrev txI (i : Int) : Str := Str.ofString (toString i)
theorem tl_txI (i : Int) : tl (txI i) = if i < 0 then 45 :: numL i.natAbs else numL i.natAbs := by
  cases i with
  | ofNat n =>
    have h : ¬ (Int.ofNat n < 0) := by simp
    rw [if_neg h]
    exact tl_num n
  | negSucc m =>
    rw [if_pos (Int.negSucc_lt_zero m)]
    have e : toString (Int.negSucc m) = "-" ++ toString ((m + 1 : Nat)) := rfl
    have e2 : toString (((m + 1 : Nat) : Int)) = toString (m + 1) := rfl
    show tl (Str.ofString (toString (Int.negSucc m))) = 45 :: numL (m + 1)
    rw [e, tl_ofString, String.toList_append, List.map_append, ← tl_num (m + 1), e2, tl_ofString]
    rfl
theorem txI_inj {i j : Int} (h : txI i = txI j) : i = j := by
  have e : tl (txI i) = tl (txI j) := by rw [h]
  rw [tl_txI, tl_txI] at e
  have key : ∀ {m n : Nat}, 45 :: numL m ≠ numL n := fun {m n} h => by
    have : 45 ∈ numL n := by rw [← h]; exact List.mem_cons_self
    exact numL_free (.inl (by decide)) this
  by_cases hi : i < 0 <;> by_cases hj : j < 0
  · rw [if_pos hi, if_pos hj] at e
    have := numL_inj (List.cons.inj e).2
    omega
  · rw [if_pos hi, if_neg hj] at e
    exact absurd e key
  · rw [if_neg hi, if_pos hj] at e
    exact absurd e.symm key
  · rw [if_neg hi, if_neg hj] at e
    have := numL_inj e
    omega
theorem txI_len {i : Int} {k : Nat} (h0 : 0 < k) (h : i.natAbs < 10 ^ k) : (txI i).length ≤ k + 1 := by
  rw [len_tl, tl_txI]
  have := numL_len h0 h
  split
  · rw [List.length_cons]
    omega
  · omega
theorem intText_txI {i : Int} (h : i.natAbs < 10 ^ 600) : intText? (txI i) = some i := by
  have hl := numL_len (by decide : 0 < 600) h
  have hlen : (txI i).length ≤ 4300 := Nat.le_trans (txI_len (by decide) h) (by decide)
  by_cases hi : i < 0
  · have e : (txI i).cps.toList = 45 :: numL i.natAbs := by
      have := tl_txI i
      rwa [if_pos hi] at this
    rw [intText_neg e (numL_digits _) (numL_ne _) hlen, numL_val]
    congr 1
    omega
  · have e : (txI i).cps.toList = numL i.natAbs := by
      have := tl_txI i
      rwa [if_neg hi] at this
    rw [intText_digits (by rw [e]; exact numL_digits _) (by rw [e]; exact numL_ne _) hlen, e, numL_val]
    congr 1
    omega
theorem txI_free {i : Int} : 32 ∉ tl (txI i) := by
  rw [tl_txI]
  split
  · intro h
    rcases List.mem_cons.mp h with h | h
    · cases h
    · exact numL_free (.inl (by decide)) h
  · exact numL_free (.inl (by decide))
/-- one count -/
def oneT (p : Str × Int) : Str := p.1 ++ " " ++ txI p.2
def joinT (ps : List (Str × Int)) : Str := Str.join " " (ps.map oneT)
/-- the text of a load -/
def txt (ps : List (Str × Int)) : Str := if ps.isEmpty = true then "-" else joinT ps
def partsOf (ps : List (Str × Int)) : List Str := ps.flatMap fun p => [p.1, txI p.2]
theorem tl_sp : tl (" " : Str) = [32] := by decide +kernel
theorem joinL_parts : ∀ ps : List (Str × Int), joinL [32] ((ps.map oneT).map tl) = joinL [32] ((partsOf ps).map tl)
  | [] => rfl
  | [p] => by
    show tl (p.1 ++ " " ++ txI p.2) = tl p.1 ++ ([32] ++ tl (txI p.2))
    rw [tl_append, tl_append, tl_sp, List.append_assoc]
  | p :: q :: r => by
    have ih := joinL_parts (q :: r)
    show tl (p.1 ++ " " ++ txI p.2) ++ ([32] ++ joinL [32] (((q :: r).map oneT).map tl)) = tl p.1 ++ ([32] ++ (tl (txI p.2) ++ ([32] ++ joinL [32] ((partsOf (q :: r)).map tl))))
    rw [ih, tl_append, tl_append, tl_sp]
    simp only [List.append_assoc]
theorem joinT_eq (ps : List (Str × Int)) : joinT ps = Txt.join " " (partsOf ps) := by
  refine ext_tl ?_
  unfold joinT
  rw [join_eq, tl_join, tl_join, tl_sp]
  exact joinL_parts ps
theorem word_free {z : Str} (h : wordB z = true) : 32 ∉ tl z := fun hm => by
  unfold wordB at h
  rw [Bool.and_eq_true] at h
  have h2 := List.all_eq_true.mp h.2 32 hm
  revert h2
  decide
theorem parts_free {ps : List (Str × Int)} (hw : ∀ p ∈ ps, wordB p.1 = true) : ∀ z ∈ partsOf ps, 32 ∉ tl z := fun z hz => by
  unfold partsOf at hz
  obtain ⟨p, hp, h⟩ := List.mem_flatMap.mp hz
  simp only [List.mem_cons, List.not_mem_nil, or_false] at h
  rcases h with rfl | rfl
  · exact word_free (hw p hp)
  · exact txI_free
theorem split_joinT {ps : List (Str × Int)} (hne : ps ≠ []) (hw : ∀ p ∈ ps, wordB p.1 = true) : Txt.split (joinT ps) " " = partsOf ps := by
  rw [joinT_eq]
  refine split_join (s := 32) (S := []) tl_sp (by decide +kernel) (fun e => ?_) (parts_free hw)
  cases ps with
  | nil => exact hne rfl
  | cons p r => exact nomatch e
theorem parts_inj : ∀ {as bs : List (Str × Int)}, partsOf as = partsOf bs → as = bs
  | [], [], _ => rfl
  | [], q :: r, h => nomatch h
  | p :: r, [], h => nomatch h
  | p :: r, q :: s, h => by
    have h' : p.1 :: txI p.2 :: partsOf r = q.1 :: txI q.2 :: partsOf s := h
    obtain ⟨e1, h'⟩ := List.cons.inj h'
    obtain ⟨e2, h'⟩ := List.cons.inj h'
    rw [parts_inj h', Prod.ext e1 (txI_inj e2)]
theorem tl_dash : tl ("-" : Str) = [45] := by decide +kernel
theorem joinT_head {ps : List (Str × Int)} (hne : ps ≠ []) (hw : ∀ p ∈ ps, wordB p.1 = true) : ∃ c r, tl (joinT ps) = c :: r ∧ 97 ≤ c ∧ c ≤ 122 := by
  cases ps with
  | nil => exact absurd rfl hne
  | cons p r =>
    have hp := hw p List.mem_cons_self
    have hl := wordB_len hp
    rw [len_tl] at hl
    unfold wordB at hp
    rw [Bool.and_eq_true] at hp
    have hz := List.all_eq_true.mp hp.2
    have h1 : ∃ s, tl (joinT (p :: r)) = tl p.1 ++ s := by
      unfold joinT
      rw [tl_join]
      cases r with
      | nil => exact ⟨[32] ++ tl (txI p.2), by
          show tl (p.1 ++ " " ++ txI p.2) = _
          rw [tl_append, tl_append, tl_sp, List.append_assoc]⟩
      | cons q s => exact ⟨[32] ++ tl (txI p.2) ++ (tl " " ++ joinL (tl " ") (((q :: s).map oneT).map tl)), by
          show tl (p.1 ++ " " ++ txI p.2) ++ _ = _
          rw [tl_append, tl_append, tl_sp]
          simp only [List.append_assoc]
          rfl⟩
    obtain ⟨s, h1⟩ := h1
    cases e : tl p.1 with
    | nil => rw [e] at hl; simp at hl
    | cons c t =>
      have hc := hz c (by show c ∈ tl p.1; rw [e]; exact List.mem_cons_self)
      unfold azB at hc
      rw [Bool.and_eq_true, decide_eq_true_eq, decide_eq_true_eq] at hc
      exact ⟨c, t ++ s, by rw [h1, e]; rfl, hc.1, hc.2⟩
theorem joinT_dash {ps : List (Str × Int)} (hne : ps ≠ []) (hw : ∀ p ∈ ps, wordB p.1 = true) : joinT ps ≠ "-" := fun e => by
  obtain ⟨c, r, h, h1, h2⟩ := joinT_head hne hw
  rw [e, tl_dash] at h
  have := (List.cons.inj h).1
  omega
theorem txt_inj {as bs : List (Str × Int)} (ha : ∀ p ∈ as, wordB p.1 = true) (hb : ∀ p ∈ bs, wordB p.1 = true) (h : txt as = txt bs) : as = bs := by
  unfold txt at h
  cases as with
  | nil =>
    cases bs with
    | nil => rfl
    | cons q s => exact absurd h.symm (joinT_dash (by simp) hb)
  | cons p r =>
    cases bs with
    | nil => exact absurd h (joinT_dash (by simp) ha)
    | cons q s =>
      have h' : joinT (p :: r) = joinT (q :: s) := h
      refine parts_inj ?_
      rw [← split_joinT (by simp) ha, ← split_joinT (by simp) hb, h']
end Ld
namespace Ld
open PySem PySem.Spec PyProof.Rows L2
/-- the text of a load -/
def spTextX (C : Addr) : Sp := fun vs H Q _ => ∃ (x : Addr) (ps : List (Str × Int)), vs = [.ref x] ∧ LoadAt C H x ps ∧ (∀ p ∈ ps, p.2.natAbs < 10 ^ 95) ∧ ∀ H', Same H H' → Q (.str (txt ps)) H'
abbrev sText : Stmt := inClass (top 14) 8
theorem log2_95 {n : Nat} (h : n < 10 ^ 95) : n.log2 < 1920 := by
  by_cases h0 : n = 0
  · rw [h0]
    decide
  · refine (Nat.log2_lt h0).mpr (Nat.lt_of_lt_of_le h ?_)
    decide +kernel
theorem join_eqT (ps : List (Str × Int)) : Txt.join " " (ps.map oneT) = joinT ps := TL.join_eq _ _
theorem empty_app (x : Str) : Str.empty ++ x = x := by
  refine TL.ext_tl ?_
  rw [TL.tl_append]
  rfl
section
variable {P : Program} {w : World} {K : PySem.W.Frag} {mg : Str → Option Value} {base : Heap} {C fi : Addr}
abbrev nText : List Str := ["self", "kind", "count"]
theorem scText : FnScope nText ["self"] (defScope sText) := ⟨rfl, rfl, rfl, by decide +kernel, rfl, by decide +kernel, by decide +kernel⟩
theorem ok_textX {f : Addr} {fd : FuncData} (F : Fun K "text" "Load.text" sText f fd) (T : LoadC K mg C fi) (mN : ∃ t, mg "NOTHING" = some (.str "-" t)) : FnOk P w K mg base CX0 1 f fd ["self"] (spTextX C) := by
  obtain ⟨tN, mN⟩ := mN
  refine F.ok scText (fun vs H Q E h => ?_) (fun cdv A outer s H vs Q E hr h => ?_)
  · obtain ⟨x, ps, rfl, _⟩ := h
    rfl
  · obtain ⟨x, ps, rfl, ⟨dx, t, h1, h2, can⟩, hb, q⟩ := h
    have nd : nText.Nodup := scText.nd
    refine ⟨_, pss_cons (ps_if (pt_not (pt_truth (pe_fld (pv 0) rfl) (fun _ => rfl))) (pss_one (ps_ret (pe_glob (v := .str "-") (by rfl) mN ⟨_, rfl⟩))) pss_nil)
      (pss_one (ps_ret (pe_join pe_str (pe_lock (pe_lc (own := [("kind", 1), ("count", 2)]) (g := gTup K 2 (gCons (gName 1) (gCons (gName 2) gNil))) (tt := tYes) rfl nd (pi_items (pe_fld (pv 0) rfl)) (blkOk_by (N := nText) (sc := defScope sText) (by decide +kernel))
        (fun _ _ _ _ _ => pg_tup rfl (pgs_cons (pg_name (i := 1) nd rfl (Or.inl rfl)) (pgs_cons (pg_name (i := 2) nd rfl (Or.inl rfl)) pgs_nil))) (fun _ _ _ _ _ => pts_nil)
        (fun _ _ _ _ _ => pe_joined (.cons (pe_fmt (pv 1)) (.cons pe_str (.cons (pe_fmt (pv 2)) .nil))))))))), ?_⟩
    refine ⟨_, rfl, x, C, dx, _, _, rfl, h1, T.c, T.nc, rfl, _, .inr (.inr ⟨cD ps, h2, rfl⟩), ?_⟩
    have ee : (cD ps).isEmpty = ps.isEmpty := by
      unfold cD
      cases ps <;> rfl
    have et0 : txt ps = if ps.isEmpty = true then ("-" : Str) else joinT ps := rfl
    rw [ee]
    refine ifb (fun e => ?_) (fun e => ?_)
    · rw [Bool.not_not] at e
      rw [if_pos e] at et0
      rw [et0] at q
      exact q H (fun _ _ e => e)
    rw [Bool.not_not] at e
    rw [if_neg (by rw [e]; exact Bool.false_ne_true)] at et0
    rw [et0] at q
    have nxt : x ≠ t := ne_of h1 h2 (fun z => nomatch z)
    refine ⟨⟨_, rfl⟩, t, _, h2, trivial, fun od => ⟨_, rfl, x, C, dx, _, _, rfl, by rw [upd_ne nxt]; exact h1, T.c, T.nc, rfl, t, od, cD ps, rfl, upd_same, fun D hD => ?_⟩⟩
    have nDt : D ≠ t := fun e => by rw [e, upd_same] at hD; cases hD
    have hD0 : H D = none := by rw [upd_ne nDt] at hD; exact hD
    refine lc_it (te := fun σ H Q => tJs [tFmt (tVar 1), tC (V.str (Str.ofString " ")), tFmt (tVar 2)] Str.empty σ H fun out H1 => Q (V.str out) H1) (H1 := upd H t (.frz od (.dK (cD ps)))) (walk_items (d := t) (o := od) (kvs := cD ps)) (fun i H' => H' D = some (.lst (((ps.take i).map oneT).map V.str)) ∧ H' t = some (.frz od (.dK (cD ps))) ∧ ∀ b o, H b = some o → b ≠ t → H' b = some o)
      ⟨upd_same, by rw [upd_ne nDt.symm, upd_same], fun b o eb nb => by rw [upd_ne (ne_of_none eb hD0), upd_ne nb]; exact eb⟩ (fun i H' _ ⟨_, e, _⟩ => e) ?_ ?_
    · rintro i v H2 H3 hi ⟨eD, et, keep⟩ ⟨T1, k1, v1, rfl, hT, rfl, ek, ev⟩
      rw [cD_len] at hi
      have hp : (cD ps)[i]? = some (Sum.inr ps[i].1, V.int ps[i].2) := by
        unfold cD
        rw [List.getElem?_map, List.getElem?_eq_getElem hi]
        rfl
      have ek : (cD ps)[i]?.map (fun kv : Key × V => kV kv.1) = some k1 := ek
      have ev : (cD ps)[i]?.map Prod.snd = some v1 := ev
      rw [hp] at ek ev
      cases ek
      cases ev
      have hmem : ps[i] ∈ ps := List.getElem_mem hi
      have hw := wordB_len (can.wd _ hmem)
      have hi60 := hb _ hmem
      have hl : (Str.ofString (toString ps[i].2)).length ≤ 95 + 1 := txI_len (by decide) hi60
      have nTD : T1 ≠ D := (ne_of_none eD hT).symm
      have nTt : T1 ≠ t := (ne_of_none et hT).symm
      have l8 : (Str.empty ++ ps[i].1 ++ (" " : Str) ++ Str.ofString (toString ps[i].2)).length ≤ 110 := by
        rw [len_app, len_app, len_app]
        have e0 : Str.empty.length = 0 := rfl
        have e1 : ((" " : Str)).length = 1 := by decide +kernel
        omega
      have l1 : (Str.empty ++ ps[i].1).length ≤ 110 := by
        rw [len_app, len_app] at l8
        omega
      have l2 : (Str.empty ++ ps[i].1 ++ (" " : Str)).length ≤ 110 := by
        rw [len_app] at l8
        omega
      have big : 110 ≤ sizeLine := by decide
      refine ⟨T1, _, rfl, .inl (.inl upd_same), rfl, _, _, rfl, _, _, rfl, rfl, rfl, _, rfl, .inl ⟨_, rfl, Nat.le_trans hw.2 (by decide), _, rfl, Nat.le_trans l1 big, _, rfl, Nat.le_trans l2 big, _, rfl, .inr ⟨_, rfl, log2_95 hi60, _, rfl, Nat.le_trans l8 big, _, by rw [upd_ne nTD.symm]; exact eD, ?_, ?_, ?_, ?_⟩⟩⟩
      · rw [List.length_map, List.length_map, List.length_take]
        exact Nat.lt_of_le_of_lt (Nat.min_le_right _ _) (Nat.lt_of_le_of_lt can.few (by decide))
      · rw [upd_same, List.take_add_one, List.getElem?_eq_getElem hi, List.map_append, List.map_append, empty_app]
        rfl
      · rw [upd_ne nDt.symm, upd_ne nTt.symm]
        exact et
      · intro b o eb nb
        have e2 := keep b o eb nb
        rw [upd_ne (ne_of_none eb hD0), upd_ne (ne_of_none e2 hT)]
        exact e2
    · rintro H2 ⟨eD, et, keep⟩
      rw [cD_len, List.take_of_length_le (Nat.le_refl _)] at eD
      have lone : ∀ y ∈ ps.map oneT, y.length ≤ 110 := fun y hy => by
        obtain ⟨p, hp, rfl⟩ := List.mem_map.mp hy
        have hw := wordB_len (can.wd _ hp)
        have hl := txI_len (by decide) (hb _ hp)
        unfold oneT
        rw [len_app, len_app]
        have e1 : ((" " : Str)).length = 1 := by decide +kernel
        omega
      refine ⟨et, _, D, ps.map oneT, rfl, rfl, .inl (.inl (.inl (by rw [upd_ne nDt]; exact eD))), ?_, ?_⟩
      · have h1 : ((ps.map oneT).map (·.length)).sum ≤ (ps.map oneT).length * 110 := by
          generalize ps.map oneT = tx at lone
          clear eD
          induction tx with
          | nil => exact Nat.zero_le _
          | cons y r ih =>
            rw [List.map_cons, List.sum_cons, List.length_cons]
            have := ih (fun z hz => lone z (List.mem_cons_of_mem _ hz))
            have := lone y List.mem_cons_self
            omega
        have e1 : ((" " : Str)).length = 1 := by decide +kernel
        rw [e1]
        have := can.few
        rw [List.length_map] at h1 ⊢
        have e2 : sizeLine = 16777216 := sizeLine_eq
        omega
      · rw [join_eqT]
        refine q _ fun b o eb => ?_
        by_cases e : b = t
        · rw [e, upd_same, ← h2, ← e, eb]
        · rw [upd_ne e]
          exact keep b o eb e
end
end Ld
namespace Ld
open PySem PySem.Spec PyProof.Rows L2
open TL
/-! ### slices of texts, as lists -/
theorem take_min {α : Type} (l : List α) (k : Nat) : l.take (min k l.length) = l.take k := by
  by_cases h : k ≤ l.length
  · rw [Nat.min_eq_left h]
  · rw [Nat.min_eq_right (by omega), List.take_of_length_le (Nat.le_refl _), List.take_of_length_le (by omega)]
theorem drop_min {α : Type} (l : List α) (k : Nat) : l.drop (min k l.length) = l.drop k := by
  by_cases h : k ≤ l.length
  · rw [Nat.min_eq_left h]
  · rw [Nat.min_eq_right (by omega), List.drop_of_length_le (Nat.le_refl _), List.drop_of_length_le (by omega)]
theorem tl_cutTo (z : Str) (k : Nat) : tl (cutS z none (some (k : Int))) = (tl z).take k := by
  unfold cutS
  rw [HT.sIx_none, HT.sIx_nat, List.drop_zero, Nat.sub_zero, len_tl]
  exact take_min _ _
theorem tl_cutFrom (z : Str) (k : Nat) : tl (cutS z (some (k : Int)) none) = (tl z).drop k := by
  unfold cutS
  rw [HT.sIx_none, HT.sIx_nat, len_tl]
  show ((tl z).drop (min k (tl z).length)).take _ = _
  rw [drop_min, List.take_of_length_le]
  rw [List.length_drop]
  omega
theorem tl_cutMid (z : Str) (a b : Nat) : tl (cutS z (some (a : Int)) (some (b : Int))) = ((tl z).drop a).take (b - a) := by
  unfold cutS
  rw [HT.sIx_nat, HT.sIx_nat, len_tl]
  show ((tl z).drop (min a (tl z).length)).take _ = _
  rw [drop_min]
  by_cases ha : a ≤ (tl z).length
  · by_cases hb : b ≤ (tl z).length
    · rw [Nat.min_eq_left ha, Nat.min_eq_left hb]
    · rw [Nat.min_eq_left ha, Nat.min_eq_right (by omega), List.take_of_length_le (by rw [List.length_drop]; exact Nat.le_refl _), List.take_of_length_le (by rw [List.length_drop]; omega)]
  · rw [List.drop_of_length_le (by omega), List.take_nil, List.take_nil]
/-! ### the order of lists of signs -/
theorem le_great : ∀ (k n : Nat) (l : List Nat), l.length ≤ n → (∀ c ∈ l, c ≤ 122) → ¬ (l.take k ++ (List.replicate n 122).drop k < l)
  | _, _, [], _, _ => List.not_lt_nil _
  | k, 0, c :: t, h, _ => by simp at h
  | 0, n + 1, c :: t, h, hc => fun hlt => by
    have h1 : (122 :: List.replicate n 122 : List Nat) < c :: t := hlt
    have h2 := hc c List.mem_cons_self
    rcases List.cons_lt_cons_iff.mp h1 with h3 | ⟨rfl, h3⟩
    · omega
    · exact le_great 0 n t (by simpa using h) (fun d hd => hc d (List.mem_cons_of_mem _ hd)) h3
  | k + 1, n + 1, c :: t, h, hc => fun hlt => by
    have h1 : c :: (t.take k ++ (List.replicate n 122).drop k) < c :: t := hlt
    rcases List.cons_lt_cons_iff.mp h1 with h3 | ⟨_, h3⟩
    · omega
    · exact le_great k n t (by simpa using h) (fun d hd => hc d (List.mem_cons_of_mem _ hd)) h3
theorem lt_great {ys l : List Nat} {k n : Nat} (h : ys < l) (hl : l.length ≤ n) (hc : ∀ c ∈ l, c ≤ 122) : ys < l.take k ++ (List.replicate n 122).drop k :=
  Classical.byContradiction fun hn => by
    have h1 : l.take k ++ (List.replicate n 122).drop k ≤ ys := hn
    have h2 : l ≤ l.take k ++ (List.replicate n 122).drop k := le_great k n l hl hc
    exact List.le_trans h2 h1 h
theorem tl_last : tl ("zzzzzzzz" : Str) = List.replicate 8 122 := by decide +kernel
abbrev sKr : Stmt := top 18
abbrev sCr : Stmt := top 19
abbrev nKr : List Str := ["part", "last", "reach", "letter", "greatest"]
abbrev nCr : List Str := ["part", "start", "reach", "letter"]
/-- kind_reach, the whole part a word behind the last one -/
def spKr : Sp := fun vs H Q _ => ∃ z y : Str, vs = [.str z, .str y] ∧ wordB z = true ∧ tl y < tl z ∧ Q (.int (z.length : Int)) H
/-- count_reach of a number other than 0 -/
def spCr : Sp := fun vs H Q _ => ∃ i : Int, vs = [.str (txI i)] ∧ i ≠ 0 ∧ i.natAbs < 10 ^ 80 ∧ Q (.int ((txI i).length : Int)) H
section
variable {P : Program} {w : World} {K : PySem.W.Frag} {mg : Str → Option Value} {base : Heap}
theorem scKr : FnScope nKr ["part", "last"] (defScope sKr) := ⟨rfl, rfl, rfl, by decide +kernel, rfl, by decide +kernel, by decide +kernel⟩
theorem scCr : FnScope nCr ["part"] (defScope sCr) := ⟨rfl, rfl, rfl, by decide +kernel, rfl, by decide +kernel, by decide +kernel⟩
theorem ok_kr {f : Addr} {fd : FuncData} (F : Fun K "kind_reach" "kind_reach" sKr f fd) (mMost : ∃ t, mg "MOST_LETTERS" = some (.int 8 t)) (mLast : ∃ t, mg "LAST_KIND" = some (.str "zzzzzzzz" t)) : FnOk P w K mg base CX0 1 f fd ["part", "last"] spKr := by
  obtain ⟨t8, mMost⟩ := mMost
  obtain ⟨tL, mLast⟩ := mLast
  refine F.ok scKr (fun vs H Q E h => ?_) (fun cdv A outer s H vs Q E hr h => ?_)
  · obtain ⟨z, y, rfl, _⟩ := h
    rfl
  · obtain ⟨z, y, rfl, hz, hlt, q⟩ := h
    have nd := scKr.nd
    have hzl := wordB_len hz
    have hzs : z.length ≤ sizeLine := Nat.le_trans hzl.2 (by decide)
    have hzc : ∀ c ∈ tl z, 97 ≤ c ∧ c ≤ 122 := by
      have h2 := hz
      unfold wordB at h2
      rw [Bool.and_eq_true] at h2
      intro c hc
      have h3 := List.all_eq_true.mp h2.2 c hc
      unfold azB at h3
      rw [Bool.and_eq_true, decide_eq_true_eq, decide_eq_true_eq] at h3
      exact h3
    have hcut : tl (cutS z none (some 8)) = tl z := by
      have := tl_cutTo z 8
      rw [show ((8 : Nat) : Int) = 8 from rfl] at this
      rw [this, List.take_of_length_le]
      rw [← len_tl]
      exact hzl.2
    have hsz : (cutS z none (some 8)).cps.size = z.length := by
      have : (tl (cutS z none (some 8))).length = (cutS z none (some 8)).cps.size := Array.length_toList
      rw [← this, hcut, ← len_tl]
    refine ⟨_, (pss_cons (ps_set (i := 2) nd rfl (Or.inl rfl) pe_int)
      (pss_cons (ps_for PassesOwn.never rfl (pi_str (pe_slice sl_str (pv 0) po_none (po_some (pe_glob (v := .int 8) (by rfl) mMost ⟨_, rfl⟩)))) (pg_name (i := 3) nd rfl (Or.inl rfl))
        (pss_cons (ps_if (pt_not (pt_chain op_le_str op_le_str pe_str (pv 3) pe_str)) (pss_one ps_break) pss_nil)
        (pss_cons (ps_set (i := 4) nd rfl (Or.inl rfl) (pe_op op_add_str (pe_slice sl_str (pv 0) po_none (po_some (pe_op op_add (pv 2) pe_int))) (pe_slice sl_str (pe_glob (v := .str "zzzzzzzz") (by rfl) mLast ⟨_, rfl⟩) (po_some (pe_op op_add (pv 2) pe_int)) po_none)))
        (pss_cons (ps_if (pt_cmpR op_le_str (pv 4) (pv 1) (nomark _)) (pss_one ps_break) pss_nil)
        (pss_one (ps_aug (i := 2) nd rfl (Or.inl rfl) pe_int ip_add))))))
      (pss_one (ps_ret (pv 2))))), ?_⟩
    refine seq_step (fun σ' H' => σ' = [some (.str z), some (.str y), some (.int 0), none, none] ∧ H' = H) (fun R hR => hR _ _ ⟨rfl, rfl⟩) (fun σ1 H1 h1 => ?_)
    obtain ⟨rfl, rfl⟩ := h1
    refine seq_step (fun σ' H' => (∃ x3 x4, σ' = [some (.str z), some (.str y), some (.int (z.length : Int)), x3, x4]) ∧ H' = H1) (fun R hR => ?_) (fun σ2 H2 h2 => ?_)
    · refine ⟨_, rfl, 8, rfl, z, rfl, hzs, _, rfl, ?_⟩
      refine for_it walk_str (fun i σ' H' => (∃ x3 x4, σ' = [some (.str z), some (.str y), some (.int ((i : Nat) : Int)), x3, x4]) ∧ H' = H1) ⟨⟨_, _, rfl⟩, rfl⟩ (fun _ _ _ _ _ => trivial) ?_ (fun σ' H' h => hR _ _ (by rw [hsz] at h; exact h))
      rintro i x σ' H2 H3 hi ⟨⟨x3, x4, rfl⟩, rfl⟩ ⟨rfl, ch, hch, rfl⟩
      rw [hsz] at hi
      have hch2 : (tl z)[i]? = some ch := by
        rw [← hcut]
        show (cutS z none (some 8)).cps.toList[i]? = some ch
        rw [Array.getElem?_toList]
        exact hch
      have hcc := hzc ch (List.mem_of_getElem? hch2)
      have e1 : (!decide ((⟨#[ch]⟩ : Str).cps.toList < (("a" : Str)).cps.toList)) = true := by
        have : decide ((⟨#[ch]⟩ : Str).cps.toList < (("a" : Str)).cps.toList) = decide (ch < 97) := lt_one ch 97
        rw [this, decide_eq_false (by omega)]
        rfl
      have e2 : (!decide ((("z" : Str)).cps.toList < (⟨#[ch]⟩ : Str).cps.toList)) = true := by
        have : decide ((("z" : Str)).cps.toList < (⟨#[ch]⟩ : Str).cps.toList) = decide (122 < ch) := lt_one 122 ch
        rw [this, decide_eq_false (by omega)]
        rfl
      refine seq_step (fun σ' H' => σ' = [some (.str z), some (.str y), some (.int ((i : Nat) : Int)), some (.str ⟨#[ch]⟩), x4] ∧ H' = H3) (fun R hR => ?_) (fun σ4 H4 h4 => ?_)
      · refine ⟨_, rfl, _, _, rfl, rfl, _, rfl, ?_⟩
        rw [e1]
        refine iteT ⟨_, _, rfl, rfl, _, rfl, ?_⟩
        rw [e2]
        exact iteF (hR _ _ ⟨rfl, rfl⟩)
      obtain ⟨rfl, rfl⟩ := h4
      have ei : ((i : Nat) : Int) + 1 = ((i + 1 : Nat) : Int) := by omega
      refine seq_step (fun σ' H' => ∃ g : Str, σ' = [some (.str z), some (.str y), some (.int ((i : Nat) : Int)), some (.str ⟨#[ch]⟩), some (.str g)] ∧ tl g = (tl z).take (i + 1) ++ (List.replicate 8 122).drop (i + 1) ∧ H' = H4) (fun R hR => ?_) (fun σ5 H5 h5 => ?_)
      · refine ⟨_, rfl, _, rfl, _, _, rfl, rfl, _, rfl, z, rfl, hzs, _, rfl, _, _, rfl, rfl, _, rfl, _, rfl, by decide +kernel, _, _, rfl, rfl, ?_, hR _ _ ⟨_, rfl, ?_, rfl⟩⟩
        · have h1 := cutS_length z none (some (((i : Nat) : Int) + 1))
          have h2 := cutS_length ("zzzzzzzz" : Str) (some (((i : Nat) : Int) + 1)) none
          have h3 : ("zzzzzzzz" : Str).length = 8 := by decide +kernel
          have h4 : sizeLine = 16777216 := sizeLine_eq
          omega
        · rw [tl_append, ei, tl_cutTo, tl_cutFrom, tl_last]
      obtain ⟨g, rfl, hg, rfl⟩ := h5
      refine seq_step (fun σ' H' => σ' = [some (.str z), some (.str y), some (.int ((i : Nat) : Int)), some (.str ⟨#[ch]⟩), some (.str g)] ∧ H' = H5) (fun R hR => ?_) (fun σ6 H6 h6 => ?_)
      · refine ⟨_, rfl, _, rfl, _, _, rfl, rfl, _, rfl, ?_⟩
        have e3 : (!decide ((y : Str).cps.toList < g.cps.toList)) = false := by
          have h1 : tl y < tl g := by
            rw [hg]
            exact lt_great hlt (by rw [← len_tl]; exact hzl.2) fun c hc => (hzc c hc).2
          rw [decide_eq_true h1]
          rfl
        rw [e3]
        exact iteF (hR _ _ ⟨rfl, rfl⟩)
      obtain ⟨rfl, rfl⟩ := h6
      exact ⟨_, rfl, _, _, rfl, rfl, ⟨some (.str ⟨#[ch]⟩), some (.str g), congrArg (fun n : Int => [some (V.str z), some (.str y), some (.int n), some (.str ⟨#[ch]⟩), some (.str g)]) ei⟩, rfl⟩
    obtain ⟨⟨x3, x4, rfl⟩, rfl⟩ := h2
    exact ⟨_, rfl, q⟩
end
end Ld
namespace Ld
open PySem PySem.Spec PyProof.Rows L2
open TL
theorem numL_head {n : Nat} (h : 0 < n) : ∃ c r, numL n = c :: r ∧ c ≠ 48 := by
  induction n using Nat.strongRecOn with
  | _ n ih =>
    by_cases h10 : n < 10
    · exact ⟨48 + n, [], numL_lt h10, by omega⟩
    · obtain ⟨c, r, e, hc⟩ := ih (n / 10) (by omega) (by omega)
      exact ⟨c, r ++ [48 + n % 10], by rw [numL_step (by omega), e]; rfl, hc⟩
theorem starts_dash {x : Str} {c : Nat} {r : List Nat} (h : tl x = c :: r) : Txt.startswith x "-" = decide (c = 45) := by
  unfold Txt.startswith
  have hl : x.length = r.length + 1 := by rw [len_tl, h]; rfl
  have h1 : ("-" : Str).length = 1 := by decide +kernel
  rw [PySem.StrLaws.subAt_eq, h1, hl]
  have e1 : (("-" : Str)).cps.toList = [45] := tl_dash
  have e2 : x.cps.toList = c :: r := h
  rw [e1, e2, List.drop_zero]
  show (decide (0 + 1 ≤ r.length + 1) && ([c] == [45])) = _
  rw [decide_eq_true (by omega), Bool.true_and]
  rw [Bool.eq_iff_iff, beq_iff_eq, decide_eq_true_eq]
  exact ⟨fun e => (List.cons.inj e).1, fun e => by rw [e]⟩
theorem tl_dig : tl ("0123456789" : Str) = [48, 49, 50, 51, 52, 53, 54, 55, 56, 57] := by decide +kernel
section
variable {P : Program} {w : World} {K : PySem.W.Frag} {mg : Str → Option Value} {base : Heap}
theorem ok_cr {f : Addr} {fd : FuncData} (F : Fun K "count_reach" "count_reach" sCr f fd) (mDig : ∃ t, mg "DIGITS" = some (.str "0123456789" t)) (mMD : ∃ t, mg "MOST_DIGITS" = some (.int 80 t)) : FnOk P w K mg base CX0 1 f fd ["part"] spCr := by
  obtain ⟨tD, mDig⟩ := mDig
  obtain ⟨tM, mMD⟩ := mMD
  refine F.ok scCr (fun vs H Q E h => ?_) (fun cdv A outer s H vs Q E hr h => ?_)
  · obtain ⟨i, rfl, _⟩ := h
    rfl
  · obtain ⟨i, rfl, hi0, hi, q⟩ := h
    have nd := scCr.nd
    have hlen := txI_len (by decide) hi
    have hzs : (txI i).length ≤ sizeLine := Nat.le_trans hlen (by decide)
    obtain ⟨c0, r0, hnum, hc0⟩ := numL_head (n := i.natAbs) (by omega)
    have hnl := numL_len (by decide) hi
    -- where the digits begin
    obtain ⟨st, hst, hdr, hsw⟩ : ∃ st : Nat, (st = 0 ∨ st = 1) ∧ (tl (txI i)).drop st = numL i.natAbs ∧ Txt.startswith (txI i) "-" = decide (st = 1) := by
      by_cases h : i < 0
      · have e : tl (txI i) = 45 :: numL i.natAbs := by rw [tl_txI, if_pos h]
        exact ⟨1, .inr rfl, by rw [e]; rfl, by rw [starts_dash e]; rfl⟩
      · have e : tl (txI i) = c0 :: r0 := by rw [tl_txI, if_neg h, hnum]
        refine ⟨0, .inl rfl, by rw [List.drop_zero, tl_txI, if_neg h], ?_⟩
        rw [starts_dash e]
        have : c0 ≠ 45 := by
          have := numL_digits i.natAbs c0 (by rw [hnum]; exact List.mem_cons_self)
          omega
        rw [decide_eq_false this]
        rfl
    have htl : (txI i).length = st + (numL i.natAbs).length := by
      rw [len_tl, ← hdr, List.length_drop]
      have : 1 ≤ (tl (txI i)).length := by
        have h1 : 0 < (numL i.natAbs).length := List.length_pos_iff.mpr (numL_ne _)
        rw [tl_txI]
        split
        · rw [List.length_cons]
          omega
        · omega
      omega
    generalize hS : txI i = S at *
    have hcut : tl (cutS S (some (st : Int)) (some ((st : Int) + 80))) = numL i.natAbs := by
      have e : (st : Int) + 80 = ((st + 80 : Nat) : Int) := by omega
      rw [e, tl_cutMid, hdr, List.take_of_length_le (by omega)]
    have hsz : (cutS S (some (st : Int)) (some ((st : Int) + 80))).cps.size = (numL i.natAbs).length := by
      have : (tl (cutS S (some (st : Int)) (some ((st : Int) + 80)))).length = (cutS S (some (st : Int)) (some ((st : Int) + 80))).cps.size := Array.length_toList
      rw [← this, hcut]
    refine ⟨_, (pss_cons (ps_set (i := 1) nd rfl (Or.inl rfl) (pe_ifExp (pt_val (pe_m1 PySem.F.slot_str_startswith PySem.F.type_str_startswith mt_startswith (pv 0) pe_str)) pe_int pe_int))
      (pss_cons (ps_set (i := 2) nd rfl (Or.inl rfl) (pv 1))
      (pss_cons (ps_for PassesOwn.never rfl (pi_str (pe_slice sl_str (pv 0) (po_some (pv 1)) (po_some (pe_op op_add (pv 1) (pe_glob (v := .int 80) (by rfl) mMD ⟨_, rfl⟩))))) (pg_name (i := 3) nd rfl (Or.inl rfl))
        (pss_cons (ps_if (PW.pt (pw_or (pt_cmpR op_notIn_sign (pv 3) (pe_glob (v := .str "0123456789") (by rfl) mDig ⟨_, rfl⟩) (by rfl)) (pw_or1 (PW.pt (pw_and (pt_cmpR op_eq (pv 3) pe_str (nomark _)) (pw_and1 (pt_cmpR op_eq (pv 2) (pv 1) (nomark _)))))))) (pss_one ps_break) pss_nil)
        (pss_one (ps_aug (i := 2) nd rfl (Or.inl rfl) pe_int ip_add))))
      (pss_one (ps_ret (pv 2)))))), ?_⟩
    refine seq_step (fun σ' H' => σ' = [some (.str S), some (.int (st : Int)), none, none] ∧ H' = H) (fun R hR => ?_) (fun σ1 H1 h1 => ?_)
    · refine ⟨_, rfl, ⟨_, rfl⟩, _, _, rfl, rfl, _, rfl, ?_⟩
      rw [hsw]
      rcases hst with rfl | rfl
      · exact iteF (hR _ _ ⟨rfl, rfl⟩)
      · exact iteT (hR _ _ ⟨rfl, rfl⟩)
    obtain ⟨rfl, rfl⟩ := h1
    refine seq_step (fun σ' H' => σ' = [some (.str S), some (.int (st : Int)), some (.int (st : Int)), none] ∧ H' = H1) (fun R hR => ⟨_, rfl, hR _ _ ⟨rfl, rfl⟩⟩) (fun σ2 H2 h2 => ?_)
    obtain ⟨rfl, rfl⟩ := h2
    refine seq_step (fun σ' H' => (∃ x3, σ' = [some (.str S), some (.int (st : Int)), some (.int (S.length : Int)), x3]) ∧ H' = H2) (fun R hR => ?_) (fun σ3 H3 h3 => ?_)
    · refine ⟨_, rfl, _, rfl, _, rfl, _, rfl, _, _, rfl, rfl, _, rfl, S, rfl, hzs, _, rfl, ?_⟩
      refine for_it walk_str (fun j σ' H' => (∃ x3, σ' = [some (.str S), some (.int (st : Int)), some (.int (((st + j : Nat)) : Int)), x3]) ∧ H' = H2) ⟨⟨_, rfl⟩, rfl⟩ (fun _ _ _ _ _ => trivial) ?_ (fun σ' H' h => hR _ _ (by rw [hsz, ← htl] at h; exact h))
      rintro j x σ' H4 H5 hj ⟨⟨x3, rfl⟩, rfl⟩ ⟨rfl, ch, hch, rfl⟩
      rw [hsz] at hj
      have hch2 : (numL i.natAbs)[j]? = some ch := by
        rw [← hcut]
        show (cutS S (some (st : Int)) (some ((st : Int) + 80))).cps.toList[j]? = some ch
        rw [Array.getElem?_toList]
        exact hch
      have hcc := numL_digits i.natAbs ch (List.mem_of_getElem? hch2)
      have ei : (((st + j : Nat)) : Int) + 1 = ((st + (j + 1) : Nat) : Int) := by omega
      refine seq_step (fun σ' H' => σ' = [some (.str S), some (.int (st : Int)), some (.int (((st + j : Nat)) : Int)), some (.str ⟨#[ch]⟩)] ∧ H' = H5) (fun R hR => ?_) (fun σ6 H6 h6 => ?_)
      · refine ⟨_, rfl, ch, _, rfl, rfl, _, rfl, ?_⟩
        have e1 : (!decide (ch ∈ (("0123456789" : Str)).cps.toList)) = false := by
          have : ch ∈ (("0123456789" : Str)).cps.toList := by
            have e : (("0123456789" : Str)).cps.toList = [48, 49, 50, 51, 52, 53, 54, 55, 56, 57] := tl_dig
            rw [e]
            simp only [List.mem_cons, List.not_mem_nil, or_false]
            omega
          rw [decide_eq_true this]
          rfl
        rw [e1]
        refine iteF ⟨_, rfl, rfl, _, rfl, ifd (fun c1 => ?_) (fun c1 => iteF (hR _ _ ⟨rfl, rfl⟩))⟩
        refine ⟨_, rfl, _, rfl, rfl, _, rfl, ?_⟩
        have hj0 : j ≠ 0 := by
          rintro rfl
          rw [hnum] at hch2
          have e0 : c0 = ch := by simpa using hch2
          have e2 : (⟨#[ch]⟩ : Str) = "0" := V.str.inj c1
          have e3 : tl (⟨#[ch]⟩ : Str) = tl ("0" : Str) := by rw [e2]
          have e4 : tl ("0" : Str) = [48] := by decide +kernel
          rw [e4] at e3
          have e5 : [ch] = [48] := e3
          have := (List.cons.inj e5).1
          omega
        rw [decide_eq_false (fun e => hj0 (by have := V.int.inj e; omega))]
        exact iteF (hR _ _ ⟨rfl, rfl⟩)
      obtain ⟨rfl, rfl⟩ := h6
      exact ⟨_, rfl, _, _, rfl, rfl, ⟨some (.str ⟨#[ch]⟩), congrArg (fun n : Int => [some (V.str S), some (V.int (st : Int)), some (.int n), some (.str ⟨#[ch]⟩)]) ei⟩, rfl⟩
    obtain ⟨⟨x3, rfl⟩, rfl⟩ := h3
    exact ⟨_, rfl, q⟩
end
end Ld
namespace Ld
open PySem PySem.Spec PyProof.Rows L2
open TL
theorem rgc_two {n : Nat} (h : n ≤ 1000000) : RgC 0 ((2 * n : Nat) : Int) 2 n := by
  have hs : Builtin.Range.rangeSize 0 ((2 * n : Nat) : Int) 2 = (n : Int) := by
    unfold Builtin.Range.rangeSize
    simp only [show (2 : Int) > 0 by decide, if_true]
    split <;> omega
  have fits : ∀ i : Int, 0 ≤ i → i ≤ 4000000 → Builtin.Range.rangeFitsLong i = true := fun i h0 h1 => by
    unfold Builtin.Range.rangeFitsLong
    rw [Bool.and_eq_true, decide_eq_true_eq, decide_eq_true_eq]
    omega
  refine ⟨by decide, by decide, ?_, hs⟩
  unfold Builtin.Range.small
  rw [hs, fits 0 (by omega) (by omega), fits ((2 * n : Nat) : Int) (by omega) (by omega), fits 2 (by omega) (by omega), fits (n : Int) (by omega) (by omega), if_pos (by decide : (2 : Int) > 0), fits (((2 * n : Nat) : Int) + (2 - 1)) (by omega) (by omega), Bool.or_true]
  rfl
theorem partsOf_len (ps : List (Str × Int)) : (partsOf ps).length = 2 * ps.length := by
  induction ps with
  | nil => rfl
  | cons p r ih =>
    show (p.1 :: txI p.2 :: partsOf r).length = _
    rw [List.length_cons, List.length_cons, ih, List.length_cons]
    omega
theorem partsOf_get : ∀ {ps : List (Str × Int)} {j : Nat} {p : Str × Int}, ps[j]? = some p → (partsOf ps)[2 * j]? = some p.1 ∧ (partsOf ps)[2 * j + 1]? = some (txI p.2)
  | [], j, p, h => by simp at h
  | q :: r, 0, p, h => by
    simp at h
    subst h
    exact ⟨rfl, rfl⟩
  | q :: r, j + 1, p, h => by
    obtain ⟨h1, h2⟩ := partsOf_get (ps := r) (j := j) (p := p) (by simpa using h)
    have e1 : 2 * (j + 1) = 2 * j + 1 + 1 := by omega
    constructor
    · show (q.1 :: txI q.2 :: partsOf r)[2 * (j + 1)]? = _
      rw [e1, List.getElem?_cons_succ, List.getElem?_cons_succ]
      exact h1
    · show (q.1 :: txI q.2 :: partsOf r)[2 * (j + 1) + 1]? = _
      rw [e1, List.getElem?_cons_succ, List.getElem?_cons_succ]
      exact h2
/-- the kind before the j-th -/
def lastW (ps : List (Str × Int)) : Nat → Str
  | 0 => ""
  | j + 1 => (ps.getD j ("", 0)).1
theorem lastW_lt {ps : List (Str × Int)} (c : Can ps) {j : Nat} (h : j < ps.length) : tl (lastW ps j) < tl ps[j].1 := by
  cases j with
  | zero =>
    have hl := wordB_len (c.wd _ (List.getElem_mem h))
    rw [len_tl] at hl
    show tl ("" : Str) < _
    have e : tl ("" : Str) = [] := by decide +kernel
    rw [e]
    cases e2 : tl ps[0].1 with
    | nil => rw [e2] at hl; simp at hl
    | cons a r => exact List.nil_lt_cons _ _
  | succ j =>
    have hj : j < ps.length := by omega
    have e : (ps.getD j ("", 0)) = ps[j] := by rw [List.getD_eq_getElem?_getD, List.getElem?_eq_getElem hj]; rfl
    show tl (ps.getD j ("", 0)).1 < _
    rw [e]
    have hp := sorted_pw c.srt
    have hle : leS ps[j].1 ps[j + 1].1 := by
      have := List.pairwise_iff_getElem.mp hp j (j + 1) (by rw [List.length_map]; exact hj) (by rw [List.length_map]; exact h) (Nat.lt_succ_self j)
      rw [List.getElem_map, List.getElem_map] at this
      exact this
    refine Classical.byContradiction fun hn => ?_
    have h2 : tl ps[j + 1].1 ≤ tl ps[j].1 := hn
    have e3 : ps[j].1 = ps[j + 1].1 := ext_tl (List.le_antisymm hle h2)
    have e4 : (ps.map (·.1))[j]'(by rw [List.length_map]; exact hj) = (ps.map (·.1))[j + 1]'(by rw [List.length_map]; exact h) := by
      rw [List.getElem_map, List.getElem_map]
      exact e3
    have := (List.getElem_inj c.nd).mp e4
    omega
theorem not_last {z y : Str} (hz : wordB z = true) (h : tl y < tl z) : y ≠ "zzzzzzzz" := by
  rintro rfl
  rw [tl_last] at h
  have hl := wordB_len hz
  have hc : ∀ c ∈ tl z, c ≤ 122 := by
    have h2 := hz
    unfold wordB at h2
    rw [Bool.and_eq_true] at h2
    intro c hc
    have h3 := List.all_eq_true.mp h2.2 c hc
    unfold azB at h3
    rw [Bool.and_eq_true, decide_eq_true_eq, decide_eq_true_eq] at h3
    exact h3.2
  exact le_great 0 8 (tl z) (by rw [← len_tl]; exact hl.2) hc h
theorem txI_not {i : Int} : txI i ≠ "" ∧ txI i ≠ "-" := by
  have h1 := numL_ne i.natAbs
  have e0 : tl ("" : Str) = [] := by decide +kernel
  constructor
  · intro e
    have e2 : tl (txI i) = tl ("" : Str) := by rw [e]
    rw [e0, tl_txI] at e2
    split at e2
    · cases e2
    · exact h1 e2
  · intro e
    have e2 : tl (txI i) = tl ("-" : Str) := by rw [e]
    rw [tl_dash, tl_txI] at e2
    split at e2
    · exact h1 (List.cons.inj e2).2
    · have : 45 ∈ numL i.natAbs := by rw [e2]; exact List.mem_cons_self
      exact numL_free (.inl (by decide)) this
theorem joinT_len {ps : List (Str × Int)} (hw : ∀ p ∈ ps, wordB p.1 = true) (hb : ∀ p ∈ ps, p.2.natAbs < 10 ^ 95) : (joinT ps).length ≤ 106 * ps.length := by
  unfold joinT
  have h1 := PySem.StrLaws.join_length_le " " (ps.map oneT)
  have e1 : ((" " : Str)).length = 1 := by decide +kernel
  have h2 : ((ps.map oneT).map (·.length)).sum ≤ 105 * ps.length := by
    clear h1
    induction ps with
    | nil => exact Nat.le_refl _
    | cons p r ih =>
      have := ih (fun q hq => hw q (List.mem_cons_of_mem _ hq)) (fun q hq => hb q (List.mem_cons_of_mem _ hq))
      have k1 := wordB_len (hw p List.mem_cons_self)
      have k2 := txI_len (by decide) (hb p List.mem_cons_self)
      rw [List.map_cons, List.map_cons, List.sum_cons, List.length_cons]
      have : (oneT p).length ≤ 105 := by
        unfold oneT
        rw [len_app, len_app]
        omega
      omega
  rw [e1, List.length_map] at h1
  omega
abbrev sRc : Stmt := top 17
abbrev nRc : List Str := ["text", "parts", "counts", "last", "at", "place", "kind", "reach", "count"]
def spRc : Sp := fun vs H Q _ => ∃ ps : List (Str × Int), vs = [.str (joinT ps)] ∧ ps ≠ [] ∧ Can ps ∧ ps.length ≤ 100 ∧ (∀ p ∈ ps, p.2.natAbs < 10 ^ 80) ∧
  ∀ (H' : Hp) (p : Addr), Same H H' → H p = none → H' p = some (.dK (cD ps)) → Q (.ref p) H'
section
variable {P : Program} {w : World} {K : PySem.W.Frag} {mg : Str → Option Value} {base : Heap}
theorem scRc : FnScope nRc ["text"] (defScope sRc) := ⟨rfl, rfl, rfl, by decide +kernel, rfl, by decide +kernel, by decide +kernel⟩
theorem ok_rc {f : Addr} {fd : FuncData} (F : Fun K "read_counts" "read_counts" sRc f fd) (B : Blt mg) (mLast : ∃ t, mg "LAST_KIND" = some (.str "zzzzzzzz" t)) (H1 : Has P w K mg base 1 "kind_reach" ["part", "last"] spKr) (H2 : Has P w K mg base 1 "count_reach" ["part"] spCr) : FnOk P w K mg base CX0 2 f fd ["text"] spRc := by
  obtain ⟨tL, mLast⟩ := mLast
  obtain ⟨f1, d1, G1, b1, m1, k1⟩ := H1
  obtain ⟨f2, d2, G2, b2, m2, k2⟩ := H2
  refine F.ok scRc (fun vs H Q E h => ?_) (fun cdv A outer s H vs Q E hr h => ?_)
  · obtain ⟨ps, rfl, _⟩ := h
    rfl
  · obtain ⟨ps, rfl, hne, can, few, hb, q⟩ := h
    have nd := scRc.nd
    have hu := hu_of hr
    have hb95 : ∀ p ∈ ps, p.2.natAbs < 10 ^ 95 := fun p hp => Nat.lt_of_lt_of_le (hb p hp) (Nat.pow_le_pow_right (by decide) (by decide))
    have hjl := joinT_len can.wd hb95
    have hsp := split_joinT hne can.wd
    have hsz : sizeLine = 16777216 := sizeLine_eq
    refine ⟨_, (pss_cons (ps_set (i := 1) nd rfl (Or.inl rfl) (pe_split (pv 0) pe_str))
      (pss_cons (ps_set (i := 2) nd rfl (Or.inl rfl) pe_dnewK)
      (pss_cons (ps_set (i := 3) nd rfl (Or.inl rfl) pe_str)
      (pss_cons (ps_set (i := 4) nd rfl (Or.inl rfl) pe_int)
      (pss_cons (ps_for PassesOwn.never rfl (pi_range3 (by rfl) B.range (pa_cons pe_int (pa_cons (pe_callB call_len_seq (by rfl) B.len PySem.boot_len (pa_cons (pv 1) pa_nil)) (pa_cons pe_int pa_nil)))) (pg_name (i := 5) nd rfl (Or.inl rfl))
        (pss_cons (ps_if (pt_cmpR op_eq (pv 3) (pe_glob (v := .str "zzzzzzzz") (by rfl) mLast ⟨_, rfl⟩) (nomark _)) (pss_one ps_never) pss_nil)
        (pss_cons (ps_set (i := 6) nd rfl (Or.inl rfl) (pe_ix ix_list (pv 1) (pv 5) (fun _ _ => rfl)))
        (pss_cons (ps_set (i := 7) nd rfl (Or.inl rfl) (pe_call G1 hr (by rfl) m1 k1 b1 .nil pass0 (pa_cons (pv 6) (pa_cons (pv 3) pa_nil))))
        (pss_cons (ps_aug (i := 4) nd rfl (Or.inl rfl) (pv 7) ip_add)
        (pss_cons (ps_if (PW.pt (pw_or (pt_cmpR op_lt (pv 7) (pe_callB call_len_str (by rfl) B.len PySem.boot_len (pa_cons (pv 6) pa_nil)) (nomark _)) (pw_or (pt_cmpR op_le_str (pv 6) (pv 3) (nomark _)) (pw_or1 (pt_cmpR op_eq (pe_op op_add (pv 5) pe_int) (pe_callB call_len_seq (by rfl) B.len PySem.boot_len (pa_cons (pv 1) pa_nil)) (nomark _)))))) (pss_one ps_never) pss_nil)
        (pss_cons (ps_set (i := 8) nd rfl (Or.inl rfl) (pe_ix ix_list (pv 1) (pe_op op_add (pv 5) pe_int) (fun _ _ => rfl)))
        (pss_cons (ps_set (i := 7) nd rfl (Or.inl rfl) (pe_call G2 hr (by rfl) m2 k2 b2 .nil pass0 (pa_cons (pv 8) pa_nil)))
        (pss_cons (ps_aug (i := 4) nd rfl (Or.inl rfl) (pe_op op_add pe_int (pv 7)) ip_add)
        (pss_cons (ps_if (PW.pt (pw_or (pt_cmpR op_lt (pv 7) (pe_callB call_len_str (by rfl) B.len PySem.boot_len (pa_cons (pv 8) pa_nil)) (nomark _)) (pw_or1 (pt_cmpR op_in_seq (pv 8) (pe_tup (pa_cons pe_str (pa_cons pe_str pa_nil))) (by rfl))))) (pss_one ps_never) pss_nil)
        (pss_cons (ps_dput hu (pv 2) (pv 6) (pe_callTy call_int_str (by rfl) B.int bInt (pa_cons (pv 8) pa_nil)) rfl)
        (pss_cons (ps_set (i := 3) nd rfl (Or.inl rfl) (pv 6))
        (pss_one (ps_aug (i := 4) nd rfl (Or.inl rfl) pe_int ip_add))))))))))))))
      (pss_one (ps_ret (pv 2)))))))), ?_⟩
    generalize joinT ps = S at *
    refine seq_step (fun σ' H' => ∃ l, σ' = [some (.str S), some (.ref l), none, none, none, none, none, none, none] ∧ Same H H' ∧ H' l = some (.lst ((partsOf ps).map V.str))) (fun R hR => ?_) (fun σ1 H1 h1 => ?_)
    · refine ⟨_, rfl, ⟨_, rfl⟩, S, " ", rfl, rfl, by decide +kernel, by omega, fun l hl => ?_⟩
      rw [hsp]
      exact hR _ _ ⟨l, rfl, same_new hl, upd_same⟩
    obtain ⟨l, rfl, same1, hl1⟩ := h1
    refine seq_step (fun σ' H' => ∃ c, σ' = [some (.str S), some (.ref l), some (.ref c), none, none, none, none, none, none] ∧ Same H1 H' ∧ H1 c = none ∧ H' c = some (.dK [])) (fun R hR => fun c hc => hR _ _ ⟨c, rfl, same_new hc, hc, upd_same⟩) (fun σ2 H2 h2 => ?_)
    obtain ⟨c, rfl, same2, hc1, hc2⟩ := h2
    refine seq_step (fun σ' H' => σ' = [some (.str S), some (.ref l), some (.ref c), some (.str ""), none, none, none, none, none] ∧ H' = H2) (fun R hR => hR _ _ ⟨rfl, rfl⟩) (fun σ3 H3 h3 => ?_)
    obtain ⟨rfl, rfl⟩ := h3
    refine seq_step (fun σ' H' => σ' = [some (.str S), some (.ref l), some (.ref c), some (.str ""), some (.int 0), none, none, none, none] ∧ H' = H3) (fun R hR => hR _ _ ⟨rfl, rfl⟩) (fun σ4 H4 h4 => ?_)
    obtain ⟨rfl, rfl⟩ := h4
    have hl4 := same2 _ _ hl1
    have hlc : l ≠ c := ne_of_none hl1 hc1
    refine seq_step (fun σ' H' => ∃ x3 x4 x5 x6 x7 x8, σ' = [some (.str S), some (.ref l), some (.ref c), x3, x4, x5, x6, x7, x8] ∧ (∀ b o, H1 b = some o → H' b = some o) ∧ H' c = some (.dK (cD ps))) (fun R hR => ?_) (fun σ5 H5 h5 => ?_)
    · refine ⟨_, rfl, l, _, rfl, .inl (.inl (.inl hl4)), 0, _, 2, ps.length, rfl, ?_, ?_⟩
      · rw [List.length_map, partsOf_len]
        exact rgc_two (by omega)
      refine for_rangeC (fun j σ' H' => ∃ (a : Int) (x5 x6 x7 x8 : Option V), σ' = [some (.str S), some (.ref l), some (.ref c), some (.str (lastW ps j)), some (.int a), x5, x6, x7, x8] ∧ (∀ b o, H1 b = some o → H' b = some o) ∧ H' l = some (.lst ((partsOf ps).map V.str)) ∧ H' c = some (.dK (cD (ps.take j))))
        ⟨0, none, none, none, none, rfl, fun b o e => same2 _ _ e, hl4, by rw [List.take_zero]; exact hc2⟩ ?_ ?_
      · rintro j σ' H5 hj ⟨a, x5, x6, x7, x8, rfl, keep, hl5, hc5⟩
        have hp : ps[j]? = some ps[j] := List.getElem?_eq_getElem hj
        obtain ⟨g1, g2⟩ := partsOf_get hp
        have hmem : ps[j] ∈ ps := List.getElem_mem hj
        have hw := can.wd _ hmem
        have hwl := wordB_len hw
        have hlt := lastW_lt can hj
        have hi80 := hb _ hmem
        have hl81 := txI_len (by decide) hi80
        have hnz := can.nz _ hmem
        obtain ⟨P, hP⟩ : ∃ P, ps[j] = P := ⟨_, rfl⟩
        rw [hP] at g1 g2 hmem hw hwl hlt hi80 hl81 hnz hp
        -- the last kind
        refine seq_step (fun σ' H' => σ' = [some (.str S), some (.ref l), some (.ref c), some (.str (lastW ps j)), some (.int a), some (.int (0 + (j : Int) * 2)), x6, x7, x8] ∧ H' = H5) (fun R' hR' => ?_) (fun σ6 H6 h6 => ?_)
        · refine ⟨_, rfl, rfl, _, rfl, ?_⟩
          rw [decide_eq_false fun e => not_last hw hlt (V.str.inj e)]
          exact iteF (hR' _ _ ⟨rfl, rfl⟩)
        obtain ⟨rfl, rfl⟩ := h6
        refine seq_step (fun σ' H' => σ' = [some (.str S), some (.ref l), some (.ref c), some (.str (lastW ps j)), some (.int a), some (.int (0 + (j : Int) * 2)), some (.str P.1), x7, x8] ∧ H' = H6) (fun R' hR' => ?_) (fun σ7 H7 h7 => ?_)
        · refine ⟨_, rfl, _, rfl, l, _, _, .str P.1, rfl, rfl, .inl (.inl hl5), ?_, hR' _ _ ⟨rfl, rfl⟩⟩
          have e : (0 + (j : Int) * 2) = ((2 * j : Nat) : Int) := by omega
          rw [e]
          exact atI_nat (by rw [List.getElem?_map, g1]; rfl)
        obtain ⟨rfl, rfl⟩ := h7
        refine seq_step (fun σ' H' => σ' = [some (.str S), some (.ref l), some (.ref c), some (.str (lastW ps j)), some (.int a), some (.int (0 + (j : Int) * 2)), some (.str P.1), some (.int (P.1.length : Int)), x8] ∧ H' = H7) (fun R' hR' => ?_) (fun σ8 H8 h8 => ?_)
        · exact ⟨_, rfl, _, rfl, P.1, lastW ps j, rfl, hw, hlt, hR' _ _ ⟨rfl, rfl⟩⟩
        obtain ⟨rfl, rfl⟩ := h8
        refine seq_step (fun σ' H' => ∃ a' : Int, σ' = [some (.str S), some (.ref l), some (.ref c), some (.str (lastW ps j)), some (.int a'), some (.int (0 + (j : Int) * 2)), some (.str P.1), some (.int (P.1.length : Int)), x8] ∧ H' = H8) (fun R' hR' => ?_) (fun σ9 H9 h9 => ?_)
        · exact ⟨_, rfl, _, rfl, _, _, rfl, rfl, hR' _ _ ⟨_, rfl, rfl⟩⟩
        obtain ⟨a', rfl, rfl⟩ := h9
        refine seq_step (fun σ' H' => σ' = [some (.str S), some (.ref l), some (.ref c), some (.str (lastW ps j)), some (.int a'), some (.int (0 + (j : Int) * 2)), some (.str P.1), some (.int (P.1.length : Int)), x8] ∧ H' = H9) (fun R' hR' => ?_) (fun σ10 H10 h10 => ?_)
        · refine ⟨_, rfl, _, rfl, _, rfl, Nat.le_trans hwl.2 (by decide), _, _, rfl, rfl, _, rfl, ?_⟩
          rw [decide_eq_false (Int.lt_irrefl _)]
          refine iteF ⟨_, rfl, _, rfl, _, _, rfl, rfl, _, rfl, ?_⟩
          have e1 : decide ((lastW ps j).cps.toList < P.1.cps.toList) = true := decide_eq_true hlt
          rw [e1]
          refine iteF ⟨_, rfl, _, _, rfl, rfl, _, rfl, l, _, rfl, .inl (.inl (.inl hl5)), rfl, _, rfl, ?_⟩
          rw [List.length_map, partsOf_len, decide_eq_false fun e => by have := V.int.inj e; omega]
          exact iteF (hR' _ _ ⟨rfl, rfl⟩)
        obtain ⟨rfl, rfl⟩ := h10
        refine seq_step (fun σ' H' => σ' = [some (.str S), some (.ref l), some (.ref c), some (.str (lastW ps j)), some (.int a'), some (.int (0 + (j : Int) * 2)), some (.str P.1), some (.int (P.1.length : Int)), some (.str (txI P.2))] ∧ H' = H10) (fun R' hR' => ?_) (fun σ11 H11 h11 => ?_)
        · refine ⟨_, rfl, _, rfl, _, _, rfl, rfl, l, _, _, .str (txI P.2), rfl, rfl, .inl (.inl hl5), ?_, hR' _ _ ⟨rfl, rfl⟩⟩
          have e : (0 + (j : Int) * 2) + 1 = ((2 * j + 1 : Nat) : Int) := by omega
          rw [e]
          exact atI_nat (by rw [List.getElem?_map, g2]; rfl)
        obtain ⟨rfl, rfl⟩ := h11
        refine seq_step (fun σ' H' => σ' = [some (.str S), some (.ref l), some (.ref c), some (.str (lastW ps j)), some (.int a'), some (.int (0 + (j : Int) * 2)), some (.str P.1), some (.int ((txI P.2).length : Int)), some (.str (txI P.2))] ∧ H' = H11) (fun R' hR' => ?_) (fun σ12 H12 h12 => ?_)
        · exact ⟨_, rfl, P.2, rfl, hnz, hi80, hR' _ _ ⟨rfl, rfl⟩⟩
        obtain ⟨rfl, rfl⟩ := h12
        refine seq_step (fun σ' H' => ∃ a2 : Int, σ' = [some (.str S), some (.ref l), some (.ref c), some (.str (lastW ps j)), some (.int a2), some (.int (0 + (j : Int) * 2)), some (.str P.1), some (.int ((txI P.2).length : Int)), some (.str (txI P.2))] ∧ H' = H12) (fun R' hR' => ?_) (fun σ13 H13 h13 => ?_)
        · exact ⟨_, rfl, _, rfl, _, _, rfl, rfl, _, _, rfl, rfl, hR' _ _ ⟨_, rfl, rfl⟩⟩
        obtain ⟨a2, rfl, rfl⟩ := h13
        refine seq_step (fun σ' H' => σ' = [some (.str S), some (.ref l), some (.ref c), some (.str (lastW ps j)), some (.int a2), some (.int (0 + (j : Int) * 2)), some (.str P.1), some (.int ((txI P.2).length : Int)), some (.str (txI P.2))] ∧ Same H13 H') (fun R' hR' => ?_) (fun σ14 H14 h14 => ?_)
        · refine ⟨_, rfl, _, rfl, _, rfl, Nat.le_trans hl81 (by decide), _, _, rfl, rfl, _, rfl, ?_⟩
          rw [decide_eq_false (Int.lt_irrefl _)]
          refine iteF ⟨_, rfl, by show 2 ≤ sizeLine; decide, fun T1 hT1 => ⟨T1, _, rfl, .inr (.inl (.inl upd_same)), rfl, rfl, _, rfl, ?_⟩⟩
          have e1 : inV (.str (txI P.2)) [.str "", .str "-"] = false := by
            obtain ⟨n1, n2⟩ := @txI_not P.2
            show (eqV (.str "") (.str (txI P.2)) || (eqV (.str "-") (.str (txI P.2)) || false)) = false
            have a1 : (("" : Str) == txI P.2) = false := beq_eq_false_iff_ne.mpr fun e => n1 e.symm
            have a2 : (("-" : Str) == txI P.2) = false := beq_eq_false_iff_ne.mpr fun e => n2 e.symm
            show ((("" : Str) == txI P.2) || ((("-" : Str) == txI P.2) || false)) = false
            rw [a1, a2]
            rfl
          show (if (if false = true then !inV (.str (txI P.2)) [.str "", .str "-"] else inV (.str (txI P.2)) [.str "", .str "-"]) = true then _ else _)
          rw [if_neg Bool.false_ne_true, e1]
          exact iteF (hR' _ _ ⟨rfl, same_new hT1⟩)
        obtain ⟨rfl, same14⟩ := h14
        have hc14 := same14 _ _ hc5
        have hl14 := same14 _ _ hl5
        have hkey : P.1 ∉ (ps.take j).map (·.1) := fun hm => by
          obtain ⟨p, hp2, e⟩ := List.mem_map.mp hm
          obtain ⟨i, hi, ei⟩ := List.mem_take_iff_getElem.mp hp2
          have hil : i < ps.length := by omega
          have e4 : (ps.map (·.1))[i]'(by rw [List.length_map]; exact hil) = (ps.map (·.1))[j]'(by rw [List.length_map]; exact hj) := by
            rw [List.getElem_map, List.getElem_map, ei, e, hP]
          have := (List.getElem_inj can.nd).mp e4
          omega
        have hput : putI (ps.take j) P.1 P.2 = ps.take (j + 1) := by
          unfold putI
          rw [if_neg hkey, List.take_add_one, hp]
          rfl
        refine seq_step (fun σ' H' => σ' = [some (.str S), some (.ref l), some (.ref c), some (.str (lastW ps j)), some (.int a2), some (.int (0 + (j : Int) * 2)), some (.str P.1), some (.int ((txI P.2).length : Int)), some (.str (txI P.2))] ∧ H' = upd H14 c (.dK (cD (ps.take (j + 1))))) (fun R' hR' => ?_) (fun σ15 H15 h15 => ?_)
        · refine ⟨_, rfl, txI P.2, P.2, rfl, intText_txI (Nat.lt_of_lt_of_le hi80 (Nat.pow_le_pow_right (by decide) (by decide))), by omega, _, rfl, _, rfl, c, _, rfl, dput_ct hc14 ?_, ?_⟩
          · rw [List.length_take]
            omega
          · rw [hput]
            exact hR' _ _ ⟨rfl, rfl⟩
        obtain ⟨rfl, rfl⟩ := h15
        have hlast : lastW ps (j + 1) = P.1 := by
          show (ps.getD j ("", 0)).1 = _
          rw [List.getD_eq_getElem?_getD, hp]
          rfl
        refine seq_step (fun σ' H' => σ' = [some (.str S), some (.ref l), some (.ref c), some (.str P.1), some (.int a2), some (.int (0 + (j : Int) * 2)), some (.str P.1), some (.int ((txI P.2).length : Int)), some (.str (txI P.2))] ∧ H' = upd H14 c (.dK (cD (ps.take (j + 1))))) (fun R' hR' => ⟨_, rfl, hR' _ _ ⟨rfl, rfl⟩⟩) (fun σ16 H16 h16 => ?_)
        obtain ⟨rfl, rfl⟩ := h16
        refine ⟨_, rfl, _, _, rfl, rfl, a2 + 1, some (.int (0 + (j : Int) * 2)), some (.str P.1), some (.int ((txI P.2).length : Int)), some (.str (txI P.2)), ?_, fun b o e => ?_, ?_, upd_same⟩
        · rw [hlast]
          rfl
        · rw [upd_ne (ne_of_none e hc1)]
          exact same14 _ _ (keep _ _ e)
        · rw [upd_ne hlc]
          exact hl14
      · rintro σ' H5 ⟨a, x5, x6, x7, x8, rfl, keep, hl5, hc5⟩
        rw [List.take_of_length_le (Nat.le_refl _)] at hc5
        exact hR _ _ ⟨_, _, _, _, _, _, rfl, keep, hc5⟩
    obtain ⟨x3, x4, x5, x6, x7, x8, rfl, keep5, hc5⟩ := h5
    exact ⟨_, rfl, q _ c (fun b o e => keep5 _ _ (same1 _ _ e)) (Same.none same1 hc1) hc5⟩
end
end Ld
/-! sets of texts: set(list of texts), set(dict of texts), sorted of such a set -/
namespace Ld
open PySem PySem.Spec PyProof.Rows L2
/-- the text of an entry -/
def txOf (e : Int × Value) : Str := match e.2 with | .str z _ => z | _ => Str.empty
/-- an entry that holds a text, by its hash -/
def TxE (w : World) (e : Int × Value) : Prop := ∃ z tk, e.2 = Value.str z tk ∧ e.1 = hashStr w z
/-- a table that can be walked -/
structure Tab (w : World) (n : Nat) (t : SetTable) : Prop where
  fit : t.fits n = true
  ris : Ris t.place.toList
  led : w.params.followText "set-order" = true ∨ t.led = true
/-- the set of texts at a, in the order L -/
def TxSet (w : World) (h : Heap) (a : Addr) (L : List Str) : Prop :=
  ∃ o es ep t, h.get? a = some o ∧ o.ExactSet ∧ o.data = .set es ep t ∧ (∀ e ∈ es.toList, TxE w e) ∧ es.toList.map txOf = L ∧ L.Nodup ∧ es.size < scanBound ∧ Tab w es.size t
section
variable {P : Program} {w : World} {h h' : Heap} {a : Addr} {L : List Str}
theorem TxSet.at (R : TxSet w h a L) (k : ∀ o, h.get? a = some o → h'.get? a = some o) : TxSet w h' a L := by
  obtain ⟨o, es, ep, t, ho, r⟩ := R
  exact ⟨o, es, ep, t, k o ho, r⟩
theorem tx_elems {l : List (Int × Value)} (g : ∀ e ∈ l, TxE w e) : ElemsOf (PySem.strKind P w) l := fun e he => by
  obtain ⟨z, tk, h1, h2⟩ := g e he
  exact ⟨⟨z, by rw [h1]; exact strKind_is P w z tk, h2⟩, by rw [h1]; rfl⟩
theorem tx_is {e : Int × Value} (g : TxE w e) (z : Str) : (PySem.strKind P w).is z e.2 = true ↔ txOf e = z := by
  obtain ⟨y, tk, h1, _⟩ := g
  unfold txOf
  rw [h1]
  show (Value.isStrOf z (.str y tk) = true) ↔ y = z
  simp only [Value.isStrOf, beq_iff_eq]
  try exact eq_comm
theorem tx_fresh {o : Obj} (ho : h.get? a = some o) (e : o = { cls := .type "set", dict := none, data := .set #[] 0 (.fresh 0 0 (!w.params.followText "set-order")) }) : TxSet w h a [] := by
  subst e
  refine ⟨_, #[], 0, _, ho, ⟨rfl, rfl, rfl⟩, rfl, fun e he => by simp at he, rfl, List.nodup_nil, by decide, ⟨rfl, List.Pairwise.nil, ?_⟩⟩
  show _ ∨ (!w.params.followText "set-order") = true
  cases w.params.followText "set-order" with
  | true => exact .inl rfl
  | false => exact .inr rfl
end
section
variable {P : Program} {w : World} {A : Around} {E : Value → Shared → Prop} {s : Shared} {a : Addr} {L : List Str}
/-- what is laid into the set's own object -/
theorem tx_store {h : Heap} {o : Obj} {es es' : Array (Int × Value)} {ep : Nat} {t t' : SetTable} (ho : h.get? a = some o) (hex : o.ExactSet) (hd : o.data = .set es ep t) (g : ∀ e ∈ es'.toList, TxE w e) (nd : (es'.toList.map txOf).Nodup) (hb : es'.size < scanBound) (T : Tab w es'.size t') :
    TxSet w (h.update a (Obj.putSet es' t')) a (es'.toList.map txOf) ∧ ∃ o', (h.update a (Obj.putSet es' t')).get? a = some o' ∧ o'.ExactSet ∧ o'.data = .set es' (ep + 1) t' := by
  have q := store_at (es' := es') (t' := t') ho hd
  exact ⟨⟨_, es', ep + 1, t', q, hex, rfl, g, rfl, nd, hb, T⟩, _, q, hex, rfl⟩
/-- the end of an addition: the entry is laid, the table perhaps laid anew -/
theorem tx_tail {g : Bool → Sem Unit} (hg : ∀ (b : Bool) (s₁ : Shared) (Q' : Unit → Shared → Prop), Q' () s₁ → wpAny (model P w) A (g b) Q' E s₁) {o : Obj} {es : Array (Int × Value)} {ep : Nat} {t : SetTable}
    (ho : s.heap.get? a = some o) (hex : o.ExactSet) (hd : o.data = .set es ep t) {es1 : Array (Int × Value)} {t2 : SetTable} (g1 : ∀ e ∈ es1.toList, TxE w e) (nd1 : (es1.toList.map txOf).Nodup) (hb1 : es1.size < scanBound) (T2 : Tab w es1.size t2)
    {wasDummy : Bool} {R : Option Bool → Shared → Prop} (hR : ∀ h' L', Heap.SameBut a s.heap h' → TxSet w h' a L' → L'.Perm (es1.toList.map txOf) → R (some true) { s with heap := h' }) :
    wpAny (model P w) A (do
        storeSet a es1 t2
        if (!wasDummy && t2.tooFull) = true then do
            g (relayAll t2 es1 (SetTable.grown es1.size)).2.2
            storeSet a (relayAll t2 es1 (SetTable.grown es1.size)).1 (relayAll t2 es1 (SetTable.grown es1.size)).2.1
            pure (some true)
          else pure (some true)) R E s := by
  refine wpAny_bind (wpAny_storeSet_of ho hd ?_ (fits_of_scanBound hb1))
  obtain ⟨x1, o1, ho1, hex1, hd1⟩ := tx_store (a := a) (t' := t2) ho hex hd g1 nd1 hb1 T2
  have sb1 := Heap.SameBut.update s.heap a (Obj.putSet es1 t2)
  by_cases c : (!wasDummy && t2.tooFull) = true
  · rw [if_pos c]
    have pm := relayAll_perm t2 es1 (SetTable.grown es1.size)
    have f3 := relayAll_fits t2 es1 (SetTable.grown es1.size)
    have r3 := relayAll_ris t2 es1 (SetTable.grown es1.size)
    have l3 := relayAll_led t2 es1 (SetTable.grown es1.size)
    generalize relayAll t2 es1 (SetTable.grown es1.size) = Z at pm f3 r3 l3 ⊢
    obtain ⟨es2, t3, gave⟩ := Z
    dsimp only at pm f3 r3 l3 ⊢
    have hsz : es2.size = es1.size := by
      have := pm.length_eq
      rwa [Array.length_toList, Array.length_toList] at this
    have hb2 : es2.size < scanBound := by rw [hsz]; exact hb1
    have pk := pm.map txOf
    obtain ⟨x2, _⟩ := tx_store (a := a) (t' := t3) ho1 hex1 hd1 (fun e he => g1 e (pm.mem_iff.mp he)) (pk.nodup_iff.mpr nd1) hb2 ⟨f3, r3, T2.led.imp id fun q => by rw [l3]; exact q⟩
    exact wpAny_bind (hg _ _ _ (wpAny_bind (wpAny_storeSet_of ho1 hd1 (wpAny_pure (hR _ _ (sb1.trans (Heap.SameBut.update _ a _)) x2 pk)) (fits_of_scanBound hb2))))
  · rw [if_neg c]
    exact wpAny_pure (hR _ _ sb1 x1 (List.Perm.refl _))
theorem tx_add {z : Str} {tk : Tok} {Q : Bool → Shared → Prop} (R : TxSet w s.heap a L) (room : L.length + 1 < scanBound)
    (hQ : ∀ h' L' b, Heap.SameBut a s.heap h' → TxSet w h' a L' → (∀ y, y ∈ L' ↔ y = z ∨ y ∈ L) → L'.length ≤ L.length + 1 → Q b { s with heap := h' }) :
    wpAny (model P w) A (setAddHashed a (.str z tk) (hashStr w z)) Q E s := by
  obtain ⟨o, es, ep, t, ho, hex, hd, g, hL, nd, hb, T⟩ := R
  have hkey : (PySem.strKind P w).is z (.str z tk) = true := strKind_is P w z tk
  have hsc : (Value.str z tk).scannable = true := rfl
  have hel : ElemsOf (PySem.strKind P w) es.toList := tx_elems g
  have hlen : L.length = es.size := by rw [← hL, List.length_map, Array.length_toList]
  unfold setAddHashed setAddHashedIn
  refine wpAny_holding (wpAny_bind (wpAny_setState_of ho hd T.fit ?_))
  dsimp only
  rw [byScan_of hsc hb hel, if_pos rfl]
  unfold setAddByScan
  refine wpAny_bind (wpAny_bind (wpAny_rule (wpAny_bind (wpAny_setScan_of (knd := PySem.strKind P w) hkey ho hd T.fit hel ?_))))
  cases hfi : List.findIdx? (fun e => (PySem.strKind P w).is z e.2) es.toList with
  | some j =>
    dsimp only
    obtain ⟨hj, pj, _⟩ := List.findIdx?_eq_some_iff_getElem.mp hfi
    have hm : z ∈ L := by
      rw [← hL]
      exact List.mem_map.mpr ⟨_, List.getElem_mem hj, (tx_is (P := P) (g _ (List.getElem_mem hj)) z).mp pj⟩
    refine wpAny_pure (wpAny_pure (hQ s.heap L _ (Heap.SameBut.refl a s.heap) ⟨o, es, ep, t, ho, hex, hd, g, hL, nd, hb, T⟩ (fun y => ⟨.inr, fun q => q.elim (fun e => by rw [e]; exact hm) id⟩) (Nat.le_succ _)))
  | none =>
    dsimp only
    have hn : z ∉ L := fun q => by
      rw [← hL] at q
      obtain ⟨e, he, q⟩ := List.mem_map.mp q
      have c := List.findIdx?_eq_none_iff.mp hfi e he
      rw [(tx_is (P := P) (g e he) z).mpr q] at c
      cases c
    have hgw : ∀ (b : Bool) {s₁ : Shared} {Q' : Unit → Shared → Prop}, Q' () s₁ → wpAny (model P w) A (match b with | true => rule "set.scan.the-table-gave-way" | false => pure ()) Q' E s₁ :=
      fun b _ _ q => match b with | true => wpAny_rule q | false => wpAny_pure q
    have pm := layNew_perm t es ((PySem.strKind P w).hash z) (.str z tk)
    have f1 := layNew_fits t es ((PySem.strKind P w).hash z) (.str z tk)
    have r1 := layNew_ris t es ((PySem.strKind P w).hash z) (.str z tk) T.ris
    have l1 := layNew_led t es ((PySem.strKind P w).hash z) (.str z tk)
    show wpAny (model P w) A _ _ _ _
    have eH : hashStr w z = (PySem.strKind P w).hash z := rfl
    rw [eH]
    generalize layNew t es ((PySem.strKind P w).hash z) (.str z tk) = Z at pm f1 r1 l1 ⊢
    obtain ⟨es1, t1, wasDummy, gave⟩ := Z
    dsimp only at pm f1 r1 l1 ⊢
    rw [Array.toList_push] at pm
    have pc : es1.toList.Perm (((PySem.strKind P w).hash z, Value.str z tk) :: es.toList) := pm.trans (List.perm_append_singleton _ _)
    have pk : (es1.toList.map txOf).Perm (z :: L) := by
      have q := pc.map txOf
      rw [List.map_cons, hL] at q
      exact q
    have g1 : ∀ e ∈ es1.toList, TxE w e := fun e he => by
      rcases List.mem_cons.mp (pc.mem_iff.mp he) with q | q
      · rw [q]
        exact ⟨z, tk, rfl, rfl⟩
      · exact g e q
    have nd1 : (es1.toList.map txOf).Nodup := pk.nodup_iff.mpr (List.nodup_cons.mpr ⟨hn, nd⟩)
    have hsz : es1.size = L.length + 1 := by
      have q := pc.length_eq
      rw [List.length_cons, Array.length_toList, Array.length_toList] at q
      omega
    have hb1 : es1.size < scanBound := by omega
    have hled : w.params.followText "set-order" = true ∨ t1.led = true := T.led.imp id fun q => by rw [l1]; exact q
    have fin : ∀ h' L', Heap.SameBut a s.heap h' → TxSet w h' a L' → L'.Perm (es1.toList.map txOf) → Q true { s with heap := h' } := fun h' L' sb x p => by
      have p2 := p.trans pk
      exact hQ h' L' true sb x (fun y => by rw [p2.mem_iff, List.mem_cons]) (by rw [p2.length_eq, List.length_cons]; exact Nat.le_refl _)
    refine wpAny_bind (hgw _ ?_)
    split
    · refine wpAny_bind ?_
      rw [hashByValue_scannable 8 hsc]
      refine wpAny_pure ?_
      refine tx_tail ?_ ho hex hd g1 nd1 hb1 ⟨?_, ?_, ?_⟩ ?_
      · intro b s₁ Q' q; cases b <;> first | exact wpAny_pure q | exact wpAny_rule q
      · first | (split <;> first | exact f1 | exact SetTable.fits_plain_off f1) | exact f1
      · first | (split <;> exact r1) | exact r1
      · first | (split <;> exact hled) | exact hled
      · intro h' L' sb x p; dsimp only; exact wpAny_pure (fin h' L' sb x p)
    · refine wpAny_bind (wpAny_pure ?_)
      simp only [↓reduceIte]
      refine tx_tail ?_ ho hex hd g1 nd1 hb1 ⟨f1, r1, hled⟩ ?_
      · intro b s₁ Q' q; cases b <;> first | exact wpAny_pure q | exact wpAny_rule q
      · intro h' L' sb x p; dsimp only; exact wpAny_pure (fin h' L' sb x p)
end
end Ld
namespace Ld
open PySem PySem.Spec PyProof.Rows L2
section
variable {P : Program} {w : World} {A : Around} {E : Value → Shared → Prop} {s : Shared}
/-- the loop that lays the items of a walk into a set -/
theorem tx_loop {I : Addr} {fp wr : List Addr} {G : Array GenState → Array GenState → Prop} {n : Nat} {Pv : Nat → Value → Prop} {St : Nat → Shared → Prop} {R : Result → Shared → Prop}
    (W : WalksS P w A.in1 I fp wr G n Pv St) (S : Addr) (hSf : S ∉ fp) (xs : List Str) (hn : n = xs.length) (hb : xs.length + 1 < scanBound) (hval : ∀ i v, Pv i v → ∃ z t, xs[i]? = some z ∧ v = .str z t) :
    ∀ (k i : Nat) (s : Shared), n - i = k → i ≤ n → St i s → (∃ L, L.length ≤ i ∧ TxSet w s.heap S L ∧ ∀ y, y ∈ L ↔ y ∈ xs.take i) →
      (∀ s' L, Moved (S :: wr) G s s' → TxSet w s'.heap S L → L.length ≤ n → (∀ y, y ∈ L ↔ y ∈ xs) → R (.ok (.ret .none)) s') →
      codeAny (model P w) A (.builtin "set.update.loop" ⟨[.ref S, .ref I], []⟩) R s := by
  have hSw : S ∉ wr := fun h => hSf (W.sub _ h)
  have hsub : ∀ b ∈ wr, b ∈ S :: wr := fun b hb => List.mem_cons_of_mem _ hb
  intro k
  induction k with
  | zero =>
    rintro i s hk hi hst ⟨L, hL, x, hm⟩ hR
    obtain rfl : i = n := by omega
    refine codeAny_builtin F.entry_set_update_loop ?_
    rw [Around.under_plainId F.plain_set_update_loop _]
    show wpAny _ A.in1 (pyNext (.ref I) >>= _) _ _ s
    refine wpAny_bind (W.done s _ _ hst fun s' mv => ?_)
    show wpAny _ A.in1 (ret Value.none) _ _ s'
    rw [List.take_of_length_le (by omega)] at hm
    exact wpAny_pure (hR s' L (mv.mono hsub) (x.at fun o e => mv.heap S o hSw e) hL hm)
  | succ k ih =>
    rintro i s hk hi hst ⟨L, hL, x, hm⟩ hR
    have hlt : i < n := by omega
    refine codeAny_builtin F.entry_set_update_loop ?_
    rw [Around.under_plainId F.plain_set_update_loop _]
    show wpAny _ A.in1 (pyNext (.ref I) >>= _) _ _ s
    refine wpAny_bind (W.item i s _ _ hlt hst fun v s' hP hst' mv => ?_)
    obtain ⟨z, t, hz, rfl⟩ := hval i v hP
    have x' : TxSet w s'.heap S L := x.at fun o e => mv.heap S o hSw e
    show wpAny _ A.in1 (holding [Value.str z t] (setAdd S (.str z t)) >>= _) _ _ s'
    refine wpAny_bind (wpAny_holding ?_)
    unfold setAdd
    refine wpAny_holding (wpAny_bind ((PySem.strKind P w).pyHash (k := z) (strKind_is _ _ _ _) ?_))
    refine tx_add (s := { s' with toks := s'.toks + 1 }) x' (by omega) fun h' L' b sb x2 hm2 hl2 => ?_
    refine wpAny_pure ⟨plainId_quiet F.plain_set_update_loop _, ih (i + 1) _ (by omega) hlt (W.frame _ s' _ _ hst' (Nat.le_succ _) fun b hb o e => ?_) ⟨L', by omega, x2, fun y => ?_⟩ fun s'' L2 mv2 x3 hl3 hm3 => ?_⟩
    · rw [sb.2 b (fun q : b = S => hSf (by rw [← q]; exact hb))]
      exact e
    · rw [hm2, hm, List.take_add_one, hz, List.mem_append]
      show _ ↔ _ ∨ y ∈ [z]
      rw [List.mem_singleton]
      exact Or.comm
    · refine hR s'' L2 (Moved.trans W.gtrans ((mv.mono hsub).then_heap (Nat.le_succ _) fun b o hb e => ?_) mv2) x3 hl3 hm3
      rw [sb.2 b (fun q : b = S => hb (by rw [q]; exact List.mem_cons_self))]
      exact e
abbrev set0 (w : World) : Obj := { cls := .type "set", dict := none, data := .set #[] 0 (.fresh 0 0 (!w.params.followText "set-order")) }
/-- set(x): the new set, then x's items laid into it -/
theorem set_from {x : Value} {Q : Value → Shared → Prop}
    (h : wpAny (model P w) A.in1.in1 (Builtin.Frozenset.updateFrom "set.__init__" s.heap.objs.size x) (fun _ s' => Q (.ref s.heap.objs.size) s') E { s with heap := s.heap.push (set0 w) }) :
    wpAny (model P w) A (call (.type "set") [x]) Q E s := by
  obtain ⟨c, tl, hmro⟩ := F.called_set.mro
  have hmade := F.called_set.made
  have hsub := F.called_set.sub
  refine wpAny_call (codeAny_of_tree ?_)
  show wpAny _ _ (callAny (.type "set") _) _ _ _
  refine wpAny_pure ⟨Code.quiet_builtin _ (by decide +kernel), codeAny_builtin F.entry_type_call ?_⟩
  rw [Around.under_plain (weight_type_call_type "set" [x] []) rfl]
  have h1 := F.called_set.notType
  have h2 := F.called_set.canCreate
  have hct := F.typeCall_set_1 x
  repeat (any_goals (first | assumption | wp_step))
  refine codeAny_mono (code_set_led1 x (E := E) (Q₁ := fun obj s₁ => obj = .ref s.heap.objs.size ∧ s₁ = { s with heap := s.heap.push (set0 w) }) ⟨rfl, rfl⟩) fun r s₁ hr => ?_
  cases r with
  | error e => exact hr
  | ok fl =>
    cases fl with
    | ret obj =>
      obtain ⟨rfl, rfl⟩ := hr
      have hS : (s.heap.push (set0 w)).get? s.heap.objs.size = some (set0 w) := Heap.get?_push_size _ rfl
      have hT : Shared.TypeIs { s with heap := s.heap.push (set0 w) } (.ref s.heap.objs.size) "set" := ⟨_, hS, rfl⟩
      have hli := F.called_set.init.lookup
      have hbi := F.called_set.init.bind (.ref s.heap.objs.size)
      repeat (any_goals (first | assumption | wp_step))
      refine codeAny_mono (codeAny_call_builtin (R := wants (fun r s₂ => r = .none ∧ Q (.ref s.heap.objs.size) s₂) E) F.called_set.init.plain F.entry_set_init (check_set_init_1 hT ?_)) fun r₂ s₂ hr₂ => ?_
      · unfold Builtin.«set.__init__» noKeywords
        generalize hUF : Builtin.Frozenset.updateFrom = UF at h ⊢
        wp_walk
        refine wpAny_mono h (fun _ s' q => ?_) fun _ _ e => e
        first
          | exact wpAny_pure ⟨rfl, q⟩
          | (wp_walk; exact ⟨rfl, q⟩)
      · cases r₂ with
        | error e => exact hr₂
        | ok fl₂ =>
          cases fl₂ with
          | ret r =>
            obtain ⟨rfl, q⟩ := hr₂
            repeat (any_goals (first | assumption | wp_step))
          | _ => exact hr₂.elim
    | _ => exact hr.elim
end
end Ld
namespace Ld
open PySem PySem.Spec PyProof.Rows L2
theorem sizeAbove_le (n : Nat) : ∀ f size, SetTable.sizeAbove.go n f size ≤ max size (2 * n)
  | 0, size => Nat.le_max_left _ _
  | f + 1, size => by
    unfold SetTable.sizeAbove.go
    split
    · have := sizeAbove_le n f (size * 2)
      omega
    · exact Nat.le_max_left _ _
theorem live_none (m : Nat) : (List.range (m + 1)).filterMap (fun j => (((Array.replicate (m + 1) none : Array (Option Nat)).getD j none).map (j, ·))) = ([] : List (Nat × Nat)) := by
  refine List.filterMap_eq_nil_iff.mpr fun j hj => ?_
  have e : (Array.replicate (m + 1) none : Array (Option Nat)).getD j none = none := by
    rw [Array.getD_eq_getD_getElem?, Array.getElem?_replicate]
    split <;> rfl
  rw [e]
  rfl
/-- the empty table, laid anew -/
theorem relaid_empty (t : SetTable) (wanted : Nat) : ∃ t', t.relaid #[] wanted = some (t', #[]) ∧ t'.fits 0 = true ∧ t'.place = #[] := by
  refine ⟨{ mask := SetTable.sizeAbove wanted - 1, place := #[], dummies := #[], finger := t.finger, led := t.led, moves := t.movedTo (SetTable.sizeAbove wanted - 1), plain := t.plain }, ?_, ?_, rfl⟩
  · rw [relaid_eq]
    have e : SetTable.layClean (SetTable.sizeAbove wanted - 1) #[] = some (Array.replicate (SetTable.sizeAbove wanted - 1 + 1) none) := by
      rw [layClean_eq]
      rfl
    have e2 : liveOf (SetTable.sizeAbove wanted - 1) (Array.replicate (SetTable.sizeAbove wanted - 1 + 1) none) = [] := live_none _
    rw [e, Option.bind_some]
    unfold tabOf
    rw [e2]
    rfl
  · unfold SetTable.fits SetTable.fill
    simp
theorem pairs_key {P : Program} {w : World} : ∀ {es : List DictEntry} {kvs : List (Key × Value)}, Pairs (mixKind P w) es kvs → ∀ (i : Nat) (e : DictEntry) (k : Key), es[i]? = some e → (kvs.map (·.1))[i]? = some k → (mixKind P w).is k e.key = true
  | _, _, .nil, i, e, k, h, _ => by simp at h
  | _, _, .cons h1 _ _, 0, e, k, h, hk => by
    simp at h hk
    rw [← h, ← hk]
    exact h1
  | _, _, .cons _ _ r, i + 1, e, k, h, hk => pairs_key r i e k (by simpa using h) (by simpa using hk)
theorem strsAre_map : ∀ (vs : List Value), (∀ v ∈ vs, ∃ z tk, v = Value.str z tk) → StrsAre vs (vs.map fun v => txOf (0, v))
  | [], _ => .nil
  | v :: r, h => by
    obtain ⟨z, tk, rfl⟩ := h v List.mem_cons_self
    exact .cons z tk (strsAre_map r fun u hu => h u (List.mem_cons_of_mem _ hu))
section
variable {P : Program} {w : World} {A : Around} {E : Value → Shared → Prop} {s : Shared} {a : Addr}
/-- room for more in an empty set of texts -/
theorem tx_room {more : Nat} {Q : Unit → Shared → Prop} (R : TxSet w s.heap a []) (hm : more ≤ 1000) (hQ : ∀ h', Heap.SameBut a s.heap h' → TxSet w h' a [] → Q () { s with heap := h' }) : wpAny (model P w) A (setRoomFor a more) Q E s := by
  obtain ⟨o, es, ep, t, ho, hex, hd, g, hL, nd, hb, T⟩ := R
  have e0 : es = #[] := by
    have := congrArg List.length hL
    rw [List.length_map, Array.length_toList, List.length_nil] at this
    exact Array.eq_empty_of_size_eq_zero this
  subst e0
  unfold setRoomFor
  refine wpAny_bind (wpAny_setState_of ho hd T.fit ?_)
  dsimp only
  cases e : t.roomFor more with
  | none => exact wpAny_pure (hQ s.heap (Heap.SameBut.refl a s.heap) ⟨o, #[], ep, t, ho, hex, hd, g, hL, nd, hb, T⟩)
  | some wanted =>
    dsimp only
    have hw : wanted = (t.place.size + more) * 2 := by
      unfold SetTable.roomFor at e
      split at e
      · exact (Option.some.inj e).symm
      · cases e
    have hp : t.place.size = 0 := by
      have := T.fit
      unfold SetTable.fits at this
      rw [Bool.and_eq_true] at this
      exact beq_iff_eq.mp this.1
    have hsz : ¬ SetTable.sizeAbove wanted > sizeLine := by
      have := sizeAbove_le wanted 64 8
      have h2 : SetTable.sizeAbove wanted = SetTable.sizeAbove.go wanted 64 8 := rfl
      rw [h2, sizeLine_eq]
      omega
    rw [setRelay_eq]
    obtain ⟨t', er, ft, ep'⟩ := relaid_empty t wanted
    have rl := (relaid_ris er).2
    refine wpAny_bind (wpAny_setState_of ho hd T.fit ?_)
    dsimp only
    rw [if_neg hsz]
    have em : Array.map (fun x : Int × Value => x.fst) #[] = #[] := by simp
    rw [em, er]
    dsimp only
    refine wpAny_bind (wpAny_pure ?_)
    dsimp only
    have T' : Tab w (#[] : Array (Int × Value)).size t' := ⟨ft, by rw [ep']; exact List.Pairwise.nil, T.led.imp id fun q => by rw [rl]; exact q⟩
    refine wpAny_storeSet_of (es' := #[]) ho hd (hQ _ (Heap.SameBut.update s.heap a _) ?_) (Nat.zero_le _)
    exact (tx_store (a := a) (es' := #[]) (t' := t') ho hex hd (fun e he => by simp at he) List.nodup_nil (by decide) T').1
/-- set(l), l a list of texts -/
theorem upd_list {l : Addr} {items : Array Value} {xs : List Str} {Q : Unit → Shared → Prop} (hh : A.handled = none) (hl : s.heap.IsList l items) (hi : StrsAre items.toList xs) (hb : xs.length + 1 < scanBound) (R : TxSet w s.heap a []) (hla : l ≠ a) (hal : a < s.heap.objs.size)
    (hQ : ∀ s' L, (∀ b o, b ≠ a → s.heap.get? b = some o → s'.heap.get? b = some o) → s'.gens = s.gens → s'.drawn = s.drawn → s'.os = s.os → TxSet w s'.heap a L → (∀ y, y ∈ L ↔ y ∈ xs) → L.length ≤ xs.length → Q () s') :
    wpAny (model P w) A (Builtin.Frozenset.updateFrom "set.__init__" a (.ref l)) Q E s := by
  obtain ⟨ol, hol, hcl, nl, hdl⟩ := id hl
  have hT : s.TypeIs (.ref l) "list" := ⟨ol, hol, hcl⟩
  have hsz : items.size = xs.length := by
    have := StrsAre.len_eq hi
    rwa [Array.length_toList] at this
  unfold Builtin.Frozenset.updateFrom Builtin.Frozenset.isAnySet
  have hsls := F.sub_list_set
  have hslf := F.sub_list_frozenset
  refine wpAny_bind (m := (isInstance (.ref l) (.type "set") <||> isInstance (.ref l) (.type "frozenset"))) (wpAny_bind (wpAny_isInstance hT hsls ?_))
  refine wpAny_isInstance hT hslf ?_
  rw [if_neg Bool.false_ne_true]
  refine wpAny_bind (wpAny_typeOf hT ?_)
  rw [if_neg (by decide)]
  refine wpAny_bind (wpAny_pyIter_list hl ?_)
  refine wpAny_bind (wpAny_runValue ?_)
  have hlS : l < s.heap.objs.size := Heap.lt_size hol
  have hh1 : A.in1.handled = none := by simp [hh]
  have hneI : l ≠ s.heap.objs.size := Nat.ne_of_lt hlS
  have hSf : a ∉ [s.heap.objs.size, l] := by
    simp only [List.mem_cons, List.not_mem_nil, or_false, not_or]
    exact ⟨Nat.ne_of_lt hal, fun e => hla e.symm⟩
  have hval : ∀ (i : Nat) (v : Value), items[i]? = some v → ∃ z t, xs[i]? = some z ∧ v = .str z t := fun i v hv => by
    have hi' : i < xs.length := by rw [← hsz]; exact (Array.getElem?_eq_some_iff.mp hv).1
    obtain ⟨t, e⟩ := SS.strs_at hi i v (by rw [Array.getElem?_toList]; exact hv)
    refine ⟨xs[i], t, List.getElem?_eq_getElem hi', ?_⟩
    rw [e, List.getD_eq_getElem?_getD, List.getElem?_eq_getElem hi']
    rfl
  refine tx_loop ((Walks.list hh1 _ l hneI items).toS) a hSf xs hsz hb hval (items.size - 0) 0 _ (by omega) (Nat.zero_le _) ⟨⟨_, Heap.get?_push_size _ rfl, rfl, rfl⟩, hl.push _⟩ ⟨[], Nat.le_refl _, R.at fun o e => Heap.get?_push_of_some _ e, fun y => by simp⟩ fun s' L mv x hL hm => ?_
  refine wpAny_pure (hQ s' L (fun b o nb eb => ?_) mv.gens mv.drawn mv.os x hm (by omega))
  refine mv.heap b o ?_ (Heap.get?_push_of_some _ eb)
  simp only [List.mem_cons, List.not_mem_nil, or_false, not_or]
  exact ⟨nb, Nat.ne_of_lt (Heap.lt_size eb)⟩
/-- set(d), d a dict whose keys are texts -/
theorem upd_dict {d : Addr} {kvs : List (Key × Value)} {xs : List Str} {Q : Unit → Shared → Prop} (hd : s.heap.DictOf (mixKind P w) d kvs) (hx : kvs.map (·.1) = xs.map Sum.inr) (hs : (d == sysModules) = false) (hb : xs.length ≤ 1000) (R : TxSet w s.heap a []) (hda : d ≠ a)
    (hQ : ∀ h' L, (∀ b o, b ≠ a → s.heap.get? b = some o → h'.get? b = some o) → TxSet w h' a L → (∀ y, y ∈ L ↔ y ∈ xs) → L.length ≤ xs.length → Q () { s with heap := h' }) :
    wpAny (model P w) A (Builtin.Frozenset.updateFrom "set.__init__" a (.ref d)) Q E s := by
  obtain ⟨o, es, ep, ho, hex, hdat, hk, hp, _⟩ := hd
  have hT : s.TypeIs (.ref d) "dict" := ⟨o, ho, hex.1⟩
  have hes : es.size = xs.length := by
    have h1 := hp.length
    rw [Array.length_toList] at h1
    have h2 := congrArg List.length hx
    rw [List.length_map, List.length_map] at h2
    omega
  have ent : ∀ (i : Nat) (e : DictEntry), es[i]? = some e → ∃ z t, xs[i]? = some z ∧ e.key = .str z t ∧ e.hash = hashStr w z := fun i e he => by
    have hi' : i < xs.length := by rw [← hes]; exact (Array.getElem?_eq_some_iff.mp he).1
    have he' : es.toList[i]? = some e := by rw [Array.getElem?_toList]; exact he
    have hkv : (kvs.map (·.1))[i]? = some (Sum.inr xs[i]) := by rw [hx, List.getElem?_map, List.getElem?_eq_getElem hi']; rfl
    have hik := pairs_key hp i e _ he' hkv
    obtain ⟨t, ek⟩ := Value.isStrOf_shape (x := xs[i]) (v := e.key) hik
    refine ⟨xs[i], t, List.getElem?_eq_getElem hi', ek, ?_⟩
    obtain ⟨k', hk1, hk2⟩ := hk e (Array.mem_toList_iff.mp (List.mem_of_getElem? he'))
    have : k' = Sum.inr xs[i] := (mixKind P w).inj _ _ _ hk1 hik
    rw [hk2, this]
    rfl
  unfold Builtin.Frozenset.updateFrom Builtin.Frozenset.isAnySet
  have hsls : isSubtype (.type "dict") (.type "set") = pure false := by rw [isSubtype_type]; kernel_rfl
  have hslf : isSubtype (.type "dict") (.type "frozenset") = pure false := by rw [isSubtype_type]; kernel_rfl
  refine wpAny_bind (m := (isInstance (.ref d) (.type "set") <||> isInstance (.ref d) (.type "frozenset"))) (wpAny_bind (wpAny_isInstance hT hsls ?_))
  refine wpAny_isInstance hT hslf ?_
  rw [if_neg Bool.false_ne_true]
  refine wpAny_bind (wpAny_typeOf hT ?_)
  rw [if_pos (by decide)]
  refine wpAny_bind (wpAny_rule (wpAny_bind (wpAny_pure ?_)))
  dsimp only
  rw [hs, if_neg Bool.false_ne_true]
  refine wpAny_bind (wpAny_dictEpoch ho hdat (wpAny_bind (wpAny_dictEntries ho hdat ?_)))
  refine wpAny_bind (tx_room R (by omega) fun h1 sb1 R1 => ?_)
  have ho1 : h1.get? d = some o := (sb1.2 d hda).trans ho
  refine wpAny_bind (wpAny_dictEntries ho1 hdat ?_)
  refine wpAny_bind (TI.forIn_rng _ (fun rest _ s' => ∃ i h2 L, rest = List.range' i (es.size - i) ∧ i ≤ es.size ∧ s' = { s with heap := h2 } ∧ (∀ b o, b ≠ a → s.heap.get? b = some o → h2.get? b = some o) ∧ TxSet w h2 a L ∧ (∀ y, y ∈ L ↔ y ∈ xs.take i) ∧ L.length ≤ i) _ ?_ ?_ _
    ⟨0, h1, [], rfl, Nat.zero_le _, rfl, fun b o nb eb => (sb1.2 b nb).trans eb, R1, fun y => by simp, Nat.le_refl _⟩)
  · rintro x rest _ s' ⟨i, h2, L, er, hi, rfl, k2, R2, hm2, hl2⟩
    have hlt : i < es.size := by
      rcases Nat.lt_or_ge i es.size with c | c
      · exact c
      · rw [Nat.sub_eq_zero_of_le c] at er
        cases er
    obtain ⟨m, em⟩ : ∃ m, es.size - i = m + 1 := ⟨es.size - i - 1, by omega⟩
    rw [em, List.range'_succ] at er
    obtain ⟨rfl, rfl⟩ := List.cons.inj er
    have ho2 := k2 d o hda ho
    refine wpAny_bind (wpAny_dictEntries ho2 hdat ?_)
    have he : es[x]? = some es[x] := Array.getElem?_eq_getElem hlt
    rw [he]
    dsimp only
    obtain ⟨z, t, hz, ek, eh⟩ := ent x _ he
    rw [ek, eh]
    have hx1 : xs.length ≤ 1000 := hb
    refine wpAny_bind (wpAny_holding (tx_add (s := { s with heap := h2 }) R2 (by show L.length + 1 < 4096; omega) fun h3 L' b sb3 R3 hm3 hl3 => ?_))
    have ho3 : h3.get? d = some o := (sb3.2 d hda).trans ho2
    refine wpAny_bind (wpAny_dictEpoch ho3 hdat ?_)
    rw [if_neg (by simp)]
    refine wpAny_pure ⟨x + 1, h3, L', by rw [show es.size - (x + 1) = m by omega], hlt, rfl, fun b o nb eb => (sb3.2 b nb).trans (k2 b o nb eb), R3, fun y => ?_, by omega⟩
    rw [hm3, hm2, List.take_add_one, hz, List.mem_append]
    show _ ↔ _ ∨ y ∈ [z]
    rw [List.mem_singleton]
    exact Or.comm
  · rintro _ s' ⟨i, h2, L, er, hi, rfl, k2, R2, hm2, hl2⟩
    have hie : i = es.size := by
      have := congrArg List.length er
      rw [List.length_nil, List.length_range'] at this
      omega
    rw [List.take_of_length_le (by omega)] at hm2
    exact wpAny_pure (hQ h2 L k2 R2 hm2 (by omega))
/-- sorted(s), s a set of texts -/
theorem sorted_tx {L : List Str} {Q : Value → Shared → Prop} (R : TxSet w s.heap a L) (hh : A.handled = none)
    (hQ : ∀ s' p (out : Array Value) (c : Nat) (ys : List Str), (∀ b o, s.heap.get? b = some o → s'.heap.get? b = some o) → s'.gens = s.gens → s'.os = s.os → s.heap.objs.size ≤ p →
      s'.heap.get? p = some (seqObj "list" out c) → StrsAre out.toList ys → ys.Perm L → sortedS ys = true → Q (.ref p) s') :
    wpAny (model P w) A (call (.builtin "sorted") [.ref a]) Q E s := by
  obtain ⟨o, es, ep, t, ho, hex, hd, g, hL, nd, hb, T⟩ := R
  refine Calls.call_function_entry kind_sorted plain_sorted entry_sorted (args_sorted1 _) ?_
  unfold Builtin.«sorted»
  refine wpAny_bind (m := checkCount "sorted" 1 1 _) (wpAny_pure ?_)
  refine wpAny_bind (collect_set (A := A.in1) hh ⟨o, ho, hex.1, hd⟩ T.fit hb T.ris T.led fun s1 vs k1 hz g1 o1 pm => ?_)
  have pL : (vs.map fun v => txOf (0, v)).Perm L := by
    rw [← hL]
    have q := pm.map fun v => txOf (0, v)
    rw [List.map_map] at q
    exact q
  have hS : StrsAre vs (vs.map fun v => txOf (0, v)) := strsAre_map vs fun v hv => by
    obtain ⟨e, he, q⟩ := List.mem_map.mp (pm.mem_iff.mp hv)
    obtain ⟨z, tk, h1, _⟩ := g e he
    exact ⟨z, tk, by rw [← q]; exact h1⟩
  have hvl : vs.length < 4096 := by
    rw [pm.length_eq, List.length_map, Array.length_toList]
    exact hb
  have hvz : vs.length < sizeLine := Nat.lt_trans hvl (by rw [sizeLine_eq]; decide)
  refine wpAny_bind (wpAny_newList ?_ (Nat.le_of_lt hvz))
  have hoL : (s1.heap.push (seqObj "list" vs.toArray 0)).get? s1.heap.objs.size = some (seqObj "list" vs.toArray 0) := Heap.get?_push_size _ rfl
  refine wpAny_bind (wpAny_holding (wpAny_call_entry slot_list_sort ⟨_, hoL, rfl⟩ entry_list_sort
    (list_sort_treeKAny strKind_oneLt (s := { s1 with heap := s1.heap.push (seqObj "list" vs.toArray 0) }) hoL hS.keysOf (fun v₁ v₂ rest e => keyKind_strs (by rw [← e]; exact hS)) (Nat.le_of_lt hvz) fun st' hp hs => ⟨_, rfl, ?_⟩) (args_list_sort _)))
  obtain ⟨ys, y1, y2, y3⟩ := sorted_out_str hS hp hs
  obtain ⟨c, hc⟩ := sortedHeap_at (vs := vs) (out := (arrOf st').map (·.2)) hoL
  refine wpAny_pure ⟨_, rfl, hQ _ s1.heap.objs.size _ c ys (fun b u e => ?_) g1 o1 hz hc y1 (y2.trans pL) y3⟩
  have q := k1 b u e
  have hlt := Heap.lt_size q
  show (sortedHeap (s1.heap.push (seqObj "list" vs.toArray 0)) s1.heap.objs.size vs _).get? b = some u
  rw [sortedHeap_old (Nat.ne_of_lt hlt) (by rw [size_push']; exact Nat.lt_succ_of_lt hlt)]
  exact Heap.get?_push_of_some _ q
end
/-! ### over the abstract heap -/
def TxO (w : World) (a : Addr) (L : List Str) : HO := .ext fun h => TxSet w h a L
theorem txO_new {w : World} {P : Program} {H : Hp} {h : Heap} {a : Addr} {L : List Str} (R : TxSet w h a L) : ObjOk P w H h a (TxO w a L) := by
  have ⟨o, _, _, _, ho, _⟩ := R
  exact ⟨R, ⟨o, ho⟩, fun _ _ p k => TxSet.at p k⟩
theorem TxSet.facts {w : World} {h : Heap} {a : Addr} {L : List Str} (R : TxSet w h a L) : L.Nodup := by
  obtain ⟨o, es, ep, t, ho, hex, hd, g, hL, nd, _⟩ := R
  exact nd
/-- set(l), l a list of texts -/
def rSetL (K : PySem.W.Frag) (w : World) : List V → Hp → VK → Prop := fun vs H Q => ∃ (l : Addr) (xs : List Str), vs = [.ref l] ∧ SqL K H l (xs.map V.str) ∧ xs.length ≤ 1000 ∧
  ∀ p L, H p = none → L.Nodup → (∀ y, y ∈ L ↔ y ∈ xs) → Q (.ref p) (upd H p (TxO w p L))
/-- set(d), d a dict with texts as keys -/
def rSetD (w : World) : List V → Hp → VK → Prop := fun vs H Q => ∃ (d : Addr) (kvs : List (Key × V)) (xs : List Str), vs = [.ref d] ∧ Rd H d (.dK kvs) ∧ kvs.map (·.1) = xs.map Sum.inr ∧ xs.length ≤ 1000 ∧
  ∀ p L, H p = none → L.Nodup → (∀ y, y ∈ L ↔ y ∈ xs) → Q (.ref p) (upd H p (TxO w p L))
/-- sorted(s), s such a set -/
def rSortedTx (w : World) : List V → Hp → VK → Prop := fun vs H Q => ∃ (a : Addr) (L : List Str), vs = [.ref a] ∧ H a = some (TxO w a L) ∧
  ∀ p ys, ys.Perm L → sortedS ys = true → H p = none → Q (.ref p) (upd H p (.lst (ys.map V.str)))
section
variable {X : Cx}
theorem cr_setL (hc : X.calm = true) : CallR X (.type "set") (rSetL X.K X.w) := by
  intro pins s σ H vs us Q I r h
  obtain ⟨l, xs, rfl, hs, hb, q⟩ := h
  obtain ⟨its, rv, hl, _⟩ := I.list hs
  rw [Vals.ref1 r]
  have hn : H s.heap.objs.size = none := I.hok.fresh (Nat.le_refl _)
  obtain ⟨ol, hol, _⟩ := id hl.isList
  have hlS : l < s.heap.objs.size := Heap.lt_size hol
  refine set_from ?_
  refine upd_list (s := { s with heap := s.heap.push (set0 X.w) }) (xs := xs) (by simp [I.ok.hd hc]) (hl.isList.push _) rv.strs (by show xs.length + 1 < 4096; omega) (tx_fresh (Heap.get?_push_size _ rfl) rfl) (Nat.ne_of_lt hlS) (by rw [Heap.size_push]; exact Nat.lt_succ_self _) fun s' L k e1 e2 e3 x hm hL => ?_
  have k' : ∀ b o, s.heap.get? b = some o → s'.heap.get? b = some o := fun b o e => k b o (Nat.ne_of_lt (Heap.lt_size e)) (Heap.get?_push_of_some _ e)
  have J : Inv X pins σ (upd H s.heap.objs.size (TxO X.w s.heap.objs.size L)) { s with heap := s'.heap, gens := s'.gens, drawn := s'.drawn, toks := s'.toks } :=
    I.call (ch := []) (Un.laid k' (Nat.le_refl _) hn) (I.hok.laid k' (Nat.le_refl _) (txO_new x)) (by rw [e1]; exact I.bare) (fun _ z => nomatch z)
  have e : s' = { s with heap := s'.heap, gens := s'.gens, drawn := s'.drawn, toks := s'.toks } := by
    cases s'
    cases s
    cases e3
    rfl
  rw [e]
  exact ⟨.ref s.heap.objs.size, _, J, rfl, q _ L hn x.facts hm⟩
theorem cr_setD : CallR X (.type "set") (rSetD X.w) := by
  intro pins s σ H vs us Q I r h
  obtain ⟨d, kvs, xs, rfl, hs, hx, hb, q⟩ := h
  obtain ⟨_, hm, vs, rel, dd⟩ := dk_rd I.hok hs
  rw [Vals.ref1 r]
  have hn : H s.heap.objs.size = none := I.hok.fresh (Nat.le_refl _)
  obtain ⟨od, es, ep, hod, rest⟩ := id dd
  have hdS : d < s.heap.objs.size := Heap.lt_size hod
  refine set_from ?_
  refine upd_dict (s := { s with heap := s.heap.push (set0 X.w) }) (xs := xs) (kvs := vs) ⟨od, es, ep, Heap.get?_push_of_some _ hod, rest⟩ (rel.keys.symm.trans hx) hm hb (tx_fresh (Heap.get?_push_size _ rfl) rfl) (Nat.ne_of_lt hdS) fun h' L k x hm hL => ?_
  have k' : ∀ b o, s.heap.get? b = some o → h'.get? b = some o := fun b o e => k b o (Nat.ne_of_lt (Heap.lt_size e)) (Heap.get?_push_of_some _ e)
  exact ⟨.ref s.heap.objs.size, upd H s.heap.objs.size (TxO X.w s.heap.objs.size L), I.laid (t' := s.toks) k' (Nat.le_refl _) (txO_new x), rfl, q _ L hn x.facts hm⟩
theorem cr_sortedTx (hc : X.calm = true) : CallR X (.builtin "sorted") (rSortedTx X.w) := by
  intro pins s σ H vs us Q I r h
  obtain ⟨a, L, rfl, ha, q⟩ := h
  have R : TxSet X.w s.heap a L := (I.hok a _ ha).1
  rw [Vals.ref1 r]
  have hlen : L.length ≤ sizeLine := by
    obtain ⟨o, es, ep, t, ho, hex, hd, g, hL, nd, hb, _⟩ := id R
    rw [← hL, List.length_map, Array.length_toList]
    exact fits_of_scanBound hb
  refine sorted_tx R (I.ok.hd hc) fun s' p out c ys k g o hp hg hi hpm hs => ?_
  have hn : H p = none := I.hok.fresh hp
  have hl2 : (ys.map V.str).length ≤ sizeLine := by rw [List.length_map, hpm.length_eq]; exact hlen
  have J : Inv X pins σ (upd H p (.lst (ys.map V.str))) { s with heap := s'.heap, gens := s'.gens, drawn := s'.drawn, toks := s'.toks } :=
    I.call (ch := []) (Un.laid k hp hn) (I.hok.laid k hp ⟨hl2, out.toList, c, vals_of_strs hi, by rw [Array.toArray_toList]; exact hg⟩) (by rw [g]; exact I.bare) (fun _ z => nomatch z)
  have e : s' = { s with heap := s'.heap, gens := s'.gens, drawn := s'.drawn, toks := s'.toks } := by
    cases s'
    cases s
    cases o
    rfl
  rw [e]
  exact ⟨.ref p, _, J, rfl, q p ys hpm hs hn⟩
end
end Ld
/-! repr of dicts of counts and of lists of such; how long these texts are -/
namespace Ld
open PySem PySem.Spec PyProof.Rows L2
/-! ### a list of scalars and of dicts of scalars -/
def ItR (H : Hp) (x : V) (d : PyData) : Prop := (scaV x = true ∧ d = datV x) ∨ ∃ a kvs, x = .ref a ∧ H a = some (.dK kvs) ∧ (∀ p ∈ kvs, scaV p.2 = true) ∧ d = datD kvs
theorem readsAll_it {P : Program} {w : World} {H : Hp} {h : Heap} (ok : HOk P w H h) : ∀ {xs : List V} {ds : List PyData} {us : List Value}, Paired (ItR H) xs ds → Vals xs us → ∃ as, ReadsAll h us ds as ∧ sysModules ∉ as
  | _, _, _, .nil, r => by
    cases r
    exact ⟨[], .nil, fun h => nomatch h⟩
  | _, _, _, .cons i t, r => by
    cases r with
    | cons r1 r2 =>
      obtain ⟨bs, h1, n1⟩ := readsAll_it ok t r2
      rcases i with ⟨sc, rfl⟩ | ⟨a, kvs, rfl, e, f, rfl⟩
      · exact ⟨[] ++ bs, .cons (reads_sca sc r1) h1, n1⟩
      · obtain ⟨hr, hm⟩ := reads_dict ok e f
        cases (show _ = Value.ref a from r1)
        exact ⟨[a] ++ bs, .cons hr h1, fun q => (List.mem_append.mp q).elim hm n1⟩
def rReprL (K : PySem.W.Frag) : List V → Hp → VK → Prop := fun vs H Q => ∃ (a : Addr) (xs : List V) (ds : List PyData), vs = [.ref a] ∧ SqL K H a xs ∧ Paired (ItR H) xs ds ∧ (PyData.list ds).showable = true ∧ (PyData.list ds).depth ≤ 60 ∧ (PyData.list ds).shown.length ≤ sizeLine ∧ Q (.str (PyData.list ds).shown) H
theorem call_reprL {X : Cx} (hgd : X.A.guards = some []) (hu : X.A.units + 64 < cLine) : CallR X (.builtin "repr") (rReprL X.K) := by
  intro pins s σ H vs us Q I r h
  obtain ⟨a, xs, ds, rfl, hs, hi, hsh, hdp, hsz, q⟩ := h
  rw [Vals.ref1 r]
  obtain ⟨its, rv, ⟨o, n, h1, h2, _, h3⟩, _⟩ := I.list hs
  obtain ⟨as, h4, hno⟩ := readsAll_it I.hok hi rv
  have hz : (listText (PyData.shownAll ds)).length ≤ sizeLine := by simpa only [PyData.shown] using hsz
  obtain ⟨bs, hb, hk⟩ := ReprAllK.of_readsAll (prog := X.prog) (w := X.w) h4 (by simpa [PyData.showable] using hsh) (fun _ => hno) (fun t ht => Nat.le_trans (listText_mem_le ht) hz)
  have rd : Reads s.heap (.ref a) (.list ds) (a :: as) := .list h1 h2 h3 (by simpa using h4)
  have hna : a ∉ bs := not_mem_of_deeper rd (by simp only [PyData.depth]; omega) hb
  simp only [PyData.depth] at hdp
  simp only [PyData.shown] at q
  refine call_repr_slot (T := "list") (idr := "list.__repr__") (by omega) ⟨o, h1, h2⟩ F.slot_list_repr.toG ?_
  cases its with
  | nil =>
    cases h4
    simp only [PyData.shownAll, listText_nil] at q
    exact call_list_repr_empty ⟨o, h1, h2⟩ h1 h3 ⟨_, _, rfl, .str _, H, I.tok _, ⟨_, rfl⟩, q⟩
  | cons x l =>
    exact call_list_reprK h1 h2 h3 hna (by simpa using hk.length_eq) (fun i y e => hk.item i y (by simpa using e)) hgd (fun b _ => Clear.nil b) (by show X.A.units + 1 + _ < cLine; omega) (fun _ _ e => e)
      (fun h' u tk k => ⟨_, _, rfl, .str _, H, I.kept (t' := tk) k, ⟨u, rfl⟩, q⟩) hz
/-! ### how long -/
theorem piled_le {b : Nat} : ∀ (ts : List Str), (∀ t ∈ ts, t.length ≤ b) → piled ts ≤ ts.length * (b + 2)
  | [], _ => Nat.zero_le _
  | t :: r, h => by
    have h1 := piled_le r fun x hx => h x (List.mem_cons_of_mem _ hx)
    have h2 := h t List.mem_cons_self
    show (t.length + 2) + piled r ≤ (r.length + 1) * (b + 2)
    rw [Nat.add_mul]
    omega
theorem dictText_le {b : Nat} {ts : List Str} (h : ∀ t ∈ ts, t.length ≤ b) : (dictText ts).length ≤ 2 + ts.length * (b + 2) := by
  have h1 := piled_le ts h
  unfold dictText
  rw [strLen_append, strLen_append]
  have e1 : ((("{" : String) : Str)).length = 1 := rfl
  have e2 : ((("}" : String) : Str)).length = 1 := rfl
  by_cases e : ts = []
  · subst e
    have : (Str.join (Str.ofString ", ") []).length = 0 := rfl
    omega
  · have := join_length_add ts e
    omega
theorem textFrom_le : ∀ (ts : List Str) (k : Nat) (acc : Str), (textFrom k acc ts).length ≤ acc.length + piled ts
  | [], k, acc => Nat.le_add_right _ _
  | t :: r, k, acc => by
    have h := textFrom_le r (k + 1) (acc ++ (if k > 0 then ", " else "" : String) ++ t)
    have e : (acc ++ (if k > 0 then ", " else "" : String) ++ t).length ≤ acc.length + 2 + t.length := by
      rw [strLen_append, strLen_append]
      have : (Str.ofString (if k > 0 then ", " else "" : String)).length ≤ 2 := by
        split
        · exact Nat.le_refl 2
        · exact Nat.zero_le 2
      omega
    show (textFrom (k + 1) (acc ++ (if k > 0 then ", " else "" : String) ++ t) r).length ≤ acc.length + ((t.length + 2) + piled r)
    omega
theorem listText_le {b : Nat} {ts : List Str} (h : ∀ t ∈ ts, t.length ≤ b) : (listText ts).length ≤ 2 + ts.length * (b + 2) := by
  have h1 := piled_le ts h
  have h2 := textFrom_le ts 0 "["
  unfold listText
  rw [strLen_append]
  have e1 : ((("[" : String) : Str)).length = 1 := rfl
  have e2 : ((("]" : String) : Str)).length = 1 := rfl
  omega
theorem word_small {z : Str} (h : wordB z = true) : (reprText z).length ≤ 82 := by
  have hl := (wordB_len h).2
  have := PySem.StrLaws.reprText_len z fun c hc => by
    unfold wordB at h
    rw [Bool.and_eq_true, List.all_eq_true] at h
    have q := h.2 c hc
    unfold azB at q
    rw [Bool.and_eq_true, decide_eq_true_eq, decide_eq_true_eq] at q
    exact Nat.lt_of_le_of_lt q.2 (by decide)
  omega
theorem int_show {i : Int} {k : Nat} (h : i.natAbs < 10 ^ k) (h0 : 0 < k) (hk : k ≤ 500) : (PyData.int i).showable = true ∧ (PyData.int i).shown.length ≤ k + 1 := by
  constructor
  · simp only [PyData.showable, decide_eq_true_eq]
    by_cases e : i.natAbs = 0
    · rw [e]
      decide
    · refine (Nat.log2_lt e).mpr (Nat.lt_of_lt_of_le h (Nat.le_trans (Nat.pow_le_pow_right (by decide) hk) ?_))
      decide +kernel
  · simp only [PyData.shown]
    show (Str.ofString (toString i)).length ≤ k + 1
    rw [PySem.ofString_length]
    exact int_text_length_le10 h0 h
theorem depthKv_sca : ∀ (ps : List (Str × Int)), PyData.depthKv ((cD ps).map fun p => (datV (kV p.1), datV p.2)) = 0
  | [] => rfl
  | p :: r => by
    show max (max 0 0) (PyData.depthKv ((cD r).map fun p => (datV (kV p.1), datV p.2))) = 0
    rw [depthKv_sca r]
    rfl
theorem showKv_ct {k : Nat} (h0 : 0 < k) (hk : k ≤ 500) : ∀ (ps : List (Str × Int)), (∀ p ∈ ps, wordB p.1 = true ∧ p.2.natAbs < 10 ^ k) →
    PyData.showableKv ((cD ps).map fun p => (datV (kV p.1), datV p.2)) = true ∧ (∀ t ∈ PyData.shownKv ((cD ps).map fun p => (datV (kV p.1), datV p.2)), t.length ≤ k + 85) ∧ (PyData.shownKv ((cD ps).map fun p => (datV (kV p.1), datV p.2))).length = ps.length
  | [], _ => ⟨rfl, (fun _ h => nomatch h), rfl⟩
  | p :: r, h => by
    obtain ⟨a1, a2, a3⟩ := showKv_ct h0 hk r fun q hq => h q (List.mem_cons_of_mem _ hq)
    obtain ⟨w1, i1⟩ := h p List.mem_cons_self
    obtain ⟨s1, s2⟩ := int_show i1 h0 hk
    have e : (cD (p :: r)).map (fun p => (datV (kV p.1), datV p.2)) = (PyData.str p.1, PyData.int p.2) :: (cD r).map fun p => (datV (kV p.1), datV p.2) := rfl
    rw [e]
    refine ⟨?_, ?_, ?_⟩
    · simp only [PyData.showableKv, a1, Bool.and_true]
      show ((PyData.str p.1).showable && (PyData.int p.2).showable) = true
      rw [s1]
      simp only [PyData.showable, Bool.and_true]
    · intro t ht
      simp only [PyData.shownKv] at ht
      rcases List.mem_cons.mp ht with e | ht
      · rw [e, strLen_append, strLen_append]
        have h1 : (PyData.str p.1).shown.length ≤ 82 := by
          simp only [PyData.shown]
          exact word_small w1
        have h2 : (Str.ofString ": ").length = 2 := rfl
        omega
      · exact a2 t ht
    · simp only [PyData.shownKv, List.length_cons, a3]
theorem show_ct {k : Nat} (h0 : 0 < k) (hk : k ≤ 500) {ps : List (Str × Int)} (h : ∀ p ∈ ps, wordB p.1 = true ∧ p.2.natAbs < 10 ^ k) : (datD (cD ps)).showable = true ∧ (datD (cD ps)).depth = 1 ∧ (datD (cD ps)).shown.length ≤ 2 + ps.length * (k + 87) := by
  obtain ⟨a1, a2, a3⟩ := showKv_ct h0 hk ps h
  refine ⟨?_, ?_, ?_⟩
  · simp only [datD, PyData.showable]
    exact a1
  · simp only [datD, PyData.depth, depthKv_sca]
  · simp only [datD, PyData.shown]
    have := dictText_le a2
    rwa [a3] at this
theorem scalar_cD (ps : List (Str × Int)) : ∀ p ∈ cD ps, scaV p.2 = true := by
  intro p hp
  obtain ⟨q, _, rfl⟩ := List.mem_map.mp hp
  rfl
theorem list_show {b : Nat} : ∀ {ds : List PyData}, (∀ d ∈ ds, d.showable = true ∧ d.depth ≤ 1 ∧ d.shown.length ≤ b) →
    PyData.showableAll ds = true ∧ PyData.depthAll ds ≤ 1 ∧ (∀ t ∈ PyData.shownAll ds, t.length ≤ b) ∧ (PyData.shownAll ds).length = ds.length
  | [], _ => ⟨rfl, Nat.zero_le _, (fun _ h => nomatch h), rfl⟩
  | d :: r, h => by
    obtain ⟨a1, a2, a3, a4⟩ := list_show (ds := r) fun q hq => h q (List.mem_cons_of_mem _ hq)
    obtain ⟨d1, d2, d3⟩ := h d List.mem_cons_self
    refine ⟨?_, ?_, ?_, ?_⟩
    · simp only [PyData.showableAll, d1, a1, Bool.and_self]
    · simp only [PyData.depthAll]
      omega
    · intro t ht
      simp only [PyData.shownAll] at ht
      rcases List.mem_cons.mp ht with e | ht
      · rw [e]
        exact d3
      · exact a3 t ht
    · simp only [PyData.shownAll, List.length_cons, a4]
theorem show_list {b : Nat} {ds : List PyData} (h : ∀ d ∈ ds, d.showable = true ∧ d.depth ≤ 1 ∧ d.shown.length ≤ b) : (PyData.list ds).showable = true ∧ (PyData.list ds).depth ≤ 60 ∧ (PyData.list ds).shown.length ≤ 2 + ds.length * (b + 2) := by
  obtain ⟨a1, a2, a3, a4⟩ := list_show h
  refine ⟨?_, ?_, ?_⟩
  · simp only [PyData.showable]
    exact a1
  · simp only [PyData.depth]
    omega
  · simp only [PyData.shown]
    have := listText_le a3
    rwa [a4] at this
end Ld
/-! own operators: x + y, x * n, n * x, -x, bool(x) -/
namespace PySem.W
open PySem PySem.Spec PyProof.Rows PySem.Calls
section
variable {prog : Program} {w : World} {A : Around} {E : Value → Shared → Prop} {s : Shared} {K : Frag} {x C L f g : Addr} {h₀ : Heap} {m : Str → Option Value} {ox : Obj} {od : Option Obj}
/-- int.__mul__ of what is no int -/
theorem mul_none {i : Int} {t : Tok} {Q : Option Value → Shared → Prop} (hx : s.heap.get? x = some ox) (hn : ∀ j u, ox.data ≠ .prim (.int j u)) (q : Q none s) :
    wpAny (model prog w) A (tryMethod (.int i t) (PySem.dunder "mul") (.ref x)) Q E s := by
  unfold tryMethod
  refine wpAny_bind (wpAny_callSpecial?_slot (typeIs_int s i t) F.slot_int_mul (GQ.call_here F.slot_int_mul (typeIs_int s i t) F.entry_int_mul (F.args_int_mul_2 _ _) ?_))
  obtain ⟨hp, g, d, tk, os⟩ := s
  have hz : wpAny (model prog w) A.in1 (asInt? (.ref x)) (fun r s' => r = none ∧ s' = ⟨hp, g, d, tk, os⟩) (fun e s' => wants (fun v => (fun o s'' => wpAny (model prog w) A (match o with | some .notImplemented | none => pure none | some v => pure (some v)) Q E s'') (some v)) E (.error e) s') ⟨hp, g, d, tk, os⟩ := by
    unfold asInt?
    refine wpAny_bind (wpAny_load hx ?_)
    obtain ⟨c, dd, dt, sl⟩ := ox
    cases dt with
    | prim v =>
      cases v with
      | int j u => exact absurd rfl (hn j u)
      | _ => exact wpAny_pure ⟨rfl, rfl⟩
    | _ => exact wpAny_pure ⟨rfl, rfl⟩
  generalize hAI : asInt? = AI at hz
  unfold Builtin.«int.__mul__» Builtin.Int.intBinary
  rw [hAI]
  wp_walk
  refine wpAny_mono hz (fun r s' h => ?_) fun _ _ e => e
  obtain ⟨rfl, rfl⟩ := h
  wp_walk
  exact q
/-- n * x by x's __rmul__ -/
theorem mulR_K {i : Int} {t : Tok} {Q : Value → Shared → Prop} (F : Fr h₀ L s.heap m) (X₀ : K.In h₀) (I : InstAt s.heap x ox C od) (hn : ∀ j u, ox.data ≠ .prim (.int j u)) (hc : selfFirst K C = true) (hi : mroIn K C (.type "int") = some false)
    (hs1 : findIn K (.ref C) (PySem.dunder "mul") = some (some (.ref g))) (hs : findIn K (.ref C) (dunderR "mul") = some (some (.ref f))) (hf : isFn K (.ref f) = true)
    (h : wpAny (model prog w) A (call (.ref f) [.ref x, .int i t]) (CmpBack Q) E s) : wpAny (model prog w) A (binaryOp .Mult (.int i t) (.ref x)) Q E s := by
  have X := X₀.keeps F.keep
  obtain ⟨cd, rest, hcd, hm⟩ := ksp_first hc
  have one := ksp_try X I hs hf h
  obtain ⟨hh, gg, d, tt, os⟩ := s
  have L1 : Looks (model prog w) hh (typeOf (.int i t)) (.type "int") := Looks.of_pure rfl
  have L2 : Looks (model prog w) hh (typeOf (.ref x)) (.ref C) := I.type
  have L3 : Looks (model prog w) hh (fillsNumberSlot (.type "int") "mul") true := Looks.of_pure PySem.F.fills_int_mul
  have L4 : Looks (model prog w) hh (fillsNumberSlot (.ref C) "mul") true := fills_K X hcd hm hs1
  have L5 : Looks (model prog w) hh (isSubtype (.ref C) (.type "int")) false := looks_mroIn X hi
  have L6 : Looks (model prog w) hh (numberSlotInPython (.type "int") "mul") false := Looks.of_pure rfl
  have hne : (Value.type "int" == Value.ref C) = false := by rfl
  have two : ∀ Q' : Option Value → Shared → Prop, Q' none ⟨hh, gg, d, tt, os⟩ → wpAny (model prog w) A (tryMethod (.int i t) (PySem.dunder "mul") (.ref x)) Q' E ⟨hh, gg, d, tt, os⟩ := fun Q' q => mul_none I.at_ hn q
  unfold binaryOp
  refine wpAny_holding (wpAny_bind ?_)
  show wpAny _ _ (binaryOp1 "mul" _ _) _ _ _
  unfold binaryOp1
  refine wpAny_bind (L1.at (wpAny_bind (L2.at (wpAny_bind (L3.at ?_)))))
  simp only [hne, Bool.false_eq_true, if_false]
  refine wpAny_bind (L4.at ?_)
  simp only [Bool.and_self, if_true, Bool.true_and]
  refine wpAny_bind (L5.at ?_)
  simp only [Bool.false_eq_true, if_false, Bool.not_false, if_true]
  refine wpAny_bind (L6.at ?_)
  simp only [Bool.false_eq_true, if_false]
  refine wpAny_bind (two _ ?_)
  dsimp only
  refine wpAny_bind (wpAny_mono one (fun r s' hr => ?_) fun _ _ e => e)
  obtain ⟨v, rfl, hq⟩ := hr
  dsimp only
  refine wpAny_bind (wpAny_rule ?_)
  exact wpAny_pure (wpAny_pure hq)
end
end PySem.W
namespace Ld
open PySem PySem.Spec PyProof.Rows L2
section
variable {X : Cx} {CX : CXT} {C g f : Addr} {n : Nat} {sp : Sp} {E : XK}
/-- x op y, both instances of the class at C, whose def for op is at g -/
def rBin (C : Addr) (sp : Sp) (E : XK) : R2 := fun x y H Q => ∃ a b dx fs dy gs, x = .ref a ∧ y = .ref b ∧ H a = some (.ins C dx fs) ∧ H b = some (.ins C dy gs) ∧ sp [x, y] H Q E
theorem op_bin {op : Operator} (hc : PySem.W.selfFirst X.K C = true) (hs : PySem.W.findIn X.K (.ref C) (PySem.dunder op.info.2) = some (some (.ref g))) (hf : PySem.W.isFn X.K (.ref g) = true) (F : FnR X.prog X.w X.K X.mg X.base CX n g sp) (hr : Room n X.A) (hx : Passes CX X E) :
    OpR X (binaryOp op) (rBin C sp E) := by
  intro pins s σ H x y v u Q I rx ry h
  obtain ⟨a, b, dx, fs, dy, gs, rfl, rfl, ha, hb, q⟩ := h
  cases (show v = Value.ref a from rx)
  cases (show u = Value.ref b from ry)
  obtain ⟨mA, O, _⟩ := ins_get I.hok ha
  obtain ⟨od, J, _⟩ := O.look
  obtain ⟨mB, OB, _⟩ := ins_get I.hok hb
  obtain ⟨od2, J2, _⟩ := OB.look
  obtain ⟨m, hF⟩ := I.fr
  refine PySem.W.binop_K hF I.ok.mod.kin J J2.type hc hs hf ?_
  refine wpAny_mono (wpAny_call (run_fnR (us := [.ref a, .ref b]) (vs := [.ref a, .ref b]) F hr hx I (.cons rfl (.cons rfl .nil)) q)) (fun w s' z => ?_) fun _ _ x => x
  obtain ⟨z', H', I', rz, qz⟩ := z
  exact SlX.cmpback rz ⟨z', H', I', rz, qz⟩
/-- what of the class x * n and n * x ask -/
structure MulC (K : PySem.W.Frag) (C : Addr) (fm fr : Addr) : Prop where
  first : PySem.W.selfFirst K C = true
  mul : PySem.W.findIn K (.ref C) "__mul__" = some (some (.ref fm))
  rmul : PySem.W.findIn K (.ref C) "__rmul__" = some (some (.ref fr))
  fnm : PySem.W.isFn K (.ref fm) = true
  fnr : PySem.W.isFn K (.ref fr) = true
  int1 : ∃ fo, PySem.W.findIn K (.type "int") "__mul__" = some fo
  int2 : ∃ ro, PySem.W.findIn K (.type "int") "__rmul__" = some ro
  noInt : PySem.W.mroIn K C (.type "int") = some false
/-- x * n -/
def rBinI (C : Addr) (sp : Sp) (E : XK) : R2 := fun x y H Q => ∃ a dx fs i, x = .ref a ∧ y = .int i ∧ H a = some (.ins C dx fs) ∧ sp [x, y] H Q E
theorem op_mulI {fr : Addr} (T : MulC X.K C g fr) (F : FnR X.prog X.w X.K X.mg X.base CX n g sp) (hr : Room n X.A) (hx : Passes CX X E) (hsub : PySem.W.subIn X.K (.type "int") (.ref C) = some false) : OpR X (binaryOp .Mult) (rBinI C sp E) := by
  intro pins s σ H x y v u Q I rx ry h
  obtain ⟨a, dx, fs, i, rfl, rfl, ha, q⟩ := h
  cases (show v = Value.ref a from rx)
  obtain ⟨t, rfl⟩ := (show ∃ t, u = Value.int i t from ry)
  obtain ⟨mA, O, _⟩ := ins_get I.hok ha
  obtain ⟨od, J, _⟩ := O.look
  obtain ⟨m, hF⟩ := I.fr
  obtain ⟨fo, h1⟩ := T.int1
  obtain ⟨ro, h2⟩ := T.int2
  refine PySem.W.ksp_binT (op := .Mult) (T := "int") (fo := fo) (ro := ro) (rc := some (.ref fr)) hF I.ok.mod.kin J rfl T.first T.mul T.fnm T.rmul (.inr ⟨_, rfl⟩) h1 h2 hsub ?_
  refine wpAny_mono (wpAny_call (run_fnR (us := [.ref a, .int i t]) (vs := [.ref a, .int i]) F hr hx I (.cons rfl (.cons ⟨t, rfl⟩ .nil)) q)) (fun w s' z => ?_) fun _ _ x => x
  obtain ⟨z', H', I', rz, qz⟩ := z
  exact SlX.cmpback rz ⟨z', H', I', rz, qz⟩
/-- n * x -/
def rBinR (C : Addr) (sp : Sp) (E : XK) : R2 := fun x y H Q => ∃ a dx fs i, x = .int i ∧ y = .ref a ∧ H a = some (.ins C dx fs) ∧ sp [y, x] H Q E
theorem op_mulR {fm : Addr} (T : MulC X.K C fm g) (F : FnR X.prog X.w X.K X.mg X.base CX n g sp) (hr : Room n X.A) (hx : Passes CX X E) : OpR X (binaryOp .Mult) (rBinR C sp E) := by
  intro pins s σ H x y v u Q I rx ry h
  obtain ⟨a, dx, fs, i, rfl, rfl, ha, q⟩ := h
  cases (show u = Value.ref a from ry)
  obtain ⟨t, rfl⟩ := (show ∃ t, v = Value.int i t from rx)
  obtain ⟨mA, O, _⟩ := ins_get I.hok ha
  obtain ⟨od, J, _⟩ := O.look
  obtain ⟨m, hF⟩ := I.fr
  refine PySem.W.mulR_K hF I.ok.mod.kin J (fun j u z => nomatch z) T.first T.noInt T.mul T.rmul T.fnr ?_
  refine wpAny_mono (wpAny_call (run_fnR (us := [.ref a, .int i t]) (vs := [.ref a, .int i]) F hr hx I (.cons rfl (.cons ⟨t, rfl⟩ .nil)) q)) (fun w s' z => ?_) fun _ _ x => x
  obtain ⟨z', H', I', rz, qz⟩ := z
  exact SlX.cmpback rz ⟨z', H', I', rz, qz⟩
/-- -x -/
def rNeg (C : Addr) (sp : Sp) (E : XK) : V → Hp → VK → Prop := fun x H Q => ∃ a dx fs, x = .ref a ∧ H a = some (.ins C dx fs) ∧ sp [x] H Q E
theorem un_own (hs : PySem.W.findIn X.K (.ref C) "__neg__" = some (some (.ref g))) (hf : PySem.W.isFn X.K (.ref g) = true) (F : FnR X.prog X.w X.K X.mg X.base CX n g sp) (hr : Room n X.A) (hx : Passes CX X E) : UnR X (unaryOp .USub) (rNeg C sp E) := by
  intro pins s σ H x v Q I rx h
  obtain ⟨a, dx, fs, rfl, ha, q⟩ := h
  cases (show v = Value.ref a from rx)
  obtain ⟨mA, O, _⟩ := ins_get I.hok ha
  obtain ⟨od, J, _⟩ := O.look
  obtain ⟨m, hF⟩ := I.fr
  exact PySem.W.ksp_neg hF I.ok.mod.kin J hs hf (wpAny_call (run_fnR (us := [.ref a]) (vs := [.ref a]) F hr hx I (.cons rfl .nil) q))
end
end Ld
namespace Ld
open PySem PySem.Spec PyProof.Rows L2
section
variable {prog : Program} {w : World} {A : Around} {E : Value → Shared → Prop} {s : Shared}
theorem code_bool_new {x : Value} {R : Result → Shared → Prop} (h : wpAny (model prog w) A.in1 (truthy x) (fun b s' => R (.ok (.ret (.bool b))) s') (fun e s' => R (.error e) s') s) :
    wpAny (model prog w) A.in1 (Builtin.«bool.__new__» ⟨[.type "bool", x], []⟩) (fun fin s' => match fin with | .done f => R (.ok f) s' | .again c' => c'.quiet = true ∧ codeAny (model prog w) A c' R s') (fun e s' => R (.error e) s') s := by
  obtain ⟨hp, g, d, tk, os⟩ := s
  have f1 := F.conv_sub_bool
  generalize hT : truthy = T at h
  unfold Builtin.«bool.__new__»
  rw [hT]
  wp_walk
  refine wpAny_mono h (fun b s' q => ?_) fun _ _ e => e
  first
    | exact q
    | (wp_walk; exact q)
theorem call_bool_by {x : Value} {Q : Value → Shared → Prop} (h : wpAny (model prog w) A.in1.in1 (truthy x) (fun b s' => Q (.bool b) s') E s) : wpAny (model prog w) A (call (.type "bool") [x]) Q E s := by
  obtain ⟨c, tl, hmro⟩ := F.called_bool.mro
  have hmade := F.called_bool.made
  have hsub := F.called_bool.sub
  refine wpAny_call (codeAny_of_tree ?_)
  show wpAny _ _ (callAny (.type "bool") _) _ _ _
  refine wpAny_pure ⟨Code.quiet_builtin _ (by decide +kernel), codeAny_builtin F.entry_type_call ?_⟩
  rw [Around.under_plain (weight_type_call_type "bool" [x] []) rfl]
  have h1 := F.called_bool.notType
  have h2 := F.called_bool.canCreate
  have hct := F.typeCall_bool_1 x
  repeat (any_goals (first | assumption | wp_step))
  refine codeAny_mono (codeAny_call_builtin (R := wants (fun v s' => (∃ b, v = .bool b) ∧ Q v s') E) F.called_bool.plain F.entry_bool_new (wpAny_of_eq (F.newCall_bool_1 x) (code_bool_new (wpAny_mono h (fun b s' q => ⟨⟨b, rfl⟩, q⟩) fun _ _ e => e)))) fun r s₁ hr => ?_
  cases r with
  | error e => exact hr
  | ok fl =>
    cases fl with
    | ret obj =>
      obtain ⟨⟨b, rfl⟩, q⟩ := hr
      have hT : s₁.TypeIs (.bool b) "bool" := rfl
      have hli := F.called_bool.init.lookup
      have hbi := F.called_bool.init.bind (.bool b)
      repeat (any_goals (first | assumption | wp_step))
      refine codeAny_mono (codeAny_call_builtin (R := wants (fun v s' => v = .none ∧ Q (.bool b) s') E) F.called_bool.init.plain F.entry_object_init (F.called_bool.init.check _ _ _ _ _ _ _ _ hT (F.args_object_init_2 _ x) (object_init_meets F.called_bool.init.lookup F.called_bool.made F.newNe_bool prog w _ _ _ ⟨hT, rfl, q⟩))) fun r₂ s₂ hr₂ => ?_
      cases r₂ with
      | error e => exact hr₂
      | ok fl₂ =>
        cases fl₂ with
        | ret r =>
          obtain ⟨rfl, q⟩ := hr₂
          repeat (any_goals (first | assumption | wp_step))
        | _ => exact hr₂.elim
    | _ => exact hr.elim
end
section
variable {X : Cx} {CX : CXT} {C g : Addr} {n : Nat} {sp : Sp} {E : XK}
/-- bool(x), x's own __bool__ -/
def rBoolO (C : Addr) (sp : Sp) (E : XK) : List V → Hp → VK → Prop := fun xs H Q => ∃ a dx fs, xs = [.ref a] ∧ H a = some (.ins C dx fs) ∧ sp [.ref a] H (fun v H' => ∃ b, v = .bl b ∧ Q (.bl b) H') E
theorem call_boolO (hs : PySem.W.findIn X.K (.ref C) "__bool__" = some (some (.ref g))) (hf : PySem.W.isFn X.K (.ref g) = true) (F : FnR X.prog X.w X.K X.mg X.base CX n g sp) (hr : Room (n + 2) X.A) (hx : Passes CX X E) : CallR X (.type "bool") (rBoolO C sp E) := by
  intro pins s σ H xs us Q I r h
  obtain ⟨a, dx, fs, rfl, ha, q⟩ := h
  rw [Vals.ref1 r]
  obtain ⟨mA, O, _⟩ := ins_get I.hok ha
  obtain ⟨od, J, _⟩ := O.look
  obtain ⟨m, hF⟩ := I.fr
  refine call_bool_by (PySem.W.truthy_K hF I.ok.mod.kin J hs hf ?_)
  have hr2 : Room n X.A.in1.in1 := (Room.in1 (Room.in1 hr))
  refine wpAny_mono (wpAny_call (SlX.run_at (A := X.A.in1.in1) (us := [.ref a]) (ws := [.ref a]) F hr2 I.env0.in1.in1 hx I (.cons rfl .nil) q)) (fun w' s' z => ?_) fun _ _ x => x
  obtain ⟨z', H', I', rz, b, rfl, qz⟩ := z
  cases rz
  exact ⟨.bl b, H', I', rfl, qz⟩
end
end Ld
namespace Ld
open PySem PySem.Spec PyProof.Rows L2
structure Blt3 (mg : Str → Option Value) : Prop where
  min : mg "min" = none
  max : mg "max" = none
  repr : mg "repr" = none
theorem bMin : bootBuiltins "min" = some (.builtin "min") := by decide +kernel
theorem bMax : bootBuiltins "max" = some (.builtin "max") := by decide +kernel
theorem bRepr : bootBuiltins "repr" = some (.builtin "repr") := by decide +kernel
theorem bDict : bootBuiltins "dict" = some (.type "dict") := by decide +kernel
/-- the own class is one that isinstance takes, and no built-in type's first -/
structure OddC (K : PySem.W.Frag) (C : Addr) : Prop where
  own : ((PySem.W.clsIn K C).isSome && PySem.W.typeIn K (.ref C) == some (.type "type")) = true
theorem kit_no {K : PySem.W.Frag} {C : Addr} (h : OddC K C) {T : String} (e : (fastBuiltinMro T).map (·.contains (Value.ref C)) = some false) : PySem.W.kitOne K (.type T) (.ref C) = some false := by
  unfold PySem.W.kitOne PySem.W.kitCls
  rw [if_neg (by intro q; exact nomatch (show Value.type T = Value.ref C from beq_iff_eq.mp q))]
  show (if _ then PySem.W.subIn K (.type T) (.ref C) else none) = _
  rw [if_pos h.own]
  exact e
theorem nf_no {K : PySem.W.Frag} {C : Addr} {T : String} (e : (fastBuiltinMro T).map (·.contains (Value.ref C)) = some false) : PySem.W.notFirst K C (.type T) = true := by
  unfold PySem.W.notFirst
  have e2 : PySem.W.subIn K (.type T) (.ref C) = some false := e
  rw [e2]
  simp
theorem mroDict {C : Addr} : (fastBuiltinMro "dict").map (·.contains (Value.ref C)) = some false := by kernel_rfl
theorem mroStr {C : Addr} : (fastBuiltinMro "str").map (·.contains (Value.ref C)) = some false := by kernel_rfl
theorem mroNon {C : Addr} : (fastBuiltinMro "NoneType").map (·.contains (Value.ref C)) = some false := by kernel_rfl
theorem mroInt {C : Addr} : (fastBuiltinMro "int").map (·.contains (Value.ref C)) = some false := by kernel_rfl
theorem mroTup {C : Addr} : (fastBuiltinMro "tuple").map (·.contains (Value.ref C)) = some false := by kernel_rfl
theorem mroLst {C : Addr} : (fastBuiltinMro "list").map (·.contains (Value.ref C)) = some false := by kernel_rfl
section
variable {P : Program} {w : World} {K : PySem.W.Frag} {mg : Str → Option Value} {base : Heap} {C fi : Addr}
/-- a classmethod of the class that keeps sp -/
def HasC (P : Program) (w : World) (K : PySem.W.Frag) (mg : Str → Option Value) (base : Heap) (n : Nat) (C : Addr) (name : Str) (sp : Sp) : Prop :=
  ∃ mc p g, ClX.CRead K C mc ∧ ClX.CMet K C mc name p g ∧ FnR P w K mg base CX0 n g sp
/-- a property of the class -/
def HasP (P : Program) (w : World) (K : PySem.W.Frag) (mg : Str → Option Value) (base : Heap) (n : Nat) (C : Addr) (name : Str) (sp : Sp) : Prop :=
  ∃ p g fd, PropOf K C name p g ∧ FnOk P w K mg base CX0 n g fd ["self"] sp ∧ Binds K fd ["self"] []
/-- a method of the class -/
def HasT (P : Program) (w : World) (K : PySem.W.Frag) (mg : Str → Option Value) (base : Heap) (n : Nat) (C : Addr) (name : Str) (ps : List Str) (sp : Sp) : Prop :=
  ∃ g fd, Meth K C name g ∧ FnOk P w K mg base CX0 n g fd ps sp ∧ Binds K fd ps []
end
end Ld
namespace Ld
open PySem PySem.Spec PyProof.Rows L2
open TL
section
variable {X : Cx} {CX : CXT} {k n : Nat} {f C : Addr} {sp : Sp} {E : XK} {x : Str} {p pos : Pos} {te : TE}
/-- c(), c a name that holds the class -/
def tMakeE (C : Addr) (sp : Sp) (E : XK) (te : TE) : TE := fun σ H Q => te σ H fun y H1 => y = .ref C ∧ tMakeQ C 0 sp E tNil σ H1 Q
theorem pe_makeE0 (M : Mk X.K C f) (F : FnK X.prog X.w X.K X.mg X.base CX k f [] sp) (hr : Room (k + 1) X.A) (he : PE X (.Name x p) te) (hx : Passes CX X E) : PE X (.Call (.Name x p) [] [] pos) (tMakeE C sp E te) := by
  refine ⟨fun pins s σ H Q I h => ?_⟩
  refine wpAny_Call_Name_kw (thn (he.run pins s σ H _ I h) fun u s1 ⟨y, H1, I1, ry, ey, q⟩ => ?_)
  subst ey
  obtain rfl : u = Value.ref C := ry
  exact PySem.W.callWith_K0 I1.kIn M.kp (run_makeQ (ws := []) (zs := []) M F hr hx I1 .nil rfl q.2)
end
abbrev sRd : Stmt := inClass (top 14) 2
abbrev nRd : List Str := ["cls", "text"]
/-- Load.read of a load's text -/
def spRead (C : Addr) : Sp := fun vs H Q _ => ∃ ps : List (Str × Int), vs = [.ref C, .str (txt ps)] ∧ Can ps ∧ ps.length ≤ 100 ∧ (∀ p ∈ ps, p.2.natAbs < 10 ^ 80) ∧
  ∀ (H' : Hp) (x : Addr) (ps' : List (Str × Int)), Same H H' → H x = none → LoadAt C H' x ps' → (∀ z, ct ps' z = ct ps z) → Q (.ref x) H'
section
variable {P : Program} {w : World} {K : PySem.W.Frag} {mg : Str → Option Value} {base : Heap} {C fi : Addr}
theorem scRd : FnScope nRd ["cls", "text"] (defScope sRd) := ⟨rfl, rfl, rfl, by decide +kernel, rfl, by decide +kernel, by decide +kernel⟩
theorem ok_read {f : Addr} {fd : FuncData} (F : Fun K "read" "Load.read" sRd f fd) (T : LoadC K mg C fi) (B2 : Blt2 mg) (mNo : ∃ t, mg "NOTHING" = some (.str "-" t)) (FI : FnK P w K mg base CX0 3 fi [] (spKw [] (spInitB C))) (HR : Has P w K mg base 2 "read_counts" ["text"] spRc) (HO : HasC P w K mg base 5 C "of" (spOf C)) :
    FnOk P w K mg base CX0 6 f fd ["cls", "text"] (spRead C) := by
  obtain ⟨tN, mNo⟩ := mNo
  obtain ⟨f1, d1, G1, b1, m1, k1⟩ := HR
  obtain ⟨mc, po, go, rO, cO, FO⟩ := HO
  refine F.ok scRd (fun vs H Q E h => ?_) (fun cdv A outer s H vs Q E hr h => ?_)
  · obtain ⟨ps, rfl, _⟩ := h
    rfl
  · obtain ⟨ps, rfl, can, few, hb, q⟩ := h
    have nd := scRd.nd
    have hr2 : Room 2 _ := hr.mono (by decide : 2 ≤ 5)
    have hr4 : Room 4 _ := hr.mono (by decide : 4 ≤ 5)
    refine ⟨_, (pss_cons (ps_if (pt_not (pt_val (pe_callB (r := rIsi K) call_isi (by rfl) B2.isi bIsi (pa_cons (pv 1) (pa_cons (pe_bltn (v := .ty "str") (by rfl) B2.str bStr0 rfl) pa_nil))))) (pss_one ps_never) pss_nil)
      (pss_cons (ps_if (pt_cmpR op_eq (pv 1) (pe_glob (v := .str "-") (by rfl) mNo ⟨_, rfl⟩) (nomark _)) (pss_one (ps_ret (pe_makeE0 T.mkC FI hr4 (pv 0) pass0))) pss_nil)
      (pss_cons (ps_if (pt_val (pe_m1 PySem.F.slot_str_startswith PySem.F.type_str_startswith mt_startswith (pv 1) (pe_glob (v := .str "-") (by rfl) mNo ⟨_, rfl⟩))) (pss_one ps_never) pss_nil)
      (pss_one (ps_ret (ClX.pe_cmeth (pv 0) rO cO FO hr pass0 (pa_cons (pe_call G1 hr2 (by rfl) m1 k1 b1 .nil pass0 (pa_cons (pv 1) pa_nil)) pa_nil))))))), ?_⟩
    refine seq_step (fun σ' H' => σ' = [some (.ref C), some (.str (txt ps))] ∧ H' = H) (fun R hR => ?_) (fun σ1 H1 h1 => ?_)
    · exact ⟨_, rfl, .str (txt ps), _, _, _, true, rfl, .ty _, .base (.str _), kit_ty (by decide +kernel), true, rfl, iteF (hR _ _ ⟨rfl, rfl⟩)⟩
    obtain ⟨rfl, rfl⟩ := h1
    cases ps with
    | nil =>
      refine ⟨_, rfl, rfl, _, rfl, ?_⟩
      have e : decide (V.str (txt []) = V.str "-") = true := decide_eq_true rfl
      rw [e]
      refine iteT ⟨_, rfl, rfl, rfl, made_load (y := []) (zs := []) (ps := []) rfl rfl List.nodup_nil (by decide) (fun _ h => nomatch h) fun H' x ps' same hx hL hC => q H' x ps' same hx hL hC⟩
    | cons p0 r0 =>
      have hne : (p0 :: r0) ≠ [] := by simp
      have et : txt (p0 :: r0) = joinT (p0 :: r0) := rfl
      rw [et]
      generalize hP : p0 :: r0 = ps at *
      obtain ⟨c, r, hc, hc1, hc2⟩ := joinT_head hne can.wd
      refine seq_step (fun σ' H' => σ' = [some (.ref C), some (.str (joinT ps))] ∧ H' = H1) (fun R hR => ?_) (fun σ2 H2 h2 => ?_)
      · refine ⟨_, rfl, rfl, _, rfl, ?_⟩
        rw [decide_eq_false fun e => joinT_dash hne can.wd (V.str.inj e)]
        exact iteF (hR _ _ ⟨rfl, rfl⟩)
      obtain ⟨rfl, rfl⟩ := h2
      refine seq_step (fun σ' H' => σ' = [some (.ref C), some (.str (joinT ps))] ∧ H' = H2) (fun R hR => ?_) (fun σ3 H3 h3 => ?_)
      · refine ⟨_, rfl, ⟨_, rfl⟩, _, _, rfl, rfl, _, rfl, ?_⟩
        rw [starts_dash hc, decide_eq_false (by omega)]
        exact iteF (hR _ _ ⟨rfl, rfl⟩)
      obtain ⟨rfl, rfl⟩ := h3
      refine ⟨_, rfl, rfl, _, rfl, ps, rfl, hne, can, few, hb, fun H4 p same4 hp4 e4 => ?_⟩
      refine ⟨_, p, ps, rfl, ⟨e4, can.nd, can.few, can.wd⟩, fun H' x ps' same hx hL hC => ?_⟩
      exact q H' x ps' (Same.trans same4 same) (Same.none same4 hx) hL hC
end
end Ld
namespace Ld
open PySem PySem.Spec PyProof.Rows L2
/-! ### a dict comprehension over the items of a dict of counts -/
def mapC (f : Int → Int) (flt : Int → Bool) (ps : List (Str × Int)) : List (Str × Int) := (ps.filter fun p => flt p.2).map fun p => (p.1, f p.2)
theorem mapC_keys {f : Int → Int} {flt : Int → Bool} {ps : List (Str × Int)} : (mapC f flt ps).map (·.1) = (ps.filter fun p => flt p.2).map (·.1) := by
  unfold mapC
  rw [List.map_map]
  rfl
theorem mapC_nd {f : Int → Int} {flt : Int → Bool} {ps : List (Str × Int)} (nd : (ps.map (·.1)).Nodup) : ((mapC f flt ps).map (·.1)).Nodup := by
  rw [mapC_keys]
  exact nd.sublist (List.filter_sublist.map _)
theorem mapC_mem {f : Int → Int} {flt : Int → Bool} {ps : List (Str × Int)} {q : Str × Int} : q ∈ mapC f flt ps ↔ ∃ i, (q.1, i) ∈ ps ∧ flt i = true ∧ q.2 = f i := by
  unfold mapC
  rw [List.mem_map]
  constructor
  · rintro ⟨p, hp, rfl⟩
    obtain ⟨h1, h2⟩ := List.mem_filter.mp hp
    exact ⟨p.2, h1, h2, rfl⟩
  · rintro ⟨i, h1, h2, h3⟩
    exact ⟨(q.1, i), List.mem_filter.mpr ⟨h1, h2⟩, by rw [← h3]⟩
theorem mapC_len {f : Int → Int} {flt : Int → Bool} {ps : List (Str × Int)} : (mapC f flt ps).length ≤ ps.length := by
  unfold mapC
  rw [List.length_map]
  exact List.length_filter_le _ _
theorem ct_mapC {f : Int → Int} {flt : Int → Bool} {ps : List (Str × Int)} (nd : (ps.map (·.1)).Nodup) (h0 : flt 0 = true → f 0 = 0) (z : Str) : ct (mapC f flt ps) z = if flt (ct ps z) = true then f (ct ps z) else 0 := by
  by_cases hz : z ∈ ps.map (·.1)
  · obtain ⟨p, hp, rfl⟩ := List.mem_map.mp hz
    have hc := ct_mem nd hp
    by_cases hf : flt p.2 = true
    · rw [hc, if_pos hf]
      exact ct_mem (mapC_nd nd) (mapC_mem.mpr ⟨p.2, hp, hf, rfl⟩ : (p.1, f p.2) ∈ mapC f flt ps)
    · rw [hc, if_neg hf]
      refine ct_out fun hm => ?_
      obtain ⟨q, hq, e⟩ := List.mem_map.mp hm
      obtain ⟨i, h1, h2, h3⟩ := mapC_mem.mp hq
      have h4 := ct_mem nd h1
      have h4' : ct ps q.1 = i := h4
      rw [e, hc] at h4'
      rw [h4'] at hf
      exact hf h2
  · rw [ct_out hz]
    have : z ∉ (mapC f flt ps).map (·.1) := fun hm => by
      obtain ⟨q, hq, e⟩ := List.mem_map.mp hm
      obtain ⟨i, h1, _, _⟩ := mapC_mem.mp hq
      exact hz (List.mem_map.mpr ⟨_, h1, e⟩)
    rw [ct_out this]
    split
    · rename_i h
      rw [h0 h]
    · rfl
theorem mapC_ok {f : Int → Int} {flt : Int → Bool} {ps : List (Str × Int)} {H : Hp} {D : Addr} (can : Can ps) (e : H D = some (.dK (cD (mapC f flt ps)))) : Ok H D (mapC f flt ps) :=
  ⟨e, mapC_nd can.nd, Nat.le_trans mapC_len can.few, fun p hp => by
    obtain ⟨i, h1, _, _⟩ := mapC_mem.mp hp
    exact can.wd (p.1, i) h1⟩
theorem dc_counts {t D : Addr} {od : Obj} {ps : List (Str × Int)} {g : TG} {tt : TT} {tk tv : TE} {vs : List Nat} {σ : L2.St} {H : Hp} {Qd : Hp → Prop} (f : Int → Int) (flt : Int → Bool) (h2 : H t = some (.dK (cD ps))) (can : Can ps) (hD : upd H t (.frz od (.dK (cD ps))) D = none)
    (hturn : ∀ (T : Addr) (z : Str) (i : Int) (H3 : Hp) (R : V → V → Hp → Prop) (R' : Hp → Prop), H3 T = some (.tup [.str z, .int i]) → (z, i) ∈ ps → (flt i = true → R (.str z) (.int (f i)) H3) → (flt i = false → R' H3) →
      g (.ref T) (wipe σ vs) H3 fun σ2 H2 => wipe σ2 vs = wipe σ vs ∧ tt σ2 H2 fun b H3 => if b = true then tk σ2 H3 fun y H4 => tv σ2 H4 fun z H5 => R y z H5 else R' H3)
    (hq : ∀ H', Same H (upd H' t (.dK (cD ps))) → H D = none → H' t = some (.frz od (.dK (cD ps))) → upd H' t (.dK (cD ps)) D = some (.dK (cD (mapC f flt ps))) → Qd H') :
    ∃ W : Nat → Nat → Hp → Prop, (∃ m, W 0 m (upd (upd H t (.frz od (.dK (cD ps)))) D (.dK []))) ∧ ∀ i m H, W i m H →
      ((Iti t od (cD ps)).stop i H ∧ Qd H) ∨ ((Iti t od (cD ps)).go i H ∧ ∃ Nx : Hp → Prop, (∀ H', Nx H' → ∃ m', m' < m ∧ W (i + 1) m' H') ∧ ∀ x H', (Iti t od (cD ps)).yld i H x H' → g x (wipe σ vs) H' fun σ2 H2 => wipe σ2 vs = wipe σ vs ∧ tt σ2 H2 fun b H3 =>
        if b = true then tk σ2 H3 fun y H4 => tv σ2 H4 fun z H5 => ∃ kvs k, y = kV k ∧ H5 D = some (.dK kvs) ∧ kvs.length < sizeLine ∧ Nx (upd H5 D (.dK (putK kvs k z))) else Nx H3) := by
  have nDt : D ≠ t := fun e => by rw [e, upd_same] at hD; cases hD
  have hD0 : H D = none := by rw [upd_ne nDt] at hD; exact hD
  refine dc_it (H1 := upd H t (.frz od (.dK (cD ps)))) (walk_items (d := t) (o := od) (kvs := cD ps)) (fun i H' => H' D = some (.dK (cD (mapC f flt (ps.take i)))) ∧ H' t = some (.frz od (.dK (cD ps))) ∧ ∀ b o, H b = some o → b ≠ t → H' b = some o)
    ⟨upd_same, by rw [upd_ne nDt.symm, upd_same], fun b o eb nb => by rw [upd_ne (ne_of_none eb hD0), upd_ne nb]; exact eb⟩ (fun i H' _ h => h.2.1) ?_ ?_
  · rintro i v H2 H3 hi ⟨eD, et, keep⟩ ⟨T1, k1, v1, rfl, hT, rfl, ek, ev⟩
    rw [cD_len] at hi
    have hp : (cD ps)[i]? = some (Sum.inr ps[i].1, V.int ps[i].2) := by
      unfold cD
      rw [List.getElem?_map, List.getElem?_eq_getElem hi]
      rfl
    have ek : (cD ps)[i]?.map (fun kv : Key × V => kV kv.1) = some k1 := ek
    have ev : (cD ps)[i]?.map Prod.snd = some v1 := ev
    rw [hp] at ek ev
    cases ek
    cases ev
    have hmem : ps[i] ∈ ps := List.getElem_mem hi
    have nTD : T1 ≠ D := (ne_of_none eD hT).symm
    have nTt : T1 ≠ t := (ne_of_none et hT).symm
    have e1 : mapC f flt (ps.take (i + 1)) = mapC f flt (ps.take i) ++ (if flt ps[i].2 = true then [(ps[i].1, f ps[i].2)] else []) := by
      unfold mapC
      rw [List.take_add_one, List.getElem?_eq_getElem hi, List.filter_append, List.map_append]
      congr 1
      show (List.filter _ [ps[i]]).map _ = _
      rw [List.filter_cons]
      split <;> rfl
    have keep2 : ∀ b o, H b = some o → b ≠ t → (upd H2 T1 (.tup [kV (Sum.inr ps[i].1), .int ps[i].2])) b = some o := fun b o eb nb => by
      have e2 := keep b o eb nb
      rw [upd_ne (ne_of_none e2 hT)]
      exact e2
    refine hturn T1 ps[i].1 ps[i].2 _ _ _ upd_same hmem (fun c => ?_) (fun c => ?_)
    · refine ⟨_, Sum.inr ps[i].1, rfl, by rw [upd_ne nTD.symm]; exact eD, ?_, ?_, ?_, ?_⟩
      · rw [cD_len]
        refine Nat.lt_of_le_of_lt (Nat.le_trans mapC_len ?_) (Nat.lt_of_le_of_lt can.few (by decide : 1000 < sizeLine))
        rw [List.length_take]
        omega
      · rw [upd_same, cD_put, e1, if_pos c]
        rw [mapC_keys]
        intro hm
        have hm2 := (List.filter_sublist.map _).subset hm
        have nd2 := can.nd
        obtain ⟨q, hq, e⟩ := List.mem_map.mp hm2
        obtain ⟨j, hj, ej⟩ := List.mem_take_iff_getElem.mp hq
        have hji : j < i := by omega
        have hjl : j < ps.length := by omega
        have a1 : (ps.map (·.1))[j]'(by rw [List.length_map]; exact hjl) = (ps.map (·.1))[i]'(by rw [List.length_map]; exact hi) := by
          rw [List.getElem_map, List.getElem_map, ej]
          exact e
        have := (List.getElem_inj nd2).mp a1
        omega
      · rw [upd_ne nDt.symm, upd_ne nTt.symm]
        exact et
      · intro b o eb nb
        rw [upd_ne (ne_of_none eb hD0)]
        exact keep2 b o eb nb
    · refine ⟨?_, by rw [upd_ne nTt.symm]; exact et, keep2⟩
      rw [upd_ne nTD.symm, eD, e1, if_neg (by rw [c]; exact Bool.false_ne_true), List.append_nil]
  · rintro H2 ⟨eD, et, keep⟩
    rw [cD_len, List.take_of_length_le (Nat.le_refl _)] at eD
    refine hq H2 (fun b o eb => ?_) hD0 et (by rw [upd_ne nDt]; exact eD)
    by_cases e : b = t
    · rw [e, upd_same, ← h2, ← e, eb]
    · rw [upd_ne e]
      exact keep b o eb e
end Ld
namespace Ld
open PySem PySem.Spec PyProof.Rows L2
abbrev sMul : Stmt := inClass (top 14) 17
abbrev nMul : List Str := ["self", "other", "kind", "count"]
/-- x * n -/
def spMul (C : Addr) : Sp := fun vs H Q _ => ∃ (x : Addr) (ps : List (Str × Int)) (n : Int), vs = [.ref x, .int n] ∧ LoadAt C H x ps ∧ (∀ p ∈ ps, p.2.natAbs < 2 ^ 400) ∧ n.natAbs < 2 ^ 400 ∧
  ∀ (H' : Hp) (y : Addr) (ps' : List (Str × Int)), Same H H' → H y = none → LoadAt C H' y ps' → (∀ z, ct ps' z = ct ps z * n) → Q (.ref y) H'
section
variable {P : Program} {w : World} {K : PySem.W.Frag} {mg : Str → Option Value} {base : Heap} {C fi : Addr}
theorem scMul : FnScope nMul ["self", "other"] (defScope sMul) := ⟨rfl, rfl, rfl, by decide +kernel, rfl, by decide +kernel, by decide +kernel⟩
theorem ok_mul {f : Addr} {fd : FuncData} (F : Fun K "__mul__" "Load.__mul__" sMul f fd) (T : LoadC K mg C fi) (HI : Has P w K mg base 1 "is_integer" ["value"] (spIsInt K)) (HO : HasC P w K mg base 5 C "of" (spOf C)) : FnOk P w K mg base CX0 6 f fd ["self", "other"] (spMul C) := by
  obtain ⟨g3, gd3, G3, b3, m3, k3⟩ := HI
  obtain ⟨mc, po, go, rO, cO, FO⟩ := HO
  refine F.ok scMul (fun vs H Q E h => ?_) (fun cdv A outer s H vs Q E hr h => ?_)
  · obtain ⟨x, ps, n, rfl, _⟩ := h
    rfl
  · obtain ⟨x, ps, n, rfl, hx, hb, hn, q⟩ := h
    have nd : nMul.Nodup := scMul.nd
    have hr1 : Room 1 _ := hr.mono (by decide)
    refine ⟨_, pss_cons (ps_if (pt_not (pt_truth (pe_call G3 hr1 (by rfl) m3 k3 b3 .nil pass0 (pa_cons (pv 1) pa_nil)) (fun _ => rfl))) (pss_one ps_never) pss_nil)
      (pss_one (ps_ret (ClX.pe_cmeth (pe_glob (v := .ref C) (by rfl) T.gC rfl) rO cO FO hr pass0 (pa_cons (pe_lock (pe_dc (own := [("kind", 2), ("count", 3)]) (g := gTup K 2 (gCons (gName 2) (gCons (gName 3) gNil))) (tt := tYes) rfl nd (pi_items (pe_fld (pv 0) rfl)) (blkOk_by (N := nMul) (sc := defScope sMul) (by decide +kernel))
      (fun _ _ _ _ _ => pg_tup rfl (pgs_cons (pg_name (i := 2) nd rfl (Or.inl rfl)) (pgs_cons (pg_name (i := 3) nd rfl (Or.inl rfl)) pgs_nil))) (fun _ _ _ _ _ => pts_nil)
      (fun _ _ _ _ _ => pv 2) (fun _ _ _ _ _ => pe_op op_mulW (pv 3) (pv 1)))) pa_nil)))), ?_⟩
    refine ⟨_, rfl, .int n, .type "int", true, false, rfl, .base (.int _), kit_ty (by decide +kernel), kit_ty (by decide +kernel), true, rfl, ?_⟩
    obtain ⟨dx, t, h1, h2, can⟩ := hx
    have nxt : x ≠ t := ne_of h1 h2 (fun z => nomatch z)
    refine ⟨rfl, t, _, h2, trivial, fun od => ⟨_, rfl, x, C, dx, _, _, rfl, by rw [upd_ne nxt]; exact h1, T.c, T.nc, rfl, t, od, cD ps, rfl, upd_same, fun D hD => ?_⟩⟩
    refine dc_counts (fun i => i * n) (fun _ => true) h2 can hD (fun T1 z i H3 R R' e hm c1 c2 => ?_) fun H2 same hD0 et eD => ?_
    · exact ⟨T1, _, rfl, .inl (.inl e), rfl, _, _, rfl, _, _, rfl, rfl, rfl, ⟨_, rfl, _, rfl, _, rfl, _, _, rfl, rfl, (wide_mul (hb _ hm) hn (by decide) (by decide) (by decide) : CMulW i n), c1 rfl⟩⟩
    · refine ⟨et, _, D, _, rfl, mapC_ok can eD, fun H' y ps' s2 hy hl hc => ?_⟩
      exact q H' y ps' (Same.trans same s2) (Same.none same hy) hl fun z => by rw [hc, ct_mapC can.nd (fun _ => Int.zero_mul n)]; exact if_pos rfl
end
end Ld
namespace Ld
open PySem PySem.Spec PyProof.Rows L2
open TL
/-! ### text * int -/
theorem op_mul_str {X : Cx} : OpR X (binaryOp .Mult) (fun x y H Q => ∃ i n, x = .str i ∧ y = .int n ∧ MulOk i n ∧ Q (.str (Txt.mul i n)) H) := by
  intro pins s σ H x y v u Q I rx ry h
  obtain ⟨i, n, rfl, rfl, hz, q⟩ := h
  obtain ⟨t, rfl⟩ := rx
  obtain ⟨t', rfl⟩ := ry
  exact PySem.SB.mul hz (fun t' k => ⟨.str _, H, I.tok _, ⟨_, rfl⟩, q⟩)
section
variable {K : PySem.W.Frag} {H : Hp} {p : Addr} {Q : VK}
theorem rd_reprD {ps : List (Str × Int)} (e : H p = some (.dK (cD ps))) (few : ps.length ≤ 100) (h : ∀ q ∈ ps, wordB q.1 = true ∧ q.2.natAbs < 10 ^ 100) (q : Q (.str (datD (cD ps)).shown) H) : rRepr K [.ref p] H Q := by
  obtain ⟨s1, s2, s3⟩ := show_ct (k := 100) (by decide) (by decide) h
  refine ⟨.ref p, datD (cD ps), rfl, .inr ⟨p, cD ps, rfl, e, scalar_cD ps, rfl⟩, s1, by rw [s2]; decide, Nat.le_trans s3 ?_, q⟩
  exact Nat.le_trans (Nat.add_le_add_left (Nat.mul_le_mul_right _ few) 2) (by decide)
end
theorem mapC_can {f : Int → Int} {flt : Int → Bool} {ps : List (Str × Int)} (c : Can ps) (h : ∀ p ∈ ps, flt p.2 = true → f p.2 ≠ 0) : Can (mapC f flt ps) := by
  refine ⟨mapC_nd c.nd, ?_, fun p hp => ?_, fun p hp => ?_, Nat.le_trans mapC_len c.few⟩
  · rw [mapC_keys]
    exact pw_sorted ((sorted_pw c.srt).sublist (List.filter_sublist.map _))
  · obtain ⟨i, h1, h2, h3⟩ := mapC_mem.mp hp
    rw [h3]
    exact h (p.1, i) h1 h2
  · obtain ⟨i, h1, _, _⟩ := mapC_mem.mp hp
    exact c.wd (p.1, i) h1
theorem mapC_id (ps : List (Str × Int)) : mapC (fun i => i) (fun _ => true) ps = ps := by
  unfold mapC
  rw [List.filter_eq_self.mpr fun _ _ => rfl]
  exact List.map_id ps
/-! ### texts as data -/
theorem ok_cps {z : Str} (h : ∀ c ∈ tl z, c ≤ 122) : PyData.strOk z = true := by
  unfold PyData.strOk
  rw [← Array.all_toList, List.all_eq_true]
  exact fun c hc => decide_eq_true (Nat.lt_of_le_of_lt (h c hc) (by decide))
theorem txI_cps {i : Int} : ∀ c ∈ tl (txI i), c ≤ 122 := fun c hc => by
  have key : ∀ {n : Nat}, c ∈ numL n → c ≤ 122 := fun {n} h => by
    have r := numL_digits n c h
    omega
  rw [tl_txI] at hc
  split at hc
  · rcases List.mem_cons.mp hc with rfl | h
    · decide
    · exact key h
  · exact key hc
theorem word_cps {z : Str} (h : wordB z = true) : ∀ c ∈ tl z, c ≤ 122 := fun c hc => by
  unfold wordB at h
  rw [Bool.and_eq_true] at h
  have h2 := List.all_eq_true.mp h.2 c hc
  unfold azB at h2
  rw [Bool.and_eq_true, decide_eq_true_eq, decide_eq_true_eq] at h2
  exact h2.2
theorem oneT_ok {p : Str × Int} (h : wordB p.1 = true) : PyData.strOk (oneT p) = true := ok_cps fun c hc => by
  unfold oneT at hc
  rw [tl_append, tl_append, tl_sp] at hc
  simp only [List.mem_append, List.mem_singleton] at hc
  rcases hc with (h1 | rfl) | h1
  · exact word_cps h c h1
  · decide
  · exact txI_cps c h1
theorem strs_lay : ∀ zs : List Str, (∀ z ∈ zs, PyData.strOk z = true) → PyData.canLayAll0 (zs.map PyData.str) = true ∧ PyData.depthAll (zs.map PyData.str) = 0
  | [], _ => ⟨rfl, rfl⟩
  | z :: r, h => by
    obtain ⟨h1, h2⟩ := strs_lay r fun y hy => h y (List.mem_cons_of_mem _ hy)
    have h0 := h z List.mem_cons_self
    refine ⟨?_, ?_⟩
    · simp only [List.map_cons, PyData.canLayAll0, PyData.canLay0, h1, h0, Bool.and_self]
    · simp only [List.map_cons, PyData.depthAll, PyData.depth, h2, Nat.max_self]
theorem strs_shaped {zs : List Str} (h : ∀ z ∈ zs, PyData.strOk z = true) : SeqAt.shaped (.list (zs.map PyData.str)) = true := by
  obtain ⟨h1, h2⟩ := strs_lay zs h
  unfold SeqAt.shaped
  rw [Bool.and_eq_true]
  refine ⟨?_, decide_eq_true ?_⟩
  · simp only [PyData.canLay0]
    exact h1
  · simp only [PyData.depth]
    omega
theorem strs_eqv (zs : List Str) : PyData.eqv (.list (zs.map PyData.str)) (.list []) = zs.isEmpty := by
  cases zs with
  | nil => simp [PyData.eqv, PyData.eqvAll]
  | cons p r => simp [PyData.eqv, PyData.eqvAll]
theorem dp_strs {K : PySem.W.Frag} {H : Hp} : ∀ zs : List Str, DpAll K H (zs.map V.str) (zs.map PyData.str)
  | [] => .nil
  | z :: r => .cons (.str z) (dp_strs r)
/-! ### how long -/
theorem oneT_len {p : Str × Int} (hw : wordB p.1 = true) (hb : p.2.natAbs < 10 ^ 95) : (oneT p).length ≤ 110 := by
  have h1 := wordB_len hw
  have hl := txI_len (by decide) hb
  unfold oneT
  rw [len_app, len_app]
  have e1 : ((" " : Str)).length = 1 := by decide +kernel
  omega
theorem ones_len {ps : List (Str × Int)} (h : ∀ p ∈ ps, (oneT p).length ≤ 110) : ((ps.map oneT).map (·.length)).sum ≤ ps.length * 110 := by
  induction ps with
  | nil => exact Nat.zero_le _
  | cons y r ih =>
    rw [List.map_cons, List.map_cons, List.sum_cons, List.length_cons]
    have := ih (fun z hz => h z (List.mem_cons_of_mem _ hz))
    have := h y List.mem_cons_self
    omega
theorem joinT_empty {ps : List (Str × Int)} (hw : ∀ p ∈ ps, wordB p.1 = true) : decide (V.str (joinT ps) = V.str "") = ps.isEmpty := by
  cases ps with
  | nil => rfl
  | cons p r =>
    refine decide_eq_false fun e => ?_
    obtain ⟨c, s, h, _, _⟩ := joinT_head (ps := p :: r) (by simp) hw
    rw [V.str.inj e] at h
    exact nomatch (show ([] : List Nat) = c :: s from h)
theorem tidy_take {qs : List (Str × Int)} {ys : List Str} {j : Nat} (hj : j < ys.length) : tidy qs (ys.take (j + 1)) = tidy qs (ys.take j) ++ (if ct qs ys[j] = 0 then [] else [(ys[j], ct qs ys[j])]) := by
  unfold tidy
  rw [List.take_add_one, List.getElem?_eq_getElem hj, List.map_append, List.filter_append]
  congr 1
  show List.filter _ [(ys[j], ct qs ys[j])] = _
  rw [List.filter_cons]
  by_cases e : ct qs ys[j] = 0
  · rw [if_pos e, e]
    rfl
  · rw [if_neg e, if_pos]
    · rfl
    · exact bne_iff_ne.mpr e
theorem tidy_len (qs : List (Str × Int)) (ys : List Str) : (tidy qs ys).length ≤ ys.length := by
  unfold tidy
  refine Nat.le_trans (List.length_filter_le _ _) ?_
  rw [List.length_map]
  exact Nat.le_refl _
/-! ### a list comprehension of texts over the kinds -/
theorem lc_txt {K : PySem.W.Frag} {l D : Addr} {ys : List Str} {qs : List (Str × Int)} {g : TG} {tt : TT} {te : TE} {vs : List Nat} {σ : L2.St} {H : Hp} {Qd : Hp → Prop} (f : Int → Int) (hl : H l = some (.lst (ys.map V.str))) (few : ys.length ≤ 1000) (hD : H D = none)
    (hturn : ∀ (z : Str) (H3 : Hp) (R : V → Hp → Prop) (R' : Hp → Prop), z ∈ ys → Same H H3 → (ct qs z ≠ 0 → R (.str (oneT (z, f (ct qs z)))) H3) → (ct qs z = 0 → R' H3) →
      g (.str z) (wipe σ vs) H3 fun σ2 H2 => wipe σ2 vs = wipe σ vs ∧ tt σ2 H2 fun b H3 => if b = true then te σ2 H3 fun y H4 => R y H4 else R' H3)
    (hq : ∀ H', Same H H' → H' D = some (.lst (((mapC f (fun _ => true) (tidy qs ys)).map oneT).map V.str)) → Qd H') :
    ∃ W : Nat → Nat → Hp → Prop, (∃ m, W 0 m (upd H D (.lst []))) ∧ ∀ i m H, W i m H →
      ((Itl K l).stop i H ∧ Qd H) ∨ ((Itl K l).go i H ∧ ∃ Nx : Hp → Prop, (∀ H', Nx H' → ∃ m', m' < m ∧ W (i + 1) m' H') ∧ ∀ x H', (Itl K l).yld i H x H' → g x (wipe σ vs) H' fun σ2 H2 => wipe σ2 vs = wipe σ vs ∧ tt σ2 H2 fun b H3 =>
        if b = true then te σ2 H3 fun y H4 => ∃ acc, H4 D = some (.lst acc) ∧ acc.length < sizeLine ∧ Nx (upd H4 D (.lst (acc ++ [y]))) else Nx H3) := by
  have e1 : ∀ {j : Nat} (hj : j < ys.length), ((mapC f (fun _ => true) (tidy qs (ys.take (j + 1)))).map oneT).map V.str = ((mapC f (fun _ => true) (tidy qs (ys.take j))).map oneT).map V.str ++ (if ct qs ys[j] = 0 then [] else [V.str (oneT (ys[j], f (ct qs ys[j])))]) := fun {j} hj => by
    rw [tidy_take hj]
    unfold mapC
    rw [List.filter_append, List.map_append, List.map_append, List.map_append]
    congr 1
    split <;> rfl
  refine lc_it (walk_list (K := K) (a := l) (xs := ys.map V.str)) (fun j H' => Same H H' ∧ H' D = some (.lst (((mapC f (fun _ => true) (tidy qs (ys.take j))).map oneT).map V.str)))
    ⟨same_new hD, upd_same⟩ (fun j H' _ ⟨h, _⟩ => .inl (.inl (h _ _ hl))) ?_ ?_
  · rintro j x H5 H6 hj ⟨same, eD⟩ ⟨rfl, hx⟩
    rw [List.length_map] at hj
    rw [List.getElem?_map, List.getElem?_eq_getElem hj] at hx
    obtain rfl : x = V.str ys[j] := (Option.some.inj hx).symm
    refine hturn ys[j] H6 _ _ (List.getElem_mem hj) same (fun c => ?_) (fun c => ?_)
    · refine ⟨_, eD, ?_, ?_, ?_⟩
      · rw [List.length_map, List.length_map]
        refine Nat.lt_of_le_of_lt (Nat.le_trans mapC_len (Nat.le_trans (tidy_len _ _) ?_)) (by decide : 1000 < sizeLine)
        rw [List.length_take]
        omega
      · intro c o ec
        rw [upd_ne (ne_of_none ec hD)]
        exact same _ _ ec
      · rw [upd_same, e1 hj, if_neg c]
    · refine ⟨same, ?_⟩
      rw [e1 hj, if_pos c, List.append_nil]
      exact eD
  · rintro H5 ⟨same, eD⟩
    rw [List.length_map, List.take_of_length_le (Nat.le_refl _)] at eD
    exact hq H5 same eD
end Ld
namespace Ld
open PySem PySem.Spec PyProof.Rows L2
theorem PenAt.ncD {p c t : Addr} {ns : List Int} {u r : Int} {H : Hp} {ps : List (Str × Int)} (P : PenAt H p c ns u r) (h : H t = some (.dK (cD ps))) : t ≠ p := by
  rintro rfl
  obtain ⟨kvs, h1, _, h2, _⟩ := P.ob
  rw [h] at h1
  cases h1
  rw [valV_cD] at h2
  cases e : ctO ps "cells" with
  | none => rw [e] at h2; cases h2
  | some i => rw [e] at h2; cases h2
theorem LoadAt.keepP {C p c x : Addr} {ns : List Int} {u r : Int} {H H' : Hp} {ps : List (Str × Int)} (h : LoadAt C H x ps) (P : PenAt H p c ns u r) (s : SameP p H H') : LoadAt C H' x ps := by
  obtain ⟨dx, t, h1, h2, can⟩ := h
  obtain ⟨kvs, hp, _⟩ := P.ob
  exact ⟨dx, t, s _ _ h1 (ne_of h1 hp fun z => nomatch z), s _ _ h2 (P.ncD h2), can⟩
/-- pairs of words and drawn numbers -/
theorem lc_given {K : PySem.W.Frag} {l D p c : Addr} {ws : List Str} {ns : List Int} {u r : Int} {g : TG} {te : TE} {vs : List Nat} {σ : L2.St} {H : Hp} {Qd : Hp → Prop} (hl : H l = some (.lst (ws.map V.str))) (hw : ws.length ≤ 7) (PA : PenAt H p c ns u r) (hD : H D = none)
    (hturn : ∀ (z : Str) (H3 : Hp) (u5 r5 : Int) (R : V → Hp → Prop), PenAt H3 p c ns u5 r5 → u5 ≤ u + 280 → (∀ (e u8 r8 : Int) (H8 : Hp) (T : Addr), e.natAbs < 10 ^ 30 → u8 ≤ u5 + 40 → PenAt H8 p c ns u8 r8 → SameP p H3 H8 → H8 T = none → R (.ref T) (upd H8 T (.tup [.str z, .int e]))) →
      g (.str z) (wipe σ vs) H3 fun σ2 H2 => wipe σ2 vs = wipe σ vs ∧ te σ2 H2 fun y H4 => R y H4)
    (hq : ∀ (H' : Hp) (ts : List Addr) (qs : List (Str × Int)) (u' r' : Int), SameP p H H' → PenAt H' p c ns u' r' → u' ≤ u + 280 → H' D = some (.lst (ts.map V.ref)) → TupsAt H' ts qs → qs.map (·.1) = ws → (∀ q ∈ qs, q.2.natAbs < 10 ^ 30) → Qd H') :
    ∃ W : Nat → Nat → Hp → Prop, (∃ m, W 0 m (upd H D (.lst []))) ∧ ∀ i m H, W i m H →
      ((Itl K l).stop i H ∧ Qd H) ∨ ((Itl K l).go i H ∧ ∃ Nx : Hp → Prop, (∀ H', Nx H' → ∃ m', m' < m ∧ W (i + 1) m' H') ∧ ∀ x H', (Itl K l).yld i H x H' → g x (wipe σ vs) H' fun σ2 H2 => wipe σ2 vs = wipe σ vs ∧ tYes σ2 H2 fun b H3 =>
        if b = true then te σ2 H3 fun y H4 => ∃ acc, H4 D = some (.lst acc) ∧ acc.length < sizeLine ∧ Nx (upd H4 D (.lst (acc ++ [y]))) else Nx H3) := by
  have nDp := PA.nd hD
  have nDc := PA.nc hD
  have nlD : l ≠ D := ne_of_none hl hD
  have nlp := PA.nl hl
  refine lc_it (tt := tYes) (walk_list (K := K) (a := l) (xs := ws.map V.str)) (fun j H' => ∃ (ts : List Addr) (qs : List (Str × Int)) (u' r' : Int), PenAt H' p c ns u' r' ∧ u' ≤ u + 40 * j ∧ SameP p H H' ∧ H' D = some (.lst (ts.map V.ref)) ∧ TupsAt H' ts qs ∧ qs.map (·.1) = ws.take j ∧ ∀ q ∈ qs, q.2.natAbs < 10 ^ 30)
    ⟨[], [], u, r, PA.upd nDp nDc, by omega, SameP.of (same_new hD), upd_same, .nil, rfl, fun _ h => nomatch h⟩ (fun j H' _ ⟨_, _, _, _, _, _, h, _⟩ => .inl (.inl (h _ _ hl nlp))) ?_ ?_
  · rintro j x H5 H6 hj ⟨ts, qs, u5, r5, PA5, hu5, s5, eD, hts, hq1, hq2⟩ ⟨rfl, hx⟩
    rw [List.length_map] at hj
    rw [List.getElem?_map, List.getElem?_eq_getElem hj] at hx
    obtain rfl : x = V.str ws[j] := (Option.some.inj hx).symm
    have hlen : ts.length = qs.length := hts.length
    have hql : qs.length = j := by
      have := congrArg List.length hq1
      rw [List.length_map, List.length_take] at this
      omega
    refine hturn ws[j] H6 u5 r5 _ PA5 (by omega) fun e u8 r8 H8 T he hu8 PA8 keep8 hT => ?_
    have eD8 := keep8 _ _ eD nDp
    have nTD : D ≠ T := ne_of_none eD8 hT
    refine ⟨_, by rw [upd_ne nTD]; exact eD8, ?_, ts ++ [T], qs ++ [(ws[j], e)], u8, r8, (PA8.upd (PA8.nd hT) (PA8.nc hT)).upd nDp nDc, by omega, fun b o hb nb => ?_, ?_, ?_, ?_, ?_⟩
    · rw [List.length_map, hlen, hql]
      exact Nat.lt_of_le_of_lt (by omega : _ ≤ 7) (by decide)
    · have h8 := keep8 _ _ (s5 b o hb nb) nb
      rw [upd_ne (ne_of_none hb hD), upd_ne (ne_of_none h8 hT)]
      exact h8
    · rw [upd_same, List.map_append]
      rfl
    · refine .snoc (TupsAt.keep hts fun t xs ht => ?_) ?_
      · have h1 := keep8.tup PA5 t xs ht
        rw [upd_ne (ne_of h1 eD8 fun z => nomatch z), upd_ne (ne_of_none h1 hT)]
        exact h1
      · rw [upd_ne nTD.symm, upd_same]
    · rw [List.map_append, hq1, List.take_add_one, List.getElem?_eq_getElem hj]
      rfl
    · intro q hq
      rcases List.mem_append.mp hq with h | h
      · exact hq2 q h
      · rw [List.mem_singleton.mp h]
        exact he
  · rintro H5 ⟨ts, qs, u5, r5, PA5, hu5, s5, eD, hts, hq1, hq2⟩
    rw [List.length_map] at hu5 hq1
    rw [List.take_of_length_le (Nat.le_refl _)] at hq1
    exact hq H5 ts qs u5 r5 s5 PA5 (by omega) eD hts hq1 hq2
end Ld
namespace Ld
open PySem PySem.Spec PyProof.Rows L2
open TL
/-! ### texts of loads told apart from other texts: the program's way and the law's, as functions on lists of signs -/
abbrev zz : List Nat := List.replicate 8 122
abbrev AzN (c : Nat) : Prop := 97 ≤ c ∧ c ≤ 122
abbrev DgN (c : Nat) : Prop := 48 ≤ c ∧ c ≤ 57
/-- how many signs of p behind w begin a word that comes after l -/
def krG (l w : List Nat) : List Nat → Nat
  | [] => 0
  | c :: r => if w.length < 8 ∧ AzN c ∧ l < (w ++ [c]) ++ zz.drop (w.length + 1) then Nat.succ (krG l (w ++ [c]) r) else 0
/-- how many digits, at most n, the first one not 0 -/
def dgG : Nat → Bool → List Nat → Nat
  | 0, _, _ => 0
  | _ + 1, _, [] => 0
  | n + 1, b, c :: r => if DgN c ∧ ¬ (b = true ∧ c = 48) then Nat.succ (dgG n false r) else 0
def crG : List Nat → Nat
  | 45 :: r => Nat.succ (dgG 80 true r)
  | r => dgG 80 true r
/-- the law's walk -/
def wk : (w l : List Nat) → (st f k : Nat) → List Nat → Nat × Bool
  | _, _, st, _, k, [] => (k, decide (st = 3))
  | w, l, st, f, k, c :: r =>
    if st = 0 ∧ AzN c ∧ (w ++ [c]).length ≤ 8 ∧ l < ((w ++ [c]) ++ zz).take 8 then wk (w ++ [c]) l st f (k + 1) r
    else if st = 0 ∧ c = 32 ∧ l < w then wk w l 1 f (k + 1) r
    else if st = 1 ∧ c = 45 then wk w l 2 f (k + 1) r
    else if (st = 1 ∨ st = 2) ∧ DgN c ∧ c ≠ 48 then wk w l 3 1 (k + 1) r
    else if st = 3 ∧ DgN c ∧ f < 80 then wk w l st (f + 1) (k + 1) r
    else if st = 3 ∧ c = 32 ∧ w < zz then wk [] w 0 f (k + 1) r
    else (k, false)
/-- what the program makes of the parts: where they end to begin a load's text, or the pairs -/
def rdG : (l : List Nat) → (at_ : Nat) → List (List Nat) → Nat ⊕ List (List Nat × List Nat)
  | _, _, [] => .inr []
  | l, a, [p] => if l = zz then .inl (a - 1) else .inl (a + krG l [] p)
  | l, a, p :: q :: r =>
    if l = zz then .inl (a - 1)
    else if krG l [] p < p.length ∨ p ≤ l then .inl (a + krG l [] p)
    else if crG q < q.length ∨ q = [] ∨ q = [45] then .inl (a + krG l [] p + 1 + crG q)
    else match rdG p (a + krG l [] p + 1 + crG q + 1) r with
      | .inl i => .inl i
      | .inr ps => .inr ((p, q) :: ps)
theorem krG_cons (l w : List Nat) (c : Nat) (r : List Nat) : krG l w (c :: r) = if w.length < 8 ∧ AzN c ∧ l < (w ++ [c]) ++ zz.drop (w.length + 1) then Nat.succ (krG l (w ++ [c]) r) else 0 := rfl
theorem dgG_cons (n : Nat) (b : Bool) (c : Nat) (r : List Nat) : dgG (n + 1) b (c :: r) = if DgN c ∧ ¬ (b = true ∧ c = 48) then Nat.succ (dgG n false r) else 0 := rfl
theorem wk_cons (w l : List Nat) (st f k c : Nat) (r : List Nat) : wk w l st f k (c :: r) =
    if st = 0 ∧ AzN c ∧ (w ++ [c]).length ≤ 8 ∧ l < ((w ++ [c]) ++ zz).take 8 then wk (w ++ [c]) l st f (k + 1) r
    else if st = 0 ∧ c = 32 ∧ l < w then wk w l 1 f (k + 1) r
    else if st = 1 ∧ c = 45 then wk w l 2 f (k + 1) r
    else if (st = 1 ∨ st = 2) ∧ DgN c ∧ c ≠ 48 then wk w l 3 1 (k + 1) r
    else if st = 3 ∧ DgN c ∧ f < 80 then wk w l st (f + 1) (k + 1) r
    else if st = 3 ∧ c = 32 ∧ w < zz then wk [] w 0 f (k + 1) r
    else (k, false) := rfl
theorem wk_nil (w l : List Nat) (st f k : Nat) : wk w l st f k [] = (k, decide (st = 3)) := rfl
theorem rdG_one (l : List Nat) (a : Nat) (p : List Nat) : rdG l a [p] = if l = zz then .inl (a - 1) else .inl (a + krG l [] p) := rfl
theorem rdG_two (l : List Nat) (a : Nat) (p q : List Nat) (r : List (List Nat)) : rdG l a (p :: q :: r) =
    if l = zz then .inl (a - 1)
    else if krG l [] p < p.length ∨ p ≤ l then .inl (a + krG l [] p)
    else if crG q < q.length ∨ q = [] ∨ q = [45] then .inl (a + krG l [] p + 1 + crG q)
    else match rdG p (a + krG l [] p + 1 + crG q + 1) r with
      | .inl i => .inl i
      | .inr ps => .inr ((p, q) :: ps) := rfl
theorem krG_le (l : List Nat) : ∀ (w p : List Nat), krG l w p ≤ p.length
  | _, [] => Nat.le_refl _
  | w, c :: r => by
    rw [krG_cons, List.length_cons]
    have := krG_le l (w ++ [c]) r
    split <;> omega
theorem dgG_le : ∀ (n : Nat) (b : Bool) (p : List Nat), dgG n b p ≤ p.length
  | 0, _, _ => Nat.zero_le _
  | _ + 1, _, [] => Nat.le_refl _
  | n + 1, b, c :: r => by
    rw [dgG_cons, List.length_cons]
    have := dgG_le n false r
    split <;> omega
theorem crG_neg (r : List Nat) : crG (45 :: r) = Nat.succ (dgG 80 true r) := rfl
theorem crG_pos {q : List Nat} (h : ∀ t, q ≠ 45 :: t) : crG q = dgG 80 true q := by
  unfold crG
  split
  · exact absurd rfl (h _)
  · rfl
theorem crG_le (q : List Nat) : crG q ≤ q.length := by
  by_cases h : ∃ t, q = 45 :: t
  · obtain ⟨t, rfl⟩ := h
    have := dgG_le 80 true t
    rw [crG_neg, List.length_cons]
    omega
  · rw [crG_pos fun t e => h ⟨t, e⟩]
    exact dgG_le _ _ _
theorem krG_all (l : List Nat) : ∀ (p w : List Nat), w.length ≤ 8 → (∀ c ∈ w, AzN c) → krG l w p = p.length → (w ++ p).length ≤ 8 ∧ ∀ c ∈ w ++ p, AzN c
  | [], w, h1, h2, _ => by
    rw [List.append_nil]
    exact ⟨h1, h2⟩
  | c :: r, w, h1, h2, h => by
    rw [krG_cons, List.length_cons] at h
    by_cases hb : w.length < 8 ∧ AzN c ∧ l < (w ++ [c]) ++ zz.drop (w.length + 1)
    · rw [if_pos hb] at h
      have := krG_all l r (w ++ [c]) (by rw [List.length_append]; simp; omega) (fun x hx => by
        rcases List.mem_append.mp hx with h3 | h3
        · exact h2 x h3
        · rw [List.mem_singleton.mp h3]
          exact hb.2.1) (by omega)
      rwa [List.append_assoc] at this
    · rw [if_neg hb] at h
      omega
theorem krG_word {l p : List Nat} (h : krG l [] p = p.length) : p.length ≤ 8 ∧ ∀ c ∈ p, AzN c := by
  have := krG_all l p [] (by simp) (fun _ h => nomatch h) h
  rw [List.nil_append] at this
  exact this
theorem lt_zzN : ∀ {n : Nat} {p : List Nat}, p.length ≤ n → (∀ c ∈ p, c ≤ 122) → p ≠ List.replicate n 122 → p < List.replicate n 122
  | 0, [], _, _, h => absurd rfl h
  | 0, c :: r, h, _, _ => by simp at h
  | n + 1, [], _, _, _ => List.nil_lt_cons _ _
  | n + 1, c :: r, h, hc, hne => by
    show c :: r < 122 :: List.replicate n 122
    rw [List.cons_lt_cons_iff]
    have h1 := hc c List.mem_cons_self
    by_cases e : c = 122
    · right
      refine ⟨e, lt_zzN (by simp at h; omega) (fun x hx => hc x (List.mem_cons_of_mem _ hx)) fun e2 => hne ?_⟩
      rw [e, e2]
      rfl
    · left
      omega
theorem take8 {b : List Nat} (h : b.length ≤ 8) : (b ++ zz).take 8 = b ++ zz.drop b.length := by
  rw [List.take_append, List.take_of_length_le h, List.take_replicate, List.drop_replicate]
  congr 2
  omega
/-- what stands behind a part -/
def Rst (r : List Nat) : Prop := r = [] ∨ ∃ s, r = 32 :: s
theorem wk_kind (l : List Nat) (f : Nat) {r : List Nat} : ∀ (p w : List Nat) (k : Nat), 32 ∉ p →
    wk w l 0 f k (p ++ r) = if krG l w p < p.length then (k + krG l w p, false) else wk (w ++ p) l 0 f (k + p.length) r
  | [], w, k, _ => by
    have e : krG l w [] = 0 := rfl
    rw [e, if_neg (by simp), List.append_nil, List.nil_append, List.length_nil, Nat.add_zero]
  | c :: p, w, k, hp => by
    have hc : c ≠ 32 := fun e => hp (by rw [e]; exact List.mem_cons_self)
    have hp' : 32 ∉ p := fun h => hp (List.mem_cons_of_mem _ h)
    have hl2 : (w ++ [c]).length = w.length + 1 := by rw [List.length_append]; rfl
    rw [List.cons_append, krG_cons, List.length_cons]
    by_cases h : w.length < 8 ∧ AzN c ∧ l < (w ++ [c]) ++ zz.drop (w.length + 1)
    · have hl : (w ++ [c]).length ≤ 8 := by omega
      have e1 : wk w l 0 f k (c :: (p ++ r)) = wk (w ++ [c]) l 0 f (k + 1) (p ++ r) := by
        rw [wk_cons, if_pos ⟨rfl, h.2.1, hl, by rw [take8 hl, hl2]; exact h.2.2⟩]
      rw [e1, if_pos h, wk_kind l f p (w ++ [c]) (k + 1) hp', List.append_assoc]
      by_cases hk : krG l (w ++ [c]) p < p.length
      · rw [if_pos hk, if_pos (by omega), Nat.add_assoc, Nat.add_comm 1]
      · rw [if_neg hk, if_neg (by omega), Nat.add_assoc, Nat.add_comm 1]
        rfl
    · have e1 : wk w l 0 f k (c :: (p ++ r)) = (k, false) := by
        rw [wk_cons, if_neg, if_neg (fun h => hc h.2.1), if_neg (fun h => nomatch h.1), if_neg (fun h => by omega), if_neg (fun h => nomatch h.1), if_neg (fun h => nomatch h.1)]
        rintro ⟨_, h1, h2, h3⟩
        rw [take8 h2, hl2] at h3
        exact h ⟨by omega, h1, h3⟩
      rw [e1, if_neg h, if_pos (by omega)]
      rfl
theorem wk_digits (w l : List Nat) {r : List Nat} : ∀ (d : List Nat) (f k : Nat), 32 ∉ d → 1 ≤ f → f ≤ 80 →
    wk w l 3 f k (d ++ r) = if dgG (80 - f) false d < d.length then (k + dgG (80 - f) false d, false) else wk w l 3 (f + d.length) (k + d.length) r
  | [], f, k, _, h1, h2 => by
    have e : dgG (80 - f) false [] = 0 := Nat.le_zero.mp (dgG_le _ _ _)
    rw [e, if_neg (by simp), List.nil_append, List.length_nil, Nat.add_zero, Nat.add_zero]
  | c :: d, f, k, hp, h1, h2 => by
    have hc : c ≠ 32 := fun e => hp (by rw [e]; exact List.mem_cons_self)
    have hp' : 32 ∉ d := fun h => hp (List.mem_cons_of_mem _ h)
    rw [List.cons_append, List.length_cons]
    by_cases h : DgN c ∧ f < 80
    · have e1 : wk w l 3 f k (c :: (d ++ r)) = wk w l 3 (f + 1) (k + 1) (d ++ r) := by
        rw [wk_cons, if_neg (fun h => nomatch h.1), if_neg (fun h => nomatch h.1), if_neg (fun h => nomatch h.1), if_neg (fun h => by omega), if_pos ⟨rfl, h.1, h.2⟩]
      have e : 80 - f = (80 - (f + 1)) + 1 := by omega
      have e2 : dgG (80 - f) false (c :: d) = Nat.succ (dgG (80 - (f + 1)) false d) := by
        rw [e, dgG_cons, if_pos ⟨h.1, fun h => nomatch h.1⟩]
      rw [e1, e2, wk_digits w l d (f + 1) (k + 1) hp' (by omega) (by omega)]
      by_cases hk : dgG (80 - (f + 1)) false d < d.length
      · rw [if_pos hk, if_pos (by omega), Nat.add_assoc, Nat.add_comm 1]
      · rw [if_neg hk, if_neg (by omega), Nat.add_assoc, Nat.add_assoc, Nat.add_comm 1]
    · have e1 : wk w l 3 f k (c :: (d ++ r)) = (k, false) := by
        rw [wk_cons, if_neg (fun h => nomatch h.1), if_neg (fun h => nomatch h.1), if_neg (fun h => nomatch h.1), if_neg (fun h => by omega), if_neg (fun h3 => h h3.2), if_neg (fun h => hc h.2.1)]
      have e2 : dgG (80 - f) false (c :: d) = 0 := by
        cases e : 80 - f with
        | zero => rfl
        | succ n => rw [dgG_cons, if_neg (fun h3 => h ⟨h3.1, by omega⟩)]
      rw [e1, e2, if_pos (by omega), Nat.add_zero]
/-- a count without its sign -/
theorem wk_first (w l : List Nat) {r : List Nat} (hr : Rst r) {st : Nat} (hst : st = 1 ∨ st = 2) (f : Nat) (d : List Nat) (k : Nat) (hd : 32 ∉ d) (hm : st = 1 → ∀ c t, d = c :: t → c ≠ 45) :
    ∃ f', wk w l st f k (d ++ r) = if dgG 80 true d < d.length ∨ d = [] then (k + dgG 80 true d, false) else wk w l 3 f' (k + d.length) r := by
  cases d with
  | nil =>
    refine ⟨0, ?_⟩
    have e : dgG 80 true [] = 0 := rfl
    rw [if_pos (.inr rfl), e, Nat.add_zero, List.nil_append]
    rcases hr with rfl | ⟨s, rfl⟩
    · rw [wk_nil, decide_eq_false (by omega)]
    · rw [wk_cons, if_neg (fun h => by omega), if_neg (fun h => by omega), if_neg (fun h => by omega), if_neg (fun h => by have := h.2.1.1; omega), if_neg (fun h => by omega), if_neg (fun h => by omega)]
  | cons c t =>
    have hc : c ≠ 32 := fun e => hd (by rw [e]; exact List.mem_cons_self)
    have ht : 32 ∉ t := fun h => hd (List.mem_cons_of_mem _ h)
    refine ⟨1 + t.length, ?_⟩
    have hst0 : st ≠ 0 := by omega
    have hst3 : st ≠ 3 := by omega
    have h45 : ¬ (st = 1 ∧ c = 45) := fun h => hm h.1 c t rfl h.2
    rw [List.cons_append, List.length_cons]
    by_cases h : DgN c ∧ c ≠ 48
    · have e1 : wk w l st f k (c :: (t ++ r)) = wk w l 3 1 (k + 1) (t ++ r) := by
        rw [wk_cons, if_neg (fun h => hst0 h.1), if_neg (fun h => hst0 h.1), if_neg h45, if_pos ⟨hst, h.1, h.2⟩]
      have e2 : dgG 80 true (c :: t) = Nat.succ (dgG 79 false t) := by
        rw [dgG_cons, if_pos ⟨h.1, fun h3 => h.2 h3.2⟩]
      have ed := wk_digits w l (r := r) t 1 (k + 1) ht (by omega) (by omega)
      have e80 : (80 - 1 : Nat) = 79 := rfl
      rw [e80] at ed
      rw [e1, ed, e2]
      by_cases hk : dgG 79 false t < t.length
      · rw [if_pos hk, if_pos (.inl (by omega)), Nat.add_assoc, Nat.add_comm 1]
      · rw [if_neg hk, if_neg (fun h3 => h3.elim (fun h4 => by omega) fun h4 => nomatch h4), Nat.add_assoc, Nat.add_comm 1 t.length]
    · have e1 : wk w l st f k (c :: (t ++ r)) = (k, false) := by
        rw [wk_cons, if_neg (fun h => hst0 h.1), if_neg (fun h => hst0 h.1), if_neg h45, if_neg (fun h3 => h h3.2), if_neg (fun h => hst3 h.1), if_neg (fun h => hst3 h.1)]
      have e2 : dgG 80 true (c :: t) = 0 := by
        rw [dgG_cons, if_neg (fun h3 => h ⟨h3.1, fun h4 => h3.2 ⟨rfl, h4⟩⟩)]
      rw [e1, e2, if_pos (.inl (by omega)), Nat.add_zero]
theorem wk_count (w l : List Nat) {r : List Nat} (hr : Rst r) (f : Nat) (q : List Nat) (k : Nat) (hq : 32 ∉ q) :
    ∃ f', wk w l 1 f k (q ++ r) = if crG q < q.length ∨ q = [] ∨ q = [45] then (k + crG q, false) else wk w l 3 f' (k + q.length) r := by
  by_cases hm : ∃ t, q = 45 :: t
  · obtain ⟨t, rfl⟩ := hm
    have ht : 32 ∉ t := fun h => hq (List.mem_cons_of_mem _ h)
    obtain ⟨f', h⟩ := wk_first w l hr (st := 2) (.inr rfl) f t (k + 1) ht (fun e => nomatch e)
    refine ⟨f', ?_⟩
    have e1 : wk w l 1 f k ((45 :: t) ++ r) = wk w l 2 f (k + 1) (t ++ r) := by
      rw [List.cons_append, wk_cons, if_neg (fun h => nomatch h.1), if_neg (fun h => nomatch h.1), if_pos ⟨rfl, rfl⟩]
    rw [e1, h, crG_neg, List.length_cons]
    by_cases hb : dgG 80 true t < t.length ∨ t = []
    · rw [if_pos hb, if_pos (hb.elim (fun h1 => .inl (by omega)) fun h1 => .inr (.inr (by rw [h1]))), Nat.add_assoc, Nat.add_comm 1]
    · rw [if_neg hb, if_neg (fun h2 => hb (by
        rcases h2 with h1 | h1 | h1
        · exact .inl (by omega)
        · exact nomatch h1
        · exact .inr (List.cons.inj h1).2)), Nat.add_assoc, Nat.add_comm 1]
  · have hm' : ∀ t, q ≠ 45 :: t := fun t e => hm ⟨t, e⟩
    obtain ⟨f', h⟩ := wk_first w l hr (st := 1) (.inl rfl) f q k hq (fun _ c t e e2 => hm' t (by rw [e, e2]))
    refine ⟨f', ?_⟩
    rw [h, crG_pos hm']
    by_cases hb : dgG 80 true q < q.length ∨ q = []
    · rw [if_pos hb, if_pos (hb.elim .inl fun h => .inr (.inl h))]
    · rw [if_neg hb, if_neg (fun h2 => hb (by
        rcases h2 with h1 | h1 | h1
        · exact .inl h1
        · exact .inr h1
        · exact absurd h1 (hm' _)))]
/-- both ways tell the same -/
theorem wk_rd : ∀ (ps : List (List Nat)) (l : List Nat) (f a : Nat), ps ≠ [] → (∀ p ∈ ps, 32 ∉ p) → l ≠ zz →
    wk [] l 0 f a (joinL [32] ps) = match rdG l a ps with
      | .inl i => (i, false)
      | .inr _ => (a + (joinL [32] ps).length, true)
  | [], _, _, _, h, _, _ => absurd rfl h
  | [p], l, f, a, _, hf, hz => by
    have hp := hf p List.mem_cons_self
    have e := wk_kind l f (r := []) p [] a hp
    rw [List.append_nil] at e
    have e0 : joinL [32] [p] = p := rfl
    rw [rdG_one, if_neg hz, e0, e]
    by_cases hk : krG l [] p < p.length
    · rw [if_pos hk]
    · have := krG_le l [] p
      have e2 : krG l [] p = p.length := by omega
      rw [if_neg hk, e2]
      rfl
  | p :: q :: r, l, f, a, _, hf, hz => by
    have hp := hf p List.mem_cons_self
    have hq := hf q (List.mem_cons_of_mem _ List.mem_cons_self)
    have hr := fun x hx => hf x (List.mem_cons_of_mem _ (List.mem_cons_of_mem _ hx))
    have e0 : joinL [32] (p :: q :: r) = p ++ (32 :: joinL [32] (q :: r)) := rfl
    have ek := wk_kind l f (r := 32 :: joinL [32] (q :: r)) p [] a hp
    rw [List.nil_append] at ek
    have hkl := krG_le l [] p
    rw [rdG_two, if_neg hz, e0, ek]
    by_cases hk : krG l [] p < p.length
    · rw [if_pos hk, if_pos (.inl hk)]
    · have hke : krG l [] p = p.length := by omega
      rw [if_neg hk, hke]
      by_cases hlt : l < p
      · have es : wk p l 0 f (a + p.length) (32 :: joinL [32] (q :: r)) = wk p l 1 f (a + p.length + 1) (joinL [32] (q :: r)) := by
          rw [wk_cons, if_neg (fun h => by have := h.2.1.1; omega), if_pos ⟨rfl, rfl, hlt⟩]
        rw [es, if_neg (fun h => h.elim (fun h => by omega) fun h => absurd hlt (List.not_lt.mpr h))]
        have hpl := krG_word hke
        cases r with
        | nil =>
          obtain ⟨f', ec⟩ := wk_count p l (r := []) (.inl rfl) f q (a + p.length + 1) hq
          rw [List.append_nil] at ec
          have e1 : joinL [32] [q] = q := rfl
          rw [e1, ec]
          by_cases hcq : crG q < q.length ∨ q = [] ∨ q = [45]
          · rw [if_pos hcq, if_pos hcq]
          · rw [if_neg hcq, if_neg hcq, wk_nil]
            show (a + p.length + 1 + q.length, true) = (a + (p ++ (32 :: q)).length, true)
            rw [List.length_append, List.length_cons]
            congr 1
            omega
        | cons r0 r1 =>
          obtain ⟨f', ec⟩ := wk_count p l (r := 32 :: joinL [32] (r0 :: r1)) (.inr ⟨_, rfl⟩) f q (a + p.length + 1) hq
          have e1 : joinL [32] (q :: r0 :: r1) = q ++ (32 :: joinL [32] (r0 :: r1)) := rfl
          rw [e1, ec]
          by_cases hcq : crG q < q.length ∨ q = [] ∨ q = [45]
          · rw [if_pos hcq, if_pos hcq]
          · rw [if_neg hcq, if_neg hcq]
            have hce : crG q = q.length := by
              have := crG_le q
              by_cases h : crG q < q.length
              · exact absurd (.inl h) hcq
              · omega
            rw [hce]
            by_cases hpz : p = zz
            · have es2 : wk p l 3 f' (a + p.length + 1 + q.length) (32 :: joinL [32] (r0 :: r1)) = (a + p.length + 1 + q.length, false) := by
                rw [wk_cons, if_neg (fun h => nomatch h.1), if_neg (fun h => nomatch h.1), if_neg (fun h => nomatch h.1), if_neg (fun h => by omega), if_neg (fun h => by have := h.2.1.1; omega), if_neg (fun h => List.lt_irrefl _ (by have := h.2.2; rwa [hpz] at this))]
              have e3 : rdG p (a + p.length + 1 + q.length + 1) (r0 :: r1) = .inl (a + p.length + 1 + q.length + 1 - 1) := by
                cases r1 with
                | nil => rw [rdG_one, if_pos hpz]
                | cons _ _ => rw [rdG_two, if_pos hpz]
              rw [es2, e3]
              rfl
            · have hlt2 : p < zz := lt_zzN hpl.1 (fun c hc => (hpl.2 c hc).2) hpz
              have es2 : wk p l 3 f' (a + p.length + 1 + q.length) (32 :: joinL [32] (r0 :: r1)) = wk [] p 0 f' (a + p.length + 1 + q.length + 1) (joinL [32] (r0 :: r1)) := by
                rw [wk_cons, if_neg (fun h => nomatch h.1), if_neg (fun h => nomatch h.1), if_neg (fun h => nomatch h.1), if_neg (fun h => by omega), if_neg (fun h => by have := h.2.1.1; omega), if_pos ⟨rfl, rfl, hlt2⟩]
              rw [es2, wk_rd (r0 :: r1) p f' (a + p.length + 1 + q.length + 1) (by simp) hr hpz]
              cases e4 : rdG p (a + p.length + 1 + q.length + 1) (r0 :: r1) with
              | inl i => rfl
              | inr ps =>
                show (a + p.length + 1 + q.length + 1 + (joinL [32] (r0 :: r1)).length, true) = (a + (p ++ (32 :: (q ++ (32 :: joinL [32] (r0 :: r1))))).length, true)
                simp only [List.length_append, List.length_cons]
                congr 1
                omega
      · have es : wk p l 0 f (a + p.length) (32 :: joinL [32] (q :: r)) = (a + p.length, false) := by
          rw [wk_cons, if_neg (fun h => by have := h.2.1.1; omega), if_neg (fun h => hlt h.2.2), if_neg (fun h => nomatch h.1), if_neg (fun h => by omega), if_neg (fun h => nomatch h.1), if_neg (fun h => nomatch h.1)]
        rw [es, if_pos (.inr (List.not_lt.mp hlt))]
end Ld
namespace Ld
open PySem PySem.Spec PyProof.Rows L2
open TL
/-! ### digits read back -/
theorem val_snoc (d : List Nat) (c : Nat) : NumText.digitsVal (d ++ [c]) = NumText.digitsVal d * 10 + (c - 48) := by
  unfold NumText.digitsVal
  rw [List.foldl_append]
  rfl
theorem val_lt : ∀ (n : Nat) (d : List Nat), d.length = n → NumText.AllDigits d → NumText.digitsVal d < 10 ^ n
  | 0, d, h, _ => by
    rw [List.length_eq_zero_iff.mp h]
    decide
  | n + 1, d, h, ha => by
    have hne : d ≠ [] := fun e => by rw [e] at h; cases h
    have e := List.dropLast_concat_getLast hne
    have hl : d.dropLast.length = n := by rw [List.length_dropLast]; omega
    have h1 := val_lt n d.dropLast hl fun c hc => ha c (List.dropLast_subset _ hc)
    have h2 := ha _ (List.getLast_mem hne)
    rw [← e, val_snoc, Nat.pow_succ]
    omega
theorem numL_back : ∀ (n : Nat) (d : List Nat), d.length = n → d ≠ [] → NumText.AllDigits d → d.head? ≠ some 48 → numL (NumText.digitsVal d) = d
  | 0, d, h, hne, _, _ => absurd (List.length_eq_zero_iff.mp h) hne
  | n + 1, d, h, hne, ha, h0 => by
    have e := List.dropLast_concat_getLast hne
    have hl : d.dropLast.length = n := by rw [List.length_dropLast]; omega
    have h2 := ha _ (List.getLast_mem hne)
    generalize hc : d.getLast hne = c at e h2
    by_cases hd : d.dropLast = []
    · rw [hd] at e
      rw [← e] at h0 ⊢
      have hv : NumText.digitsVal ([] ++ [c]) = c - 48 := by
        rw [val_snoc]
        show 0 * 10 + (c - 48) = _
        omega
      rw [hv, numL_lt (by omega), List.nil_append]
      congr 1
      omega
    · have hh : d.dropLast.head? = d.head? := by
        have e' := e
        cases hx : d.dropLast with
        | nil => exact absurd hx hd
        | cons a r =>
          rw [hx] at e'
          rw [← e']
          rfl
      have ih := numL_back n d.dropLast hl hd (fun c hc => ha c (List.dropLast_subset _ hc)) (by rw [hh]; exact h0)
      have hpos : NumText.digitsVal d.dropLast ≠ 0 := fun ez => by
        rw [ez, numL_lt (by decide)] at ih
        rw [← hh, ← ih] at h0
        exact h0 rfl
      rw [← e, val_snoc, numL_step (by omega)]
      have e1 : (NumText.digitsVal d.dropLast * 10 + (c - 48)) / 10 = NumText.digitsVal d.dropLast := by omega
      have e2 : 48 + (NumText.digitsVal d.dropLast * 10 + (c - 48)) % 10 = c := by omega
      rw [e1, ih, e2]
theorem dgG_all : ∀ (n : Nat) (b : Bool) (d : List Nat), dgG n b d = d.length → d.length ≤ n ∧ NumText.AllDigits d ∧ (b = true → d.head? ≠ some 48)
  | _, _, [], _ => ⟨Nat.zero_le _, (fun _ h => nomatch h), fun _ h => nomatch h⟩
  | 0, _, c :: r, h => by
    have : (0 : Nat) = r.length + 1 := h
    omega
  | n + 1, b, c :: r, h => by
    rw [dgG_cons, List.length_cons] at h
    by_cases hb : DgN c ∧ ¬ (b = true ∧ c = 48)
    · rw [if_pos hb] at h
      obtain ⟨h1, h2, _⟩ := dgG_all n false r (by omega)
      refine ⟨by rw [List.length_cons]; omega, fun x hx => ?_, fun e e2 => hb.2 ⟨e, Option.some.inj e2⟩⟩
      rcases List.mem_cons.mp hx with rfl | hx
      · exact hb.1
      · exact h2 x hx
    · rw [if_neg hb] at h
      omega
theorem dgG_num {d : List Nat} (h : dgG 80 true d = d.length) (hne : d ≠ []) : ∃ n, d = numL n ∧ n ≠ 0 ∧ n < 10 ^ 80 := by
  obtain ⟨h1, h2, h3⟩ := dgG_all 80 true d h
  have e := numL_back _ d rfl hne h2 (h3 rfl)
  refine ⟨NumText.digitsVal d, e.symm, fun ez => ?_, Nat.lt_of_lt_of_le (val_lt _ d rfl h2) (Nat.pow_le_pow_right (by decide) h1)⟩
  rw [ez, numL_lt (by decide)] at e
  exact h3 rfl (by rw [← e]; rfl)
theorem crG_num {q : List Nat} (h : crG q = q.length) (h0 : q ≠ []) (h1 : q ≠ [45]) : ∃ i : Int, q = tl (txI i) ∧ i ≠ 0 ∧ i.natAbs < 10 ^ 80 := by
  by_cases hm : ∃ t, q = 45 :: t
  · obtain ⟨t, rfl⟩ := hm
    rw [crG_neg, List.length_cons] at h
    obtain ⟨n, rfl, n0, nl⟩ := dgG_num (d := t) (by omega) (fun e => h1 (by rw [e]))
    refine ⟨-(n : Int), ?_, by omega, by rw [Int.natAbs_neg, Int.natAbs_natCast]; exact nl⟩
    rw [tl_txI, if_pos (by omega), Int.natAbs_neg, Int.natAbs_natCast]
  · rw [crG_pos fun t e => hm ⟨t, e⟩] at h
    obtain ⟨n, rfl, n0, nl⟩ := dgG_num h h0
    refine ⟨(n : Int), ?_, by omega, by rw [Int.natAbs_natCast]; exact nl⟩
    rw [tl_txI, if_neg (by omega), Int.natAbs_natCast]
/-! ### a right text is that of a load -/
def ofL (p : List Nat) : Str := ⟨p.toArray⟩
theorem tl_ofL (p : List Nat) : tl (ofL p) = p := rfl
theorem ofL_tl (x : Str) : ofL (tl x) = x := ext_tl rfl
theorem rd_word {l p : List Nat} (h1 : ¬ (krG l [] p < p.length ∨ p ≤ l)) : wordB (ofL p) = true ∧ l < p := by
  have hkl := krG_le l [] p
  have hke : krG l [] p = p.length := by
    by_cases h : krG l [] p < p.length
    · exact absurd (.inl h) h1
    · omega
  have hlt : l < p := List.not_le.mp fun h => h1 (.inr h)
  obtain ⟨w1, w2⟩ := krG_word hke
  refine ⟨?_, hlt⟩
  unfold wordB
  rw [Bool.and_eq_true, Bool.and_eq_true, decide_eq_true_eq, decide_eq_true_eq, List.all_eq_true, len_tl, tl_ofL]
  refine ⟨⟨?_, w1⟩, fun c hc => ?_⟩
  · cases p with
    | nil => exact absurd hlt (List.not_lt_nil _)
    | cons c r => simp
  · unfold azB
    rw [Bool.and_eq_true, decide_eq_true_eq, decide_eq_true_eq]
    exact w2 c hc
theorem rd_ok : ∀ (ps : List (List Nat)) (l : List Nat) (a : Nat) (qs : List (List Nat × List Nat)), rdG l a ps = .inr qs →
    ∃ xs : List (Str × Int), ps = (partsOf xs).map tl ∧ (∀ x ∈ xs, wordB x.1 = true ∧ x.2 ≠ 0 ∧ x.2.natAbs < 10 ^ 80 ∧ l < tl x.1) ∧ xs.Pairwise fun x y => tl x.1 < tl y.1
  | [], _, _, _, _ => ⟨[], rfl, (fun _ h => nomatch h), .nil⟩
  | [p], l, a, qs, h => by
    rw [rdG_one] at h
    split at h <;> exact nomatch h
  | p :: q :: r, l, a, qs, h => by
    rw [rdG_two] at h
    by_cases hz : l = zz
    · rw [if_pos hz] at h
      exact nomatch h
    rw [if_neg hz] at h
    by_cases h1 : krG l [] p < p.length ∨ p ≤ l
    · rw [if_pos h1] at h
      exact nomatch h
    rw [if_neg h1] at h
    by_cases h2 : crG q < q.length ∨ q = [] ∨ q = [45]
    · rw [if_pos h2] at h
      exact nomatch h
    rw [if_neg h2] at h
    cases e : rdG p (a + krG l [] p + 1 + crG q + 1) r with
    | inl i => rw [e] at h; exact nomatch h
    | inr ps =>
      obtain ⟨xs, e1, e2, e3⟩ := rd_ok r p _ ps e
      obtain ⟨hw, hlt⟩ := rd_word h1
      have hc := crG_le q
      have hce : crG q = q.length := by
        by_cases h : crG q < q.length
        · exact absurd (.inl h) h2
        · omega
      obtain ⟨i, ei, i0, ib⟩ := crG_num hce (fun e => h2 (.inr (.inl e))) (fun e => h2 (.inr (.inr e)))
      refine ⟨(ofL p, i) :: xs, ?_, fun x hx => ?_, ?_⟩
      · show p :: q :: r = tl (ofL p) :: tl (txI i) :: (partsOf xs).map tl
        rw [tl_ofL, ← ei, e1]
      · rcases List.mem_cons.mp hx with rfl | hx
        · exact ⟨hw, i0, ib, hlt⟩
        · obtain ⟨x1, x2, x3, x4⟩ := e2 x hx
          exact ⟨x1, x2, x3, List.lt_trans hlt x4⟩
      · exact .cons (fun x hx => (e2 x hx).2.2.2) e3
theorem rising_can {xs : List (Str × Int)} (h : ∀ x ∈ xs, wordB x.1 = true ∧ x.2 ≠ 0) (hp : xs.Pairwise fun x y => tl x.1 < tl y.1) (few : xs.length ≤ 1000) : Can xs := by
  refine ⟨?_, pw_sorted ?_, fun p hp => (h p hp).2, fun p hp => (h p hp).1, few⟩
  · refine List.pairwise_map.mpr (hp.imp fun {a b} hlt e => ?_)
    rw [e] at hlt
    exact List.lt_irrefl _ hlt
  · exact List.pairwise_map.mpr (hp.imp fun {a b} hlt => List.le_of_lt hlt)
theorem partsOf_lenN (ps : List (Str × Int)) : (partsOf ps).length = 2 * ps.length := by
  induction ps with
  | nil => rfl
  | cons p r ih =>
    show (partsOf r).length + 2 = 2 * (r.length + 1)
    omega
/-! ### a text and its parts -/
theorem spl_free (s : Nat) : ∀ (cs acc : List Nat), s ∉ acc → (spl [s] 0 acc cs ≠ []) ∧ (∀ p ∈ spl [s] 0 acc cs, s ∉ p) ∧ joinL [s] (spl [s] 0 acc cs) = acc ++ cs
  | [], acc, h => by
    rw [spl_nil]
    exact ⟨by simp, fun p hp => by rw [List.mem_singleton.mp hp]; exact h, by rw [List.append_nil]; rfl⟩
  | c :: r, acc, h => by
    by_cases hc : c = s
    · rw [spl_hit (S := [s]) (by rw [hc]; simp [pre])]
      show ((acc :: spl [s] 0 [] r) ≠ []) ∧ _
      obtain ⟨h1, h2, h3⟩ := spl_free s r [] (fun h => nomatch h)
      refine ⟨by simp, fun p hp => ?_, ?_⟩
      · rcases List.mem_cons.mp hp with rfl | hp
        · exact h
        · exact h2 p hp
      · cases e : spl [s] 0 [] r with
        | nil => exact absurd e h1
        | cons x y =>
          show joinL [s] (acc :: spl [s] 0 [] r) = _
          rw [e] at h3 ⊢
          show acc ++ ([s] ++ joinL [s] (x :: y)) = acc ++ c :: r
          rw [h3, hc]
          rfl
    · rw [spl_miss (S := [s]) (by simp [pre]; omega)]
      obtain ⟨h1, h2, h3⟩ := spl_free s r (acc ++ [c]) (fun hm => by
        rcases List.mem_append.mp hm with h4 | h4
        · exact h h4
        · exact hc (List.mem_singleton.mp h4).symm)
      refine ⟨h1, h2, ?_⟩
      rw [h3, List.append_assoc]
      rfl
theorem split_parts (t : Str) : (Txt.split t " ").map tl = spl [32] 0 [] (tl t) := by
  have := split_spl t (" " : Str) (by rw [tl_sp]; simp) (kind_ok (by decide +kernel))
  rwa [tl_sp] at this
/-- what the program, and the law, make of a text that does not begin with - -/
def rdT (t : Str) : Nat ⊕ List (List Nat × List Nat) := rdG [] 0 ((Txt.split t " ").map tl)
theorem walk_rdT (t : Str) (f : Nat) : wk [] [] 0 f 0 (tl t) = match rdT t with
      | .inl i => (i, false)
      | .inr _ => (t.length, true) := by
  obtain ⟨h1, h2, h3⟩ := spl_free 32 (tl t) [] (fun h => nomatch h)
  have := wk_rd (spl [32] 0 [] (tl t)) [] f 0 h1 h2 (by decide)
  rw [h3, List.nil_append, Nat.zero_add] at this
  unfold rdT
  rw [split_parts, this, len_tl]
  all_goals (cases rdG [] 0 (spl [32] 0 [] (tl t)) <;> rfl)
theorem split_ne (t : Str) : Txt.split t " " ≠ [] := fun e => by
  obtain ⟨h1, _, _⟩ := spl_free 32 (tl t) [] (fun h => nomatch h)
  rw [← split_parts, e] at h1
  exact h1 rfl
theorem split_len (t : Str) : (Txt.split t " ").length ≤ t.length + 1 := by
  have key : ∀ (cs acc : List Nat), (spl [32] 0 acc cs).length ≤ cs.length + 1 := by
    intro cs
    induction cs with
    | nil => intro acc; rw [spl_nil]; simp
    | cons c r ih =>
      intro acc
      by_cases hc : c = 32
      · rw [spl_hit (S := [32]) (by rw [hc]; simp [pre])]
        have := ih []
        show (acc :: spl [32] 0 [] r).length ≤ _
        rw [List.length_cons, List.length_cons]
        omega
      · rw [spl_miss (S := [32]) (by simp [pre]; omega)]
        have := ih (acc ++ [c])
        rw [List.length_cons]
        omega
  have h := key (tl t) []
  rw [← split_parts, List.length_map, ← len_tl] at h
  exact h
theorem joinL_len : ∀ {ps : List (List Nat)}, ps ≠ [] → (joinL [32] ps).length + 1 = (ps.map List.length).sum + ps.length
  | [], h => absurd rfl h
  | [p], _ => by
    show p.length + 1 = p.length + 0 + 1
    omega
  | p :: q :: r, _ => by
    have ih := joinL_len (ps := q :: r) (by simp)
    show (p ++ ([32] ++ joinL [32] (q :: r))).length + 1 = _
    have e1 : (p :: q :: r).length = (q :: r).length + 1 := rfl
    have e2 : ([32] ++ joinL [32] (q :: r)).length = (joinL [32] (q :: r)).length + 1 := by rw [List.length_append]; exact Nat.add_comm _ _
    rw [List.length_append, e2, List.map_cons, List.sum_cons, e1]
    omega
theorem split_sum (t : Str) : ((Txt.split t " ").map (·.length)).sum + (Txt.split t " ").length = t.length + 1 := by
  obtain ⟨h1, _, h3⟩ := spl_free 32 (tl t) [] (fun h => nomatch h)
  have h := joinL_len h1
  rw [h3, List.nil_append, ← split_parts, List.map_map, List.length_map, ← len_tl] at h
  have e : (Txt.split t " ").map (·.length) = (Txt.split t " ").map (List.length ∘ tl) := List.map_congr_left fun x _ => len_tl x
  rw [e]
  exact h.symm
theorem parts_sum {xs : List (Str × Int)} (h : ∀ x ∈ xs, wordB x.1 = true) : 2 * xs.length ≤ ((partsOf xs).map (·.length)).sum := by
  induction xs with
  | nil => exact Nat.zero_le _
  | cons x r ih =>
    have i1 := ih fun y hy => h y (List.mem_cons_of_mem _ hy)
    have h1 := (wordB_len (h x List.mem_cons_self)).1
    have h2 : 1 ≤ (txI x.2).length := by
      rw [len_tl, tl_txI]
      have := List.length_pos_iff.mpr (numL_ne x.2.natAbs)
      split
      · rw [List.length_cons]; omega
      · omega
    show 2 * (r.length + 1) ≤ x.1.length + ((txI x.2).length + ((partsOf r).map (·.length)).sum)
    omega
/-- a right text -/
theorem rdT_ok {t : Str} {qs : List (List Nat × List Nat)} (h : rdT t = .inr qs) (hl : t.length ≤ 3900) : ∃ xs : List (Str × Int), Txt.split t " " = partsOf xs ∧ xs ≠ [] ∧ t = joinT xs ∧ Can xs ∧ ∀ x ∈ xs, x.2.natAbs < 10 ^ 80 := by
  obtain ⟨xs, e1, e2, e3⟩ := rd_ok _ _ _ _ h
  have e4 : Txt.split t " " = partsOf xs := map_tl_inj e1
  have hne : xs ≠ [] := fun e => split_ne t (by rw [e4, e]; rfl)
  have few : xs.length ≤ 1000 := by
    have h1 := split_sum t
    rw [e4, partsOf_lenN] at h1
    have h2 := parts_sum fun x hx => (e2 x hx).1
    omega
  refine ⟨xs, e4, hne, ext_tl ?_, rising_can (fun x hx => ⟨(e2 x hx).1, (e2 x hx).2.1⟩) e3 few, fun x hx => (e2 x hx).2.2.1⟩
  obtain ⟨_, _, h3⟩ := spl_free 32 (tl t) [] (fun h => nomatch h)
  rw [joinT_eq, ← e4, join_eq, tl_join, tl_sp, split_parts, h3]
  rfl
end Ld
namespace Ld
open PySem PySem.Spec PyProof.Rows L2
open TL
/-- kind_reach of any part -/
def spKrX : Sp := fun vs H Q _ => ∃ z y : Str, vs = [.str z, .str y] ∧ z.length ≤ 100000 ∧ Q (.int ((krG (tl y) [] (tl z) : Nat) : Int)) H
/-- count_reach of any part -/
def spCrX : Sp := fun vs H Q _ => ∃ z : Str, vs = [.str z] ∧ z.length ≤ 100000 ∧ Q (.int ((crG (tl z) : Nat) : Int)) H
theorem krG_stop {l w r : List Nat} (h : 8 ≤ w.length) : krG l w r = 0 := by
  cases r with
  | nil => rfl
  | cons c r => rw [krG_cons, if_neg (fun h2 => by omega)]
theorem take_next {l : List Nat} {i c : Nat} (h : l[i]? = some c) : l.take (i + 1) = l.take i ++ [c] ∧ l.drop i = c :: l.drop (i + 1) := by
  obtain ⟨hi, e⟩ := List.getElem?_eq_some_iff.mp h
  refine ⟨by rw [List.take_add_one, h]; rfl, ?_⟩
  rw [← e]
  exact List.drop_eq_getElem_cons hi
section
variable {P : Program} {w : World} {K : PySem.W.Frag} {mg : Str → Option Value} {base : Heap}
theorem ok_krX {f : Addr} {fd : FuncData} (F : Fun K "kind_reach" "kind_reach" sKr f fd) (mMost : ∃ t, mg "MOST_LETTERS" = some (.int 8 t)) (mLast : ∃ t, mg "LAST_KIND" = some (.str "zzzzzzzz" t)) : FnOk P w K mg base CX0 1 f fd ["part", "last"] spKrX := by
  obtain ⟨t8, mMost⟩ := mMost
  obtain ⟨tL, mLast⟩ := mLast
  refine F.ok scKr (fun vs H Q E h => ?_) (fun cdv A outer s H vs Q E hr h => ?_)
  · obtain ⟨z, y, rfl, _⟩ := h
    rfl
  · obtain ⟨z, y, rfl, hz0, q⟩ := h
    have nd := scKr.nd
    have hzs : z.length ≤ sizeLine := Nat.le_trans hz0 (by decide)
    have hcut : tl (cutS z none (some 8)) = (tl z).take 8 := by
      have := tl_cutTo z 8
      rwa [show ((8 : Nat) : Int) = 8 from rfl] at this
    have hsz : (cutS z none (some 8)).cps.size = min 8 (tl z).length := by
      have : (tl (cutS z none (some 8))).length = (cutS z none (some 8)).cps.size := Array.length_toList
      rw [← this, hcut, List.length_take]
    refine ⟨_, (pss_cons (ps_set (i := 2) nd rfl (Or.inl rfl) pe_int)
      (pss_cons (ps_for PassesOwn.never rfl (pi_str (pe_slice sl_str (pv 0) po_none (po_some (pe_glob (v := .int 8) (by rfl) mMost ⟨_, rfl⟩)))) (pg_name (i := 3) nd rfl (Or.inl rfl))
        (pss_cons (ps_if (pt_not (pt_chain op_le_str op_le_str pe_str (pv 3) pe_str)) (pss_one ps_break) pss_nil)
        (pss_cons (ps_set (i := 4) nd rfl (Or.inl rfl) (pe_op op_add_str (pe_slice sl_str (pv 0) po_none (po_some (pe_op op_add (pv 2) pe_int))) (pe_slice sl_str (pe_glob (v := .str "zzzzzzzz") (by rfl) mLast ⟨_, rfl⟩) (po_some (pe_op op_add (pv 2) pe_int)) po_none)))
        (pss_cons (ps_if (pt_cmpR op_le_str (pv 4) (pv 1) (nomark _)) (pss_one ps_break) pss_nil)
        (pss_one (ps_aug (i := 2) nd rfl (Or.inl rfl) pe_int ip_add))))))
      (pss_one (ps_ret (pv 2))))), ?_⟩
    refine seq_step (fun σ' H' => σ' = [some (.str z), some (.str y), some (.int 0), none, none] ∧ H' = H) (fun R hR => hR _ _ ⟨rfl, rfl⟩) (fun σ1 H1 h1 => ?_)
    obtain ⟨rfl, rfl⟩ := h1
    refine seq_step (fun σ' H' => (∃ x3 x4, σ' = [some (.str z), some (.str y), some (.int ((krG (tl y) [] (tl z) : Nat) : Int)), x3, x4]) ∧ H' = H1) (fun R hR => ?_) (fun σ2 H2 h2 => ?_)
    · refine ⟨_, rfl, 8, rfl, z, rfl, hzs, _, rfl, ?_⟩
      refine for_it walk_str (fun i σ' H' => (∃ x3 x4, σ' = [some (.str z), some (.str y), some (.int ((i : Nat) : Int)), x3, x4]) ∧ H' = H1 ∧ krG (tl y) [] (tl z) = i + krG (tl y) ((tl z).take i) ((tl z).drop i)) ⟨⟨_, _, rfl⟩, rfl, (Nat.zero_add _).symm⟩ (fun _ _ _ _ _ => trivial) ?_ (fun σ' H' h => ?_)
      rotate_left
      · obtain ⟨⟨x3, x4, rfl⟩, rfl, e⟩ := h
        rw [hsz] at e ⊢
        refine hR _ _ ⟨⟨x3, x4, ?_⟩, rfl⟩
        have e0 : krG (tl y) ((tl z).take (min 8 (tl z).length)) ((tl z).drop (min 8 (tl z).length)) = 0 := by
          by_cases h8 : 8 ≤ (tl z).length
          · rw [Nat.min_eq_left h8]
            exact krG_stop (by rw [List.length_take, Nat.min_eq_left h8]; exact Nat.le_refl _)
          · rw [Nat.min_eq_right (by omega), List.drop_length]
            rfl
        rw [e, e0, Nat.add_zero]
      rintro i x σ' H2 H3 hi ⟨⟨x3, x4, rfl⟩, rfl, ek⟩ ⟨rfl, ch, hch, rfl⟩
      rw [hsz] at hi
      have hi8 : i < 8 := by omega
      have hch2 : (tl z)[i]? = some ch := by
        have h1 : (tl (cutS z none (some 8)))[i]? = some ch := by
          show (cutS z none (some 8)).cps.toList[i]? = some ch
          rw [Array.getElem?_toList]
          exact hch
        rw [hcut, List.getElem?_take_of_lt hi8] at h1
        exact h1
      obtain ⟨et, ed⟩ := take_next hch2
      have hil : ((tl z).take i).length = i := by rw [List.length_take]; omega
      have a1 : decide ((⟨#[ch]⟩ : Str).cps.toList < (("a" : Str)).cps.toList) = decide (ch < 97) := lt_one ch 97
      have a2 : decide ((("z" : Str)).cps.toList < (⟨#[ch]⟩ : Str).cps.toList) = decide (122 < ch) := lt_one 122 ch
      rw [ed, krG_cons, hil, ← et] at ek
      have hbk : ∀ x3 x4, ¬ (i < 8 ∧ AzN ch ∧ tl y < (tl z).take (i + 1) ++ zz.drop (i + 1)) → R [some (.str z), some (.str y), some (.int ((i : Nat) : Int)), x3, x4] H3 := fun x3 x4 hn => by
        rw [if_neg hn, Nat.add_zero] at ek
        rw [← ek]
        exact hR _ _ ⟨⟨x3, x4, rfl⟩, rfl⟩
      by_cases haz : AzN ch
      · have e1 : (!decide ((⟨#[ch]⟩ : Str).cps.toList < (("a" : Str)).cps.toList)) = true := by
          rw [a1, decide_eq_false (by omega)]
          rfl
        have e2 : (!decide ((("z" : Str)).cps.toList < (⟨#[ch]⟩ : Str).cps.toList)) = true := by
          rw [a2, decide_eq_false (by omega)]
          rfl
        refine seq_step (fun σ' H' => σ' = [some (.str z), some (.str y), some (.int ((i : Nat) : Int)), some (.str ⟨#[ch]⟩), x4] ∧ H' = H3) (fun R hR => ?_) (fun σ4 H4 h4 => ?_)
        · refine ⟨_, rfl, _, _, rfl, rfl, _, rfl, ?_⟩
          rw [e1]
          refine iteT ⟨_, _, rfl, rfl, _, rfl, ?_⟩
          rw [e2]
          exact iteF (hR _ _ ⟨rfl, rfl⟩)
        obtain ⟨rfl, rfl⟩ := h4
        have ei : ((i : Nat) : Int) + 1 = ((i + 1 : Nat) : Int) := by omega
        refine seq_step (fun σ' H' => ∃ g : Str, σ' = [some (.str z), some (.str y), some (.int ((i : Nat) : Int)), some (.str ⟨#[ch]⟩), some (.str g)] ∧ tl g = (tl z).take (i + 1) ++ (List.replicate 8 122).drop (i + 1) ∧ H' = H4) (fun R hR => ?_) (fun σ5 H5 h5 => ?_)
        · refine ⟨_, rfl, _, rfl, _, _, rfl, rfl, _, rfl, z, rfl, hzs, _, rfl, _, _, rfl, rfl, _, rfl, _, rfl, by decide +kernel, _, _, rfl, rfl, ?_, hR _ _ ⟨_, rfl, ?_, rfl⟩⟩
          · have h1 := cutS_length z none (some (((i : Nat) : Int) + 1))
            have h2 := cutS_length ("zzzzzzzz" : Str) (some (((i : Nat) : Int) + 1)) none
            have h3 : ("zzzzzzzz" : Str).length = 8 := by decide +kernel
            have h4 : sizeLine = 16777216 := sizeLine_eq
            omega
          · rw [tl_append, ei, tl_cutTo, tl_cutFrom, tl_last]
        obtain ⟨g, rfl, hg, rfl⟩ := h5
        by_cases hlt : tl y < tl g
        · refine seq_step (fun σ' H' => σ' = [some (.str z), some (.str y), some (.int ((i : Nat) : Int)), some (.str ⟨#[ch]⟩), some (.str g)] ∧ H' = H5) (fun R hR => ?_) (fun σ6 H6 h6 => ?_)
          · refine ⟨_, rfl, _, rfl, _, _, rfl, rfl, _, rfl, ?_⟩
            have e3 : (!decide ((y : Str).cps.toList < g.cps.toList)) = false := by
              rw [decide_eq_true (show (y : Str).cps.toList < g.cps.toList from hlt)]
              rfl
            rw [e3]
            exact iteF (hR _ _ ⟨rfl, rfl⟩)
          obtain ⟨rfl, rfl⟩ := h6
          refine ⟨_, rfl, _, _, rfl, rfl, ⟨some (.str ⟨#[ch]⟩), some (.str g), congrArg (fun n : Int => [some (V.str z), some (.str y), some (.int n), some (.str ⟨#[ch]⟩), some (.str g)]) ei⟩, rfl, ?_⟩
          rw [if_pos ⟨hi8, haz, by rw [← hg]; exact hlt⟩] at ek
          rw [ek]
          omega
        · refine ⟨_, rfl, _, rfl, _, _, rfl, rfl, _, rfl, ?_⟩
          have e3 : (!decide ((y : Str).cps.toList < g.cps.toList)) = true := by
            rw [decide_eq_false (show ¬ (y : Str).cps.toList < g.cps.toList from hlt)]
            rfl
          rw [e3]
          exact iteT (hbk _ _ fun h => hlt (by rw [hg]; exact h.2.2))
      · refine ⟨_, rfl, _, _, rfl, rfl, _, rfl, ?_⟩
        rw [a1]
        by_cases h97 : ch < 97
        · rw [decide_eq_true h97]
          exact iteF ⟨_, rfl, iteT (hbk _ _ fun h => haz h.2.1)⟩
        · rw [decide_eq_false h97]
          refine iteT ⟨_, _, rfl, rfl, _, rfl, ?_⟩
          rw [a2, decide_eq_true (show 122 < ch by omega)]
          exact iteT (hbk _ _ fun h => haz h.2.1)
    obtain ⟨⟨x3, x4, rfl⟩, rfl⟩ := h2
    exact ⟨_, rfl, q⟩
theorem starts_no {x : Str} (h : tl x = []) : Txt.startswith x "-" = false := by
  have e : x = ("" : Str) := ext_tl (by rw [h]; rfl)
  rw [e]
  decide +kernel
theorem ok_crX {f : Addr} {fd : FuncData} (F : Fun K "count_reach" "count_reach" sCr f fd) (mDig : ∃ t, mg "DIGITS" = some (.str "0123456789" t)) (mMD : ∃ t, mg "MOST_DIGITS" = some (.int 80 t)) : FnOk P w K mg base CX0 1 f fd ["part"] spCrX := by
  obtain ⟨tD, mDig⟩ := mDig
  obtain ⟨tM, mMD⟩ := mMD
  refine F.ok scCr (fun vs H Q E h => ?_) (fun cdv A outer s H vs Q E hr h => ?_)
  · obtain ⟨i, rfl, _⟩ := h
    rfl
  · obtain ⟨S, rfl, hz0, q⟩ := h
    have nd := scCr.nd
    have hzs : S.length ≤ sizeLine := Nat.le_trans hz0 (by decide)
    -- where the digits begin
    obtain ⟨st, d, hst, hdr, hsw, hcr, hdl⟩ : ∃ (st : Nat) (d : List Nat), (st = 0 ∨ st = 1) ∧ (tl S).drop st = d ∧ Txt.startswith S "-" = decide (st = 1) ∧ crG (tl S) = st + dgG 80 true d ∧ d.length ≤ S.length := by
      cases e : tl S with
      | nil => exact ⟨0, [], .inl rfl, rfl, starts_no e, rfl, Nat.zero_le _⟩
      | cons c r =>
        have hl : S.length = r.length + 1 := by rw [len_tl, e]; rfl
        by_cases h : c = 45
        · subst h
          exact ⟨1, r, .inr rfl, rfl, by rw [starts_dash e]; rfl, by rw [crG_neg]; omega, by omega⟩
        · refine ⟨0, c :: r, .inl rfl, rfl, by rw [starts_dash e, decide_eq_false h]; rfl, ?_, by rw [List.length_cons]; omega⟩
          rw [crG_pos fun t et => h (List.cons.inj et).1, Nat.zero_add]
    have hcut : tl (cutS S (some (st : Int)) (some ((st : Int) + 80))) = d.take 80 := by
      have e : (st : Int) + 80 = ((st + 80 : Nat) : Int) := by omega
      rw [e, tl_cutMid, hdr]
      congr 1
      omega
    have hsz : (cutS S (some (st : Int)) (some ((st : Int) + 80))).cps.size = min 80 d.length := by
      have : (tl (cutS S (some (st : Int)) (some ((st : Int) + 80)))).length = (cutS S (some (st : Int)) (some ((st : Int) + 80))).cps.size := Array.length_toList
      rw [← this, hcut, List.length_take]
    refine ⟨_, (pss_cons (ps_set (i := 1) nd rfl (Or.inl rfl) (pe_ifExp (pt_val (pe_m1 PySem.F.slot_str_startswith PySem.F.type_str_startswith mt_startswith (pv 0) pe_str)) pe_int pe_int))
      (pss_cons (ps_set (i := 2) nd rfl (Or.inl rfl) (pv 1))
      (pss_cons (ps_for PassesOwn.never rfl (pi_str (pe_slice sl_str (pv 0) (po_some (pv 1)) (po_some (pe_op op_add (pv 1) (pe_glob (v := .int 80) (by rfl) mMD ⟨_, rfl⟩))))) (pg_name (i := 3) nd rfl (Or.inl rfl))
        (pss_cons (ps_if (PW.pt (pw_or (pt_cmpR op_notIn_sign (pv 3) (pe_glob (v := .str "0123456789") (by rfl) mDig ⟨_, rfl⟩) (by rfl)) (pw_or1 (PW.pt (pw_and (pt_cmpR op_eq (pv 3) pe_str (nomark _)) (pw_and1 (pt_cmpR op_eq (pv 2) (pv 1) (nomark _)))))))) (pss_one ps_break) pss_nil)
        (pss_one (ps_aug (i := 2) nd rfl (Or.inl rfl) pe_int ip_add))))
      (pss_one (ps_ret (pv 2)))))), ?_⟩
    refine seq_step (fun σ' H' => σ' = [some (.str S), some (.int (st : Int)), none, none] ∧ H' = H) (fun R hR => ?_) (fun σ1 H1 h1 => ?_)
    · refine ⟨_, rfl, ⟨_, rfl⟩, _, _, rfl, rfl, _, rfl, ?_⟩
      rw [hsw]
      rcases hst with rfl | rfl
      · exact iteF (hR _ _ ⟨rfl, rfl⟩)
      · exact iteT (hR _ _ ⟨rfl, rfl⟩)
    obtain ⟨rfl, rfl⟩ := h1
    refine seq_step (fun σ' H' => σ' = [some (.str S), some (.int (st : Int)), some (.int (st : Int)), none] ∧ H' = H1) (fun R hR => ⟨_, rfl, hR _ _ ⟨rfl, rfl⟩⟩) (fun σ2 H2 h2 => ?_)
    obtain ⟨rfl, rfl⟩ := h2
    refine seq_step (fun σ' H' => (∃ x3, σ' = [some (.str S), some (.int (st : Int)), some (.int ((crG (tl S) : Nat) : Int)), x3]) ∧ H' = H2) (fun R hR => ?_) (fun σ3 H3 h3 => ?_)
    · refine ⟨_, rfl, _, rfl, _, rfl, _, rfl, _, _, rfl, rfl, _, rfl, S, rfl, hzs, _, rfl, ?_⟩
      refine for_it walk_str (fun j σ' H' => (∃ x3, σ' = [some (.str S), some (.int (st : Int)), some (.int (((st + j : Nat)) : Int)), x3]) ∧ H' = H2 ∧ dgG 80 true d = j + dgG (80 - j) (decide (j = 0)) (d.drop j)) ⟨⟨_, rfl⟩, rfl, (Nat.zero_add _).symm⟩ (fun _ _ _ _ _ => trivial) ?_ (fun σ' H' h => ?_)
      rotate_left
      · obtain ⟨⟨x3, rfl⟩, rfl, e⟩ := h
        rw [hsz] at e ⊢
        refine hR _ _ ⟨⟨x3, ?_⟩, rfl⟩
        have e0 : dgG (80 - min 80 d.length) (decide (min 80 d.length = 0)) (d.drop (min 80 d.length)) = 0 := by
          by_cases h8 : 80 ≤ d.length
          · rw [Nat.min_eq_left h8]
            rfl
          · rw [Nat.min_eq_right (by omega), List.drop_length]
            exact Nat.le_zero.mp (dgG_le _ _ _)
        rw [hcr, e, e0, Nat.add_zero]
      rintro j x σ' H4 H5 hj ⟨⟨x3, rfl⟩, rfl, ek⟩ ⟨rfl, ch, hch, rfl⟩
      rw [hsz] at hj
      have hj80 : j < 80 := by omega
      have hch2 : d[j]? = some ch := by
        have h1 : (tl (cutS S (some (st : Int)) (some ((st : Int) + 80))))[j]? = some ch := by
          show (cutS S (some (st : Int)) (some ((st : Int) + 80))).cps.toList[j]? = some ch
          rw [Array.getElem?_toList]
          exact hch
        rw [hcut, List.getElem?_take_of_lt hj80] at h1
        exact h1
      obtain ⟨_, ed⟩ := take_next hch2
      have e80 : 80 - j = (80 - (j + 1)) + 1 := by omega
      have ej : decide (j + 1 = 0) = false := decide_eq_false (by omega)
      rw [ed, e80, dgG_cons] at ek
      have ei : (((st + j : Nat)) : Int) + 1 = ((st + (j + 1) : Nat) : Int) := by omega
      have hbk : ∀ x3, ¬ (DgN ch ∧ ¬ (decide (j = 0) = true ∧ ch = 48)) → R [some (.str S), some (.int (st : Int)), some (.int (((st + j : Nat)) : Int)), x3] H5 := fun x3 hn => by
        rw [if_neg hn, Nat.add_zero] at ek
        have e : crG (tl S) = st + j := by rw [hcr, ek]
        rw [← e]
        exact hR _ _ ⟨⟨x3, rfl⟩, rfl⟩
      have hmem : ch ∈ (("0123456789" : Str)).cps.toList ↔ DgN ch := by
        have e : (("0123456789" : Str)).cps.toList = [48, 49, 50, 51, 52, 53, 54, 55, 56, 57] := tl_dig
        rw [e]
        simp only [List.mem_cons, List.not_mem_nil, or_false]
        omega
      have hgo : (DgN ch ∧ ¬ (decide (j = 0) = true ∧ ch = 48)) → ∃ x3', [some (V.str S), some (.int (st : Int)), some (.int ((((st + j : Nat)) : Int) + 1)), some (.str ⟨#[ch]⟩)] = [some (V.str S), some (.int (st : Int)), some (.int (((st + (j + 1) : Nat)) : Int)), x3'] ∧ dgG 80 true d = (j + 1) + dgG (80 - (j + 1)) (decide (j + 1 = 0)) (d.drop (j + 1)) := fun hn => by
        refine ⟨some (.str ⟨#[ch]⟩), by rw [ei], ?_⟩
        rw [if_pos hn] at ek
        rw [ek, ej]
        omega
      by_cases hdg : DgN ch
      · have e1 : (!decide (ch ∈ (("0123456789" : Str)).cps.toList)) = false := by
          rw [decide_eq_true (hmem.mpr hdg)]
          rfl
        have hz48 : (⟨#[ch]⟩ : Str) = "0" ↔ ch = 48 := by
          have e4 : tl ("0" : Str) = [48] := by decide +kernel
          constructor
          · intro e2
            have e3 : tl (⟨#[ch]⟩ : Str) = tl ("0" : Str) := by rw [e2]
            rw [e4] at e3
            have e5 : [ch] = [48] := e3
            exact (List.cons.inj e5).1
          · intro e2
            refine ext_tl ?_
            rw [e4, e2]
        by_cases hstop : j = 0 ∧ ch = 48
        · refine ⟨_, rfl, ch, _, rfl, rfl, _, rfl, ?_⟩
          rw [e1]
          refine iteF ⟨_, rfl, rfl, _, rfl, ifd (fun c1 => ?_) (fun c1 => absurd (congrArg V.str (hz48.mpr hstop.2)) c1)⟩
          refine ⟨_, rfl, _, rfl, rfl, _, rfl, ?_⟩
          have ed2 : decide (V.int (((st + j : Nat)) : Int) = V.int (st : Int)) = true := decide_eq_true (by rw [hstop.1]; rfl)
          rw [ed2]
          exact iteT (hbk _ fun h => h.2 ⟨decide_eq_true hstop.1, hstop.2⟩)
        · obtain ⟨x3', ex, ek2⟩ := hgo ⟨hdg, fun h => hstop ⟨of_decide_eq_true h.1, h.2⟩⟩
          refine seq_step (fun σ' H' => σ' = [some (.str S), some (.int (st : Int)), some (.int (((st + j : Nat)) : Int)), some (.str ⟨#[ch]⟩)] ∧ H' = H5) (fun R hR => ?_) (fun σ6 H6 h6 => ?_)
          · refine ⟨_, rfl, ch, _, rfl, rfl, _, rfl, ?_⟩
            rw [e1]
            refine iteF ⟨_, rfl, rfl, _, rfl, ifd (fun c1 => ?_) (fun c1 => iteF (hR _ _ ⟨rfl, rfl⟩))⟩
            refine ⟨_, rfl, _, rfl, rfl, _, rfl, ?_⟩
            have ed2 : decide (V.int (((st + j : Nat)) : Int) = V.int (st : Int)) = false := decide_eq_false fun e => hstop ⟨by have := V.int.inj e; omega, hz48.mp (V.str.inj c1)⟩
            rw [ed2]
            exact iteF (hR _ _ ⟨rfl, rfl⟩)
          obtain ⟨rfl, rfl⟩ := h6
          exact ⟨_, rfl, _, _, rfl, rfl, ⟨x3', ex⟩, rfl, ek2⟩
      · refine ⟨_, rfl, ch, _, rfl, rfl, _, rfl, ?_⟩
        have ed2 : decide (ch ∈ (("0123456789" : Str)).cps.toList) = false := decide_eq_false fun h => hdg (hmem.mp h)
        rw [ed2]
        exact iteT (hbk _ fun h => hdg h.1)
    obtain ⟨⟨x3, rfl⟩, rfl⟩ := h3
    exact ⟨_, rfl, q⟩
end
end Ld
namespace Ld
open PySem PySem.Spec PyProof.Rows L2
open TL
/-! ### an own error with one field, made and raised -/
def spXInit (C : Addr) (f : Str) : Sp := fun vs H Q _ => ∃ (a : Addr) (i : Int), vs = [.ref a, .int i] ∧ H a = some (exo a C none) ∧
  ∀ dx, H dx = none → dx ≠ a → Q .non (upd (upd H dx (exd dx [(f, .int i)])) a (exo a C (some dx)))
/-- what of the text the class of an error must have -/
structure XCls (K : PySem.W.Frag) (mg : Str → Option Value) (x : Str) (C fI : Addr) : Prop where
  oex : OexC K C
  iC : PySem.W.findIn K (.ref C) "__init__" = some (some (.ref fI))
  tI : PySem.W.typeIn K (.ref fI) = some (.type "function")
  gC : mg x = some (.ref C)
  ve : mg "ValueError" = none
  vV : PySem.W.findCls K (.type "ValueError") (.type "type") "__init__" = some (.val (.builtin "ValueError.__init__"))
abbrev sXt : Stmt := inClass (top 8) 0
theorem scXt : FnScope ["self", "index"] ["self", "index"] (defScope sXt) := ⟨rfl, rfl, rfl, by decide +kernel, rfl, by decide +kernel, by decide +kernel⟩
theorem mkO_ix {C a0 : Addr} {f : Str} {H1 : Hp} {i : Int} {Qx : XK} (k : ∀ (H' : Hp) (d : Addr), Same H1 H' → H' d = some (.xd [(f, .int i)]) → Qx (.ref C) (some d) H') :
    [V.int i].length ≤ 1000 ∧ ∀ a, H1 a = none → spXInit C f (.ref a :: ([V.int i] ++ [])) (upd H1 a (exo a C none))
      (fun v H2 => v = .non ∧ ∃ (d : Addr) (fs : List (Str × V)), H2 a = some (exo a C (some d)) ∧ H2 d = some (exd d fs) ∧ H1 d = none ∧ Qx (.ref C) (some d) (upd (del H2 a) d (.xd fs))) (fun _ _ _ => False) := by
  refine ⟨by show 1 ≤ 1000; decide, fun a ha => ⟨a, i, rfl, upd_same, fun dx hdx hne => ⟨rfl, dx, [(f, .int i)], upd_same, by rw [upd_ne hne, upd_same], by rw [upd_ne hne] at hdx; exact hdx, k _ _ (fun b o e => ?_) upd_same⟩⟩⟩
  have hba : b ≠ a := ne_of_none e ha
  have hdx' : H1 dx = none := by rw [upd_ne hne] at hdx; exact hdx
  have hbd : b ≠ dx := ne_of_none e hdx'
  rw [upd_ne hbd, del_ne hba, upd_ne hba, upd_ne hbd, upd_ne hba]
  exact e
section
variable {P : Program} {w : World} {K : PySem.W.Frag} {mg : Str → Option Value} {base : Heap} {CT fT : Addr}
theorem ok_xt {f : Addr} {fd : FuncData} (F : Fun K "__init__" "InvalidText.__init__" sXt f fd) (T : OexC K CT) (ve : mg "ValueError" = none) (vV : PySem.W.findCls K (.type "ValueError") (.type "type") "__init__" = some (.val (.builtin "ValueError.__init__"))) (no : PySem.W.findIn K (.ref CT) "index" = some none) :
    FnOk P w K mg base CX0 1 f fd ["self", "index"] (spXInit CT "index") := by
  refine F.ok scXt (fun vs H Q E h => ?_) (fun cdv A outer s H vs Q E hr h => ?_)
  · obtain ⟨a, i, rfl, _⟩ := h
    rfl
  · obtain ⟨a, i, rfl, ha, q⟩ := h
    have nd : (["self", "index"] : List Str).Nodup := scXt.nd
    refine ⟨_, pss_cons (ps_expr (pe_veinit (by rfl) ve vV (pa_cons (pv 0) (pa_cons (pv 1) pa_nil)))) (pss_one (ps_ost (pv 0) (pv 1))), ?_⟩
    refine ⟨_, rfl, _, rfl, a, CT, [.int i], rfl, by show 1 ≤ 1000; decide, T, ha, ?_⟩
    exact ⟨_, rfl, _, rfl, a, CT, rfl, T, no, .inl ⟨ha, fun dx h1 h2 => q dx h1 h2⟩⟩
/-! ### read_counts of any text -/
theorem rgc_any {m : Nat} (h : m ≤ 1000000) : RgC 0 (m : Int) 2 ((m + 1) / 2) := by
  have hs : Builtin.Range.rangeSize 0 (m : Int) 2 = (((m + 1) / 2 : Nat) : Int) := by
    unfold Builtin.Range.rangeSize
    simp only [show (2 : Int) > 0 by decide, if_true]
    split <;> omega
  have fits : ∀ i : Int, 0 ≤ i → i ≤ 4000000 → Builtin.Range.rangeFitsLong i = true := fun i h0 h1 => by
    unfold Builtin.Range.rangeFitsLong
    rw [Bool.and_eq_true, decide_eq_true_eq, decide_eq_true_eq]
    omega
  refine ⟨by decide, by decide, ?_, hs⟩
  unfold Builtin.Range.small
  rw [hs, fits 0 (by omega) (by omega), fits (m : Int) (by omega) (by omega), fits 2 (by omega) (by omega), fits (((m + 1) / 2 : Nat) : Int) (by omega) (by omega), if_pos (by decide : (2 : Int) > 0), fits ((m : Int) + (2 - 1)) (by omega) (by omega), Bool.or_true]
  rfl
theorem split_each (t : Str) : ∀ p ∈ Txt.split t " ", p.length ≤ t.length := by
  have key : ∀ (cs acc : List Nat), ∀ p ∈ spl [32] 0 acc cs, p.length ≤ acc.length + cs.length := by
    intro cs
    induction cs with
    | nil => intro acc p hp; rw [spl_nil] at hp; rw [List.mem_singleton.mp hp]; simp
    | cons c r ih =>
      intro acc p hp
      rw [List.length_cons]
      by_cases hc : c = 32
      · rw [spl_hit (S := [32]) (by rw [hc]; simp [pre])] at hp
        rcases List.mem_cons.mp hp with rfl | hp
        · omega
        · have := ih [] p hp
          rw [List.length_nil] at this
          omega
      · rw [spl_miss (S := [32]) (by simp [pre]; omega)] at hp
        have := ih (acc ++ [c]) p hp
        rw [List.length_append] at this
        simp at this
        omega
  intro p hp
  have h := key (tl t) [] (tl p) (by rw [← split_parts]; exact List.mem_map.mpr ⟨p, hp, rfl⟩)
  rw [List.length_nil, ← len_tl, ← len_tl] at h
  omega
def spRcX (CT : Addr) : Sp := fun vs H Q E => ∃ t : Str, vs = [.str t] ∧ t.length ≤ 3900 ∧
  (∀ qs, rdT t = .inr qs → ∀ (H' : Hp) (p : Addr) (xs : List (Str × Int)), Txt.split t " " = partsOf xs → Same H H' → H p = none → H' p = some (.dK (cD xs)) → Q (.ref p) H') ∧
  (∀ i : Nat, rdT t = .inl i → ∀ (H' : Hp) (d : Addr), Same H H' → H' d = some (.xd [("index", .int (i : Int))]) → E (.ref CT) (some d) H')
theorem partsOf_app (xs ys : List (Str × Int)) : partsOf (xs ++ ys) = partsOf xs ++ partsOf ys := List.flatMap_append
theorem tl_zz {x : Str} : x = "zzzzzzzz" ↔ tl x = zz := by
  have e0 : tl ("zzzzzzzz" : Str) = zz := tl_last
  exact ⟨fun e => by rw [e, e0], fun e => ext_tl (e.trans e0.symm)⟩
theorem ok_rcX {f : Addr} {fd : FuncData} (F : Fun K "read_counts" "read_counts" sRc f fd) (B : Blt mg) (mLast : ∃ t, mg "LAST_KIND" = some (.str "zzzzzzzz" t)) (H1 : Has P w K mg base 1 "kind_reach" ["part", "last"] spKrX) (H2 : Has P w K mg base 1 "count_reach" ["part"] spCrX)
    {xd : FuncData} (T : XCls K mg "InvalidText" CT fT) (FT : FnOk P w K mg base CX0 1 fT xd ["self", "index"] (spXInit CT "index")) (bT : L2.Binds K xd ["self", "index"] []) : FnOk P w K mg base (L2.CX P w) 3 f fd ["text"] (spRcX CT) := by
  obtain ⟨tL, mLast⟩ := mLast
  obtain ⟨f1, d1, G1, b1, m1, k1⟩ := H1
  obtain ⟨f2, d2, G2, b2, m2, k2⟩ := H2
  refine F.okX scRc (fun vs H Q E h => ?_) (fun cdv A outer s H vs Q E hr h => ?_)
  · obtain ⟨t, rfl, _⟩ := h
    rfl
  · obtain ⟨S, rfl, hlen, qr, qe⟩ := h
    have nd := scRc.nd
    have hu := hu_of hr
    have hr1 : Room 1 _ := hr.mono (by decide : 1 ≤ 2)
    have hsz : sizeLine = 16777216 := sizeLine_eq
    have hne := split_ne S
    have hpl := split_len S
    have hpe := split_each S
    have hps := split_sum S
    refine ⟨_, (pss_cons (ps_set (i := 1) nd rfl (Or.inl rfl) (pe_split (pv 0) pe_str))
      (pss_cons (ps_set (i := 2) nd rfl (Or.inl rfl) pe_dnewK)
      (pss_cons (ps_set (i := 3) nd rfl (Or.inl rfl) pe_str)
      (pss_cons (ps_set (i := 4) nd rfl (Or.inl rfl) pe_int)
      (pss_cons (ps_for (passes_of rfl) rfl (pi_range3 (by rfl) B.range (pa_cons pe_int (pa_cons (pe_callB call_len_seq (by rfl) B.len PySem.boot_len (pa_cons (pv 1) pa_nil)) (pa_cons pe_int pa_nil)))) (pg_name (i := 5) nd rfl (Or.inl rfl))
        (pss_cons (ps_if (pt_cmpR op_eq (pv 3) (pe_glob (v := .str "zzzzzzzz") (by rfl) mLast ⟨_, rfl⟩) (nomark _)) (pss_one (ps_raise rfl (takes_of rfl rfl rfl rfl) (pmk_oex T.oex T.iC T.tI FT hr bT .nil pass0 (by rfl) T.gC (pa_cons (pe_op op_sub (pv 4) pe_int) pa_nil)))) pss_nil)
        (pss_cons (ps_set (i := 6) nd rfl (Or.inl rfl) (pe_ix ix_list (pv 1) (pv 5) (fun _ _ => rfl)))
        (pss_cons (ps_set (i := 7) nd rfl (Or.inl rfl) (pe_call G1 hr1 (by rfl) m1 k1 b1 .nil pass0 (pa_cons (pv 6) (pa_cons (pv 3) pa_nil))))
        (pss_cons (ps_aug (i := 4) nd rfl (Or.inl rfl) (pv 7) ip_add)
        (pss_cons (ps_if (PW.pt (pw_or (pt_cmpR op_lt (pv 7) (pe_callB call_len_str (by rfl) B.len PySem.boot_len (pa_cons (pv 6) pa_nil)) (nomark _)) (pw_or (pt_cmpR op_le_str (pv 6) (pv 3) (nomark _)) (pw_or1 (pt_cmpR op_eq (pe_op op_add (pv 5) pe_int) (pe_callB call_len_seq (by rfl) B.len PySem.boot_len (pa_cons (pv 1) pa_nil)) (nomark _)))))) (pss_one (ps_raise rfl (takes_of rfl rfl rfl rfl) (pmk_oex T.oex T.iC T.tI FT hr bT .nil pass0 (by rfl) T.gC (pa_cons (pv 4) pa_nil)))) pss_nil)
        (pss_cons (ps_set (i := 8) nd rfl (Or.inl rfl) (pe_ix ix_list (pv 1) (pe_op op_add (pv 5) pe_int) (fun _ _ => rfl)))
        (pss_cons (ps_set (i := 7) nd rfl (Or.inl rfl) (pe_call G2 hr1 (by rfl) m2 k2 b2 .nil pass0 (pa_cons (pv 8) pa_nil)))
        (pss_cons (ps_aug (i := 4) nd rfl (Or.inl rfl) (pe_op op_add pe_int (pv 7)) ip_add)
        (pss_cons (ps_if (PW.pt (pw_or (pt_cmpR op_lt (pv 7) (pe_callB call_len_str (by rfl) B.len PySem.boot_len (pa_cons (pv 8) pa_nil)) (nomark _)) (pw_or1 (pt_cmpR op_in_seq (pv 8) (pe_tup (pa_cons pe_str (pa_cons pe_str pa_nil))) (by rfl))))) (pss_one (ps_raise rfl (takes_of rfl rfl rfl rfl) (pmk_oex T.oex T.iC T.tI FT hr bT .nil pass0 (by rfl) T.gC (pa_cons (pv 4) pa_nil)))) pss_nil)
        (pss_cons (ps_dput hu (pv 2) (pv 6) (pe_callTy call_int_str (by rfl) B.int bInt (pa_cons (pv 8) pa_nil)) rfl)
        (pss_cons (ps_set (i := 3) nd rfl (Or.inl rfl) (pv 6))
        (pss_one (ps_aug (i := 4) nd rfl (Or.inl rfl) pe_int ip_add))))))))))))))
      (pss_one (ps_ret (pv 2)))))))), ?_⟩
    have hT : rdT S = rdG [] 0 ((Txt.split S " ").map tl) := rfl
    refine seq_step (fun σ' H' => ∃ l, σ' = [some (.str S), some (.ref l), none, none, none, none, none, none, none] ∧ Same H H' ∧ H' l = some (.lst ((Txt.split S " ").map V.str))) (fun R hR => ?_) (fun σ1 H1 h1 => ?_)
    · refine ⟨_, rfl, ⟨_, rfl⟩, S, " ", rfl, rfl, by decide +kernel, by omega, fun l hl => ?_⟩
      exact hR _ _ ⟨l, rfl, same_new hl, upd_same⟩
    obtain ⟨l, rfl, same1, hl1⟩ := h1
    generalize hPT : Txt.split S " " = PT at *
    refine seq_step (fun σ' H' => ∃ c, σ' = [some (.str S), some (.ref l), some (.ref c), none, none, none, none, none, none] ∧ Same H1 H' ∧ H1 c = none ∧ H' c = some (.dK [])) (fun R hR => fun c hc => hR _ _ ⟨c, rfl, same_new hc, hc, upd_same⟩) (fun σ2 H2 h2 => ?_)
    obtain ⟨c, rfl, same2, hc1, hc2⟩ := h2
    refine seq_step (fun σ' H' => σ' = [some (.str S), some (.ref l), some (.ref c), some (.str ""), none, none, none, none, none] ∧ H' = H2) (fun R hR => hR _ _ ⟨rfl, rfl⟩) (fun σ3 H3 h3 => ?_)
    obtain ⟨rfl, rfl⟩ := h3
    refine seq_step (fun σ' H' => σ' = [some (.str S), some (.ref l), some (.ref c), some (.str ""), some (.int 0), none, none, none, none] ∧ H' = H3) (fun R hR => hR _ _ ⟨rfl, rfl⟩) (fun σ4 H4 h4 => ?_)
    obtain ⟨rfl, rfl⟩ := h4
    have hl4 := same2 _ _ hl1
    have hlc : l ≠ c := ne_of_none hl1 hc1
    refine seq_step (fun σ' H' => ∃ x3 x4 x5 x6 x7 x8 xs qs, σ' = [some (.str S), some (.ref l), some (.ref c), x3, x4, x5, x6, x7, x8] ∧ (∀ b o, H1 b = some o → H' b = some o) ∧ H' c = some (.dK (cD xs)) ∧ PT = partsOf xs ∧ rdT S = .inr qs) (fun R hR => ?_) (fun σ5 H5 h5 => ?_)
    · refine ⟨_, rfl, l, _, rfl, .inl (.inl (.inl hl4)), 0, _, 2, (PT.length + 1) / 2, rfl, ?_, ?_⟩
      · rw [List.length_map]
        exact rgc_any (by omega)
      refine for_rangeC (fun j σ' H' => ∃ (ys : List (Str × Int)) (last : Str) (a : Nat) (x5 x6 x7 x8 : Option V), σ' = [some (.str S), some (.ref l), some (.ref c), some (.str last), some (.int (a : Int)), x5, x6, x7, x8] ∧ (∀ b o, H1 b = some o → H' b = some o) ∧ H' l = some (.lst (PT.map V.str)) ∧ H' c = some (.dK (cD ys)) ∧
          ys.length = j ∧ PT = partsOf ys ++ PT.drop (2 * j) ∧ (∀ y ∈ ys, wordB y.1 = true ∧ tl y.1 ≤ tl last) ∧ (tl last = zz → 1 ≤ a) ∧
          (∀ i, rdG (tl last) a ((PT.drop (2 * j)).map tl) = .inl i → rdT S = .inl i) ∧ (∀ ps, rdG (tl last) a ((PT.drop (2 * j)).map tl) = .inr ps → ∃ qs, rdT S = .inr qs))
        ⟨[], "", 0, none, none, none, none, rfl, fun b o e => same2 _ _ e, hl4, hc2, rfl, rfl, (fun _ h => nomatch h), (fun h => by revert h; decide +kernel), (fun i h => by rw [hT]; exact h), (fun ps h => ⟨ps, by rw [hT]; exact h⟩)⟩ ?_ ?_
      · rintro j σ' H5 hj ⟨ys, last, a, x5, x6, x7, x8, rfl, keep, hl5, hc5, hyl, hpt, hys, hza, hin, hok⟩
        have hj2 : 2 * j < PT.length := by omega
        obtain ⟨p0, hp0⟩ : ∃ p0, PT[2 * j]? = some p0 := ⟨_, List.getElem?_eq_getElem hj2⟩
        have hp0l : p0.length ≤ 3900 := Nat.le_trans (hpe p0 (List.mem_of_getElem? hp0)) hlen
        have ed0 : PT.drop (2 * j) = p0 :: PT.drop (2 * j + 1) := by
          obtain ⟨hi, e⟩ := List.getElem?_eq_some_iff.mp hp0
          rw [← e]
          exact List.drop_eq_getElem_cons hi
        have raise : ∀ {i : Nat} {n : Int} {H' : Hp}, (i : Int) = n → rdG (tl last) a ((PT.drop (2 * j)).map tl) = .inl i → (∀ b o, H1 b = some o → H' b = some o) → ∀ (H'' : Hp) (d : Addr), Same H' H'' → H'' d = some (.xd [("index", .int n)]) → E (.ref CT) (some d) H'' :=
          fun {i n H'} en e k H'' d s1 hd => by
            subst en
            exact qe i (hin i e) H'' d (fun b o hb => s1 _ _ (k _ _ (same1 _ _ hb))) hd
        -- the last kind
        by_cases hz : tl last = zz
        · have ha1 := hza hz
          refine ⟨_, rfl, rfl, _, rfl, ?_⟩
          rw [decide_eq_true (congrArg V.str (tl_zz.mpr hz))]
          refine iteT ⟨_, rfl, _, _, rfl, rfl, ?_⟩
          dsimp only [tNil]
          refine mkO_ix (a0 := CT) (raise (i := a - 1) (by omega) ?_ keep)
          rw [ed0, List.map_cons]
          cases PT.drop (2 * j + 1) with
          | nil => rw [List.map_nil, rdG_one, if_pos hz]
          | cons q0 r0 => rw [List.map_cons, rdG_two, if_pos hz]
        have hin1 : PT.drop (2 * j + 1) = [] → rdG (tl last) a ((PT.drop (2 * j)).map tl) = .inl (a + krG (tl last) [] (tl p0)) := fun e => by
          rw [ed0, List.map_cons, e, List.map_nil, rdG_one, if_neg hz]
        have hin2 : krG (tl last) [] (tl p0) < (tl p0).length ∨ tl p0 ≤ tl last → rdG (tl last) a ((PT.drop (2 * j)).map tl) = .inl (a + krG (tl last) [] (tl p0)) := fun h => by
          cases e : PT.drop (2 * j + 1) with
          | nil => exact hin1 e
          | cons q0 r0 => rw [ed0, e, List.map_cons, List.map_cons, rdG_two, if_neg hz, if_pos h]
        refine seq_step (fun σ' H' => σ' = [some (.str S), some (.ref l), some (.ref c), some (.str last), some (.int (a : Int)), some (.int (0 + (j : Int) * 2)), x6, x7, x8] ∧ H' = H5) (fun R' hR' => ?_) (fun σ6 H6 h6 => ?_)
        · refine ⟨_, rfl, rfl, _, rfl, ?_⟩
          rw [decide_eq_false fun e => hz (tl_zz.mp (V.str.inj e))]
          exact iteF (hR' _ _ ⟨rfl, rfl⟩)
        obtain ⟨rfl, rfl⟩ := h6
        refine seq_step (fun σ' H' => σ' = [some (.str S), some (.ref l), some (.ref c), some (.str last), some (.int (a : Int)), some (.int (0 + (j : Int) * 2)), some (.str p0), x7, x8] ∧ H' = H6) (fun R' hR' => ?_) (fun σ7 H7 h7 => ?_)
        · refine ⟨_, rfl, _, rfl, l, _, _, .str p0, rfl, rfl, .inl (.inl hl5), ?_, hR' _ _ ⟨rfl, rfl⟩⟩
          have e : (0 + (j : Int) * 2) = ((2 * j : Nat) : Int) := by omega
          rw [e]
          exact atI_nat (by rw [List.getElem?_map, hp0]; rfl)
        obtain ⟨rfl, rfl⟩ := h7
        have hkle := krG_le (tl last) [] (tl p0)
        have hp0t := len_tl p0
        generalize hk : krG (tl last) [] (tl p0) = k at hin1 hin2 hkle
        refine seq_step (fun σ' H' => σ' = [some (.str S), some (.ref l), some (.ref c), some (.str last), some (.int (a : Int)), some (.int (0 + (j : Int) * 2)), some (.str p0), some (.int ((k : Nat) : Int)), x8] ∧ H' = H7) (fun R' hR' => ?_) (fun σ8 H8 h8 => ?_)
        · refine ⟨_, rfl, _, rfl, p0, last, rfl, by omega, ?_⟩
          rw [hk]
          exact hR' _ _ ⟨rfl, rfl⟩
        obtain ⟨rfl, rfl⟩ := h8
        refine seq_step (fun σ' H' => σ' = [some (.str S), some (.ref l), some (.ref c), some (.str last), some (.int ((a + k : Nat) : Int)), some (.int (0 + (j : Int) * 2)), some (.str p0), some (.int ((k : Nat) : Int)), x8] ∧ H' = H8) (fun R' hR' => ?_) (fun σ9 H9 h9 => ?_)
        · refine ⟨_, rfl, _, rfl, _, _, rfl, rfl, hR' _ _ ⟨?_, rfl⟩⟩
          have e : ((a + k : Nat) : Int) = (a : Int) + (k : Int) := by omega
          rw [e]
          rfl
        obtain ⟨rfl, rfl⟩ := h9
        -- the kind
        by_cases c1 : k < p0.length
        · refine ⟨_, rfl, _, rfl, _, rfl, by omega, _, _, rfl, rfl, _, rfl, ?_⟩
          rw [decide_eq_true (by omega)]
          refine iteT ⟨_, rfl, ?_⟩
          dsimp only [tNil]
          exact mkO_ix (a0 := CT) (raise (i := a + k) rfl (hin2 (.inl (by omega))) keep)
        have hkp : k = p0.length := by omega
        by_cases c2 : tl p0 ≤ tl last
        · refine ⟨_, rfl, _, rfl, _, rfl, by omega, _, _, rfl, rfl, _, rfl, ?_⟩
          rw [decide_eq_false (by omega)]
          refine iteF ⟨_, rfl, _, rfl, _, _, rfl, rfl, _, rfl, ?_⟩
          have e1 : decide (last.cps.toList < p0.cps.toList) = false := decide_eq_false (show ¬ tl last < tl p0 from List.not_lt.mpr c2)
          rw [e1]
          refine iteT ⟨_, rfl, ?_⟩
          dsimp only [tNil]
          exact mkO_ix (a0 := CT) (raise (i := a + k) rfl (hin2 (.inr c2)) keep)
        have hlt : tl last < tl p0 := List.not_le.mp c2
        have e1 : decide (last.cps.toList < p0.cps.toList) = true := decide_eq_true hlt
        by_cases c3 : 2 * j + 1 = PT.length
        · refine ⟨_, rfl, _, rfl, _, rfl, by omega, _, _, rfl, rfl, _, rfl, ?_⟩
          rw [decide_eq_false (by omega)]
          refine iteF ⟨_, rfl, _, rfl, _, _, rfl, rfl, _, rfl, ?_⟩
          rw [e1]
          refine iteF ⟨_, rfl, _, _, rfl, rfl, _, rfl, l, _, rfl, .inl (.inl (.inl hl5)), rfl, _, rfl, ?_⟩
          have e2 : decide (V.int (0 + (j : Int) * 2 + 1) = V.int ((PT.map V.str).length : Int)) = true := decide_eq_true (by rw [List.length_map]; congr 1; omega)
          rw [e2]
          refine iteT ⟨_, rfl, ?_⟩
          dsimp only [tNil]
          exact mkO_ix (a0 := CT) (raise (i := a + k) rfl (hin1 (List.drop_of_length_le (by omega))) keep)
        refine seq_step (fun σ' H' => σ' = [some (.str S), some (.ref l), some (.ref c), some (.str last), some (.int ((a + k : Nat) : Int)), some (.int (0 + (j : Int) * 2)), some (.str p0), some (.int ((k : Nat) : Int)), x8] ∧ H' = H9) (fun R' hR' => ?_) (fun σ10 H10 h10 => ?_)
        · refine ⟨_, rfl, _, rfl, _, rfl, by omega, _, _, rfl, rfl, _, rfl, ?_⟩
          rw [decide_eq_false (by omega)]
          refine iteF ⟨_, rfl, _, rfl, _, _, rfl, rfl, _, rfl, ?_⟩
          rw [e1]
          refine iteF ⟨_, rfl, _, _, rfl, rfl, _, rfl, l, _, rfl, .inl (.inl (.inl hl5)), rfl, _, rfl, ?_⟩
          have e2 : decide (V.int (0 + (j : Int) * 2 + 1) = V.int ((PT.map V.str).length : Int)) = false := decide_eq_false fun e => by
            have := V.int.inj e
            rw [List.length_map] at this
            omega
          rw [e2]
          exact iteF (hR' _ _ ⟨rfl, rfl⟩)
        obtain ⟨rfl, rfl⟩ := h10
        -- the count
        have hj3 : 2 * j + 1 < PT.length := by omega
        obtain ⟨q0, hq0⟩ : ∃ q0, PT[2 * j + 1]? = some q0 := ⟨_, List.getElem?_eq_getElem hj3⟩
        have hq0l : q0.length ≤ 3900 := Nat.le_trans (hpe q0 (List.mem_of_getElem? hq0)) hlen
        have ed1 : PT.drop (2 * j + 1) = q0 :: PT.drop (2 * (j + 1)) := by
          obtain ⟨hi, e⟩ := List.getElem?_eq_some_iff.mp hq0
          rw [← e]
          exact List.drop_eq_getElem_cons hi
        have hn1 : ¬ (krG (tl last) [] (tl p0) < (tl p0).length ∨ tl p0 ≤ tl last) := fun h => h.elim (fun h => by omega) c2
        have hcle := crG_le (tl q0)
        have hq0t := len_tl q0
        have hin3 : crG (tl q0) < (tl q0).length ∨ tl q0 = [] ∨ tl q0 = [45] → rdG (tl last) a ((PT.drop (2 * j)).map tl) = .inl (a + k + 1 + crG (tl q0)) := fun h => by
          rw [ed0, ed1, List.map_cons, List.map_cons, rdG_two, if_neg hz, if_neg hn1, if_pos h, hk]
        refine seq_step (fun σ' H' => σ' = [some (.str S), some (.ref l), some (.ref c), some (.str last), some (.int ((a + k : Nat) : Int)), some (.int (0 + (j : Int) * 2)), some (.str p0), some (.int ((k : Nat) : Int)), some (.str q0)] ∧ H' = H10) (fun R' hR' => ?_) (fun σ11 H11 h11 => ?_)
        · refine ⟨_, rfl, _, rfl, _, _, rfl, rfl, l, _, _, .str q0, rfl, rfl, .inl (.inl hl5), ?_, hR' _ _ ⟨rfl, rfl⟩⟩
          have e : (0 + (j : Int) * 2) + 1 = ((2 * j + 1 : Nat) : Int) := by omega
          rw [e]
          exact atI_nat (by rw [List.getElem?_map, hq0]; rfl)
        obtain ⟨rfl, rfl⟩ := h11
        generalize hm : crG (tl q0) = m at hin3 hcle
        refine seq_step (fun σ' H' => σ' = [some (.str S), some (.ref l), some (.ref c), some (.str last), some (.int ((a + k : Nat) : Int)), some (.int (0 + (j : Int) * 2)), some (.str p0), some (.int ((m : Nat) : Int)), some (.str q0)] ∧ H' = H11) (fun R' hR' => ?_) (fun σ12 H12 h12 => ?_)
        · refine ⟨_, rfl, q0, rfl, by omega, ?_⟩
          rw [hm]
          exact hR' _ _ ⟨rfl, rfl⟩
        obtain ⟨rfl, rfl⟩ := h12
        refine seq_step (fun σ' H' => σ' = [some (.str S), some (.ref l), some (.ref c), some (.str last), some (.int ((a + k + 1 + m : Nat) : Int)), some (.int (0 + (j : Int) * 2)), some (.str p0), some (.int ((m : Nat) : Int)), some (.str q0)] ∧ H' = H12) (fun R' hR' => ?_) (fun σ13 H13 h13 => ?_)
        · refine ⟨_, rfl, _, rfl, _, _, rfl, rfl, _, _, rfl, rfl, hR' _ _ ⟨?_, rfl⟩⟩
          have e : ((a + k + 1 + m : Nat) : Int) = ((a + k : Nat) : Int) + (1 + (m : Int)) := by omega
          rw [e]
          rfl
        obtain ⟨rfl, rfl⟩ := h13
        by_cases c4 : m < q0.length
        · refine ⟨_, rfl, _, rfl, _, rfl, by omega, _, _, rfl, rfl, _, rfl, ?_⟩
          rw [decide_eq_true (by omega)]
          refine iteT ⟨_, rfl, ?_⟩
          dsimp only [tNil]
          exact mkO_ix (a0 := CT) (raise (i := a + k + 1 + m) rfl (hin3 (.inl (by omega))) keep)
        have hmq : m = q0.length := by omega
        have einV : inV (.str q0) [.str "", .str "-"] = decide (q0 = "" ∨ q0 = "-") := by
          show (eqV (.str "") (.str q0) || (eqV (.str "-") (.str q0) || false)) = _
          show ((("" : Str) == q0) || ((("-" : Str) == q0) || false)) = _
          rw [Bool.or_false, Bool.eq_iff_iff, Bool.or_eq_true, beq_iff_eq, beq_iff_eq, decide_eq_true_eq]
          exact ⟨fun h => h.elim (fun h => .inl h.symm) fun h => .inr h.symm, fun h => h.elim (fun h => .inl h.symm) fun h => .inr h.symm⟩
        have hodd : (q0 = "" ∨ q0 = "-") ↔ (tl q0 = [] ∨ tl q0 = [45]) := by
          have e0 : tl ("" : Str) = [] := by decide +kernel
          constructor
          · rintro (h | h)
            · exact .inl (by rw [h, e0])
            · exact .inr (by rw [h, tl_dash])
          · rintro (h | h)
            · exact .inl (ext_tl (by rw [h, e0]))
            · exact .inr (ext_tl (by rw [h, tl_dash]))
        by_cases c5 : q0 = "" ∨ q0 = "-"
        · refine ⟨_, rfl, _, rfl, _, rfl, by omega, _, _, rfl, rfl, _, rfl, ?_⟩
          rw [decide_eq_false (by omega)]
          refine iteF ⟨_, rfl, by show 2 ≤ sizeLine; decide, fun T1 hT1 => ⟨T1, _, rfl, .inr (.inl (.inl upd_same)), rfl, rfl, _, rfl, ?_⟩⟩
          show (if (if false = true then !inV (.str q0) [.str "", .str "-"] else inV (.str q0) [.str "", .str "-"]) = true then _ else _)
          rw [if_neg Bool.false_ne_true, einV, decide_eq_true c5]
          refine iteT ⟨_, rfl, ?_⟩
          dsimp only [tNil]
          exact mkO_ix (a0 := CT) (raise (i := a + k + 1 + m) rfl (hin3 (.inr (hodd.mp c5))) fun b o e => same_new hT1 _ _ (keep _ _ e))
        refine seq_step (fun σ' H' => σ' = [some (.str S), some (.ref l), some (.ref c), some (.str last), some (.int ((a + k + 1 + m : Nat) : Int)), some (.int (0 + (j : Int) * 2)), some (.str p0), some (.int ((m : Nat) : Int)), some (.str q0)] ∧ Same H13 H') (fun R' hR' => ?_) (fun σ14 H14 h14 => ?_)
        · refine ⟨_, rfl, _, rfl, _, rfl, by omega, _, _, rfl, rfl, _, rfl, ?_⟩
          rw [decide_eq_false (by omega)]
          refine iteF ⟨_, rfl, by show 2 ≤ sizeLine; decide, fun T1 hT1 => ⟨T1, _, rfl, .inr (.inl (.inl upd_same)), rfl, rfl, _, rfl, ?_⟩⟩
          show (if (if false = true then !inV (.str q0) [.str "", .str "-"] else inV (.str q0) [.str "", .str "-"]) = true then _ else _)
          rw [if_neg Bool.false_ne_true, einV, decide_eq_false c5]
          exact iteF (hR' _ _ ⟨rfl, same_new hT1⟩)
        obtain ⟨rfl, same14⟩ := h14
        have hc14 := same14 _ _ hc5
        have hl14 := same14 _ _ hl5
        have hn3 : ¬ (crG (tl q0) < (tl q0).length ∨ tl q0 = [] ∨ tl q0 = [45]) := fun h => h.elim (fun h => by omega) fun h => c5 (hodd.mpr h)
        obtain ⟨i, ei, i0, ib⟩ := crG_num (q := tl q0) (by omega) (fun e => hn3 (.inr (.inl e))) (fun e => hn3 (.inr (.inr e)))
        have eq0 : q0 = txI i := ext_tl ei
        have hw := (rd_word hn1).1
        have hkey : p0 ∉ ys.map (·.1) := fun hmem => by
          obtain ⟨y, hy, e⟩ := List.mem_map.mp hmem
          have := (hys y hy).2
          rw [e] at this
          exact c2 this
        have hy1000 : ys.length ≤ 1000 := by
          have h1 := parts_sum fun y hy => (hys y hy).1
          have h2 := congrArg (fun l : List Str => (l.map (·.length)).sum) hpt
          have h3 : (PT.map (·.length)).sum = ((partsOf ys).map (·.length)).sum + ((PT.drop (2 * j)).map (·.length)).sum := by
            rw [← List.sum_append, ← List.map_append, ← hpt]
          omega
        have hput : putI ys p0 i = ys ++ [(p0, i)] := by
          unfold putI
          rw [if_neg hkey]
        refine seq_step (fun σ' H' => σ' = [some (.str S), some (.ref l), some (.ref c), some (.str last), some (.int ((a + k + 1 + m : Nat) : Int)), some (.int (0 + (j : Int) * 2)), some (.str p0), some (.int ((m : Nat) : Int)), some (.str q0)] ∧ H' = upd H14 c (.dK (cD (ys ++ [(p0, i)])))) (fun R' hR' => ?_) (fun σ15 H15 h15 => ?_)
        · refine ⟨_, rfl, q0, i, rfl, by rw [eq0]; exact intText_txI (Nat.lt_of_lt_of_le ib (Nat.pow_le_pow_right (by decide) (by decide))), ?_, _, rfl, _, rfl, c, _, rfl, dput_ct hc14 hy1000, ?_⟩
          · rw [eq0]
            exact Nat.le_trans (txI_len (by decide) ib) (by decide)
          · rw [hput]
            exact hR' _ _ ⟨rfl, rfl⟩
        obtain ⟨rfl, rfl⟩ := h15
        refine seq_step (fun σ' H' => σ' = [some (.str S), some (.ref l), some (.ref c), some (.str p0), some (.int ((a + k + 1 + m : Nat) : Int)), some (.int (0 + (j : Int) * 2)), some (.str p0), some (.int ((m : Nat) : Int)), some (.str q0)] ∧ H' = upd H14 c (.dK (cD (ys ++ [(p0, i)])))) (fun R' hR' => ⟨_, rfl, hR' _ _ ⟨rfl, rfl⟩⟩) (fun σ16 H16 h16 => ?_)
        obtain ⟨rfl, rfl⟩ := h16
        have erd1 : ∀ n, rdG (tl p0) (a + k + 1 + m + 1) ((PT.drop (2 * (j + 1))).map tl) = .inl n → rdG (tl last) a ((PT.drop (2 * j)).map tl) = .inl n := fun n e => by
          rw [ed0, ed1, List.map_cons, List.map_cons, rdG_two, if_neg hz, if_neg hn1, if_neg hn3, hk, hm, e]
        have erd2 : ∀ ps, rdG (tl p0) (a + k + 1 + m + 1) ((PT.drop (2 * (j + 1))).map tl) = .inr ps → rdG (tl last) a ((PT.drop (2 * j)).map tl) = .inr ((tl p0, tl q0) :: ps) := fun ps e => by
          rw [ed0, ed1, List.map_cons, List.map_cons, rdG_two, if_neg hz, if_neg hn1, if_neg hn3, hk, hm, e]
        refine ⟨_, rfl, _, _, rfl, rfl, ys ++ [(p0, i)], p0, a + k + 1 + m + 1, some (.int (0 + (j : Int) * 2)), some (.str p0), some (.int ((m : Nat) : Int)), some (.str q0), ?_, fun b o e => ?_, ?_, upd_same, ?_, ?_, fun y hy => ?_, fun _ => by omega, fun n e => ?_, fun ps e => ?_⟩
        · have e : ((a + k + 1 + m + 1 : Nat) : Int) = ((a + k + 1 + m : Nat) : Int) + 1 := by omega
          rw [e]
          rfl
        · rw [upd_ne (ne_of_none e hc1)]
          exact same14 _ _ (keep _ _ e)
        · rw [upd_ne hlc]
          exact hl14
        · rw [List.length_append, hyl]
          rfl
        · rw [partsOf_app]
          have e2 : partsOf [(p0, i)] = [p0, q0] := by rw [eq0]; rfl
          rw [e2, List.append_assoc]
          show PT = partsOf ys ++ (p0 :: q0 :: PT.drop (2 * (j + 1)))
          rw [← ed1, ← ed0]
          exact hpt
        · rcases List.mem_append.mp hy with h | h
          · exact ⟨(hys y h).1, List.le_of_lt (Std.lt_of_le_of_lt (hys y h).2 hlt)⟩
          · rw [List.mem_singleton.mp h]
            exact ⟨hw, List.le_refl _⟩
        · exact hin n (erd1 n e)
        · exact hok _ (erd2 ps e)
      · rintro σ' H5 ⟨ys, last, a, x5, x6, x7, x8, rfl, keep, hl5, hc5, hyl, hpt, hys, hza, hin, hok⟩
        have h1 := congrArg List.length hpt
        rw [List.length_append, List.length_drop, partsOf_lenN, hyl] at h1
        have h2 : PT.drop (2 * ((PT.length + 1) / 2)) = [] := List.drop_of_length_le (by omega)
        rw [h2] at hpt hok
        rw [List.append_nil] at hpt
        obtain ⟨qs, hqs⟩ := hok [] rfl
        exact hR _ _ ⟨_, _, _, _, _, _, ys, qs, rfl, keep, hc5, hpt, hqs⟩
    obtain ⟨x3, x4, x5, x6, x7, x8, xs, qs, rfl, keep, hc5, hpx, hqs⟩ := h5
    exact ⟨_, rfl, qr qs hqs _ c xs hpx (fun b o e => keep _ _ (same1 _ _ e)) (Same.none same1 hc1) hc5⟩
end
end Ld
namespace Ld
open PySem PySem.Spec PyProof.Rows L2
open TL
/-- how many signs of a text can stand at the beginning of a text of a load, and whether it is one -/
def walkT (t : Str) : Nat × Bool := if Txt.startswith t "-" = true then (1, decide (t = "-")) else wk [] [] 0 0 0 (tl t)
/-- a def that may raise -/
def HasX (P : Program) (w : World) (K : PySem.W.Frag) (mg : Str → Option Value) (base : Heap) (n : Nat) (x : Str) (ps : List Str) (sp : Sp) : Prop :=
  ∃ f fd, FnOk P w K mg base (L2.CX P w) n f fd ps sp ∧ L2.Binds K fd ps [] ∧ mg x = some (.ref f) ∧ PySem.W.keepIn K (.ref f) = true
def HasCX (P : Program) (w : World) (K : PySem.W.Frag) (mg : Str → Option Value) (base : Heap) (n : Nat) (C : Addr) (name : Str) (sp : Sp) : Prop :=
  ∃ mc p g, ClX.CRead K C mc ∧ ClX.CMet K C mc name p g ∧ FnR P w K mg base (L2.CX P w) n g sp
theorem fnR_ofX {P : Program} {w : World} {K : PySem.W.Frag} {mg : Str → Option Value} {base : Heap} {CX : CXT} {n : Nat} {f : Addr} {fd : FuncData} {ps : List Str} {sp : Sp} (F : FnOk P w K mg base CX n f fd ps sp) (b : L2.Binds K fd ps []) : FnR P w K mg base CX n f sp :=
  (F.raw b .nil).imp fun vs H Q E h => by rw [List.append_nil]; exact h
/-- Load.read of any value -/
def spReadX (K : PySem.W.Frag) (C CT : Addr) : Sp := fun vs H Q E => ∃ v, vs = [.ref C, v] ∧
  ((∃ t : Str, v = .str t ∧ t.length ≤ 3900 ∧
    ((walkT t).2 = true → ∀ (H' : Hp) (x : Addr) (ps : List (Str × Int)), Same H H' → H x = none → LoadAt C H' x ps → txt ps = t → (∀ q ∈ ps, q.2.natAbs < 10 ^ 80) → Q (.ref x) H') ∧
    ((walkT t).2 = false → ∀ (H' : Hp) (d : Addr), Same H H' → H' d = some (.xd [("index", .int ((walkT t).1 : Int))]) → E (.ref CT) (some d) H')) ∨
   (∃ ty, TyX K H v ty ∧ PySem.W.kitOne K ty (.type "str") = some false ∧ ∀ (H' : Hp) (d : Addr), Same H H' → H' d = some (.xd [("index", .int 0)]) → E (.ref CT) (some d) H'))
section
variable {P : Program} {w : World} {K : PySem.W.Frag} {mg : Str → Option Value} {base : Heap} {C fi CT fT : Addr}
theorem ok_readX {f : Addr} {fd : FuncData} (F : Fun K "read" "Load.read" sRd f fd) (T : LoadC K mg C fi) (B : Blt mg) (B2 : Blt2 mg) (mNo : ∃ t, mg "NOTHING" = some (.str "-" t)) (FI : FnK P w K mg base CX0 3 fi [] (spKw [] (spInitB C))) (HR : HasX P w K mg base 3 "read_counts" ["text"] (spRcX CT)) (HO : HasC P w K mg base 5 C "of" (spOf C))
    {xd : FuncData} (XT : XCls K mg "InvalidText" CT fT) (FT : FnOk P w K mg base CX0 1 fT xd ["self", "index"] (spXInit CT "index")) (bT : L2.Binds K xd ["self", "index"] []) :
    FnOk P w K mg base (L2.CX P w) 6 f fd ["cls", "text"] (spReadX K C CT) := by
  obtain ⟨tN, mNo⟩ := mNo
  obtain ⟨f1, d1, G1, b1, m1, k1⟩ := HR
  obtain ⟨mc, po, go, rO, cO, FO⟩ := HO
  refine F.okX scRd (fun vs H Q E h => ?_) (fun cdv A outer s H vs Q E hr h => ?_)
  · obtain ⟨v, rfl, _⟩ := h
    rfl
  · obtain ⟨v, rfl, h⟩ := h
    have nd := scRd.nd
    have hr2 : Room 2 _ := hr.mono (by decide : 2 ≤ 5)
    have hr3 : Room 3 _ := hr.mono (by decide : 3 ≤ 5)
    have hr4 : Room 4 _ := hr.mono (by decide : 4 ≤ 5)
    refine ⟨_, (pss_cons (ps_if (pt_not (pt_val (pe_callB (r := rIsi K) call_isi (by rfl) B2.isi bIsi (pa_cons (pv 1) (pa_cons (pe_bltn (v := .ty "str") (by rfl) B2.str bStr0 rfl) pa_nil))))) (pss_one (ps_raise rfl (takes_of rfl rfl rfl rfl) (pmk_oex XT.oex XT.iC XT.tI FT hr2 bT .nil pass0 (by rfl) XT.gC (pa_cons pe_int pa_nil)))) pss_nil)
      (pss_cons (ps_if (pt_cmpR op_eq (pv 1) (pe_glob (v := .str "-") (by rfl) mNo ⟨_, rfl⟩) (nomark _)) (pss_one (ps_ret (pe_makeE0 T.mkC FI hr4 (pv 0) pass0))) pss_nil)
      (pss_cons (ps_if (pt_val (pe_m1 PySem.F.slot_str_startswith PySem.F.type_str_startswith mt_startswith (pv 1) (pe_glob (v := .str "-") (by rfl) mNo ⟨_, rfl⟩))) (pss_one (ps_raise rfl (takes_of rfl rfl rfl rfl) (pmk_oex XT.oex XT.iC XT.tI FT hr2 bT .nil pass0 (by rfl) XT.gC (pa_cons (pe_callB call_len_str (by rfl) B.len PySem.boot_len (pa_cons (pe_glob (v := .str "-") (by rfl) mNo ⟨_, rfl⟩) pa_nil)) pa_nil)))) pss_nil)
      (pss_one (ps_ret (ClX.pe_cmeth (pv 0) rO cO FO hr pass0 (pa_cons (pe_call G1 hr3 (by rfl) m1 k1 b1 .nil (passes_call (takes_of rfl rfl rfl rfl) fun _ _ _ _ h => h) (pa_cons (pv 1) pa_nil)) pa_nil))))))), ?_⟩
    rcases h with ⟨t, rfl, hlen, hok, hno⟩ | ⟨ty, hty, hk, q⟩
    · refine seq_step (fun σ' H' => σ' = [some (.ref C), some (.str t)] ∧ H' = H) (fun R hR => ?_) (fun σ1 H1 h1 => ?_)
      · exact ⟨_, rfl, .str t, _, _, _, true, rfl, .ty _, .base (.str _), kit_ty (by decide +kernel), true, rfl, iteF (hR _ _ ⟨rfl, rfl⟩)⟩
      obtain ⟨rfl, rfl⟩ := h1
      by_cases hd : t = "-"
      · have hs : Txt.startswith t "-" = true := by rw [hd]; decide +kernel
        have hw : walkT t = (1, true) := by
          unfold walkT
          rw [if_pos hs, decide_eq_true hd]
        refine ⟨_, rfl, rfl, _, rfl, ?_⟩
        have e : decide (V.str t = V.str "-") = true := decide_eq_true (congrArg V.str hd)
        rw [e]
        refine iteT ⟨_, rfl, rfl, rfl, made_load (y := []) (zs := []) (ps := []) rfl rfl List.nodup_nil (by decide) (fun _ h => nomatch h) fun H' x ps' same hx hL hC => ?_⟩
        obtain ⟨_, _, _, _, cn⟩ := id hL
        have e0 : ps' = [] := can_eq cn ⟨List.nodup_nil, rfl, (fun _ h => nomatch h), (fun _ h => nomatch h), by decide⟩ hC
        rw [e0] at hL
        exact hok (by rw [hw]) H' x [] same hx hL hd.symm (fun _ h => nomatch h)
      refine seq_step (fun σ' H' => σ' = [some (.ref C), some (.str t)] ∧ H' = H1) (fun R hR => ?_) (fun σ2 H2 h2 => ?_)
      · refine ⟨_, rfl, rfl, _, rfl, ?_⟩
        have e : decide (V.str t = V.str "-") = false := decide_eq_false fun e => hd (V.str.inj e)
        rw [e]
        exact iteF (hR _ _ ⟨rfl, rfl⟩)
      obtain ⟨rfl, rfl⟩ := h2
      by_cases hs : Txt.startswith t "-" = true
      · have hw : walkT t = (1, false) := by
          unfold walkT
          rw [if_pos hs, decide_eq_false hd]
        refine ⟨_, rfl, ⟨_, rfl⟩, _, _, rfl, rfl, _, rfl, ?_⟩
        rw [hs]
        refine iteT ⟨_, rfl, by decide +kernel, ?_⟩
        dsimp only [tNil]
        refine mkO_ix (a0 := CT) fun H' d same hd => ?_
        have e1 : (("-" : Str)).length = 1 := by decide +kernel
        rw [e1] at hd
        refine hno (by rw [hw]) H' d same ?_
        rw [hw]
        exact hd
      have hsf : Txt.startswith t "-" = false := by simpa using hs
      have hw : walkT t = match rdT t with
          | .inl i => (i, false)
          | .inr _ => (t.length, true) := by
        unfold walkT
        rw [if_neg hs, walk_rdT]
        all_goals (cases rdT t <;> rfl)
      refine seq_step (fun σ' H' => σ' = [some (.ref C), some (.str t)] ∧ H' = H2) (fun R hR => ?_) (fun σ3 H3 h3 => ?_)
      · refine ⟨_, rfl, ⟨_, rfl⟩, _, _, rfl, rfl, _, rfl, ?_⟩
        rw [hsf]
        exact iteF (hR _ _ ⟨rfl, rfl⟩)
      obtain ⟨rfl, rfl⟩ := h3
      refine ⟨_, rfl, rfl, _, rfl, t, rfl, hlen, fun qs hqs H4 p xs hpx same4 hp4 e4 => ?_, fun i hi H4 d same4 e4 => ?_⟩
      · obtain ⟨ys, hy, hyne, htx, hcan, hbd⟩ := rdT_ok hqs hlen
        have exy : xs = ys := parts_inj (hpx.symm.trans hy)
        subst exy
        refine ⟨_, p, xs, rfl, ⟨e4, hcan.nd, hcan.few, hcan.wd⟩, fun H' x ps' same hx hL hC => ?_⟩
        obtain ⟨_, _, _, _, cn⟩ := id hL
        have e0 : ps' = xs := can_eq cn hcan hC
        rw [e0] at hL
        refine hok (by rw [hw, hqs]) H' x xs (Same.trans same4 same) (Same.none same4 hx) hL ?_ hbd
        rw [htx]
        cases xs with
        | nil => exact absurd rfl hyne
        | cons a r => rfl
      · refine hno (by rw [hw, hi]) H4 d same4 ?_
        rw [hw, hi]
        exact e4
    · refine ⟨_, rfl, v, _, _, _, false, rfl, .ty _, hty, hk, false, rfl, iteT ?_⟩
      dsimp only [tNil, tCons, tC]
      exact mkO_ix (a0 := CT) fun H' d same hd => q H' d same hd
end
end Ld
namespace Ld
open PySem PySem.Spec PyProof.Rows L2
open TL
/-! ### the law's own walk -/
abbrev sBey : Stmt := top 29
abbrev sWalk : Stmt := top 30
abbrev nBey : List Str := ["_law_begun", "_law_last"]
abbrev nWalk : List Str := ["_law_text", "_law_word", "_law_last", "_law_stage", "_law_figures", "_law_k", "_law_sign", "_law_is_first"]
abbrev BeyP (b l : List Nat) : Prop := b.length ≤ 8 ∧ l < (b ++ zz).take 8
def spBey : Sp := fun vs H Q _ => ∃ b l : Str, vs = [.str b, .str l] ∧ b.length ≤ 4000 ∧ Q (.bl (decide (BeyP (tl b) (tl l)))) H
def spWalk : Sp := fun vs H Q _ => ∃ t : Str, vs = [.str t] ∧ t.length ≤ 3900 ∧ ∀ (H' : Hp) (T : Addr), Same H H' → H T = none → H' T = some (.tup [.int ((walkT t).1 : Int), .bl (walkT t).2]) → Q (.ref T) H'
theorem tAnd_of {t u : TT} {σ : L2.St} {H : Hp} {Q : Bool → Hp → Prop} {b c : Bool} (h1 : ∀ Q : Bool → Hp → Prop, Q b H → t σ H Q) (h2 : b = true → ∀ Q : Bool → Hp → Prop, Q c H → u σ H Q) (q : Q (b && c) H) : tAnd t u σ H Q := by
  refine h1 _ ?_
  cases b with
  | true => exact iteT (h2 rfl _ q)
  | false => exact iteF q
theorem tAnd_ofS {t u : TT} {σ : L2.St} {H : Hp} {Q : Bool → Hp → Prop} {b c : Bool} (h1 : ∀ Q : Bool → Hp → Prop, (∀ H', Same H H' → Q b H') → t σ H Q) (h2 : ∀ H', Same H H' → b = true → ∀ Q : Bool → Hp → Prop, Q c H' → u σ H' Q) (q : ∀ H', Same H H' → Q (b && c) H') : tAnd t u σ H Q := by
  refine h1 _ fun H' s => ?_
  cases b with
  | true => exact iteT (h2 H' s rfl _ (q H' s))
  | false => exact iteF (q H' s)
theorem mulz_ok : MulOk ("z" : Str) 8 := ⟨by decide +kernel, fun _ _ => by decide +kernel, fun _ _ => by decide +kernel⟩
theorem mulz_tl : tl (Txt.mul "z" 8) = zz := by decide +kernel
theorem mulz_len : (Txt.mul "z" 8).length = 8 := by decide +kernel
theorem starts_cut (t : Str) : decide (V.str (cutS t none (some 1)) = V.str "-") = Txt.startswith t "-" := by
  have e1 : tl (cutS t none (some 1)) = (tl t).take 1 := by
    have := tl_cutTo t 1
    rwa [show ((1 : Nat) : Int) = 1 from rfl] at this
  have e2 : (V.str (cutS t none (some 1)) = V.str "-") ↔ (tl t).take 1 = [45] := by
    constructor
    · intro h
      rw [← e1, V.str.inj h, tl_dash]
    · intro h
      refine congrArg V.str (ext_tl ?_)
      rw [e1, h, tl_dash]
  cases e : tl t with
  | nil =>
    rw [starts_no e]
    refine decide_eq_false fun h => ?_
    have := e2.mp h
    rw [e] at this
    exact nomatch this
  | cons c r =>
    rw [starts_dash e]
    refine decide_eq_decide.mpr (e2.trans ?_)
    rw [e]
    show [c] = [45] ↔ c = 45
    exact ⟨fun h => (List.cons.inj h).1, fun h => by rw [h]⟩
theorem mem_abc {c : Nat} : c ∈ (("abcdefghijklmnopqrstuvwxyz" : Str)).cps.toList ↔ AzN c := by
  have e : (("abcdefghijklmnopqrstuvwxyz" : Str)).cps.toList = List.range' 97 26 := by decide +kernel
  rw [e, List.mem_range'_1]
  omega
theorem mem_dig {c : Nat} : c ∈ (("0123456789" : Str)).cps.toList ↔ DgN c := by
  have e : (("0123456789" : Str)).cps.toList = List.range' 48 10 := by decide +kernel
  rw [e, List.mem_range'_1]
  omega
theorem mem_fst {c : Nat} : c ∈ (("123456789" : Str)).cps.toList ↔ (DgN c ∧ c ≠ 48) := by
  have e : (("123456789" : Str)).cps.toList = List.range' 49 9 := by decide +kernel
  rw [e, List.mem_range'_1]
  omega
theorem one_eq {c d : Nat} {x : Str} (h : tl x = [d]) : (V.str (⟨#[c]⟩ : Str) = V.str x) ↔ c = d := by
  constructor
  · intro e
    have e3 : tl (⟨#[c]⟩ : Str) = tl x := by rw [V.str.inj e]
    rw [h] at e3
    have e5 : [c] = [d] := e3
    exact (List.cons.inj e5).1
  · intro e
    refine congrArg V.str (ext_tl ?_)
    rw [h, e]
section
variable {P : Program} {w : World} {K : PySem.W.Frag} {mg : Str → Option Value} {base : Heap}
theorem scBey : FnScope nBey ["_law_begun", "_law_last"] (defScope sBey) := ⟨rfl, rfl, rfl, by decide +kernel, rfl, by decide +kernel, by decide +kernel⟩
theorem scWalk : FnScope nWalk ["_law_text"] (defScope sWalk) := ⟨rfl, rfl, rfl, by decide +kernel, rfl, by decide +kernel, by decide +kernel⟩
theorem ok_bey {f : Addr} {fd : FuncData} (F : Fun K "_law_beyond" "_law_beyond" sBey f fd) (B : Blt mg) : FnOk P w K mg base CX0 1 f fd ["_law_begun", "_law_last"] spBey := by
  refine F.ok scBey (fun vs H Q E h => ?_) (fun cdv A outer s H vs Q E hr h => ?_)
  · obtain ⟨b, l, rfl, _⟩ := h
    rfl
  · obtain ⟨b, l, rfl, hb, q⟩ := h
    have nd := scBey.nd
    have hsz : sizeLine = 16777216 := sizeLine_eq
    have hbt := len_tl b
    refine ⟨_, (pss_one (ps_ret (pe_and (pe_cmpR op_le (pe_callB call_len_str (by rfl) B.len PySem.boot_len (pa_cons (pv 0) pa_nil)) pe_int (nomark _)) (pe_one (pe_cmpR op_gt_str (pe_slice sl_str (pe_op op_add_str (pv 0) (pe_op op_mul_str pe_str pe_int)) po_none (po_some pe_int)) (pv 1) (nomark _)))))), ?_⟩
    refine ⟨_, rfl, _, rfl, by omega, _, _, rfl, rfl, _, rfl, ifd (fun c1 => ?_) (fun c1 => ?_)⟩
    · refine ⟨_, rfl, _, _, rfl, rfl, mulz_ok, _, _, rfl, rfl, by rw [mulz_len]; omega, 8, rfl, _, rfl, by rw [len_app, mulz_len]; omega, _, rfl, _, _, rfl, rfl, ?_⟩
      have e : tl (cutS (b ++ Txt.mul "z" 8) none (some 8)) = (tl b ++ zz).take 8 := by
        have := tl_cutTo (b ++ Txt.mul "z" 8) 8
        rw [show ((8 : Nat) : Int) = 8 from rfl] at this
        rw [this, tl_append, mulz_tl]
      have e2 : decide (l.cps.toList < (cutS (b ++ Txt.mul "z" 8) none (some 8)).cps.toList) = decide (BeyP (tl b) (tl l)) := by
        refine decide_eq_decide.mpr ?_
        show tl l < tl (cutS (b ++ Txt.mul "z" 8) none (some 8)) ↔ _
        rw [e]
        exact ⟨fun h => ⟨by omega, h⟩, fun h => h.2⟩
      rw [e2]
      exact q
    · rw [decide_eq_false (fun h : BeyP (tl b) (tl l) => c1 (by have := h.1; omega))] at q
      exact q
theorem ok_walk {f : Addr} {fd : FuncData} (F : Fun K "_law_walk" "_law_walk" sWalk f fd) (B : Blt mg) (H1 : Has P w K mg base 1 "_law_beyond" ["_law_begun", "_law_last"] spBey) : FnOk P w K mg base CX0 2 f fd ["_law_text"] spWalk := by
  obtain ⟨f1, d1, G1, b1, m1, k1⟩ := H1
  refine F.ok scWalk (fun vs H Q E h => ?_) (fun cdv A outer s H vs Q E hr h => ?_)
  · obtain ⟨t, rfl, _⟩ := h
    rfl
  · obtain ⟨t, rfl, ht, q⟩ := h
    have nd := scWalk.nd
    have hsz : sizeLine = 16777216 := sizeLine_eq
    have htt := len_tl t
    refine ⟨_, (pss_cons (ps_if (pt_cmpR op_eq (pe_slice sl_str (pv 0) po_none (po_some pe_int)) pe_str (nomark _)) (pss_one (ps_ret (pe_tup (pa_cons pe_int (pa_cons (pe_cmpR op_eq (pv 0) pe_str (nomark _)) pa_nil))))) pss_nil)
      (pss_cons (ps_asg (pe_tup (pa_cons pe_str (pa_cons pe_str (pa_cons pe_int (pa_cons pe_int pa_nil))))) (pg_tup (by rfl) (pgs_cons (pg_name (i := 1) nd rfl (Or.inl rfl)) (pgs_cons (pg_name (i := 2) nd rfl (Or.inl rfl)) (pgs_cons (pg_name (i := 3) nd rfl (Or.inl rfl)) (pgs_cons (pg_name (i := 4) nd rfl (Or.inl rfl)) pgs_nil))))))
      (pss_cons (ps_for PassesOwn.never rfl (pi_range1 (by rfl) B.range (pa_cons (pe_callB call_len_str (by rfl) B.len PySem.boot_len (pa_cons (pv 0) pa_nil)) pa_nil)) (pg_name (i := 5) nd rfl (Or.inl rfl))
        (pss_cons (ps_set (i := 6) nd rfl (Or.inl rfl) (pe_ix ix_str (pv 0) (pv 5) (fun _ _ => rfl)))
        (pss_cons (ps_set (i := 7) nd rfl (Or.inl rfl) (pe_cmpR op_in_sign (pv 6) pe_str (by rfl)))
        (pss_one (ps_if (PW.pt (pw_and (pt_cmpR op_eq (pv 3) pe_int (nomark _)) (pw_and (pt_cmpR op_in_sign (pv 6) pe_str (by rfl)) (pw_and1 (pt_val (pe_call G1 hr (by rfl) m1 k1 b1 .nil pass0 (pa_cons (pe_op op_add_str (pv 1) (pv 6)) (pa_cons (pv 2) pa_nil)))))))) (pss_one (ps_set (i := 1) nd rfl (Or.inl rfl) (pe_op op_add_str (pv 1) (pv 6)))) (pss_one (ps_if (PW.pt (pw_and (pt_cmpR op_eq (pv 3) pe_int (nomark _)) (pw_and (pt_cmpR op_eq (pv 6) pe_str (nomark _)) (pw_and1 (pt_cmpR op_gt_str (pv 1) (pv 2) (nomark _)))))) (pss_one (ps_set (i := 3) nd rfl (Or.inl rfl) pe_int)) (pss_one (ps_if (PW.pt (pw_and (pt_cmpR op_eq (pv 3) pe_int (nomark _)) (pw_and1 (pt_cmpR op_eq (pv 6) pe_str (nomark _))))) (pss_one (ps_set (i := 3) nd rfl (Or.inl rfl) pe_int)) (pss_one (ps_if (PW.pt (pw_and (pt_cmpR op_in_seq (pv 3) (pe_tup (pa_cons pe_int (pa_cons pe_int pa_nil))) (by rfl)) (pw_and1 (pt_val (pv 7))))) (pss_one (ps_asg (pe_tup (pa_cons pe_int (pa_cons pe_int pa_nil))) (pg_tup (by rfl) (pgs_cons (pg_name (i := 3) nd rfl (Or.inl rfl)) (pgs_cons (pg_name (i := 4) nd rfl (Or.inl rfl)) pgs_nil))))) (pss_one (ps_if (PW.pt (pw_and (pt_cmpR op_eq (pv 3) pe_int (nomark _)) (pw_and (pt_cmpR op_in_sign (pv 6) pe_str (by rfl)) (pw_and1 (pt_cmpR op_lt (pv 4) pe_int (nomark _)))))) (pss_one (ps_set (i := 4) nd rfl (Or.inl rfl) (pe_op op_add (pv 4) pe_int))) (pss_one (ps_if (PW.pt (pw_and (pt_cmpR op_eq (pv 3) pe_int (nomark _)) (pw_and (pt_cmpR op_eq (pv 6) pe_str (nomark _)) (pw_and1 (pt_cmpR op_lt_str (pv 1) (pe_op op_mul_str pe_str pe_int) (nomark _)))))) (pss_one (ps_par3 (i := 1) (j := 2) (l := 3) rfl nd rfl rfl rfl (by decide) (by decide) (by decide) rfl rfl rfl (pa_cons pe_str (pa_cons (pv 1) (pa_cons pe_int pa_nil))) (by rfl))) (pss_one (ps_ret (pe_tup (pa_cons (pv 5) (pa_cons pe_bl pa_nil))))))))))))))))))))
      (pss_one (ps_ret (pe_tup (pa_cons (pe_callB call_len_str (by rfl) B.len PySem.boot_len (pa_cons (pv 0) pa_nil)) (pa_cons (pe_cmpR op_eq (pv 3) pe_int (nomark _)) pa_nil)))))))), ?_⟩
    by_cases hs : Txt.startswith t "-" = true
    · refine ⟨_, rfl, 1, rfl, _, rfl, by omega, rfl, _, rfl, ?_⟩
      rw [starts_cut, hs]
      refine iteT ⟨_, rfl, rfl, by show 2 ≤ sizeLine; decide, fun T hT => ?_⟩
      have hw : walkT t = (1, decide (t = "-")) := by
        unfold walkT
        rw [if_pos hs]
      refine q _ T (same_new hT) hT ?_
      rw [upd_same, hw]
      have e : decide (V.str t = V.str "-") = decide (t = "-") := decide_eq_decide.mpr ⟨fun h => V.str.inj h, fun h => by rw [h]⟩
      rw [e]
      rfl
    have hsf : Txt.startswith t "-" = false := by simpa using hs
    have hw : walkT t = wk [] [] 0 0 0 (tl t) := by
      unfold walkT
      rw [if_neg hs]
    refine seq_step (fun σ' H' => σ' = [some (.str t), none, none, none, none, none, none, none] ∧ H' = H) (fun R hR => ?_) (fun σ1 H1 h1 => ?_)
    · refine ⟨_, rfl, 1, rfl, _, rfl, by omega, rfl, _, rfl, ?_⟩
      rw [starts_cut, hsf]
      exact iteF (hR _ _ ⟨rfl, rfl⟩)
    obtain ⟨rfl, rfl⟩ := h1
    refine seq_step (fun σ' H' => σ' = [some (.str t), some (.str ""), some (.str ""), some (.int 0), some (.int 0), none, none, none] ∧ Same H1 H') (fun R hR => ?_) (fun σ2 H2 h2 => ?_)
    · refine ⟨by show 4 ≤ sizeLine; decide, fun T1 hT1 => ⟨T1, _, rfl, .inl (.inl upd_same), rfl, _, _, rfl, _, _, rfl, _, _, rfl, _, _, rfl, rfl, hR _ _ ⟨rfl, same_new hT1⟩⟩⟩
    obtain ⟨rfl, same2⟩ := h2
    refine seq_step (fun σ' H' => ∃ (wd l : Str) (st f : Nat) (x5 x6 x7 : Option V), σ' = [some (.str t), some (.str wd), some (.str l), some (.int (st : Int)), some (.int (f : Int)), x5, x6, x7] ∧ Same H1 H' ∧ walkT t = wk (tl wd) (tl l) st f t.length []) (fun R hR => ?_) (fun σ3 H3 h3 => ?_)
    · refine ⟨_, rfl, _, rfl, by omega, _, rfl, by omega, by omega, for_range (n := t.length) (fun j σ' H' => ∃ (wd l : Str) (st f : Nat) (x5 x6 x7 : Option V), σ' = [some (.str t), some (.str wd), some (.str l), some (.int (st : Int)), some (.int (f : Int)), x5, x6, x7] ∧ Same H1 H' ∧ wd.length ≤ j ∧ walkT t = wk (tl wd) (tl l) st f j ((tl t).drop j))
        ⟨"", "", 0, 0, _, _, _, rfl, same2, by decide +kernel, by rw [hw]; rfl⟩ ?_ (fun σ' H' h => ?_)⟩
      rotate_left
      · obtain ⟨wd, l, st, f, x5, x6, x7, rfl, s1, hwl, e⟩ := h
        rw [List.drop_of_length_le (by omega)] at e
        exact hR _ _ ⟨wd, l, st, f, x5, x6, x7, rfl, s1, e⟩
      rintro j σ' H3 hj ⟨wd, l, st, f, x5, x6, x7, rfl, s3, hwl, ew⟩
      obtain ⟨c, hc⟩ : ∃ c, (tl t)[j]? = some c := ⟨_, List.getElem?_eq_getElem (by omega)⟩
      obtain ⟨_, ed⟩ := take_next hc
      have ej : (0 + (j : Int)) = ((j : Nat) : Int) := by omega
      rw [ej]
      -- the sign
      refine seq_step (fun σ' H' => σ' = [some (.str t), some (.str wd), some (.str l), some (.int (st : Int)), some (.int (f : Int)), some (.int (j : Int)), some (.str ⟨#[c]⟩), x7] ∧ H' = H3) (fun R hR => ?_) (fun σ4 H4 h4 => ?_)
      · exact ⟨_, rfl, _, rfl, t, _, c, rfl, rfl, by omega, atI_nat hc, hR _ _ ⟨rfl, rfl⟩⟩
      obtain ⟨rfl, rfl⟩ := h4
      refine seq_step (fun σ' H' => σ' = [some (.str t), some (.str wd), some (.str l), some (.int (st : Int)), some (.int (f : Int)), some (.int (j : Int)), some (.str ⟨#[c]⟩), some (.bl (decide (DgN c ∧ c ≠ 48)))] ∧ H' = H4) (fun R hR => ?_) (fun σ5 H5 h5 => ?_)
      · refine ⟨_, rfl, c, _, rfl, rfl, hR _ _ ⟨?_, rfl⟩⟩
        have e : decide (c ∈ (("123456789" : Str)).cps.toList) = decide (DgN c ∧ c ≠ 48) := decide_eq_decide.mpr mem_fst
        rw [e]
        rfl
      obtain ⟨rfl, rfl⟩ := h5
      rw [ed, wk_cons] at ew
      have hst : ∀ (n : Nat) (m : Int), m = (n : Int) → decide (V.int (st : Int) = V.int m) = decide (st = n) := fun n m em => decide_eq_decide.mpr ⟨fun h => by have := V.int.inj h; omega, fun h => by rw [h, em]⟩
      have hwc : tl (wd ++ (⟨#[c]⟩ : Str)) = tl wd ++ [c] := tl_append _ _
      have hwcl : (wd ++ (⟨#[c]⟩ : Str)).length = wd.length + 1 := by rw [len_tl, hwc, List.length_append, ← len_tl]; rfl
      -- 1
      refine tAnd_of (b := decide (st = 0)) (c := decide (AzN c) && decide (BeyP (tl wd ++ [c]) (tl l))) (fun Q q => ⟨_, rfl, rfl, _, rfl, by rw [hst 0 0 rfl]; exact q⟩) (fun _ Q q => ?_) ?_
      · refine tAnd_of (b := decide (AzN c)) (c := decide (BeyP (tl wd ++ [c]) (tl l))) (fun Q q => ⟨_, rfl, c, _, rfl, rfl, _, rfl, ?_⟩) (fun _ Q q => ?_) q
        · rw [decide_eq_decide.mpr (mem_abc (c := c))]
          exact q
        · refine ⟨_, rfl, _, rfl, _, _, rfl, rfl, by show wd.length + 1 ≤ sizeLine; omega, _, rfl, _, l, rfl, by rw [hwcl]; omega, _, rfl, ?_⟩
          rw [hwc]
          exact q
      refine ifb (fun hb => ?_) (fun hb1 => ?_)
      · simp only [Bool.and_eq_true, decide_eq_true_eq] at hb
        rw [if_pos hb] at ew
        refine ⟨_, rfl, _, rfl, _, _, rfl, rfl, by show wd.length + 1 ≤ sizeLine; omega, wd ++ (⟨#[c]⟩ : Str), l, st, f, _, _, _, rfl, s3, by omega, ?_⟩
        rw [hwc]
        exact ew
      rw [if_neg (fun h => by
        have : (decide (st = 0) && (decide (AzN c) && decide (BeyP (tl wd ++ [c]) (tl l)))) = true := by
          simp only [Bool.and_eq_true, decide_eq_true_eq]
          exact h
        rw [hb1] at this
        cases this)] at ew
      -- 2
      refine tAnd_of (b := decide (st = 0)) (c := decide (c = 32) && decide (tl l < tl wd)) (fun Q q => ⟨_, rfl, rfl, _, rfl, by rw [hst 0 0 rfl]; exact q⟩) (fun _ Q q => ?_) ?_
      · refine tAnd_of (b := decide (c = 32)) (c := decide (tl l < tl wd)) (fun Q q => ⟨_, rfl, rfl, _, rfl, ?_⟩) (fun _ Q q => ⟨_, rfl, _, rfl, _, _, rfl, rfl, _, rfl, q⟩) q
        rw [decide_eq_decide.mpr (one_eq (c := c) (d := 32) tl_sp)]
        exact q
      refine ifb (fun hb => ?_) (fun hb2 => ?_)
      · simp only [Bool.and_eq_true, decide_eq_true_eq] at hb
        rw [if_pos hb] at ew
        exact ⟨wd, l, 1, f, _, _, _, rfl, s3, by omega, ew⟩
      rw [if_neg (fun h => by
        have : (decide (st = 0) && (decide (c = 32) && decide (tl l < tl wd))) = true := by
          simp only [Bool.and_eq_true, decide_eq_true_eq]
          exact h
        rw [hb2] at this
        cases this)] at ew
      -- 3
      refine tAnd_of (b := decide (st = 1)) (c := decide (c = 45)) (fun Q q => ⟨_, rfl, rfl, _, rfl, by rw [hst 1 1 rfl]; exact q⟩) (fun _ Q q => ⟨_, rfl, rfl, _, rfl, by rw [decide_eq_decide.mpr (one_eq (c := c) (d := 45) tl_dash)]; exact q⟩) ?_
      refine ifb (fun hb => ?_) (fun hb3 => ?_)
      · simp only [Bool.and_eq_true, decide_eq_true_eq] at hb
        rw [if_pos hb] at ew
        exact ⟨wd, l, 2, f, _, _, _, rfl, s3, by omega, ew⟩
      rw [if_neg (fun h => by
        have : (decide (st = 1) && decide (c = 45)) = true := by
          simp only [Bool.and_eq_true, decide_eq_true_eq]
          exact h
        rw [hb3] at this
        cases this)] at ew
      -- 4
      refine tAnd_ofS (b := decide (st = 1 ∨ st = 2)) (c := decide (DgN c ∧ c ≠ 48)) (fun Q q => ⟨_, rfl, by show 2 ≤ sizeLine; decide, fun T1 hT1 => ⟨T1, _, rfl, .inr (.inl (.inl upd_same)), rfl, rfl, _, rfl, ?_⟩⟩) (fun H' _ _ Q q => ⟨_, rfl, _, rfl, q⟩) (fun H6 s6 => ?_)
      · have einV : inV (.int (st : Int)) [.int 1, .int 2] = decide (st = 1 ∨ st = 2) := by
          show (((1 : Int) == (st : Int)) || (((2 : Int) == (st : Int)) || false)) = _
          rw [Bool.or_false, Bool.eq_iff_iff, Bool.or_eq_true, beq_iff_eq, beq_iff_eq, decide_eq_true_eq]
          omega
        show Q (if false = true then !inV (.int (st : Int)) [.int 1, .int 2] else inV (.int (st : Int)) [.int 1, .int 2]) _
        rw [if_neg Bool.false_ne_true, einV]
        exact q _ (same_new hT1)
      have s7 := Same.trans s3 s6
      refine ifb (fun hb => ?_) (fun hb4 => ?_)
      · simp only [Bool.and_eq_true, decide_eq_true_eq] at hb
        rw [if_pos hb] at ew
        exact ⟨by show 2 ≤ sizeLine; decide, fun T2 hT2 => ⟨T2, _, rfl, .inl (.inl upd_same), rfl, _, _, rfl, _, _, rfl, rfl, wd, l, 3, 1, _, _, _, rfl, Same.trans s7 (same_new hT2), by omega, ew⟩⟩
      rw [if_neg (fun h => by
        have : (decide (st = 1 ∨ st = 2) && decide (DgN c ∧ c ≠ 48)) = true := by
          simp only [Bool.and_eq_true, decide_eq_true_eq]
          exact h
        rw [hb4] at this
        cases this)] at ew
      -- 5
      refine tAnd_of (b := decide (st = 3)) (c := decide (DgN c) && decide (f < 80)) (fun Q q => ⟨_, rfl, rfl, _, rfl, by rw [hst 3 3 rfl]; exact q⟩) (fun _ Q q => ?_) ?_
      · refine tAnd_of (b := decide (DgN c)) (c := decide (f < 80)) (fun Q q => ⟨_, rfl, c, _, rfl, rfl, _, rfl, ?_⟩) (fun _ Q q => ⟨_, rfl, _, _, rfl, rfl, _, rfl, ?_⟩) q
        · rw [decide_eq_decide.mpr (mem_dig (c := c))]
          exact q
        · have e : decide ((f : Int) < 80) = decide (f < 80) := decide_eq_decide.mpr (by omega)
          rw [e]
          exact q
      refine ifb (fun hb => ?_) (fun hb5 => ?_)
      · simp only [Bool.and_eq_true, decide_eq_true_eq] at hb
        rw [if_pos hb] at ew
        exact ⟨_, rfl, _, _, rfl, rfl, wd, l, st, f + 1, _, _, _, rfl, s7, by omega, ew⟩
      rw [if_neg (fun h => by
        have : (decide (st = 3) && (decide (DgN c) && decide (f < 80))) = true := by
          simp only [Bool.and_eq_true, decide_eq_true_eq]
          exact h
        rw [hb5] at this
        cases this)] at ew
      -- 6
      refine tAnd_of (b := decide (st = 3)) (c := decide (c = 32) && decide (tl wd < zz)) (fun Q q => ⟨_, rfl, rfl, _, rfl, by rw [hst 3 3 rfl]; exact q⟩) (fun _ Q q => ?_) ?_
      · refine tAnd_of (b := decide (c = 32)) (c := decide (tl wd < zz)) (fun Q q => ⟨_, rfl, rfl, _, rfl, ?_⟩) (fun _ Q q => ⟨_, rfl, _, _, rfl, rfl, mulz_ok, _, _, rfl, rfl, _, rfl, ?_⟩) q
        · rw [decide_eq_decide.mpr (one_eq (c := c) (d := 32) tl_sp)]
          exact q
        · have e : decide (wd.cps.toList < (Txt.mul "z" 8).cps.toList) = decide (tl wd < zz) := by
            rw [← mulz_tl]
          rw [e]
          exact q
      refine ifb (fun hb => ?_) (fun hb6 => ?_)
      · simp only [Bool.and_eq_true, decide_eq_true_eq] at hb
        rw [if_pos hb] at ew
        refine ⟨_, rfl, _, _, _, rfl, "", wd, 0, f, _, _, _, rfl, s7, Nat.zero_le _, ?_⟩
        rw [ew]
        rfl
      rw [if_neg (fun h => by
        have : (decide (st = 3) && (decide (c = 32) && decide (tl wd < zz))) = true := by
          simp only [Bool.and_eq_true, decide_eq_true_eq]
          exact h
        rw [hb6] at this
        cases this)] at ew
      refine ⟨_, rfl, by show 2 ≤ sizeLine; decide, fun T2 hT2 => ?_⟩
      refine q _ T2 (Same.trans s7 (same_new hT2)) (Same.none s7 hT2) ?_
      rw [upd_same, ew]
    obtain ⟨wd, l, st, f, x5, x6, x7, rfl, s3, ew⟩ := h3
    rw [wk_nil] at ew
    refine ⟨_, rfl, _, rfl, by omega, _, rfl, rfl, by show 2 ≤ sizeLine; decide, fun T hT => ?_⟩
    refine q _ T (Same.trans s3 (same_new hT)) (Same.none s3 hT) ?_
    rw [upd_same, ew]
    have e : decide (V.int (st : Int) = V.int 3) = decide (st = 3) := decide_eq_decide.mpr ⟨fun h => by have := V.int.inj h; omega, fun h => by rw [h]; rfl⟩
    rw [e]
end
end Ld
namespace Ld
open PySem PySem.Spec PyProof.Rows L2
/-! ### values of any kind -/
abbrev sAny : Stmt := top 27
abbrev nAny : List Str := ["_law_pen_here", "_law_some", "_law_plain_ones"]
def OddA (C p : Addr) (H : Hp) (v : V) : Prop := v = .non ∨ (∃ b, v = .bl b) ∨ (∃ i, v = .int i) ∨ (∃ z, v = .str z) ∨
  ∃ a, v = .ref a ∧ a ≠ p ∧ ((∃ xs, H a = some (.tup xs)) ∨ (∃ xs, H a = some (.lst xs)) ∨ (∃ kvs, H a = some (.dK kvs)) ∨ ∃ dx fs, H a = some (.ins C dx fs))
theorem OddA.keep {C p : Addr} {H H' : Hp} {v : V} (h : OddA C p H v) (s : SameP p H H') : OddA C p H' v := by
  rcases h with h | h | h | h | ⟨a, rfl, ne, h⟩
  · exact .inl h
  · exact .inr (.inl h)
  · exact .inr (.inr (.inl h))
  · exact .inr (.inr (.inr (.inl h)))
  · refine .inr (.inr (.inr (.inr ⟨a, rfl, ne, ?_⟩)))
    rcases h with ⟨xs, h⟩ | ⟨xs, h⟩ | ⟨xs, h⟩ | ⟨dx, fs, h⟩
    · exact .inl ⟨xs, s _ _ h ne⟩
    · exact .inr (.inl ⟨xs, s _ _ h ne⟩)
    · exact .inr (.inr (.inl ⟨xs, s _ _ h ne⟩))
    · exact .inr (.inr (.inr ⟨dx, fs, s _ _ h ne⟩))
theorem OddA.ty {K : PySem.W.Frag} {C p : Addr} {H : Hp} {v : V} (T : Cls K C) (S : SlX.SIsi K C) (nS : PySem.W.subIn K (.ref C) (.type "str") = some false) (h : OddA C p H v) : (∃ z, v = .str z) ∨ ∃ t, TyX K H v t ∧ PySem.W.kitOne K t (.type "str") = some false := by
  rcases h with rfl | ⟨b, rfl⟩ | ⟨i, rfl⟩ | h | ⟨a, rfl, ne, h⟩
  · exact .inr ⟨_, .base .non, kit_ty (by decide +kernel)⟩
  · exact .inr ⟨_, .base (.bl b), kit_ty (by decide +kernel)⟩
  · exact .inr ⟨_, .base (.int i), kit_ty (by decide +kernel)⟩
  · exact .inl h
  · rcases h with ⟨xs, h⟩ | ⟨xs, h⟩ | ⟨xs, h⟩ | ⟨dx, fs, h⟩
    · exact .inr ⟨_, .base (.tup h), kit_ty (by decide +kernel)⟩
    · exact .inr ⟨_, .base (.lst h), kit_ty (by decide +kernel)⟩
    · exact .inr ⟨_, .base (.dK h), kit_ty (by decide +kernel)⟩
    · refine .inr ⟨.ref C, .base (.ins h T S.ca S.cn S.ct S.cm), ?_⟩
      unfold PySem.W.kitOne PySem.W.kitCls
      rw [if_neg (by intro q; exact nomatch (show Value.ref C = Value.type "str" from beq_iff_eq.mp q))]
      show (if PySem.W.kitMeta "str" = true then PySem.W.subIn K (.ref C) (.type "str") else none) = _
      rw [if_pos (by decide +kernel)]
      exact nS
theorem oddT {C p a : Addr} {H : Hp} {xs : List V} (h : H a = some (.tup xs)) (ne : a ≠ p) : OddA C p H (.ref a) := .inr (.inr (.inr (.inr ⟨a, rfl, ne, .inl ⟨xs, h⟩⟩)))
theorem oddL {C p a : Addr} {H : Hp} {xs : List V} (h : H a = some (.lst xs)) (ne : a ≠ p) : OddA C p H (.ref a) := .inr (.inr (.inr (.inr ⟨a, rfl, ne, .inr (.inl ⟨xs, h⟩)⟩)))
theorem oddD {C p a : Addr} {H : Hp} {xs : List (Key × V)} (h : H a = some (.dK xs)) (ne : a ≠ p) : OddA C p H (.ref a) := .inr (.inr (.inr (.inr ⟨a, rfl, ne, .inr (.inr (.inl ⟨xs, h⟩))⟩)))
theorem oddI {C p a dx : Addr} {H : Hp} {fs : List (Str × V)} (h : H a = some (.ins C dx fs)) (ne : a ≠ p) : OddA C p H (.ref a) := .inr (.inr (.inr (.inr ⟨a, rfl, ne, .inr (.inr (.inr ⟨dx, fs, h⟩))⟩)))
theorem oddN {C p : Addr} {H : Hp} : OddA C p H .non := .inl rfl
theorem oddB {C p : Addr} {H : Hp} {b : Bool} : OddA C p H (.bl b) := .inr (.inl ⟨b, rfl⟩)
theorem oddZ {C p : Addr} {H : Hp} {i : Int} : OddA C p H (.int i) := .inr (.inr (.inl ⟨i, rfl⟩))
theorem oddS {C p : Addr} {H : Hp} {z : Str} : OddA C p H (.str z) := .inr (.inr (.inr (.inl ⟨z, rfl⟩)))
def spAny (C : Addr) : Sp := fun vs H Q _ => ∃ (p c l : Addr) (ns : List Int) (u r : Int) (xs : List V), vs = [.ref p, .ref l] ∧ PenAt H p c ns u r ∧ u ≤ 900000 ∧ H l = some (.lst xs) ∧ xs.length ≤ 10 ∧ (∀ v ∈ xs, OddA C p H v) ∧
  ∀ (v : V) (u' r' : Int) (H' : Hp), OddA C p H' v → u' ≤ u + 1 → PenAt H' p c ns u' r' → SameP p H H' → Q v H'
theorem pow_ok40 : CPow 10 40 := by
  unfold CPow
  decide
section
variable {P : Program} {w : World} {K : PySem.W.Frag} {mg : Str → Option Value} {base : Heap}
theorem scAny : FnScope nAny ["_law_pen_here", "_law_some"] (defScope sAny) := ⟨rfl, rfl, rfl, by decide +kernel, rfl, by decide +kernel, by decide +kernel⟩
theorem ok_any {C : Addr} {f : Addr} {fd : FuncData} (F : Fun K "_law_any_value" "_law_any_value" sAny f fd) (H1 : Has P w K mg base 2 "_law_pick" ["_law_pen_here", "_law_options"] (spPick K)) : FnOk P w K mg base CX0 3 f fd ["_law_pen_here", "_law_some"] (spAny C) := by
  obtain ⟨f1, d1, G1, b1, m1, k1⟩ := H1
  refine F.ok scAny (fun vs H Q E h => ?_) (fun cdv A outer s H vs Q E hr h => ?_)
  · obtain ⟨p, c, l, ns, u, r, xs, rfl, _⟩ := h
    rfl
  · obtain ⟨p, c, l, ns, u, r, xs, rfl, PA, hu0, hl, hxs, hox, q⟩ := h
    have nd := scAny.nd
    have hu := hu_of hr
    have hsz : sizeLine = 16777216 := sizeLine_eq
    refine ⟨_, (pss_cons (ps_set (i := 2) nd rfl (Or.inl rfl) (pe_lst (pa_cons pe_non (pa_cons pe_bl (pa_cons pe_bl (pa_cons pe_int (pa_cons pe_int (pa_cons (pe_un un_neg pe_int) (pa_cons (pe_op op_pow pe_int pe_int) (pa_cons pe_str (pa_cons pe_str (pa_cons pe_str (pa_cons pe_str (pa_cons (pe_tup pa_nil) (pa_cons (pe_tup (pa_cons pe_int pa_nil)) (pa_cons (pe_lst pa_nil) (pa_cons (pe_lst (pa_cons pe_int pa_nil)) (pa_cons pe_dnewK (pa_cons (pe_disp (pps_cons pe_str pe_int pps_nil) rfl rfl (by simp) (by decide)) pa_nil)))))))))))))))))))
      (pss_cons (ps_set (i := 2) nd rfl (Or.inl rfl) (pe_op op_cat (pv 2) (pe_lst (pa_cons (pe_tup (pa_cons pe_str (pa_cons pe_int pa_nil))) (pa_cons (pe_disp (pps_cons pe_str pe_bl pps_nil) rfl rfl (by simp) (by decide)) (pa_cons (pe_disp (pps_cons pe_int pe_int pps_nil) rfl rfl (by simp) (by decide)) (pa_cons (pe_tup (pa_cons pe_non (pa_cons pe_non pa_nil))) (pa_cons (pe_tup (pa_cons pe_dnewK (pa_cons pe_int pa_nil))) (pa_cons (pe_tup (pa_cons pe_str (pa_cons pe_dnewK pa_nil))) (pa_cons (pe_lst (pa_cons (pe_tup (pa_cons pe_int (pa_cons pe_int pa_nil))) pa_nil)) (pa_cons pe_str (pa_cons pe_str pa_nil))))))))))))
      (pss_one (ps_ret (pe_call G1 hr (by rfl) m1 k1 b1 .nil pass0 (pa_cons (pv 0) (pa_cons (pe_op op_cat (pv 2) (pv 1)) pa_nil))))))), ?_⟩
    refine seq_step (fun σ' H' => ∃ (l1 : Addr) (vs : List V), σ' = [some (.ref p), some (.ref l), some (.ref l1)] ∧ Same H H' ∧ H' l1 = some (.lst vs) ∧ vs.length = 17 ∧ ∀ v ∈ vs, OddA C p H' v) (fun R hR => ?_) (fun σ1 H1 h1 => ?_)
    · refine ⟨_, rfl, _, _, rfl, rfl, pow_ok40, by show 0 ≤ sizeLine; decide, fun T1 hT1 => ⟨by show 1 ≤ sizeLine; decide, fun T2 hT2 => ⟨by show 0 ≤ sizeLine; decide, fun L1 hL1 => ⟨by show 1 ≤ sizeLine; decide, fun L2 hL2 => fun d1 hd1 => fun d2 hd2 => ⟨upd_same, [(Sum.inr "a", .int 1)], rfl, by show 1 ≤ 15; decide, by show 17 ≤ sizeLine; decide, fun l1 hl1 => ?_⟩⟩⟩⟩⟩
      rw [upd_upd] at hl1 ⊢
      have s1 := same_new (o := .tup []) hT1
      have s2 := same_new (o := .tup [.int 1]) hT2
      have s3 := same_new (o := .lst []) hL1
      have s4 := same_new (o := .lst [.int 1]) hL2
      have s5 := same_new (o := .dK []) hd1
      have s6 := same_new (o := .dK (mergeK [] [(Sum.inr ("a" : Str), V.int 1)])) hd2
      have s7 := same_new (o := .lst [.non, .bl true, .bl false, .int 0, .int 1, .int (-1), .int (10 ^ (40 : Int).toNat), .str "", .str "a", .str "box", .str "a b", .ref T1, .ref T2, .ref L1, .ref L2, .ref d1, .ref d2]) hl1
      have PA1 := PA.same s1
      have PA2 := PA1.same s2
      have PA3 := PA2.same s3
      have PA4 := PA3.same s4
      have PA5 := PA4.same s5
      refine hR _ _ ⟨l1, _, rfl, Same.trans s1 (Same.trans s2 (Same.trans s3 (Same.trans s4 (Same.trans s5 (Same.trans s6 s7))))), upd_same, rfl, fun v hv => ?_⟩
      simp only [List.mem_cons, List.not_mem_nil, or_false] at hv
      rcases hv with rfl | rfl | rfl | rfl | rfl | rfl | rfl | rfl | rfl | rfl | rfl | rfl | rfl | rfl | rfl | rfl | rfl
      · exact oddN
      · exact oddB
      · exact oddB
      · exact oddZ
      · exact oddZ
      · exact oddZ
      · exact oddZ
      · exact oddS
      · exact oddS
      · exact oddS
      · exact oddS
      · exact oddT (s7 _ _ (s6 _ _ (s5 _ _ (s4 _ _ (s3 _ _ (s2 _ _ upd_same)))))) (PA.nd hT1)
      · exact oddT (s7 _ _ (s6 _ _ (s5 _ _ (s4 _ _ (s3 _ _ upd_same))))) (PA1.nd hT2)
      · exact oddL (s7 _ _ (s6 _ _ (s5 _ _ (s4 _ _ upd_same)))) (PA2.nd hL1)
      · exact oddL (s7 _ _ (s6 _ _ (s5 _ _ upd_same))) (PA3.nd hL2)
      · exact oddD (s7 _ _ (s6 _ _ upd_same)) (PA4.nd hd1)
      · exact oddD (s7 _ _ upd_same) (PA5.nd hd2)
    obtain ⟨l1, vs, rfl, same1, hl1, hvs, hov⟩ := h1
    have PB := PA.same same1
    refine seq_step (fun σ' H' => ∃ (l2 : Addr) (vs : List V), σ' = [some (.ref p), some (.ref l), some (.ref l2)] ∧ Same H1 H' ∧ H' l2 = some (.lst vs) ∧ 1 ≤ vs.length ∧ vs.length ≤ 30 ∧ ∀ v ∈ vs, OddA C p H' v) (fun R hR => ?_) (fun σ2 H2 h2 => ?_)
    · refine ⟨_, rfl, by show 2 ≤ sizeLine; decide, fun T1 hT1 => fun d1 hd1 => ⟨upd_same, [(Sum.inr "a", .bl true)], rfl, by show 1 ≤ 15; decide, fun d2 hd2 => ⟨upd_same, [(Sum.inl 1, .int 1)], rfl, by show 1 ≤ 15; decide, by show 2 ≤ sizeLine; decide, fun T2 hT2 => fun d3 hd3 => ⟨by show 2 ≤ sizeLine; decide, fun T3 hT3 => fun d4 hd4 => ⟨by show 2 ≤ sizeLine; decide, fun T4 hT4 => ⟨by show 2 ≤ sizeLine; decide, fun T5 hT5 => ⟨by show 1 ≤ sizeLine; decide, fun L3 hL3 => ⟨by show 9 ≤ sizeLine; decide, fun l2 hl2 => ?_⟩⟩⟩⟩⟩⟩⟩⟩
      rw [upd_upd] at hd2
      rw [upd_upd, upd_upd] at hT2 hd3 hT3 hd4 hT4 hT5 hL3 hl2 ⊢
      have s1 := same_new (o := .tup [.str "a", .int 1]) hT1
      have s2 := same_new (o := .dK (mergeK [] [(Sum.inr ("a" : Str), V.bl true)])) hd1
      have s3 := same_new (o := .dK (mergeK [] [((Sum.inl 1 : Key), V.int 1)])) hd2
      have s4 := same_new (o := .tup [.non, .non]) hT2
      have s5 := same_new (o := .dK []) hd3
      have s6 := same_new (o := .tup [.ref d3, .int 2]) hT3
      have s7 := same_new (o := .dK []) hd4
      have s8 := same_new (o := .tup [.str "fair", .ref d4]) hT4
      have s9 := same_new (o := .tup [.int 0, .int 1]) hT5
      have s10 := same_new (o := .lst [.ref T5]) hL3
      have s11 := same_new (o := .lst [.ref T1, .ref d1, .ref d2, .ref T2, .ref T3, .ref T4, .ref L3, .str "-", .str "a 1"]) hl2
      have PB1 := PB.same s1
      have PB2 := PB1.same s2
      have PB3 := PB2.same s3
      have PB4 := PB3.same s4
      have PB5 := PB4.same s5
      have PB6 := PB5.same s6
      have PB7 := PB6.same s7
      have PB8 := PB7.same s8
      have PB9 := PB8.same s9
      have sA := Same.trans s1 (Same.trans s2 (Same.trans s3 (Same.trans s4 (Same.trans s5 (Same.trans s6 (Same.trans s7 (Same.trans s8 (Same.trans s9 (Same.trans s10 s11)))))))))
      refine ⟨l1, l2, vs, _, rfl, rfl, sA _ _ hl1, upd_same, by show vs.length + 9 ≤ sizeLine; omega, fun l3 hl3 => ?_⟩
      have s12 := same_new (o := .lst (vs ++ [.ref T1, .ref d1, .ref d2, .ref T2, .ref T3, .ref T4, .ref L3, .str "-", .str "a 1"])) hl3
      refine hR _ _ ⟨l3, _, rfl, Same.trans sA s12, upd_same, by rw [List.length_append]; omega, by rw [List.length_append, hvs]; show 17 + 9 ≤ 30; decide, fun v hv => ?_⟩
      rcases List.mem_append.mp hv with hv | hv
      · exact (hov v hv).keep (SameP.of (Same.trans sA s12))
      simp only [List.mem_cons, List.not_mem_nil, or_false] at hv
      rcases hv with rfl | rfl | rfl | rfl | rfl | rfl | rfl | rfl | rfl
      · exact oddT (s12 _ _ (s11 _ _ (s10 _ _ (s9 _ _ (s8 _ _ (s7 _ _ (s6 _ _ (s5 _ _ (s4 _ _ (s3 _ _ (s2 _ _ upd_same))))))))))) (PB.nd hT1)
      · exact oddD (s12 _ _ (s11 _ _ (s10 _ _ (s9 _ _ (s8 _ _ (s7 _ _ (s6 _ _ (s5 _ _ (s4 _ _ (s3 _ _ upd_same)))))))))) (PB1.nd hd1)
      · exact oddD (s12 _ _ (s11 _ _ (s10 _ _ (s9 _ _ (s8 _ _ (s7 _ _ (s6 _ _ (s5 _ _ (s4 _ _ upd_same))))))))) (PB2.nd hd2)
      · exact oddT (s12 _ _ (s11 _ _ (s10 _ _ (s9 _ _ (s8 _ _ (s7 _ _ (s6 _ _ (s5 _ _ upd_same)))))))) (PB3.nd hT2)
      · exact oddT (s12 _ _ (s11 _ _ (s10 _ _ (s9 _ _ (s8 _ _ (s7 _ _ upd_same)))))) (PB5.nd hT3)
      · exact oddT (s12 _ _ (s11 _ _ (s10 _ _ (s9 _ _ upd_same)))) (PB7.nd hT4)
      · exact oddL (s12 _ _ (s11 _ _ upd_same)) (PB9.nd hL3)
      · exact oddS
      · exact oddS
    obtain ⟨l2, ws, rfl, same2, hl2, hw1, hw2, how⟩ := h2
    have s0 := Same.trans same1 same2
    refine ⟨_, rfl, _, rfl, _, rfl, l2, l, ws, xs, rfl, rfl, hl2, s0 _ _ hl, by omega, fun l4 hl4 => ?_⟩
    have s4 := Same.trans s0 (same_new (o := .lst (ws ++ xs)) hl4)
    refine ⟨p, c, .ref l4, ns, u, r, rfl, PA.same s4, by omega, .inl ⟨l4, ws ++ xs, rfl, upd_same, by rw [List.length_append]; omega, by rw [List.length_append]; omega, fun v u' r' H' hv hu' PA' keep => q v u' r' H' ?_ hu' PA' fun b o e n => keep b o (s4 _ _ e) n⟩⟩
    rcases List.mem_append.mp hv with hv | hv
    · exact (how v hv).keep fun b o e n => keep b o (same_new hl4 _ _ e) n
    · exact (hox v hv).keep fun b o e n => keep b o (s4 _ _ e) n
end
end Ld
namespace Ld
open PySem PySem.Spec PyProof.Rows L2
open TL
/-! ### list(text) -/
theorem call_listStr {X : Cx} (hc : X.calm = true) : CallR X (.type "list") (fun xs H Q => ∃ x : Str, xs = [.str x] ∧ x.length ≤ sizeLine ∧ ∀ l, H l = none → Q (.ref l) (upd H l (.lst (x.cps.toList.map fun c => V.str ⟨#[c]⟩)))) := by
  intro pins s σ H xs us Q I r h
  obtain ⟨x, rfl, hz, q⟩ := h
  obtain ⟨u, rfl, t, rfl⟩ := vals1 r
  refine PySem.call_list_str (I.ok.hd hc) x t (hn := hz) fun h' tk acc' c' hkeep hS hacc => ?_
  have hx : x.cps.toList.length = x.length := Array.length_toList
  refine ⟨.ref s.heap.objs.size, upd H s.heap.objs.size (.lst (x.cps.toList.map fun c => V.str ⟨#[c]⟩)), I.laid hkeep (Nat.le_refl _) (show ObjOk X.prog X.w _ _ _ (.lst (x.cps.toList.map fun c => V.str ⟨#[c]⟩)) from ⟨?_, acc'.toList, c', ?_, ?_⟩), rfl, q _ (I.hok.fresh (Nat.le_refl _))⟩
  · rw [List.length_map, hx]
    exact hz
  · refine vals_of_at (by rw [List.length_map, Array.length_toList, Array.length_toList, hacc.1]) fun j y w h1 h2 => ?_
    obtain ⟨c, v, hc, rfl⟩ := hacc.2 j w (by rw [← Array.getElem?_toList]; exact h2)
    rw [List.getElem?_map, Array.getElem?_toList, hc] at h1
    cases h1
    exact ⟨v, rfl⟩
  · rw [Array.toArray_toList]
    exact hS
/-! ### a text, bent -/
abbrev sBent : Stmt := top 32
abbrev nBent : List Str := ["_law_pen_here", "_law_text", "_law_words_here", "_law_way", "_law_at", "_law_some", "_law_k", "_law_one", "_law_sign", "_law_tails"]
def spBent : Sp := fun vs H Q _ => ∃ (p c : Addr) (ns : List Int) (u r : Int) (t : Str) (M : Nat), vs = [.ref p, .str t] ∧ PenAt H p c ns u r ∧ u ≤ 900000 ∧ t.length ≤ M ∧ 100 ≤ M ∧ M ≤ 2000 ∧
  ∀ (z : Str) (u' r' : Int) (H' : Hp), z.length ≤ 2 * M + 2 → u' ≤ u + 6 → PenAt H' p c ns u' r' → SameP p H H' → Q (.str z) H'
theorem cutV_to (xs : List V) (k : Nat) : cutV xs none (some (k : Int)) = xs.take k := by
  unfold cutV
  rw [HT.sIx_none, HT.sIx_nat, List.drop_zero, Nat.sub_zero]
  exact take_min _ _
theorem cutV_from (xs : List V) (k : Nat) : cutV xs (some (k : Int)) none = xs.drop k := by
  unfold cutV
  rw [HT.sIx_none, HT.sIx_nat, drop_min, List.take_of_length_le]
  rw [List.length_drop]
  omega
theorem sum_take_drop (W : List Str) (k j : Nat) (h : k ≤ j) : ((W.take k).map (·.length)).sum + ((W.drop j).map (·.length)).sum ≤ (W.map (·.length)).sum ∧ (W.take k).length + (W.drop j).length ≤ W.length := by
  have e : W = W.take k ++ ((W.drop k).take (j - k) ++ W.drop j) := by
    conv => lhs; rw [← List.take_append_drop k W]
    congr 1
    conv => lhs; rw [← List.take_append_drop (j - k) (W.drop k)]
    rw [List.drop_drop]
    congr 2
    omega
  have h1 := congrArg (fun l : List Str => (l.map (·.length)).sum) e
  have h2 := congrArg List.length e
  simp only [List.map_append, List.sum_append, List.length_append] at h1 h2
  omega
theorem join_bound {L : List Str} {m : Nat} (h : (L.map (·.length)).sum + L.length ≤ m) : (Txt.join " " L).length ≤ m := by
  have e1 : ((" " : Str)).length = 1 := by decide +kernel
  rw [join_eq]
  have := StrLaws.join_length_le " " L
  rw [e1, Nat.mul_one] at this
  omega
theorem mul_len {x : Str} {n : Int} {m : Nat} (h : (Txt.mul x n).length = m) : (Txt.mul x n).length ≤ m := Nat.le_of_eq h
theorem mul981_ok : MulOk ("9" : Str) 81 := ⟨by decide +kernel, fun _ _ => by decide +kernel, fun _ _ => by decide +kernel⟩
theorem mul980_ok : MulOk ("9" : Str) 80 := ⟨by decide +kernel, fun _ _ => by decide +kernel, fun _ _ => by decide +kernel⟩
theorem mulz8_ok : MulOk ("z" : Str) 8 := ⟨by decide +kernel, fun _ _ => by decide +kernel, fun _ _ => by decide +kernel⟩
theorem mulz9_ok : MulOk ("z" : Str) 9 := ⟨by decide +kernel, fun _ _ => by decide +kernel, fun _ _ => by decide +kernel⟩
def someT : List Str := ["0", "-", "-0", "01", "1", "-1", Txt.mul "9" 80, Txt.mul "9" 81, ("-" : Str) ++ Txt.mul "9" 81, "", "a", "z", Txt.mul "z" 8, Txt.mul "z" 9, "A"]
theorem someT_len : ∀ z ∈ someT, z.length ≤ 82 := by
  have h : someT.all (fun z => decide (z.length ≤ 82)) = true := by decide +kernel
  exact fun z hz => of_decide_eq_true (List.all_eq_true.mp h z hz)
section
variable {P : Program} {w : World} {K : PySem.W.Frag} {mg : Str → Option Value} {base : Heap}
theorem scBent : FnScope nBent ["_law_pen_here", "_law_text"] (defScope sBent) := ⟨rfl, rfl, rfl, by decide +kernel, rfl, by decide +kernel, by decide +kernel⟩
theorem ok_bent {f : Addr} {fd : FuncData} (F : Fun K "_law_bent" "_law_bent" sBent f fd) (B : Blt mg) (H1 : Has P w K mg base 1 "_law_draw" ["_law_pen_here", "_law_many"] spDraw) (H2 : Has P w K mg base 2 "_law_pick" ["_law_pen_here", "_law_options"] (spPick K)) : FnOk P w K mg base CX0 3 f fd ["_law_pen_here", "_law_text"] spBent := by
  obtain ⟨f1, d1, G1, b1, m1, k1⟩ := H1
  obtain ⟨f2, d2, G2, b2, m2, k2⟩ := H2
  refine F.ok scBent (fun vs H Q E h => ?_) (fun cdv A outer s H vs Q E hr h => ?_)
  · obtain ⟨p, c, ns, u, r, t, M, rfl, _⟩ := h
    rfl
  · obtain ⟨p, c, ns, u, r, t, M, rfl, PA, hu0, htM, hM0, hM1, q⟩ := h
    have nd := scBent.nd
    have hu := hu_of hr
    have hr1 : Room 1 _ := hr.mono (by decide : 1 ≤ 2)
    have hsz : sizeLine = 16777216 := sizeLine_eq
    have hss := split_sum t
    have hsn := split_ne t
    have hse := split_each t
    refine ⟨_, (pss_cons (ps_par3 (i := 2) (j := 3) (l := 4) rfl nd rfl rfl rfl (by decide) (by decide) (by decide) rfl rfl rfl (pa_cons (pe_split (pv 1) pe_str) (pa_cons (pe_call G1 hr1 (by rfl) m1 k1 b1 .nil pass0 (pa_cons (pv 0) (pa_cons pe_int pa_nil))) (pa_cons (pe_call G1 hr1 (by rfl) m1 k1 b1 .nil pass0 (pa_cons (pv 0) (pa_cons (pe_op op_add (pe_callB call_len_str (by rfl) B.len PySem.boot_len (pa_cons (pv 1) pa_nil)) pe_int) pa_nil))) pa_nil))) (by rfl))
      (pss_cons (ps_set (i := 5) nd rfl (Or.inl rfl) (pe_lst (pa_cons pe_str (pa_cons pe_str (pa_cons pe_str (pa_cons pe_str (pa_cons pe_str (pa_cons pe_str (pa_cons (pe_op op_mul_str pe_str pe_int) (pa_cons (pe_op op_mul_str pe_str pe_int) (pa_cons (pe_op op_add_str pe_str (pe_op op_mul_str pe_str pe_int)) (pa_cons pe_str (pa_cons pe_str (pa_cons pe_str (pa_cons (pe_op op_mul_str pe_str pe_int) (pa_cons (pe_op op_mul_str pe_str pe_int) (pa_cons pe_str pa_nil)))))))))))))))))
      (pss_cons (ps_par (i := 6) (j := 7) rfl nd rfl rfl (by decide) rfl rfl (pa_cons (pe_call G1 hr1 (by rfl) m1 k1 b1 .nil pass0 (pa_cons (pv 0) (pa_cons (pe_callB call_len_seq (by rfl) B.len PySem.boot_len (pa_cons (pv 2) pa_nil)) pa_nil))) (pa_cons (pe_call G2 hr (by rfl) m2 k2 b2 .nil pass0 (pa_cons (pv 0) (pa_cons (pe_op op_cat (pv 5) (pv 2)) pa_nil))) pa_nil)) (by rfl))
      (pss_cons (ps_if (pt_cmpR op_eq (pv 3) pe_int (nomark _)) (pss_one (ps_ret (pe_join pe_str (pe_op op_cat (pe_op op_cat (pe_slice sl_list (pv 2) po_none (po_some (pv 6))) (pe_lst (pa_cons (pv 7) pa_nil))) (pe_slice sl_list (pv 2) (po_some (pe_op op_add (pv 6) pe_int)) po_none))))) pss_nil)
      (pss_cons (ps_if (pt_cmpR op_eq (pv 3) pe_int (nomark _)) (pss_one (ps_ret (pe_join pe_str (pe_op op_cat (pe_op op_cat (pe_slice sl_list (pv 2) po_none (po_some (pv 6))) (pe_lst (pa_cons (pv 7) pa_nil))) (pe_slice sl_list (pv 2) (po_some (pv 6)) po_none))))) pss_nil)
      (pss_cons (ps_if (pt_cmpR op_eq (pv 3) pe_int (nomark _)) (pss_one (ps_ret (pe_join pe_str (pe_op op_cat (pe_slice sl_list (pv 2) po_none (po_some (pv 6))) (pe_slice sl_list (pv 2) (po_some (pe_op op_add (pv 6) pe_int)) po_none))))) pss_nil)
      (pss_cons (ps_set (i := 8) nd rfl (Or.inl rfl) (pe_call G2 hr (by rfl) m2 k2 b2 .nil pass0 (pa_cons (pv 0) (pa_cons (pe_op op_cat (pe_callTy (call_listStr rfl) (by rfl) B.list bList (pa_cons pe_str pa_nil)) (pe_lst (pa_cons pe_str pa_nil))) pa_nil))))
      (pss_cons (ps_if (pt_cmpR op_eq (pv 3) pe_int (nomark _)) (pss_one (ps_ret (pe_op op_add_str (pe_op op_add_str (pe_slice sl_str (pv 1) po_none (po_some (pv 4))) (pv 8)) (pe_slice sl_str (pv 1) (po_some (pe_op op_add (pv 4) (pe_call G1 hr1 (by rfl) m1 k1 b1 .nil pass0 (pa_cons (pv 0) (pa_cons pe_int pa_nil))))) po_none)))) pss_nil)
      (pss_cons (ps_set (i := 9) nd rfl (Or.inl rfl) (pe_lst (pa_cons pe_str (pa_cons pe_str (pa_cons pe_str (pa_cons pe_str (pa_cons pe_str (pa_cons pe_str (pa_cons pe_str pa_nil)))))))))
      (pss_one (ps_ret (pe_ifExp (pt_cmpR op_eq (pv 3) pe_int (nomark _)) (pe_slice sl_str (pv 1) po_none (po_some (pv 4))) (pe_op op_add_str (pv 1) (pe_call G2 hr (by rfl) m2 k2 b2 .nil pass0 (pa_cons (pv 0) (pa_cons (pv 9) pa_nil)))))))))))))))), ?_⟩
    -- words, way, at
    refine seq_step (fun σ' H' => ∃ (l : Addr) (d a : Nat) (u' r' : Int), σ' = [some (.ref p), some (.str t), some (.ref l), some (.int (d : Int)), some (.int (a : Int)), none, none, none, none, none] ∧ SameP p H H' ∧ H' l = some (.lst ((Txt.split t " ").map V.str)) ∧ u' ≤ u + 2 ∧ PenAt H' p c ns u' r') (fun R hR => ?_) (fun σ1 H1 h1 => ?_)
    · refine ⟨_, rfl, ⟨_, rfl⟩, t, " ", rfl, rfl, by decide +kernel, by omega, fun l hl => ?_⟩
      have s1 := same_new (o := .lst ((Txt.split t " ").map V.str)) hl
      refine ⟨_, rfl, p, c, ns, u, r, 6, rfl, PA.same s1, by omega, by decide, by decide, fun d u1 r1 H1 d0 d1 hu1 PA1 keep1 => ?_⟩
      have hl1 := keep1 _ _ upd_same (PA.nd hl)
      refine ⟨_, rfl, _, rfl, _, rfl, by omega, _, _, rfl, rfl, p, c, ns, u1, r1, (t.length : Int) + 1, rfl, PA1, by omega, by omega, by omega, fun a u2 r2 H2 a0 a1 hu2 PA2 keep2 => ?_⟩
      refine ⟨_, _, _, rfl, hR _ _ ⟨l, d.toNat, a.toNat, u2, r2, ?_, SameP.trans (SameP.of s1) (SameP.trans keep1 keep2), keep2 _ _ hl1 (PA.nd hl), by omega, PA2⟩⟩
      rw [Int.toNat_of_nonneg d0, Int.toNat_of_nonneg a0]
      rfl
    obtain ⟨l, d, a, u1, r1, rfl, same1, hl1, hu1, PA1⟩ := h1
    -- some
    refine seq_step (fun σ' H' => ∃ (l2 : Addr), σ' = [some (.ref p), some (.str t), some (.ref l), some (.int (d : Int)), some (.int (a : Int)), some (.ref l2), none, none, none, none] ∧ Same H1 H' ∧ H' l2 = some (.lst (someT.map V.str))) (fun R hR => ?_) (fun σ2 H2 h2 => ?_)
    · exact ⟨_, _, rfl, rfl, mul980_ok, _, _, rfl, rfl, mul981_ok, _, _, rfl, rfl, mul981_ok, _, _, rfl, rfl, by decide +kernel, _, _, rfl, rfl, mulz8_ok, _, _, rfl, rfl, mulz9_ok, by show 15 ≤ sizeLine; decide, fun l2 hl2 => hR _ _ ⟨l2, rfl, same_new hl2, upd_same⟩⟩
    obtain ⟨l2, rfl, same2, hl2⟩ := h2
    have hl1' := same2 _ _ hl1
    have PA2 := PA1.same same2
    generalize hW : Txt.split t " " = W at *
    have hW1 : 1 ≤ W.length := List.length_pos_iff.mpr hsn
    -- k, one
    refine seq_step (fun σ' H' => ∃ (k : Nat) (z : Str) (u' r' : Int), σ' = [some (.ref p), some (.str t), some (.ref l), some (.int (d : Int)), some (.int (a : Int)), some (.ref l2), some (.int (k : Int)), some (.str z), none, none] ∧ SameP p H2 H' ∧ z.length ≤ M ∧ u' ≤ u + 4 ∧ PenAt H' p c ns u' r') (fun R hR => ?_) (fun σ3 H3 h3 => ?_)
    · refine ⟨_, rfl, _, rfl, l, _, rfl, .inl (.inl (.inl hl1')), p, c, ns, u1, r1, (W.length : Int), by rw [List.length_map]; rfl, PA2, by omega, by omega, by omega, fun k u3 r3 H3 k0 k1 hu3 PA3 keep3 => ?_⟩
      have nl1 := PA2.nl hl1'
      have nl2 := PA2.nl hl2
      refine ⟨_, rfl, _, rfl, _, rfl, l2, l, someT.map V.str, W.map V.str, rfl, rfl, keep3 _ _ hl2 nl2, keep3 _ _ hl1' nl1, by rw [List.length_map, List.length_map]; show 15 + W.length ≤ sizeLine; omega, fun l4 hl4 => ?_⟩
      have s4 := same_new (o := .lst (someT.map V.str ++ W.map V.str)) hl4
      refine ⟨p, c, .ref l4, ns, u3, r3, rfl, PA3.same s4, by omega, .inl ⟨l4, _, rfl, upd_same, by rw [List.length_append, List.length_map]; show 0 < 15 + _; omega, ?_, fun v u5 r5 H5 hv hu5 PA5 keep5 => ?_⟩⟩
      · rw [List.length_append, List.length_map, List.length_map]
        show 15 + W.length ≤ 100000
        omega
      · obtain ⟨z, rfl, hz⟩ : ∃ z : Str, v = .str z ∧ z.length ≤ M := by
          rcases List.mem_append.mp hv with hv | hv
          · obtain ⟨z, hz, rfl⟩ := List.mem_map.mp hv
            exact ⟨z, rfl, by have := someT_len z hz; omega⟩
          · obtain ⟨z, hz, rfl⟩ := List.mem_map.mp hv
            exact ⟨z, rfl, by have := hse z hz; omega⟩
        refine ⟨_, _, rfl, hR _ _ ⟨k.toNat, z, u5, r5, ?_, SameP.trans keep3 (SameP.trans (SameP.of s4) keep5), hz, by omega, PA5⟩⟩
        rw [Int.toNat_of_nonneg k0]
        rfl
    obtain ⟨k, z, u3, r3, rfl, same3, hzM, hu3, PA3⟩ := h3
    have hl3 := same3 _ _ hl1' (PA2.nl hl1')
    have sP : SameP p H H3 := SameP.trans same1 (SameP.trans (SameP.of same2) same3)
    have fin : ∀ (y : Str) (u' r' : Int) (H' : Hp), y.length ≤ 2 * M + 2 → u' ≤ u + 6 → PenAt H' p c ns u' r' → SameP p H3 H' → Q (.str y) H' := fun y u' r' H' h1 h2 h3 h4 => q y u' r' H' h1 h2 h3 (SameP.trans sP h4)
    have ek : ((k : Int) + 1) = ((k + 1 : Nat) : Int) := by omega
    -- exchanged
    refine seq_step (fun σ' H' => σ' = [some (.ref p), some (.str t), some (.ref l), some (.int (d : Int)), some (.int (a : Int)), some (.ref l2), some (.int (k : Int)), some (.str z), none, none] ∧ H' = H3) (fun R hR => ?_) (fun σ4 H4 h4 => ?_)
    · refine ⟨_, rfl, rfl, _, rfl, ifd (fun c1 => ?_) (fun c1 => hR _ _ ⟨rfl, rfl⟩)⟩
      refine ⟨⟨_, rfl⟩, _, rfl, _, rfl, _, rfl, l, _, rfl, .inl (.inl hl3), fun c1 hc1 => ?_⟩
      have t1 := same_new (o := .lst (cutV (W.map V.str) none (some (k : Int)))) hc1
      refine ⟨_, rfl, by show 1 ≤ sizeLine; decide, fun c2 hc2 => ?_⟩
      have t2 := same_new (o := .lst [V.str z]) hc2
      refine ⟨c1, c2, _, _, rfl, rfl, t2 _ _ upd_same, upd_same, ?_, fun c3 hc3 => ?_⟩
      · have := cutV_length (W.map V.str) none (some (k : Int))
        rw [List.length_map] at this
        show (cutV (W.map V.str) none (some (k : Int))).length + 1 ≤ sizeLine
        omega
      have t3 := same_new (o := .lst (cutV (W.map V.str) none (some (k : Int)) ++ [V.str z])) hc3
      refine ⟨_, rfl, _, rfl, _, _, rfl, rfl, _, rfl, l, _, rfl, .inl (.inl (t3 _ _ (t2 _ _ (t1 _ _ hl3)))), fun c4 hc4 => ?_⟩
      have t4 := same_new (o := .lst (cutV (W.map V.str) (some ((k : Int) + 1)) none)) hc4
      refine ⟨c3, c4, _, _, rfl, rfl, t4 _ _ upd_same, upd_same, ?_, fun c5 hc5 => ?_⟩
      · have h1 := cutV_length (W.map V.str) none (some (k : Int))
        have h2 := cutV_length (W.map V.str) (some ((k : Int) + 1)) none
        rw [List.length_map] at h1 h2
        rw [List.length_append]
        show (cutV (W.map V.str) none (some (k : Int))).length + 1 + _ ≤ sizeLine
        omega
      have t5 := same_new (o := .lst (cutV (W.map V.str) none (some (k : Int)) ++ [V.str z] ++ cutV (W.map V.str) (some ((k : Int) + 1)) none)) hc5
      have eL : cutV (W.map V.str) none (some (k : Int)) ++ [V.str z] ++ cutV (W.map V.str) (some ((k : Int) + 1)) none = (W.take k ++ [z] ++ W.drop (k + 1)).map V.str := by
        rw [ek, cutV_to, cutV_from, List.map_append, List.map_append, List.map_take, List.map_drop]
        rfl
      obtain ⟨b1, b2⟩ := sum_take_drop W k (k + 1) (by omega)
      have hS : ((W.take k ++ [z] ++ W.drop (k + 1)).map (·.length)).sum + (W.take k ++ [z] ++ W.drop (k + 1)).length ≤ 2 * M + 2 := by
        simp only [List.map_append, List.sum_append, List.length_append, List.map_cons, List.map_nil, List.sum_cons, List.sum_nil, List.length_cons, List.length_nil]
        omega
      refine ⟨_, c5, W.take k ++ [z] ++ W.drop (k + 1), rfl, rfl, .inl (.inl (.inl (by rw [upd_same, eL]))), ?_, ?_⟩
      · have e1 : ((" " : Str)).length = 1 := by decide +kernel
        rw [e1, Nat.mul_one]
        omega
      · exact fin _ u3 r3 _ (join_bound hS) (by omega) (((((PA3.same t1).same t2).same t3).same t4).same t5) (SameP.of (Same.trans t1 (Same.trans t2 (Same.trans t3 (Same.trans t4 t5)))))
    obtain ⟨rfl, rfl⟩ := h4
    -- put in
    refine seq_step (fun σ' H' => σ' = [some (.ref p), some (.str t), some (.ref l), some (.int (d : Int)), some (.int (a : Int)), some (.ref l2), some (.int (k : Int)), some (.str z), none, none] ∧ H' = H4) (fun R hR => ?_) (fun σ5 H5 h5 => ?_)
    · refine ⟨_, rfl, rfl, _, rfl, ifd (fun c1 => ?_) (fun c1 => hR _ _ ⟨rfl, rfl⟩)⟩
      refine ⟨⟨_, rfl⟩, _, rfl, _, rfl, _, rfl, l, _, rfl, .inl (.inl hl3), fun c1 hc1 => ?_⟩
      have t1 := same_new (o := .lst (cutV (W.map V.str) none (some (k : Int)))) hc1
      refine ⟨_, rfl, by show 1 ≤ sizeLine; decide, fun c2 hc2 => ?_⟩
      have t2 := same_new (o := .lst [V.str z]) hc2
      refine ⟨c1, c2, _, _, rfl, rfl, t2 _ _ upd_same, upd_same, ?_, fun c3 hc3 => ?_⟩
      · have := cutV_length (W.map V.str) none (some (k : Int))
        rw [List.length_map] at this
        show (cutV (W.map V.str) none (some (k : Int))).length + 1 ≤ sizeLine
        omega
      have t3 := same_new (o := .lst (cutV (W.map V.str) none (some (k : Int)) ++ [V.str z])) hc3
      refine ⟨_, rfl, _, rfl, _, rfl, l, _, rfl, .inl (.inl (t3 _ _ (t2 _ _ (t1 _ _ hl3)))), fun c4 hc4 => ?_⟩
      have t4 := same_new (o := .lst (cutV (W.map V.str) (some (k : Int)) none)) hc4
      refine ⟨c3, c4, _, _, rfl, rfl, t4 _ _ upd_same, upd_same, ?_, fun c5 hc5 => ?_⟩
      · have h1 := cutV_length (W.map V.str) none (some (k : Int))
        have h2 := cutV_length (W.map V.str) (some (k : Int)) none
        rw [List.length_map] at h1 h2
        rw [List.length_append]
        show (cutV (W.map V.str) none (some (k : Int))).length + 1 + _ ≤ sizeLine
        omega
      have t5 := same_new (o := .lst (cutV (W.map V.str) none (some (k : Int)) ++ [V.str z] ++ cutV (W.map V.str) (some (k : Int)) none)) hc5
      have eL : cutV (W.map V.str) none (some (k : Int)) ++ [V.str z] ++ cutV (W.map V.str) (some (k : Int)) none = (W.take k ++ [z] ++ W.drop k).map V.str := by
        rw [cutV_to, cutV_from, List.map_append, List.map_append, List.map_take, List.map_drop]
        rfl
      obtain ⟨b1, b2⟩ := sum_take_drop W k k (Nat.le_refl _)
      have hS : ((W.take k ++ [z] ++ W.drop k).map (·.length)).sum + (W.take k ++ [z] ++ W.drop k).length ≤ 2 * M + 2 := by
        simp only [List.map_append, List.sum_append, List.length_append, List.map_cons, List.map_nil, List.sum_cons, List.sum_nil, List.length_cons, List.length_nil]
        omega
      refine ⟨_, c5, W.take k ++ [z] ++ W.drop k, rfl, rfl, .inl (.inl (.inl (by rw [upd_same, eL]))), ?_, ?_⟩
      · have e1 : ((" " : Str)).length = 1 := by decide +kernel
        rw [e1, Nat.mul_one]
        omega
      · exact fin _ u3 r3 _ (join_bound hS) (by omega) (((((PA3.same t1).same t2).same t3).same t4).same t5) (SameP.of (Same.trans t1 (Same.trans t2 (Same.trans t3 (Same.trans t4 t5)))))
    obtain ⟨rfl, rfl⟩ := h5
    -- left out
    refine seq_step (fun σ' H' => σ' = [some (.ref p), some (.str t), some (.ref l), some (.int (d : Int)), some (.int (a : Int)), some (.ref l2), some (.int (k : Int)), some (.str z), none, none] ∧ H' = H5) (fun R hR => ?_) (fun σ6 H6 h6 => ?_)
    · refine ⟨_, rfl, rfl, _, rfl, ifd (fun c1 => ?_) (fun c1 => hR _ _ ⟨rfl, rfl⟩)⟩
      refine ⟨⟨_, rfl⟩, _, rfl, _, rfl, _, rfl, l, _, rfl, .inl (.inl hl3), fun c1 hc1 => ?_⟩
      have t1 := same_new (o := .lst (cutV (W.map V.str) none (some (k : Int)))) hc1
      refine ⟨_, rfl, _, rfl, _, _, rfl, rfl, _, rfl, l, _, rfl, .inl (.inl (t1 _ _ hl3)), fun c4 hc4 => ?_⟩
      have t4 := same_new (o := .lst (cutV (W.map V.str) (some ((k : Int) + 1)) none)) hc4
      refine ⟨c1, c4, _, _, rfl, rfl, t4 _ _ upd_same, upd_same, ?_, fun c5 hc5 => ?_⟩
      · have h1 := cutV_length (W.map V.str) none (some (k : Int))
        have h2 := cutV_length (W.map V.str) (some ((k : Int) + 1)) none
        rw [List.length_map] at h1 h2
        omega
      have t5 := same_new (o := .lst (cutV (W.map V.str) none (some (k : Int)) ++ cutV (W.map V.str) (some ((k : Int) + 1)) none)) hc5
      have eL : cutV (W.map V.str) none (some (k : Int)) ++ cutV (W.map V.str) (some ((k : Int) + 1)) none = (W.take k ++ W.drop (k + 1)).map V.str := by
        rw [ek, cutV_to, cutV_from, List.map_append, List.map_take, List.map_drop]
      obtain ⟨b1, b2⟩ := sum_take_drop W k (k + 1) (by omega)
      have hS : ((W.take k ++ W.drop (k + 1)).map (·.length)).sum + (W.take k ++ W.drop (k + 1)).length ≤ 2 * M + 2 := by
        simp only [List.map_append, List.sum_append, List.length_append]
        omega
      refine ⟨_, c5, W.take k ++ W.drop (k + 1), rfl, rfl, .inl (.inl (.inl (by rw [upd_same, eL]))), ?_, ?_⟩
      · have e1 : ((" " : Str)).length = 1 := by decide +kernel
        rw [e1, Nat.mul_one]
        omega
      · exact fin _ u3 r3 _ (join_bound hS) (by omega) (((PA3.same t1).same t4).same t5) (SameP.of (Same.trans t1 (Same.trans t4 t5)))
    obtain ⟨rfl, rfl⟩ := h6
    -- a sign
    refine seq_step (fun σ' H' => ∃ (y : Str) (u' r' : Int), σ' = [some (.ref p), some (.str t), some (.ref l), some (.int (d : Int)), some (.int (a : Int)), some (.ref l2), some (.int (k : Int)), some (.str z), some (.str y), none] ∧ SameP p H6 H' ∧ y.length ≤ 1 ∧ u' ≤ u + 5 ∧ PenAt H' p c ns u' r') (fun R hR => ?_) (fun σ7 H7 h7 => ?_)
    · refine ⟨_, rfl, _, rfl, by decide +kernel, fun c1 hc1 => ?_⟩
      have t1 := same_new (o := .lst ((((" -07amzA\n\t.~_+" : Str)).cps.toList).map fun c => V.str ⟨#[c]⟩)) hc1
      refine ⟨by show 1 ≤ sizeLine; decide, fun c2 hc2 => ?_⟩
      have t2 := same_new (o := .lst [V.str ""]) hc2
      refine ⟨c1, c2, _, _, rfl, rfl, t2 _ _ upd_same, upd_same, by decide +kernel, fun c3 hc3 => ?_⟩
      have t3 := same_new (o := .lst (((((" -07amzA\n\t.~_+" : Str)).cps.toList).map fun c => V.str ⟨#[c]⟩) ++ [V.str ""])) hc3
      refine ⟨p, c, .ref c3, ns, u3, r3, rfl, ((PA3.same t1).same t2).same t3, by omega, .inl ⟨c3, _, rfl, upd_same, by decide +kernel, by decide +kernel, fun v u5 r5 H8 hv hu5 PA5 keep5 => ?_⟩⟩
      obtain ⟨y, rfl, hy⟩ : ∃ y : Str, v = .str y ∧ y.length ≤ 1 := by
        rcases List.mem_append.mp hv with hv | hv
        · obtain ⟨c, _, rfl⟩ := List.mem_map.mp hv
          exact ⟨_, rfl, Nat.le_refl 1⟩
        · rw [List.mem_singleton.mp hv]
          exact ⟨_, rfl, by decide +kernel⟩
      exact hR _ _ ⟨y, u5, r5, rfl, SameP.trans (SameP.of (Same.trans t1 (Same.trans t2 t3))) keep5, hy, by omega, PA5⟩
    obtain ⟨y, u7, r7, rfl, s7, hy1, hu7, PA7⟩ := h7
    refine seq_step (fun σ' H' => σ' = [some (.ref p), some (.str t), some (.ref l), some (.int (d : Int)), some (.int (a : Int)), some (.ref l2), some (.int (k : Int)), some (.str z), some (.str y), none] ∧ H' = H7) (fun R hR => ?_) (fun σ8 H8 h8 => ?_)
    · refine ⟨_, rfl, rfl, _, rfl, ifd (fun c1 => ?_) (fun c1 => hR _ _ ⟨rfl, rfl⟩)⟩
      have h1 := cutS_length t none (some (a : Int))
      refine ⟨_, rfl, _, rfl, _, rfl, t, rfl, by omega, _, rfl, _, _, rfl, rfl, by omega, _, rfl, _, rfl, _, rfl, p, c, ns, u7, r7, 2, rfl, PA7, by omega, by decide, by decide, fun e u9 r9 H9 e0 e1 hu9 PA9 keep9 => ?_⟩
      have h2 := cutS_length t (some ((a : Int) + e)) none
      have h3 : (cutS t none (some (a : Int)) ++ y).length ≤ t.length + 1 := by rw [len_app]; omega
      refine ⟨_, _, rfl, rfl, _, rfl, t, rfl, by omega, _, _, rfl, rfl, by omega, fin _ u9 r9 H9 ?_ (by omega) PA9 (SameP.trans s7 keep9)⟩
      rw [len_app]
      omega
    obtain ⟨rfl, rfl⟩ := h8
    refine seq_step (fun σ' H' => ∃ l9, σ' = [some (.ref p), some (.str t), some (.ref l), some (.int (d : Int)), some (.int (a : Int)), some (.ref l2), some (.int (k : Int)), some (.str z), some (.str y), some (.ref l9)] ∧ Same H8 H' ∧ H' l9 = some (.lst (([" ", "\n", " zzzzzzzz 1", " zzzzzzzz 1 ", "0", " a 1", " b"] : List Str).map V.str))) (fun R hR => ⟨by show 7 ≤ sizeLine; decide, fun l9 hl9 => hR _ _ ⟨l9, rfl, same_new hl9, upd_same⟩⟩) (fun σ9 H9 h9 => ?_)
    obtain ⟨l9, rfl, s9, hl9⟩ := h9
    have PA9 := PA7.same s9
    refine ⟨_, rfl, rfl, _, rfl, ifd (fun c1 => ?_) (fun c1 => ?_)⟩
    · have h1 := cutS_length t none (some (a : Int))
      exact ⟨_, rfl, _, rfl, _, rfl, t, rfl, by omega, fin _ u7 r7 H9 (by omega) (by omega) PA9 (SameP.trans s7 (SameP.of s9))⟩
    · refine ⟨_, rfl, _, rfl, _, rfl, p, c, .ref l9, ns, u7, r7, rfl, PA9, by omega, .inl ⟨l9, _, rfl, hl9, by decide, by decide, fun v u5 r5 H10 hv hu5 PA5 keep5 => ?_⟩⟩
      obtain ⟨x, hx, rfl⟩ := List.mem_map.mp hv
      have hxl : x.length ≤ 12 := by
        have h : (([" ", "\n", " zzzzzzzz 1", " zzzzzzzz 1 ", "0", " a 1", " b"] : List Str)).all (fun z => decide (z.length ≤ 12)) = true := by decide +kernel
        exact of_decide_eq_true (List.all_eq_true.mp h x hx)
      refine ⟨_, _, rfl, rfl, by omega, fin _ u5 r5 H10 ?_ (by omega) PA5 (SameP.trans s7 (SameP.trans (SameP.of s9) keep5))⟩
      rw [len_app]
      omega
end
end Ld
namespace Ld
open PySem PySem.Spec PyProof.Rows L2
open LamX
/-! ### a call of a lambda, its error caught -/
abbrev sTold : Stmt := top 31
abbrev nTold : List Str := ["_law_call", "e"]
theorem scTold : FnScope nTold ["_law_call"] (defScope sTold) := ⟨rfl, rfl, rfl, by decide +kernel, rfl, by decide +kernel, by decide +kernel⟩
/-- isinstance(e, c), e the exception that the suite holds, with fields -/
def rIsEd (K : PySem.W.Frag) (D a : Addr) (cls : Value) (d : Option Addr) : List V → Hp → VK → Prop := fun xs H Q => ∃ (c : V) (cv : Value) (b : Bool) (dd : Addr) (fs : List (Str × V)), xs = [.ref a, c] ∧ cls = .ref D ∧ d = some dd ∧ H dd = some (.xd fs) ∧ ClsV c cv ∧ PySem.W.kitOne K (.ref D) cv = some b ∧ Q (.bl b) H
theorem call_isEd {X : Cx} {a D : Addr} {oe : Obj} {cls : Value} {d : Option Addr} {pn : List (Addr × Obj)} (C : ExcC X.K D) (hz : Zc cls d oe) (hf : ∃ vs, oe.data = .fields vs) : CallR (X.suite a ((a, oe) :: pn)) (.builtin "isinstance") (rIsEd X.K D a cls d) := by
  intro pins s σ H xs us Q I r h
  obtain ⟨c, cv, b, dd, fs, rfl, ec, ed, hdd, hcv, e, q⟩ := h
  subst ec
  subst ed
  obtain ⟨u1, u2, rfl, r1, r2⟩ := vals2 r
  obtain rfl : u1 = Value.ref a := r1
  have e2 := hcv.eq r2
  subst e2
  obtain ⟨hget, _⟩ := I.pin (a, oe) (List.mem_append.mpr (.inl List.mem_cons_self))
  obtain ⟨vs, hv⟩ := hf
  have hx : ObjOk X.prog X.w H s.heap dd (.xd fs) := I.hok dd _ hdd
  obtain ⟨mA, hns, _⟩ := hx
  obtain ⟨od, ho, _⟩ := lookIn_ns hns
  have J : PySem.W.InstAt s.heap a oe D (some od) := ⟨hget, hz.1, by unfold PySem.W.notCls; rw [hv] <;> rfl, by rw [hz.2]; exact ho⟩
  exact PySem.W.kia_one (PySem.CrX.kitx_excO (od := some od) C.hg C.hk C.hs C.hd C.ha C.hn C.ht C.hm) I.kIn J e (fun z => nomatch z) fun tk => ⟨.bl b, H, I.kept (t' := tk) fun _ _ z => z, rfl, q⟩
/-- what of the text the caught error's class must have -/
structure XCat (K : PySem.W.Frag) (CT : Addr) : Prop where
  ex : ExcC K CT
  xf : XfC K CT
  no : PySem.W.findIn K (.ref CT) "index" = some none
  me : PySem.W.exmOne K (.ref CT) (.ref CT) = some true
  ve : PySem.W.kitOne K (.ref CT) (.type "ValueError") = some true
def TToldX (C CT : Addr) : (XK → Hp → VK → Prop) → Hp → VK → Prop := fun tl H Q =>
  tl (fun cls d H' => cls = .ref CT ∧ ∃ (dd : Addr) (v : V), d = some dd ∧ H' dd = some (.xd [("index", v)]) ∧ ∀ T, H' T = none → Q (.ref T) (upd H' T (.tup [.str "index", v, .bl true]))) H
    (fun x H1 => ∃ a dx fs, x = .ref a ∧ H1 a = some (.ins C dx fs) ∧ spCounts C [.ref a] H1 (fun y H2 => [V.str "load", y].length ≤ sizeLine ∧ ∀ T, H2 T = none → Q (.ref T) (upd H2 T (.tup [.str "load", y]))) E0)
theorem bVE : bootBuiltins "ValueError" = some (.type "ValueError") := by decide +kernel
theorem told_gives2 {X : Cx} {C CT pc gc g : Addr} {cdg : Value} {dc : FuncData} {q : Str} (cl : Cls X.K C) (pC : PropOf X.K C "counts" pc gc) (FC : FnOk X.prog X.w X.K X.mg X.base CX0 1 gc dc ["self"] (spCounts C)) (bC : L2.Binds X.K dc ["self"] []) (hr : Room 3 X.A) (XC : XCat X.K CT)
    (mI : X.mg "InvalidText" = some (.ref CT)) (mIsi : X.mg "isinstance" = none) (mVE : X.mg "ValueError" = none) :
    GivesTo X nTold "_law_told" (defScope sTold) g cdg (defBody sTold) "_law_call" q (TToldX C CT) := by
  intro f c' s H Q tl act hc h
  have nd : nTold.Nodup := scTold.nd
  refine ⟨_, pss_one (ps_try_as (X := (cxOf C8.CX0 X.prog X.w X.K X.mg X.base nTold "_law_told" (defScope sTold) g cdg X.A X.stack s H C8.E0).nox) (c := .ref CT) (i := 1)
      (tb := fun W D σ H => ∃ Ech : XK, (∀ cls d (σ' : L2.St) H', Ech cls d H' → σ'.length = 2 → W cls d σ' H') ∧ tRet (tTup (tCons (tC (.str "load")) (tCons (tProp C (spCounts C) [] E0 (fun σZ HZ Q => σZ[0]? = some (some (.ref f)) ∧ HZ c' = some (CodeO c' q) ∧ tl Ech HZ Q)) tNil))) D σ H)
      rfl rfl nd rfl rfl ⟨by rfl, by decide, .inl mI⟩ LamX.takes0 (fun W pn xe tk _ => ?_) (fun a oe cls d pn hz hf => pss_one (ps_ret (pe_tup (pa_cons pe_str (pa_cons (pe_xf XC.xf XC.no hz hf (pv 1)) (pa_cons (pe_callB (call_isEd XC.ex hz hf) (by rfl) mIsi bIsi (pa_cons (pv 1) (pa_cons (pe_bltn (v := .ty "ValueError") (by rfl) mVE bVE rfl) pa_nil))) pa_nil))))))), ?_⟩
  · refine ⟨fun pins s' σ H' D I h' => ?_⟩
    obtain ⟨Ech, hW, h3⟩ := h'
    have tk2 : Takes ((cxOf C8.CX0 X.prog X.w X.K X.mg X.base nTold "_law_told" (defScope sTold) g cdg X.A X.stack s H C8.E0).tr pn xe) (fun cls d σ' H' => σ'.length = 2 → W cls d σ' H') := fun u s1 ⟨a, B, sI, pins1, σ1, H2, cls, d, e1, I1, nb, up, sky, na, os, ag, w⟩ =>
      tk u s1 ⟨a, B, sI, pins1, σ1, H2, cls, d, e1, I1, nb, up, sky, na, os, ag, w I1.len⟩
    refine PSs.run (t := tRet (tTup (tCons (tC (.str "load")) (tCons (tProp C (spCounts C) [] E0 (fun σZ HZ Q => σZ[0]? = some (some (.ref f)) ∧ HZ c' = some (CodeO c' q) ∧ tl Ech HZ Q)) tNil)))) ?_ pins s' σ H' D I h3
    exact pss_one (ps_ret (pe_tup (pa_cons pe_str (pa_cons (pe_prop (act _ pn xe Ech _ _ tk2 fun cls d σ' H' hE hl => hW cls d σ' H' hE hl) cl pC FC (hr.deeper _) bC .nil pass0 rfl) pa_nil))))
  · refine ⟨fun cls d H' => cls = .ref CT ∧ ∃ (dd : Addr) (v : V), d = some dd ∧ H' dd = some (.xd [("index", v)]) ∧ ∀ T, H' T = none → Q (.ref T) (upd H' T (.tup [.str "index", v, .bl true])), fun cls d σ' H' hE hl => ?_, ?_⟩
    · obtain ⟨rfl, dd, v, rfl, hdd, hq⟩ := hE
      refine ⟨true, XC.me, fun _ a ha => ?_, fun z => nomatch z⟩
      have h1 : (σ'.set 1 (some (V.ref a)))[1]? = some (some (V.ref a)) := by
        rw [List.getElem?_set_self]
        omega
      exact ⟨_, h1, rfl, rfl, dd, [("index", v)], v, rfl, hdd, rfl, _, h1, .ty "ValueError", _, true, dd, [("index", v)], rfl, rfl, rfl, hdd, .ty _, XC.ve, by show 3 ≤ sizeLine; decide, fun T hT => hq T hT⟩
    · exact ⟨rfl, hc, h⟩
end Ld
namespace Ld
open PySem PySem.Spec PyProof.Rows L2
open LamX
abbrev sLaw : Stmt := top 33
abbrev nLaw : List Str := ["_law_script", "_law_pen_here", "_law_turn", "_law_words_here", "_law_made", "_law_again", "_law_size", "_law_is_right", "_law_told_here", "_law_odd", "_law_text", "_law_word"]
theorem scLaw : FnScope nLaw ["_law_script"] (defScope sLaw) := ⟨rfl, rfl, rfl, by decide +kernel, rfl, by decide +kernel, by decide +kernel⟩
abbrev tabL (Pt : Addr) : List (Addr × Str) := [(Pt, ("law" : Str) ++ ".<locals>." ++ "<lambda>")]
theorem ne_tblL {xs : List V} : ∀ ps, HO.lst xs ≠ .tbl ps := fun _ z => nomatch z
theorem PenAt.extN {H H' : Hp} {p c : Addr} {ns : List Int} {u r : Int} (P : PenAt H p c ns u r) (e : ExtN H H') : PenAt H' p c ns u r := by
  obtain ⟨kvs, h, k⟩ := P.ob
  exact ⟨⟨kvs, e _ _ h (fun _ z => nomatch z), k⟩, e _ _ P.cl (fun _ z => nomatch z), P.few, P.u0, P.r0⟩
theorem Tabs.keepP {T : List (Addr × Str)} {H H' : Hp} {p c : Addr} {ns : List Int} {u r : Int} (t : Tabs T H) (P : PenAt H p c ns u r) (s : SameP p H H') : Tabs T H' := fun q hq => by
  obtain ⟨ps, h1, h2, h3⟩ := t q hq
  obtain ⟨kvs, hp, _⟩ := P.ob
  refine ⟨ps, s _ _ h1 (ne_of h1 hp fun z => nomatch z), h2, fun pos cv hc => ?_⟩
  obtain ⟨c0, e, hco⟩ := h3 pos cv hc
  exact ⟨c0, e, s _ _ hco (ne_of hco hp fun z => nomatch z)⟩
theorem OddA.extN {C p : Addr} {H H' : Hp} {v : V} (h : OddA C p H v) (s : ExtN H H') : OddA C p H' v := by
  rcases h with h | h | h | h | ⟨a, rfl, ne, h⟩
  · exact .inl h
  · exact .inr (.inl h)
  · exact .inr (.inr (.inl h))
  · exact .inr (.inr (.inr (.inl h)))
  · refine .inr (.inr (.inr (.inr ⟨a, rfl, ne, ?_⟩)))
    rcases h with ⟨xs, h⟩ | ⟨xs, h⟩ | ⟨xs, h⟩ | ⟨dx, fs, h⟩
    · exact .inl ⟨xs, s _ _ h fun _ z => nomatch z⟩
    · exact .inr (.inl ⟨xs, s _ _ h fun _ z => nomatch z⟩)
    · exact .inr (.inr (.inl ⟨xs, s _ _ h fun _ z => nomatch z⟩))
    · exact .inr (.inr (.inr ⟨dx, fs, s _ _ h fun _ z => nomatch z⟩))
def idxD (n : Int) : PyData := .tuple [.str "index", .int n, .bool true]
theorem idx_eqv (n : Int) : PyData.eqv (idxD n) (idxD n) = true := by
  simp [idxD, PyData.eqv, PyData.eqvAll]
theorem idx_shaped (n : Int) : SeqAt.shaped (idxD n) = true := by
  unfold SeqAt.shaped idxD
  have e : PyData.strOk "index" = true := by decide +kernel
  rw [Bool.and_eq_true]
  refine ⟨?_, decide_eq_true ?_⟩
  · simp only [PyData.canLay0, PyData.canLayAll0, e, Bool.and_self]
  · simp only [PyData.depth, PyData.depthAll]
    decide
theorem idx_dp {K : PySem.W.Frag} {H : Hp} {T : Addr} {n : Int} (h : H T = some (.tup [.str "index", .int n, .bl true])) : Dp K H (.ref T) (idxD n) := .tup (.inl (.inl h)) (.cons (.str _) (.cons (.int _) (.cons (.bl _) .nil)))
section
variable {K : PySem.W.Frag} {C CT : Addr} {σ : L2.St} {H : Hp} {Q : VK} {te : TE} {T : List (Addr × Str)}
/-- told(lambda: Load.read(text)) -/
theorem lam_text {t : Str} (hte : ∀ (H' : Hp) (Q' : VK), Q' (.str t) H' → te σ H' Q') (hlen : t.length ≤ 3900) (hT : Tabs T H)
    (k1 : (walkT t).2 = true → ∀ (H' : Hp) (Tt p : Addr) (ps : List (Str × Int)), ExtN H H' → Tabs T H' → Can ps → txt ps = t → (∀ q ∈ ps, q.2.natAbs < 10 ^ 80) → H' Tt = some (.tup [.str "load", .ref p]) → H' p = some (.dK (cD ps)) → Q (.ref Tt) H')
    (k2 : (walkT t).2 = false → ∀ (H' : Hp) (Tt : Addr), ExtN H H' → Tabs T H' → H' Tt = some (.tup [.str "index", .int ((walkT t).1 : Int), .bl true]) → Q (.ref Tt) H') :
    tLam T (TToldX C CT) (fun E => ClX.tCMeth C (spReadX K C CT) E (tC (.ref C)) (tCons te tNil)) σ H Q := by
  refine ⟨hT, fun H1 eN T1 => ⟨rfl, hte _ _ ⟨.str t, rfl, .inl ⟨t, rfl, hlen, fun hw H' x ps same hx hL htx hb => ?_, fun hw H' d same hd => ?_⟩⟩⟩⟩
  · obtain ⟨dx, tx, h1, _, can⟩ := id hL
    refine ⟨x, dx, _, rfl, h1, x, ps, rfl, hL, fun p hp => ⟨by show 2 ≤ sizeLine; decide, fun Tt hTt => ?_⟩⟩
    have s1 := Same.trans same (Same.trans (same_new (o := .dK (cD ps)) hp) (same_new (o := .tup [.str "load", .ref p]) hTt))
    exact k1 hw _ Tt p ps (ExtN.trans eN (ExtN.of s1)) (T1.ext s1) can htx hb upd_same (same_new hTt _ _ upd_same)
  · refine ⟨rfl, d, _, rfl, hd, fun Tt hTt => ?_⟩
    have s1 := Same.trans same (same_new (o := .tup [.str "index", .int ((walkT t).1 : Int), .bl true]) hTt)
    exact k2 hw _ Tt (ExtN.trans eN (ExtN.of s1)) (T1.ext s1) upd_same
/-- told(lambda: Load.read(v)), v no text -/
theorem lam_odd {v : V} (hte : ∀ (H' : Hp) (Q' : VK), Q' v H' → te σ H' Q') (hT : Tabs T H) (hty : ∀ H', ExtN H H' → ∃ ty, TyX K H' v ty ∧ PySem.W.kitOne K ty (.type "str") = some false)
    (k2 : ∀ (H' : Hp) (Tt : Addr), ExtN H H' → Tabs T H' → H' Tt = some (.tup [.str "index", .int 0, .bl true]) → Q (.ref Tt) H') :
    tLam T (TToldX C CT) (fun E => ClX.tCMeth C (spReadX K C CT) E (tC (.ref C)) (tCons te tNil)) σ H Q := by
  refine ⟨hT, fun H1 eN T1 => ?_⟩
  obtain ⟨ty, ht1, hk⟩ := hty H1 eN
  refine ⟨rfl, hte _ _ ⟨v, rfl, .inr ⟨ty, ht1, hk, fun H' d same hd => ?_⟩⟩⟩
  refine ⟨rfl, d, _, rfl, hd, fun Tt hTt => ?_⟩
  have s1 := Same.trans same (same_new (o := .tup [.str "index", .int 0, .bl true]) hTt)
  exact k2 _ Tt (ExtN.trans eN (ExtN.of s1)) (T1.ext s1) upd_same
end
/-- how long the text may be behind j bends -/
def bendL : Nat → Nat
  | 0 => 424
  | n + 1 => 2 * bendL n + 2
theorem bendL_le {j : Nat} (h : j ≤ 3) : bendL j ≤ 3900 ∧ (j < 3 → bendL j ≤ 2000) ∧ 100 ≤ bendL j := by
  match j, h with
  | 0, _ => exact ⟨by decide, fun _ => by decide, by decide⟩
  | 1, _ => exact ⟨by decide, fun _ => by decide, by decide⟩
  | 2, _ => exact ⟨by decide, fun _ => by decide, by decide⟩
  | 3, _ => exact ⟨by decide, fun h => absurd h (by decide), by decide⟩
theorem pow_ok60 : CPow 10 60 := by
  unfold CPow
  decide
theorem if_ne {v : V} {A B : Prop} (h : B) : if (!decide (v = v)) = true then A else B := by
  rw [decide_eq_true rfl]
  exact iteF h
theorem walk_empty : walkT "" = (0, false) := by decide +kernel
section
variable {P : Program} {w : World} {K : PySem.W.Frag} {mg : Str → Option Value} {base : Heap} {C fi fm fr CT : Addr}
/-- Load as the law uses it -/
structure LoadT (P : Program) (w : World) (K : PySem.W.Frag) (mg : Str → Option Value) (base : Heap) (C fi fm fr CT : Addr) : Prop where
  T : LoadC K mg C fi
  S : SlX.SIsi K C
  M : MulC K C fm fr
  FM : FnR P w K mg base CX0 6 fm (spMul C)
  nsub : PySem.W.subIn K (.type "int") (.ref C) = some false
  nStr : PySem.W.subIn K (.ref C) (.type "str") = some false
  of : HasC P w K mg base 5 C "of" (spOf C)
  read : HasCX P w K mg base 6 C "read" (spReadX K C CT)
  mkA : FnK P w K mg base CX0 3 fi ["a"] (spKw ["a"] (spInitB C))
  counts : HasP P w K mg base 1 C "counts" (spCounts C)
  text : HasT P w K mg base 1 C "text" ["self"] (spTextX C)
  XC : XCat K CT
  mI : mg "InvalidText" = some (.ref CT)
  ve : mg "ValueError" = none
structure LawT (P : Program) (w : World) (K : PySem.W.Frag) (mg : Str → Option Value) (base : Heap) (C : Addr) : Prop where
  pen : Has P w K mg base 1 "_law_pen" ["_law_script"] (spPen K)
  draw : Has P w K mg base 1 "_law_draw" ["_law_pen_here", "_law_many"] spDraw
  pick : Has P w K mg base 2 "_law_pick" ["_law_pen_here", "_law_options"] (spPick K)
  words : Has P w K mg base 3 "_law_words" ["_law_pen_here", "_law_many"] spWords
  whole : Has P w K mg base 4 "_law_whole" ["_law_pen_here"] spWhole
  bent : Has P w K mg base 3 "_law_bent" ["_law_pen_here", "_law_text"] spBent
  walk : Has P w K mg base 2 "_law_walk" ["_law_text"] spWalk
  any : Has P w K mg base 3 "_law_any_value" ["_law_pen_here", "_law_some"] (spAny C)
def spLaw (K : PySem.W.Frag) (Pt : Addr) : Sp := fun vs H Q _ => ∃ (a : Addr) (ns : List Int), vs = [.ref a] ∧ SqL K H a (ns.map V.int) ∧ ns.length ≤ 63 ∧ H Pt = some (.tbl #[]) ∧ ∀ H', Q (.bl true) H'
theorem ok_law {f c0 Pt g9 : Addr} {oc kV doc pm ct0 : Value} {od an : Option Addr} {osl : Array (Option Value)} {fd9 : FuncData}
    (lk : K.lookup f = some ⟨oc, od, .func (PySem.W.fnOf "law" "law" (defArgs sLaw) (defBody sLaw) (defScope sLaw) .none kV doc pm an (.ref c0) ct0), osl⟩) (hcd : PySem.W.codeIn K (.ref c0) "law" = true) (TB : TabB base mg c0 Pt)
    (F9 : Fun K "_law_told" "_law_told" sTold g9 fd9) (b9' : L2.Binds K fd9 ["_law_call"] []) (m9 : mg "_law_told" = some (.ref g9))
    (B : Blt mg) (B2 : Blt2 mg) (B3 : Blt3 mg) (L : LoadT P w K mg base C fi fm fr CT) (W : LawT P w K mg base C) :
    FnOk P w K mg base CX0 9 f (PySem.W.fnOf "law" "law" (defArgs sLaw) (defBody sLaw) (defScope sLaw) .none kV doc pm an (.ref c0) ct0) ["_law_script"] (spLaw K Pt) := by
  have k9 := F9.kp
  obtain ⟨oc9, od9, kV9, doc9, pm9, an9, cd9, ct9, sl9, rfl, lk9, cg9⟩ := F9.ex
  obtain ⟨f1, d1, G1, b1, m1, k1⟩ := W.pen
  obtain ⟨f2, d2, G2, b2, m2, k2⟩ := W.draw
  obtain ⟨f3, d3, G3, b3, m3, k3⟩ := W.pick
  obtain ⟨f4, d4, G4, b4, m4, k4⟩ := W.words
  obtain ⟨f5, d5, G5, b5, m5, k5⟩ := W.whole
  obtain ⟨f6, d6, G6, b6, m6, k6⟩ := W.bent
  obtain ⟨f7, d7, G7, b7, m7, k7⟩ := W.walk
  obtain ⟨f8, d8, G8, b8, m8, k8⟩ := W.any
  obtain ⟨mc, po, go, rO, cO, FO⟩ := L.of
  obtain ⟨mr, pr, gr, rR, cR, FR⟩ := L.read
  obtain ⟨pc, gc, dc, pC, FC, bC⟩ := L.counts
  obtain ⟨gx, xd, mX, FX, bX⟩ := L.text
  have T := L.T
  have S := L.S
  refine fn_of lk hcd scLaw (fun vs H Q E h => ?_) fun A outer s H vs Q E hr h => ?_
  · obtain ⟨a, ns, rfl, _⟩ := h
    rfl
  · obtain ⟨a, ns, rfl, hS, hl, hPt, q⟩ := h
    have nd := scLaw.nd
    have hu := hu_of hr
    have hu64 := hr.units
    have hr1 : Room 1 _ := hr.mono (by decide : 1 ≤ 8)
    have hr2 : Room 2 _ := hr.mono (by decide : 2 ≤ 8)
    have hr3 : Room 3 _ := hr.mono (by decide : 3 ≤ 8)
    have hr4 : Room 4 _ := hr.mono (by decide : 4 ≤ 8)
    have hr5 : Room 5 _ := hr.mono (by decide : 5 ≤ 8)
    have hr6 : Room 6 _ := hr.mono (by decide : 6 ≤ 8)
    have hT0 : Tabs (tabL Pt) H := fun p hp => by
      rw [List.mem_singleton.mp hp]
      exact TabS.nil hPt
    have hq : (cxOf CX0 P w K mg base nLaw "law" (defScope sLaw) f (.ref c0) A outer s H E).nox.env.qual = ("law" : Str) ++ ".<locals>." := rfl
    have hmT : ((Pt, (cxOf CX0 P w K mg base nLaw "law" (defScope sLaw) f (.ref c0) A outer s H E).nox.env.qual ++ ("<lambda>" : Str)) : Addr × Str) ∈ tabL Pt := by
      rw [hq]
      exact List.mem_singleton_self _
    have huT : ∀ p ∈ tabL Pt, p.1 = Pt → p.2 = (cxOf CX0 P w K mg base nLaw "law" (defScope sLaw) f (.ref c0) A outer s H E).nox.env.qual ++ ("<lambda>" : Str) := fun p hp _ => by
      rw [hq, List.mem_singleton.mp hp]
    suffices h : ∃ t, PSs (cxOf CX0 P w K mg base nLaw "law" (defScope sLaw) f (.ref c0) A outer s H E).nox (defBody sLaw) t ∧ t { nx := fun _ H' => Q .non H', rt := Q } (L2.start nLaw [.ref a]) H by
      obtain ⟨t, h1, h2⟩ := h
      exact ⟨t, h1.nox, h2⟩
    refine ⟨_, (pss_cons (ps_set (i := 1) nd rfl (Or.inr rfl) (pe_call G1 hr1 (by rfl) m1 k1 b1 .nil pass0 (pa_cons (pv 0) pa_nil)))
      (pss_cons (ps_for PassesOwn.never rfl (pi_range1 (by rfl) B.range (pa_cons (pe_op op_add pe_int (pe_callB (call_min2 rfl) (by rfl) B3.min bMin (pa_cons pe_int (pa_cons (pe_callB call_len_seq (by rfl) B.len PySem.boot_len (pa_cons (pv 0) pa_nil)) pa_nil)))) pa_nil)) (pg_name (i := 2) nd rfl (Or.inl rfl))
        (pss_cons (ps_set (i := 3) nd rfl (Or.inl rfl) (pe_call G4 hr3 (by rfl) m4 k4 b4 .nil pass0 (pa_cons (pv 1) (pa_cons (pe_call G2 hr1 (by rfl) m2 k2 b2 .nil pass0 (pa_cons (pv 1) (pa_cons pe_int pa_nil))) pa_nil))))
        (pss_cons (ps_set (i := 4) nd rfl (Or.inl rfl) (pe_op (op_mulI L.M L.FM hr6 pass0 L.nsub) (ClX.pe_cmeth (pe_glob (v := .ref C) (by rfl) T.gC rfl) rO cO FO hr5 pass0 (pa_cons (pe_callTy (call_dictP rfl) (by rfl) B2.dict bDict (pa_cons (pe_lc (own := [("_law_word", 11)]) (g := gName 11) (tt := tYes) rfl nd (pi_list (pv 3)) (blkOk_by (N := nLaw) (sc := defScope sLaw) (by decide +kernel)) (fun _ _ _ _ _ => pg_name (i := 11) nd rfl (Or.inl rfl)) (fun _ _ _ _ _ => pts_nil) (fun _ _ _ _ _ => (pe_tup (pa_cons (pv 11) (pa_cons (pe_call G5 hr4 (by rfl) m5 k5 b5 .nil pass0 (pa_cons (pv 1) pa_nil)) pa_nil))))) pa_nil)) pa_nil)) (pe_call G3 hr2 (by rfl) m3 k3 b3 .nil pass0 (pa_cons (pv 1) (pa_cons (pe_lst (pa_cons pe_int (pa_cons pe_int (pa_cons pe_int (pa_cons (pe_op op_pow pe_int pe_int) pa_nil))))) pa_nil)))))
        (pss_cons (ps_set (i := 10) nd rfl (Or.inr rfl) (pe_meth0 (pv 4) T.c mX FX hr1 bX .nil pass0))
        (pss_cons (ps_for PassesOwn.never rfl (pi_range1 (by rfl) B.range (pa_cons (pe_call G2 hr1 (by rfl) m2 k2 b2 .nil pass0 (pa_cons (pv 1) (pa_cons pe_int pa_nil))) pa_nil)) (pg_name (i := 5) nd rfl (Or.inl rfl))
          (pss_one (ps_set (i := 10) nd rfl (Or.inr rfl) (pe_call G6 hr3 (by rfl) m6 k6 b6 .nil pass0 (pa_cons (pv 1) (pa_cons (pv 10) pa_nil))))))
        (pss_cons (ps_asg (pe_call G7 hr2 (by rfl) m7 k7 b7 .nil pass0 (pa_cons (pv 10) pa_nil)) (pg_tup (by rfl) (pgs_cons (pg_name (i := 6) nd rfl (Or.inl rfl)) (pgs_cons (pg_name (i := 7) nd rfl (Or.inl rfl)) pgs_nil))))
        (pss_cons (ps_set (i := 8) nd rfl (Or.inl rfl) (LamX.pe_lamcall (T := tabL Pt) (TT := TToldX C CT) (t := fun E => ClX.tCMeth C (spReadX K C CT) E (tC (.ref C)) (tCons (tVar 10) tNil)) (c := c0) (P := Pt) (k := 6) (Ng := nTold) (a := "_law_call") (by rfl) m9 k9 lk9 cg9 b9' scTold rfl (Or.inl rfl) (told_gives2 T.c pC FC bC hr3 L.XC L.mI B2.isi L.ve) TB rfl hmT huT hr (lamS_by (by show lamSB (defScope sLaw) _ = true; decide +kernel)) rfl (fun _ _ _ _ _ => rfl) (fun A outer s H E f c' hr' => ClX.pe_cmeth (pe_glob (v := .ref C) (by rfl) T.gC rfl) rR cR FR hr' (passes_call (takes_of rfl rfl rfl rfl) fun _ _ _ _ h => h) (pa_cons (pv 10) pa_nil))))
        (pss_cons (ps_if (PW.pt (pw_and (pt_val (pv 7)) (pw_and1 (PW.pt (pw_or (pt_cmpR op_ne (pe_ix ix_tup (pv 8) pe_int (fun _ _ => rfl)) pe_str (nomark _)) (pw_or1 (pt_cmpR op_ne (pe_meth0 (ClX.pe_cmeth (pe_glob (v := .ref C) (by rfl) T.gC rfl) rO cO FO hr5 pass0 (pa_cons (pe_ix ix_tup (pv 8) pe_int (fun _ _ => rfl)) pa_nil)) T.c mX FX hr1 bX .nil pass0) (pv 10) (nomark _)))))))) (pss_one (ps_ret pe_bl)) pss_nil)
        (pss_cons (ps_if (PW.pt (pw_and (pt_not (pt_val (pv 7))) (pw_and1 (pt_cmpR (op_neD hu64) (pv 8) (pe_tup (pa_cons pe_str (pa_cons (pv 6) (pa_cons pe_bl pa_nil)))) (nomark _))))) (pss_one (ps_ret pe_bl)) pss_nil)
        (pss_cons (ps_set (i := 9) nd rfl (Or.inr rfl) (pe_call G8 hr3 (by rfl) m8 k8 b8 .nil pass0 (pa_cons (pv 1) (pa_cons (pe_lst (pa_cons (pe_makeQ T.mkC L.mkA hr4 (by rfl) T.gC pass0 (pk_cons pe_int pk_nil)) (pa_cons (pe_lst (pa_cons pe_str pa_nil)) pa_nil))) pa_nil))))
        (pss_one (ps_if (PW.pt (pw_and (pt_not (pt_val (pe_callB (r := rIsi K) call_isi (by rfl) B2.isi bIsi (pa_cons (pv 9) (pa_cons (pe_bltn (v := .ty "str") (by rfl) B2.str bStr0 rfl) pa_nil))))) (pw_and1 (pt_cmpR (op_neD hu64) (LamX.pe_lamcall (T := tabL Pt) (TT := TToldX C CT) (t := fun E => ClX.tCMeth C (spReadX K C CT) E (tC (.ref C)) (tCons (tVar 9) tNil)) (c := c0) (P := Pt) (k := 6) (Ng := nTold) (a := "_law_call") (by rfl) m9 k9 lk9 cg9 b9' scTold rfl (Or.inl rfl) (told_gives2 T.c pC FC bC hr3 L.XC L.mI B2.isi L.ve) TB rfl hmT huT hr (lamS_by (by show lamSB (defScope sLaw) _ = true; decide +kernel)) rfl (fun _ _ _ _ _ => rfl) (fun A outer s H E f c' hr' => ClX.pe_cmeth (pe_glob (v := .ref C) (by rfl) T.gC rfl) rR cR FR hr' (passes_call (takes_of rfl rfl rfl rfl) fun _ _ _ _ h => h) (pa_cons (pv 9) pa_nil))) (pe_tup (pa_cons pe_str (pa_cons pe_int (pa_cons pe_bl pa_nil)))) (nomark _))))) (pss_one (ps_ret pe_bl)) pss_nil))))))))))))
      (pss_one (ps_ret (pe_cmpR (op_eqD hu64) (LamX.pe_lamcall (T := tabL Pt) (TT := TToldX C CT) (t := fun E => ClX.tCMeth C (spReadX K C CT) E (tC (.ref C)) (tCons (tC (.str "")) tNil)) (c := c0) (P := Pt) (k := 6) (Ng := nTold) (a := "_law_call") (by rfl) m9 k9 lk9 cg9 b9' scTold rfl (Or.inl rfl) (told_gives2 T.c pC FC bC hr3 L.XC L.mI B2.isi L.ve) TB rfl hmT huT hr (lamS_by (by show lamSB (defScope sLaw) _ = true; decide +kernel)) rfl (fun _ _ _ _ _ => rfl) (fun A outer s H E f c' hr' => ClX.pe_cmeth (pe_glob (v := .ref C) (by rfl) T.gC rfl) rR cR FR hr' (passes_call (takes_of rfl rfl rfl rfl) fun _ _ _ _ h => h) (pa_cons pe_str pa_nil))) (pe_tup (pa_cons pe_str (pa_cons pe_int (pa_cons pe_bl pa_nil)))) (nomark _)))))), ?_⟩
    have b60 : (10 : Nat) ^ 80 < 10 ^ 95 := by decide +kernel
    have hsz : sizeLine = 16777216 := sizeLine_eq
    -- the pen
    refine seq_step (fun σ' H' => ∃ p c, σ' = [some (.ref a), some (.ref p), none, none, none, none, none, none, none, none, none, none] ∧ Same H H' ∧ PenAt H' p c ns 0 0) (fun R hR => ?_) (fun σ1 H1 h1 => ?_)
    · exact ⟨_, rfl, a, ns, rfl, hS, hl, fun p c H' same PA => hR _ _ ⟨p, c, rfl, same, PA⟩⟩
    obtain ⟨p, c, rfl, same1, PA⟩ := h1
    have hT1 := hT0.ext same1
    have hN : (8 + (if ((ns.map V.int).length : Int) < 8 then ((ns.map V.int).length : Int) else 8)).toNat ≤ 16 := by split <;> omega
    -- the turns
    refine seq_step (fun σ' H' => (∃ x2 x3 x4 x5 x6 x7 x8 x9 x10 x11, σ' = [some (.ref a), some (.ref p), x2, x3, x4, x5, x6, x7, x8, x9, x10, x11]) ∧ Tabs (tabL Pt) H') (fun R hR => ?_) (fun σ2 H2 h2 => ?_)
    · refine ⟨_, rfl, _, _, rfl, .inl (same1.seq hS), _, _, rfl, _, _, rfl, rfl, _, rfl, by omega, by omega, for_range (n := (8 + (if ((ns.map V.int).length : Int) < 8 then ((ns.map V.int).length : Int) else 8)).toNat)
        (fun i σ' H' => (∃ x2 x3 x4 x5 x6 x7 x8 x9 x10 x11, σ' = [some (.ref a), some (.ref p), x2, x3, x4, x5, x6, x7, x8, x9, x10, x11]) ∧ Tabs (tabL Pt) H' ∧ ∃ u r, PenAt H' p c ns u r ∧ u ≤ 400 * i)
        ⟨⟨_, _, _, _, _, _, _, _, _, _, rfl⟩, hT1, 0, 0, PA, by omega⟩ ?_ (fun σ' H' h => hR _ _ ⟨h.1, h.2.1⟩)⟩
      clear hR
      rintro i σ' H' hi ⟨⟨x2, x3, x4, x5, x6, x7, x8, x9, x10, x11, rfl⟩, hT, u, r, PA, hu0⟩
      have hi12 : i < 16 := Nat.lt_of_lt_of_le hi hN
      have hu1 : u ≤ 9000 := by omega
      -- words
      refine seq_step (fun σ' H' => ∃ (l : Addr) (ws : List Str) (u' r' : Int), σ' = [some (.ref a), some (.ref p), some (.int (0 + (i : Int))), some (.ref l), x4, x5, x6, x7, x8, x9, x10, x11] ∧ Tabs (tabL Pt) H' ∧ H' l = some (.lst (ws.map V.str)) ∧ ws.length ≤ 4 ∧ (∀ z ∈ ws, Wd 1 8 z) ∧ u' ≤ u + 12 ∧ PenAt H' p c ns u' r') (fun R hR => ?_) (fun σ3 H3 h3 => ?_)
      · refine ⟨_, rfl, _, rfl, p, c, ns, u, r, 5, rfl, PA, by omega, by decide, by decide, fun d u1 r1 H1 d0 d1 hu1 PA1 keep1 => ?_⟩
        have hT2 := Tabs.keepP hT PA keep1
        refine ⟨p, c, ns, u1, r1, d.toNat, ?_, PA1, by omega, by omega, fun l ws u2 r2 H2 hl hw hws hu2 PA2 keep2 => hR _ _ ⟨l, ws, u2, r2, rfl, Tabs.keepP hT2 PA1 keep2, hl, by omega, hws, by omega, PA2⟩⟩
        show [V.ref p, V.int d] = [V.ref p, V.int ((d.toNat : Nat) : Int)]
        rw [Int.toNat_of_nonneg d0]
      obtain ⟨l, ws, u3, r3, rfl, hT3, hl3, hw4, hws, hu3, PA3⟩ := h3
      -- made
      refine seq_step (fun σ' H' => ∃ (x : Addr) (ps : List (Str × Int)) (u' r' : Int), σ' = [some (.ref a), some (.ref p), some (.int (0 + (i : Int))), some (.ref l), some (.ref x), x5, x6, x7, x8, x9, x10, x11] ∧ Tabs (tabL Pt) H' ∧ LoadAt C H' x ps ∧ ps.length ≤ 4 ∧ (∀ q ∈ ps, q.2.natAbs < 10 ^ 95) ∧ u' ≤ u + 300 ∧ PenAt H' p c ns u' r') (fun R hR => ?_) (fun σ4 H4 h4 => ?_)
      · refine ⟨rfl, _, rfl, l, rfl, ⟨_, .inl (.inl hl3)⟩, fun D hD => lc_given hl3 (by omega) PA3 hD (fun z H5 u5 r5 R' PA5 hu5 k => ?_) (fun H5 ts qs u5 r5 s5 PA5 hu5 eD hts hq1 hq2 => ?_)⟩
        · exact ⟨rfl, _, rfl, _, rfl, p, c, ns, u5, r5, rfl, PA5, by omega, fun e u8 r8 H8 he hu8 PA8 keep8 => ⟨by show 2 ≤ sizeLine; decide, fun T1 hT => k e u8 r8 H8 T1 he hu8 PA8 keep8 hT⟩⟩
        · have hT5 := Tabs.keepP hT3 PA3 s5
          have hql : qs.length = ws.length := by
            have := congrArg List.length hq1
            rwa [List.length_map] at this
          refine ⟨D, ts, cD qs, rfl, .inl (.inl eD), TupsAt.cD hts, fun m0 hm0 => ?_⟩
          have e0 : mergeK [] (cD qs) = cD (mrg [] qs) := mergeK_cD qs []
          rw [e0]
          have dq : Ds ws (10 ^ 30) (mrg [] qs) := ds_mrg (fun q hq => ⟨by rw [← hq1]; exact List.mem_map.mpr ⟨q, hq, rfl⟩, hq2 q hq⟩) (by omega)
          have hmq : (mrg [] qs).length ≤ 4 := by
            have := @mrg_len qs []
            rw [List.length_nil] at this
            omega
          have s6 := same_new (o := .dK (cD (mrg [] qs))) hm0
          have PA6 := PA5.same s6
          dsimp only [tNil]
          refine ⟨_, m0, mrg [] qs, rfl, ⟨upd_same, dq.nd, by omega, fun q hq => (hws _ (dq.sub _ (List.mem_map.mpr ⟨q, hq, rfl⟩))).word⟩, fun H8 o ps s8 ho hL hC => ?_⟩
          have PA8 := PA6.same s8
          have hT8 := (hT5.ext s6).ext s8
          refine ⟨_, rfl, _, _, rfl, rfl, pow_ok60, by show 4 ≤ sizeLine; decide, fun l2 hl2 => ?_⟩
          have s9 := same_new (o := .lst [.int 1, .int 1, .int 1, .int (10 ^ (60 : Int).toNat)]) hl2
          have PA9 := PA8.same s9
          refine ⟨p, c, .ref l2, ns, u5, r5, rfl, PA9, by omega, .inl ⟨l2, [.int 1, .int 1, .int 1, .int (10 ^ (60 : Int).toNat)], rfl, upd_same, by decide, by decide, fun v u6 r6 H9 hv hu6 PA10 keep9 => ?_⟩⟩
          obtain ⟨n, rfl, hn⟩ : ∃ n : Int, v = .int n ∧ n.natAbs ≤ 10 ^ 60 := by
            simp only [List.mem_cons, List.not_mem_nil, or_false] at hv
            rcases hv with rfl | rfl | rfl | rfl
            · exact ⟨_, rfl, by decide +kernel⟩
            · exact ⟨_, rfl, by decide +kernel⟩
            · exact ⟨_, rfl, by decide +kernel⟩
            · exact ⟨_, rfl, by decide +kernel⟩
          have hL9 := (hL.same s9).keepP PA9 keep9
          have hT9 := Tabs.keepP (hT8.ext s9) PA9 keep9
          obtain ⟨dx, tx, hx, _, can⟩ := id hL9
          have hb : ∀ z, (ct ps z).natAbs < 10 ^ 30 := fun z => by
            rw [hC]
            exact dq.ct (Nat.pow_pos (by decide)) z
          have keysIn : ∀ {qs' : List (Str × Int)}, (qs'.map (·.1)).Nodup → (∀ p ∈ qs', p.2 ≠ 0) → (∀ z, ct qs' z ≠ 0 → ct (mrg [] qs) z ≠ 0) → qs'.length ≤ 4 := fun {qs'} nd' nz hz => by
            have := nd_len nd' (m := (mrg [] qs).map (·.1)) fun z hm => by
              obtain ⟨q, hq, rfl⟩ := List.mem_map.mp hm
              refine ct_in (hz _ ?_)
              rw [ct_mem nd' hq]
              exact nz q hq
            rw [List.length_map, List.length_map] at this
            omega
          refine ⟨o, dx, _, n, rfl, rfl, hx, o, ps, n, rfl, hL9, fun q hq => ?_, Nat.lt_of_le_of_lt hn (by decide +kernel), fun H10 y ps' s10 hy hL' hC' => ?_⟩
          · rw [← ct_mem can.nd hq]
            exact Nat.lt_trans (hb _) (by decide +kernel)
          · obtain ⟨_, _, _, _, can'⟩ := id hL'
            refine hR _ _ ⟨y, ps', u6, r6, rfl, hT9.ext s10, hL', keysIn can'.nd can'.nz fun z hz h0 => ?_, fun q hq => ?_, by omega, PA10.same s10⟩
            · rw [hC', hC, h0, Int.zero_mul] at hz
              exact hz rfl
            · rw [← ct_mem can'.nd hq, hC', Int.natAbs_mul]
              have e2 : (10 : Nat) ^ 30 * 10 ^ 60 < 10 ^ 95 := by decide +kernel
              exact Nat.lt_of_le_of_lt (Nat.mul_le_mul (Nat.le_of_lt (hb _)) hn) e2
      obtain ⟨x, ps, u4, r4, rfl, hT4, hL4, hps4, hbd, hu4, PA4⟩ := h4
      obtain ⟨dx, tx, hx4, _, can⟩ := id hL4
      -- its text
      refine seq_step (fun σ' H' => ∃ t : Str, σ' = [some (.ref a), some (.ref p), some (.int (0 + (i : Int))), some (.ref l), some (.ref x), x5, x6, x7, x8, x9, some (.str t), x11] ∧ Same H4 H' ∧ t.length ≤ bendL 0) (fun R hR => ?_) (fun σ5 H5 h5 => ?_)
      · refine ⟨_, rfl, x, dx, _, rfl, hx4, rfl, x, ps, rfl, hL4, hbd, fun H' same => hR _ _ ⟨txt ps, rfl, same, ?_⟩⟩
        show (txt ps).length ≤ 424
        unfold txt
        split
        · decide +kernel
        · have := joinT_len can.wd hbd
          omega
      obtain ⟨t0, rfl, same5, ht0⟩ := h5
      have PA5 := PA4.same same5
      have hT5 := hT4.ext same5
      -- bent
      refine seq_step (fun σ' H' => ∃ (t : Str) (x5 : Option V) (u' r' : Int), σ' = [some (.ref a), some (.ref p), some (.int (0 + (i : Int))), some (.ref l), some (.ref x), x5, x6, x7, x8, x9, some (.str t), x11] ∧ Tabs (tabL Pt) H' ∧ t.length ≤ 3900 ∧ u' ≤ u + 330 ∧ PenAt H' p c ns u' r') (fun R hR => ?_) (fun σ6 H6 h6 => ?_)
      · refine ⟨_, rfl, p, c, ns, u4, r4, 4, rfl, PA5, by omega, by decide, by decide, fun d u5 r5 H6 d0 d1 hu5 PA6 keep6 => ?_⟩
        have hT6 := Tabs.keepP hT5 PA5 keep6
        refine ⟨_, rfl, by omega, by omega, for_range (n := d.toNat) (fun j σ' H' => ∃ (t : Str) (x5 : Option V) (u' r' : Int), σ' = [some (.ref a), some (.ref p), some (.int (0 + (i : Int))), some (.ref l), some (.ref x), x5, x6, x7, x8, x9, some (.str t), x11] ∧ Tabs (tabL Pt) H' ∧ t.length ≤ bendL j ∧ u' ≤ u + 302 + 6 * j ∧ PenAt H' p c ns u' r')
          ⟨t0, x5, u5, r5, rfl, hT6, ht0, by omega, PA6⟩ ?_ (fun σ' H' h => ?_)⟩
        · rintro j σ' H7 hj ⟨t, x5', u7, r7, rfl, hT7, htj, hu7, PA7⟩
          obtain ⟨_, hb2, hb3⟩ := bendL_le (j := j) (by omega)
          exact ⟨_, rfl, _, rfl, p, c, ns, u7, r7, t, bendL j, rfl, PA7, by omega, htj, hb3, hb2 (by omega), fun z u8 r8 H8 hz hu8 PA8 keep8 => ⟨z, _, u8, r8, rfl, Tabs.keepP hT7 PA7 keep8, hz, by omega, PA8⟩⟩
        · obtain ⟨t, x5', u7, r7, rfl, hT7, htj, hu7, PA7⟩ := h
          obtain ⟨hb1, _, _⟩ := bendL_le (j := d.toNat) (by omega)
          exact hR _ _ ⟨t, x5', u7, r7, rfl, hT7, by omega, by omega, PA7⟩
      obtain ⟨t, x5, u6, r6, rfl, hT6, ht, hu6, PA6⟩ := h6
      -- the walk
      refine seq_step (fun σ' H' => σ' = [some (.ref a), some (.ref p), some (.int (0 + (i : Int))), some (.ref l), some (.ref x), x5, some (.int ((walkT t).1 : Int)), some (.bl (walkT t).2), x8, x9, some (.str t), x11] ∧ Same H6 H') (fun R hR => ?_) (fun σ7 H7 h7 => ?_)
      · exact ⟨_, rfl, t, rfl, ht, fun H' T1 same hT1 e1 => ⟨T1, _, rfl, .inl (.inl e1), rfl, _, _, rfl, _, _, rfl, rfl, hR _ _ ⟨rfl, same⟩⟩⟩
      obtain ⟨rfl, same7⟩ := h7
      have PA7 := PA6.same same7
      have hT7 := hT6.ext same7
      -- told
      refine seq_step (fun σ' H' => ∃ Tt : Addr, σ' = [some (.ref a), some (.ref p), some (.int (0 + (i : Int))), some (.ref l), some (.ref x), x5, some (.int ((walkT t).1 : Int)), some (.bl (walkT t).2), some (.ref Tt), x9, some (.str t), x11] ∧ Tabs (tabL Pt) H' ∧ PenAt H' p c ns u6 r6 ∧
          (((walkT t).2 = true ∧ ∃ (m : Addr) (ps : List (Str × Int)), Can ps ∧ txt ps = t ∧ (∀ q ∈ ps, q.2.natAbs < 10 ^ 80) ∧ H' Tt = some (.tup [.str "load", .ref m]) ∧ H' m = some (.dK (cD ps))) ∨
           ((walkT t).2 = false ∧ H' Tt = some (.tup [.str "index", .int ((walkT t).1 : Int), .bl true])))) (fun R hR => ?_) (fun σ8 H8 h8 => ?_)
      · refine lam_text (fun H' Q' q => ⟨_, rfl, q⟩) ht hT7 (fun hw H' Tt m ps eN hT' can htx hb e1 e2 => ?_) (fun hw H' Tt eN hT' e1 => ?_)
        · exact hR _ _ ⟨Tt, rfl, hT', PA7.extN eN, .inl ⟨hw, m, ps, can, htx, hb, e1, e2⟩⟩
        · exact hR _ _ ⟨Tt, rfl, hT', PA7.extN eN, .inr ⟨hw, e1⟩⟩
      obtain ⟨Tt, rfl, hT8, PA8, h8⟩ := h8
      -- the first two tests
      refine seq_step (fun σ' H' => σ' = [some (.ref a), some (.ref p), some (.int (0 + (i : Int))), some (.ref l), some (.ref x), x5, some (.int ((walkT t).1 : Int)), some (.bl (walkT t).2), some (.ref Tt), x9, some (.str t), x11] ∧ Same H8 H') (fun R hR => ?_) (fun σ9 H9 h9 => ?_)
      · rcases h8 with ⟨hw, m, qs, cq, htx, hb, e1, e2⟩ | ⟨hw, e1⟩
        · refine ⟨_, rfl, _, rfl, ?_⟩
          rw [hw]
          refine ⟨_, rfl, Tt, _, 0, .str "load", rfl, rfl, .inl (.inl e1), atI_nat (xs := [V.str "load", .ref m]) (j := 0) rfl, rfl, _, rfl, if_ne ?_⟩
          refine ⟨rfl, _, rfl, Tt, _, 1, .ref m, rfl, rfl, .inl (.inl e1), atI_nat (xs := [V.str "load", .ref m]) (j := 1) rfl, ?_⟩
          dsimp only [tNil]
          refine ⟨_, m, qs, rfl, ⟨e2, cq.nd, cq.few, cq.wd⟩, fun H9 y ps' s9 hy hL hC => ?_⟩
          obtain ⟨dy, ty, hy1, _, cn⟩ := id hL
          have e0 : ps' = qs := can_eq cn cq hC
          rw [e0] at hL
          refine ⟨y, dy, _, rfl, hy1, rfl, y, qs, rfl, hL, fun q hq => Nat.lt_trans (hb q hq) b60, fun H10 s10 => ?_⟩
          rw [htx]
          exact ⟨_, rfl, rfl, _, rfl, if_ne (hR _ _ ⟨by rw [hw], Same.trans s9 s10⟩)⟩
        · refine ⟨_, rfl, _, rfl, ?_⟩
          rw [hw]
          exact hR _ _ ⟨by rw [hw], fun _ _ e => e⟩
      obtain ⟨rfl, same9⟩ := h9
      have PA9 := PA8.same same9
      have hT9 := hT8.ext same9
      refine seq_step (fun σ' H' => σ' = [some (.ref a), some (.ref p), some (.int (0 + (i : Int))), some (.ref l), some (.ref x), x5, some (.int ((walkT t).1 : Int)), some (.bl (walkT t).2), some (.ref Tt), x9, some (.str t), x11] ∧ Same H9 H') (fun R hR => ?_) (fun σ10 H10 h10 => ?_)
      · rcases h8 with ⟨hw, _⟩ | ⟨hw, e1⟩
        · refine ⟨_, rfl, _, rfl, ?_⟩
          rw [hw]
          exact hR _ _ ⟨by rw [hw], fun _ _ e => e⟩
        · refine ⟨_, rfl, _, rfl, ?_⟩
          rw [hw]
          refine ⟨_, rfl, _, rfl, by show 3 ≤ sizeLine; decide, fun T2 hT2 => ?_⟩
          have s2 := same_new (o := .tup [.str "index", .int ((walkT t).1 : Int), .bl true]) hT2
          refine ⟨idxD ((walkT t).1 : Int), idxD ((walkT t).1 : Int), idx_dp (s2 _ _ (same9 _ _ e1)), idx_dp upd_same, idx_shaped _, idx_shaped _, _, rfl, ?_⟩
          rw [idx_eqv]
          exact hR _ _ ⟨by rw [hw], s2⟩
      obtain ⟨rfl, same10⟩ := h10
      have PA10 := PA9.same same10
      have hT10 := hT9.ext same10
      -- odd
      refine seq_step (fun σ' H' => ∃ (v : V) (u' r' : Int), σ' = [some (.ref a), some (.ref p), some (.int (0 + (i : Int))), some (.ref l), some (.ref x), x5, some (.int ((walkT t).1 : Int)), some (.bl (walkT t).2), some (.ref Tt), some v, some (.str t), x11] ∧ Tabs (tabL Pt) H' ∧ OddA C p H' v ∧ u' ≤ u + 340 ∧ PenAt H' p c ns u' r') (fun R hR => ?_) (fun σ11 H11 h11 => ?_)
      · refine ⟨_, rfl, rfl, made_load (y := ["a"]) (zs := [.int 1]) (ps := [("a", 1)]) rfl rfl (by simp) (by decide) (fun q hq => by rw [List.mem_singleton.mp hq]; decide +kernel) fun H11 o ps' s11 ho hL hC => ?_⟩
        have PA11 := PA10.same s11
        obtain ⟨dO, tO, hO, _, _⟩ := id hL
        refine ⟨by show 1 ≤ sizeLine; decide, fun L1 hL1 => ⟨by show 2 ≤ sizeLine; decide, fun l2 hl2 => ?_⟩⟩
        have s12 := same_new (o := .lst [.str "a 1"]) hL1
        have s13 := same_new (o := .lst [.ref o, .ref L1]) hl2
        have PA12 := PA11.same s12
        have PA13 := PA12.same s13
        have hT13 := ((hT10.ext s11).ext s12).ext s13
        refine ⟨p, c, l2, ns, u6, r6, [.ref o, .ref L1], rfl, PA13, by omega, upd_same, by show 2 ≤ 10; decide, fun v hv => ?_, fun v u7 r7 H14 hov hu7 PA14 keep14 => hR _ _ ⟨v, u7, r7, rfl, Tabs.keepP hT13 PA13 keep14, hov, by omega, PA14⟩⟩
        simp only [List.mem_cons, List.not_mem_nil, or_false] at hv
        rcases hv with rfl | rfl
        · exact oddI (s13 _ _ (s12 _ _ hO)) (PA10.nd ho)
        · exact oddL (s13 _ _ upd_same) (PA11.nd hL1)
      obtain ⟨v, u11, r11, rfl, hT11, hov, hu11, PA11⟩ := h11
      -- the third test
      by_cases hs : ∃ z, v = .str z
      · obtain ⟨z, rfl⟩ := hs
        refine ⟨_, rfl, .str z, _, _, _, true, rfl, .ty _, .base (.str _), kit_ty (by decide +kernel), true, rfl, ?_⟩
        exact ⟨⟨_, _, _, _, _, _, _, _, _, _, rfl⟩, hT11, u11, r11, PA11, by omega⟩
      · have hty : ∀ H', OddA C p H' v → ∃ ty, TyX K H' v ty ∧ PySem.W.kitOne K ty (.type "str") = some false := fun H' h => (h.ty T.c S L.nStr).resolve_left hs
        obtain ⟨ty, ht1, hk⟩ := hty _ hov
        refine ⟨_, rfl, v, _, _, _, false, rfl, .ty _, ht1, hk, false, rfl, ?_⟩
        refine lam_odd (fun H' Q' q => ⟨_, rfl, q⟩) hT11 (fun H' eN => hty _ (hov.extN eN)) (fun H12 T3 eN hT12 e3 => ?_)
        refine ⟨by show 3 ≤ sizeLine; decide, fun T2 hT2 => ?_⟩
        have s2 := same_new (o := .tup [.str "index", .int 0, .bl true]) hT2
        refine ⟨idxD 0, idxD 0, idx_dp (s2 _ _ e3), idx_dp upd_same, idx_shaped _, idx_shaped _, _, rfl, ?_⟩
        rw [idx_eqv]
        exact ⟨⟨_, _, _, _, _, _, _, _, _, _, rfl⟩, hT12.ext s2, u11, r11, (PA11.extN eN).same s2, by omega⟩
    obtain ⟨⟨x2, x3, x4, x5, x6, x7, x8, x9, x10, x11, rfl⟩, hT2⟩ := h2
    -- the last look
    refine lam_text (t := "") (fun H' Q' q => q) (by decide +kernel) hT2 (fun hw => by rw [walk_empty] at hw; cases hw) (fun hw H' Tt eN hT' e1 => ?_)
    rw [walk_empty] at e1
    refine ⟨by show 3 ≤ sizeLine; decide, fun T2 hT2 => ?_⟩
    have s2 := same_new (o := .tup [.str "index", .int 0, .bl true]) hT2
    refine ⟨idxD 0, idxD 0, idx_dp (s2 _ _ e1), idx_dp upd_same, idx_shaped _, idx_shaped _, ?_⟩
    rw [idx_eqv]
    exact q _
end
end Ld
namespace Ld
open PySem PySem.Spec PyProof.Rows L2
theorem fin_mk {l : PySem.W.OpenLaw} {w : World} {K : PySem.W.Frag} {h : Heap} {mg : Str → Option Value} {fa : Addr} (X : K.In h) (G : h.Ns mainGlobals mg) (hfa : mg "law" = some (.ref fa))
    {g3 g4 g5 g15 g16 g17 g18 g19 g21 g22 g23 g24 g25 g26 g27 g28 g29 g30 g31 g32 g33 c0 Pt C gm0 q_m1 gm1 q_m2 gm2 q_m4 gm4 gm8 gm17 gm18 CT gx8 : Addr} {od3 an3 od4 an4 od5 an5 od15 an15 od16 an16 od17 an17 od18 an18 od19 an19 od21 an21 od22 an22 od23 an23 od24 an24 od25 an25 od26 an26 od27 an27 od28 an28 od29 an29 od30 an30 od31 an31 od32 an32 od33 an33 odm0 anm0 odm1 anm1 odm2 anm2 odm4 anm4 odm8 anm8 odm17 anm17 odm18 anm18 odx8 anx8 : Option Addr} {sl3 sl4 sl5 sl15 sl16 sl17 sl18 sl19 sl21 sl22 sl23 sl24 sl25 sl26 sl27 sl28 sl29 sl30 sl31 sl32 sl33 slm0 slm1 slm2 slm4 slm8 slm17 slm18 slx8 : Array (Option Value)} {oc3 kV3 dc3 pm3 cd3 ct3 oc4 kV4 dc4 pm4 cd4 ct4 oc5 kV5 dc5 pm5 cd5 ct5 oc15 kV15 dc15 pm15 cd15 ct15 oc16 kV16 dc16 pm16 cd16 ct16 oc17 kV17 dc17 pm17 cd17 ct17 oc18 kV18 dc18 pm18 cd18 ct18 oc19 kV19 dc19 pm19 cd19 ct19 oc21 kV21 dc21 pm21 cd21 ct21 oc22 kV22 dc22 pm22 cd22 ct22 oc23 kV23 dc23 pm23 cd23 ct23 oc24 kV24 dc24 pm24 cd24 ct24 oc25 kV25 dc25 pm25 cd25 ct25 oc26 kV26 dc26 pm26 cd26 ct26 oc27 kV27 dc27 pm27 cd27 ct27 oc28 kV28 dc28 pm28 cd28 ct28 oc29 kV29 dc29 pm29 cd29 ct29 oc30 kV30 dc30 pm30 cd30 ct30 oc31 kV31 dc31 pm31 cd31 ct31 oc32 kV32 dc32 pm32 cd32 ct32 oc33 kV33 dc33 pm33 ct33 ocm0 kVm0 dcm0 pmm0 cdm0 ctm0 ocm1 kVm1 dcm1 pmm1 cdm1 ctm1 ocm2 kVm2 dcm2 pmm2 cdm2 ctm2 ocm4 kVm4 dcm4 pmm4 cdm4 ctm4 ocm8 kVm8 dcm8 pmm8 cdm8 ctm8 ocm17 kVm17 dcm17 pmm17 cdm17 ctm17 ocm18 kVm18 dcm18 pmm18 cdm18 ctm18 ocx8 kVx8 dcx8 pmx8 cdx8 ctx8 : Value} {foM roM : Option Value} {tM tD tE tO tZ : Tok} {nmT qT : Str} {NT : Addr} {bsT snL : List Value} {snT : List Str} {abT : Bool} {coT : Option Bool} {ddT : Option Addr} {k0T k1T k2T k3T k5T : Option Value} {rm1 rm2 rm4 : List Value}
    (a3 : PySem.W.nsIn K mainGlobals "is_integer" = some (some (.ref g3)))
    (l3 : K.lookup g3 = some ⟨oc3, od3, .func (PySem.W.fnOf "is_integer" "is_integer" (defArgs (top 3)) (defBody (top 3)) (defScope (top 3)) .none kV3 dc3 pm3 an3 cd3 ct3), sl3⟩)
    (c3 : PySem.W.codeIn K cd3 "is_integer" = true)
    (k3 : PySem.W.keepIn K (.ref g3) = true)
    (a4 : PySem.W.nsIn K mainGlobals "is_word" = some (some (.ref g4)))
    (l4 : K.lookup g4 = some ⟨oc4, od4, .func (PySem.W.fnOf "is_word" "is_word" (defArgs (top 4)) (defBody (top 4)) (defScope (top 4)) .none kV4 dc4 pm4 an4 cd4 ct4), sl4⟩)
    (c4 : PySem.W.codeIn K cd4 "is_word" = true)
    (k4 : PySem.W.keepIn K (.ref g4) = true)
    (a5 : PySem.W.nsIn K mainGlobals "ascending" = some (some (.ref g5)))
    (l5 : K.lookup g5 = some ⟨oc5, od5, .func (PySem.W.fnOf "ascending" "ascending" (defArgs (top 5)) (defBody (top 5)) (defScope (top 5)) .none kV5 dc5 pm5 an5 cd5 ct5), sl5⟩)
    (c5 : PySem.W.codeIn K cd5 "ascending" = true)
    (k5 : PySem.W.keepIn K (.ref g5) = true)
    (a15 : PySem.W.nsIn K mainGlobals "check_counts" = some (some (.ref g15)))
    (l15 : K.lookup g15 = some ⟨oc15, od15, .func (PySem.W.fnOf "check_counts" "check_counts" (defArgs (top 15)) (defBody (top 15)) (defScope (top 15)) .none kV15 dc15 pm15 an15 cd15 ct15), sl15⟩)
    (c15 : PySem.W.codeIn K cd15 "check_counts" = true)
    (k15 : PySem.W.keepIn K (.ref g15) = true)
    (a16 : PySem.W.nsIn K mainGlobals "tidy_counts" = some (some (.ref g16)))
    (l16 : K.lookup g16 = some ⟨oc16, od16, .func (PySem.W.fnOf "tidy_counts" "tidy_counts" (defArgs (top 16)) (defBody (top 16)) (defScope (top 16)) .none kV16 dc16 pm16 an16 cd16 ct16), sl16⟩)
    (c16 : PySem.W.codeIn K cd16 "tidy_counts" = true)
    (k16 : PySem.W.keepIn K (.ref g16) = true)
    (a17 : PySem.W.nsIn K mainGlobals "read_counts" = some (some (.ref g17)))
    (l17 : K.lookup g17 = some ⟨oc17, od17, .func (PySem.W.fnOf "read_counts" "read_counts" (defArgs (top 17)) (defBody (top 17)) (defScope (top 17)) .none kV17 dc17 pm17 an17 cd17 ct17), sl17⟩)
    (c17 : PySem.W.codeIn K cd17 "read_counts" = true)
    (k17 : PySem.W.keepIn K (.ref g17) = true)
    (a18 : PySem.W.nsIn K mainGlobals "kind_reach" = some (some (.ref g18)))
    (l18 : K.lookup g18 = some ⟨oc18, od18, .func (PySem.W.fnOf "kind_reach" "kind_reach" (defArgs (top 18)) (defBody (top 18)) (defScope (top 18)) .none kV18 dc18 pm18 an18 cd18 ct18), sl18⟩)
    (c18 : PySem.W.codeIn K cd18 "kind_reach" = true)
    (k18 : PySem.W.keepIn K (.ref g18) = true)
    (a19 : PySem.W.nsIn K mainGlobals "count_reach" = some (some (.ref g19)))
    (l19 : K.lookup g19 = some ⟨oc19, od19, .func (PySem.W.fnOf "count_reach" "count_reach" (defArgs (top 19)) (defBody (top 19)) (defScope (top 19)) .none kV19 dc19 pm19 an19 cd19 ct19), sl19⟩)
    (c19 : PySem.W.codeIn K cd19 "count_reach" = true)
    (k19 : PySem.W.keepIn K (.ref g19) = true)
    (a21 : PySem.W.nsIn K mainGlobals "_law_pen" = some (some (.ref g21)))
    (l21 : K.lookup g21 = some ⟨oc21, od21, .func (PySem.W.fnOf "_law_pen" "_law_pen" (defArgs (top 21)) (defBody (top 21)) (defScope (top 21)) .none kV21 dc21 pm21 an21 cd21 ct21), sl21⟩)
    (c21 : PySem.W.codeIn K cd21 "_law_pen" = true)
    (k21 : PySem.W.keepIn K (.ref g21) = true)
    (a22 : PySem.W.nsIn K mainGlobals "_law_draw" = some (some (.ref g22)))
    (l22 : K.lookup g22 = some ⟨oc22, od22, .func (PySem.W.fnOf "_law_draw" "_law_draw" (defArgs (top 22)) (defBody (top 22)) (defScope (top 22)) .none kV22 dc22 pm22 an22 cd22 ct22), sl22⟩)
    (c22 : PySem.W.codeIn K cd22 "_law_draw" = true)
    (k22 : PySem.W.keepIn K (.ref g22) = true)
    (a23 : PySem.W.nsIn K mainGlobals "_law_pick" = some (some (.ref g23)))
    (l23 : K.lookup g23 = some ⟨oc23, od23, .func (PySem.W.fnOf "_law_pick" "_law_pick" (defArgs (top 23)) (defBody (top 23)) (defScope (top 23)) .none kV23 dc23 pm23 an23 cd23 ct23), sl23⟩)
    (c23 : PySem.W.codeIn K cd23 "_law_pick" = true)
    (k23 : PySem.W.keepIn K (.ref g23) = true)
    (a24 : PySem.W.nsIn K mainGlobals "_law_words" = some (some (.ref g24)))
    (l24 : K.lookup g24 = some ⟨oc24, od24, .func (PySem.W.fnOf "_law_words" "_law_words" (defArgs (top 24)) (defBody (top 24)) (defScope (top 24)) .none kV24 dc24 pm24 an24 cd24 ct24), sl24⟩)
    (c24 : PySem.W.codeIn K cd24 "_law_words" = true)
    (k24 : PySem.W.keepIn K (.ref g24) = true)
    (a25 : PySem.W.nsIn K mainGlobals "_law_great" = some (some (.ref g25)))
    (l25 : K.lookup g25 = some ⟨oc25, od25, .func (PySem.W.fnOf "_law_great" "_law_great" (defArgs (top 25)) (defBody (top 25)) (defScope (top 25)) .none kV25 dc25 pm25 an25 cd25 ct25), sl25⟩)
    (c25 : PySem.W.codeIn K cd25 "_law_great" = true)
    (k25 : PySem.W.keepIn K (.ref g25) = true)
    (a26 : PySem.W.nsIn K mainGlobals "_law_times" = some (some (.ref g26)))
    (l26 : K.lookup g26 = some ⟨oc26, od26, .func (PySem.W.fnOf "_law_times" "_law_times" (defArgs (top 26)) (defBody (top 26)) (defScope (top 26)) .none kV26 dc26 pm26 an26 cd26 ct26), sl26⟩)
    (c26 : PySem.W.codeIn K cd26 "_law_times" = true)
    (k26 : PySem.W.keepIn K (.ref g26) = true)
    (a27 : PySem.W.nsIn K mainGlobals "_law_any_value" = some (some (.ref g27)))
    (l27 : K.lookup g27 = some ⟨oc27, od27, .func (PySem.W.fnOf "_law_any_value" "_law_any_value" (defArgs (top 27)) (defBody (top 27)) (defScope (top 27)) .none kV27 dc27 pm27 an27 cd27 ct27), sl27⟩)
    (c27 : PySem.W.codeIn K cd27 "_law_any_value" = true)
    (k27 : PySem.W.keepIn K (.ref g27) = true)
    (a28 : PySem.W.nsIn K mainGlobals "_law_whole" = some (some (.ref g28)))
    (l28 : K.lookup g28 = some ⟨oc28, od28, .func (PySem.W.fnOf "_law_whole" "_law_whole" (defArgs (top 28)) (defBody (top 28)) (defScope (top 28)) .none kV28 dc28 pm28 an28 cd28 ct28), sl28⟩)
    (c28 : PySem.W.codeIn K cd28 "_law_whole" = true)
    (k28 : PySem.W.keepIn K (.ref g28) = true)
    (a29 : PySem.W.nsIn K mainGlobals "_law_beyond" = some (some (.ref g29)))
    (l29 : K.lookup g29 = some ⟨oc29, od29, .func (PySem.W.fnOf "_law_beyond" "_law_beyond" (defArgs (top 29)) (defBody (top 29)) (defScope (top 29)) .none kV29 dc29 pm29 an29 cd29 ct29), sl29⟩)
    (c29 : PySem.W.codeIn K cd29 "_law_beyond" = true)
    (k29 : PySem.W.keepIn K (.ref g29) = true)
    (a30 : PySem.W.nsIn K mainGlobals "_law_walk" = some (some (.ref g30)))
    (l30 : K.lookup g30 = some ⟨oc30, od30, .func (PySem.W.fnOf "_law_walk" "_law_walk" (defArgs (top 30)) (defBody (top 30)) (defScope (top 30)) .none kV30 dc30 pm30 an30 cd30 ct30), sl30⟩)
    (c30 : PySem.W.codeIn K cd30 "_law_walk" = true)
    (k30 : PySem.W.keepIn K (.ref g30) = true)
    (a31 : PySem.W.nsIn K mainGlobals "_law_told" = some (some (.ref g31)))
    (l31 : K.lookup g31 = some ⟨oc31, od31, .func (PySem.W.fnOf "_law_told" "_law_told" (defArgs (top 31)) (defBody (top 31)) (defScope (top 31)) .none kV31 dc31 pm31 an31 cd31 ct31), sl31⟩)
    (c31 : PySem.W.codeIn K cd31 "_law_told" = true)
    (k31 : PySem.W.keepIn K (.ref g31) = true)
    (a32 : PySem.W.nsIn K mainGlobals "_law_bent" = some (some (.ref g32)))
    (l32 : K.lookup g32 = some ⟨oc32, od32, .func (PySem.W.fnOf "_law_bent" "_law_bent" (defArgs (top 32)) (defBody (top 32)) (defScope (top 32)) .none kV32 dc32 pm32 an32 cd32 ct32), sl32⟩)
    (c32 : PySem.W.codeIn K cd32 "_law_bent" = true)
    (k32 : PySem.W.keepIn K (.ref g32) = true)
    (a33 : PySem.W.nsIn K mainGlobals "law" = some (some (.ref g33)))
    (l33 : K.lookup g33 = some ⟨oc33, od33, .func (PySem.W.fnOf "law" "law" (defArgs (top 33)) (defBody (top 33)) (defScope (top 33)) .none kV33 dc33 pm33 an33 (.ref c0) ct33), sl33⟩)
    (c33 : PySem.W.codeIn K (.ref c0) "law" = true)
    (z_int : PySem.W.nsIn K mainGlobals "int" = some none)
    (z_abs : PySem.W.nsIn K mainGlobals "abs" = some none)
    (z_list : PySem.W.nsIn K mainGlobals "list" = some none)
    (z_len : PySem.W.nsIn K mainGlobals "len" = some none)
    (z_range : PySem.W.nsIn K mainGlobals "range" = some none)
    (z_str : PySem.W.nsIn K mainGlobals "str" = some none)
    (z_bool : PySem.W.nsIn K mainGlobals "bool" = some none)
    (z_sorted : PySem.W.nsIn K mainGlobals "sorted" = some none)
    (z_isinstance : PySem.W.nsIn K mainGlobals "isinstance" = some none)
    (z_all : PySem.W.nsIn K mainGlobals "all" = some none)
    (z_dict : PySem.W.nsIn K mainGlobals "dict" = some none)
    (z_min : PySem.W.nsIn K mainGlobals "min" = some none)
    (z_max : PySem.W.nsIn K mainGlobals "max" = some none)
    (z_repr : PySem.W.nsIn K mainGlobals "repr" = some none)
    (aC : PySem.W.nsIn K mainGlobals "Load" = some (some (.ref C)))
    (pgC : PySem.W.plainGet K C Str.empty = true)
    (hdC : PySem.W.hasDictIn K C = true)
    (poC : PySem.W.plainOver K C = true)
    (saC : PySem.W.findIn K (.ref C) "__setattr__" = some (some (.builtin "object.__setattr__")))
    (ncC : PySem.W.findIn K (.ref C) "_counts" = some none)
    (mkC : PySem.W.makesIn K C = true)
    (kpC : PySem.W.keepIn K (.ref C) = true)
    (caC : PySem.W.findIn K (.ref C) "__class__" = some (some (.builtin "object.__class__")))
    (cnC : PySem.W.specialIn K (.builtin "object.__class__") "__get__" = some (some (.builtin "getset_descriptor.__get__")))
    (ctC : PySem.W.takesIn K (.builtin "object.__class__") = some true)
    (cmC : PySem.W.mroIn K C (.type "object") = some true)
    (neC : PySem.W.findIn K (.ref C) "__ne__" = some (some (.builtin "object.__ne__")))
    (icC : PySem.W.isClsIn K C = true)
    (tyC : PySem.W.typeIn K (.ref C) = some (.type "type"))
    (rdC : PySem.W.readsIn K C (.type "type") = true)
    (gaC : PySem.W.specialIn K (.ref C) "__getattribute__" = some (some (.builtin "type.__getattribute__")))
    (nsC : PySem.W.subIn K (.ref C) (.type "str") = some false)
    (am0 : PySem.W.findIn K (.ref C) "__init__" = some (some (.ref gm0)))
    (lm0 : K.lookup gm0 = some ⟨ocm0, odm0, .func (PySem.W.fnOf "__init__" "Load.__init__" (defArgs (inClass (top 14) 0)) (defBody (inClass (top 14) 0)) (defScope (inClass (top 14) 0)) .none kVm0 dcm0 pmm0 anm0 cdm0 ctm0), slm0⟩)
    (cm0 : PySem.W.codeIn K cdm0 "Load.__init__" = true)
    (km0 : PySem.W.keepIn K (.ref gm0) = true)
    (fm0 : PySem.W.fnIn K gm0 = true)
    (im0 : PySem.W.isFn K (.ref gm0) = true)
    (am1 : PySem.W.findCls K (.ref C) (.type "type") "of" = some (.get (.builtin "classmethod.__get__") (.ref q_m1) .none (.ref C)))
    (rcm1 : PySem.W.recIn K q_m1 "classmethod" = some (.ref gm1 :: rm1))
    (lm1 : K.lookup gm1 = some ⟨ocm1, odm1, .func (PySem.W.fnOf "of" "Load.of" (defArgs (inClass (top 14) 1)) (defBody (inClass (top 14) 1)) (defScope (inClass (top 14) 1)) .none kVm1 dcm1 pmm1 anm1 cdm1 ctm1), slm1⟩)
    (cm1 : PySem.W.codeIn K cdm1 "Load.of" = true)
    (km1 : PySem.W.keepIn K (.ref gm1) = true)
    (fm1 : PySem.W.fnIn K gm1 = true)
    (am2 : PySem.W.findCls K (.ref C) (.type "type") "read" = some (.get (.builtin "classmethod.__get__") (.ref q_m2) .none (.ref C)))
    (rcm2 : PySem.W.recIn K q_m2 "classmethod" = some (.ref gm2 :: rm2))
    (lm2 : K.lookup gm2 = some ⟨ocm2, odm2, .func (PySem.W.fnOf "read" "Load.read" (defArgs (inClass (top 14) 2)) (defBody (inClass (top 14) 2)) (defScope (inClass (top 14) 2)) .none kVm2 dcm2 pmm2 anm2 cdm2 ctm2), slm2⟩)
    (cm2 : PySem.W.codeIn K cdm2 "Load.read" = true)
    (km2 : PySem.W.keepIn K (.ref gm2) = true)
    (fm2 : PySem.W.fnIn K gm2 = true)
    (am4 : PySem.W.findIn K (.ref C) "counts" = some (some (.ref q_m4)))
    (rcm4 : PySem.W.recIn K q_m4 "property" = some (.ref gm4 :: rm4))
    (lm4 : K.lookup gm4 = some ⟨ocm4, odm4, .func (PySem.W.fnOf "counts" "Load.counts" (defArgs (inClass (top 14) 4)) (defBody (inClass (top 14) 4)) (defScope (inClass (top 14) 4)) .none kVm4 dcm4 pmm4 anm4 cdm4 ctm4), slm4⟩)
    (cm4 : PySem.W.codeIn K cdm4 "Load.counts" = true)
    (km4 : PySem.W.keepIn K (.ref gm4) = true)
    (gem4 : PySem.W.specialIn K (.ref q_m4) "__get__" = some (some (.builtin "property.__get__")))
    (tkm4 : PySem.W.takesIn K (.ref q_m4) = some true)
    (sfC : PySem.W.selfFirst K C = true)
    (iM : PySem.W.findIn K (.type "int") "__mul__" = some foM)
    (iR : PySem.W.findIn K (.type "int") "__rmul__" = some roM)
    (niC : PySem.W.mroIn K C (.type "int") = some false)
    (suC : PySem.W.subIn K (.type "int") (.ref C) = some false)
    (am8 : PySem.W.findIn K (.ref C) "text" = some (some (.ref gm8)))
    (lm8 : K.lookup gm8 = some ⟨ocm8, odm8, .func (PySem.W.fnOf "text" "Load.text" (defArgs (inClass (top 14) 8)) (defBody (inClass (top 14) 8)) (defScope (inClass (top 14) 8)) .none kVm8 dcm8 pmm8 anm8 cdm8 ctm8), slm8⟩)
    (cm8 : PySem.W.codeIn K cdm8 "Load.text" = true)
    (km8 : PySem.W.keepIn K (.ref gm8) = true)
    (fm8 : PySem.W.fnIn K gm8 = true)
    (im8 : PySem.W.isFn K (.ref gm8) = true)
    (am17 : PySem.W.findIn K (.ref C) "__mul__" = some (some (.ref gm17)))
    (lm17 : K.lookup gm17 = some ⟨ocm17, odm17, .func (PySem.W.fnOf "__mul__" "Load.__mul__" (defArgs (inClass (top 14) 17)) (defBody (inClass (top 14) 17)) (defScope (inClass (top 14) 17)) .none kVm17 dcm17 pmm17 anm17 cdm17 ctm17), slm17⟩)
    (cm17 : PySem.W.codeIn K cdm17 "Load.__mul__" = true)
    (km17 : PySem.W.keepIn K (.ref gm17) = true)
    (fm17 : PySem.W.fnIn K gm17 = true)
    (im17 : PySem.W.isFn K (.ref gm17) = true)
    (am18 : PySem.W.findIn K (.ref C) "__rmul__" = some (some (.ref gm18)))
    (lm18 : K.lookup gm18 = some ⟨ocm18, odm18, .func (PySem.W.fnOf "__rmul__" "Load.__rmul__" (defArgs (inClass (top 14) 18)) (defBody (inClass (top 14) 18)) (defScope (inClass (top 14) 18)) .none kVm18 dcm18 pmm18 anm18 cdm18 ctm18), slm18⟩)
    (cm18 : PySem.W.codeIn K cdm18 "Load.__rmul__" = true)
    (km18 : PySem.W.keepIn K (.ref gm18) = true)
    (fm18 : PySem.W.fnIn K gm18 = true)
    (im18 : PySem.W.isFn K (.ref gm18) = true)
    (cM : PySem.W.nsIn K mainGlobals "MOST_LETTERS" = some (some (.int 8 tM)))
    (cDg : PySem.W.nsIn K mainGlobals "DIGITS" = some (some (.str "0123456789" tD)))
    (cMD : PySem.W.nsIn K mainGlobals "MOST_DIGITS" = some (some (.int 80 tE)))
    (cNo : PySem.W.nsIn K mainGlobals "NOTHING" = some (some (.str "-" tO)))
    (cLk : PySem.W.nsIn K mainGlobals "LAST_KIND" = some (some (.str "zzzzzzzz" tZ)))
    (aT : PySem.W.nsIn K mainGlobals "InvalidText" = some (some (.ref CT)))
    (xT : K.lookup CT = some (excClassObj nmT qT CT NT bsT PySem.HandSPX.veTail true snT snL abT coT ddT k0T k1T k2T k3T k5T "ValueError.__new__"))
    (saT : PySem.W.findIn K (.ref CT) "__setattr__" = some (some (.builtin "object.__setattr__")))
    (exT : PySem.W.subIn K (.ref CT) (.type "BaseException") = some true)
    (tyT : PySem.W.typeIn K (.ref CT) = some (.type "type"))
    (kpT : PySem.W.keepIn K (.ref CT) = true)
    (ax8 : PySem.W.findIn K (.ref CT) "__init__" = some (some (.ref gx8)))
    (lx8 : K.lookup gx8 = some ⟨ocx8, odx8, .func (PySem.W.fnOf "__init__" "InvalidText.__init__" (defArgs (inClass (top 8) 0)) (defBody (inClass (top 8) 0)) (defScope (inClass (top 8) 0)) .none kVx8 dcx8 pmx8 anx8 cdx8 ctx8), slx8⟩)
    (cx8 : PySem.W.codeIn K cdx8 "InvalidText.__init__" = true)
    (kx8 : PySem.W.keepIn K (.ref gx8) = true)
    (tfT : PySem.W.typeIn K (.ref gx8) = some (.type "function"))
    (z_ValueError : PySem.W.nsIn K mainGlobals "ValueError" = some none)
    (vV : PySem.W.findCls K (.type "ValueError") (.type "type") "__init__" = some (.val (.builtin "ValueError.__init__")))
    (noT : PySem.W.findIn K (.ref CT) "index" = some none)
    (gaT : PySem.W.findIn K (.ref CT) "__getattribute__" = some (some (.builtin "BaseException.__getattribute__")))
    (ggT : PySem.W.findIn K (.ref CT) "__getattr__" = some none)
    (hdT : PySem.W.hasDictIn K CT = true)
    (caT : PySem.W.findIn K (.ref CT) "__class__" = some (some (.builtin "object.__class__")))
    (moT : PySem.W.mroIn K CT (.type "object") = some true)
    (seT : PySem.W.subIn K (.ref CT) (.ref CT) = some true)
    (svT : PySem.W.subIn K (.ref CT) (.type "ValueError") = some true)
    (hP : h.get? Pt = some (PySem.W.tabObj #[])) (nP : K.lookup Pt = none) (hC : PySem.W.codeHdIn K c0 Pt = true)
    : LamX.LawAtS l w K CX0 9 63 "_law_script" mg fa h := by
  have D3 := fun_mk (st := top 3) l3 c3 k3
  have b3 := D3.binds (ps := ["value"]) fun _ _ _ _ _ _ us hl => match us, hl with | [_], _ => rfl
  have D4 := fun_mk (st := top 4) l4 c4 k4
  have b4 := D4.binds (ps := ["value"]) fun _ _ _ _ _ _ us hl => match us, hl with | [_], _ => rfl
  have D5 := fun_mk (st := top 5) l5 c5 k5
  have b5 := D5.binds (ps := ["words"]) fun _ _ _ _ _ _ us hl => match us, hl with | [_], _ => rfl
  have D15 := fun_mk (st := top 15) l15 c15 k15
  have b15 := D15.binds (ps := ["counts"]) fun _ _ _ _ _ _ us hl => match us, hl with | [_], _ => rfl
  have D16 := fun_mk (st := top 16) l16 c16 k16
  have b16 := D16.binds (ps := ["counts"]) fun _ _ _ _ _ _ us hl => match us, hl with | [_], _ => rfl
  have D17 := fun_mk (st := top 17) l17 c17 k17
  have b17 := D17.binds (ps := ["text"]) fun _ _ _ _ _ _ us hl => match us, hl with | [_], _ => rfl
  have D18 := fun_mk (st := top 18) l18 c18 k18
  have b18 := D18.binds (ps := ["part", "last"]) fun _ _ _ _ _ _ us hl => match us, hl with | [_, _], _ => rfl
  have D19 := fun_mk (st := top 19) l19 c19 k19
  have b19 := D19.binds (ps := ["part"]) fun _ _ _ _ _ _ us hl => match us, hl with | [_], _ => rfl
  have D21 := fun_mk (st := top 21) l21 c21 k21
  have b21 := D21.binds (ps := ["_law_script"]) fun _ _ _ _ _ _ us hl => match us, hl with | [_], _ => rfl
  have D22 := fun_mk (st := top 22) l22 c22 k22
  have b22 := D22.binds (ps := ["_law_pen_here", "_law_many"]) fun _ _ _ _ _ _ us hl => match us, hl with | [_, _], _ => rfl
  have D23 := fun_mk (st := top 23) l23 c23 k23
  have b23 := D23.binds (ps := ["_law_pen_here", "_law_options"]) fun _ _ _ _ _ _ us hl => match us, hl with | [_, _], _ => rfl
  have D24 := fun_mk (st := top 24) l24 c24 k24
  have b24 := D24.binds (ps := ["_law_pen_here", "_law_many"]) fun _ _ _ _ _ _ us hl => match us, hl with | [_, _], _ => rfl
  have D25 := fun_mk (st := top 25) l25 c25 k25
  have b25 := D25.binds (ps := ["_law_pen_here", "_law_figures"]) fun _ _ _ _ _ _ us hl => match us, hl with | [_, _], _ => rfl
  have D26 := fun_mk (st := top 26) l26 c26 k26
  have b26 := D26.binds (ps := ["_law_pen_here"]) fun _ _ _ _ _ _ us hl => match us, hl with | [_], _ => rfl
  have D27 := fun_mk (st := top 27) l27 c27 k27
  have b27 := D27.binds (ps := ["_law_pen_here", "_law_some"]) fun _ _ _ _ _ _ us hl => match us, hl with | [_, _], _ => rfl
  have D28 := fun_mk (st := top 28) l28 c28 k28
  have b28 := D28.binds (ps := ["_law_pen_here"]) fun _ _ _ _ _ _ us hl => match us, hl with | [_], _ => rfl
  have D29 := fun_mk (st := top 29) l29 c29 k29
  have b29 := D29.binds (ps := ["_law_begun", "_law_last"]) fun _ _ _ _ _ _ us hl => match us, hl with | [_, _], _ => rfl
  have D30 := fun_mk (st := top 30) l30 c30 k30
  have b30 := D30.binds (ps := ["_law_text"]) fun _ _ _ _ _ _ us hl => match us, hl with | [_], _ => rfl
  have D31 := fun_mk (st := top 31) l31 c31 k31
  have b31 := D31.binds (ps := ["_law_call"]) fun _ _ _ _ _ _ us hl => match us, hl with | [_], _ => rfl
  have D32 := fun_mk (st := top 32) l32 c32 k32
  have b32 := D32.binds (ps := ["_law_pen_here", "_law_text"]) fun _ _ _ _ _ _ us hl => match us, hl with | [_, _], _ => rfl
  have Dm0 := fun_mk (st := inClass (top 14) 0) lm0 cm0 km0
  have Dm1 := fun_mk (st := inClass (top 14) 1) lm1 cm1 km1
  have bm1 := Dm1.binds (ps := ["cls", "counts"]) fun _ _ _ _ _ _ us hl => match us, hl with | [_, _], _ => rfl
  have Dm2 := fun_mk (st := inClass (top 14) 2) lm2 cm2 km2
  have bm2 := Dm2.binds (ps := ["cls", "text"]) fun _ _ _ _ _ _ us hl => match us, hl with | [_, _], _ => rfl
  have Dm4 := fun_mk (st := inClass (top 14) 4) lm4 cm4 km4
  have bm4 := Dm4.binds (ps := ["self"]) fun _ _ _ _ _ _ us hl => match us, hl with | [_], _ => rfl
  have Dm8 := fun_mk (st := inClass (top 14) 8) lm8 cm8 km8
  have bm8 := Dm8.binds (ps := ["self"]) fun _ _ _ _ _ _ us hl => match us, hl with | [_], _ => rfl
  have Dm17 := fun_mk (st := inClass (top 14) 17) lm17 cm17 km17
  have bm17 := Dm17.binds (ps := ["self", "other"]) fun _ _ _ _ _ _ us hl => match us, hl with | [_, _], _ => rfl
  have Dm18 := fun_mk (st := inClass (top 14) 18) lm18 cm18 km18
  have bm18 := Dm18.binds (ps := ["self", "other"]) fun _ _ _ _ _ _ us hl => match us, hl with | [_, _], _ => rfl
  have Dx8 := fun_mk (st := inClass (top 8) 0) lx8 cx8 kx8
  have bx8 := Dx8.binds (ps := ["self", "index"]) fun _ _ _ _ _ _ us hl => match us, hl with | [_, _], _ => rfl
  have e := hfa.symm.trans (PySem.W.mg_of X G a33)
  cases e
  have N := fun {x : Str} (z : PySem.W.nsIn K mainGlobals x = some none) => PySem.W.mg_none_of X G z
  have B : Blt mg := ⟨N z_int, N z_abs, N z_list, N z_len, N z_range⟩
  have B2 : Blt2 mg := ⟨N z_str, N z_bool, N z_sorted, N z_isinstance, N z_all, N z_dict⟩
  have B3 : Blt3 mg := ⟨N z_min, N z_max, N z_repr⟩
  have mM : ∃ t, mg "MOST_LETTERS" = some (.int 8 t) := ⟨_, PySem.W.mg_of X G cM⟩
  have mDg : ∃ t, mg "DIGITS" = some (.str "0123456789" t) := ⟨_, PySem.W.mg_of X G cDg⟩
  have mMD : ∃ t, mg "MOST_DIGITS" = some (.int 80 t) := ⟨_, PySem.W.mg_of X G cMD⟩
  have mNo : ∃ t, mg "NOTHING" = some (.str "-" t) := ⟨_, PySem.W.mg_of X G cNo⟩
  have mLk : ∃ t, mg "LAST_KIND" = some (.str "zzzzzzzz" t) := ⟨_, PySem.W.mg_of X G cLk⟩
  refine ⟨PySem.W.fnOf "law" "law" (defArgs (top 33)) (defBody (top 33)) (defScope (top 33)) .none kV33 dc33 pm33 an33 (.ref c0) ct33, [(c0, Pt)], spLaw K Pt, fun p hp => by rw [List.mem_singleton.mp hp]; exact hP, fun p hp => by rw [List.mem_singleton.mp hp]; exact nP, fun p hp => by rw [List.mem_singleton.mp hp]; exact PySem.W.codeHd_of_K X hC, fun s v => .of_eq rfl, fun H a ns hl _ hH hS => ⟨a, ns, rfl, hS, hl, hH (c0, Pt) List.mem_cons_self, fun _ => rfl⟩, fun base KB GB hTB => ?_⟩
  have H_ascending : Has l.prog w K mg base 1 "ascending" ["words"] spAsc := ⟨g5, _, ok_asc D5 B2, b5, PySem.W.mg_of X G a5, k5⟩
  have H_is_word : Has l.prog w K mg base 1 "is_word" ["value"] (spIsWord K) := ⟨g4, _, ok_isWord D4 B2 B.len mM, b4, PySem.W.mg_of X G a4, k4⟩
  have H_is_integer : Has l.prog w K mg base 1 "is_integer" ["value"] (spIsInt K) := ⟨g3, _, ok_isInt D3 B2 B.int, b3, PySem.W.mg_of X G a3, k3⟩
  have H_check_counts : Has l.prog w K mg base 2 "check_counts" ["counts"] spCheck := ⟨g15, _, ok_check D15 H_ascending H_is_word H_is_integer, b15, PySem.W.mg_of X G a15, k15⟩
  have H_tidy_counts : Has l.prog w K mg base 2 "tidy_counts" ["counts"] spTidy := ⟨g16, _, ok_tidy D16 H_ascending, b16, PySem.W.mg_of X G a16, k16⟩
  have H_kind_reach : Has l.prog w K mg base 1 "kind_reach" ["part", "last"] spKrX := ⟨g18, _, ok_krX D18 mM mLk, b18, PySem.W.mg_of X G a18, k18⟩
  have H_count_reach : Has l.prog w K mg base 1 "count_reach" ["part"] spCrX := ⟨g19, _, ok_crX D19 mDg mMD, b19, PySem.W.mg_of X G a19, k19⟩
  have OX : OexC K CT := ⟨⟨nmT, qT, NT, bsT, PySem.HandSPX.veTail, snT, snL, abT, coT, ddT, k0T, k1T, k2T, k3T, k5T, xT, by rfl⟩, saT, exT, tyT, kpT⟩
  have FT := ok_xt (P := l.prog) (w := w) (base := base) Dx8 OX (N z_ValueError) vV noT
  have XT : XCls K mg "InvalidText" CT gx8 := ⟨OX, ax8, tfT, PySem.W.mg_of X G aT, N z_ValueError, vV⟩
  have HR : HasX l.prog w K mg base 3 "read_counts" ["text"] (spRcX CT) := ⟨g17, _, ok_rcX D17 B mLk H_kind_reach H_count_reach XT FT bx8, b17, PySem.W.mg_of X G a17, k17⟩
  have T : LoadC K mg C gm0 := ⟨⟨pgC, hdC, poC, saC⟩, ncC, ⟨mkC, am0, im0, kpC⟩, PySem.W.mg_of X G aC⟩
  have S : SlX.SIsi K C := ⟨caC, cnC, ctC, cmC⟩
  have I0 := ok_init0 (P := l.prog) (w := w) (base := base) Dm0 T H_check_counts H_tidy_counts
  have RD : ClX.CRead K C (.type "type") := ⟨rdC, gaC⟩
  have HO : HasC l.prog w K mg base 5 C "of" (spOf C) := ⟨.type "type", q_m1, gm1, RD, ⟨am1, ⟨_, rcm1⟩, fm1⟩, fnR_of (ok_of Dm1 T B2 I0 H_check_counts H_tidy_counts) bm1⟩
  have kVE : PySem.W.kitOne K (.ref CT) (.type "ValueError") = some true := by
    unfold PySem.W.kitOne PySem.W.kitCls
    rw [if_neg (by intro q; exact nomatch (show Value.ref CT = Value.type "ValueError" from beq_iff_eq.mp q))]
    show (if PySem.W.kitMeta "ValueError" = true then PySem.W.subIn K (.ref CT) (.type "ValueError") else none) = _
    rw [if_pos (by decide +kernel)]
    exact svT
  have L : LoadT l.prog w K mg base C gm0 gm17 gm18 CT := {
    T := T
    S := S
    M := ⟨sfC, am17, am18, im17, im18, ⟨_, iM⟩, ⟨_, iR⟩, niC⟩
    FM := fnR_of (ok_mul Dm17 T H_is_integer HO) bm17
    nsub := suC
    nStr := nsC
    of := HO
    read := ⟨.type "type", q_m2, gm2, RD, ⟨am2, ⟨_, rcm2⟩, fm2⟩, fnR_ofX (ok_readX Dm2 T B B2 mNo I0 HR HO XT FT bx8) bm2⟩
    mkA := ok_init1 Dm0 T H_check_counts H_tidy_counts fun _ _ _ _ _ _ _ _ => rfl
    counts := ⟨q_m4, gm4, _, ⟨am4, gem4, tkm4, ⟨_, rcm4⟩⟩, ok_counts Dm4 T B2, bm4⟩
    text := ⟨gm8, _, ⟨am8, im8, km8⟩, ok_textX Dm8 T mNo, bm8⟩
    XC := ⟨⟨gaT, ggT, exT, hdT, caT, cnC, ctC, moT⟩, ⟨gaT, ggT, exT, hdT⟩, noT, PySem.W.exm_ref exT hdT tyT seT, kVE⟩
    mI := PySem.W.mg_of X G aT
    ve := N z_ValueError }
  have H__law_draw : Has l.prog w K mg base 1 "_law_draw" ["_law_pen_here", "_law_many"] spDraw := ⟨g22, _, ok_draw D22 B, b22, PySem.W.mg_of X G a22, k22⟩
  have H__law_pick : Has l.prog w K mg base 2 "_law_pick" ["_law_pen_here", "_law_options"] (spPick K) := ⟨g23, _, ok_pick D23 B H__law_draw, b23, PySem.W.mg_of X G a23, k23⟩
  have H__law_great : Has l.prog w K mg base 2 "_law_great" ["_law_pen_here", "_law_figures"] spGreat := ⟨g25, _, ok_great D25 B H__law_draw, b25, PySem.W.mg_of X G a25, k25⟩
  have H__law_times : Has l.prog w K mg base 3 "_law_times" ["_law_pen_here"] spTimes := ⟨g26, _, ok_times D26 H__law_draw H__law_great, b26, PySem.W.mg_of X G a26, k26⟩
  have H__law_pen : Has l.prog w K mg base 1 "_law_pen" ["_law_script"] (spPen K) := ⟨g21, _, ok_pen D21 B, b21, PySem.W.mg_of X G a21, k21⟩
  have H__law_words : Has l.prog w K mg base 3 "_law_words" ["_law_pen_here", "_law_many"] spWords := ⟨g24, _, ok_words D24 B H__law_draw H__law_pick, b24, PySem.W.mg_of X G a24, k24⟩
  have H__law_whole : Has l.prog w K mg base 4 "_law_whole" ["_law_pen_here"] spWhole := ⟨g28, _, ok_whole D28 H__law_draw H__law_pick H__law_great H__law_times, b28, PySem.W.mg_of X G a28, k28⟩
  have H__law_beyond : Has l.prog w K mg base 1 "_law_beyond" ["_law_begun", "_law_last"] spBey := ⟨g29, _, ok_bey D29 B, b29, PySem.W.mg_of X G a29, k29⟩
  have H__law_walk : Has l.prog w K mg base 2 "_law_walk" ["_law_text"] spWalk := ⟨g30, _, ok_walk D30 B H__law_beyond, b30, PySem.W.mg_of X G a30, k30⟩
  have H__law_bent : Has l.prog w K mg base 3 "_law_bent" ["_law_pen_here", "_law_text"] spBent := ⟨g32, _, ok_bent D32 B H__law_draw H__law_pick, b32, PySem.W.mg_of X G a32, k32⟩
  have H__law_any_value : Has l.prog w K mg base 3 "_law_any_value" ["_law_pen_here", "_law_some"] (spAny C) := ⟨g27, _, ok_any D27 H__law_pick, b27, PySem.W.mg_of X G a27, k27⟩
  exact ok_law l33 c33 (hTB (c0, Pt) List.mem_cons_self) D31 b31 (PySem.W.mg_of X G a31) B B2 B3 L {
    pen := H__law_pen
    draw := H__law_draw
    pick := H__law_pick
    words := H__law_words
    whole := H__law_whole
    bent := H__law_bent
    walk := H__law_walk
    any := H__law_any_value }
theorem walk {l : PySem.W.OpenLaw} {q : Program} {loose : List Str} {XP : (Str → Option Value) → Heap → Prop} {YP : World → Heap → Prop} {d : DefRec} {K : Params → PySem.W.Frag} (hn : l.most = some 63) (hdf : d.params.defaults = [])
    (hY : ∀ (w : World) (h : Heap), YP w h → (K w.params).In h)
    (F : ∀ (w : World) (mg : Str → Option Value) (fa : Addr) (h : Heap), YP w h → (K w.params).In h → h.Ns mainGlobals mg → mg d.name = some (.ref fa) → LamX.LawAtS l w (K w.params) CX0 9 63 "_law_script" mg fa h) :
    PySem.W.WalkO q loose XP YP l.row.toRowW d [] (fun f vs => PySem.call f vs) :=
  LamX.walk_ofTs (n := 63) (k := 9) (x := "_law_script") (CX := fun _ => CX0) hn (by decide) hdf ⟨rfl, by decide, by decide⟩ hY F (fun _ _ _ _ _ h => h)
end Ld
open PySem PySem.W PyProof.Rows
set_option maxRecDepth 100000 in
set_option maxHeartbeats 0 in
theorem PySem.Challenge.cw_crateround_k06_whole_load_texts_bent_holds : PySem.Challenge.rw_crateround_k06_whole_load_texts_bent.Holds := by
  w_on; o_law; k_head; (case hw => w_witness2)
  k_fill
  refine Ld.walk (l := PySem.Challenge.rw_crateround_k06_whole_load_texts_bent) rfl rfl (fun w h Y => PySem.W.km_in_of Y) ?F
  case F =>
    intro w mg fa h Y KX G hmg
    refine' Ld.fin_mk KX G hmg ?a3 ?l3 ?c3 ?k3 ?a4 ?l4 ?c4 ?k4 ?a5 ?l5 ?c5 ?k5 ?a15 ?l15 ?c15 ?k15 ?a16 ?l16 ?c16 ?k16 ?a17 ?l17 ?c17 ?k17 ?a18 ?l18 ?c18 ?k18 ?a19 ?l19 ?c19 ?k19 ?a21 ?l21 ?c21 ?k21 ?a22 ?l22 ?c22 ?k22 ?a23 ?l23 ?c23 ?k23 ?a24 ?l24 ?c24 ?k24 ?a25 ?l25 ?c25 ?k25 ?a26 ?l26 ?c26 ?k26 ?a27 ?l27 ?c27 ?k27 ?a28 ?l28 ?c28 ?k28 ?a29 ?l29 ?c29 ?k29 ?a30 ?l30 ?c30 ?k30 ?a31 ?l31 ?c31 ?k31 ?a32 ?l32 ?c32 ?k32 ?a33 ?l33 ?c33 ?z_int ?z_abs ?z_list ?z_len ?z_range ?z_str ?z_bool ?z_sorted ?z_isinstance ?z_all ?z_dict ?z_min ?z_max ?z_repr ?aC ?pgC ?hdC ?poC ?saC ?ncC ?mkC ?kpC ?caC ?cnC ?ctC ?cmC ?neC ?icC ?tyC ?rdC ?gaC ?nsC ?am0 ?lm0 ?cm0 ?km0 ?fm0 ?im0 ?am1 ?rcm1 ?lm1 ?cm1 ?km1 ?fm1 ?am2 ?rcm2 ?lm2 ?cm2 ?km2 ?fm2 ?am4 ?rcm4 ?lm4 ?cm4 ?km4 ?gem4 ?tkm4 ?sfC ?iM ?iR ?niC ?suC ?am8 ?lm8 ?cm8 ?km8 ?fm8 ?im8 ?am17 ?lm17 ?cm17 ?km17 ?fm17 ?im17 ?am18 ?lm18 ?cm18 ?km18 ?fm18 ?im18 ?cM ?cDg ?cMD ?cNo ?cLk ?aT ?xT ?saT ?exT ?tyT ?kpT ?ax8 ?lx8 ?cx8 ?kx8 ?tfT ?z_ValueError ?vV ?noT ?gaT ?ggT ?hdT ?caT ?moT ?seT ?svT ?hP ?nP ?hC
    (case a3 => k_is)
    (case l3 => k_is)
    (case c3 => k_is)
    (case k3 => k_is)
    (case a4 => k_is)
    (case l4 => k_is)
    (case c4 => k_is)
    (case k4 => k_is)
    (case a5 => k_is)
    (case l5 => k_is)
    (case c5 => k_is)
    (case k5 => k_is)
    (case a15 => k_is)
    (case l15 => k_is)
    (case c15 => k_is)
    (case k15 => k_is)
    (case a16 => k_is)
    (case l16 => k_is)
    (case c16 => k_is)
    (case k16 => k_is)
    (case a17 => k_is)
    (case l17 => k_is)
    (case c17 => k_is)
    (case k17 => k_is)
    (case a18 => k_is)
    (case l18 => k_is)
    (case c18 => k_is)
    (case k18 => k_is)
    (case a19 => k_is)
    (case l19 => k_is)
    (case c19 => k_is)
    (case k19 => k_is)
    (case a21 => k_is)
    (case l21 => k_is)
    (case c21 => k_is)
    (case k21 => k_is)
    (case a22 => k_is)
    (case l22 => k_is)
    (case c22 => k_is)
    (case k22 => k_is)
    (case a23 => k_is)
    (case l23 => k_is)
    (case c23 => k_is)
    (case k23 => k_is)
    (case a24 => k_is)
    (case l24 => k_is)
    (case c24 => k_is)
    (case k24 => k_is)
    (case a25 => k_is)
    (case l25 => k_is)
    (case c25 => k_is)
    (case k25 => k_is)
    (case a26 => k_is)
    (case l26 => k_is)
    (case c26 => k_is)
    (case k26 => k_is)
    (case a27 => k_is)
    (case l27 => k_is)
    (case c27 => k_is)
    (case k27 => k_is)
    (case a28 => k_is)
    (case l28 => k_is)
    (case c28 => k_is)
    (case k28 => k_is)
    (case a29 => k_is)
    (case l29 => k_is)
    (case c29 => k_is)
    (case k29 => k_is)
    (case a30 => k_is)
    (case l30 => k_is)
    (case c30 => k_is)
    (case k30 => k_is)
    (case a31 => k_is)
    (case l31 => k_is)
    (case c31 => k_is)
    (case k31 => k_is)
    (case a32 => k_is)
    (case l32 => k_is)
    (case c32 => k_is)
    (case k32 => k_is)
    (case a33 => k_is)
    (case l33 => k_is)
    (case c33 => k_is)
    (case z_int => k_is)
    (case z_abs => k_is)
    (case z_list => k_is)
    (case z_len => k_is)
    (case z_range => k_is)
    (case z_str => k_is)
    (case z_bool => k_is)
    (case z_sorted => k_is)
    (case z_isinstance => k_is)
    (case z_all => k_is)
    (case z_dict => k_is)
    (case z_min => k_is)
    (case z_max => k_is)
    (case z_repr => k_is)
    (case aC => k_is)
    (case pgC => k_is)
    (case hdC => k_is)
    (case poC => k_is)
    (case saC => k_is)
    (case ncC => k_is)
    (case mkC => k_is)
    (case kpC => k_is)
    (case caC => k_is)
    (case cnC => k_is)
    (case ctC => k_is)
    (case cmC => k_is)
    (case neC => k_is)
    (case icC => k_is)
    (case tyC => k_is)
    (case rdC => k_is)
    (case gaC => k_is)
    (case nsC => k_is)
    (case am0 => k_is)
    (case lm0 => k_is)
    (case cm0 => k_is)
    (case km0 => k_is)
    (case fm0 => k_is)
    (case im0 => k_is)
    (case am1 => k_is)
    (case rcm1 => k_is)
    (case lm1 => k_is)
    (case cm1 => k_is)
    (case km1 => k_is)
    (case fm1 => k_is)
    (case am2 => k_is)
    (case rcm2 => k_is)
    (case lm2 => k_is)
    (case cm2 => k_is)
    (case km2 => k_is)
    (case fm2 => k_is)
    (case am4 => k_is)
    (case rcm4 => k_is)
    (case lm4 => k_is)
    (case cm4 => k_is)
    (case km4 => k_is)
    (case gem4 => k_is)
    (case tkm4 => k_is)
    (case sfC => k_is)
    (case iM => k_is)
    (case iR => k_is)
    (case niC => k_is)
    (case suC => k_is)
    (case am8 => k_is)
    (case lm8 => k_is)
    (case cm8 => k_is)
    (case km8 => k_is)
    (case fm8 => k_is)
    (case im8 => k_is)
    (case am17 => k_is)
    (case lm17 => k_is)
    (case cm17 => k_is)
    (case km17 => k_is)
    (case fm17 => k_is)
    (case im17 => k_is)
    (case am18 => k_is)
    (case lm18 => k_is)
    (case cm18 => k_is)
    (case km18 => k_is)
    (case fm18 => k_is)
    (case im18 => k_is)
    (case cM => k_is)
    (case cDg => k_is)
    (case cMD => k_is)
    (case cNo => k_is)
    (case cLk => k_is)
    (case aT => k_is)
    (case xT => k_is)
    (case saT => k_is)
    (case exT => k_is)
    (case tyT => k_is)
    (case kpT => k_is)
    (case ax8 => k_is)
    (case lx8 => k_is)
    (case cx8 => k_is)
    (case kx8 => k_is)
    (case tfT => k_is)
    (case z_ValueError => k_is)
    (case vV => k_is)
    (case noT => k_is)
    (case gaT => k_is)
    (case ggT => k_is)
    (case hdT => k_is)
    (case caT => k_is)
    (case moT => k_is)
    (case seT => k_is)
    (case svT => k_is)
    (case hP => exact PySem.W.km_tabs_of Y _ List.mem_cons_self)
    (case nP => kernel_rfl)
    (case hC => kernel_rfl)
