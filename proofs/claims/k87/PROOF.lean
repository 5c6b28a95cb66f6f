import PyProof.Rows.All
import Wide.All
import OpenK.AllK
import Wide.FinOn
import KE.KExcInit
import HandS.Base
import HandS.Call
import HandS.List
import HandS.Exc
import HandS.ExcInit
import KE.KIsAll
import HandS.Words
import PyProof.ReprRoads
import HandS.ForMost
import HandS.IsInst
import HandS.Conv
import HandS.More
import HandS.Style
import HandS.SortKw
import HandS.RaiseMore
import KE.KSortKey
import PyProof.Rows.SortShellAny
import HandS.DictComp
import HandS.Walk
import HandS.Flow
import KE.KParD
import HandS.Star
import HandS.MakeKw
import HandS.MakeKwOnly
import HandS.ClsMeth
import HandS.Property
import HandS.SlotsOwn
import PyProof.InstNe
import KE.KExcStr
import KE.KFmtOwn
import KE.KDictLaws
import PyProof.Rows.SetObj
import HandS.Set
import HandS.SetFor
import HandS.Strs
import HandS.TupSets
import PyProof.StrLawsRepr
import KE.KOpsOwn
import PyProof.AutoIntG3
import HandS.OwnEq
import HandS.NoneIn
import HandS.WordsExc
import HandS.DeepEq
import HandS.Defaults
import HandS.Wide
import PySem.Challenge.RW_crateround_k87_notes_that_tell_drives
set_option Elab.async false
set_option linter.all false
set_option maxRecDepth 100000
set_option maxHeartbeats 4000000
/-! k87 -/
/-! own exception classes over any built-in base, made with positions or keywords, held as values -/
namespace PySem
namespace CrX
open PySem.W PySem.Calls PyProof.Rows PySem.HandSPX
section
open Builtin Builtin.ObjectAttr
variable {M : Model} {prog : Program} {w : World} {A : Around} {E : Value → Shared → Prop} {R : Result → Shared → Prop} {h : Heap} {g : Array GenState} {d : Drawn} {t : Nat} {os : OsState}
variable {nm q : Str} {C N : Addr} {bs bm bmB : List Value} {hdct : Bool} {sn : List Str} {sub : List Value} {ab : Bool} {col : Option Bool} {dd : Option Addr} {k0 k1 k2 k3 k5 : Option Value} {B newId initId : String}

theorem check_new_kw (F : ExcBaseFacts B newId initId bmB) (hT : ∀ X : String, bm.contains (.type X) = bmB.contains (.type X)) {rest : List Value} {kw : List (Str × Value)} {Q : Unit → Shared → Prop}
    (hC : h.get? C = some (excClassObj nm q C N bs bm hdct sn sub ab col dd k0 k1 k2 k3 k5 newId)) (hq : Q () ⟨h, g, d, t, os⟩) : wpAny M A (checkBuiltinCall newId ⟨.ref C :: rest, kw⟩) Q E ⟨h, g, d, t, os⟩ := by
  have hcont : (Value.ref C :: bm).contains (.type B) = true := by rw [List.contains_cons, hT, F.hasB, Bool.or_true]
  have hstar := F.noStar
  simp only [checkBuiltinCall, F.newKind, F.newSplit, F.newRow]
  repeat (first | refine wpAny_loadPart_at hC ?_ | (refine wpAny_isSubtype_exc hC ?_; rw [hcont]) | refine wpAny_staticBase_exc hC ?_ | refine wpAny_madeBy_exc hC ?_ | simp only [bne_self_eq_false, Bool.false_eq_true, if_false] | wp_step)
  exact hq
theorem new_kw (F : ExcBaseFacts B newId initId bmB) (hT : ∀ X : String, bm.contains (.type X) = bmB.contains (.type X)) {rest : List Value} {kw : List (Str × Value)}
    (hC : h.get? C = some (excClassObj nm q C N bs bm hdct sn sub ab col dd k0 k1 k2 k3 k5 newId))
    (hq : R (.ok (.ret (.ref (h.objs.size + 1)))) ⟨(h.push { cls := .type "tuple", data := .seq rest.toArray }).push
      { cls := .ref C, data := .fields #[.ref h.objs.size, .none, .none, .none, .bool false, .none] }, g, d, t, os⟩) (hrest : rest.length ≤ sizeLine) :
    codeAny (model prog w) A (.builtin newId ⟨.ref C :: rest, kw⟩) R ⟨h, g, d, t, os⟩ := by
  have hends := F.ends
  have hcB : (Value.ref C :: bm).contains (.type B) = true := by rw [List.contains_cons, hT, F.hasB, Bool.or_true]
  have hcA : (Value.ref C :: bm).contains (.type "AttributeError") = false := by rw [List.contains_cons, hT, F.noAttr]; rfl
  have hcN : (Value.ref C :: bm).contains (.type "NameError") = false := by rw [List.contains_cons, hT, F.noName]; rfl
  refine codeAny_builtinAt F.entry ?_
  unfold Builtin.«BaseException.__new__»
  refine wpAt_bind ?_
  show wpAt _ _ _ (stack >>= _) _ _ _
  refine wpAt_bind (wpAt_stack fun p below => wpAt_of_wpAny ?_)
  wp_walk
  refine wpAt_of_wpAny ?_
  rw [F.owner]
  repeat (first | with_reducible refine wpAny_madeHere_exc F.canon hC ?_ | with_reducible refine wpAny_loadPart_at hC ?_ | (with_reducible refine wpAny_isSubtype_exc hC ?_; first | rw [hcB] | rw [hcA] | rw [hcN]) | wp_step)
  show R _ _
  rw [Heap.size_push]
  exact hq
theorem type_call_kw (F : ExcBaseFacts B newId initId bmB) (hT : ∀ X : String, bm.contains (.type X) = bmB.contains (.type X)) {rest : List Value} {kw : List (Str × Value)} {fI : Addr} {Q : Fin → Shared → Prop}
    (hC : h.get? C = some (excClassObj nm q C N bs bm hdct sn sub ab col dd k0 k1 k2 k3 k5 newId))
    (hi : W.Looks (model prog w) h (typeLookup (.ref C) "__init__") (some (.ref fI))) (hb : ∀ self, W.Looks (model prog w) h (bindSpecial (.ref fI) self) (.ref fI, [self])) (hrest : rest.length ≤ sizeLine)
    (hq : codeAny (model prog w) A (.call (.ref fI) ⟨.ref (h.objs.size + 1) :: rest, kw⟩)
      (fun r s' => match r with | .ok (.ret v) => v = .none ∧ Q (.done (.ret (.ref (h.objs.size + 1)))) s' | .ok _ => False | .error e => E e s')
      ⟨(h.push (W.kdv_tup rest)).push (excO C h.objs.size), g, d, t, os⟩) :
    wpAny (model prog w) A (Builtin.«type.__call__» ⟨.ref C :: rest, kw⟩) Q E ⟨h, g, d, t, os⟩ := by
  repeat (first | with_reducible refine wpAny_loadPart_at hC ?_ | with_reducible refine wpAny_madeBy_exc hC ?_ | wp_step)
  refine codeAny_call_builtin_code (Code.quiet_builtin _ F.quiet) (check_new_kw F hT hC ?_)
  refine new_kw F hT hC ?_ hrest
  show wpAny _ _ _ _ _ _
  have k : ∀ b o, h.get? b = some o → ((h.push (W.kdv_tup rest)).push (excO C h.objs.size)).get? b = some o := fun b o e => Heap.get?_push_of_some _ (Heap.get?_push_of_some _ e)
  have hC₁ := k _ _ hC
  have hget : ((h.push (W.kdv_tup rest)).push (excO C h.objs.size)).get? (h.objs.size + 1) = some (excO C h.objs.size) := by heap_get
  have hcC : (Value.ref C :: bm).contains (.ref C) = true := by simp
  have i1 := hi.keeps k
  have b1 := (hb (.ref (h.objs.size + 1))).keeps k
  unfold isInstance
  repeat (first | with_reducible refine wpAny_loadPart_at hget ?_ | (with_reducible refine wpAny_isSubtype_exc hC₁ ?_; rw [hcC]) | wp_step)
  show wpAny _ _ (typeLookup (.ref C) _) _ _ _
  refine i1.at ?_
  refine wpAny_holding (wpAny_bind (b1.at ?_))
  refine wpAny_bind (wpAny_call (codeAny_mono hq fun r s' z => ?_))
  rcases r with e | (v | _ | _ | _) <;> first | exact z | exact z.elim | skip
  obtain ⟨rfl, z⟩ := z
  first
    | exact wpAny_pure (wpAny_pure z)
    | (wp_walk; exact z)
theorem call_kw (F : ExcBaseFacts B newId initId bmB) (hT : ∀ X : String, bm.contains (.type X) = bmB.contains (.type X)) {rest : List Value} {kw : List (Str × Value)} {fI : Addr}
    (hC : h.get? C = some (excClassObj nm q C N bs bm hdct sn sub ab col dd k0 k1 k2 k3 k5 newId))
    (hi : W.Looks (model prog w) h (typeLookup (.ref C) "__init__") (some (.ref fI))) (hb : ∀ self, W.Looks (model prog w) h (bindSpecial (.ref fI) self) (.ref fI, [self])) (hrest : rest.length ≤ sizeLine)
    (hq : codeAny (model prog w) (A.under (.builtin "type.__call__" ⟨.ref C :: rest, kw⟩)) (.call (.ref fI) ⟨.ref (h.objs.size + 1) :: rest, kw⟩) (W.InitBack (h.objs.size + 1) R)
      ⟨(h.push (W.kdv_tup rest)).push (excO C h.objs.size), g, d, t, os⟩) :
    codeAny (model prog w) A (.call (.ref C) ⟨rest, kw⟩) R ⟨h, g, d, t, os⟩ := by
  have f1 := tc_lookup
  have f2 := tc_bind (.ref C)
  have hTy : (⟨h, g, d, t, os⟩ : Shared).TypeIs (.ref C) "type" := ⟨_, hC, rfl⟩
  refine codeAny_of_tree ?_
  show wpAny _ _ (callAny (.ref C) _) _ _ _
  repeat (any_goals (first | assumption | with_reducible refine wpAny_loadPart_at hC ?_ | wp_step))
  refine ⟨rfl, ?_⟩
  refine codeAny_call_builtin_at (Code.quiet_builtin _ (by decide +kernel)) entry_typeCall (wpAny_check_type_call_sub hC (type_call_kw F hT hC hi hb hrest ?_))
  refine codeAny_mono hq fun r s' z => ?_
  rcases r with e | (v | _ | _ | _) <;> exact z

/-- self.name = v, the first attribute -/
theorem osa_new (SF : StoreFacts B bmB "object.__setattr__" "object") {K : W.Frag} {name : Str} {tk : Tok} {v : Value} {x C : Addr} {fv : Array Value} {cd : ClassData}
    (X : K.In h) (hx : h.get? x = some { cls := .ref C, data := .fields fv }) (hcd : W.clsIn K C = some cd) (hm : cd.mro = .ref C :: bmB) (hob : bmB.contains (.type "object") = true) (hh : cd.hasDict = true) (ha : W.findIn K (.ref C) name = some none)
    (hq : ∀ h' tk' dx, (∀ b o, b ≠ x → h.get? b = some o → h'.get? b = some o) → h.objs.size ≤ dx → dx ≠ x → h'.get? x = some { cls := .ref C, dict := some dx, data := .fields fv } →
      h'.Ns1 dx (fun y => if y = name then some v else none) → R (.ok (.ret .none)) ⟨h', g, d, tk', os⟩) :
    codeAny (model prog w) A (.call (.builtin "object.__setattr__") ⟨[.ref x, .str name tk, v], []⟩) R ⟨h, g, d, t, os⟩ := by
  have I : W.InstAt h x { cls := .ref C, data := .fields fv } C none := ⟨hx, rfl, rfl, trivial⟩
  have SO := F.store_object
  have hob' : cd.mro.contains (.type "object") = true := by rw [hm, List.contains_cons, hob, Bool.or_true]
  have hxs : x ≠ h.objs.size := Nat.ne_of_lt (Heap.lt_size hx)
  have sub : W.Looks (model prog w) h (isInstance (.ref x) (.type "object")) true := I.type.andThen (W.looks_mroIn X (by unfold W.mroIn; rw [hcd, Option.bind_some, if_neg (by rw [hm]; exact Bool.false_ne_true), hob']))
  refine codeAny_call_builtin SO.slot.plain SO.entry (@W.check_slot (model prog w) _ _ ⟨h, g, d, t, os⟩ "object.__setattr__" "object" "__setattr__" (.ref x) [.str name tk, v] [] _ SO.kind SO.split sub (SO.args (.ref x) (.str name tk) v) ?_)
  have hmr : W.Looks (model prog w) h (mroOf (.ref C)) cd.mro := (W.looks_clsIn X hcd).andThen .now
  have L3 : W.Looks (model prog w) h (storeTaker? none) none := .now
  have hcls : W.Looks (model prog w) h (classData C) cd := W.looks_clsIn X hcd
  rw [W.osa_eq, refuse_eq]
  refine wpAny_bind (wpAny_bind (I.type.at (wpAny_bind (hmr.at ?_))))
  rw [hm, refuseLoop_ref, SF.passes]
  refine wpAny_pure (wpAny_bind (I.type.at (wpAny_bind ((W.looks_findIn X ha).at (wpAny_bind (L3.at ?_))))))
  show wpAny _ _ (storeInOwnDict (.ref x) (.ref C) (.str name tk) name v false) _ _ _
  obtain ⟨nm, bs, mro, ns, qn, hd, sn, sb, ab, col, del⟩ := cd
  dsimp only at hh
  subst hh
  unfold storeInOwnDict ownDictForStores
  repeat (first | with_reducible refine HandSPX.store_in_new ?_ ?_ | with_reducible refine wpAny_loadPart_at hx ?_ | with_reducible refine hcls.at ?_ | wp_step)
  · exact ⟨_, #[], _, (Heap.get?_update_ne _ _ _ _ hxs.symm).trans (Heap.get?_push_at rfl rfl), rfl, fun e he => absurd he (by simp), fun _ => rfl⟩
  · intro h' tk' hn' hs
    have hx₁ : (h.push { cls := .type "dict", data := .dict #[] }).get? x = some { cls := .ref C, data := .fields fv } := Heap.get?_push_of_some _ hx
    refine hq h' tk' h.objs.size (fun b o hb ho => ?_) (Nat.le_refl _) hxs.symm ?_ hn'
    · exact (hs.2 b (Nat.ne_of_lt (Heap.lt_size ho))).trans ((Heap.get?_update_ne _ _ _ _ hb).trans (Heap.get?_push_of_some _ ho))
    · exact (hs.2 x hxs).trans (Heap.get?_update_self _ hx₁ rfl)
theorem osa_old (SF : StoreFacts B bmB "object.__setattr__" "object") {K : W.Frag} {name : Str} {tk : Tok} {v : Value} {x C dx : Addr} {fv : Array Value} {cd : ClassData} {m0 : Str → Option Value} {nl : List Str}
    (X : K.In h) (hx : h.get? x = some { cls := .ref C, dict := some dx, data := .fields fv }) (hns : h.Ns1 dx m0) (hw : Within m0 nl) (hz : nl.length ≤ 1000) (hcd : W.clsIn K C = some cd) (hm : cd.mro = .ref C :: bmB) (hob : bmB.contains (.type "object") = true) (hh : cd.hasDict = true)
    (ha : W.findIn K (.ref C) name = some none)
    (hq : ∀ h' tk', (∀ b o, b ≠ dx → h.get? b = some o → h'.get? b = some o) → h'.Ns1 dx (fun y => if y = name then some v else m0 y) → R (.ok (.ret .none)) ⟨h', g, d, tk', os⟩) :
    codeAny (model prog w) A (.call (.builtin "object.__setattr__") ⟨[.ref x, .str name tk, v], []⟩) R ⟨h, g, d, t, os⟩ := by
  obtain ⟨oD, esD, epD, hoD, hdD, _⟩ := hns.count hw
  have I : W.InstAt h x { cls := .ref C, dict := some dx, data := .fields fv } C (some oD) := ⟨hx, rfl, rfl, hoD⟩
  have SO := F.store_object
  have hob' : cd.mro.contains (.type "object") = true := by rw [hm, List.contains_cons, hob, Bool.or_true]
  have sub : W.Looks (model prog w) h (isInstance (.ref x) (.type "object")) true := I.type.andThen (W.looks_mroIn X (by unfold W.mroIn; rw [hcd, Option.bind_some, if_neg (by rw [hm]; exact Bool.false_ne_true), hob']))
  refine codeAny_call_builtin SO.slot.plain SO.entry (@W.check_slot (model prog w) _ _ ⟨h, g, d, t, os⟩ "object.__setattr__" "object" "__setattr__" (.ref x) [.str name tk, v] [] _ SO.kind SO.split sub (SO.args (.ref x) (.str name tk) v) ?_)
  have hmr : W.Looks (model prog w) h (mroOf (.ref C)) cd.mro := (W.looks_clsIn X hcd).andThen .now
  have L3 : W.Looks (model prog w) h (storeTaker? none) none := .now
  have hcls : W.Looks (model prog w) h (classData C) cd := W.looks_clsIn X hcd
  rw [W.osa_eq, refuse_eq]
  refine wpAny_bind (wpAny_bind (I.type.at (wpAny_bind (hmr.at ?_))))
  rw [hm, refuseLoop_ref, SF.passes]
  refine wpAny_pure (wpAny_bind (I.type.at (wpAny_bind ((W.looks_findIn X ha).at (wpAny_bind (L3.at ?_))))))
  show wpAny _ _ (storeInOwnDict (.ref x) (.ref C) (.str name tk) name v false) _ _ _
  obtain ⟨nm, bs, mro, ns, qn, hd, sn, sb, ab, col, del⟩ := cd
  dsimp only at hh
  subst hh
  unfold storeInOwnDict ownDictForStores
  repeat (first | with_reducible refine OEX.store_in_old hns hw hz ?_ | with_reducible refine wpAny_loadPart_at hx ?_ | with_reducible refine hcls.at ?_ | wp_step)
  intro h' tk' hn' hs
  exact hq h' tk' (fun b o hb ho => (hs.2 b hb).trans ho) hn'
end
end CrX
end PySem
namespace PySem.CrX
open PySem PySem.Spec PySem.W PySem.Calls PyProof.Rows
section
variable {prog : Program} {w : World} {A : Around} {E : Value → Shared → Prop} {s : Shared} {K : Frag} {x D : Addr} {ox : Obj} {od : Option Obj}
theorem findObj_dataO {C : Addr} {name : Str} {a g : Value} (hc : (clsIn K C).isSome = true) (ha : findIn K (.ref C) name = some (some a)) (hg : specialIn K a "__get__" = some (some g)) (ht : takesIn K a = some true) : findObj K C od name = some (.bind g a) := by
  obtain ⟨cd, hc⟩ := Option.isSome_iff_exists.mp hc
  unfold findObj
  rw [hc, Option.bind_some, ha, Option.bind_some]
  simp [hg, ht]
theorem kin_classO {Q : Option Value → Shared → Prop} (hga : findIn K (.ref D) "__getattribute__" = some (some (.builtin "BaseException.__getattribute__"))) (hgt : findIn K (.ref D) "__getattr__" = some none) (hsub : subIn K (.ref D) (.type "BaseException") = some true)
    (hdct : hasDictIn K D = true) (ha : findIn K (.ref D) "__class__" = some (some (.builtin "object.__class__")))
    (hn : specialIn K (.builtin "object.__class__") "__get__" = some (some (.builtin "getset_descriptor.__get__"))) (htk : takesIn K (.builtin "object.__class__") = some true) (hm : mroIn K D (.type "object") = some true)
    (X : K.In s.heap) (I : InstAt s.heap x ox D od) (h : Q (some (.ref D)) { s with toks := s.toks + 1 }) : wpAny (model prog w) A (getAttr? (.ref x) "__class__") Q E s := by
  have hf : findObj K D od "__class__" = some (.bind (.builtin "getset_descriptor.__get__") (.builtin "object.__class__")) := findObj_dataO (by obtain ⟨cd, hc, _⟩ := any_some hdct; rw [hc]; rfl) ha hn htk
  obtain ⟨hp, g, d, t, os⟩ := s
  have L0 := I.type (M := model prog w)
  have L1 := looks_findIn (M := model prog w) X hga
  have L2 := looks_findIn (M := model prog w) X hgt
  have L3 := looks_find (M := model prog w) X I hf
  have sub : Looks (model prog w) hp (isInstance (.ref x) (.type "BaseException")) true := L0.andThen (looks_subIn X hsub)
  have hx0 : (false && onTheHeap (Value.builtin "BaseException.__getattribute__")) = false := rfl
  have hx2 : (Value.builtin "BaseException.__getattribute__" == Value.builtin "object.__getattribute__") = false := by decide +kernel
  have hx1 : (onTheHeap (Value.ref D) && Value.builtin "BaseException.__getattribute__" == Value.builtin "object.__getattribute__") = false := by rw [hx2]; rfl
  unfold getAttr? getAttrBy? getAttrBy
  refine wpAny_bind (wpAny_mkText (wpAny_bind (wpAny_attempt (wpAny_holding (wpAny_bind (L0.at (wpAny_bind (L1.at ?_))))))))
  show wpAny _ _ (if (onTheHeap (Value.ref D) && Value.builtin "BaseException.__getattribute__" == Value.builtin "object.__getattribute__") = true then _ else _) _ _ _
  rw [hx1, if_neg Bool.false_ne_true]
  unfold getAttrByItsOwn hookBefore
  refine wpAny_bind ?_
  rw [if_pos (show onTheHeap (Value.ref D) = true from rfl)]
  refine L2.at ?_
  refine wpAny_bind (wpAny_attempt (wpAny_holding ?_))
  unfold callGetattribute
  rw [hx0, if_neg Bool.false_ne_true]
  unfold boundAndCalled
  rw [PySem.F.excAttr_ValueError.ga.bind (.ref x)]
  refine wpAny_bind (wpAny_pure ?_)
  show wpAny _ _ (call (.builtin "BaseException.__getattribute__") [.ref x, .str "__class__" t]) _ _ _
  refine wpAny_call (codeAny_call_builtin PySem.F.excAttr_ValueError.ga.plain PySem.F.entry_bexc_ga ?_)
  refine @check_slot (model prog w) _ _ ⟨hp, g, d, t + 1, os⟩ "BaseException.__getattribute__" "BaseException" "__getattribute__" (.ref x) [.str "__class__" t] [] _ (by decide +kernel) (by decide +kernel) sub (PySem.F.args_bexc_ga (.ref x) (.str "__class__" t)) ?_
  unfold Builtin.«object.__getattribute__»
  refine wpAny_bind (wpAny_of_eq (a := ((Value.ref x : Value), [Value.str "__class__" t])) (by first | rfl | (simp only [slotArgs]; rfl)) ?_)
  refine wpAny_bind (wpAny_pure (wpAny_bind (L0.at (wpAny_bind (L3.at ?_)))))
  show wpAny _ _ (holding [Value.builtin "object.__class__"] (call (.builtin "getset_descriptor.__get__") [.builtin "object.__class__", .ref x, .ref D]) >>= ret) _ _ _
  refine wpAny_bind (wpAny_holding (wpAny_call (class_get (s := ⟨hp, g, d, t + 1, os⟩) (ox := ox) (od := od) X I hm ?_)))
  refine wpAny_pure ?_
  show wpAny _ _ (handedOut (.ref D)) _ _ _
  rw [handedOut_of (v := .ref D) rfl]
  first
    | exact wpAny_pure (wpAny_pure h)
    | exact wpAny_pure h
    | exact wpAny_pure (wpAny_bind (wpAny_pure (wpAny_pure h)))
theorem kitx_excO (hga : findIn K (.ref D) "__getattribute__" = some (some (.builtin "BaseException.__getattribute__"))) (hgt : findIn K (.ref D) "__getattr__" = some none) (hsub : subIn K (.ref D) (.type "BaseException") = some true) (hdct : hasDictIn K D = true) (ha : findIn K (.ref D) "__class__" = some (some (.builtin "object.__class__")))
    (hn : specialIn K (.builtin "object.__class__") "__get__" = some (some (.builtin "getset_descriptor.__get__"))) (htk : takesIn K (.builtin "object.__class__") = some true) (hm : mroIn K D (.type "object") = some true) :
    KitX K (.ref x) (.ref D) (fun h => InstAt h x ox D od) where
  ty := fun _ _ _ I => I.type
  it := fun _ _ X _ => by
    obtain ⟨cdD, hcD, _⟩ := any_some hdct
    unfold clsIn at hcD
    split at hcD
    · rename_i c' d' cd' sl' ho
      intro A' Q' E' s' k q
      unfold isType loadHead
      exact wpAny_bind (wpAny_loadPart (k _ _ (X _ _ ho)) (wpAny_pure q))
    · cases hcD
  ne := fun h tp dd its n sl X htp => by
    obtain ⟨cdD, hcD, _⟩ := any_some hdct
    refine Bool.eq_false_iff.mpr fun q => ?_
    have e : D = tp := Value.ref.inj (beq_iff_eq.mp q)
    subst e
    unfold clsIn at hcD
    split at hcD
    · rename_i c' d' cd' sl' ho
      have z := (X _ _ ho).symm.trans htp
      cases z
    · cases hcD
  ca := fun X I k => kin_classO hga hgt hsub hdct ha hn htk hm X I k
end
end PySem.CrX

namespace L2
open PySem PySem.Spec PyProof.Rows
/-- an own exception class at C directly over a built-in base, its own __init__ at fI; its objects have the attributes f only -/
structure OexB (K : PySem.W.Frag) (B newId initId : String) (bmB : List Value) (C : Addr) : Prop where
  F : ExcBaseFacts B newId initId bmB
  S : StoreFacts B bmB "object.__setattr__" "object"
  ob : bmB.contains (.type "object") = true
  cls : ∃ nm q N bs sn sub ab col dd k0 k1 k2 k3 k5, K.lookup C = some (excClassObj nm q C N bs bmB true sn sub ab col dd k0 k1 k2 k3 k5 newId)
  sa : PySem.W.findIn K (.ref C) "__setattr__" = some (some (.builtin "object.__setattr__"))
  kC : PySem.W.keepIn K (.ref C) = true
section
variable {X : Cx} {pins : List (Addr × Obj)} {σ : St} {H : Hp} {s : Shared} {a C dx : Addr} {f : Str} {y : V} {u : Value} {fs : List (Str × V)} {Q : Unit → Shared → Prop} {E : Value → Shared → Prop} {A : Around}
variable {B newId initId : String} {bmB : List Value}
theorem OexB.clsIs (T : OexB X.K B newId initId bmB C) : ∃ cd, PySem.W.clsIn X.K C = some cd ∧ cd.mro = .ref C :: bmB ∧ cd.hasDict = true := by
  obtain ⟨nm, q, N, bs, sn, sub, ab, col, dd, k0, k1, k2, k3, k5, hC⟩ := T.cls
  exact ⟨{ name := nm, bases := bs, mro := .ref C :: bmB, ns := N, qualname := q, hasDict := true, slotNames := sn, subclasses := sub, abstract := ab, collection := col, hasDel := false }, by unfold PySem.W.clsIn; rw [hC] <;> rfl, rfl, rfl⟩
/-- self.f = y, the first one -/
theorem ostB_new (T : OexB X.K B newId initId bmB C) (I : Inv X pins σ H s) (e : H a = some (exo a C none)) (hno : PySem.W.findIn X.K (.ref C) f = some none) (ry : RelV y u)
    (h : ∀ dx s', H dx = none → dx ≠ a → Inv X pins σ (upd (upd H dx (exd dx [(f, y)])) a (exo a C (some dx))) s' → Q () s') : wpAny (model X.prog X.w) A (setAttr (.ref a) f u) Q E s := by
  obtain ⟨cd, hcl, hmro, hhd⟩ := T.clsIs
  obtain ⟨t1, ho⟩ := exo_at I.hok e
  obtain ⟨hp, g, d, t, os⟩ := s
  refine PySem.W.set_plain I.kIn (ox := { cls := .ref C, dict := none, data := .fields #[.ref t1, .none, .none, .none, .bool false, .none] }) (od := none) ⟨ho, rfl, rfl, trivial⟩ T.sa ?_
  refine PySem.CrX.osa_new T.S I.kIn ho hcl hmro T.ob hhd hno (fun h' tk' dx k dn dne hx hn => ?_)
  have hnd : H dx = none := I.hok.fresh dn
  have nd : ∀ {b : Addr} {o : Obj}, hp.get? b = some o → b ≠ dx := fun {b o} q => Nat.ne_of_lt (Nat.lt_of_lt_of_le (Heap.lt_size q) dn)
  have na : ∀ {b : Addr}, H b = none → b ≠ a := fun {b} n z => by
    rw [z, e] at n
    cases n
  have Un1 : Un X.fs [] H (upd (upd H dx (exd dx [(f, y)])) a (exo a C (some dx))) hp h' := {
    keep := fun b o q n _ _ => k b o (na n) q
    slot := fun b o q n _ _ => ⟨o.slots, k b o (na n) q⟩
    free := fun b o q n _ => by rw [upd_ne (na n), upd_ne (nd q)]; exact n
    there := fun b o q _ => by
      by_cases hb : b = a
      · exact ⟨_, by rw [hb]; exact hx⟩
      · exact ⟨o, k b o hb q⟩
    tups := fun b xs q => by rw [upd_ne (at_ne e q exo_tup), upd_ne (ne_of_none q hnd)]; exact q
    frzs := fun b o v q => by rw [upd_ne (at_ne e q exo_frz), upd_ne (ne_of_none q hnd)]; exact q
    tbls := fun b ps q => ⟨#[], by rw [upd_ne (at_ne e q exo_tbl), upd_ne (ne_of_none q hnd), q]; simp⟩ }
  refine h dx _ hnd dne (I.un (t' := tk') Un1 fun b o q => ?_)
  by_cases hb : b = a
  · subst hb
    rw [upd_same] at q
    cases q
    exact exo_ok hx
  · rw [upd_ne hb] at q
    by_cases hd : b = dx
    · subst hd
      rw [upd_same] at q
      cases q
      exact exd_ok hn (relO_put (fs := []) ry fun g => True.intro)
    · rw [upd_ne hd] at q
      exact (I.hok b o q).stay (fun c v hc z => k c v (by
          rcases hc with hc | hc
          · rw [hc]
            exact hb
          · exact at_ne e hc exo_own) z)
        (fun c hc => by rw [upd_ne (at_ne e hc exo_own), upd_ne (ne_of_none hc hnd)]; exact hc) (fun c xs hc => by rw [upd_ne (at_ne e hc exo_tup), upd_ne (ne_of_none hc hnd)]; exact hc)
/-- self.f = y, a further one -/
theorem ostB_old (T : OexB X.K B newId initId bmB C) (I : Inv X pins σ H s) (e : H a = some (exo a C (some dx))) (ed : H dx = some (exd dx fs)) (hl : fs.length ≤ 900) (hno : PySem.W.findIn X.K (.ref C) f = some none) (ry : RelV y u)
    (h : ∀ s', Inv X pins σ (upd H dx (exd dx ((f, y) :: fs))) s' → Q () s') : wpAny (model X.prog X.w) A (setAttr (.ref a) f u) Q E s := by
  obtain ⟨cd, hcl, hmro, hhd⟩ := T.clsIs
  obtain ⟨t1, ho⟩ := exo_at I.hok e
  obtain ⟨mA, hns, rel⟩ := exd_at I.hok ed
  have hw := within_of rel
  obtain ⟨hp, g, d, t, os⟩ := s
  obtain ⟨oD, _, _, hoD, _, _⟩ := hns.count hw
  refine PySem.W.set_plain I.kIn (ox := { cls := .ref C, dict := some dx, data := .fields #[.ref t1, .none, .none, .none, .bool false, .none] }) (od := some oD) ⟨ho, rfl, rfl, hoD⟩ T.sa ?_
  refine PySem.CrX.osa_old T.S I.kIn ho hns hw (by rw [List.length_map]; omega) hcl hmro T.ob hhd hno (fun h' tk' k hn => ?_)
  have hd : ∃ o, h'.get? dx = some o := by
    obtain ⟨o, _, _, e', _⟩ := hn
    exact ⟨o, e'⟩
  exact h _ (I.write (t' := tk') (x := dx) (e := dx) (o := exd dx ((f, y) :: fs)) (by rw [ed]; exact True.intro) (.inl rfl) k hd (exd_ok hn (relO_put ry rel)))
/-- B.__init__(self, ..): nothing of it is told -/
theorem binit_ok {us : List Value} {Q : Value → Shared → Prop} (T : OexB X.K B newId initId bmB C) (I : Inv X pins σ H s) (e : H a = some (exo a C none)) (hl : us.length ≤ sizeLine) (h : ∀ s', Inv X pins σ H s' → Q .none s') :
    wpAny (model X.prog X.w) A (call (.builtin initId) (.ref a :: us)) Q E s := by
  obtain ⟨nm, q, N, bs, sn, sub, ab, col, dd, k0, k1, k2, k3, k5, hC⟩ := T.cls
  obtain ⟨t1, ho⟩ := exo_at I.hok e
  obtain ⟨hp, g, d, t, os⟩ := s
  refine wpAny_call (PySem.HandSPX.init_base T.F (fun Y => rfl) (I.kIn _ _ hC) ho hl fun h' t2 k hx => ?_)
  have J := I.write (t' := t) (x := a) (e := a) (o := exo a C none) (by rw [e]; exact True.intro) (.inl rfl) k ⟨_, hx⟩ (exo_ok hx)
  have eu : upd H a (exo a C none) = H := by
    funext b
    by_cases hb : b = a
    · rw [hb, upd_same, e]
    · rw [upd_ne hb]
  rw [eu] at J
  exact h _ J
end

/-- B.__init__(self, ..) -/
def tBi (K : PySem.W.Frag) (B newId initId : String) (bmB : List Value) (ta : TA) : TE := fun σ H Q => ta σ H fun vs H1 => ∃ (a C : Addr) (ws : List V), vs = .ref a :: ws ∧ ws.length ≤ 1000 ∧ OexB K B newId initId bmB C ∧ H1 a = some (exo a C none) ∧ Q .non H1
/-- self.f = e -/
def tOstB (K : PySem.W.Frag) (B newId initId : String) (bmB : List Value) (f : Str) (to te : TE) : TS := fun D σ H => te σ H fun y H1 => to σ H1 fun x H2 => ∃ a C : Addr, x = .ref a ∧ OexB K B newId initId bmB C ∧ PySem.W.findIn K (.ref C) f = some none ∧
  ((H2 a = some (exo a C none) ∧ ∀ dx, H2 dx = none → dx ≠ a → D.nx σ (upd (upd H2 dx (exd dx [(f, y)])) a (exo a C (some dx)))) ∨
    ∃ (dx : Addr) (fs : List (Str × V)), H2 a = some (exo a C (some dx)) ∧ H2 dx = some (exd dx fs) ∧ fs.length ≤ 900 ∧ D.nx σ (upd H2 dx (exd dx ((f, y) :: fs))))
/-- C(e, .., k = v, ..) as a value: a new exception object, then C's own __init__, which keeps sp -/
def tMkV (C : Addr) (sp : Sp) (ta : TA) : TE := fun σ H Q => ta σ H fun vs H1 => vs.length ≤ 1000 ∧ ∀ a, H1 a = none → sp (.ref a :: vs) (upd H1 a (exo a C none)) (fun v H2 => v = .non ∧ Q (.ref a) H2) (fun _ _ _ => False)
section
variable {X : Cx} {o e : Expr} {es : List Expr} {to te : TE} {ta tk : TA} {f : Str} {p p' p1 p2 pos : Pos} {B newId initId : String} {bmB : List Value} {kws : List Keyword} {ks : List Str}
theorem pe_binit {pl : Sem Bool} (x : Str) (hg : Gl X x) (hm : X.mg x = none) (hv : bootBuiltins x = some (.type B)) (ty : typeOf (.type B) = pure (.type "type")) (stub : Manifest.isStub B = false)
    (vV : PySem.W.findCls X.K (.type B) (.type "type") "__init__" = some (.val (.builtin initId))) (hh : PySem.W.handedIn (.builtin initId) = true) (ha : PA X (e :: es) ta)
    (hn : x ≠ "__name__" := by decide) (hdb : (x == ("__debug__" : Str)) = false := by decide)
    (hc : eval (.Call (.Attribute (.Name x p1) "__init__" p2) (e :: es) [] pos) X.env = (do
      let ov ← eval (.Name x p1) X.env
      standAt p2.atName
      let (f, first) ← holding [ov] (getMethod ov "__init__" pl)
      callWith pos f first (backTo pos (starEach (e :: es) X.env)) (backToKw pos (keywordEach [] X.env))) := by rfl)
    (he : starEach (e :: es) X.env = (false, eval e X.env) :: starEach es X.env := by rfl) (hpl : (backTo pos (starEach es X.env)).any (·.1) = false := by rfl) :
    PE X (.Call (.Attribute (.Name x p1) "__init__" p2) (e :: es) [] pos) (tBi X.K B newId initId bmB ta) := by
  refine ⟨fun pins s σ H Q I h => ?_⟩
  refine PySem.W.methodCall_KW (ld_blt I hg hm hv ?_ hn hdb) hc
  obtain ⟨m, fr⟩ := I.fr
  refine PySem.W.method_type fr I.ok.mod.kin ty stub vV hh ?_
  show wpAny _ _ (callWith pos (Value.builtin initId) [] (backTo pos (starEach (e :: es) X.env)) []) _ _ _
  refine PyProof.Rows.callWith_method1 (thn (ha.run pos pins _ σ H _ (I.tok _) h) fun us s1 ⟨vs, H1, I1, r1, a, C, ws, ev, hl, T, ea, q⟩ => ?_) he hpl
  subst ev
  cases r1 with
  | @cons _ u0 _ ur ra rw' =>
    obtain rfl : u0 = Value.ref a := ra
    have hlen : ur.length ≤ sizeLine := by
      rw [← Paired.length rw', sizeLine_eq]
      omega
    exact binit_ok T I1 ea hlen fun s' J => ⟨.non, H1, J, rfl, q⟩
theorem ps_ostB (ho : PE X o to) (he : PE X e te) (hs : swapsWith e (some (.Attribute o f p')) pos.line X.env = pure false := by rfl) : PS X (.Assign [.Attribute o f p'] e pos) (tOstB X.K B newId initId bmB f to te) := by
  refine ⟨fun pins s σ H D I h => ?_⟩
  refine plainObj_wpAny_Assign_Attribute (thn (he.run pins s σ H _ I h) fun v s1 ⟨y, H1, I1, r1, q1⟩ => thn (ho.run pins s1 σ H1 _ I1 q1) fun u s2 ⟨x, H2, I2, r2, a, C, ex, T, hno, q⟩ => ?_) hs
  subst ex
  obtain rfl : u = Value.ref a := r2
  rcases q with ⟨ea, q⟩ | ⟨dx, fs, ea, ed, hl, q⟩
  · exact ostB_new T I2 ea hno r1 fun dx s' n ne J => ⟨σ, _, J, q dx n ne⟩
  · exact ostB_old T I2 ea ed hl hno r1 fun s' J => ⟨σ, _, J, q⟩
/-- C's call: the object is laid, the __init__ runs -/
theorem run_mkV {pins : List (Addr × Obj)} {σ : St} {H : Hp} {s : Shared} {Q : VK} {C fI : Addr} {k : Nat} {fd : FuncData} {ps : List Str} {sp : Sp} {us : List Value} {kw : List (Str × Value)} {vs : List V} {ws : List Value}
    (T : OexB X.K B newId initId bmB C) (iC : PySem.W.findIn X.K (.ref C) "__init__" = some (some (.ref fI))) (tI : PySem.W.typeIn X.K (.ref fI) = some (.type "function"))
    (F1 : FnOk X.prog X.w X.K X.mg X.base CX0 k fI fd ps sp) (hr : Room (k + 1) X.A) (I : Inv X pins σ H s) (hus : us.length ≤ sizeLine)
    (hb : ∀ (s' : Shared) (a : Addr), X.K.In s'.heap → BindsTo s' fd ⟨.ref a :: us, kw⟩ (ps.zip (.ref a :: ws))) (r : Vals vs ws)
    (h : ∀ a, H a = none → sp (.ref a :: vs) (upd H a (exo a C none)) (fun v H2 => v = .non ∧ Q (.ref a) H2) (fun _ _ _ => False)) :
    wpAny (model X.prog X.w) X.A (call (.ref C) us kw) (EP X pins σ Q) X.xe s := by
  obtain ⟨nm, q, N, bs, sn, sub, ab, col, dd, k0, k1, k2, k3, k5, hC⟩ := T.cls
  obtain ⟨hp, g, dr, tk, os⟩ := s
  have hsz : hp.objs.size ≤ hp.objs.size + 1 := Nat.le_succ _
  have hn : H (hp.objs.size + 1) = none := I.hok.fresh hsz
  have hq := h (hp.objs.size + 1) hn
  have kk : ∀ b o, hp.get? b = some o → ((hp.push (PySem.W.kdv_tup us)).push (PySem.HandSPX.excO C hp.objs.size)).get? b = some o := fun b o e => Heap.get?_push_of_some _ (Heap.get?_push_of_some _ e)
  have hget : ((hp.push (PySem.W.kdv_tup us)).push (PySem.HandSPX.excO C hp.objs.size)).get? (hp.objs.size + 1) = some (PySem.HandSPX.excO C hp.objs.size) := by heap_get
  have I2 : Inv X pins σ (upd H (hp.objs.size + 1) (exo (hp.objs.size + 1) C none)) ⟨(hp.push (PySem.W.kdv_tup us)).push (PySem.HandSPX.excO C hp.objs.size), g, dr, tk, os⟩ :=
    I.laid (t' := tk) (a := hp.objs.size + 1) (o := exo (hp.objs.size + 1) C none) (h' := (hp.push (PySem.W.kdv_tup us)).push (PySem.HandSPX.excO C hp.objs.size)) kk hsz (exo_ok hget)
  have r2 : Vals (V.ref (hp.objs.size + 1) :: vs) (Value.ref (hp.objs.size + 1) :: ws) := .cons rfl r
  refine wpAny_call (PySem.CrX.call_kw T.F (fun Y => rfl) (I.kIn _ _ hC) (PySem.W.looks_findIn I.kIn iC) (fun self => PySem.W.bind_fn I.kIn self tI) hus
    (codeAny_mono (F1.run _ X.stack _ _ ⟨Value.ref (hp.objs.size + 1) :: us, kw⟩ (Value.ref (hp.objs.size + 1) :: ws) _ _ (fun _ _ _ => False) (hr.make C us kw) (I2.env0.make C us kw) (hb _ _ I2.kIn) r2 hq) fun rr s' hq' => ?_))
  cases rr with
  | error er => exact False.elim hq'
  | ok fl =>
    cases fl with
    | ret u =>
      obtain ⟨v, H2, I3, rv, ev, q2⟩ := I2.after hq'
      subst ev
      exact ⟨rv, V.ref (hp.objs.size + 1), H2, I3, rfl, q2⟩
    | next => exact False.elim hq'
    | brk => exact False.elim hq'
    | cont => exact False.elim hq'
end
end L2
namespace L2
open PySem PySem.Spec PyProof.Rows
section
variable {X : Cx} {e : Expr} {es : List Expr} {ta tk te : TA} {x : Str} {p pos : Pos} {B newId initId : String} {bmB : List Value} {kws : List Keyword} {ks : List Str} {C fI : Addr} {k : Nat} {fd : FuncData} {ps : List Str} {sp : Sp}
/-- C(e, ..) -/
theorem pe_mkV (T : OexB X.K B newId initId bmB C) (iC : PySem.W.findIn X.K (.ref C) "__init__" = some (some (.ref fI))) (tI : PySem.W.typeIn X.K (.ref fI) = some (.type "function"))
    (F1 : FnOk X.prog X.w X.K X.mg X.base CX0 k fI fd ps sp) (hr : Room (k + 1) X.A) (hb : Binds X.K fd ps []) (hg : Gl X x) (hm : X.mg x = some (.ref C)) (ha : PA X (e :: es) ta)
    (hdb : (x == ("__debug__" : Str)) = false := by decide) (he : starEach (e :: es) X.env = (false, eval e X.env) :: starEach es X.env := by rfl) (hpl : (backTo pos (starEach es X.env)).any (·.1) = false := by rfl) :
    PE X (.Call (.Name x p) (e :: es) [] pos) (tMkV C sp ta) := by
  refine ⟨fun pins s σ H Q I h => ?_⟩
  refine wpAny_Call_Name_kw (ld_glob I hg hm ?_ hdb)
  refine PySem.W.callWith_K (h₀ := X.base) I.ok.mod.kin T.kC (thn (ha.run pos pins s σ H _ I h) fun us s1 ⟨vs, H1, I1, r1, hz, q1⟩ => ⟨I1.kIn, ?_⟩) he hpl
  show wpAny _ _ (call (.ref C) us) _ _ _
  have hus : us.length ≤ sizeLine := by
    rw [← Paired.length r1, sizeLine_eq]
    omega
  have hlen : vs.length + 1 = ps.length := by
    have hq := q1 (s1.heap.objs.size + 1) (I1.hok.fresh (Nat.le_succ _))
    exact F1.len _ _ _ _ hq
  refine run_mkV (kw := []) (ws := us) T iC tI F1 hr I1 hus (fun s' a K1 => ?_) r1 q1
  have z := hb s' (.ref a :: us) K1 (by rw [List.append_nil, List.length_cons, ← Paired.length r1]; exact hlen)
  rwa [List.append_nil] at z
/-- C(k = v, ..): n keywords; permV puts the values in the order of the parameters -/
def tMkVK (C : Addr) (sp : Sp) (n : Nat) (permV : List V → List V) (tk : TA) : TE := fun σ H Q => tk σ H fun zs H1 => zs.length = n ∧ ∀ a, H1 a = none → sp (.ref a :: permV zs) (upd H1 a (exo a C none)) (fun v H2 => v = .non ∧ Q (.ref a) H2) (fun _ _ _ => False)
theorem pe_mkVK {perm : List Value → List Value} {permV : List V → List V} (T : OexB X.K B newId initId bmB C) (iC : PySem.W.findIn X.K (.ref C) "__init__" = some (some (.ref fI))) (tI : PySem.W.typeIn X.K (.ref fI) = some (.type "function"))
    (F1 : FnOk X.prog X.w X.K X.mg X.base CX0 k fI fd ps sp) (hr : Room (k + 1) X.A) (hb : ∀ (s' : Shared) (a : Addr) (ws : List Value), ws.length = ks.length → BindsTo s' fd ⟨[.ref a], ks.zip ws⟩ (ps.zip (.ref a :: perm ws)))
    (hrel : ∀ {zs : List V} {ws : List Value}, Vals zs ws → Vals (permV zs) (perm ws)) (hg : Gl X x) (hm : X.mg x = some (.ref C)) (hkw : PK X kws tk)
    (hall : (backToKw pos (keywordEach kws X.env)).all (·.1.isSome) = true := by rfl) (hks : (backToKw pos (keywordEach kws X.env)).filterMap (·.1) = ks := by rfl) (hdb : (x == ("__debug__" : Str)) = false := by decide)
    (hpl : ((backTo pos (starEach [] X.env)).any (·.1) || (backToKw pos (keywordEach kws X.env)).any (·.1.isNone)) = false := by rfl) :
    PE X (.Call (.Name x p) [] kws pos) (tMkVK C sp ks.length permV tk) := by
  refine ⟨fun pins s σ H Q I h => ?_⟩
  refine wpAny_Call_Name_kw (ld_glob I hg hm ?_ hdb)
  refine PySem.W.callWith_KW0 (h₀ := X.base) I.ok.mod.kin T.kC hall ?_ hpl
  refine thn (hkw.run pos pins s σ H _ I h) fun ws s2 ⟨zs, H2, I2, rz, l2, q2⟩ => ⟨I2.kIn, ?_⟩
  rw [hks]
  show wpAny _ _ (call (.ref C) [] (ks.zip ws)) _ _ _
  exact run_mkV (us := []) (kw := ks.zip ws) (ws := perm ws) T iC tI F1 hr I2 (Nat.zero_le _) (fun s' a _ => hb s' a ws (by rw [← Paired.length rz]; exact l2)) (hrel rz) q2
end

/-! ### an exception held as a value: its field, isinstance -/
/-- what the class at D says of its instances -/
structure ExcV (K : PySem.W.Frag) (D : Addr) : Prop where
  ga : PySem.W.findIn K (.ref D) "__getattribute__" = some (some (.builtin "BaseException.__getattribute__"))
  gg : PySem.W.findIn K (.ref D) "__getattr__" = some none
  sb : PySem.W.subIn K (.ref D) (.type "BaseException") = some true
  hd : PySem.W.hasDictIn K D = true
  ca : PySem.W.findIn K (.ref D) "__class__" = some (some (.builtin "object.__class__"))
  mo : PySem.W.mroIn K D (.type "object") = some true
/-- facts of object.__class__ itself -/
structure ClsD (K : PySem.W.Frag) : Prop where
  sp : PySem.W.specialIn K (.builtin "object.__class__") "__get__" = some (some (.builtin "getset_descriptor.__get__"))
  tk : PySem.W.takesIn K (.builtin "object.__class__") = some true
/-- e.f, e an exception that is held -/
def tExF (K : PySem.W.Frag) (f : Str) (te : TE) : TE := fun σ H Q => te σ H fun x H1 => ∃ (a C d : Addr) (fs : List (Str × V)) (v : V), x = .ref a ∧ H1 a = some (exo a C (some d)) ∧ H1 d = some (exd d fs) ∧ ExcV K C ∧ PySem.W.findIn K (.ref C) f = some none ∧ fs.lookup f = some v ∧ Q v H1
theorem pe_exF {X : Cx} {e : Expr} {f : Str} {te : TE} {pos : Pos} (he : PE X e te) (hb : attributeBase e f X.env (eval e X.env) = eval e X.env := by rfl) : PE X (.Attribute e f pos) (tExF X.K f te) := by
  refine ⟨fun pins s σ H Q I h => ?_⟩
  refine attr_of hb (thn (he.run pins s σ H _ I h) fun u s1 hh => ?_)
  obtain ⟨x, H1, I1, rx, a, C, d, fs, v, rfl, ea, ed, T, hno, l, q⟩ := hh
  obtain rfl : u = Value.ref a := rx
  obtain ⟨t1, ho⟩ := exo_at I1.hok ea
  obtain ⟨mA, hns, hr⟩ := exd_at I1.hok ed
  have hw := within_of hr
  obtain ⟨od, es, ep, hod, hrest⟩ := id hns
  obtain ⟨od', hod', hl⟩ := lookIn_ns hns
  obtain ⟨u, hu, ru⟩ := RelO.some_of (v := v) (o := mA f) (by rw [← l]; exact hr f)
  have J : PySem.W.InstAt s1.heap a { cls := .ref C, dict := some d, data := .fields #[.ref t1, .none, .none, .none, .bool false, .none] } C (some od') := ⟨ho, rfl, rfl, hod'⟩
  exact HandSPX.exc_get I1.kIn J T.ga T.gg T.sb (PySem.W.findObj_own T.hd hno rfl (by rw [hl, hu])) (handed_of ru) ⟨v, H1, I1.tok _, ru, q⟩
/-- isinstance(e, c), e an exception that is held -/
def rIsX (K : PySem.W.Frag) : List V → Hp → VK → Prop := fun xs H Q => ∃ (a C d : Addr) (fs : List (Str × V)) (c : V) (u : Value) (b : Bool), xs = [.ref a, c] ∧ H a = some (exo a C (some d)) ∧ H d = some (exd d fs) ∧ ExcV K C ∧ ClsD K ∧ ClsV c u ∧ PySem.W.kitOne K (.ref C) u = some b ∧ Q (.bl b) H
theorem call_isX {X : Cx} : CallR X (.builtin "isinstance") (rIsX X.K) := by
  intro pins s σ H xs us Q I r h
  obtain ⟨a, C, d, fs, c, u, b, rfl, ea, ed, T, D, k, e, q⟩ := h
  obtain ⟨u1, u2, rfl, r1, r2⟩ := vals2 r
  have e2 := k.eq r2
  subst e2
  obtain rfl : u1 = Value.ref a := r1
  obtain ⟨t1, ho⟩ := exo_at I.hok ea
  obtain ⟨mA, hns, hr⟩ := exd_at I.hok ed
  obtain ⟨od', hod', hl⟩ := lookIn_ns hns
  have J : PySem.W.InstAt s.heap a { cls := .ref C, dict := some d, data := .fields #[.ref t1, .none, .none, .none, .bool false, .none] } C (some od') := ⟨ho, rfl, rfl, hod'⟩
  exact PySem.W.kia_one (PySem.CrX.kitx_excO (od := some od') T.ga T.gg T.sb T.hd T.ca D.sp D.tk T.mo) I.kIn J e (fun z => nomatch z) fun tk => ⟨.bl b, H, I.tok tk, rfl, q⟩

/-! ### repr of data; data that holds dicts -/
/-- a value of None, bools, ints, texts, lists, tuples, dicts of such, as it stands in the heap -/
inductive Dq (K : PySem.W.Frag) (H : Hp) : V → PyData → Prop
  | base {v : V} {d : PyData} : Dp K H v d → Dq K H v d
  | dict {a : Addr} {kvs : List (Key × V)} {ds : List (PyData × PyData)} : H a = some (.dK kvs) → DpAll K H (kvs.map fun p => kV p.1) (ds.map (·.1)) → DpAll K H (kvs.map (·.2)) (ds.map (·.2)) → Dq K H (.ref a) (.dict ds)
end L2
namespace L2
open PySem PySem.Spec PyProof.Rows

/-! ### promises that may use that no container is being shown (guards) -/
/-- as FnOk, for calls made where no guard stands; nothing is raised -/
structure FnG (P : Program) (w : World) (K : PySem.W.Frag) (mg : Str → Option Value) (base : Heap) (k : Nat) (f : Addr) (fd : FuncData) (ps : List Str) (sp : Sp) : Prop where
  arity : ∀ vs H Q E, sp vs H Q E → vs.length = ps.length
  goes : ∀ (A : Around) (outer : List Env) (s : Shared) (H : Hp) (us : List Value) (vs : List V) (Q : VK), Room k A → A.guards = some [] → Env0 P w K mg base A outer s H → BindsTo s fd ⟨us, []⟩ (ps.zip us) → Vals vs us → sp vs H Q E0 →
    codeAny (model P w) A (.call (.ref f) ⟨us, []⟩) (CR CX0 outer P w H s Q E0) s
theorem FnG.of {P : Program} {w : World} {K : PySem.W.Frag} {mg : Str → Option Value} {base : Heap} {k : Nat} {f : Addr} {x qual : Str} {st : Stmt} {fd : FuncData} {N ps : List Str} {sp : Sp}
    (F : Fun K x qual st f fd) (S : FnScope N ps (defScope st)) (len : ∀ vs H Q E, sp vs H Q E → vs.length = ps.length)
    (hbody : ∀ (cdv : Value) (A : Around) (outer : List Env) (s : Shared) (H : Hp) (vs : List V) (Q : VK), Room k (A.deeper (envOfC qual (defScope st) s.heap.objs.size f cdv)) → (A.deeper (envOfC qual (defScope st) s.heap.objs.size f cdv)).guards = some [] → sp vs H Q E0 →
      ∃ t, PSs (cxOf CX0 P w K mg base N qual (defScope st) f cdv A outer s H E0).nox (defBody st) t ∧ t { nx := fun _ H' => Q .non H', rt := Q } (start N vs) H) : FnG P w K mg base (k + 1) f fd ps sp := by
  obtain ⟨oc, od, kV, doc, pm, an, cdv, ct, osl, rfl, lk, hcd⟩ := F.ex
  refine ⟨len, fun A outer s H us vs Q hr hgd e0 hb r hsp => ?_⟩
  have inS : ∀ b o, base.get? b = some o → s.heap.get? b = some o := fun b o e => (e0.bs b o e).1
  have hkind : ∀ y ∈ ps.zip us, (defScope st).names.lookup y.1 = some .local ∨ ((defScope st).names.lookup y.1 = some .cell ∧ ((cellsFrom (s.heap.objs.size + 1) (defScope st).names []).lookup y.1).isSome = true) := by
    rintro ⟨n, v⟩ hy
    rcases S.par n (List.of_mem_zip hy).1 with q | q
    · exact .inl q
    · exact .inr ⟨q, PySem.W.cellsFrom_some _ _ _ (.inl q)⟩
  refine codeAny_call_function hr.depth ((e0.mod.kin.keeps inS) _ _ lk) rfl S.co S.gen rfl (PySem.W.codeRec_of (e0.mod.kin.keeps inS) hcd) (hb _ _ _ _ (wpAny_newFunctionEnv_cells S.kind hkind fun env he s1 x => ?_))
  subst he
  refine ⟨(e0.mod.nolimit.keeps inS).keeps x.toInCall.keep, codeAny_func ?_⟩
  obtain ⟨t, ht, hq⟩ := hbody cdv A outer s H vs Q (hr.deeper _) hgd hsp
  refine wpAny_mono (ht.nox.run [] s1 (start N vs) H _ (inv_start S hr.hd e0 (len _ _ _ _ hsp) r x) hq) (fun fl s' hs => ?_) fun e s' hs => hs
  cases fl with
  | ret u =>
    obtain ⟨v, σ', H', J, rv, q⟩ := hs
    exact ⟨v, H', J.os, J.bare, J.base, J.hok, rv, q⟩
  | next =>
    obtain ⟨σ', H', J, q⟩ := hs
    exact ⟨V.non, H', J.os, J.bare, J.base, J.hok, rfl, q⟩
  | brk => exact hs.elim fun _ z => z.elim fun _ z => z.2.elim
  | cont => exact hs.elim fun _ z => z.elim fun _ z => z.2.elim
section
variable {X : Cx} {k : Nat} {f : Addr} {fd : FuncData} {ps : List Str} {sp : Sp} {x : Str} {p pos : Pos} {e : Expr} {es : List Expr} {t : TA}
/-- f(e, ..), f such a def -/
theorem pe_callG (F : FnG X.prog X.w X.K X.mg X.base k f fd ps sp) (hr : Room k X.A) (hgd : X.A.guards = some []) (hg : Gl X x) (hm : X.mg x = some (.ref f)) (hk : PySem.W.keepIn X.K (.ref f) = true) (hb : Binds X.K fd ps [])
    (ha : PA X (e :: es) t) (hdb : (x == ("__debug__" : Str)) = false := by decide) (he : starEach (e :: es) X.env = (false, eval e X.env) :: starEach es X.env := by rfl) (hpl : (backTo pos (starEach es X.env)).any (·.1) = false := by rfl) :
    PE X (.Call (.Name x p) (e :: es) [] pos) (tCall sp [] E0 t) := by
  refine ⟨fun pins s σ H Q I h => wpAny_Call_Name_kw (ld_glob I hg hm ?_ hdb)⟩
  refine PySem.W.callWith_K (h₀ := X.base) I.ok.mod.kin hk (thn (ha.run pos pins s σ H _ I h) fun us s1 ⟨vs, H1, I1, r, q⟩ => ⟨I1.kIn, ?_⟩) he hpl
  have q0 : sp (vs ++ []) H1 Q E0 := q
  have q' : sp vs H1 Q E0 := by rw [List.append_nil] at q0; exact q0
  have z := hb s1 us I1.kIn (by rw [List.append_nil, ← Paired.length r]; exact F.arity _ _ _ _ q')
  rw [List.append_nil] at z
  show wpAny _ _ (call (.ref f) us) _ _ _
  refine wpAny_call (codeAny_mono (F.goes X.A X.stack s1 H1 us vs Q hr hgd I1.env0 z r q') fun rr s' hq => ?_)
  cases rr with
  | error e => exact False.elim hq
  | ok fl =>
    cases fl with
    | ret u => exact I1.after hq
    | next => exact False.elim hq
    | brk => exact False.elim hq
    | cont => exact False.elim hq
end
/-- the law's own call, by such a promise -/
theorem law_callG {P : Program} {w : World} {K : PySem.W.Frag} {mg mb : Str → Option Value} {k : Nat} {fa a : Addr} {fd : FuncData} {x : Str} {sp : Sp} {s₁ : Shared} {vs : List Value} {ns : List Int}
    (KX : K.In s₁.heap) (hns : s₁.heap.Ns mainGlobals mg) (hb : s₁.heap.Ns builtinsNs mb) (hbb : ∀ x : Str, x ≠ "__name__" → mb x = bootBuiltins x) (hlim : s₁.heap.NoLimit) (hg : s₁.gens = #[])
    (ha : s₁.heap.get? a = some { cls := .type "list", data := .seq vs.toArray }) (hi : IntsAre vs ns) (hl : ns.length ≤ sizeLine) (hr : Room k callerA)
    (F : ∀ base : Heap, K.In base → base.Ns mainGlobals mg → FnG P w K mg base k fa fd [x] sp) (hbind : ∀ (s : Shared) (u : Value), BindsTo s fd ⟨[u], []⟩ [(x, u)])
    (hsp : ∀ H : Hp, Only H → SqL K H a (ns.map V.int) → sp [.ref a] H (fun v _ => v = .bl true) E0) :
    codeAny (model P w) callerA (.call (.ref fa) ⟨[.ref a], []⟩) (fun r s' => r = .ok (.ret (.bool true)) ∧ OldK s₁.heap s'.heap ∧ s'.os = s₁.os ∧ AllBare s'.gens) s₁ := by
  have rv := vals_ints hi
  have fsz : vs.length = ns.length := hi.length
  -- any abstract heap that tracks the script at most
  have core : ∀ H : Hp, Only H → SqL K H a (ns.map V.int) → HOk P w H s₁.heap → (∀ b u, H b = some u → b = a ∧ K.lookup a = none) →
      codeAny (model P w) callerA (.call (.ref fa) ⟨[.ref a], []⟩) (fun r s' => r = .ok (.ret (.bool true)) ∧ OldK s₁.heap s'.heap ∧ s'.os = s₁.os ∧ AllBare s'.gens) s₁ := by
    intro H hO hS hok hA
    have free : ∀ {b : Addr}, (∀ u, H b = some u → False) → H b = none := fun {b} z => by
      cases q : H b with
      | none => rfl
      | some u => exact (z u q).elim
    have dictFree : ∀ {b : Addr} {o : Obj} {es : Array DictEntry} {ep : Nat}, s₁.heap.get? b = some o → o.data = .dict es ep → H b = none := fun {b o es ep} e d => free fun u q => by
      obtain ⟨rfl, _⟩ := hA b u q
      rw [ha] at e
      cases e
      have d' : Data.seq vs.toArray _ = Data.dict es ep := d
      cases d'
    have under : ∀ {b : Addr} {m : Str → Option Value}, s₁.heap.Ns b m → (hidT s₁.heap H).Ns b m := fun {b m} ⟨o, es, ep, e, d, r⟩ => ⟨o, es, ep, hidT_get e (dictFree e d), d, r⟩
    have hKb : K.In (hidT s₁.heap H) := fun b o e => hidT_get (KX b o e) (free fun u q => by
      obtain ⟨rfl, z⟩ := hA b u q
      rw [z] at e
      cases e)
    have hM : Mod K mg (hidT s₁.heap H) := ⟨hKb, under hns, ⟨mb, under hb, hbb⟩, let ⟨mc, h1, h2⟩ := hlim; ⟨mc, under h1, h2⟩⟩
    have e0 : Env0 P w K mg (hidT s₁.heap H) callerA [] s₁ H := ⟨rfl, hM, fun b o e => of_hidT e, Nat.le_of_eq (hidT_size _ _), trivial, fun b hb => absurd (show b ∈ ([] : List Addr) from hb) (by simp), hok, .of_eq hg⟩
    refine codeAny_mono ((F _ hKb (under hns)).goes callerA [] s₁ H [.ref a] [.ref a] _ hr rfl e0 (hbind s₁ (.ref a)) (.cons rfl .nil) (hsp H hO hS)) fun r s' h => ?_
    cases r with
    | error e => exact False.elim h
    | ok fl =>
      cases fl with
      | next => exact False.elim h
      | brk => exact False.elim h
      | cont => exact False.elim h
      | ret u =>
        obtain ⟨v, H', os, bare, un, hok', r', q⟩ := h
        obtain rfl : v = .bl true := q
        obtain rfl : u = Value.bool true := r'
        refine ⟨rfl, OldK.of_keep fun b o e => ?_, os, bare⟩
        cases q : H b with
        | none => exact un.keep b o e q (by intro z; exact absurd (show b ∈ ([] : List Addr) from z) (by simp)) (by simp)
        | some u =>
          rcases hO b with z | ⟨ob, xs, z⟩
          · rw [q] at z
            cases z
          · obtain ⟨e1, _⟩ := hok b _ z
            obtain ⟨e2, _⟩ := hok' b _ (un.frzs b ob _ z)
            rw [e] at e1
            cases e1
            exact e2
  cases hk : K.lookup a with
  | some o =>
    have e := KX a o hk
    rw [ha] at e
    cases e
    exact core (fun _ => none) (fun _ => .inl rfl) (.inr ⟨_, vs.toArray, _, hk, rfl, rfl, rfl, by rw [List.size_toArray, fsz]; exact hl, by simpa using rv⟩) (fun b u z => nomatch z) fun b u z => nomatch z
  | none =>
    refine core (fun b => if b = a then some (.frz { cls := .type "list", data := .seq vs.toArray } (.lst (ns.map V.int))) else none) (fun b => ?_) (.inl (.inr ⟨{ cls := .type "list", data := .seq vs.toArray }, if_pos rfl⟩)) (fun b u z => ?_) fun b u z => ?_
    · by_cases hb : b = a
      · exact .inr ⟨_, _, if_pos hb⟩
      · exact .inl (if_neg hb)
    · by_cases hb : b = a
      · have z' := (if_pos hb).symm.trans z
        cases z'
        subst hb
        exact ⟨ha, by rw [List.length_map]; exact hl, vs, _, rv, ha⟩
      · have z' := (if_neg hb).symm.trans z
        cases z'
    · by_cases hb : b = a
      · exact ⟨hb, hk⟩
      · have z' := (if_neg hb).symm.trans z
        cases z'
theorem walk_G {l : PySem.W.OpenLaw} {n k : Nat} {q : Program} {loose : List Str} {XP : (Str → Option Value) → Heap → Prop} {YP : World → Heap → Prop} {d : DefRec} {K : Params → PySem.W.Frag} {sp : World → Sp} {x : Str}
    (hn : l.most = some n) (hn2 : n ≤ sizeLine) (hdf : d.params.defaults = []) (hr : Room k callerA) (hY : ∀ (w : World) (h : Heap), YP w h → (K w.params).In h)
    (F : ∀ (w : World) (mg : Str → Option Value) (fa : Addr) (h : Heap), (K w.params).In h → h.Ns mainGlobals mg → mg d.name = some (.ref fa) →
      ∃ fd : FuncData, (∀ (s : Shared) (u : Value), BindsTo s fd ⟨[u], []⟩ [(x, u)]) ∧ ∀ base : Heap, (K w.params).In base → base.Ns mainGlobals mg → FnG l.prog w (K w.params) mg base k fa fd [x] (sp w))
    (hsp : ∀ (w : World) (H : Hp) (a : Addr) (ns : List Int), ns.length ≤ n → Only H → SqL (K w.params) H a (ns.map V.int) → sp w [.ref a] H (fun v _ => v = .bl true) E0) :
    PySem.W.WalkO q loose XP YP l.row.toRowW d [] (fun f vs => PySem.call f vs) := by
  refine Att.attach_call hn hdf fun w s₀ s₁ mg mb fa o pm cd doc a vs ns G Y ho hd hcd hmg hobj hints hlen hg => ?_
  obtain ⟨fd, hb, hF⟩ := F w mg fa _ (hY w _ Y) G.T.g hmg
  exact law_callG (hY w _ Y) G.T.g G.T.b G.T.builtins G.T.nolimit hg hobj hints (Nat.le_trans hlen hn2) hr hF hb fun H hO hS => hsp w H a ns hlen hO hS

/-! ### repr of data -/
/-- a scalar as data -/
def datV : V → PyData
  | .bl b => .bool b
  | .int i => .int i
  | .str x => .str x
  | _ => .none
def scaV : V → Bool
  | .non | .bl _ | .int _ | .str _ => true
  | _ => false
theorem reads_sca {h : Heap} {v : V} {u : Value} (f : scaV v = true) (r : RelV v u) : Reads h u (datV v) [] := by
  cases v with
  | non => cases (show u = Value.none from r); exact .none
  | bl b => cases (show u = Value.bool b from r); exact .bool b
  | int i => obtain ⟨t, rfl⟩ := (show ∃ t, u = Value.int i t from r); exact .int i t
  | str x => obtain ⟨t, rfl⟩ := (show ∃ t, u = Value.str x t from r); exact .str x t
  | _ => cases f
theorem readsAll_sca {h : Heap} : ∀ {vs : List V} {us : List Value}, (∀ v ∈ vs, scaV v = true) → Vals vs us → ReadsAll h us (vs.map datV) []
  | _, _, _, .nil => .nil
  | _, _, f, .cons r t => .cons (as := []) (bs := []) (reads_sca (f _ List.mem_cons_self) r) (readsAll_sca (fun v hv => f v (List.mem_cons_of_mem _ hv)) t)
theorem pairs_vals {P : Program} {w : World} : ∀ {es : List DictEntry} {vs : List (Key × Value)} {kvs : List (Key × V)}, Pairs (mixKind P w) es vs → KV kvs vs → Vals (kvs.map fun p => kV p.1) (es.map (·.key)) ∧ Vals (kvs.map (·.2)) (es.map (·.val))
  | _, _, _, .nil, h => by
    unfold KV at h
    cases h
    exact ⟨.nil, .nil⟩
  | _, _, _, .cons h1 h2 hr, h => by
    unfold KV at h
    cases h with
    | @cons p q ps qs hp ht =>
      obtain ⟨k1, k2⟩ := pairs_vals hr ht
      obtain ⟨e1, e2⟩ := hp
      refine ⟨.cons ?_ k1, .cons ?_ k2⟩
      · have h1' := h1
        rw [mixKind_is, ← e1] at h1'
        rcases keyIs_shape h1' with ⟨i, t, ek, ev⟩ | ⟨x, t, ek, ev⟩
        · show RelV (kV p.1) _
          rw [ek]
          exact ⟨t, ev⟩
        · show RelV (kV p.1) _
          rw [ek]
          exact ⟨t, ev⟩
      · show RelV p.2 (DictEntry.val _)
        rw [h2]
        exact e2
/-- a dict of scalars as data -/
def datD (kvs : List (Key × V)) : PyData := .dict (kvs.map fun p => (datV (kV p.1), datV p.2))
theorem reads_dict {P : Program} {w : World} {H : Hp} {h : Heap} {a : Addr} {kvs : List (Key × V)} (ok : HOk P w H h) (e : H a = some (.dK kvs)) (f : ∀ p ∈ kvs, scaV p.2 = true) : Reads h (.ref a) (datD kvs) [a] ∧ sysModules ∉ [a] := by
  obtain ⟨_, ns, vs, hkv, o, es, ep, ho, ex, hd, _, hp, _⟩ := ok a _ e
  obtain ⟨k1, k2⟩ := pairs_vals hp hkv
  refine ⟨Reads.dict (as := []) (bs := []) ho ex.1 hd ?_ ?_, fun m => ?_⟩
  · have z := readsAll_sca (h := h) (fun v hv => by
      obtain ⟨p, _, rfl⟩ := List.mem_map.mp hv
      obtain ⟨k, x⟩ := p
      cases k <;> rfl) k1
    rw [List.map_map] at z
    rw [List.map_map]
    exact z
  · have z := readsAll_sca (h := h) (fun v hv => by
      obtain ⟨p, hp, rfl⟩ := List.mem_map.mp hv
      exact f p hp) k2
    rw [List.map_map] at z
    rw [List.map_map]
    exact z
  · have z := List.mem_singleton.mp m
    rw [← z] at ns
    exact absurd ns (by decide)
/-- repr(x): x a scalar, or data in the heap -/
def rRepr (K : PySem.W.Frag) : List V → Hp → VK → Prop := fun xs H Q => ∃ (x : V) (d : PyData), xs = [x] ∧ (Dp K H x d ∨ ∃ a kvs, x = .ref a ∧ H a = some (.dK kvs) ∧ (∀ p ∈ kvs, scaV p.2 = true) ∧ d = datD kvs) ∧ d.showable = true ∧ d.depth ≤ 60 ∧ d.shown.length ≤ sizeLine ∧ Q (.str d.shown) H
theorem noDict_of_dp {K : PySem.W.Frag} {H : Hp} : ∀ (d : PyData) (v : V), Dp K H v d → d.hasDict = false := by
  intro d
  exact (PyData.rec (motive_1 := fun d => ∀ v, Dp K H v d → d.hasDict = false) (motive_2 := fun ds => ∀ vs, DpAll K H vs ds → PyData.hasDictAll ds = false) (motive_3 := fun _ => True) (motive_4 := fun _ => True)
    (fun v _ => by simp only [PyData.hasDict]) (fun b v _ => by simp only [PyData.hasDict]) (fun i v _ => by simp only [PyData.hasDict]) (fun x v _ => by simp only [PyData.hasDict])
    (fun xs ih v h => by cases h with | lst hs ha => simp only [PyData.hasDict]; exact ih _ ha)
    (fun xs ih v h => by cases h with | tup hs ha => simp only [PyData.hasDict]; exact ih _ ha)
    (fun kvs _ v h => by cases h)
    (fun vs h => by simp only [PyData.hasDictAll]) (fun d ds i1 i2 vs h => by cases h with | cons h1 h2 => simp only [PyData.hasDictAll, i1 _ h1, i2 _ h2, Bool.or_self])
    trivial (fun _ _ _ _ => trivial) (fun _ _ _ _ => trivial) d)
theorem call_repr {X : Cx} (hgd : X.A.guards = some []) (hu : X.A.units + 64 < cLine) : CallR X (.builtin "repr") (rRepr X.K) := by
  intro pins s σ H xs us Q I r h
  obtain ⟨x, d, rfl, hd, hsh, hdp, hsz, q⟩ := h
  obtain ⟨u, rfl, ru⟩ := vals1 r
  have key : ∃ as, Reads s.heap u d as ∧ (d.hasDict = true → sysModules ∉ as) := by
    rcases hd with hd | ⟨a, kvs, rfl, e, f, rfl⟩
    · obtain ⟨as, hr⟩ := Dp.reads I d x u hd ru
      exact ⟨as, hr, PyData.noDict_hsm (noDict_of_dp d x hd)⟩
    · obtain ⟨hr, hm⟩ := reads_dict I.hok e f
      cases (show u = Value.ref a from ru)
      exact ⟨_, hr, fun _ => hm⟩
  obtain ⟨as, hr, hm⟩ := key
  cases hr with
  | none =>
    simp only [PyData.shown] at q
    exact PySem.P.repr_of_none ⟨.str _, H, I.tok _, ⟨_, rfl⟩, q⟩
  | bool b =>
    simp only [PyData.shown] at q
    exact PySem.P.repr_of_bool ⟨.str _, H, I.tok _, ⟨_, rfl⟩, q⟩
  | int i t =>
    simp only [PyData.shown] at q
    exact PySem.P.repr_of_int (by simpa [PyData.showable] using hsh) ⟨.str _, H, I.tok _, ⟨_, rfl⟩, q⟩
  | str y t =>
    simp only [PyData.shown] at q hsz
    exact PySem.P.repr_of_str ⟨.str _, H, I.tok _, ⟨_, rfl⟩, q⟩ hsz
  | list h1 h2 h3 h4 => exact repr_of_reads' (Reads.list h1 h2 h3 h4) hsh hm hgd (by omega) (fun _ _ e => e) (fun h' u tk hk => ⟨.str _, H, I.kept (t' := tk) hk, ⟨u, rfl⟩, q⟩) hsz
  | tuple h1 h2 h3 h4 => exact repr_of_reads' (Reads.tuple h1 h2 h3 h4) hsh hm hgd (by omega) (fun _ _ e => e) (fun h' u tk hk => ⟨.str _, H, I.kept (t' := tk) hk, ⟨u, rfl⟩, q⟩) hsz
  | dict h1 h2 h3 h4 h5 => exact repr_of_reads' (Reads.dict h1 h2 h3 h4 h5) hsh hm hgd (by omega) (fun _ _ e => e) (fun h' u tk hk => ⟨.str _, H, I.kept (t' := tk) hk, ⟨u, rfl⟩, q⟩) hsz
end L2
namespace Ld
open PySem PySem.Spec PyProof.Rows L2
def top (i : Nat) : Stmt := PySem.Challenge.pw_crateround_k87_notes_that_tell_drives.main.body.getD i (.Pass ⟨0, 0, 0, 0⟩)
abbrev sPen : Stmt := top 27
abbrev sDraw : Stmt := top 28
abbrev sPick : Stmt := top 29
abbrev sShuf : Stmt := top 30
abbrev sWords : Stmt := top 31
abbrev sCntL : Stmt := top 32
abbrev sCntsL : Stmt := top 33
abbrev sClnL : Stmt := top 34
abbrev sRowL : Stmt := top 35
abbrev sSomL : Stmt := top 36
abbrev sLinL : Stmt := top 37
theorem seq_step {t u : TS} {D : Ends} {σ : L2.St} {H : Hp} (Rp : L2.St → Hp → Prop) (h1 : ∀ R : L2.St → Hp → Prop, (∀ σ' H', Rp σ' H' → R σ' H') → t { D with nx := R } σ H) (h2 : ∀ σ' H', Rp σ' H' → u D σ' H') : tSeq t u D σ H := h1 (u D) h2
/-! ### the pen: the script's cells, how many were begun, what is left of a great one -/
structure PenAt (H : Hp) (p c : Addr) (ns : List Int) (u r : Int) : Prop where
  ob : ∃ kvs : List (Key × V), H p = some (.dK kvs) ∧ kvs.length ≤ 10 ∧ valV kvs (Sum.inr ("cells" : Str) : Key) = some (.ref c) ∧ valV kvs (Sum.inr ("begun" : Str) : Key) = some (.int u) ∧ valV kvs (Sum.inr ("left" : Str) : Key) = some (.int r)
  cl : H c = some (.lst (ns.map V.int))
  few : ns.length ≤ 63
  u0 : 0 ≤ u
  r0 : 0 ≤ r
theorem PenAt.ne {H : Hp} {p c : Addr} {ns : List Int} {u r : Int} (P : PenAt H p c ns u r) : c ≠ p := by
  obtain ⟨kvs, h, _⟩ := P.ob
  exact ne_of P.cl h (fun z => nomatch z)
theorem PenAt.same {H H' : Hp} {p c : Addr} {ns : List Int} {u r : Int} (P : PenAt H p c ns u r) (s : Same H H') : PenAt H' p c ns u r := by
  obtain ⟨kvs, h, k⟩ := P.ob
  exact ⟨⟨kvs, s _ _ h, k⟩, s _ _ P.cl, P.few, P.u0, P.r0⟩
/-- all but the pen stands -/
def SameP (p : Addr) (H H' : Hp) : Prop := ∀ b o, H b = some o → b ≠ p → H' b = some o
theorem SameP.trans {p : Addr} {H H1 H2 : Hp} (a : SameP p H H1) (b : SameP p H1 H2) : SameP p H H2 := fun x o h n => b x o (a x o h n) n
theorem SameP.of {p : Addr} {H H' : Hp} (s : Same H H') : SameP p H H' := fun b o h _ => s b o h
theorem putK_len {kvs : List (Key × V)} {k : Key} {v x : V} (h : valV kvs k = some x) : (putK kvs k v).length = kvs.length := by
  unfold putK
  rw [if_pos (by rw [valV_any, h]; rfl), List.length_map]
theorem kCU : ¬ (Sum.inr ("cells" : Str) : Key) = Sum.inr ("begun" : Str) := by decide +kernel
theorem kCR : ¬ (Sum.inr ("cells" : Str) : Key) = Sum.inr ("left" : Str) := by decide +kernel
theorem kUR : ¬ (Sum.inr ("begun" : Str) : Key) = Sum.inr ("left" : Str) := by decide +kernel
theorem kRU : ¬ (Sum.inr ("left" : Str) : Key) = Sum.inr ("begun" : Str) := by decide +kernel
theorem PenAt.setRest {H : Hp} {p c : Addr} {ns : List Int} {u r r' : Int} {kvs : List (Key × V)} (P : PenAt H p c ns u r) (h : H p = some (.dK kvs)) (hl : kvs.length ≤ 10)
    (v1 : valV kvs (Sum.inr ("cells" : Str) : Key) = some (.ref c)) (v2 : valV kvs (Sum.inr ("begun" : Str) : Key) = some (.int u)) (v3 : valV kvs (Sum.inr ("left" : Str) : Key) = some (.int r)) (h0 : 0 ≤ r') :
    PenAt (upd H p (.dK (putK kvs (Sum.inr ("left" : Str)) (.int r')))) p c ns u r' :=
  ⟨⟨_, upd_same, by rw [putK_len v3]; exact hl, by rw [valV_put, if_neg kCR]; exact v1, by rw [valV_put, if_neg kUR]; exact v2, by rw [valV_put, if_pos rfl]⟩, by rw [upd_ne P.ne]; exact P.cl, P.few, P.u0, h0⟩
theorem PenAt.setUsed {H : Hp} {p c : Addr} {ns : List Int} {u r u' : Int} {kvs : List (Key × V)} (P : PenAt H p c ns u r) (h : H p = some (.dK kvs)) (hl : kvs.length ≤ 10)
    (v1 : valV kvs (Sum.inr ("cells" : Str) : Key) = some (.ref c)) (v2 : valV kvs (Sum.inr ("begun" : Str) : Key) = some (.int u)) (v3 : valV kvs (Sum.inr ("left" : Str) : Key) = some (.int r)) (h0 : 0 ≤ u') :
    PenAt (upd H p (.dK (putK kvs (Sum.inr ("begun" : Str)) (.int u')))) p c ns u' r :=
  ⟨⟨_, upd_same, by rw [putK_len v2]; exact hl, by rw [valV_put, if_neg kCU]; exact v1, by rw [valV_put, if_pos rfl], by rw [valV_put, if_neg kRU]; exact v3⟩, by rw [upd_ne P.ne]; exact P.cl, P.few, h0, P.r0⟩
/-! ### lists of ints as data -/
theorem dp_ints {K : PySem.W.Frag} {H : Hp} : ∀ ns : List Int, DpAll K H (ns.map V.int) (ns.map PyData.int)
  | [] => .nil
  | n :: r => .cons (.int n) (dp_ints r)
theorem lay_ints : ∀ ns : List Int, PyData.canLayAll0 (ns.map PyData.int) = true
  | [] => by simp [PyData.canLayAll0]
  | n :: r => by simp [PyData.canLayAll0, PyData.canLay0, lay_ints r]
theorem dep_ints : ∀ ns : List Int, PyData.depthAll (ns.map PyData.int) = 0
  | [] => by simp [PyData.depthAll]
  | n :: r => by simp [PyData.depthAll, PyData.depth, dep_ints r]
theorem shaped_ints (ns : List Int) : SeqAt.shaped (.list (ns.map PyData.int)) = true := by
  unfold SeqAt.shaped
  rw [Bool.and_eq_true]
  refine ⟨?_, decide_eq_true ?_⟩
  · simp only [PyData.canLay0]
    exact lay_ints ns
  · simp only [PyData.depth, dep_ints]
    omega
theorem eqv_nil (ns : List Int) : PyData.eqv (.list (ns.map PyData.int)) (.list []) = ns.isEmpty := by
  cases ns with
  | nil => simp [PyData.eqv, PyData.eqvAll]
  | cons n r => simp [PyData.eqv, PyData.eqvAll]
theorem bInt : bootBuiltins "int" = some (.type "int") := by decide +kernel
theorem bAbs : bootBuiltins "abs" = some (.builtin "abs") := by decide +kernel
theorem bList : bootBuiltins "list" = some (.type "list") := by decide +kernel
theorem same_new {H : Hp} {p : Addr} {o : HO} (h : H p = none) : Same H (upd H p o) := fun b u e => by rw [upd_ne (ne_of_none e h)]; exact e
theorem new_at {H : Hp} {p : Addr} {o : HO} (h : H p = none) : ∃ H', upd H p o = H' ∧ Same H H' ∧ H' p = some o := ⟨_, rfl, same_new h, upd_same⟩
theorem new_dict {H : Hp} {p : Addr} {o u : HO} (h : H p = none) : ∃ H', upd (upd H p u) p o = H' ∧ Same H H' ∧ H' p = some o := ⟨_, rfl, by rw [upd_upd]; exact same_new h, upd_same⟩
theorem Same.tup {K : PySem.W.Frag} {H H' : Hp} {a : Addr} {xs : List V} (e : Same H H') (h : SqT K H a xs) : SqT K H' a xs := by
  rcases h with (h | ⟨o, h⟩) | h
  · exact .inl (.inl (e _ _ h))
  · exact .inl (.inr ⟨o, e _ _ h⟩)
  · exact .inr h
theorem dp_same {K : PySem.W.Frag} {H H' : Hp} (s : Same H H') : ∀ (d : PyData) (v : V), Dp K H v d → Dp K H' v d := fun d =>
  PyData.rec (motive_1 := fun d => ∀ v, Dp K H v d → Dp K H' v d) (motive_2 := fun ds => ∀ vs, DpAll K H vs ds → DpAll K H' vs ds) (motive_3 := fun _ => True) (motive_4 := fun _ => True)
    (fun v h => by cases h; exact .non) (fun b v h => by cases h; exact .bl b) (fun i v h => by cases h; exact .int i) (fun x v h => by cases h; exact .str x)
    (fun xs ih v h => by cases h with | lst hs ha => exact .lst (s.seq hs) (ih _ ha))
    (fun xs ih v h => by cases h with | tup hs ha => exact .tup (Same.tup s hs) (ih _ ha))
    (fun kvs _ v h => by cases h)
    (fun vs h => by cases h; exact .nil) (fun d ds i1 i2 vs h => by cases h with | cons h1 h2 => exact .cons (i1 _ h1) (i2 _ h2))
    trivial (fun _ _ _ _ => trivial) (fun _ _ _ _ => trivial) d

/-- names of the module that are the built-ins' own -/
structure Blt (mg : Str → Option Value) : Prop where
  int : mg "int" = none
  abs : mg "abs" = none
  list : mg "list" = none
  len : mg "len" = none
  range : mg "range" = none
theorem dget_s {H : Hp} {a : Addr} {kvs : List (Key × V)} {x : Str} {v : V} (e : H a = some (.dK kvs)) (h : valV kvs (Sum.inr x : Key) = some v) : DGet H a (.str x) (some v) := by
  have z := DGet.k (k := (Sum.inr x : Key)) e
  rw [h] at z
  exact z
theorem dput_s {H : Hp} {a : Addr} {kvs : List (Key × V)} {x : Str} {v : V} (e : H a = some (.dK kvs)) (hl : kvs.length ≤ 10) : DPut H a (.str x) v (upd H a (.dK (putK kvs (Sum.inr x : Key) v))) :=
  DPut.k (k := (Sum.inr x : Key)) e (Nat.lt_of_le_of_lt hl (by decide))
theorem ifd {c : Prop} [Decidable c] {A B : Prop} (h1 : c → A) (h2 : ¬ c → B) : if decide c = true then A else B := by
  by_cases h : c
  · rw [if_pos (decide_eq_true h)]
    exact h1 h
  · rw [if_neg (by rw [decide_eq_false h]; exact Bool.false_ne_true)]
    exact h2 h
theorem ifb {b : Bool} {A B : Prop} (h1 : b = true → A) (h2 : b = false → B) : if b = true then A else B := by
  cases b with
  | true => exact (if_pos rfl : (if true = true then A else B) = A) ▸ h1 rfl
  | false => exact (if_neg Bool.false_ne_true : (if false = true then A else B) = B) ▸ h2 rfl
theorem atI_in {xs : List V} {i : Int} {n : Int} (hn : n = (xs.length : Int)) (h0 : 0 ≤ i) (h1 : i < n) : ∃ v, atI xs i = some v ∧ v ∈ xs := by
  have hl : i.toNat < xs.length := by omega
  refine ⟨xs[i.toNat], ?_, List.getElem_mem hl⟩
  have e : i = ((i.toNat : Nat) : Int) := by omega
  have z : atI xs ((i.toNat : Nat) : Int) = some xs[i.toNat] := atI_nat (by simp [List.getElem?_eq_getElem hl])
  rwa [← e] at z
theorem em {x n : Int} (h0 : 0 < n) (h1 : n ≤ 18446744073709551616) : -(2 ^ 64) < x % n ∧ x % n < 2 ^ 64 := by
  have a := Int.emod_nonneg x (by omega : n ≠ 0)
  have b := Int.emod_lt_of_pos x h0
  omega
/-! ### the promises -/
def spDraw : Sp := fun vs H Q _ => ∃ (p c : Addr) (ns : List Int) (u r m : Int), vs = [.ref p, .int m] ∧ PenAt H p c ns u r ∧ u ≤ 1000000 ∧ 0 < m ∧ m ≤ 1000000000 ∧
  ∀ (d u' r' : Int) (H' : Hp), 0 ≤ d → d < m → u' ≤ u + 1 → PenAt H' p c ns u' r' → SameP p H H' → Q (.int d) H'
local macro_rules | `(tactic| walk_at "pe") => `(tactic| first
  | exact pe_int
  | exact pe_bl
  | exact pe_non
  | exact pe_str
  | ((with_reducible show PE _ (Expr.Name _ _) _); first | exact pv 0 | exact pv 1 | exact pv 2 | exact pv 3 | exact pv 4 | exact pv 5 | exact pv 6 | exact pv 7 | exact pv 8 | exact pv 9 | exact pv 10 | exact pv 11)
  | ((with_reducible show PE _ (Expr.BinOp _ Operator.Add _ _) _); refine' pe_op op_add ?p1 ?p2; (case p1 => walk_at "pe"); (case p2 => walk_at "pe"))
  | ((with_reducible show PE _ (Expr.BinOp _ Operator.Sub _ _) _); refine' pe_op op_sub ?p1 ?p2; (case p1 => walk_at "pe"); (case p2 => walk_at "pe"))
  | ((with_reducible show PE _ (Expr.BinOp _ Operator.Mult _ _) _); refine' pe_op op_mul ?p1 ?p2; (case p1 => walk_at "pe"); (case p2 => walk_at "pe"))
  | ((with_reducible show PE _ (Expr.BinOp _ Operator.Mod _ _) _); refine' pe_op op_mod ?p1 ?p2; (case p1 => walk_at "pe"); (case p2 => walk_at "pe"))
  | ((with_reducible show PE _ (Expr.BinOp _ Operator.FloorDiv _ _) _); refine' pe_op op_fdiv ?p1 ?p2; (case p1 => walk_at "pe"); (case p2 => walk_at "pe"))
  | ((with_reducible show PE _ (Expr.BinOp _ Operator.Pow _ _) _); refine' pe_op op_pow ?p1 ?p2; (case p1 => walk_at "pe"); (case p2 => walk_at "pe"))
  | ((with_reducible show PE _ (Expr.UnaryOp UnaryOp.USub _ _) _); refine' pe_un un_neg ?p1; (case p1 => walk_at "pe"))
  | ((with_reducible show PE _ (Expr.Subscript _ (Expr.Constant (Const.str _) _ _) _) _); refine' pe_dget (by assumption) ?p1 pe_str (fun _ _ => rfl); (case p1 => walk_at "pe"))
  | ((with_reducible show PE _ (Expr.Subscript _ _ _) _); refine' pe_ix ix_list ?p1 ?p2 (fun _ _ => rfl); (case p1 => walk_at "pe"); (case p2 => walk_at "pe"))
  | ((with_reducible show PE _ (Expr.Call (Expr.Name "int" _) _ _ _) _); refine' pe_callTy call_int1 (by rfl) (by assumption) bInt (pa_cons ?p1 pa_nil); (case p1 => walk_at "pe"))
  | ((with_reducible show PE _ (Expr.Call (Expr.Name "abs" _) _ _ _) _); refine' pe_callB call_abs (by rfl) (by assumption) bAbs (pa_cons ?p1 pa_nil); (case p1 => walk_at "pe"))
  | ((with_reducible show PE _ (Expr.Call (Expr.Name "len" _) _ _ _) _); refine' pe_callB call_len_seq (by rfl) (by assumption) PySem.boot_len (pa_cons ?p1 pa_nil); (case p1 => walk_at "pe"))
  | ((with_reducible show PE _ (Expr.List _ _) _); refine' pe_lst ?p1; (case p1 => walk_at "pa"))
  | ((with_reducible show PE _ (Expr.Tuple _ _ _) _); refine' pe_tup ?p1; (case p1 => walk_at "pa")))
local macro_rules | `(tactic| walk_at "pa") => `(tactic| first | exact pa_nil | (refine' pa_cons ?p1 ?p2; (case p1 => walk_at "pe"); (case p2 => walk_at "pa")))
local macro_rules | `(tactic| walk_at "pt") => `(tactic| first
  | ((with_reducible show PT _ (Expr.Compare _ [CmpOp.Gt] [_] _) _); refine' pt_cmpR op_gt ?p1 ?p2 (nomark _); (case p1 => walk_at "pe"); (case p2 => walk_at "pe"))
  | ((with_reducible show PT _ (Expr.Compare _ [CmpOp.GtE] [_] _) _); refine' pt_cmpR op_ge ?p1 ?p2 (nomark _); (case p1 => walk_at "pe"); (case p2 => walk_at "pe"))
  | ((with_reducible show PT _ (Expr.Compare _ [CmpOp.Lt] [_] _) _); refine' pt_cmpR op_lt ?p1 ?p2 (nomark _); (case p1 => walk_at "pe"); (case p2 => walk_at "pe"))
  | ((with_reducible show PT _ (Expr.Compare _ [CmpOp.LtE] [_] _) _); refine' pt_cmpR op_le ?p1 ?p2 (nomark _); (case p1 => walk_at "pe"); (case p2 => walk_at "pe"))
  | ((with_reducible show PT _ (Expr.Compare _ [CmpOp.NotEq] [Expr.List [] _] _) _); refine' pt_cmpR (op_neD (by assumption)) ?p1 (pe_lst pa_nil) (nomark _); (case p1 => walk_at "pe"))
  | ((with_reducible show PT _ (Expr.BoolOp BoolOp.And [_, _] _) _); refine' PW.pt (pw_and ?p1 (pw_and1 ?p2)); (case p1 => walk_at "pt"); (case p2 => walk_at "pt")))
local macro_rules | `(tactic| walk_at "st") => `(tactic| first
  | ((with_reducible show PS _ (Stmt.Return (some _) _) _); refine' ps_ret ?p1; (case p1 => walk_at "pe"))
  | ((with_reducible show PS _ (Stmt.Assign [Expr.Subscript _ _ _] _ _) _); refine' ps_dput (by assumption) ?p1 ?p2 ?p3 rfl; (case p1 => walk_at "pe"); (case p2 => walk_at "pe"); (case p3 => walk_at "pe"))
  | ((with_reducible show PS _ (Stmt.Assign [Expr.Name _ _] _ _) _); (first | refine' ps_set (i := 1) (by assumption) rfl (Or.inl rfl) ?p1 | refine' ps_set (i := 2) (by assumption) rfl (Or.inl rfl) ?p1 | refine' ps_set (i := 3) (by assumption) rfl (Or.inl rfl) ?p1 | refine' ps_set (i := 4) (by assumption) rfl (Or.inl rfl) ?p1 | refine' ps_set (i := 5) (by assumption) rfl (Or.inl rfl) ?p1 | refine' ps_set (i := 6) (by assumption) rfl (Or.inl rfl) ?p1 | refine' ps_set (i := 7) (by assumption) rfl (Or.inl rfl) ?p1 | refine' ps_set (i := 8) (by assumption) rfl (Or.inl rfl) ?p1 | refine' ps_set (i := 9) (by assumption) rfl (Or.inl rfl) ?p1 | refine' ps_set (i := 10) (by assumption) rfl (Or.inl rfl) ?p1 | refine' ps_set (i := 11) (by assumption) rfl (Or.inl rfl) ?p1); (case p1 => walk_at "pe"))
  | ((with_reducible show PS _ (Stmt.If _ _ _ _) _); refine' ps_if ?p1 ?p2 ?p3; (case p1 => walk_at "pt"); (case p2 => walk_at "ps"); (case p3 => walk_at "ps")))
local macro_rules | `(tactic| walk_at "ps") => `(tactic| first
  | exact pss_nil | (refine' pss_one ?p1; (case p1 => walk_at "st")) | (refine' pss_cons ?p1 ?p2; (case p1 => walk_at "st"); (case p2 => walk_at "ps")))

section
variable {P : Program} {w : World} {K : PySem.W.Frag} {mg : Str → Option Value} {base : Heap}
abbrev nDraw : List Str := ["_law_pen_here", "_law_many", "_law_digit", "_law_at", "_law_size", "_law_cell", "_law_blend"]
theorem scDraw : FnScope nDraw ["_law_pen_here", "_law_many"] (defScope sDraw) := ⟨rfl, rfl, rfl, by decide +kernel, rfl, by decide +kernel, by decide +kernel⟩
theorem ok_draw {f : Addr} {fd : FuncData} (F : Fun K "_law_draw" "_law_draw" sDraw f fd) (B : Blt mg) : FnOk P w K mg base CX0 1 f fd ["_law_pen_here", "_law_many"] spDraw := by
  refine F.ok scDraw (fun vs H Q E h => ?_) (fun cdv A outer s H vs Q E hr h => ?_)
  · obtain ⟨p, c, ns, u, r, m, rfl, _⟩ := h
    rfl
  · obtain ⟨p, c, ns, u, r, m, rfl, PA, hu6, hm0, hm1, k⟩ := h
    have hu := hu_of hr
    have hu64 := hr.units
    have m1 := B.int
    have m2 := B.abs
    have m3 := B.len
    have nd : nDraw.Nodup := scDraw.nd
    refine ⟨_, pss_cons (ps_if (by walk_at "pt") (by walk_at "ps") pss_nil)
      (pss_cons (ps_par (i := 3) (j := 4) rfl nd rfl rfl (by decide) rfl rfl (pa_cons (by walk_at "pe") (pa_cons (by walk_at "pe") pa_nil)) (by rfl))
      (pss_cons (ps_dput hu (by walk_at "pe") (by walk_at "pe") (by walk_at "pe") rfl)
      (pss_cons (ps_set (i := 5) nd rfl (Or.inl rfl) (pe_ifExp (by walk_at "pt") (by walk_at "pe") (by walk_at "pe")))
      (by walk_at "ps")))), ?_⟩
    obtain ⟨kvs, hp, hl, v1, v2, v3⟩ := PA.ob
    have hc := PA.cl
    have u0 := PA.u0
    refine seq_step (fun σ' H' => σ' = [some (.ref p), some (.int m), none, none, none, none, none] ∧ H' = H) (fun R hR => ?_) (fun σ1 H1 h1 => ?_)
    · -- if pen['left'] > 0
      refine ⟨_, rfl, _, _, rfl, dget_s hp v3, _, _, rfl, rfl, _, rfl, ifd (fun c0 => ?_) (fun c0 => hR _ _ ⟨rfl, rfl⟩)⟩
      refine ⟨_, rfl, _, _, rfl, dget_s hp v3, .inl ⟨_, rfl, ?_⟩⟩
      refine ⟨_, rfl, _, _, rfl, rfl, hm0, ?_⟩
      refine ⟨_, rfl, _, _, rfl, dget_s hp v3, _, rfl, _, _, rfl, rfl, ⟨hm0, by omega⟩, ?_⟩
      refine ⟨_, rfl, _, _, rfl, dput_s hp hl, ?_⟩
      refine ⟨_, rfl, ?_⟩
      exact k _ _ _ _ (Int.emod_nonneg _ (by omega)) (Int.emod_lt_of_pos _ hm0) (by omega) (PA.setRest hp hl v1 v2 v3 (Int.ediv_nonneg PA.r0 (by omega))) fun b o e hb => by rw [upd_ne hb]; exact e
    obtain ⟨rfl, rfl⟩ := h1
    have hlen : (ns.map V.int).length = ns.length := List.length_map ..
    -- place, size = pen['begun'], len(pen['cells']); pen['begun'] = place + 1
    refine seq_step (fun σ' H' => σ' = [some (.ref p), some (.int m), none, some (.int u), some (.int ((ns.map V.int).length : Nat)), none, none] ∧ H' = H1) (fun R hR => ?_) (fun σ2 H2 h2 => ?_)
    · exact ⟨_, rfl, _, _, rfl, dget_s hp v2, _, rfl, _, _, rfl, dget_s hp v1, _, _, rfl, .inl (.inl (.inl hc)), _, _, rfl, hR _ _ ⟨rfl, rfl⟩⟩
    obtain ⟨rfl, rfl⟩ := h2
    refine seq_step (fun σ' H' => σ' = [some (.ref p), some (.int m), none, some (.int u), some (.int ((ns.map V.int).length : Nat)), none, none] ∧ PenAt H' p c ns (u + 1) r ∧ SameP p H2 H') (fun R hR => ?_) (fun σ3 H3 h3 => ?_)
    · refine ⟨_, rfl, _, _, rfl, rfl, _, rfl, _, _, rfl, dput_s hp hl, ?_⟩
      exact hR _ _ ⟨rfl, PA.setUsed (u' := u + 1) hp hl v1 v2 v3 (by omega), fun b o e hb => by rw [upd_ne hb]; exact e⟩
    obtain ⟨rfl, PA1, keep⟩ := h3
    clear hp hl v1 v2 v3 hc kvs
    obtain ⟨kvs, hp, hl, v1, v2, v3⟩ := PA1.ob
    have hc := PA1.cl
    -- told = ..
    refine seq_step (fun σ' H' => ∃ z : Int, σ' = [some (.ref p), some (.int m), none, some (.int u), some (.int ((ns.map V.int).length : Nat)), some (.int z), none] ∧ H' = H3) (fun R hR => ?_) (fun σ4 H4 h4 => ?_)
    · refine ⟨_, rfl, _, _, rfl, rfl, _, rfl, ifd (fun c1 => ?_) (fun c1 => ?_)⟩
      · refine ⟨_, rfl, _, _, rfl, dget_s hp v1, _, rfl, .inl ⟨_, rfl, _, rfl, _, _, rfl, rfl, c1, ?_⟩⟩
        obtain ⟨v, hv, hm⟩ := atI_in (xs := ns.map V.int) (i := u % ((ns.map V.int).length : Int)) rfl (Int.emod_nonneg _ (by omega)) (Int.emod_lt_of_pos _ c1)
        obtain ⟨z, _, rfl⟩ := List.mem_map.mp hm
        exact ⟨_, _, _, _, rfl, rfl, .inl (.inl hc), hv, hR _ _ ⟨z, rfl, rfl⟩⟩
      · exact ⟨_, rfl, _, _, rfl, rfl, .inl ⟨by decide, by decide⟩, _, _, rfl, rfl, hR _ _ ⟨_, rfl, rfl⟩⟩
    obtain ⟨z, rfl, rfl⟩ := h4
    -- place < size and abs(told) >= 10 ** 18
    refine seq_step (fun σ' H' => σ' = [some (.ref p), some (.int m), none, some (.int u), some (.int ((ns.map V.int).length : Nat)), some (.int z), none] ∧ H' = H4) (fun R hR => ?_) (fun σ5 H5 h5 => ?_)
    · refine ⟨_, rfl, _, rfl, _, _, rfl, rfl, _, rfl, ifd (fun cl => ?_) (fun ncl => ?_)⟩
      · refine ⟨_, rfl, _, rfl, _, _, rfl, rfl, ⟨by decide, by decide, by decide⟩, _, _, rfl, rfl, _, rfl, ifd (fun big => ?_) (fun nbig => hR _ _ ⟨rfl, rfl⟩)⟩
        refine ⟨_, rfl, _, rfl, _, _, rfl, rfl, ⟨by decide, by decide, by decide⟩, _, _, rfl, rfl, _, rfl, _, _, rfl, rfl, ⟨hm0, by omega⟩, ?_⟩
        refine ⟨_, rfl, _, _, rfl, dput_s hp hl, ?_⟩
        refine ⟨_, rfl, _, rfl, _, _, rfl, rfl, ⟨by decide, by decide, by decide⟩, _, _, rfl, rfl, .inl ⟨_, rfl, ?_⟩⟩
        refine ⟨_, rfl, _, _, rfl, rfl, hm0, ?_⟩
        exact k _ _ _ _ (Int.emod_nonneg _ (by omega)) (Int.emod_lt_of_pos _ hm0) (by omega) (PA1.setRest hp hl v1 v2 v3 (Int.ediv_nonneg (by omega) (by omega))) fun b o e hb => by rw [upd_ne hb]; exact keep b o e hb
      · exact iteF (hR _ _ ⟨rfl, rfl⟩)
    obtain ⟨rfl, rfl⟩ := h5
    -- the mixings
    refine seq_step (fun σ' H' => ∃ b : Int, σ' = [some (.ref p), some (.int m), none, some (.int u), some (.int ((ns.map V.int).length : Nat)), some (.int z), some (.int (b % 2147483549))] ∧ H' = H5) (fun R hR => ?_) (fun σ6 H6 h6 => ?_)
    · refine ⟨_, rfl, .inl ⟨_, rfl, _, _, rfl, rfl, (by decide : (0 : Int) < 2147483543), _, _, rfl, rfl, .inr ⟨by decide, by decide⟩, ?_⟩⟩
      exact ⟨_, rfl, _, _, rfl, rfl, .inl ⟨by decide, by decide⟩, _, rfl, _, _, rfl, rfl, .inr ⟨by omega, by omega⟩, _, _, rfl, rfl, _, rfl, _, _, rfl, rfl, .inl ⟨by decide, by decide⟩, _, _, rfl, rfl, _, _, rfl, rfl, .inl ⟨_, rfl, _, _, rfl, rfl, (by decide : (0 : Int) < 2147483549), hR _ _ ⟨_, rfl, rfl⟩⟩⟩
    obtain ⟨b, rfl, rfl⟩ := h6
    refine seq_step (fun σ' H' => ∃ b : Int, σ' = [some (.ref p), some (.int m), none, some (.int u), some (.int ((ns.map V.int).length : Nat)), some (.int z), some (.int (b % 2147483477))] ∧ H' = H6) (fun R hR => ?_) (fun σ7 H7 h7 => ?_)
    · refine ⟨_, rfl, _, rfl, _, _, rfl, rfl, .inl (em (by decide) (by decide)), ?_⟩
      refine ⟨_, rfl, _, _, rfl, rfl, .inl ⟨by decide, by decide⟩, _, _, rfl, rfl, ?_⟩
      exact ⟨_, rfl, _, _, rfl, rfl, .inl ⟨by decide, by decide⟩, _, _, rfl, rfl, .inl ⟨_, rfl, _, _, rfl, rfl, (by decide : (0 : Int) < 2147483477), hR _ _ ⟨_, rfl, rfl⟩⟩⟩
    obtain ⟨b2, rfl, rfl⟩ := h7
    refine ⟨_, rfl, _, rfl, _, _, rfl, rfl, _, _, rfl, rfl, .inl (em (by decide) (by decide)), .inl ⟨_, rfl, ?_⟩⟩
    refine ⟨_, _, rfl, rfl, (by decide : (0 : Int) < 2147483423), _, _, rfl, rfl, ⟨by decide, by decide⟩, .inl ⟨_, rfl, ?_⟩⟩
    refine ⟨_, rfl, _, _, rfl, rfl, hm0, ?_⟩
    exact k _ _ _ _ (Int.emod_nonneg _ (by omega)) (Int.emod_lt_of_pos _ hm0) (by omega) PA1 keep
end
end Ld
namespace Ld
open PySem PySem.Spec PyProof.Rows L2
local macro_rules | `(tactic| walk_at "pe") => `(tactic| first
  | exact pe_int
  | exact pe_bl
  | exact pe_non
  | exact pe_str
  | ((with_reducible show PE _ (Expr.Name _ _) _); first | exact pv 0 | exact pv 1 | exact pv 2 | exact pv 3 | exact pv 4 | exact pv 5 | exact pv 6 | exact pv 7 | exact pv 8 | exact pv 9 | exact pv 10 | exact pv 11)
  | ((with_reducible show PE _ (Expr.BinOp _ Operator.Add _ _) _); refine' pe_op op_add ?p1 ?p2; (case p1 => walk_at "pe"); (case p2 => walk_at "pe"))
  | ((with_reducible show PE _ (Expr.BinOp _ Operator.Sub _ _) _); refine' pe_op op_sub ?p1 ?p2; (case p1 => walk_at "pe"); (case p2 => walk_at "pe"))
  | ((with_reducible show PE _ (Expr.BinOp _ Operator.Mult _ _) _); refine' pe_op op_mul ?p1 ?p2; (case p1 => walk_at "pe"); (case p2 => walk_at "pe"))
  | ((with_reducible show PE _ (Expr.BinOp _ Operator.Mod _ _) _); refine' pe_op op_mod ?p1 ?p2; (case p1 => walk_at "pe"); (case p2 => walk_at "pe"))
  | ((with_reducible show PE _ (Expr.BinOp _ Operator.FloorDiv _ _) _); refine' pe_op op_fdiv ?p1 ?p2; (case p1 => walk_at "pe"); (case p2 => walk_at "pe"))
  | ((with_reducible show PE _ (Expr.BinOp _ Operator.Pow _ _) _); refine' pe_op op_pow ?p1 ?p2; (case p1 => walk_at "pe"); (case p2 => walk_at "pe"))
  | ((with_reducible show PE _ (Expr.UnaryOp UnaryOp.USub _ _) _); refine' pe_un un_neg ?p1; (case p1 => walk_at "pe"))
  | ((with_reducible show PE _ (Expr.Subscript _ (Expr.Constant (Const.str _) _ _) _) _); refine' pe_dget (by assumption) ?p1 pe_str (fun _ _ => rfl); (case p1 => walk_at "pe"))
  | ((with_reducible show PE _ (Expr.Subscript _ _ _) _); refine' pe_ix ix_list ?p1 ?p2 (fun _ _ => rfl); (case p1 => walk_at "pe"); (case p2 => walk_at "pe"))
  | ((with_reducible show PE _ (Expr.Call (Expr.Name "int" _) _ _ _) _); refine' pe_callTy call_int1 (by rfl) (by assumption) bInt (pa_cons ?p1 pa_nil); (case p1 => walk_at "pe"))
  | ((with_reducible show PE _ (Expr.Call (Expr.Name "abs" _) _ _ _) _); refine' pe_callB call_abs (by rfl) (by assumption) bAbs (pa_cons ?p1 pa_nil); (case p1 => walk_at "pe"))
  | ((with_reducible show PE _ (Expr.Call (Expr.Name "len" _) _ _ _) _); refine' pe_callB call_len_seq (by rfl) (by assumption) PySem.boot_len (pa_cons ?p1 pa_nil); (case p1 => walk_at "pe"))
  | ((with_reducible show PE _ (Expr.List _ _) _); refine' pe_lst ?p1; (case p1 => walk_at "pa"))
  | ((with_reducible show PE _ (Expr.Tuple _ _ _) _); refine' pe_tup ?p1; (case p1 => walk_at "pa")))
local macro_rules | `(tactic| walk_at "pa") => `(tactic| first | exact pa_nil | (refine' pa_cons ?p1 ?p2; (case p1 => walk_at "pe"); (case p2 => walk_at "pa")))
local macro_rules | `(tactic| walk_at "pt") => `(tactic| first
  | ((with_reducible show PT _ (Expr.Compare _ [CmpOp.Gt] [_] _) _); refine' pt_cmpR op_gt ?p1 ?p2 (nomark _); (case p1 => walk_at "pe"); (case p2 => walk_at "pe"))
  | ((with_reducible show PT _ (Expr.Compare _ [CmpOp.GtE] [_] _) _); refine' pt_cmpR op_ge ?p1 ?p2 (nomark _); (case p1 => walk_at "pe"); (case p2 => walk_at "pe"))
  | ((with_reducible show PT _ (Expr.Compare _ [CmpOp.Lt] [_] _) _); refine' pt_cmpR op_lt ?p1 ?p2 (nomark _); (case p1 => walk_at "pe"); (case p2 => walk_at "pe"))
  | ((with_reducible show PT _ (Expr.Compare _ [CmpOp.LtE] [_] _) _); refine' pt_cmpR op_le ?p1 ?p2 (nomark _); (case p1 => walk_at "pe"); (case p2 => walk_at "pe"))
  | ((with_reducible show PT _ (Expr.Compare _ [CmpOp.NotEq] [Expr.List [] _] _) _); refine' pt_cmpR (op_neD (by assumption)) ?p1 (pe_lst pa_nil) (nomark _); (case p1 => walk_at "pe"))
  | ((with_reducible show PT _ (Expr.BoolOp BoolOp.And [_, _] _) _); refine' PW.pt (pw_and ?p1 (pw_and1 ?p2)); (case p1 => walk_at "pt"); (case p2 => walk_at "pt")))
local macro_rules | `(tactic| walk_at "st") => `(tactic| first
  | ((with_reducible show PS _ (Stmt.Return (some _) _) _); refine' ps_ret ?p1; (case p1 => walk_at "pe"))
  | ((with_reducible show PS _ (Stmt.Assign [Expr.Subscript _ _ _] _ _) _); refine' ps_dput (by assumption) ?p1 ?p2 ?p3 rfl; (case p1 => walk_at "pe"); (case p2 => walk_at "pe"); (case p3 => walk_at "pe"))
  | ((with_reducible show PS _ (Stmt.Assign [Expr.Name _ _] _ _) _); (first | refine' ps_set (i := 1) (by assumption) rfl (Or.inl rfl) ?p1 | refine' ps_set (i := 2) (by assumption) rfl (Or.inl rfl) ?p1 | refine' ps_set (i := 3) (by assumption) rfl (Or.inl rfl) ?p1 | refine' ps_set (i := 4) (by assumption) rfl (Or.inl rfl) ?p1 | refine' ps_set (i := 5) (by assumption) rfl (Or.inl rfl) ?p1 | refine' ps_set (i := 6) (by assumption) rfl (Or.inl rfl) ?p1 | refine' ps_set (i := 7) (by assumption) rfl (Or.inl rfl) ?p1 | refine' ps_set (i := 8) (by assumption) rfl (Or.inl rfl) ?p1 | refine' ps_set (i := 9) (by assumption) rfl (Or.inl rfl) ?p1 | refine' ps_set (i := 10) (by assumption) rfl (Or.inl rfl) ?p1 | refine' ps_set (i := 11) (by assumption) rfl (Or.inl rfl) ?p1); (case p1 => walk_at "pe"))
  | ((with_reducible show PS _ (Stmt.If _ _ _ _) _); refine' ps_if ?p1 ?p2 ?p3; (case p1 => walk_at "pt"); (case p2 => walk_at "ps"); (case p3 => walk_at "ps")))
local macro_rules | `(tactic| walk_at "ps") => `(tactic| first
  | exact pss_nil | (refine' pss_one ?p1; (case p1 => walk_at "st")) | (refine' pss_cons ?p1 ?p2; (case p1 => walk_at "st"); (case p2 => walk_at "ps")))

def spPen (K : PySem.W.Frag) : Sp := fun vs H Q _ => ∃ (a : Addr) (ns : List Int), vs = [.ref a] ∧ SqL K H a (ns.map V.int) ∧ ns.length ≤ 63 ∧ ∀ (p c : Addr) (H' : Hp), Same H H' → PenAt H' p c ns 0 0 → Q (.ref p) H'
/-- an item of a list, or a sign of a text, drawn -/
def spPick (K : PySem.W.Frag) : Sp := fun vs H Q _ => ∃ (p c : Addr) (x : V) (ns : List Int) (u r : Int), vs = [.ref p, x] ∧ PenAt H p c ns u r ∧ u ≤ 1000000 ∧
  ((∃ (l : Addr) (xs : List V), x = .ref l ∧ H l = some (.lst xs) ∧ 0 < xs.length ∧ xs.length ≤ 100000 ∧ ∀ (v : V) (u' r' : Int) (H' : Hp), v ∈ xs → u' ≤ u + 1 → PenAt H' p c ns u' r' → SameP p H H' → Q v H') ∨
   (∃ (z : Str), x = .str z ∧ 0 < z.length ∧ z.length ≤ 1000 ∧ ∀ (d : Nat) (u' r' : Int) (H' : Hp), d ∈ z.cps.toList → u' ≤ u + 1 → PenAt H' p c ns u' r' → SameP p H H' → Q (.str ⟨#[d]⟩) H'))
theorem merge3 (x y z : V) : mergeK [] [((Sum.inr ("cells" : Str) : Key), x), (Sum.inr ("begun" : Str), y), (Sum.inr ("left" : Str), z)] = [((Sum.inr ("cells" : Str) : Key), x), (Sum.inr ("begun" : Str), y), (Sum.inr ("left" : Str), z)] := by
  kernel_rfl
theorem val3a (x y z : V) : valV [((Sum.inr ("cells" : Str) : Key), x), (Sum.inr ("begun" : Str), y), (Sum.inr ("left" : Str), z)] (Sum.inr ("cells" : Str)) = some x := by kernel_rfl
theorem val3b (x y z : V) : valV [((Sum.inr ("cells" : Str) : Key), x), (Sum.inr ("begun" : Str), y), (Sum.inr ("left" : Str), z)] (Sum.inr ("begun" : Str)) = some y := by kernel_rfl
theorem val3c (x y z : V) : valV [((Sum.inr ("cells" : Str) : Key), x), (Sum.inr ("begun" : Str), y), (Sum.inr ("left" : Str), z)] (Sum.inr ("left" : Str)) = some z := by kernel_rfl
theorem cut_all {xs : List V} (h : xs.length ≤ 63) : cutV xs none (some 63) = xs := by
  unfold cutV
  have e1 : HT.sIx xs.length xs.length (some 63) = xs.length := by
    have z := HT.sIx_nat xs.length xs.length 63
    have z' : HT.sIx xs.length xs.length (some (63 : Int)) = min 63 xs.length := z
    rw [z']
    exact Nat.min_eq_right h
  rw [e1, HT.sIx_none, Nat.sub_zero, List.drop_zero, List.take_length]

section
variable {P : Program} {w : World} {K : PySem.W.Frag} {mg : Str → Option Value} {base : Heap}
/-- a def of the module that its callers may call -/
def Has (P : Program) (w : World) (K : PySem.W.Frag) (mg : Str → Option Value) (base : Heap) (k : Nat) (x : Str) (ps : List Str) (sp : Sp) : Prop := ∃ f fd, FnOk P w K mg base CX0 k f fd ps sp ∧ Binds K fd ps [] ∧ mg x = some (.ref f) ∧ PySem.W.keepIn K (.ref f) = true
theorem scPen : FnScope ["_law_script"] ["_law_script"] (defScope sPen) := ⟨rfl, rfl, rfl, by decide +kernel, rfl, by decide +kernel, by decide +kernel⟩
theorem ok_pen {f : Addr} {fd : FuncData} (F : Fun K "_law_pen" "_law_pen" sPen f fd) (B : Blt mg) : FnOk P w K mg base CX0 1 f fd ["_law_script"] (spPen K) := by
  refine F.ok scPen (fun vs H Q E h => ?_) (fun cdv A outer s H vs Q E hr h => ?_)
  · obtain ⟨a, ns, rfl, _⟩ := h
    rfl
  · obtain ⟨a, ns, rfl, hS, hl, k⟩ := h
    refine ⟨_, pss_one (ps_ret (pe_disp (pps_cons pe_str (pe_callTy call_list_of (by rfl) B.list bList (pa_cons (pe_slice sl_list (pv 0) po_none (po_some pe_int)) pa_nil)) (pps_cons pe_str pe_int (pps_cons pe_str pe_int pps_nil))) rfl rfl (by simp) (by decide))), ?_⟩
    intro p hp
    have s1 := same_new (o := .dK []) hp
    refine ⟨_, rfl, _, rfl, _, _, rfl, s1.seq hS, fun t ht => ?_⟩
    have s2 : Same H (upd (upd H p (.dK [])) t (.lst (cutV (ns.map V.int) none (some 63)))) := s1.trans (same_new ht)
    refine ⟨_, _, rfl, .inl (.inl (.inl upd_same)), fun l hl' => ?_⟩
    have npt : p ≠ t := ne_of_none (upd_same (H := H) (a := p) (o := .dK [])) ht
    have npl : p ≠ l := ne_of_none (show (upd (upd H p (.dK [])) t (.lst (cutV (ns.map V.int) none (some 63)))) p = some (.dK []) by rw [upd_ne npt, upd_same]) hl'
    refine ⟨by rw [upd_ne npl, upd_ne npt, upd_same], [(Sum.inr "cells", .ref l), (Sum.inr "begun", .int 0), (Sum.inr "left", .int 0)], rfl, by show 3 ≤ 15; decide, ?_⟩
    rw [merge3]
    refine k p l _ (fun b o e => ?_) ⟨⟨_, upd_same, by show 3 ≤ 10; decide, val3a _ _ _, val3b _ _ _, val3c _ _ _⟩, ?_, hl, Int.le_refl 0, Int.le_refl 0⟩
    · rw [upd_ne (ne_of_none e hp)]
      exact (s2.trans (same_new hl')) b o e
    · rw [upd_ne npl.symm, upd_same, cut_all (by rw [List.length_map]; exact hl)]
theorem scPick : FnScope ["_law_pen_here", "_law_items"] ["_law_pen_here", "_law_items"] (defScope sPick) := ⟨rfl, rfl, rfl, by decide +kernel, rfl, by decide +kernel, by decide +kernel⟩
theorem ok_pick {f : Addr} {fd : FuncData} (F : Fun K "_law_pick" "_law_pick" sPick f fd) (B : Blt mg) (HD : Has P w K mg base 1 "_law_draw" ["_law_pen_here", "_law_many"] spDraw) : FnOk P w K mg base CX0 2 f fd ["_law_pen_here", "_law_items"] (spPick K) := by
  obtain ⟨g, gd, G, bG, mG, kG⟩ := HD
  refine F.ok scPick (fun vs H Q E h => ?_) (fun cdv A outer s H vs Q E hr h => ?_)
  · obtain ⟨p, c, x, ns, u, r, rfl, _⟩ := h
    rfl
  · obtain ⟨p, c, x, ns, u, r, rfl, PA, hu6, hx⟩ := h
    refine ⟨_, pss_one (ps_ret (pe_ix ix_seq (pv 1) (pe_call G hr (by rfl) mG kG bG .nil pass0 (pa_cons (pv 0) (pa_cons (pe_callB (CallR.or call_len_seq call_len_str) (by rfl) B.len PySem.boot_len (pa_cons (pv 1) pa_nil)) pa_nil))) (fun _ _ => rfl))), ?_⟩
    rcases hx with ⟨l, xs, rfl, hL, h0, h1, k⟩ | ⟨z, rfl, h0, h1, k⟩
    · have nlp : l ≠ p := by
        obtain ⟨kvs, hp, _⟩ := PA.ob
        exact ne_of hL hp (fun z => nomatch z)
      refine ⟨_, rfl, _, rfl, _, rfl, .inl ⟨_, _, rfl, .inl (.inl (.inl hL)), p, c, ns, u, r, _, rfl, PA, hu6, by omega, by omega, fun d u' r' H' d0 d1 hu' PA' keep => ?_⟩⟩
      obtain ⟨v, hv, hm⟩ := atI_in (xs := xs) (i := d) rfl d0 d1
      exact .inl ⟨_, _, _, _, rfl, rfl, .inl (.inl (keep _ _ hL nlp)), hv, k v u' r' H' hm hu' PA' keep⟩
    · have hz : z.length ≤ sizeLine := Nat.le_trans h1 (by decide)
      refine ⟨_, rfl, _, rfl, _, rfl, .inr ⟨_, rfl, hz, p, c, ns, u, r, _, rfl, PA, hu6, by omega, by omega, fun d u' r' H' d0 d1 hu' PA' keep => ?_⟩⟩
      have hl : d.toNat < z.cps.toList.length := by
        rw [Array.length_toList]
        have : (z.length : Int) = (z.cps.size : Int) := rfl
        omega
      have e : d = ((d.toNat : Nat) : Int) := by omega
      have hv : atI z.cps.toList d = some z.cps.toList[d.toNat] := by
        have q : atI z.cps.toList ((d.toNat : Nat) : Int) = some z.cps.toList[d.toNat] := atI_nat (List.getElem?_eq_getElem hl)
        rwa [← e] at q
      exact .inr (.inr ⟨_, _, _, rfl, rfl, hz, hv, k _ u' r' H' (List.getElem_mem hl) hu' PA' keep⟩)
end
end Ld
namespace Ld
open PySem PySem.Spec PyProof.Rows L2
local macro_rules | `(tactic| walk_at "pe") => `(tactic| first
  | exact pe_int
  | exact pe_bl
  | exact pe_non
  | exact pe_str
  | ((with_reducible show PE _ (Expr.Name _ _) _); first | exact pv 0 | exact pv 1 | exact pv 2 | exact pv 3 | exact pv 4 | exact pv 5 | exact pv 6 | exact pv 7 | exact pv 8 | exact pv 9 | exact pv 10 | exact pv 11)
  | ((with_reducible show PE _ (Expr.BinOp _ Operator.Add _ _) _); refine' pe_op op_add ?p1 ?p2; (case p1 => walk_at "pe"); (case p2 => walk_at "pe"))
  | ((with_reducible show PE _ (Expr.BinOp _ Operator.Sub _ _) _); refine' pe_op op_sub ?p1 ?p2; (case p1 => walk_at "pe"); (case p2 => walk_at "pe"))
  | ((with_reducible show PE _ (Expr.BinOp _ Operator.Mult _ _) _); refine' pe_op op_mul ?p1 ?p2; (case p1 => walk_at "pe"); (case p2 => walk_at "pe"))
  | ((with_reducible show PE _ (Expr.BinOp _ Operator.Mod _ _) _); refine' pe_op op_mod ?p1 ?p2; (case p1 => walk_at "pe"); (case p2 => walk_at "pe"))
  | ((with_reducible show PE _ (Expr.BinOp _ Operator.FloorDiv _ _) _); refine' pe_op op_fdiv ?p1 ?p2; (case p1 => walk_at "pe"); (case p2 => walk_at "pe"))
  | ((with_reducible show PE _ (Expr.BinOp _ Operator.Pow _ _) _); refine' pe_op op_pow ?p1 ?p2; (case p1 => walk_at "pe"); (case p2 => walk_at "pe"))
  | ((with_reducible show PE _ (Expr.UnaryOp UnaryOp.USub _ _) _); refine' pe_un un_neg ?p1; (case p1 => walk_at "pe"))
  | ((with_reducible show PE _ (Expr.Subscript _ (Expr.Constant (Const.str _) _ _) _) _); refine' pe_dget (by assumption) ?p1 pe_str (fun _ _ => rfl); (case p1 => walk_at "pe"))
  | ((with_reducible show PE _ (Expr.Subscript _ _ _) _); refine' pe_ix ix_list ?p1 ?p2 (fun _ _ => rfl); (case p1 => walk_at "pe"); (case p2 => walk_at "pe"))
  | ((with_reducible show PE _ (Expr.Call (Expr.Name "int" _) _ _ _) _); refine' pe_callTy call_int1 (by rfl) (by assumption) bInt (pa_cons ?p1 pa_nil); (case p1 => walk_at "pe"))
  | ((with_reducible show PE _ (Expr.Call (Expr.Name "abs" _) _ _ _) _); refine' pe_callB call_abs (by rfl) (by assumption) bAbs (pa_cons ?p1 pa_nil); (case p1 => walk_at "pe"))
  | ((with_reducible show PE _ (Expr.Call (Expr.Name "len" _) _ _ _) _); refine' pe_callB call_len_seq (by rfl) (by assumption) PySem.boot_len (pa_cons ?p1 pa_nil); (case p1 => walk_at "pe"))
  | ((with_reducible show PE _ (Expr.List _ _) _); refine' pe_lst ?p1; (case p1 => walk_at "pa"))
  | ((with_reducible show PE _ (Expr.Tuple _ _ _) _); refine' pe_tup ?p1; (case p1 => walk_at "pa")))
local macro_rules | `(tactic| walk_at "pa") => `(tactic| first | exact pa_nil | (refine' pa_cons ?p1 ?p2; (case p1 => walk_at "pe"); (case p2 => walk_at "pa")))
local macro_rules | `(tactic| walk_at "pt") => `(tactic| first
  | ((with_reducible show PT _ (Expr.Compare _ [CmpOp.Gt] [_] _) _); refine' pt_cmpR op_gt ?p1 ?p2 (nomark _); (case p1 => walk_at "pe"); (case p2 => walk_at "pe"))
  | ((with_reducible show PT _ (Expr.Compare _ [CmpOp.GtE] [_] _) _); refine' pt_cmpR op_ge ?p1 ?p2 (nomark _); (case p1 => walk_at "pe"); (case p2 => walk_at "pe"))
  | ((with_reducible show PT _ (Expr.Compare _ [CmpOp.Lt] [_] _) _); refine' pt_cmpR op_lt ?p1 ?p2 (nomark _); (case p1 => walk_at "pe"); (case p2 => walk_at "pe"))
  | ((with_reducible show PT _ (Expr.Compare _ [CmpOp.LtE] [_] _) _); refine' pt_cmpR op_le ?p1 ?p2 (nomark _); (case p1 => walk_at "pe"); (case p2 => walk_at "pe"))
  | ((with_reducible show PT _ (Expr.Compare _ [CmpOp.NotEq] [Expr.List [] _] _) _); refine' pt_cmpR (op_neD (by assumption)) ?p1 (pe_lst pa_nil) (nomark _); (case p1 => walk_at "pe"))
  | ((with_reducible show PT _ (Expr.BoolOp BoolOp.And [_, _] _) _); refine' PW.pt (pw_and ?p1 (pw_and1 ?p2)); (case p1 => walk_at "pt"); (case p2 => walk_at "pt")))
local macro_rules | `(tactic| walk_at "st") => `(tactic| first
  | ((with_reducible show PS _ (Stmt.Return (some _) _) _); refine' ps_ret ?p1; (case p1 => walk_at "pe"))
  | ((with_reducible show PS _ (Stmt.Assign [Expr.Subscript _ _ _] _ _) _); refine' ps_dput (by assumption) ?p1 ?p2 ?p3 rfl; (case p1 => walk_at "pe"); (case p2 => walk_at "pe"); (case p3 => walk_at "pe"))
  | ((with_reducible show PS _ (Stmt.Assign [Expr.Name _ _] _ _) _); (first | refine' ps_set (i := 1) (by assumption) rfl (Or.inl rfl) ?p1 | refine' ps_set (i := 2) (by assumption) rfl (Or.inl rfl) ?p1 | refine' ps_set (i := 3) (by assumption) rfl (Or.inl rfl) ?p1 | refine' ps_set (i := 4) (by assumption) rfl (Or.inl rfl) ?p1 | refine' ps_set (i := 5) (by assumption) rfl (Or.inl rfl) ?p1 | refine' ps_set (i := 6) (by assumption) rfl (Or.inl rfl) ?p1 | refine' ps_set (i := 7) (by assumption) rfl (Or.inl rfl) ?p1 | refine' ps_set (i := 8) (by assumption) rfl (Or.inl rfl) ?p1 | refine' ps_set (i := 9) (by assumption) rfl (Or.inl rfl) ?p1 | refine' ps_set (i := 10) (by assumption) rfl (Or.inl rfl) ?p1 | refine' ps_set (i := 11) (by assumption) rfl (Or.inl rfl) ?p1); (case p1 => walk_at "pe"))
  | ((with_reducible show PS _ (Stmt.If _ _ _ _) _); refine' ps_if ?p1 ?p2 ?p3; (case p1 => walk_at "pt"); (case p2 => walk_at "ps"); (case p3 => walk_at "ps")))
local macro_rules | `(tactic| walk_at "ps") => `(tactic| first
  | exact pss_nil | (refine' pss_one ?p1; (case p1 => walk_at "st")) | (refine' pss_cons ?p1 ?p2; (case p1 => walk_at "st"); (case p2 => walk_at "ps")))

theorem bStr0 : bootBuiltins "str" = some (.type "str") := by decide +kernel
/-- a text of lo to hi letters from a to z -/
structure Wd (lo hi : Nat) (z : Str) : Prop where
  l0 : lo ≤ z.length
  l1 : z.length ≤ hi
  az : ∀ c ∈ z.cps.toList, 97 ≤ c ∧ c ≤ 122
theorem wd_app {a b c d : Nat} {x y : Str} (h1 : Wd a b x) (h2 : Wd c d y) : Wd (a + c) (b + d) (x ++ y) := by
  have e : (x ++ y).length = x.length + y.length := by
    show (x ++ y).cps.size = _
    rw [Str.cps_append, Array.size_append]
    rfl
  refine ⟨by rw [e]; exact Nat.add_le_add h1.l0 h2.l0, by rw [e]; exact Nat.add_le_add h1.l1 h2.l1, fun q hq => ?_⟩
  rw [Str.cps_append, Array.toList_append] at hq
  rcases List.mem_append.mp hq with h | h
  · exact h1.az q h
  · exact h2.az q h
theorem wd_cut {a b : Nat} {x : Str} (h : Wd a b x) (lo hi : Option Int) : Wd 0 b (cutS x lo hi) := by
  refine ⟨Nat.zero_le _, Nat.le_trans (cutS_length x lo hi) h.l1, fun q hq => ?_⟩
  exact h.az q (List.mem_of_mem_drop (List.mem_of_mem_take hq))
theorem wd_sign {c : Nat} (h : 97 ≤ c ∧ c ≤ 122) : Wd 1 1 ⟨#[c]⟩ := ⟨Nat.le_refl _, Nat.le_refl _, fun q hq => by
  have e : q = c := by simpa using hq
  rw [e]
  exact h⟩
end Ld
namespace Ld
open PySem PySem.Spec PyProof.Rows L2
open TL (tl joinL tl_join join_eq)
local macro_rules | `(tactic| walk_at "pe") => `(tactic| first
  | exact pe_int
  | exact pe_bl
  | exact pe_non
  | exact pe_str
  | ((with_reducible show PE _ (Expr.Name _ _) _); first | exact pv 0 | exact pv 1 | exact pv 2 | exact pv 3 | exact pv 4 | exact pv 5 | exact pv 6 | exact pv 7 | exact pv 8 | exact pv 9 | exact pv 10 | exact pv 11)
  | ((with_reducible show PE _ (Expr.BinOp _ Operator.Add _ _) _); refine' pe_op op_add ?p1 ?p2; (case p1 => walk_at "pe"); (case p2 => walk_at "pe"))
  | ((with_reducible show PE _ (Expr.BinOp _ Operator.Sub _ _) _); refine' pe_op op_sub ?p1 ?p2; (case p1 => walk_at "pe"); (case p2 => walk_at "pe"))
  | ((with_reducible show PE _ (Expr.BinOp _ Operator.Mult _ _) _); refine' pe_op op_mul ?p1 ?p2; (case p1 => walk_at "pe"); (case p2 => walk_at "pe"))
  | ((with_reducible show PE _ (Expr.BinOp _ Operator.Mod _ _) _); refine' pe_op op_mod ?p1 ?p2; (case p1 => walk_at "pe"); (case p2 => walk_at "pe"))
  | ((with_reducible show PE _ (Expr.BinOp _ Operator.FloorDiv _ _) _); refine' pe_op op_fdiv ?p1 ?p2; (case p1 => walk_at "pe"); (case p2 => walk_at "pe"))
  | ((with_reducible show PE _ (Expr.BinOp _ Operator.Pow _ _) _); refine' pe_op op_pow ?p1 ?p2; (case p1 => walk_at "pe"); (case p2 => walk_at "pe"))
  | ((with_reducible show PE _ (Expr.UnaryOp UnaryOp.USub _ _) _); refine' pe_un un_neg ?p1; (case p1 => walk_at "pe"))
  | ((with_reducible show PE _ (Expr.Subscript _ (Expr.Constant (Const.str _) _ _) _) _); refine' pe_dget (by assumption) ?p1 pe_str (fun _ _ => rfl); (case p1 => walk_at "pe"))
  | ((with_reducible show PE _ (Expr.Subscript _ _ _) _); refine' pe_ix ix_list ?p1 ?p2 (fun _ _ => rfl); (case p1 => walk_at "pe"); (case p2 => walk_at "pe"))
  | ((with_reducible show PE _ (Expr.Call (Expr.Name "int" _) _ _ _) _); refine' pe_callTy call_int1 (by rfl) (by assumption) bInt (pa_cons ?p1 pa_nil); (case p1 => walk_at "pe"))
  | ((with_reducible show PE _ (Expr.Call (Expr.Name "abs" _) _ _ _) _); refine' pe_callB call_abs (by rfl) (by assumption) bAbs (pa_cons ?p1 pa_nil); (case p1 => walk_at "pe"))
  | ((with_reducible show PE _ (Expr.Call (Expr.Name "len" _) _ _ _) _); refine' pe_callB call_len_seq (by rfl) (by assumption) PySem.boot_len (pa_cons ?p1 pa_nil); (case p1 => walk_at "pe"))
  | ((with_reducible show PE _ (Expr.List _ _) _); refine' pe_lst ?p1; (case p1 => walk_at "pa"))
  | ((with_reducible show PE _ (Expr.Tuple _ _ _) _); refine' pe_tup ?p1; (case p1 => walk_at "pa")))
local macro_rules | `(tactic| walk_at "pa") => `(tactic| first | exact pa_nil | (refine' pa_cons ?p1 ?p2; (case p1 => walk_at "pe"); (case p2 => walk_at "pa")))
local macro_rules | `(tactic| walk_at "pt") => `(tactic| first
  | ((with_reducible show PT _ (Expr.Compare _ [CmpOp.Gt] [_] _) _); refine' pt_cmpR op_gt ?p1 ?p2 (nomark _); (case p1 => walk_at "pe"); (case p2 => walk_at "pe"))
  | ((with_reducible show PT _ (Expr.Compare _ [CmpOp.GtE] [_] _) _); refine' pt_cmpR op_ge ?p1 ?p2 (nomark _); (case p1 => walk_at "pe"); (case p2 => walk_at "pe"))
  | ((with_reducible show PT _ (Expr.Compare _ [CmpOp.Lt] [_] _) _); refine' pt_cmpR op_lt ?p1 ?p2 (nomark _); (case p1 => walk_at "pe"); (case p2 => walk_at "pe"))
  | ((with_reducible show PT _ (Expr.Compare _ [CmpOp.LtE] [_] _) _); refine' pt_cmpR op_le ?p1 ?p2 (nomark _); (case p1 => walk_at "pe"); (case p2 => walk_at "pe"))
  | ((with_reducible show PT _ (Expr.Compare _ [CmpOp.NotEq] [Expr.List [] _] _) _); refine' pt_cmpR (op_neD (by assumption)) ?p1 (pe_lst pa_nil) (nomark _); (case p1 => walk_at "pe"))
  | ((with_reducible show PT _ (Expr.BoolOp BoolOp.And [_, _] _) _); refine' PW.pt (pw_and ?p1 (pw_and1 ?p2)); (case p1 => walk_at "pt"); (case p2 => walk_at "pt")))
local macro_rules | `(tactic| walk_at "st") => `(tactic| first
  | ((with_reducible show PS _ (Stmt.Return (some _) _) _); refine' ps_ret ?p1; (case p1 => walk_at "pe"))
  | ((with_reducible show PS _ (Stmt.Assign [Expr.Subscript _ _ _] _ _) _); refine' ps_dput (by assumption) ?p1 ?p2 ?p3 rfl; (case p1 => walk_at "pe"); (case p2 => walk_at "pe"); (case p3 => walk_at "pe"))
  | ((with_reducible show PS _ (Stmt.Assign [Expr.Name _ _] _ _) _); (first | refine' ps_set (i := 1) (by assumption) rfl (Or.inl rfl) ?p1 | refine' ps_set (i := 2) (by assumption) rfl (Or.inl rfl) ?p1 | refine' ps_set (i := 3) (by assumption) rfl (Or.inl rfl) ?p1 | refine' ps_set (i := 4) (by assumption) rfl (Or.inl rfl) ?p1 | refine' ps_set (i := 5) (by assumption) rfl (Or.inl rfl) ?p1 | refine' ps_set (i := 6) (by assumption) rfl (Or.inl rfl) ?p1 | refine' ps_set (i := 7) (by assumption) rfl (Or.inl rfl) ?p1 | refine' ps_set (i := 8) (by assumption) rfl (Or.inl rfl) ?p1 | refine' ps_set (i := 9) (by assumption) rfl (Or.inl rfl) ?p1 | refine' ps_set (i := 10) (by assumption) rfl (Or.inl rfl) ?p1 | refine' ps_set (i := 11) (by assumption) rfl (Or.inl rfl) ?p1); (case p1 => walk_at "pe"))
  | ((with_reducible show PS _ (Stmt.If _ _ _ _) _); refine' ps_if ?p1 ?p2 ?p3; (case p1 => walk_at "pt"); (case p2 => walk_at "ps"); (case p3 => walk_at "ps")))
local macro_rules | `(tactic| walk_at "ps") => `(tactic| first
  | exact pss_nil | (refine' pss_one ?p1; (case p1 => walk_at "st")) | (refine' pss_cons ?p1 ?p2; (case p1 => walk_at "st"); (case p2 => walk_at "ps")))

theorem joinL_all {q : Nat → Prop} : ∀ {parts : List (List Nat)}, (∀ p ∈ parts, ∀ c ∈ p, q c) → ∀ c ∈ joinL [] parts, q c
  | [], _, c, h => by simp [joinL] at h
  | [p], k, c, h => k p List.mem_cons_self c h
  | p :: r :: rs, k, c, h => by
    rcases List.mem_append.mp h with h | h
    · exact k p List.mem_cons_self c h
    · exact joinL_all (parts := r :: rs) (fun x hx => k x (List.mem_cons_of_mem _ hx)) c h
theorem joinL_ones : ∀ {parts : List (List Nat)}, (∀ p ∈ parts, p.length = 1) → (joinL [] parts).length = parts.length
  | [], _ => rfl
  | [p], k => k p List.mem_cons_self
  | p :: r :: rs, k => by
    show (p ++ ([] ++ joinL [] (r :: rs))).length = _
    rw [List.nil_append, List.length_append, joinL_ones (parts := r :: rs) (fun x hx => k x (List.mem_cons_of_mem _ hx)), k p List.mem_cons_self, List.length_cons (a := p)]
    omega
theorem wd_join {ys : List Str} (h : ∀ y ∈ ys, Wd 1 1 y) : Wd ys.length ys.length (Txt.join "" ys) := by
  rw [join_eq]
  have e : tl (Str.join "" ys) = joinL [] (ys.map tl) := by
    rw [tl_join]
    rfl
  have hl : (Str.join "" ys).length = ys.length := by
    have z : (tl (Str.join "" ys)).length = ys.length := by
      rw [e, joinL_ones (fun p hp => ?_), List.length_map]
      obtain ⟨y, hy, rfl⟩ := List.mem_map.mp hp
      have w := h y hy
      have e1 : (tl y).length = y.length := by
        show y.cps.toList.length = y.cps.size
        exact Array.length_toList
      rw [e1]
      exact Nat.le_antisymm w.l1 w.l0
    have e2 : (tl (Str.join "" ys)).length = (Str.join "" ys).length := by
      show (Str.join "" ys).cps.toList.length = (Str.join "" ys).cps.size
      exact Array.length_toList
    rw [← e2, z]
  refine ⟨Nat.le_of_eq hl.symm, Nat.le_of_eq hl, fun c hc => ?_⟩
  have hc' : c ∈ tl (Str.join "" ys) := hc
  rw [e] at hc'
  refine joinL_all (q := fun c => 97 ≤ c ∧ c ≤ 122) (fun p hp c hc => ?_) c hc'
  obtain ⟨y, hy, rfl⟩ := List.mem_map.mp hp
  exact (h y hy).az c hc
theorem sum_ones {ys : List Str} (h : ∀ y ∈ ys, Wd 1 1 y) : (ys.map (·.length)).sum = ys.length := by
  induction ys with
  | nil => rfl
  | cons y r ih =>
    have w := h y List.mem_cons_self
    rw [List.map_cons, List.sum_cons, ih (fun x hx => h x (List.mem_cons_of_mem _ hx)), List.length_cons]
    have := w.l0
    have := w.l1
    omega
theorem cut_head {z : Str} {a : Nat} (h : a ≤ z.length) : (cutS z none (some (a : Int))).length ≤ a := by
  show (((z.cps.toList.drop (HT.sIx z.length 0 none)).take (HT.sIx z.length z.length (some (a : Int)) - HT.sIx z.length 0 none)).toArray).size ≤ a
  rw [HT.sIx_nat, HT.sIx_none, List.size_toArray, List.length_take]
  omega
theorem cut_tail {z : Str} {a : Nat} (h : a ≤ z.length) : (cutS z (some (a : Int)) none).length ≤ z.length - a := by
  show (((z.cps.toList.drop (HT.sIx z.length 0 (some (a : Int)))).take (HT.sIx z.length z.length none - HT.sIx z.length 0 (some (a : Int)))).toArray).size ≤ z.length - a
  rw [HT.sIx_nat, HT.sIx_none, List.size_toArray, List.length_take, List.length_drop]
  omega
def spWords : Sp := fun vs H Q _ => ∃ (p c : Addr) (ns : List Int) (u r : Int) (m : Nat), vs = [.ref p, .int (m : Int)] ∧ PenAt H p c ns u r ∧ u + 12 ≤ 1000000 ∧ m ≤ 26 ∧
  ∀ (l : Addr) (ws : List Str) (u' r' : Int) (H' : Hp), H l = none → H' l = some (.lst (ws.map V.str)) → ws.length = m → ws.Nodup → (∀ z ∈ ws, Wd 1 8 z) → u' ≤ u + 12 → PenAt H' p c ns u' r' → SameP p H H' → Q (.ref l) H'
theorem abc_az : ∀ c ∈ (("abcdefghijklmnopqrstuvwxyz" : Str)).cps.toList, 97 ≤ c ∧ c ≤ 122 := by decide +kernel
theorem abc_len : (("abcdefghijklmnopqrstuvwxyz" : Str)).length = 26 := by decide +kernel
theorem PenAt.upd {H : Hp} {p c : Addr} {ns : List Int} {u r : Int} (P : PenAt H p c ns u r) {l : Addr} {o : HO} (h1 : l ≠ p) (h2 : l ≠ c) : PenAt (L2.upd H l o) p c ns u r := by
  obtain ⟨kvs, hp, k2⟩ := P.ob
  exact ⟨⟨kvs, by rw [upd_ne h1.symm]; exact hp, k2⟩, by rw [upd_ne h2.symm]; exact P.cl, P.few, P.u0, P.r0⟩
theorem len_app (x y : Str) : (x ++ y).length = x.length + y.length := by
  show (x ++ y).cps.size = _
  rw [Str.cps_append, Array.size_append]
  rfl
theorem abc_at {i : Int} (h0 : 0 ≤ i) (h1 : i < 26) : ∃ c, c ∈ (("abcdefghijklmnopqrstuvwxyz" : Str)).cps.toList ∧ atI (("abcdefghijklmnopqrstuvwxyz" : Str)).cps.toList i = some c := by
  have hl : (("abcdefghijklmnopqrstuvwxyz" : Str)).cps.toList.length = 26 := by decide +kernel
  obtain ⟨n, rfl⟩ : ∃ n : Nat, i = (n : Int) := ⟨i.toNat, by omega⟩
  have hn : n < (("abcdefghijklmnopqrstuvwxyz" : Str)).cps.toList.length := by omega
  refine ⟨_, List.getElem_mem hn, ?_⟩
  exact atI_nat (List.getElem?_eq_getElem hn)
theorem abc_nth : ∀ n : Fin 26, (("abcdefghijklmnopqrstuvwxyz" : Str)).cps.toList[n.1]? = some (97 + n.1) := by decide +kernel
theorem abc_get {i : Int} (h0 : 0 ≤ i) (h1 : i < 26) : atI (("abcdefghijklmnopqrstuvwxyz" : Str)).cps.toList i = some (97 + i.toNat) := by
  obtain ⟨n, rfl⟩ : ∃ n : Nat, i = (n : Int) := ⟨i.toNat, by omega⟩
  exact atI_nat (abc_nth ⟨n, by omega⟩)
/-- what stands behind the letter that is put in -/
def tailAt (z : Str) (a : Nat) (cut : Int) (k : Nat) : Str := if cut = 1 then cutS (cutS z (some (a : Int)) none) none (some ((k : Int) % 3)) else cutS z (some (a : Int)) none
/-- the k-th word of a stem: a letter put in at a place -/
def wordAt (z : Str) (a : Nat) (f st cut : Int) (k : Nat) : Str := cutS z none (some (a : Int)) ++ ⟨#[97 + ((f + st * (k : Int)) % 26).toNat]⟩ ++ tailAt z a cut k
theorem tail_wd {z : Str} {a : Nat} {cut : Int} {k : Nat} (wz : Wd 0 7 z) : Wd 0 7 (tailAt z a cut k) := by
  unfold tailAt
  split
  · exact wd_cut (wd_cut wz _ _) _ _
  · exact wd_cut wz _ _
theorem tail_len {z : Str} {a : Nat} {cut : Int} {k : Nat} (h : a ≤ z.length) : (tailAt z a cut k).length ≤ z.length - a := by
  unfold tailAt
  split
  · exact Nat.le_trans (cutS_length _ _ _) (cut_tail h)
  · exact cut_tail h
theorem wd_word {z : Str} {a : Nat} {f st cut : Int} {k : Nat} (wz : Wd 0 7 z) (h : a ≤ z.length) : Wd 1 8 (wordAt z a f st cut k) := by
  have hl := cut_head (z := z) h
  have ht := tail_len (z := z) (cut := cut) (k := k) h
  have h0 := Int.emod_nonneg (f + st * (k : Int)) (by decide : (26 : Int) ≠ 0)
  have h1 := Int.emod_lt_of_pos (f + st * (k : Int)) (by decide : (0 : Int) < 26)
  have w := wd_app (wd_app (wd_cut wz none (some (a : Int))) (wd_sign (c := 97 + ((f + st * (k : Int)) % 26).toNat) (by omega))) (tail_wd (a := a) (cut := cut) (k := k) wz)
  refine ⟨w.l0, ?_, w.az⟩
  have e1 : (⟨#[97 + ((f + st * (k : Int)) % 26).toNat]⟩ : Str).length = 1 := rfl
  have := wz.l1
  unfold wordAt
  rw [len_app, len_app, e1]
  omega
theorem word_inj {z : Str} {a : Nat} {f st cut : Int} {i j : Nat} (e : wordAt z a f st cut i = wordAt z a f st cut j) : (f + st * (i : Int)) % 26 = (f + st * (j : Int)) % 26 := by
  have h2 := congrArg (fun s : Str => s.cps.toList) e
  simp only [wordAt, Str.cps_append, Array.toList_append, List.append_assoc] at h2
  have h3 := List.append_cancel_left h2
  have h4 := (List.cons.inj h3).1
  have hi := Int.emod_nonneg (f + st * (i : Int)) (by decide : (26 : Int) ≠ 0)
  have hj := Int.emod_nonneg (f + st * (j : Int)) (by decide : (26 : Int) ≠ 0)
  omega
def steps8 : List Int := [1, 3, 5, 7, 9, 11, 15, 17]
theorem step_inj {f st : Int} {i j : Nat} (hs : st ∈ steps8) (hi : i < 26) (hj : j < 26) (e : (f + st * (i : Int)) % 26 = (f + st * (j : Int)) % 26) : i = j := by
  simp only [steps8, List.mem_cons, List.not_mem_nil, or_false] at hs
  rcases hs with rfl | rfl | rfl | rfl | rfl | rfl | rfl | rfl <;> omega
theorem words_nodup {z : Str} {a : Nat} {f st cut : Int} (hs : st ∈ steps8) : ∀ m : Nat, m ≤ 26 → ((List.range m).map (wordAt z a f st cut)).Nodup := fun m hm =>
  List.nodup_iff_pairwise_ne.mpr (List.pairwise_map.mpr ((List.nodup_range (n := m)).imp_of_mem fun {x y} hx hy n e => n (step_inj hs (Nat.lt_of_lt_of_le (List.mem_range.mp hx) hm) (Nat.lt_of_lt_of_le (List.mem_range.mp hy) hm) (word_inj e))))
section
variable {P : Program} {w : World} {K : PySem.W.Frag} {mg : Str → Option Value} {base : Heap}
abbrev nWords : List Str := ["_law_pen_here", "_law_many", "_law_letters", "_law_k", "_law_stem", "_law_at", "_law_front", "_law_step", "_law_is_cut", "_law_found", "_law_tail"]
theorem scWords : FnScope nWords ["_law_pen_here", "_law_many"] (defScope sWords) := ⟨rfl, rfl, rfl, by decide +kernel, rfl, by decide +kernel, by decide +kernel⟩
theorem ok_words {f : Addr} {fd : FuncData} (F : Fun K "_law_words" "_law_words" sWords f fd) (B : Blt mg) (HD : Has P w K mg base 1 "_law_draw" ["_law_pen_here", "_law_many"] spDraw) (HP : Has P w K mg base 2 "_law_pick" ["_law_pen_here", "_law_items"] (spPick K)) :
    FnOk P w K mg base CX0 3 f fd ["_law_pen_here", "_law_many"] spWords := by
  obtain ⟨g1, gd1, G1, b1, m1, k1⟩ := HD
  obtain ⟨g2, gd2, G2, b2, m2, k2⟩ := HP
  refine F.ok scWords (fun vs H Q E h => ?_) (fun cdv A outer s H vs Q E hr h => ?_)
  · obtain ⟨p, c, ns, u, r, m, rfl, _⟩ := h
    rfl
  · obtain ⟨p, c, ns, u, r, m, rfl, PA, hu6, hm, k⟩ := h
    have hr1 : Room 1 _ := hr.mono (by decide)
    have nd : nWords.Nodup := scWords.nd
    refine ⟨_, pss_cons (ps_set (i := 2) nd rfl (Or.inr rfl) pe_str)
      (pss_cons (ps_set (i := 4) nd rfl (Or.inl rfl) (pe_bm PySem.F.plainAttrs_str PySem.F.slot_str_join PySem.F.type_str_join mt_join pe_str (pa_cons (pe_lc (own := [("_law_k", 3)]) (g := gName 3) (tt := tYes) rfl nd (pi_range1 (by rfl) B.range (pa_cons (pe_call G1 hr1 (by rfl) m1 k1 b1 .nil pass0 (pa_cons (pv 0) (pa_cons pe_int pa_nil))) pa_nil)) (blkOk_by (N := nWords) (sc := defScope sWords) (by decide +kernel)) (fun _ _ _ _ _ => pg_name (i := 3) nd rfl (Or.inl rfl)) (fun _ _ _ _ _ => pts_nil) (fun _ _ _ _ _ => (pe_call G2 hr (by rfl) m2 k2 b2 .nil pass0 (pa_cons (pv 0) (pa_cons (pv 2) pa_nil))))) pa_nil)))
      (pss_cons (ps_par (i := 5) (j := 6) rfl nd rfl rfl (by decide) rfl rfl (pa_cons (pe_call G1 hr1 (by rfl) m1 k1 b1 .nil pass0 (pa_cons (pv 0) (pa_cons (pe_op op_add (pe_callB call_len_str (by rfl) B.len PySem.boot_len (pa_cons (pv 4) pa_nil)) pe_int) pa_nil))) (pa_cons (pe_call G1 hr1 (by rfl) m1 k1 b1 .nil pass0 (pa_cons (pv 0) (pa_cons pe_int pa_nil))) pa_nil)) (by rfl))
      (pss_cons (ps_par (i := 7) (j := 8) rfl nd rfl rfl (by decide) rfl rfl (pa_cons (pe_call G2 hr (by rfl) m2 k2 b2 .nil pass0 (pa_cons (pv 0) (pa_cons (pe_lst (pa_cons pe_int (pa_cons pe_int (pa_cons pe_int (pa_cons pe_int (pa_cons pe_int (pa_cons pe_int (pa_cons pe_int (pa_cons pe_int pa_nil))))))))) pa_nil))) (pa_cons (pe_call G1 hr1 (by rfl) m1 k1 b1 .nil pass0 (pa_cons (pv 0) (pa_cons pe_int pa_nil))) pa_nil)) (by rfl))
      (pss_cons (ps_set (i := 9) nd rfl (Or.inl rfl) (pe_lst pa_nil))
      (pss_cons (ps_for PassesOwn.never rfl (pi_range1 (by rfl) B.range (pa_cons (pv 1) pa_nil)) (pg_name (i := 3) nd rfl (Or.inl rfl))
        (pss_cons (ps_set (i := 10) nd rfl (Or.inl rfl) (pe_ifExp (pt_cmpR op_eq (pv 8) pe_int (nomark _)) (pe_slice sl_str (pe_slice sl_str (pv 4) (po_some (pv 5)) po_none) po_none (po_some (pe_op op_mod (pe_callTy call_int1 (by rfl) B.int bInt (pa_cons (pv 3) pa_nil)) pe_int))) (pe_slice sl_str (pv 4) (po_some (pv 5)) po_none)))
        (pss_one (ps_expr (pe_bm PySem.F.plainAttrs_list PySem.F.slot_list_append PySem.F.type_list_append mt_append (pv 9) (pa_cons (pe_op op_add_str (pe_op op_add_str (pe_slice sl_str (pv 4) po_none (po_some (pv 5))) (pe_ix ix_str (pv 2) (pe_op op_mod (pe_callTy call_int1 (by rfl) B.int bInt (pa_cons (pe_op op_add (pv 6) (pe_op op_mul (pv 7) (pv 3))) pa_nil)) pe_int) (fun _ _ => rfl))) (pv 10)) pa_nil))))))
      (pss_one (ps_ret (pv 9)))))))), ?_⟩
    -- letters
    refine seq_step (fun σ' H' => σ' = [some (.ref p), some (.int (m : Int)), some (.str "abcdefghijklmnopqrstuvwxyz"), none, none, none, none, none, none, none, none] ∧ H' = H) (fun R hR => hR _ _ ⟨rfl, rfl⟩) (fun σ1 H1 h1 => ?_)
    obtain ⟨rfl, rfl⟩ := h1
    -- stem
    refine seq_step (fun σ' H' => ∃ (z : Str) (x : Option V) (u' r' : Int), σ' = [some (.ref p), some (.int (m : Int)), some (.str "abcdefghijklmnopqrstuvwxyz"), x, some (.str z), none, none, none, none, none, none] ∧ Wd 0 7 z ∧ u' ≤ u + 8 ∧ PenAt H' p c ns u' r' ∧ SameP p H1 H') (fun R hR => ?_) (fun σ2 H2 h2 => ?_)
    · refine ⟨rfl, ?_⟩
      refine ⟨_, rfl, p, c, ns, u, r, 8, rfl, PA, by omega, by decide, by decide, fun d u1 r1 H2 d0 d1 hu1 PA1 keep1 => ?_⟩
      refine ⟨d, rfl, by omega, by omega, fun D hD => ?_⟩
      have nDp : D ≠ p := by
        obtain ⟨kvs, hp, _⟩ := PA1.ob
        exact (ne_of_none hp hD).symm
      refine lc_range (lo := 0) (n := d.toNat) (fun i H' => ∃ (u' r' : Int) (ys : List Str), PenAt H' p c ns u' r' ∧ u' ≤ u1 + i ∧ SameP p H2 H' ∧ H' D = some (.lst (ys.map V.str)) ∧ ys.length = i ∧ ∀ y ∈ ys, Wd 1 1 y)
        ⟨u1, r1, [], PA1.same (same_new hD), by omega, .of (same_new hD), upd_same, rfl, fun _ h => nomatch h⟩ ?_ ?_
      · rintro i H' hi ⟨u', r', ys, PA', hu', keep', gD, hy, hw⟩
        refine ⟨rfl, _, rfl, _, rfl, p, c, .str "abcdefghijklmnopqrstuvwxyz", ns, u', r', rfl, PA', by omega, .inr ⟨_, rfl, by rw [abc_len]; decide, by rw [abc_len]; decide, fun e u2 r2 H3 he hu2 PA2 keep2 => ?_⟩⟩
        have nC : c ≠ D := ne_of_none PA1.cl hD
        refine ⟨_, keep2 _ _ gD nDp, by rw [List.length_map, hy]; exact Nat.lt_of_lt_of_le hi (Nat.le_trans (by omega : d.toNat ≤ 8) (by decide)), u2, r2, ys ++ [⟨#[e]⟩], ?_, by omega, ?_, ?_, by simp [hy], ?_⟩
        · obtain ⟨kvs, hp, k2⟩ := PA2.ob
          exact ⟨⟨kvs, by rw [upd_ne nDp.symm]; exact hp, k2⟩, by rw [upd_ne nC]; exact PA2.cl, PA2.few, PA2.u0, PA2.r0⟩
        · intro b o eb nb
          rw [upd_ne (ne_of_none eb hD)]
          exact keep2 _ _ (keep' _ _ eb nb) nb
        · rw [upd_same, List.map_append]
          rfl
        · intro y hy'
          rcases List.mem_append.mp hy' with h | h
          · exact hw y h
          · rw [List.mem_singleton.mp h]
            exact wd_sign (abc_az e he)
      · rintro H' ⟨u', r', ys, PA', hu', keep', gD, hy, hw⟩
        have wj := wd_join hw
        refine ⟨_, D, ys, rfl, rfl, .inl (.inl (.inl gD)), ?_, hR _ _ ⟨_, none, u', r', rfl, ⟨Nat.zero_le _, Nat.le_trans wj.l1 (by omega), wj.az⟩, by omega, PA', keep1.trans keep'⟩⟩
        rw [sum_ones hw]
        have e0 : ("" : Str).length = 0 := by decide +kernel
        rw [e0]
        omega
    obtain ⟨z, x3, u2, r2, rfl, wz, hu2, PA2, keep2⟩ := h2
    have hz7 := wz.l1
    have hzs : z.length ≤ sizeLine := Nat.le_trans hz7 (by decide)
    -- at, front
    refine seq_step (fun σ' H' => ∃ (f a : Int) (u' r' : Int), σ' = [some (.ref p), some (.int (m : Int)), some (.str "abcdefghijklmnopqrstuvwxyz"), x3, some (.str z), some (.int a), some (.int f), none, none, none, none] ∧ 0 ≤ f ∧ f < 26 ∧ 0 ≤ a ∧ a ≤ z.length ∧ u' ≤ u + 10 ∧ PenAt H' p c ns u' r' ∧ SameP p H1 H') (fun R hR => ?_) (fun σ3 H3 h3 => ?_)
    · refine ⟨_, rfl, _, rfl, _, rfl, hzs, _, _, rfl, rfl, p, c, ns, u2, r2, _, rfl, PA2, by omega, by omega, by omega, fun a u5 r5 H5 a0 a1 hu5 PA5 keep5 => ?_⟩
      refine ⟨_, rfl, p, c, ns, u5, r5, 26, rfl, PA5, by omega, by decide, by decide, fun f u3 r3 H3 f0 f1 hu3 PA3 keep3 => ?_⟩
      exact ⟨_, _, rfl, hR _ _ ⟨f, a, u3, r3, rfl, f0, f1, a0, by omega, by omega, PA3, keep2.trans (keep5.trans keep3)⟩⟩
    obtain ⟨f0, a, u3, r3, rfl, q0, q1, q4, q5, hu3, PA3, keep3⟩ := h3
    clear keep2 PA2
    -- step, is_cut
    refine seq_step (fun σ' H' => ∃ (st cut : Int) (u' r' : Int), σ' = [some (.ref p), some (.int (m : Int)), some (.str "abcdefghijklmnopqrstuvwxyz"), x3, some (.str z), some (.int a), some (.int f0), some (.int st), some (.int cut), none, none] ∧ st ∈ steps8 ∧ u' ≤ u + 12 ∧ PenAt H' p c ns u' r' ∧ SameP p H1 H') (fun R hR => ?_) (fun σ4 H4 h4 => ?_)
    · refine ⟨_, rfl, by show 8 ≤ sizeLine; decide, fun l hl => ?_⟩
      have sl := same_new (o := .lst (steps8.map V.int)) hl
      refine ⟨p, c, .ref l, ns, u3, r3, rfl, PA3.same sl, by omega, .inl ⟨l, _, rfl, upd_same, by show 0 < 8; decide, by show 8 ≤ 100000; decide, fun v u4 r4 H4 hm4 hu4 PA4 keep4 => ?_⟩⟩
      obtain ⟨st, hst, rfl⟩ : ∃ st : Int, st ∈ steps8 ∧ V.int st = v := List.mem_map.mp (show v ∈ steps8.map V.int from hm4)
      refine ⟨_, rfl, p, c, ns, u4, r4, 2, rfl, PA4, by omega, by decide, by decide, fun cut u5 r5 H5 c0 c1 hu5 PA5 keep5 => ?_⟩
      exact ⟨_, _, rfl, hR _ _ ⟨st, cut, u5, r5, rfl, hst, by omega, PA5, keep3.trans ((SameP.of sl).trans (keep4.trans keep5))⟩⟩
    obtain ⟨st, cut, u4, r4, rfl, hst, hu4, PA4, keep4⟩ := h4
    clear keep3 PA3
    obtain ⟨an, rfl⟩ : ∃ n : Nat, a = (n : Int) := ⟨a.toNat, by omega⟩
    have han : an ≤ z.length := by omega
    have hst1 : -(2 ^ 64) < st ∧ st < 2 ^ 64 := by
      have h := hst
      simp only [steps8, List.mem_cons, List.not_mem_nil, or_false] at h
      omega
    -- found
    refine seq_step (fun σ' H' => ∃ D : Addr, σ' = [some (.ref p), some (.int (m : Int)), some (.str "abcdefghijklmnopqrstuvwxyz"), x3, some (.str z), some (.int (an : Int)), some (.int f0), some (.int st), some (.int cut), some (.ref D), none] ∧ H4 D = none ∧ H' = upd H4 D (.lst [])) (fun R hR => ?_) (fun σ5 H5 h5 => ?_)
    · exact ⟨Nat.zero_le _, fun D hD => hR _ _ ⟨D, rfl, hD, rfl⟩⟩
    obtain ⟨D, rfl, hD, e5⟩ := h5
    have nDp : D ≠ p := by
      obtain ⟨kvs, hp, _⟩ := PA4.ob
      exact (ne_of_none hp hD).symm
    have nC : c ≠ D := ne_of_none PA4.cl hD
    have hD1 : H1 D = none := by
      cases e : H1 D with
      | none => rfl
      | some o => rw [keep4 _ _ e nDp] at hD; cases hD
    have keep5 : SameP p H4 H5 := by rw [e5]; exact .of (same_new hD)
    have gD5 : H5 D = some (.lst []) := by rw [e5, upd_same]
    have PA5 : PenAt H5 p c ns u4 r4 := by rw [e5]; exact PA4.same (same_new hD)
    clear e5
    -- the words
    refine seq_step (fun σ' H' => ∃ x y, σ' = [some (.ref p), some (.int (m : Int)), some (.str "abcdefghijklmnopqrstuvwxyz"), x, some (.str z), some (.int (an : Int)), some (.int f0), some (.int st), some (.int cut), some (.ref D), y] ∧ PenAt H' p c ns u4 r4 ∧ SameP p H4 H' ∧ H' D = some (.lst (((List.range m).map (wordAt z an f0 st cut)).map V.str))) (fun R hR => ?_) (fun σ6 H6 h6 => ?_)
    · refine ⟨_, rfl, _, rfl, by omega, by omega, for_range (n := m) (fun i σ' H' => ∃ x y, σ' = [some (.ref p), some (.int (m : Int)), some (.str "abcdefghijklmnopqrstuvwxyz"), x, some (.str z), some (.int (an : Int)), some (.int f0), some (.int st), some (.int cut), some (.ref D), y] ∧ PenAt H' p c ns u4 r4 ∧ SameP p H4 H' ∧ H' D = some (.lst (((List.range i).map (wordAt z an f0 st cut)).map V.str)))
        ⟨_, _, rfl, PA5, keep5, gD5⟩ ?_ ?_⟩
      · rintro i σ' H' hi ⟨x, y, rfl, PA', keep', gD⟩
        have hx0 : 0 ≤ (f0 + st * (0 + (i : Int))) % 26 := Int.emod_nonneg _ (by decide)
        have hx1 : (f0 + st * (0 + (i : Int))) % 26 < 26 := Int.emod_lt_of_pos _ (by decide)
        have hae := abc_get hx0 hx1
        have lf := cut_head (z := z) han
        have lt := tail_len (z := z) (a := an) (cut := cut) (k := i) han
        have lc := cut_tail (z := z) han
        refine seq_step (fun σ' H' => ∃ x, σ' = [some (.ref p), some (.int (m : Int)), some (.str "abcdefghijklmnopqrstuvwxyz"), some (.int (0 + (i : Int))), some (.str z), some (.int (an : Int)), some (.int f0), some (.int st), some (.int cut), some (.ref D), some (.str (tailAt z an cut i))] ∧ x = H' ∧ PenAt H' p c ns u4 r4 ∧ SameP p H4 H' ∧ H' D = some (.lst (((List.range i).map (wordAt z an f0 st cut)).map V.str))) (fun R hR => ?_) (fun σ7 H7 h7 => ?_)
        · refine ⟨_, rfl, rfl, _, rfl, ifb (fun q => ?_) (fun q => ?_)⟩
          · have ec : cut = 1 := V.int.inj (of_decide_eq_true q)
            refine ⟨_, rfl, _, rfl, _, rfl, _, rfl, hzs, _, rfl, .inl ⟨_, rfl, _, _, rfl, rfl, (by decide : (0 : Int) < 3), _, rfl, _, rfl, Nat.le_trans lc (Nat.le_trans (Nat.sub_le _ _) hzs), ?_⟩⟩
            have e0 : tailAt z an cut i = cutS (cutS z (some (an : Int)) none) none (some ((0 + (i : Int)) % 3)) := by
              unfold tailAt
              rw [if_pos ec, Int.zero_add]
            rw [← e0]
            exact hR _ _ ⟨_, rfl, rfl, PA', keep', gD⟩
          · have ec : cut ≠ 1 := fun h => of_decide_eq_false q (congrArg V.int h)
            refine ⟨_, rfl, _, rfl, _, rfl, _, rfl, hzs, ?_⟩
            have e0 : tailAt z an cut i = cutS z (some (an : Int)) none := by
              unfold tailAt
              rw [if_neg ec]
            rw [← e0]
            exact hR _ _ ⟨_, rfl, rfl, PA', keep', gD⟩
        obtain ⟨_, rfl, _, PA7, keep7, gD7⟩ := h7
        refine ⟨_, rfl, .inl ⟨rfl, _, .inl (.inl gD7)⟩, _, rfl, _, rfl, _, rfl, _, rfl, hzs, _, rfl, _, rfl, _, rfl, _, rfl, _, _, rfl, rfl, .inl hst1, _, _, rfl, rfl, .inl ⟨_, rfl, _, _, rfl, rfl, by show (0 : Int) < 26; decide, _, _, _, rfl, rfl, by rw [abc_len]; decide, hae, ?_⟩⟩
        refine ⟨_, _, rfl, rfl, ?_, _, rfl, _, _, rfl, rfl, ?_, ?_⟩
        · show _ + 1 ≤ sizeLine
          exact Nat.le_trans (by omega : _ ≤ 8) (by decide)
        · rw [len_app]
          exact Nat.le_trans (by show _ + 1 + _ ≤ 16; omega) (by decide)
        · refine ⟨D, _, _, rfl, rfl, gD7, by rw [List.length_map, List.length_map, List.length_range]; exact Nat.lt_of_lt_of_le hi (Nat.le_trans hm (by decide)), ?_⟩
          refine ⟨_, _, rfl, PA7.upd nDp nC.symm, ?_, ?_⟩
          · intro b o eb nb
            rw [upd_ne (ne_of_none eb hD)]
            exact keep7 _ _ eb nb
          · rw [upd_same, List.range_succ, List.map_append, List.map_append]
            show _ = some (HO.lst (_ ++ [V.str (wordAt z an f0 st cut i)]))
            unfold wordAt
            rw [Int.zero_add]
      · rintro σ' H' ⟨x, y, rfl, PA', keep', gD⟩
        exact hR _ _ ⟨x, y, rfl, PA', keep', gD⟩
    obtain ⟨x, y, rfl, PA6, keep6, gD6⟩ := h6
    exact ⟨_, rfl, k D _ u4 r4 H6 hD1 gD6 (by rw [List.length_map, List.length_range]) (words_nodup hst m hm) (fun y hy => by
        obtain ⟨q, _, rfl⟩ := List.mem_map.mp hy
        exact wd_word wz han) hu4 PA6 (keep4.trans keep6)⟩
end
end Ld
/-! sorted(d, key=str), d a dict with texts as keys -/
namespace Ld
open PySem PyProof.Rows
theorem kss_t (a : Addr) : Builtin.«list.sort» ⟨[.ref a], [(Str.ofString "key", .type "str")]⟩ = ksk_tree a (.type "str") false := rfl
section
variable {prog : Program} {w : World} {A : Around} {E : Value → Shared → Prop} {s : Shared} {P : PySem.Fin → Shared → Prop}
theorem kss_tail {a kS : Addr} {keys vs : List Value} {ss : List Str} {e e1 : Nat} {st : SortSt} (hk : s.heap.get? kS = some (seqObj "list" vs.toArray e)) (ha : s.heap.get? a = some (seqObj "list" #[] e1)) (hka : kS ≠ a) (hz : vs.length ≤ sizeLine)
    (hp : (arrOf st).Perm (pairsOf vs)) (hfl : failedOf st = none)
    (h : ∀ h' c, (∀ b o, b ≠ a → b ≠ kS → s.heap.get? b = some o → h'.get? b = some o) → h'.get? a = some (seqObj "list" ((arrOf st).map (·.2)) c) → P (.done (.ret .none)) { s with heap := h' }) :
    wpAny (model prog w) A (ksk_tail a false e1 (.ref kS) st) P E s := by
  have hout : ((arrOf st).map (·.2)).size = vs.length := by rw [Array.size_map, hp.size_eq, pairsOf_size]
  have s1 := Heap.SameBut.update s.heap kS (Obj.mapSeq fun _ => (#[] : Array Value))
  have na1 : (s.heap.update kS (Obj.mapSeq fun _ => (#[] : Array Value))).get? a = some (seqObj "list" #[] e1) := (s1.2 a hka.symm).trans ha
  have s2 := Heap.SameBut.update (s.heap.update kS (Obj.mapSeq fun _ => (#[] : Array Value))) a (Obj.mapSeq fun _ => (arrOf st).map (·.2))
  obtain ⟨c2, hc2⟩ : ∃ c2, ((s.heap.update kS (Obj.mapSeq fun _ => (#[] : Array Value))).update a (Obj.mapSeq fun _ => (arrOf st).map (·.2))).get? a = some (seqObj "list" ((arrOf st).map (·.2)) c2) :=
    ⟨_, get?_update_seq na1 fun _ => (arrOf st).map (·.2)⟩
  unfold ksk_tail
  try dsimp only
  refine wpAny_bind (listUpdate_at hk rfl ?_ (by rw [List.size_toArray]; exact hz) (Nat.zero_le _))
  refine wpAny_bind (wpAny_letGo ?_)
  refine wpAny_bind (seqEpoch_at na1 rfl ?_)
  simp only [Bool.false_eq_true, if_false]
  refine wpAny_bind (listUpdate_at na1 rfl ?_ (Nat.zero_le _) (Nat.le_trans (Nat.le_of_eq hout) (Nat.le_trans hz (Nat.le_succ _))))
  rw [hfl]
  simp only [bne_self_eq_false, Bool.false_eq_true, if_false]
  exact wpAny_pure (h _ c2 (fun b o h1 h2 eb => (s2.2 b h1).trans ((s1.2 b h2).trans eb)) hc2)
theorem kss_end {a kS : Addr} {vs : List Value} {ss : List Str} {e e1 : Nat} (hS : StrsAre vs ss) (hk : s.heap.get? kS = some (seqObj "list" vs.toArray e)) (ha : s.heap.get? a = some (seqObj "list" #[] e1)) (hka : kS ≠ a) (hz : vs.length ≤ sizeLine)
    (h : ∀ h' out ss' c, (∀ b o, b ≠ a → b ≠ kS → s.heap.get? b = some o → h'.get? b = some o) → h'.get? a = some (seqObj "list" out c) → StrsAre out.toList ss' → ss'.Perm ss → sortedS ss' = true → P (.done (.ret .none)) { s with heap := h' }) :
    wpAny (model prog w) A (ksk_end a false vs.toArray e1 (.ref kS) vs.toArray) P E s := by
  have hsz : vs.toArray.size = vs.length := by simp
  have fin : ∀ st : SortSt, (arrOf st).Perm (pairsOf vs) → failedOf st = none → SortedToK strKind (arrOf st) (pairsOf vs).size → wpAny (model prog w) A (ksk_tail a false e1 (.ref kS) st) P E s := by
    intro st hp hf hs
    obtain ⟨ss', h1, h2, h3⟩ := sorted_out_str hS hp hs
    exact kss_tail (keys := vs) (ss := ss) hk ha hka hz hp hf fun h' c keep hc => h h' _ ss' c keep hc h1 h2 h3
  unfold ksk_end
  try dsimp only
  simp only [Bool.false_eq_true, if_false]
  by_cases h2 : vs.toArray.size < 2
  · rw [if_pos h2, if_pos h2]
    refine wpAny_bind (wpAny_pure ?_)
    rw [StateT.run_pure]
    refine wpAny_bind (wpAny_pure ?_)
    try dsimp only
    refine fin (SortSt.mk' general' (vs.toArray.zip vs.toArray) #[] 7 none) (Array.Perm.refl _) rfl ?_
    intro i j hij hj
    have : i = j := by rw [pairsOf_size] at hj; omega
    subst this; exact KeyOrd.kle_refl _
  · rw [if_neg h2, if_neg h2]
    obtain ⟨v₁, v₂, rest, rfl⟩ : ∃ v₁ v₂ rest, vs = v₁ :: v₂ :: rest := by
      match vs, hsz, h2 with
      | [], _, h2 => simp at h2
      | [_], _, h2 => simp at h2
      | v₁ :: v₂ :: rest, _, _ => exact ⟨v₁, v₂, rest, rfl⟩
    rw [keyKind_strs hS]
    refine wpAny_bind (wpAny_pure ?_)
    refine wpAny_bind (wpAny_mono (wpS_sortRunsAny (κ := strKind) (a₀ := pairsOf (v₁ :: v₂ :: rest)) (st := SortSt.mk' oneType' ((v₁ :: v₂ :: rest).toArray.zip (v₁ :: v₂ :: rest).toArray) #[] 7 none)
      (Q := fun _ st' => (arrOf st').Perm (pairsOf (v₁ :: v₂ :: rest)) ∧ failedOf st' = none ∧ SortedToK strKind (arrOf st') (pairsOf (v₁ :: v₂ :: rest)).size)
      strKind_oneLt hS.keysOf ⟨Array.Perm.refl _, rfl, rfl⟩ rfl (by rw [pairsOf_size]; simp) fun st' a1 a2 a3 => ⟨a1, a2, a3⟩) ?_ fun _ _ e => e)
    rintro ⟨⟨⟩, st'⟩ s' ⟨rfl, hp, hf, hs⟩
    try dsimp only
    exact fin st' hp hf hs
theorem kss_sort {a : Addr} {vs : List Value} {ss : List Str} {n : Nat} (ho : s.heap.get? a = some (seqObj "list" vs.toArray n)) (hS : StrsAre vs ss) (hz : vs.length < sizeLine)
    (h : ∀ h' out ss' c, (∀ b o, b ≠ a → s.heap.get? b = some o → h'.get? b = some o) → h'.get? a = some (seqObj "list" out c) → StrsAre out.toList ss' → ss'.Perm ss → sortedS ss' = true → P (.done (.ret .none)) { s with heap := h' }) :
    wpAny (model prog w) A (ksk_tree a (.type "str") false) P E s := by
  have hz' : vs.length ≤ sizeLine := Nat.le_of_lt hz
  have ha : a < s.heap.objs.size := Heap.lt_size ho
  have s1 := Heap.SameBut.update s.heap a (Obj.mapSeq fun _ => (#[] : Array Value))
  obtain ⟨e1, ho1⟩ : ∃ e1, (s.heap.update a (Obj.mapSeq fun _ => (#[] : Array Value))).get? a = some (seqObj "list" #[] e1) := ⟨_, get?_update_seq ho fun _ => #[]⟩
  have hkS : ((s.heap.update a (Obj.mapSeq fun _ => (#[] : Array Value))).push (seqObj "tuple" vs.toArray 0)).objs.size = s.heap.objs.size + 1 := by rw [size_push', Heap.size_update]
  unfold ksk_tree
  refine wpAny_bind (listItems_at ho rfl ?_)
  refine wpAny_bind (listUpdate_at ho rfl ?_ (by rw [List.size_toArray]; exact hz') (Nat.zero_le _))
  refine wpAny_bind (seqEpoch_at ho1 rfl ?_)
  refine wpAny_bind (wpAny_newTuple ?_ (by show vs.length ≤ _; exact hz'))
  refine wpAny_bind (wpAny_newList ?_ (Nat.zero_le _))
  refine wpAny_holding ?_
  obtain ⟨g, hg⟩ : ∃ g, ((s.heap.update a (Obj.mapSeq fun _ => (#[] : Array Value))).push (seqObj "tuple" vs.toArray 0)).push (seqObj "list" #[] 0) = g := ⟨_, rfl⟩
  obtain ⟨kS, ek⟩ : ∃ kS, ((s.heap.update a (Obj.mapSeq fun _ => (#[] : Array Value))).push (seqObj "tuple" vs.toArray 0)).objs.size = kS := ⟨_, rfl⟩
  have hkg : g.get? kS = some (seqObj "list" #[] 0) := by rw [← hg, ← ek]; exact Heap.get?_push_size _ rfl
  have hag : g.get? a = some (seqObj "list" #[] e1) := by rw [← hg]; exact Heap.get?_push_of_some _ (Heap.get?_push_of_some _ ho1)
  have hka : kS ≠ a := by rw [← ek, hkS]; exact Nat.ne_of_gt (Nat.lt_succ_of_lt ha)
  have keep0 : ∀ b o, b ≠ a → s.heap.get? b = some o → g.get? b = some o ∧ b ≠ kS := fun b o hb eb =>
    ⟨by rw [← hg]; exact Heap.get?_push_of_some _ (Heap.get?_push_of_some _ ((s1.2 b hb).trans eb)), by rw [← ek, hkS]; exact Nat.ne_of_lt (Nat.lt_succ_of_lt (Heap.lt_size eb))⟩
  show wpAny (model prog w) _ (ksk_rest a (.type "str") false vs.toArray e1 (.ref ((s.heap.update a (Obj.mapSeq fun _ => (#[] : Array Value))).push (seqObj "tuple" vs.toArray 0)).objs.size)) P E { s with heap := ((s.heap.update a (Obj.mapSeq fun _ => (#[] : Array Value))).push (seqObj "tuple" vs.toArray 0)).push (seqObj "list" #[] 0) }
  rw [hg, ek]
  unfold ksk_rest
  refine wpAny_bind (wpAny_rule ?_)
  first
    | rw [List.forIn_toArray]
    | (rw [← Array.forIn_toList]; simp only [List.toList_toArray])
    | rw [← Array.forIn_toList]
  refine wpAny_bind (ksk_fold (fun i s' => ∃ h' e, s' = { s with heap := h' } ∧ (∀ b o, b ≠ kS → g.get? b = some o → h'.get? b = some o) ∧ h'.get? kS = some (seqObj "list" (vs.take i).toArray e)) vs 0 _
    ⟨g, 0, rfl, fun b o _ eb => eb, hkg⟩ ?step ?done)
  case step =>
    rintro j x s' hx ⟨h', e, rfl, keep, hk⟩
    simp only [Nat.zero_add] at hk ⊢
    have hj : j < vs.length := (List.getElem?_eq_some_iff.mp hx).1
    obtain ⟨z, t, rfl⟩ := hS.all x (List.mem_of_getElem? hx)
    refine wpAny_bind (wpAny_attempt (PySem.P.str_of_str ?_))
    try dsimp only
    have s2 := Heap.SameBut.update h' kS (Obj.mapSeq (·.push (.str z t)))
    obtain ⟨c2, hc2⟩ : ∃ c2, (h'.update kS (Obj.mapSeq (·.push (.str z t)))).get? kS = some (seqObj "list" ((vs.take j).toArray.push (.str z t)) c2) := ⟨_, get?_update_seq hk (·.push (.str z t))⟩
    have et : ((vs.take j).toArray.push (Value.str z t)) = (vs.take (j + 1)).toArray := by
      rw [List.take_add_one, hx]
      simp
    have hl : (vs.take j).length ≤ j := by rw [List.length_take]; omega
    refine wpAny_bind (listUpdate_at hk rfl ?_ (by rw [List.size_toArray]; omega) (by rw [Array.size_push, List.size_toArray]; omega))
    refine wpAny_pure ⟨rfl, _, c2, rfl, fun b o hb eb => (s2.2 b hb).trans (keep b o hb eb), by rw [hc2, et]⟩
  case done =>
    rintro s' ⟨h', e, rfl, keep, hk⟩
    have e3 : vs.take (0 + vs.length) = vs := List.take_of_length_le (by omega)
    rw [e3] at hk
    try dsimp only
    refine wpAny_bind (listItems_at hk rfl ?_)
    refine kss_end (s := { s with heap := h' }) hS hk (keep a _ hka.symm hag) hka hz' fun h2 out ss' c keep2 h21 h22 h23 h24 => h h2 out ss' c (fun b o hb eb => ?_) h21 h22 h23 h24
    obtain ⟨k1, k2⟩ := keep0 b o hb eb
    exact keep2 b o hb k2 (keep b o k2 k1)
end
end Ld
namespace Ld
open PySem PySem.Spec PyProof.Rows L2
section
variable {X : Cx}
/-- sorted(d, key=str) -/
def rSortedDK : List V → List V → Hp → VK → Prop := fun xs zs H Q => ∃ (a : Addr) (kvs : List (Key × V)) (ks : List Str), xs = [.ref a] ∧ zs = [.ty "str"] ∧ Rd H a (.dK kvs) ∧ kvs.map (·.1) = ks.map Sum.inr ∧ ks.length < sizeLine ∧
    ∀ ys p, ys.Perm ks → sortedS ys = true → H p = none → Q (.ref p) (upd H p (.lst (ys.map V.str)))
theorem cr_sortedDK (hcalm : X.calm = true) : CallRK X (.builtin "sorted") ["key"] rSortedDK := by
  intro pins s σ H xs zs us ws Q I r rz q
  obtain ⟨a, kvs, ks, rfl, rfl, hd, hks, h64, q⟩ := q
  obtain ⟨u, rfl, rx⟩ := vals1 r
  obtain ⟨u2, rfl, ru⟩ := vals1 rz
  cases rx
  cases (show u2 = Value.type "str" from ru)
  obtain ⟨z, lo, vs, rel, dd⟩ := dk_rd I.hok hd
  obtain ⟨ep, hat⟩ := dd.dictAt
  have hkeys : vs.map (·.1) = ks.map Sum.inr := rel.keys.symm.trans hks
  have hl : vs.length = ks.length := by
    have e := congrArg List.length hkeys
    rw [List.length_map, List.length_map] at e
    exact e
  have h16 : vs.length ≤ sizeLine := by rw [hl]; exact Nat.le_of_lt h64
  show wpAny _ _ (call (.builtin "sorted") [.ref a] [(Str.ofString "key", .type "str")]) _ _ _
  refine call_function_entry_kw kind_sorted plain_sorted entry_sorted (ksk_s1 _ _) ?_
  unfold Builtin.«sorted»
  refine wpAny_bind (m := checkCount "sorted" 1 1 _) (wpAny_pure ?_)
  refine wpAny_bind (PySem.W.kdu_collect (A := X.A.in1) (PySem.W.kdl_dict (knd := mixKind X.prog X.w) (kvs := vs) (ep := ep) lo) (I.ok.hd hcalm) hat h16 fun h' tk acc hk hacc => ?_)
  have hal : acc.toList.length = ks.length := by rw [Array.length_toList, hacc.1, hl]
  have hS : StrsAre acc.toList ks := strs_at hal fun j v e => by
    obtain ⟨k, x, e1, e2⟩ := hacc.2 j v (by rw [← Array.getElem?_toList]; exact e)
    have e3 : (vs.map (·.1))[j]? = some k := by rw [List.getElem?_map, e1]; all_goals rfl
    rw [hkeys, List.getElem?_map] at e3
    cases e4 : ks[j]? with
    | none => rw [e4] at e3; cases e3
    | some y =>
      rw [e4] at e3
      have e5 : Sum.inr y = k := Option.some.inj e3
      subst e5
      obtain ⟨t, ev⟩ := Value.isStrOf_shape (x := y) (v := v) e2
      exact ⟨y, t, rfl, ev⟩
  have I1 : Inv X pins σ H { s with heap := h', toks := tk } := I.kept hk
  refine wpAny_bind (wpAny_newList ?_ (by rw [hal]; exact Nat.le_of_lt h64))
  have hoL : (h'.push (seqObj "list" acc.toList.toArray 0)).get? h'.objs.size = some (seqObj "list" acc.toList.toArray 0) := Heap.get?_push_size _ rfl
  show wpAny _ _ _ _ _ { s with heap := h'.push (seqObj "list" acc.toList.toArray 0), toks := tk }
  refine wpAny_bind (wpAny_holding (wpAny_call_entry_kw slot_list_sort ⟨_, hoL, rfl⟩ entry_list_sort ?_ (ksk_l1 _ _)))
  rw [kss_t]
  refine kss_sort (s := { s with heap := h'.push (seqObj "list" acc.toList.toArray 0), toks := tk }) hoL hS (by rw [hal]; exact h64) fun h2 out ys c keep hc g1 g2 g3 => ⟨_, rfl, ?_⟩
  have hlen : (ys.map V.str).length ≤ sizeLine := by
    rw [List.length_map, g2.length_eq]
    exact Nat.le_of_lt h64
  refine wpAny_pure ⟨_, rfl, .ref h'.objs.size, upd H h'.objs.size (.lst (ys.map V.str)), I1.laid (t' := tk) (fun b u e => ?_) (Nat.le_refl _)
    (show ObjOk X.prog X.w _ _ _ (.lst (ys.map V.str)) from ⟨hlen, out.toList, c, vals_of_strs g1, by rw [Array.toArray_toList]; exact hc⟩), rfl, q ys _ g2 g3 (I1.hok.fresh (Nat.le_refl _))⟩
  have hb : b < h'.objs.size := Heap.lt_size e
  exact keep b _ (Nat.ne_of_lt hb) (Heap.get?_push_of_some _ e)
end
end Ld
namespace Ld
open PySem PySem.Spec PyProof.Rows L2
section
variable {J : It} {n : Nat} {G : Hp → Prop} {Y : Nat → Hp → V → Hp → Prop}
/-- a dict comprehension over a walk -/
theorem dc_it (w : Walk J n G Y) {g : TG} {tt : TT} {tk tv : TE} {vs : List Nat} {σ : L2.St} {H1 : Hp} {D : Addr} {Qd : Hp → Prop} (Pv : Nat → Hp → Prop) (h0 : Pv 0 (upd H1 D (.dK []))) (hG : ∀ i H, i ≤ n → Pv i H → G H)
    (hs : ∀ i x H H', i < n → Pv i H → Y i H x H' → g x (wipe σ vs) H' fun σ2 H2 => wipe σ2 vs = wipe σ vs ∧ tt σ2 H2 fun b H3 =>
      if b = true then tk σ2 H3 fun y H4 => tv σ2 H4 fun z H5 => ∃ kvs k, y = kV k ∧ H5 D = some (.dK kvs) ∧ kvs.length < sizeLine ∧ Pv (i + 1) (upd H5 D (.dK (putK kvs k z))) else Pv (i + 1) H3) (hd : ∀ H, Pv n H → Qd H) :
    ∃ W : Nat → Nat → Hp → Prop, (∃ m, W 0 m (upd H1 D (.dK []))) ∧ ∀ i m H, W i m H →
      (J.stop i H ∧ Qd H) ∨ (J.go i H ∧ ∃ Nx : Hp → Prop, (∀ H', Nx H' → ∃ m', m' < m ∧ W (i + 1) m' H') ∧ ∀ x H', J.yld i H x H' → g x (wipe σ vs) H' fun σ2 H2 => wipe σ2 vs = wipe σ vs ∧ tt σ2 H2 fun b H3 =>
        if b = true then tk σ2 H3 fun y H4 => tv σ2 H4 fun z H5 => ∃ kvs k, y = kV k ∧ H5 D = some (.dK kvs) ∧ kvs.length < sizeLine ∧ Nx (upd H5 D (.dK (putK kvs k z))) else Nx H3) := by
  refine ⟨fun i m H => m = n - i ∧ i ≤ n ∧ Pv i H, ⟨n, by simp, Nat.zero_le _, h0⟩, ?_⟩
  rintro i m H ⟨rfl, hi, p⟩
  have q := hG i H hi p
  by_cases hlt : i < n
  · refine .inr ⟨w.goes i H hlt q, Pv (i + 1), fun H' p' => ⟨n - (i + 1), by omega, rfl, hlt, p'⟩, fun x H' y => hs i x H H' hlt p (w.yields i H x H' hlt q y)⟩
  · have e : i = n := by omega
    subst e
    exact .inl ⟨w.stops H q, hd H p⟩
end
section
variable {X : Cx}
/-- name = {.. for ..} on one line, the name a local -/
theorem ps_setDc {i : Nat} {y : Str} {py : Pos} {kx vx tg iter : Expr} {ifs : List Expr} {scope : Scope} {own : List (Str × Nat)} {pos spos : Pos} {wi : TI} {g : TG} {tt : TT} {tk tv : TE} (hc : X.calm = true) (hN : X.N.Nodup) (hy : X.N[i]? = some y) (hyl : X.env.scope.names.lookup y = some .local)
    (hsw : swapsWith (.DictComp kx vx [⟨tg, iter, ifs, 0⟩] scope pos) (some (.Name y py)) spos.line X.env = pure true) (hi : PI X tg iter wi) (ok : BlkOk X.N X.env.scope scope own)
    (hg : ∀ (s : Shared) (H : Hp) (C : Addr) (cl : List (Str × Addr)) (fp : List Addr), PG (X.blk s H scope (compEnvC scope cl C X.env) fp) tg g) (ht : ∀ (s : Shared) (H : Hp) (C : Addr) (cl : List (Str × Addr)) (fp : List Addr), PTs (X.blk s H scope (compEnvC scope cl C X.env) fp) ifs tt)
    (hk : ∀ (s : Shared) (H : Hp) (C : Addr) (cl : List (Str × Addr)) (fp : List Addr), PE (X.blk s H scope (compEnvC scope cl C X.env) fp) kx tk)
    (he : ∀ (s : Shared) (H : Hp) (C : Addr) (cl : List (Str × Addr)) (fp : List Addr), PE (X.blk s H scope (compEnvC scope cl C X.env) fp) vx tv) (hs : ∀ x, foldedSetIterable iter X.env x = pure x := by intro _; rfl) :
    PS X (.Assign [.Name y py] (.DictComp kx vx [⟨tg, iter, ifs, 0⟩] scope pos) spos) (tAsg (tDc wi g tt tk tv (own.map (·.2))) (gName i)) := by
  refine ⟨fun pins s σ H D I h => ?_⟩
  rw [exec_Assign_Name_used _ _ _ _ hsw]
  refine wpAny_bind (wpAny_standAt (wpAny_bind ?_))
  show wpAny _ X.A (do let _ ← comprehension (.DictComp kx vx [⟨tg, iter, ifs, 0⟩] scope pos) scope X.env (firstIterPos [⟨tg, iter, ifs, 0⟩] pos) newDict false (eval iter X.env) (some (assign (.Name y py) X.env))) _ _ s
  have h : tDc wi g tt tk tv (own.map (·.2)) σ H (fun x H1 => gName i x σ H1 D.nx) := h
  refine wpAny_bind (thn (dc_core (Qf := fun _ s' => SP X pins D .next s') hc hN I hi ok hg ht hk he hs h fun L C s' m H' I' q hn f => ?_) fun _ s' hq => wpAny_pure (wpAny_pure hq))
  show wpAny _ _ (assign (.Name y py) X.env (.ref L)) _ _ _
  refine wpAny_assign_Name (store_ok2 (v := V.ref L) I' hN hy (.inl hyl) rfl (fun s2 I2 ⟨a, sb, ha⟩ => ?_) (.inr hyl))
  obtain ⟨f0, f1, f2, f3, f4, f5⟩ := f
  have haC : C ≠ a := by
    rcases ha with z | z
    · rw [z]; exact f1
    · exact fun e => f4 y a z e.symm
  refine ⟨m, hn.sameBut sb haC, fun h3 sb3 => ?_⟩
  exact ⟨_, H', I2.turned (t' := s2.toks) (fun b o hb e => (sb3.2 b hb).trans e) f0 f1 f3 f4 f5, q⟩
theorem sw_trueD {kx vx : Expr} {gs : List Comprehension} {scope : Scope} {pos py : Pos} {y : Str} {l : Nat} {env : Env} (hk : env.scope.kind = .function) (hy : env.scope.names.lookup y = some .local) (hl : (py.line == pos.line) = true)
    (ha : (scope.names.any fun (n, k) => n == y && (k == .local || k == .cell)) = false) : swapsWith (.DictComp kx vx gs scope pos) (some (.Name y py)) l env = pure true := by
  have ky : env.kindOf y = some .local := hy
  have hb : env.blockKind = .function := by unfold Env.blockKind; rw [hk]; rfl
  unfold swapsWith
  simp only [hb, ky, ha, Expr.pos, hl]
  rfl
end
end Ld
namespace Ld
open PySem PySem.Spec PyProof.Rows L2
abbrev sIsInt : Stmt := top 2
abbrev sIsWord : Stmt := top 3
abbrev sAsc : Stmt := top 4
theorem bSorted : bootBuiltins "sorted" = some (.builtin "sorted") := by decide +kernel
theorem bIsi : bootBuiltins "isinstance" = some (.builtin "isinstance") := by decide +kernel
theorem bBool : bootBuiltins "bool" = some (.type "bool") := by decide +kernel
theorem bAll : bootBuiltins "all" = some (.builtin "all") := by decide +kernel
/-- more names that are the built-ins' own -/
structure Blt2 (mg : Str → Option Value) : Prop where
  str : mg "str" = none
  bool : mg "bool" = none
  sorted : mg "sorted" = none
  isi : mg "isinstance" = none
  all : mg "all" = none
  dict : mg "dict" = none
/-- the keys of a dict, all texts -/
def keysOf (kvs : List (Key × V)) (ks : List Str) : Prop := kvs.map (·.1) = ks.map Sum.inr ∧ ks.Nodup
theorem keysOf.len {kvs : List (Key × V)} {ks : List Str} (h : keysOf kvs ks) : kvs.length = ks.length := by
  have e := congrArg List.length h.1
  rw [List.length_map, List.length_map] at e
  exact e
theorem keysOf.at {kvs : List (Key × V)} {ks : List Str} (h : keysOf kvs ks) {i : Nat} {k : Key} {v : V} (e : kvs[i]? = some (k, v)) : ∃ z, k = Sum.inr z ∧ ks[i]? = some z := by
  have e2 : (kvs.map (·.1))[i]? = some k := by rw [List.getElem?_map, e]; rfl
  rw [h.1, List.getElem?_map] at e2
  cases e3 : ks[i]? with
  | none => rw [e3] at e2; cases e2
  | some z => rw [e3] at e2; exact ⟨z, (Option.some.inj e2).symm, rfl⟩
theorem valV_none {kvs : List (Key × V)} {k : Key} (h : k ∉ kvs.map (·.1)) : valV kvs k = none := by
  unfold valV
  rw [List.find?_eq_none.mpr (fun x hx => ?_)]
  · rfl
  · simp only [decide_eq_true_eq]
    exact fun e => h (List.mem_map.mpr ⟨x, hx, e⟩)
theorem not_in_take {ks : List Str} (nd : ks.Nodup) {i : Nat} {z : Str} (e : ks[i]? = some z) : z ∉ ks.take i := by
  intro h
  obtain ⟨j, hj, ej⟩ := List.getElem_of_mem h
  have hji : j < i := by rw [List.length_take] at hj; omega
  obtain ⟨hi, ei⟩ := List.getElem?_eq_some_iff.mp e
  rw [List.getElem_take] at ej
  have := (List.getElem_inj nd).mp (ej.trans ei.symm)
  omega
def spAsc : Sp := fun vs H Q _ => ∃ (a : Addr) (kvs : List (Key × V)) (ks : List Str), vs = [.ref a] ∧ H a = some (.dK kvs) ∧ keysOf kvs ks ∧ ks.length ≤ 1000 ∧
  ∀ H' p ys, Same H H' → H p = none → H' p = some (.lst (ys.map V.str)) → ys.Perm ks → sortedS ys = true → Q (.ref p) H'
section
variable {P : Program} {w : World} {K : PySem.W.Frag} {mg : Str → Option Value} {base : Heap}
abbrev nAsc : List Str := ["words", "found", "word"]
theorem scAsc : FnScope nAsc ["words"] (defScope sAsc) := ⟨rfl, rfl, rfl, by decide +kernel, rfl, by decide +kernel, by decide +kernel⟩
theorem ok_asc {f : Addr} {fd : FuncData} (F : Fun K "ascending" "ascending" sAsc f fd) (B : Blt2 mg) : FnOk P w K mg base CX0 1 f fd ["words"] spAsc := by
  refine F.ok scAsc (fun vs H Q E h => ?_) (fun cdv A outer s H vs Q E hr h => ?_)
  · obtain ⟨a, kvs, ks, rfl, _⟩ := h
    rfl
  · obtain ⟨a, kvs, ks, rfl, ha, hk, hl, k⟩ := h
    have nd : nAsc.Nodup := scAsc.nd
    refine ⟨_, pss_cons (ps_lock (ps_setDc (i := 1) (own := [("word", 2)]) (g := gName 2) (tt := tYes) rfl nd rfl rfl (sw_trueD rfl rfl rfl (by decide +kernel)) (pi_keys (pv 0)) (blkOk_by (N := nAsc) (sc := defScope sAsc) (by decide +kernel))
        (fun _ _ _ _ _ => pg_name (i := 2) nd rfl (Or.inl rfl)) (fun _ _ _ _ _ => pts_nil) (fun _ _ _ _ _ => pv 2) (fun _ _ _ _ _ => pe_bl)))
      (pss_one (ps_ret (pe_callBK (cr_sortedDK rfl) (by rfl) B.sorted bSorted (pa_cons (pv 1) pa_nil) (pk_cons (pe_bltn (v := .ty "str") (by rfl) B.str bStr0 rfl) pk_nil)))), ?_⟩
    refine seq_step (fun σ' H' => ∃ (D : Addr) (es : List (Key × V)), σ' = [some (.ref a), some (.ref D), none] ∧ H' D = some (.dK es) ∧ es.map (·.1) = ks.map Sum.inr ∧ Same H H' ∧ H D = none) (fun R hR => ?_) (fun σ1 H1 h1 => ?_)
    · refine ⟨a, _, ha, trivial, fun od => ⟨_, rfl, a, od, rfl, .inl ⟨kvs, upd_same, fun D hD => ?_⟩⟩⟩
      have nDa : D ≠ a := fun e => by rw [e, upd_same] at hD; cases hD
      have hD0 : H D = none := by rw [upd_ne nDa] at hD; exact hD
      refine dc_it (walk_keys (d := a) (o := od) (kvs := kvs)) (fun i H' => ∃ es : List (Key × V), H' D = some (.dK es) ∧ es.map (·.1) = (ks.take i).map Sum.inr ∧ H' a = some (.frz od (.dK kvs)) ∧ ∀ b o, H b = some o → b ≠ a → H' b = some o)
        ⟨[], upd_same, rfl, by rw [upd_ne nDa.symm, upd_same], fun b o eb nb => by rw [upd_ne (ne_of_none eb hD0), upd_ne nb]; exact eb⟩ (fun i H' _ ⟨es, _, _, e, _⟩ => e) ?_ ?_
      · rintro i x H2 H3 hi ⟨es, eD, ek, ea, keep⟩ ⟨rfl, key, v, hkv, rfl⟩
        obtain ⟨z, rfl, hz⟩ := hk.at hkv
        refine ⟨rfl, _, rfl, es, Sum.inr z, rfl, eD, ?_, _, upd_same, ?_, by rw [upd_ne nDa.symm]; exact ea, fun b o eb nb => by rw [upd_ne (ne_of_none eb hD0)]; exact keep b o eb nb⟩
        · have := congrArg List.length ek
          rw [List.length_map, List.length_map, List.length_take] at this
          exact Nat.lt_of_le_of_lt (by omega : es.length ≤ 1000) (by decide)
        · have hn : (Sum.inr z : Key) ∉ es.map (·.1) := by
            rw [ek]
            intro hm
            obtain ⟨y, hy, e⟩ := List.mem_map.mp hm
            exact not_in_take hk.2 hz (Sum.inr.inj e ▸ hy)
          rw [putK_new _ (valV_none hn), List.map_append, ek, List.take_add_one, hz]
          simp
      · rintro H2 ⟨es, eD, ek, ea, keep⟩
        refine ⟨ea, hR _ _ ⟨D, es, rfl, by rw [upd_ne nDa]; exact eD, ?_, fun b o eb => ?_, hD0⟩⟩
        · rw [ek, hk.len, List.take_of_length_le (Nat.le_refl _)]
        · by_cases e : b = a
          · rw [e, upd_same, ← ha, ← e, eb]
          · rw [upd_ne e]
            exact keep b o eb e
    obtain ⟨D, es, rfl, eD, ek, same, hD0⟩ := h1
    refine ⟨_, rfl, D, es, ks, rfl, rfl, .inl eD, ek, Nat.lt_of_le_of_lt hl (by decide), fun ys p perm srt hp => ?_⟩
    have hpH : H p = none := by
      cases e : H p with
      | none => rfl
      | some o => rw [same _ _ e] at hp; cases hp
    exact k _ p ys (fun b o eb => by rw [upd_ne (ne_of_none (same _ _ eb) hp)]; exact same _ _ eb) hpH upd_same perm srt
end
end Ld
namespace Ld
open PySem PySem.Spec PyProof.Rows L2
def spIsInt (K : PySem.W.Frag) : Sp := fun vs H Q _ => ∃ (x : V) (t : Value) (b1 b2 : Bool), vs = [x] ∧ TyX K H x t ∧ PySem.W.kitOne K t (.type "int") = some b1 ∧ PySem.W.kitOne K t (.type "bool") = some b2 ∧ Q (.bl (b1 && !b2)) H
theorem isInt_int {K : PySem.W.Frag} {E : Value → Option Addr → Hp → Prop} {i : Int} {H : Hp} {Q : VK} (q : Q (.bl true) H) : spIsInt K [.int i] H Q E :=
  ⟨.int i, .type "int", true, false, rfl, .base (.int i), kit_ty (by decide +kernel), kit_ty (by decide +kernel), q⟩
/-- a letter from a to z -/
def azB (c : Nat) : Bool := decide (97 ≤ c) && decide (c ≤ 122)
def wordB (z : Str) : Bool := decide (1 ≤ z.length) && decide (z.length ≤ 8) && z.cps.toList.all azB
theorem Wd.word {z : Str} (h : Wd 1 8 z) : wordB z = true := by
  unfold wordB
  rw [Bool.and_eq_true, Bool.and_eq_true, decide_eq_true_eq, decide_eq_true_eq, List.all_eq_true]
  refine ⟨⟨h.l0, h.l1⟩, fun c hc => ?_⟩
  have := h.az c hc
  unfold azB
  rw [Bool.and_eq_true, decide_eq_true_eq, decide_eq_true_eq]
  exact this
theorem wordB_len {z : Str} (h : wordB z = true) : 1 ≤ z.length ∧ z.length ≤ 8 := by
  unfold wordB at h
  rw [Bool.and_eq_true, Bool.and_eq_true, decide_eq_true_eq, decide_eq_true_eq] at h
  exact h.1
def spIsWord (K : PySem.W.Frag) : Sp := fun vs H Q _ => ∃ x, vs = [x] ∧ ((∃ z : Str, x = .str z ∧ z.length ≤ sizeLine ∧ ∀ H', Same H H' → Q (.bl (wordB z)) H') ∨
  ∃ t, TyX K H x t ∧ PySem.W.kitOne K t (.type "str") = some false ∧ Q (.bl false) H)
theorem lt_one (a c : Nat) : decide ([a] < [c]) = decide (a < c) := by
  apply decide_eq_decide.mpr
  constructor
  · intro h
    rcases List.cons_lt_cons_iff.mp h with h | ⟨_, h⟩
    · exact h
    · exact absurd h (by simp)
  · intro h
    exact List.cons_lt_cons_iff.mpr (.inl h)
theorem az_chain (c : Nat) : (if (!decide (c < 97)) = true then (!decide (122 < c)) else false) = azB c := by
  unfold azB
  by_cases h : 97 ≤ c
  · have h1 : ¬ c < 97 := by omega
    by_cases h2 : c ≤ 122
    · have h3 : ¬ 122 < c := by omega
      simp [h, h1, h2, h3]
    · have h3 : 122 < c := by omega
      simp [h, h1, h2, h3]
  · have h1 : c < 97 := by omega
    simp [h, h1]
section
variable {P : Program} {w : World} {K : PySem.W.Frag} {mg : Str → Option Value} {base : Heap}
theorem scIsInt : FnScope ["value"] ["value"] (defScope sIsInt) := ⟨rfl, rfl, rfl, by decide +kernel, rfl, by decide +kernel, by decide +kernel⟩
theorem ok_isInt {f : Addr} {fd : FuncData} (F : Fun K "is_integer" "is_integer" sIsInt f fd) (B : Blt2 mg) (mInt : mg "int" = none) : FnOk P w K mg base CX0 1 f fd ["value"] (spIsInt K) := by
  refine F.ok scIsInt (fun vs H Q E h => ?_) (fun cdv A outer s H vs Q E hr h => ?_)
  · obtain ⟨x, _, _, _, rfl, _⟩ := h
    rfl
  · obtain ⟨x, t, b1, b2, rfl, ty, k1, k2, q⟩ := h
    refine ⟨_, pss_one (ps_ret (pe_and (pe_callB call_isi (by rfl) B.isi bIsi (pa_cons (pv 0) (pa_cons (pe_bltn (v := .ty "int") (by rfl) mInt bInt rfl) pa_nil)))
      (pe_one (pe_not (pe_callB call_isi (by rfl) B.isi bIsi (pa_cons (pv 0) (pa_cons (pe_bltn (v := .ty "bool") (by rfl) B.bool bBool rfl) pa_nil))))))), ?_⟩
    refine ⟨_, rfl, x, _, t, _, b1, rfl, .ty _, ty, k1, b1, rfl, ifb (fun e => ?_) (fun e => ?_)⟩
    · subst e
      exact ⟨_, rfl, x, _, t, _, b2, rfl, .ty _, ty, k2, b2, rfl, q⟩
    · subst e
      exact q
abbrev nIsWord : List Str := ["value", "letter"]
theorem scIsWord : FnScope nIsWord ["value"] (defScope sIsWord) := ⟨rfl, rfl, rfl, by decide +kernel, rfl, by decide +kernel, by decide +kernel⟩
theorem ok_isWord {f : Addr} {fd : FuncData} (F : Fun K "is_word" "is_word" sIsWord f fd) (B : Blt2 mg) (mLen : mg "len" = none) (mMost : ∃ t, mg "MOST_LETTERS" = some (.int 8 t)) : FnOk P w K mg base CX0 1 f fd ["value"] (spIsWord K) := by
  obtain ⟨t8, mMost⟩ := mMost
  refine F.ok scIsWord (fun vs H Q E h => ?_) (fun cdv A outer s H vs Q E hr h => ?_)
  · obtain ⟨x, rfl, _⟩ := h
    rfl
  · obtain ⟨x, rfl, h⟩ := h
    have nd : nIsWord.Nodup := scIsWord.nd
    refine ⟨_, pss_cons (ps_if (PW.pt (pw_or (pt_not (pt_truth (pe_callB call_isi (by rfl) B.isi bIsi (pa_cons (pv 0) (pa_cons (pe_bltn (v := .ty "str") (by rfl) B.str bStr0 rfl) pa_nil))) (fun _ => rfl)))
        (pw_or1 (pt_not (pt_chain op_le op_le pe_int (pe_callB call_len_str (by rfl) mLen PySem.boot_len (pa_cons (pv 0) pa_nil)) (pe_glob (v := .int 8) (by rfl) mMost ⟨_, rfl⟩)))))) (pss_one (ps_ret pe_bl)) pss_nil)
      (pss_one (ps_ret (pe_callB (cr_all rfl) (by rfl) B.all bAll (pa_cons (pe_lc (own := [("letter", 1)]) (g := gName 1) (tt := tYes) rfl nd (pi_str (pv 0)) (blkOk_by (N := nIsWord) (sc := defScope sIsWord) (by decide +kernel))
        (fun _ _ _ _ _ => pg_name (i := 1) nd rfl (Or.inl rfl)) (fun _ _ _ _ _ => pts_nil) (fun _ _ _ _ _ => pe_chain op_le_str op_le_str pe_str (pv 1) pe_str)) pa_nil)))), ?_⟩
    rcases h with ⟨z, rfl, hz, k⟩ | ⟨t, ty, kt, q⟩
    · refine ⟨_, rfl, _, _, _, _, true, rfl, .ty _, .base (.str z), kit_ty (by decide +kernel), true, rfl, ?_⟩
      have qF : wordB z = false → Q (.bl false) H := fun e => by
        have := k H (fun _ _ e => e)
        rw [e] at this
        exact this
      refine ⟨_, rfl, _, rfl, hz, _, _, rfl, rfl, _, rfl, ifd (fun c1 => ?_) (fun c1 => ?_)⟩
      · refine ⟨_, _, rfl, rfl, _, rfl, ifb (fun c2 => ?_) (fun c2 => ?_)⟩
        · rw [Bool.not_eq_true', decide_eq_false_iff_not] at c2
          refine qF ?_
          cases e : wordB z with
          | false => rfl
          | true =>
            have := wordB_len e
            omega
        · rw [Bool.not_eq_false', decide_eq_true_eq] at c2
          refine ⟨_, rfl, z, rfl, fun D hD => ?_⟩
          refine lc_it walk_str (fun i H' => H' D = some (.lst ((z.cps.toList.take i).map fun c => V.bl (azB c))) ∧ Same H H') ⟨upd_same, same_new hD⟩ (fun _ _ _ _ => trivial) ?_ ?_
          · rintro i x H2 H3 hi ⟨eD, same⟩ ⟨rfl, ch, hch, rfl⟩
            have hch2 : z.cps.toList[i]? = some ch := by rw [Array.getElem?_toList]; exact hch
            have nx : ∀ b : Bool, b = azB ch → ∃ acc, H3 D = some (.lst acc) ∧ acc.length < sizeLine ∧ (upd H3 D (.lst (acc ++ [V.bl b]))) D = some (.lst ((z.cps.toList.take (i + 1)).map fun c => V.bl (azB c))) ∧ Same H (upd H3 D (.lst (acc ++ [V.bl b]))) := by
              rintro b rfl
              refine ⟨_, eD, ?_, ?_, fun b o eb => by rw [upd_ne (ne_of_none eb hD)]; exact same _ _ eb⟩
              · rw [List.length_map, List.length_take]
                have : z.cps.size = z.length := rfl
                exact Nat.lt_of_le_of_lt (by omega : _ ≤ 8) (by decide)
              · rw [upd_same, List.take_add_one, hch2]
                simp
            refine ⟨rfl, _, rfl, _, _, rfl, rfl, _, rfl, ?_⟩
            have e1 : decide ((⟨#[ch]⟩ : Str).cps.toList < (("a" : Str)).cps.toList) = decide (ch < 97) := lt_one ch 97
            have e2 : decide ((("z" : Str)).cps.toList < (⟨#[ch]⟩ : Str).cps.toList) = decide (122 < ch) := lt_one 122 ch
            have ech := az_chain ch
            refine ifb (fun c3 => ?_) (fun c3 => ?_)
            · rw [e1] at c3
              rw [if_pos c3] at ech
              exact ⟨_, _, rfl, rfl, nx _ (by rw [← ech, e2])⟩
            · rw [e1] at c3
              rw [if_neg (by rw [c3]; decide)] at ech
              exact nx _ ech
          · rintro H2 ⟨eD, same⟩
            have eA : (z.cps.toList.take z.cps.size).map (fun c => V.bl (azB c)) = (z.cps.toList.map azB).map V.bl := by
              have : z.cps.toList.length = z.cps.size := Array.length_toList
              rw [List.take_of_length_le (by omega), List.map_map]
              rfl
            rw [eA] at eD
            refine ⟨D, _, rfl, .inl (.inl eD), ?_⟩
            have e : (z.cps.toList.map azB).all id = wordB z := by
              unfold wordB
              have c0 : 1 ≤ z.length := by omega
              rw [decide_eq_true c0, decide_eq_true (by omega : z.length ≤ 8), List.all_map]
              rfl
            have := k H2 same
            rw [← e] at this
            exact this
      · refine ⟨_, rfl, ?_⟩
        refine qF ?_
        cases e : wordB z with
        | false => rfl
        | true =>
          have := wordB_len e
          omega
    · refine ⟨_, rfl, x, _, t, _, false, rfl, .ty _, ty, kt, false, rfl, ?_⟩
      exact q
end
end Ld
namespace Ld
open PySem PySem.Spec PyProof.Rows L2
/-! ### what is never reached -/
theorem ps_never {X : Cx} {st : Stmt} : PS X st (fun _ _ _ => False) := ⟨fun _ _ _ _ _ _ h => False.elim h⟩
/-! ### counts -/
def cD (ps : List (Str × Int)) : List (Key × V) := ps.map fun p => (Sum.inr p.1, V.int p.2)
def ctO (ps : List (Str × Int)) (z : Str) : Option Int := (ps.find? fun p => decide (p.1 = z)).map (·.2)
def ct (ps : List (Str × Int)) (z : Str) : Int := (ctO ps z).getD 0
theorem valV_cD (ps : List (Str × Int)) (z : Str) : valV (cD ps) (Sum.inr z : Key) = (ctO ps z).map V.int := by
  unfold valV ctO cD
  induction ps with
  | nil => rfl
  | cons p r ih =>
    rw [List.map_cons, List.find?_cons, List.find?_cons]
    by_cases h : p.1 = z
    · rw [decide_eq_true (by rw [h] : (Sum.inr p.1 : Key) = Sum.inr z), decide_eq_true h]
      rfl
    · rw [decide_eq_false (fun e => h (Sum.inr.inj e)), decide_eq_false h]
      exact ih
theorem ctO_some {ps : List (Str × Int)} {z : Str} (h : z ∈ ps.map (·.1)) : ctO ps z = some (ct ps z) := by
  unfold ct
  cases e : ctO ps z with
  | some i => rfl
  | none =>
    exfalso
    unfold ctO at e
    rw [Option.map_eq_none_iff, List.find?_eq_none] at e
    obtain ⟨p, hp, rfl⟩ := List.mem_map.mp h
    exact e p hp (decide_eq_true rfl)
theorem ctO_none {ps : List (Str × Int)} {z : Str} (h : z ∉ ps.map (·.1)) : ctO ps z = none := by
  unfold ctO
  rw [Option.map_eq_none_iff, List.find?_eq_none]
  intro p hp e
  exact h (List.mem_map.mpr ⟨p, hp, of_decide_eq_true e⟩)
theorem cD_keys (ps : List (Str × Int)) : (cD ps).map (·.1) = (ps.map (·.1)).map Sum.inr := by
  unfold cD
  rw [List.map_map, List.map_map]
  rfl
theorem cD_len (ps : List (Str × Int)) : (cD ps).length = ps.length := List.length_map ..
theorem cD_put {ps : List (Str × Int)} {z : Str} {i : Int} (h : z ∉ ps.map (·.1)) : putK (cD ps) (Sum.inr z : Key) (.int i) = cD (ps ++ [(z, i)]) := by
  rw [putK_new]
  · unfold cD
    rw [List.map_append]
    rfl
  · rw [valV_cD, ctO_none h]
    rfl
/-- the counts other than 0, in the order of ys -/
def tidy (ps : List (Str × Int)) (ys : List Str) : List (Str × Int) := (ys.map fun z => (z, ct ps z)).filter fun q => q.2 != 0
def spCheck : Sp := fun vs H Q _ => ∃ (a : Addr) (ps : List (Str × Int)), vs = [.ref a] ∧ H a = some (.dK (cD ps)) ∧ (ps.map (·.1)).Nodup ∧ ps.length ≤ 1000 ∧ (∀ p ∈ ps, wordB p.1 = true) ∧
  ∀ H', Same H H' → Q .non H'
def spTidy : Sp := fun vs H Q _ => ∃ (a : Addr) (ps : List (Str × Int)), vs = [.ref a] ∧ H a = some (.dK (cD ps)) ∧ (ps.map (·.1)).Nodup ∧ ps.length ≤ 1000 ∧
  ∀ H' p ys, Same H H' → H p = none → ys.Perm (ps.map (·.1)) → sortedS ys = true → H' p = some (.dK (cD (tidy ps ys))) → Q (.ref p) H'
abbrev sCheck : Stmt := top 15
abbrev sTidy : Stmt := top 16
section
variable {P : Program} {w : World} {K : PySem.W.Frag} {mg : Str → Option Value} {base : Heap}
abbrev nCheck : List Str := ["counts", "kind"]
theorem scCheck : FnScope nCheck ["counts"] (defScope sCheck) := ⟨rfl, rfl, rfl, by decide +kernel, rfl, by decide +kernel, by decide +kernel⟩
theorem scTidy : FnScope nCheck ["counts"] (defScope sTidy) := ⟨rfl, rfl, rfl, by decide +kernel, rfl, by decide +kernel, by decide +kernel⟩
theorem ok_check {f : Addr} {fd : FuncData} (F : Fun K "check_counts" "check_counts" sCheck f fd) (HA : Has P w K mg base 1 "ascending" ["words"] spAsc) (HW : Has P w K mg base 1 "is_word" ["value"] (spIsWord K)) (HI : Has P w K mg base 1 "is_integer" ["value"] (spIsInt K)) :
    FnOk P w K mg base CX0 2 f fd ["counts"] spCheck := by
  obtain ⟨g1, gd1, G1, b1, m1, k1⟩ := HA
  obtain ⟨g2, gd2, G2, b2, m2, k2⟩ := HW
  obtain ⟨g3, gd3, G3, b3, m3, k3⟩ := HI
  refine F.ok scCheck (fun vs H Q E h => ?_) (fun cdv A outer s H vs Q E hr h => ?_)
  · obtain ⟨a, ps, rfl, _⟩ := h
    rfl
  · obtain ⟨a, ps, rfl, ha, nk, hl, hw, k⟩ := h
    have nd : nCheck.Nodup := scCheck.nd
    refine ⟨_, pss_one (ps_for PassesOwn.never rfl (pi_list (pe_call G1 hr (by rfl) m1 k1 b1 .nil pass0 (pa_cons (pv 0) pa_nil))) (pg_name (i := 1) nd rfl (Or.inl rfl))
      (pss_one (ps_if (PW.pt (pw_or (pt_not (pt_truth (pe_call G2 hr (by rfl) m2 k2 b2 .nil pass0 (pa_cons (pv 1) pa_nil)) (fun _ => rfl)))
        (pw_or1 (pt_not (pt_truth (pe_call G3 hr (by rfl) m3 k3 b3 .nil pass0 (pa_cons (pe_dget (hu_of hr) (pv 0) (pv 1) (fun _ _ => rfl)) pa_nil)) (fun _ => rfl)))))) (pss_one ps_never) pss_nil))), ?_⟩
    refine ⟨_, rfl, a, cD ps, ps.map (·.1), rfl, ha, ⟨cD_keys ps, nk⟩, by rw [List.length_map]; exact hl, fun H1 p ys same1 hp0 hp perm srt => ?_⟩
    refine ⟨p, rfl, ⟨_, .inl (.inl hp)⟩, for_list (xs := ys.map V.str) (fun i σ H' => (∃ x, σ = [some (.ref a), x]) ∧ Same H1 H') ⟨⟨_, rfl⟩, fun _ _ e => e⟩ (fun i σ H' _ h => .inl (.inl (h.2 _ _ hp))) ?_ ?_⟩
    · rintro i x σ H2 hx ⟨⟨x0, rfl⟩, same2⟩
      obtain ⟨z, hz, rfl⟩ := List.mem_map.mp (List.mem_of_getElem? hx)
      have hz2 : z ∈ ps.map (·.1) := perm.mem_iff.mp hz
      obtain ⟨q, hq, eq⟩ := List.mem_map.mp hz2
      have hwz : wordB z = true := by rw [← eq]; exact hw q hq
      refine ⟨_, rfl, .str z, rfl, .inl ⟨z, rfl, Nat.le_trans (wordB_len hwz).2 (by decide), fun H3 same3 => ?_⟩⟩
      rw [hwz]
      have ha3 : H3 a = some (.dK (cD ps)) := same3 _ _ (same2 _ _ (same1 _ _ ha))
      refine ⟨true, rfl, ?_⟩
      refine ⟨_, rfl, _, rfl, a, .int (ct ps z), rfl, .inl ⟨cD ps, Sum.inr z, .inl ha3, rfl, ?_⟩, ?_⟩
      · rw [valV_cD, ctO_some hz2]
        rfl
      · exact ⟨.int (ct ps z), .type "int", true, false, rfl, .base (.int _), kit_ty (by decide +kernel), kit_ty (by decide +kernel), true, rfl, ⟨_, rfl⟩, fun b o e => same3 _ _ (same2 _ _ e)⟩
    · rintro σ H2 ⟨⟨x0, rfl⟩, same2⟩
      exact k _ fun b o e => same2 _ _ (same1 _ _ e)
theorem ok_tidy {f : Addr} {fd : FuncData} (F : Fun K "tidy_counts" "tidy_counts" sTidy f fd) (HA : Has P w K mg base 1 "ascending" ["words"] spAsc) :
    FnOk P w K mg base CX0 2 f fd ["counts"] spTidy := by
  obtain ⟨g1, gd1, G1, b1, m1, k1⟩ := HA
  refine F.ok scTidy (fun vs H Q E h => ?_) (fun cdv A outer s H vs Q E hr h => ?_)
  · obtain ⟨a, ps, rfl, _⟩ := h
    rfl
  · obtain ⟨a, ps, rfl, ha, nk, hl, k⟩ := h
    have nd : nCheck.Nodup := scTidy.nd
    refine ⟨_, pss_one (ps_ret (pe_dc (own := [("kind", 1)]) (g := gName 1) rfl nd (pi_list (pe_call G1 hr (by rfl) m1 k1 b1 .nil pass0 (pa_cons (pv 0) pa_nil))) (blkOk_by (N := nCheck) (sc := defScope sTidy) (by decide +kernel))
        (fun _ _ _ _ _ => pg_name (i := 1) nd rfl (Or.inl rfl)) (fun _ _ _ _ _ => pts_one (pt_cmpR op_ne (pe_dget (hu_of hr) (pv 0) (pv 1) (fun _ _ => rfl)) pe_int (nomark _))) (fun _ _ _ _ _ => pv 1) (fun _ _ _ _ _ => pe_dget (hu_of hr) (pv 0) (pv 1) (fun _ _ => rfl)))), ?_⟩
    refine ⟨_, rfl, a, cD ps, ps.map (·.1), rfl, ha, ⟨cD_keys ps, nk⟩, by rw [List.length_map]; exact hl, fun H1 p ys same1 hp0 hp perm srt => ?_⟩
    have ndy : ys.Nodup := perm.nodup_iff.mpr nk
    refine ⟨p, rfl, ⟨_, .inl (.inl hp)⟩, fun D hD => ?_⟩
    refine dc_it (walk_list (xs := ys.map V.str)) (fun i H' => H' D = some (.dK (cD (tidy ps (ys.take i)))) ∧ Same H1 H') ⟨upd_same, same_new hD⟩ (fun i H' _ h => .inl (.inl (h.2 _ _ hp))) ?_ ?_
    · rintro i x H2 H3 hi ⟨eD, same2⟩ ⟨rfl, hx⟩
      rw [List.getElem?_map] at hx
      obtain ⟨z, hz, rfl⟩ : ∃ z, ys[i]? = some z ∧ x = V.str z := by
        cases e : ys[i]? with
        | none => rw [e] at hx; cases hx
        | some z => rw [e] at hx; exact ⟨z, rfl, (Option.some.inj hx).symm⟩
      have hz2 : z ∈ ps.map (·.1) := perm.mem_iff.mp (List.mem_of_getElem? hz)
      have ha3 : H3 a = some (.dK (cD ps)) := same2 _ _ (same1 _ _ ha)
      have hget : DGet H3 a (.str z) (some (.int (ct ps z))) := .inl ⟨cD ps, Sum.inr z, .inl ha3, rfl, by rw [valV_cD, ctO_some hz2]; rfl⟩
      have et : tidy ps (ys.take (i + 1)) = tidy ps (ys.take i) ++ (if ct ps z != 0 then [(z, ct ps z)] else []) := by
        unfold tidy
        rw [List.take_add_one, hz, List.map_append, List.filter_append]
        congr 1
        show List.filter _ [(z, ct ps z)] = _
        rw [List.filter_cons]
        rfl
      refine ⟨rfl, _, rfl, _, rfl, a, _, rfl, hget, rfl, _, rfl, ifb (fun c => ?_) (fun c => ?_)⟩
      · have cz : (ct ps z != 0) = true := by
          rw [bne_iff_ne]
          intro e
          rw [e] at c
          revert c
          decide +kernel
        refine ⟨_, rfl, _, rfl, _, rfl, a, _, rfl, hget, _, Sum.inr z, rfl, eD, ?_, ?_, fun b o eb => by rw [upd_ne (ne_of_none eb hD)]; exact same2 _ _ eb⟩
        · rw [cD_len]
          have h1 : (tidy ps (ys.take i)).length ≤ ys.length := by
            unfold tidy
            refine Nat.le_trans (List.length_filter_le _ _) ?_
            rw [List.length_map, List.length_take]
            omega
          rw [perm.length_eq, List.length_map] at h1
          exact Nat.lt_of_le_of_lt (Nat.le_trans h1 hl) (by decide)
        · rw [upd_same, cD_put, et, if_pos cz]
          intro hm
          obtain ⟨q, hq, e⟩ := List.mem_map.mp hm
          obtain ⟨y, hy, e2⟩ := List.mem_map.mp (List.mem_filter.mp hq).1
          have : y = z := by rw [← e, ← e2]
          exact not_in_take ndy hz (this ▸ hy)
      · have cz : ¬ (ct ps z != 0) = true := by
          rw [Bool.not_eq_false', decide_eq_true_eq] at c
          rw [bne_iff_ne]
          exact fun e => e (V.int.inj c)
        refine ⟨?_, same2⟩
        rw [eD, et, if_neg cz, List.append_nil]
    · rintro H2 ⟨eD, same2⟩
      rw [List.take_of_length_le (by rw [List.length_map]; exact Nat.le_refl _)] at eD
      refine k H2 D ys (fun b o e => same2 _ _ (same1 _ _ e)) ?_ perm srt eD
      cases e : H D with
      | none => rfl
      | some o => rw [same1 _ _ e] at hD; cases hD
end
end Ld
/-! def f(self, **d): called with keywords -/
namespace Ld
open PySem PySem.Spec PyProof.Rows L2
section
variable {prog : Program} {w : World} {A : Around} {E : Value → Shared → Prop} {d : Addr}
theorem kw_nsSet {s : Shared} {es : List DictEntry} {n : Nat} {k : Str} {v : Value} {Q : Unit → Shared → Prop} (D : s.heap.get? d = some (PySem.W.dictOf es n))
    (hs : ∀ e ∈ es, e.key.isStr k = false) (hr : ∀ e ∈ es, e.refKey = false)
    (h : ∀ h', (∀ b o, b ≠ d → s.heap.get? b = some o → h'.get? b = some o) → h'.objs.size = s.heap.objs.size → h'.get? d = some (PySem.W.dictOf (es ++ [⟨PyData.keyHash w.params k, .str k s.toks, v⟩]) (n + 1)) → Q () { s with heap := h', toks := s.toks + 1 }) :
    wpAny (model prog w) A (nsSet d k v) Q E s := by
  have e1 : es.any (·.key.isStr k) = false := by
    cases q : es.any (·.key.isStr k) with
    | false => rfl
    | true => obtain ⟨e, he, z⟩ := List.any_eq_true.mp q; rw [hs e he] at z; cases z
  have e2 : es.any (·.refKey) = false := by
    cases q : es.any (·.refKey) with
    | false => rfl
    | true => obtain ⟨e, he, z⟩ := List.any_eq_true.mp q; rw [hr e he] at z; cases z
  have e : Obj.putName k (PyData.keyHash w.params k) (.str k s.toks) v (PySem.W.dictOf es n) = PySem.W.dictOf (es ++ [⟨PyData.keyHash w.params k, .str k s.toks, v⟩]) (n + 1) := by
    rw [PySem.W.putName_dict, PySem.W.putL_new hs]
    show PySem.W.dictOf _ (if es.any (·.key.isStr k) then n else n + 1) = _
    rw [e1, if_neg Bool.false_ne_true]
  have c : aRefKeyMayBeTheName k es.toArray = false := by
    rw [aRefKeyMayBeTheName_at, ← Array.any_toList, ← Array.any_toList]
    show (!es.any (·.key.isStr k) && es.any (·.refKey)) = false
    rw [e2, Bool.and_false]
  unfold nsSet
  refine wpAny_bind (wpAny_bind (wpAny_askSetting (wpAny_pure (wpAny_bind (wpAny_mkText (wpAny_bind (wpAny_loadPart D ?_)))))))
  dsimp only
  rw [c]
  refine wpAny_updatePart D (h _ (fun b o hb eb => (Heap.get?_update_ne _ _ _ _ hb).trans eb) (Heap.size_update _ _ _) ?_)
  rw [← e]
  exact Heap.get?_update_self _ D (show (Obj.putName k (PyData.keyHash w.params k) (.str k s.toks) v (PySem.W.dictOf es n)).isFreed = false by rw [e]; rfl)
theorem kw_fill {Q : PUnit → Shared → Prop} : ∀ (ex : List (Str × Value)) (s : Shared) (es : List DictEntry) (n : Nat), s.heap.get? d = some (PySem.W.dictOf es n) →
    (∀ e ∈ es, ∀ x ∈ ex, e.key.isStr x.1 = false) → (∀ e ∈ es, e.refKey = false) → (ex.map (·.1)).Nodup →
    (∀ h', (∀ b o, b ≠ d → s.heap.get? b = some o → h'.get? b = some o) → h'.objs.size = s.heap.objs.size → h'.get? d = some (PySem.W.dictOf (es ++ PySem.W.kwEs w.params s.toks ex) (n + ex.length)) → Q ⟨⟩ { s with heap := h', toks := s.toks + ex.length }) →
    wpAny (model prog w) A (forIn ex PUnit.unit fun x _ => (nsSet d x.1 x.2 >>= fun _ => pure (ForInStep.yield PUnit.unit))) Q E s
  | [], s, es, n, D, _, _, _, h => by
    rw [List.forIn_nil]
    refine wpAny_pure (h s.heap (fun _ _ _ e => e) rfl ?_)
    show s.heap.get? d = some (PySem.W.dictOf (es ++ []) n)
    rw [List.append_nil]
    exact D
  | x :: r, s, es, n, D, hs, hr, hn, h => by
    obtain ⟨hn1, hn2⟩ := List.nodup_cons.mp (show (x.1 :: r.map (·.1)).Nodup from hn)
    rw [List.forIn_cons]
    refine wpAny_bind (wpAny_bind (kw_nsSet D (fun e he => hs e he x (.head _)) hr fun h' k1 z1 D' => wpAny_pure ?_))
    show wpAny (model prog w) A (forIn r PUnit.unit fun x _ => (nsSet d x.1 x.2 >>= fun _ => pure (ForInStep.yield PUnit.unit))) Q E { s with heap := h', toks := s.toks + 1 }
    refine kw_fill r { s with heap := h', toks := s.toks + 1 } _ _ D' (fun e he y hy => ?_) (fun e he => ?_) hn2 fun h'' k2 z2 D'' => ?_
    · rcases List.mem_append.mp he with he | he
      · exact hs e he y (.tail _ hy)
      · obtain rfl := List.mem_singleton.mp he
        show (x.1 == y.1) = false
        exact beq_eq_false_iff_ne.mpr fun q => hn1 (by rw [q]; exact List.mem_map_of_mem hy)
    · rcases List.mem_append.mp he with he | he
      · exact hr e he
      · obtain rfl := List.mem_singleton.mp he
        rfl
    · have t1 : s.toks + 1 + r.length = s.toks + (r.length + 1) := by omega
      have t2 : n + 1 + r.length = n + (r.length + 1) := by omega
      show Q ⟨⟩ { s with heap := h'', toks := s.toks + 1 + r.length }
      rw [t1]
      refine h h'' (fun b o hb eb => k2 b o hb (k1 b o hb eb)) (z2.trans z1) ?_
      rw [t2, List.append_assoc] at D''
      exact D''
theorem kwEs_mix {P : Program} {w : World} : ∀ (ex : List (Str × Value)) (t : Tok), Pairs (mixKind P w) (PySem.W.kwEs w.params t ex) (ex.map fun x => ((Sum.inr x.1 : Key), x.2))
  | [], _ => Pairs.nil
  | x :: r, t => Pairs.cons (keyIs_str x.1 t) rfl (kwEs_mix r (t + 1))
theorem kw_isDict {P : Program} {w : World} {ex : List (Str × Value)} (t : Tok) (n : Nat) (hn : (ex.map (·.1)).Nodup) : (PySem.W.dictOf (PySem.W.kwEs w.params t ex) n).IsDictOf (mixKind P w) (ex.map fun x => ((Sum.inr x.1 : Key), x.2)) := by
  refine ⟨(PySem.W.kwEs w.params t ex).toArray, n, ⟨rfl, rfl, rfl⟩, rfl, fun e he => ?_, kwEs_mix ex t, ?_⟩
  · obtain ⟨k, u, hk, hh⟩ := PySem.W.kwEs_key ex t e (List.mem_toArray.mp he)
    exact ⟨Sum.inr k, by rw [hk]; exact keyIs_str k u, hh.trans rfl⟩
  · rw [List.map_map]
    have e : ((fun x : Key × Value => x.1) ∘ fun x : Str × Value => ((Sum.inr x.1 : Key), x.2)) = (fun x : Str × Value => (Sum.inr x.1 : Key)) := rfl
    rw [e]
    have q : ex.map (fun x : Str × Value => (Sum.inr x.1 : Key)) = (ex.map (·.1)).map Sum.inr := by rw [List.map_map]; rfl
    rw [q]
    exact List.Pairwise.map _ (fun a b hab e => hab (Sum.inr.inj e)) hn
end
/-- the dict of the keywords -/
def kwD (ks : List Str) (zs : List V) : List (Key × V) := (ks.zip zs).map fun p => (Sum.inr p.1, p.2)
theorem kwD_rel : ∀ {ks : List Str} {zs : List V} {ws : List Value}, Vals zs ws → KV (kwD ks zs) ((ks.zip ws).map fun x => ((Sum.inr x.1 : Key), x.2))
  | [], _, _, _ => .nil
  | _ :: _, _, _, .nil => .nil
  | k :: ks, _, _, .cons r t => .cons ⟨rfl, r⟩ (kwD_rel t)
theorem zip_fst {α β : Type} : ∀ {ks : List α} {ws : List β}, ws.length = ks.length → (ks.zip ws).map (·.1) = ks
  | [], [], _ => rfl
  | k :: ks, w :: ws, h => by
    show k :: (ks.zip ws).map (·.1) = k :: ks
    rw [zip_fst (by simpa using h)]
  | [], _ :: _, h => by simp at h
  | _ :: _, [], h => by simp at h
section
variable {CX : CXT} {P : Program} {w : World} {K : PySem.W.Frag} {mg : Str → Option Value} {base : Heap} {k : Nat} {f : Addr} {name qual : Str} {params : Arguments} {body : List Stmt} {scope : Scope} {dV kV doc pm cdv ct oc : Value} {an od : Option Addr}
  {osl : Array (Option Value)} {N : List Str} {p1 pd : Str} {ks : List Str} {sp : Sp}
theorem env0_laid' {A : Around} {outer : List Env} {s : Shared} {H : Hp} {u : HO} {h' : Heap} {t : Nat} (e0 : Env0 P w K mg base A outer s H) (kp : ∀ b x, s.heap.get? b = some x → h'.get? b = some x) (hz : s.heap.objs.size ≤ h'.objs.size)
    (new : ObjOk P w (upd H s.heap.objs.size u) h' s.heap.objs.size u) : Env0 P w K mg base A outer { s with heap := h', toks := t } (upd H s.heap.objs.size u) := by
  refine ⟨e0.frames, e0.mod, fun b x e => ⟨kp b x (e0.bs b x e).1, ?_⟩, Nat.le_trans e0.bsz hz, Heap.FunFrames.of_keeps (fun b x e _ => ⟨x, kp b x e, rfl⟩) e0.funs, fun b hb => ?_, e0.hok.laid kp (Nat.le_refl _) new, e0.bare⟩
  · rw [upd_ne (Nat.ne_of_lt (Heap.lt_size (e0.bs b x e).1))]
    exact (e0.bs b x e).2
  · obtain ⟨_, x, hx, _⟩ := e0.funs.mem hb
    rw [upd_ne (Nat.ne_of_lt (Heap.lt_size hx))]
    exact e0.frf b hb
/-- a call with these keywords -/
def FnK (P : Program) (w : World) (K : PySem.W.Frag) (mg : Str → Option Value) (base : Heap) (CX : CXT) (k : Nat) (f : Addr) (ks : List Str) (sp : Sp) : Prop :=
  ∀ (A : Around) (outer : List Env) (s : Shared) (H : Hp) (us ws : List Value) (vs zs : List V) (Q : VK) (E : XK), Room k A → Env0 P w K mg base A outer s H → Vals vs us → Vals zs ws → zs.length = ks.length → sp (vs ++ zs) H Q E →
    codeAny (model P w) A (.call (.ref f) ⟨us, ks.zip ws⟩) (CR CX outer P w H s Q E) s
/-- def f(self, **d) -/
theorem fn_kw (lk : K.lookup f = some ⟨oc, od, .func (PySem.W.fnOf name qual params body scope dV kV doc pm an cdv ct), osl⟩) (hcd : PySem.W.codeIn K cdv qual = true) (S : FnScope N [p1, pd] scope) (hCX : StX.CXUp CX) (nd : ks.Nodup) (hks : ks.length ≤ sizeLine)
    (hb : ∀ (u : Value) (ws : List Value), ws.length = ks.length → bindArgs (PySem.W.fnOf name qual params body scope dV kV doc pm an cdv ct) ⟨[u], ks.zip ws⟩ =
      ((alloc (PySem.W.dictOf [] 0) : Sem Addr) >>= fun d => (forIn (ks.zip ws) PUnit.unit fun x _ => (nsSet d x.1 x.2 >>= fun _ => pure (ForInStep.yield PUnit.unit))) >>= fun _ => pure [(p1, u), (pd, Value.ref d)]))
    (hbody : ∀ (A : Around) (outer : List Env) (s : Shared) (H : Hp) (vs : List V) (Q : VK) (E : XK), Room k (A.deeper (envOfC qual scope s.heap.objs.size f cdv)) → sp vs H Q E →
      ∃ t, PSs (cxOf CX P w K mg base N qual scope f cdv A outer s H E) body t ∧ t { nx := fun _ H' => Q .non H', rt := Q } (start N vs) H) :
    FnK P w K mg base CX (k + 1) f ks (fun vs H Q E => ∃ v zs, vs = v :: zs ∧ zs.length = ks.length ∧ ∀ d, H d = Option.none → sp [v, V.ref d] (upd H d (.dK (kwD ks zs))) Q E) := by
  intro A outer s H us ws vs zs Q E hr e0 r rz hz hsp
  obtain ⟨v, zs', ev, hl, hq⟩ := hsp
  have hn : H s.heap.objs.size = Option.none := e0.hok.fresh (Nat.le_refl _)
  obtain ⟨e1, e2⟩ : vs = [v] ∧ zs = zs' := by
    have q : zs.length = zs'.length := hz.trans hl.symm
    cases vs with
    | nil =>
      exfalso
      have := congrArg List.length ev
      simp at this
      omega
    | cons x r' =>
      have h1 : x = v := (List.cons.inj ev).1
      have h2 : r' ++ zs = zs' := (List.cons.inj ev).2
      have h3 := congrArg List.length h2
      rw [List.length_append] at h3
      have h4 : r' = [] := List.length_eq_zero_iff.mp (by omega)
      rw [h4] at h2 ⊢
      exact ⟨by rw [h1], h2⟩
  subst e1
  subst e2
  obtain ⟨u, rfl, ru⟩ := vals1 r
  have hl2 : ws.length = ks.length := by rw [← rz.length]; exact hz
  refine StX.run_bnd lk hcd S hr e0 (G := fun xs H2 => ∃ d, H d = Option.none ∧ xs = [v, V.ref d] ∧ H2 = upd H d (.dK (kwD ks zs))) (fun A' Ex Q' h => ?_) fun s2 H2 xs ⟨d, hd, ex, eH⟩ hr' => ?_
  · rw [hb u ws hl2]
    refine wpAny_bind (wpAny_alloc (wpAny_bind ?_))
    refine kw_fill (ks.zip ws) _ [] 0 (Heap.get?_push_size _ rfl) (fun _ he => nomatch he) (fun _ he => nomatch he) (by rw [zip_fst hl2]; exact nd) fun h' kp hz' D => wpAny_pure ?_
    have kp' : ∀ b x, s.heap.get? b = some x → h'.get? b = some x := fun b x e => kp b x (Nat.ne_of_lt (Heap.lt_size e)) (Heap.get?_push_of_some _ e)
    have hsz : s.heap.objs.size ≤ h'.objs.size := by rw [hz']; show _ ≤ (s.heap.push _).objs.size; rw [Heap.size_push]; exact Nat.le_succ _
    have hm : (s.heap.objs.size == sysModules) = false := beq_eq_false_iff_ne.mpr (Ne.symm (Nat.ne_of_lt (StX.env0_big e0)))
    have new : ObjOk P w (upd H s.heap.objs.size (.dK (kwD ks zs))) h' s.heap.objs.size (.dK (kwD ks zs)) := by
      refine ⟨?_, hm, _, kwD_rel rz, Heap.dictOf_iff.mpr ⟨_, D, kw_isDict s.toks _ (by rw [zip_fst hl2]; exact nd)⟩⟩
      unfold kwD
      rw [List.length_map, List.length_zip]
      omega
    exact h { s with heap := h', toks := s.toks + (ks.zip ws).length } (upd H s.heap.objs.size (.dK (kwD ks zs))) [v, V.ref s.heap.objs.size] [u, Value.ref s.heap.objs.size] (env0_laid' (s := s) e0 kp' hsz new) (Un.laid (h := s.heap) kp' (Nat.le_refl _) hn) rfl
      (fun e s' => hCX outer s H _ _ E e s' (Un.laid (h := s.heap) kp' (Nat.le_refl _) hn) kp' rfl) (.cons ru (.cons rfl .nil)) rfl ⟨_, hn, rfl, rfl⟩
  · subst ex eH
    exact hbody A outer s2 _ _ Q E hr' (hq d hd)
end
end Ld
namespace Ld
open PySem PySem.Spec PyProof.Rows L2
/-! ### C(k = v, ..) by a promise of keywords -/
def tMakeQ (C : Addr) (m : Nat) (sp : Sp) (E : XK) (tk : TA) : TE := fun σ H Q => tk σ H fun zs H2 => zs.length = m ∧ ∀ x dx, H2 x = Option.none → H2 dx = Option.none → dx ≠ x →
  sp (V.ref x :: zs) (upd (upd H2 dx (.own x)) x (.ins C dx [])) (fun v H3 => v = .non ∧ Q (.ref x) H3) E
section
variable {X : Cx} {CX : CXT} {k n : Nat} {f C : Addr} {ks : List Str} {sp : Sp} {E : XK} {x : Str} {p pos : Pos} {kws : List Keyword} {tk : TA}
theorem run_makeQ {pins : List (Addr × Obj)} {σ : L2.St} {H : Hp} {s : Shared} {Q : VK} {ws : List Value} {zs : List V} (M : Mk X.K C f) (F : FnK X.prog X.w X.K X.mg X.base CX k f ks sp) (hr : Room (k + 1) X.A) (hx : Passes CX X E)
    (I : Inv X pins σ H s) (rz : Vals zs ws) (l2 : zs.length = ks.length)
    (h : ∀ x dx, H x = Option.none → H dx = Option.none → dx ≠ x → sp (V.ref x :: zs) (upd (upd H dx (.own x)) x (.ins C dx [])) (fun v H2 => v = .non ∧ Q (.ref x) H2) E) :
    wpAny (model X.prog X.w) X.A (call (.ref C) [] (ks.zip ws)) (EP X pins σ Q) X.xe s := by
  have hq := h (s.heap.objs.size + 1) s.heap.objs.size (I.hok.fresh (Nat.le_succ _)) (I.hok.fresh (Nat.le_refl _)) (Nat.ne_of_lt (Nat.lt_succ_self _))
  have I2 := Inv.made (C := C) I
  refine wpAny_call (make_map (f := f) I.kIn M.makes M.init (beq_iff_eq.mp M.fn) (codeAny_mono (F _ X.stack _ _ [Value.ref (s.heap.objs.size + 1)] ws [V.ref (s.heap.objs.size + 1)] zs _ E (hr.make C [] (ks.zip ws))
    (I2.env0.make C [] (ks.zip ws)) (.cons rfl .nil) rz l2 hq) fun r s' hq' => ?_))
  cases r with
  | error e => exact hx pins σ _ _ e s' I2 hq'
  | ok fl =>
    cases fl with
    | ret u =>
      obtain ⟨v, H', I3, rv, ev, q3⟩ := I2.after hq'
      subst ev
      exact ⟨rv, ⟨V.ref (s.heap.objs.size + 1), H', I3, rfl, q3⟩⟩
    | next => exact False.elim hq'
    | brk => exact False.elim hq'
    | cont => exact False.elim hq'
theorem pe_makeQ0 (M : Mk X.K C f) (F : FnK X.prog X.w X.K X.mg X.base CX k f [] sp) (hr : Room (k + 1) X.A) (hg : Gl X x) (hm : X.mg x = some (.ref C)) (hx : Passes CX X E)
    (hdb : (x == ("__debug__" : Str)) = false := by decide) : PE X (.Call (.Name x p) [] [] pos) (tMakeQ C 0 sp E tNil) := by
  refine ⟨fun pins s σ H Q I h => ?_⟩
  refine wpAny_Call_Name_kw (ld_glob I hg hm ?_ hdb)
  exact PySem.W.callWith_K0 I.kIn M.kp (run_makeQ (ws := []) (zs := []) M F hr hx I .nil rfl h.2)
theorem pe_makeQ (M : Mk X.K C f) (F : FnK X.prog X.w X.K X.mg X.base CX k f ks sp) (hr : Room (k + 1) X.A) (hg : Gl X x) (hm : X.mg x = some (.ref C)) (hx : Passes CX X E) (hkw : PK X kws tk)
    (hall : (backToKw pos (keywordEach kws X.env)).all (·.1.isSome) = true := by rfl) (hks : (backToKw pos (keywordEach kws X.env)).filterMap (·.1) = ks := by rfl) (hdb : (x == ("__debug__" : Str)) = false := by decide)
    (hpl : ((backTo pos (starEach [] X.env)).any (·.1) || (backToKw pos (keywordEach kws X.env)).any (·.1.isNone)) = false := by rfl) :
    PE X (.Call (.Name x p) [] kws pos) (tMakeQ C ks.length sp E tk) := by
  refine ⟨fun pins s σ H Q I h => ?_⟩
  refine wpAny_Call_Name_kw (ld_glob I hg hm ?_ hdb)
  refine PySem.W.callWith_KW0 (h₀ := X.base) I.ok.mod.kin M.kp hall ?_ hpl
  refine thn (hkw.run pos pins s σ H _ I h) fun ws s2 ⟨zs, H2, I2, rz, l2, q2⟩ => ⟨I2.kIn, ?_⟩
  rw [hks]
  exact run_makeQ M F hr hx I2 rz l2 q2
end
theorem okK {P : Program} {w : World} {K : PySem.W.Frag} {mg : Str → Option Value} {base : Heap} {x qual : Str} {st : Stmt} {f : Addr} {fd : FuncData} {N : List Str} {p1 pd : Str} {k : Nat} {ks : List Str} {sp : Sp} (F : Fun K x qual st f fd) (S : FnScope N [p1, pd] (defScope st)) (nd : ks.Nodup) (hks : ks.length ≤ sizeLine)
    (hb : ∀ (kV doc pm : Value) (an : Option Addr) (cdv ct : Value) (u : Value) (ws : List Value), ws.length = ks.length → bindArgs (PySem.W.fnOf x qual (defArgs st) (defBody st) (defScope st) .none kV doc pm an cdv ct) ⟨[u], ks.zip ws⟩ =
      ((alloc (PySem.W.dictOf [] 0) : Sem Addr) >>= fun d => (forIn (ks.zip ws) PUnit.unit fun x _ => (nsSet d x.1 x.2 >>= fun _ => pure (ForInStep.yield PUnit.unit))) >>= fun _ => pure [(p1, u), (pd, Value.ref d)]))
    (hbody : ∀ (cdv : Value) (A : Around) (outer : List Env) (s : Shared) (H : Hp) (vs : List V) (Q : VK) (E : XK), Room k (A.deeper (envOfC qual (defScope st) s.heap.objs.size f cdv)) → sp vs H Q E →
      ∃ t, PSs (cxOf CX0 P w K mg base N qual (defScope st) f cdv A outer s H E).nox (defBody st) t ∧ t { nx := fun _ H' => Q .non H', rt := Q } (start N vs) H) :
    FnK P w K mg base CX0 (k + 1) f ks (fun vs H Q E => ∃ v zs, vs = v :: zs ∧ zs.length = ks.length ∧ ∀ d, H d = Option.none → sp [v, V.ref d] (upd H d (.dK (kwD ks zs))) Q E) := by
  obtain ⟨oc, od, kV, doc, pm, an, cdv, ct, osl, rfl, lk, hcd⟩ := F.ex
  refine fn_kw lk hcd S StX.cxUp_none nd hks (hb kV doc pm an cdv ct) fun A outer s H vs Q E hr hsp => ?_
  obtain ⟨t, h, q⟩ := hbody cdv A outer s H vs Q E hr hsp
  exact ⟨t, h.nox, q⟩
abbrev sInit : Stmt := inClass (top 14) 0
example (kV doc pm : Value) (an : Option Addr) (cdv ct : Value) (u : Value) : bindArgs (PySem.W.fnOf "__init__" "Load.__init__" (defArgs sInit) (defBody sInit) (defScope sInit) .none kV doc pm an cdv ct) ⟨[u], ([] : List Str).zip []⟩ =
      ((alloc (PySem.W.dictOf [] 0) : Sem Addr) >>= fun d => (forIn (([] : List Str).zip []) PUnit.unit fun x _ => (nsSet d x.1 x.2 >>= fun _ => pure (ForInStep.yield PUnit.unit))) >>= fun _ => pure [(("self" : Str), u), (("counts" : Str), Value.ref d)]) := rfl
example (kV doc pm : Value) (an : Option Addr) (cdv ct : Value) (u a : Value) : bindArgs (PySem.W.fnOf "__init__" "Load.__init__" (defArgs sInit) (defBody sInit) (defScope sInit) .none kV doc pm an cdv ct) ⟨[u], (["a"] : List Str).zip [a]⟩ =
      ((alloc (PySem.W.dictOf [] 0) : Sem Addr) >>= fun d => (forIn ((["a"] : List Str).zip [a]) PUnit.unit fun x _ => (nsSet d x.1 x.2 >>= fun _ => pure (ForInStep.yield PUnit.unit))) >>= fun _ => pure [(("self" : Str), u), (("counts" : Str), Value.ref d)]) := rfl
end Ld
namespace Ld
open PySem PySem.Spec PyProof.Rows L2
/-! ### texts in order -/
def leS (a b : Str) : Prop := a.cps.toList ≤ b.cps.toList
theorem rising_pw : ∀ {p : Str} {l : List Str}, risingS p l = true → (p :: l).Pairwise leS
  | p, [], _ => List.pairwise_singleton _ _
  | p, x :: r, h => by
    rw [risingS, Bool.and_eq_true, Bool.not_eq_true', ltCps_eq, decide_eq_false_iff_not] at h
    have ih := rising_pw h.2
    have h1 : leS p x := h.1
    refine List.pairwise_cons.mpr ⟨fun y hy => ?_, ih⟩
    rcases List.mem_cons.mp hy with e | hy
    · rw [e]
      exact h1
    · exact List.le_trans h1 ((List.pairwise_cons.mp ih).1 y hy)
theorem sorted_pw {l : List Str} (h : sortedS l = true) : l.Pairwise leS := by
  cases l with
  | nil => exact List.Pairwise.nil
  | cons x r => exact rising_pw h
theorem pw_sorted {l : List Str} (h : l.Pairwise leS) : sortedS l = true := by
  refine sortedS_of_pairwise l (h.imp fun {a b} q => ?_)
  rw [ltCps_eq, decide_eq_false_iff_not]
  exact q
theorem sorted_eq {l m : List Str} (p : l.Perm m) (h1 : sortedS l = true) (h2 : sortedS m = true) : l = m :=
  List.Perm.eq_of_pairwise (le := leS) (fun a b _ _ x y => by
    have e : a.cps.toList = b.cps.toList := List.le_antisymm x y
    cases a
    cases b
    have e2 := Array.toList_inj.mp e
    exact congrArg _ e2) (sorted_pw h1) (sorted_pw h2) p
/-! ### counts as a load holds them -/
structure Can (ps : List (Str × Int)) : Prop where
  nd : (ps.map (·.1)).Nodup
  srt : sortedS (ps.map (·.1)) = true
  nz : ∀ p ∈ ps, p.2 ≠ 0
  wd : ∀ p ∈ ps, wordB p.1 = true
  few : ps.length ≤ 1000
theorem ct_mem {ps : List (Str × Int)} (nd : (ps.map (·.1)).Nodup) {p : Str × Int} (hp : p ∈ ps) : ct ps p.1 = p.2 := by
  have h := ctO_some (List.mem_map.mpr ⟨p, hp, rfl⟩ : p.1 ∈ ps.map (·.1))
  unfold ctO at h
  rw [Option.map_eq_some_iff] at h
  obtain ⟨q, hq, e⟩ := h
  have q1 := List.find?_some hq
  rw [decide_eq_true_eq] at q1
  have q2 := List.mem_of_find?_eq_some hq
  rw [← e]
  obtain ⟨i, hi, ei⟩ := List.getElem_of_mem hp
  obtain ⟨j, hj, ej⟩ := List.getElem_of_mem q2
  have : j = i := by
    have h1 : (ps.map (·.1))[j]'(by rw [List.length_map]; exact hj) = (ps.map (·.1))[i]'(by rw [List.length_map]; exact hi) := by
      rw [List.getElem_map, List.getElem_map, ei, ej]
      exact q1
    exact (List.getElem_inj nd).mp h1
  subst this
  rw [← ei, ← ej]
theorem ct_out {ps : List (Str × Int)} {z : Str} (h : z ∉ ps.map (·.1)) : ct ps z = 0 := by
  unfold ct
  rw [ctO_none h]
  rfl
theorem ct_in {ps : List (Str × Int)} {z : Str} (h : ct ps z ≠ 0) : z ∈ ps.map (·.1) := Classical.byContradiction fun n => h (ct_out n)
theorem tidy_mem {ps : List (Str × Int)} {ys : List Str} {q : Str × Int} : q ∈ tidy ps ys ↔ q.1 ∈ ys ∧ q.2 = ct ps q.1 ∧ q.2 ≠ 0 := by
  unfold tidy
  rw [List.mem_filter, List.mem_map, bne_iff_ne]
  constructor
  · rintro ⟨⟨z, hz, rfl⟩, n⟩
    exact ⟨hz, rfl, n⟩
  · rintro ⟨h1, h2, h3⟩
    exact ⟨⟨q.1, h1, by rw [← h2]⟩, h3⟩
theorem tidy_keys (ps : List (Str × Int)) (ys : List Str) : (tidy ps ys).map (·.1) = ys.filter (fun z => ct ps z != 0) := by
  unfold tidy
  induction ys with
  | nil => rfl
  | cons y r ih =>
    rw [List.map_cons, List.filter_cons, List.filter_cons]
    cases e : (ct ps y != 0) with
    | true =>
      show ((y, ct ps y) :: _).map _ = _
      rw [List.map_cons, ih]
      rfl
    | false => exact ih
theorem tidy_can {ps : List (Str × Int)} {ys : List Str} (nd : (ps.map (·.1)).Nodup) (wd : ∀ p ∈ ps, wordB p.1 = true) (few : ps.length ≤ 1000) (perm : ys.Perm (ps.map (·.1))) (srt : sortedS ys = true) : Can (tidy ps ys) ∧ ∀ z, ct (tidy ps ys) z = ct ps z := by
  have ndy : ys.Nodup := perm.nodup_iff.mpr nd
  have ndt : ((tidy ps ys).map (·.1)).Nodup := by
    rw [tidy_keys]
    exact ndy.filter _
  refine ⟨⟨ndt, ?_, fun p hp => (tidy_mem.mp hp).2.2, fun p hp => ?_, ?_⟩, fun z => ?_⟩
  · rw [tidy_keys]
    exact pw_sorted ((sorted_pw srt).filter _)
  · have h := perm.mem_iff.mp (tidy_mem.mp hp).1
    obtain ⟨q, hq, e⟩ := List.mem_map.mp h
    rw [← e]
    exact wd q hq
  · have h1 : (tidy ps ys).length ≤ ys.length := by
      unfold tidy
      refine Nat.le_trans (List.length_filter_le _ _) ?_
      rw [List.length_map]
      exact Nat.le_refl _
    rw [perm.length_eq, List.length_map] at h1
    exact Nat.le_trans h1 few
  · by_cases h : ct ps z = 0
    · rw [h]
      refine ct_out fun hm => ?_
      obtain ⟨q, hq, e⟩ := List.mem_map.mp hm
      have := tidy_mem.mp hq
      rw [e, h] at this
      exact this.2.2 this.2.1
    · have hz := perm.mem_iff.mpr (ct_in h)
      exact ct_mem ndt (tidy_mem.mpr ⟨hz, rfl, h⟩ : (z, ct ps z) ∈ tidy ps ys)
/-- two loads with the same counts are the same -/
theorem can_eq {ps qs : List (Str × Int)} (a : Can ps) (b : Can qs) (h : ∀ z, ct ps z = ct qs z) : ps = qs := by
  have key : ∀ {ps qs : List (Str × Int)}, Can ps → Can qs → (∀ z, ct ps z = ct qs z) → ∀ z, z ∈ ps.map (·.1) → z ∈ qs.map (·.1) := fun a b h z hz => by
    obtain ⟨p, hp, e⟩ := List.mem_map.mp hz
    refine ct_in ?_
    rw [← h z, ← e, ct_mem a.nd hp]
    exact a.nz p hp
  have ek : ps.map (·.1) = qs.map (·.1) := by
    refine sorted_eq ?_ a.srt b.srt
    exact (List.perm_ext_iff_of_nodup a.nd b.nd).mpr fun z => ⟨key a b h z, key b a (fun z => (h z).symm) z⟩
  have val : ∀ {ps : List (Str × Int)}, Can ps → ps = (ps.map (·.1)).map fun z => (z, ct ps z) := fun {ps} a => by
    rw [List.map_map]
    conv => lhs; rw [← List.map_id ps]
    refine List.map_congr_left fun p hp => ?_
    show p = (p.1, ct ps p.1)
    rw [ct_mem a.nd hp]
  rw [val a, val b, ek]
  exact List.map_congr_left fun z _ => by rw [h z]
end Ld
namespace Ld
open PySem PySem.Spec PyProof.Rows L2
/-- a load with these counts -/
def LoadAt (C : Addr) (H : Hp) (x : Addr) (ps : List (Str × Int)) : Prop := ∃ dx t, H x = some (.ins C dx [("_counts", .ref t)]) ∧ H t = some (.dK (cD ps)) ∧ Can ps
theorem LoadAt.same {C : Addr} {H H' : Hp} {x : Addr} {ps : List (Str × Int)} (h : LoadAt C H x ps) (s : Same H H') : LoadAt C H' x ps := by
  obtain ⟨dx, t, h1, h2, c⟩ := h
  exact ⟨dx, t, s _ _ h1, s _ _ h2, c⟩
/-- what of the text the class must have -/
structure LoadC (K : PySem.W.Frag) (mg : Str → Option Value) (C fi : Addr) : Prop where
  c : Cls K C
  nc : NoAttr K C "_counts"
  mkC : Mk K C fi
  gC : mg "Load" = some (.ref C)
abbrev sOf : Stmt := inClass (top 14) 1
/-- counts that a load can be made of -/
structure Ok (H : Hp) (a : Addr) (ps : List (Str × Int)) : Prop where
  at_ : H a = some (.dK (cD ps))
  nd : (ps.map (·.1)).Nodup
  few : ps.length ≤ 1000
  wd : ∀ p ∈ ps, wordB p.1 = true
def spInitB (C : Addr) : Sp := fun vs H Q _ => ∃ (x dx d : Addr) (ps : List (Str × Int)) (fs : List (Str × V)), vs = [.ref x, .ref d] ∧ H x = some (.ins C dx fs) ∧ fs.length < 10 ∧ Ok H d ps ∧
  ∀ (H' : Hp) (t : Addr) (ps' : List (Str × Int)), (∀ b o, b ≠ x → H b = some o → H' b = some o) → H' x = some (.ins C dx (putF "_counts" (.ref t) fs)) → H' t = some (.dK (cD ps')) → Can ps' → (∀ z, ct ps' z = ct ps z) → Q .non H'
def spKw (ks : List Str) (sp : Sp) : Sp := fun vs H Q E => ∃ v zs, vs = v :: zs ∧ zs.length = ks.length ∧ ∀ d, H d = Option.none → sp [v, V.ref d] (upd H d (.dK (kwD ks zs))) Q E
def spOf (C : Addr) : Sp := fun vs H Q _ => ∃ (c : V) (a : Addr) (ps : List (Str × Int)), vs = [c, .ref a] ∧ Ok H a ps ∧
  ∀ (H' : Hp) (x : Addr) (ps' : List (Str × Int)), Same H H' → H x = none → LoadAt C H' x ps' → (∀ z, ct ps' z = ct ps z) → Q (.ref x) H'
section
variable {P : Program} {w : World} {K : PySem.W.Frag} {mg : Str → Option Value} {base : Heap} {C fi : Addr}
theorem scInit : FnScope ["self", "counts"] ["self", "counts"] (defScope sInit) := ⟨rfl, rfl, rfl, by decide +kernel, rfl, by decide +kernel, by decide +kernel⟩
theorem init_body {f : Addr} {cdv : Value} {A : Around} {outer : List Env} {s : Shared} {H : Hp} {vs : List V} {Q : VK} {E : XK} (T : LoadC K mg C fi) (HC : Has P w K mg base 2 "check_counts" ["counts"] spCheck) (HT : Has P w K mg base 2 "tidy_counts" ["counts"] spTidy)
    (hr : Room 2 (A.deeper (envOfC "Load.__init__" (defScope sInit) s.heap.objs.size f cdv))) (h : spInitB C vs H Q E) :
    ∃ t, PSs (cxOf CX0 P w K mg base ["self", "counts"] "Load.__init__" (defScope sInit) f cdv A outer s H E).nox (defBody sInit) t ∧ t { nx := fun _ H' => Q .non H', rt := Q } (L2.start ["self", "counts"] vs) H := by
  obtain ⟨g1, gd1, G1, b1, m1, k1⟩ := HC
  obtain ⟨g2, gd2, G2, b2, m2, k2⟩ := HT
  obtain ⟨x, dx, d, ps, fs, rfl, hx, hl, ok, k⟩ := h
  refine ⟨_, pss_cons (ps_expr (pe_call G1 hr (by rfl) m1 k1 b1 .nil pass0 (pa_cons (pv 1) pa_nil)))
    (pss_one (ps_fld (pv 0) (pe_call G2 hr (by rfl) m2 k2 b2 .nil pass0 (pa_cons (pv 1) pa_nil)) rfl)), ?_⟩
  refine ⟨_, rfl, d, ps, rfl, ok.at_, ok.nd, ok.few, ok.wd, fun H1 same1 => ?_⟩
  refine ⟨_, rfl, d, ps, rfl, same1 _ _ ok.at_, ok.nd, ok.few, fun H2 t ys same2 ht0 perm srt ht => ?_⟩
  have hx2 : H2 x = some (.ins C dx fs) := same2 _ _ (same1 _ _ hx)
  have ntx : t ≠ x := (ne_of_none (same1 _ _ hx) ht0).symm
  obtain ⟨can, cts⟩ := tidy_can ok.nd ok.wd ok.few perm srt
  refine ⟨_, rfl, x, C, dx, fs, rfl, hx2, T.c, T.nc, Nat.lt_trans hl (by decide), ?_⟩
  exact k _ t (tidy ps ys) (fun b o nb eb => by rw [upd_ne nb]; exact same2 _ _ (same1 _ _ eb)) upd_same (by rw [upd_ne ntx]; exact ht) can cts
theorem ok_init0 {f : Addr} {fd : FuncData} (F : Fun K "__init__" "Load.__init__" sInit f fd) (T : LoadC K mg C f) (HC : Has P w K mg base 2 "check_counts" ["counts"] spCheck) (HT : Has P w K mg base 2 "tidy_counts" ["counts"] spTidy) :
    FnK P w K mg base CX0 3 f [] (spKw [] (spInitB C)) :=
  okK F scInit (by decide) (Nat.zero_le _) (fun _ _ _ _ _ _ u ws hw => match ws, hw with | [], _ => rfl) fun cdv A outer s H vs Q E hr h => init_body T HC HT hr h
theorem ok_init1 {f : Addr} {fd : FuncData} {y : Str} (F : Fun K "__init__" "Load.__init__" sInit f fd) (T : LoadC K mg C f) (HC : Has P w K mg base 2 "check_counts" ["counts"] spCheck) (HT : Has P w K mg base 2 "tidy_counts" ["counts"] spTidy)
    (hy : ∀ (kV doc pm : Value) (an : Option Addr) (cdv ct : Value) (u a : Value), bindArgs (PySem.W.fnOf "__init__" "Load.__init__" (defArgs sInit) (defBody sInit) (defScope sInit) .none kV doc pm an cdv ct) ⟨[u], [y].zip [a]⟩ =
      ((alloc (PySem.W.dictOf [] 0) : Sem Addr) >>= fun d => (forIn ([y].zip [a]) PUnit.unit fun x _ => (nsSet d x.1 x.2 >>= fun _ => pure (ForInStep.yield PUnit.unit))) >>= fun _ => pure [(("self" : Str), u), (("counts" : Str), Value.ref d)])) :
    FnK P w K mg base CX0 3 f [y] (spKw [y] (spInitB C)) :=
  okK F scInit (List.pairwise_singleton _ _) (by show 1 ≤ sizeLine; decide) (fun _ _ _ _ _ _ u ws hw => match ws, hw with | [a], _ => hy _ _ _ _ _ _ u a) fun cdv A outer s H vs Q E hr h => init_body T HC HT hr h
abbrev nOf : List Str := ["cls", "counts", "load", "kind"]
theorem scOf : FnScope nOf ["cls", "counts"] (defScope sOf) := ⟨rfl, rfl, rfl, by decide +kernel, rfl, by decide +kernel, by decide +kernel⟩
theorem ok_of {f : Addr} {fd : FuncData} (F : Fun K "of" "Load.of" sOf f fd) (T : LoadC K mg C fi) (B : Blt2 mg) (FI : FnK P w K mg base CX0 3 fi [] (spKw [] (spInitB C)))
    (HC : Has P w K mg base 2 "check_counts" ["counts"] spCheck) (HT : Has P w K mg base 2 "tidy_counts" ["counts"] spTidy) : FnOk P w K mg base CX0 5 f fd ["cls", "counts"] (spOf C) := by
  obtain ⟨g1, gd1, G1, b1, m1, k1⟩ := HC
  obtain ⟨g2, gd2, G2, b2, m2, k2⟩ := HT
  refine F.ok scOf (fun vs H Q E h => ?_) (fun cdv A outer s H vs Q E hr h => ?_)
  · obtain ⟨c, a, ps, rfl, _⟩ := h
    rfl
  · obtain ⟨c, a, ps, rfl, ok, k⟩ := h
    have hr2 : Room 2 _ := hr.mono (by decide)
    have nd : nOf.Nodup := scOf.nd
    refine ⟨_, pss_cons (ps_if (PW.pt (pw_or (pt_not (pt_truth (pe_callB call_isi (by rfl) B.isi bIsi (pa_cons (pv 1) (pa_cons (pe_bltn (v := .ty "dict") (by rfl) B.dict (by decide +kernel) rfl) pa_nil))) (fun _ => rfl)))
        (pw_or1 (pt_not (pt_truth (pe_callB (cr_all rfl) (by rfl) B.all bAll (pa_cons (pe_lock (pe_lc (own := [("kind", 3)]) (g := gName 3) (tt := tYes) rfl nd (pi_keys (pv 1)) (blkOk_by (N := nOf) (sc := defScope sOf) (by decide +kernel))
          (fun _ _ _ _ _ => pg_name (i := 3) nd rfl (Or.inl rfl)) (fun _ _ _ _ _ => pts_nil) (fun _ _ _ _ _ => pe_callB (r := rIsi K) call_isi (by rfl) B.isi bIsi (pa_cons (pv 3) (pa_cons (pe_bltn (v := .ty "str") (by rfl) B.str bStr0 rfl) pa_nil))))) pa_nil)) (fun _ => rfl)))))) (pss_one ps_never) pss_nil)
      (pss_cons (ps_expr (pe_call G1 hr2 (by rfl) m1 k1 b1 .nil pass0 (pa_cons (pv 1) pa_nil)))
      (pss_cons (ps_set (i := 2) nd rfl (Or.inl rfl) (pe_makeQ0 T.mkC FI hr (by rfl) T.gC pass0))
      (pss_cons (ps_fld (pv 2) (pe_call G2 hr2 (by rfl) m2 k2 b2 .nil pass0 (pa_cons (pv 1) pa_nil)) rfl)
      (pss_one (ps_ret (pv 2)))))), ?_⟩
    -- the test
    refine seq_step (fun σ' H' => σ' = [some c, some (.ref a), none, none] ∧ Same H H') (fun R hR => ?_) (fun σ1 H1 h1 => ?_)
    · refine ⟨_, rfl, .ref a, _, _, _, true, rfl, .ty _, .base (.dK ok.at_), kit_ty (by decide +kernel), true, rfl, ?_⟩
      refine ⟨a, _, ok.at_, trivial, fun od => ⟨_, rfl, a, od, rfl, .inl ⟨cD ps, upd_same, fun D hD => ?_⟩⟩⟩
      have nDa : D ≠ a := fun e => by rw [e, upd_same] at hD; cases hD
      have hD0 : H D = none := by rw [upd_ne nDa] at hD; exact hD
      refine lc_it (walk_keys (d := a) (o := od) (kvs := cD ps)) (fun i H' => H' D = some (.lst ((List.replicate i true).map V.bl)) ∧ H' a = some (.frz od (.dK (cD ps))) ∧ ∀ b o, H b = some o → b ≠ a → H' b = some o)
        ⟨upd_same, by rw [upd_ne nDa.symm, upd_same], fun b o eb nb => by rw [upd_ne (ne_of_none eb hD0), upd_ne nb]; exact eb⟩ (fun i H' _ h => h.2.1) ?_ ?_
      · rintro i x H2 H3 hi ⟨eD, ea, keep⟩ ⟨rfl, key, v, hkv, rfl⟩
        obtain ⟨z, rfl, hz⟩ := keysOf.at (kvs := cD ps) (ks := ps.map (·.1)) ⟨cD_keys ps, ok.nd⟩ hkv
        refine ⟨rfl, _, rfl, .str z, _, _, _, true, rfl, .ty _, .base (.str z), kit_ty (by decide +kernel), _, eD, ?_, ?_, by rw [upd_ne nDa.symm]; exact ea, fun b o eb nb => by rw [upd_ne (ne_of_none eb hD0)]; exact keep b o eb nb⟩
        · rw [List.length_map, List.length_replicate]
          rw [cD_len] at hi
          exact Nat.lt_of_lt_of_le hi (Nat.le_trans ok.few (by decide))
        · rw [upd_same, List.replicate_succ', List.map_append]
          rfl
      · rintro H2 ⟨eD, ea, keep⟩
        refine ⟨ea, D, _, rfl, .inl (.inl (by rw [upd_ne nDa]; exact eD)), ?_⟩
        have e : (List.replicate (cD ps).length true).all id = true := by
          rw [List.all_eq_true]
          intro b hb
          exact List.eq_of_mem_replicate hb
        rw [e]
        refine ⟨true, rfl, ?_⟩
        refine hR _ _ ⟨rfl, fun b o eb => ?_⟩
        by_cases e : b = a
        · rw [e, upd_same, ← ok.at_, ← e, eb]
        · rw [upd_ne e]
          exact keep b o eb e
    obtain ⟨rfl, same1⟩ := h1
    refine seq_step (fun σ' H' => σ' = [some c, some (.ref a), none, none] ∧ Same H1 H') (fun R hR => ?_) (fun σ2 H2 h2 => ?_)
    · exact ⟨_, rfl, a, ps, rfl, same1 _ _ ok.at_, ok.nd, ok.few, ok.wd, fun H2 same2 => hR _ _ ⟨rfl, same2⟩⟩
    obtain ⟨rfl, same2⟩ := h2
    -- load = Load()
    refine seq_step (fun σ' H' => ∃ (x dx t : Addr), σ' = [some c, some (.ref a), some (.ref x), none] ∧ Same H H' ∧ H x = none ∧ H' x = some (.ins C dx [("_counts", .ref t)])) (fun R hR => ?_) (fun σ3 H3 h3 => ?_)
    · refine ⟨rfl, fun x dx hx hdx ne => ⟨.ref x, [], rfl, rfl, fun d hd => ?_⟩⟩
      have hx0 : H x = none := by
        cases e : H x with
        | none => rfl
        | some o => rw [same2 _ _ (same1 _ _ e)] at hx; cases hx
      have ndx : d ≠ x := fun e => by rw [e, upd_same] at hd; cases hd
      refine ⟨x, dx, d, [], [], rfl, by rw [upd_ne ndx.symm, upd_same], by decide, ⟨upd_same, List.nodup_nil, by decide, fun _ h => nomatch h⟩, fun H4 t ps' keep hx4 _ _ _ => ⟨rfl, ?_⟩⟩
      refine hR _ _ ⟨x, dx, t, rfl, fun b o eb => ?_, hx0, hx4⟩
      have e2 := same2 _ _ (same1 _ _ eb)
      have nb : b ≠ x := ne_of_none e2 hx
      have nb2 : b ≠ dx := ne_of_none e2 hdx
      refine keep b o nb ?_
      by_cases e : b = d
      · exfalso
        rw [upd_ne ndx] at hd
        rw [← e, upd_ne nb2, e2] at hd
        cases hd
      · rw [upd_ne e, upd_ne nb, upd_ne nb2]
        exact e2
    obtain ⟨x, dx, t0, rfl, same3, hx0, hx3⟩ := h3
    refine ⟨_, rfl, a, ps, rfl, same3 _ _ ok.at_, ok.nd, ok.few, fun H5 t ys same5 ht0 perm srt ht => ?_⟩
    obtain ⟨can, cts⟩ := tidy_can ok.nd ok.wd ok.few perm srt
    have ntx : t ≠ x := (ne_of_none hx3 ht0).symm
    refine ⟨_, rfl, x, C, dx, _, rfl, same5 _ _ hx3, T.c, T.nc, by show 1 < 1000; decide, ?_⟩
    refine ⟨_, rfl, k _ x (tidy ps ys) (fun b o eb => by rw [upd_ne (ne_of_none eb hx0)]; exact same5 _ _ (same3 _ _ eb)) hx0 ⟨dx, t, upd_same, by rw [upd_ne ntx]; exact ht, can⟩ cts⟩
end
end Ld
namespace Ld
open PySem PySem.Spec PyProof.Rows L2
section
variable {X : Cx} {CX : CXT} {pins : List (Addr × Obj)} {σ : L2.St} {H : Hp} {s : Shared} {C g : Addr} {n : Nat} {sp : Sp} {E : XK}
theorem cls_looks {M : Model} {h : Heap} {a : Addr} {o : Obj} {t : Value} (e : h.get? a = some o) (c : o.cls = t) : PySem.W.Looks M h (typeOf (.ref a)) t := c ▸ (PySem.W.Looks.ld e).andThen .now
theorem tyX_looks {x : V} {u t : Value} (I : Inv X pins σ H s) (rx : RelV x u) (ty : TyX X.K H x t) : PySem.W.Looks (model X.prog X.w) s.heap (typeOf u) t := by
  cases ty with
  | base b =>
    cases b with
    | non => cases (show u = Value.none from rx); exact .of_pure rfl
    | bl y => cases (show u = Value.bool y from rx); exact .of_pure rfl
    | int i => obtain ⟨t, q⟩ := (show ∃ t, u = Value.int i t from rx); cases q; exact .of_pure rfl
    | str y => obtain ⟨t, q⟩ := (show ∃ t, u = Value.str y t from rx); cases q; exact .of_pure rfl
    | flt y => obtain ⟨t, q⟩ := (show ∃ t, u = Value.float y t from rx); cases q; exact .of_pure rfl
    | @lst a xs ea =>
      cases (show u = Value.ref a from rx)
      obtain ⟨_, _, n, _, h1⟩ := (show ObjOk X.prog X.w H s.heap a (.lst xs) from I.hok a _ ea)
      exact cls_looks h1 rfl
    | @frz a ob xs ea =>
      cases (show u = Value.ref a from rx)
      obtain ⟨_, _, _, n, _, h1⟩ := (show ObjOk X.prog X.w H s.heap a (.frz ob (.lst xs)) from I.hok a _ ea)
      exact cls_looks h1 rfl
    | @tup a xs ea =>
      cases (show u = Value.ref a from rx)
      obtain ⟨_, _, _, o, h1, h2, _⟩ := (show ObjOk X.prog X.w H s.heap a (.tup xs) from I.hok a _ ea)
      exact cls_looks h1 h2
    | @dK a kvs ea =>
      cases (show u = Value.ref a from rx)
      obtain ⟨_, _, vs, _, o, es, ep, h1, h2, _⟩ := (show ObjOk X.prog X.w H s.heap a (.dK kvs) from I.hok a _ ea)
      exact cls_looks h1 h2.1
    | @dT a kvs ea =>
      cases (show u = Value.ref a from rx)
      obtain ⟨_, _, xs, _, o, es, ep, h1, h2, _⟩ := (show ObjOk X.prog X.w H s.heap a (.dT kvs) from I.hok a _ ea)
      exact cls_looks h1 h2.1
    | @ins a C dx fs ea cl ha hn htk hm =>
      cases (show u = Value.ref a from rx)
      obtain ⟨mA, O, _⟩ := ins_get I.hok ea
      obtain ⟨od, J, _⟩ := O.look
      exact J.type
  | byt y => obtain ⟨t, q⟩ := (show ∃ t, u = Value.bytes y t from rx); cases q; exact .of_pure rfl
  | @set a S n ea =>
    cases (show u = Value.ref a from rx)
    obtain ⟨o, _, _, _, e, ex, _⟩ := I.hok a _ ea
    exact cls_looks e ex.1
  | @kList a o e c =>
    cases (show u = Value.ref a from rx)
    exact cls_looks (I.kIn a o e) c
  | @kTuple a o e c =>
    cases (show u = Value.ref a from rx)
    exact cls_looks (I.kIn a o e) c
  | @kDict a o e c =>
    cases (show u = Value.ref a from rx)
    exact cls_looks (I.kIn a o e) c
  | @fTuple a ob xs ea =>
    cases (show u = Value.ref a from rx)
    obtain ⟨_, _, _, _, o, h1, h2, _⟩ := (show ObjOk X.prog X.w H s.heap a (.frz ob (.tup xs)) from I.hok a _ ea)
    exact cls_looks h1 h2
  | @fDict a ob kvs ea =>
    cases (show u = Value.ref a from rx)
    obtain ⟨_, _, _, vs, _, o, es, ep, h1, h2, _⟩ := (show ObjOk X.prog X.w H s.heap a (.frz ob (.dK kvs)) from I.hok a _ ea)
    exact cls_looks h1 h2.1
/-- x op y, x an instance of the class at C whose def for op is at g, y of another type, or of the same -/
def rCmp (K : PySem.W.Frag) (C : Addr) (sp : Sp) (E : XK) : R2 := fun x y H Q => ∃ a dx fs t, x = .ref a ∧ H a = some (.ins C dx fs) ∧ TyX K H y t ∧ PySem.W.notFirst K C t = true ∧ sp [x, y] H Q E
theorem op_cmp {op : CmpOp} (hop : ∀ a b, compareOp op a b = richCompare op a b) (hs : PySem.W.findIn X.K (.ref C) (cmpInfo op).2.1 = some (some (.ref g))) (hf : PySem.W.isFn X.K (.ref g) = true) (F : FnR X.prog X.w X.K X.mg X.base CX n g sp)
    (hr : Room n X.A) (hx : Passes CX X E) : OpR X (compareOp op) (rCmp X.K C sp E) := by
  intro pins s σ H x y v u Q I rx ry h
  obtain ⟨a, dx, fs, t, rfl, ha, ty, hn, q⟩ := h
  cases (show v = Value.ref a from rx)
  obtain ⟨mA, O, _⟩ := ins_get I.hok ha
  obtain ⟨od, J, _⟩ := O.look
  obtain ⟨m, hF⟩ := I.fr
  rw [hop]
  refine PySem.W.cmp_K (op := op) (tb := t) hr.units0 hF I.ok.mod.kin J (tyX_looks I ry ty) hn hs hf ?_
  refine wpAny_mono (wpAny_call (run_fnR (us := [.ref a, u]) (vs := [.ref a, y]) F hr hx I (.cons rfl (.cons ry .nil)) q)) (fun w s' z => ?_) fun _ _ x => x
  obtain ⟨z', H', I', rz, qz⟩ := z
  exact SlX.cmpback rz ⟨z', H', I', rz, qz⟩
end
end Ld
/-! x != y by the own __eq__ -/
namespace PySem.W
open PySem PySem.Spec PyProof.Rows PySem.Calls
section
variable {prog : Program} {w : World} {A : Around} {E : Value → Shared → Prop} {s : Shared} {K : Frag} {x C L f : Addr} {h₀ : Heap} {m : Str → Option Value} {ox : Obj} {od : Option Obj} {name : Str} {b tb : Value}
theorem ifBound_B {M : Model} {id : String} {args : List Value} {Q : Option Value → Shared → Prop} (X : K.In s.heap) (I : InstAt s.heap x ox C od) (hs : findIn K (.ref C) name = some (some (.builtin id))) (hb : ∀ self, bindSpecial (.builtin id) self = pure (.builtin id, [self]))
    (h : wpAny M A (call (.builtin id) (.ref x :: args)) (fun v => Q (some v)) E s) : wpAny M A (callSpecialIfBound? (.ref x) name args) Q E s := by
  simp only [callSpecialIfBound?, bindSpecialIfBound?]
  refine wpAny_holding (wpAny_bind (wpAny_bind (wpAny_bind (I.type.here ((looks_findIn X hs).here ?_)))))
  refine wpAny_bind (wpAny_askSetting (wpAny_ite ?_))
  have fin : wpAny M A (call (.builtin id) ([.ref x] ++ args) >>= fun v => pure (some v)) Q E s := wpAny_bind (wpAny_mono h (fun v s' h' => wpAny_pure h') fun _ _ h' => h')
  have hb' : Looks M s.heap (bindSpecial (.builtin id) (.ref x)) (.builtin id, [.ref x]) := Looks.of_pure (hb _)
  split
  · exact wpAny_bind (hb'.here (wpAny_pure (by exact fin)))
  · exact wpAny_tryCatch (wpAny_bind (hb'.here (wpAny_pure (by exact fin))))
theorem isInst_looks {M : Model} (X : K.In s.heap) (I : InstAt s.heap x ox C od) (e : mroIn K C (.type "object") = some true) : Looks M s.heap (isInstance (.ref x) (.type "object")) true := by
  unfold isInstance
  exact I.type.andThen (looks_mroIn X e)
theorem ne_entry {Q : PySem.Fin → Shared → Prop} (hu : A.units < cLine) (X : K.In s.heap) (I : InstAt s.heap x ox C od) (hs : findIn K (.ref C) "__eq__" = some (some (.ref f))) (hf : isFn K (.ref f) = true)
    (h : wpAny (model prog w) A (call (.ref f) [.ref x, b]) (fun v s' => ∃ r, v = .bool r ∧ Q (.done (.ret (.bool (!r)))) s') E s) :
    wpAny (model prog w) A (Builtin.«object.__ne__» ⟨[.ref x, b], []⟩) Q E s := by
  unfold Builtin.«object.__ne__»
  repeat (first
    | with_reducible refine wpAny_cRoomFor hu ?_
    | (refine wpAny_bind (m := callSpecialIfBound? (.ref x) (Str.ofString "__eq__") [b])
        (ifBound_K X I hs hf (wpAny_mono h (fun r s' hr => by
          obtain ⟨b, rfl, hq⟩ := hr
          repeat (first | exact hq | exact wpAny_pure hq | exact wpAny_truthy_bool hq | (refine wpAny_bind (m := truthy (.bool _)) (wpAny_truthy_bool ?_)) | wp_step)) fun _ _ e => e)))
    | wp_step)
theorem ne_K {Q : Value → Shared → Prop} (hu : A.units + 1 < cLine) (F : Fr h₀ L s.heap m) (X₀ : K.In h₀) (I : InstAt s.heap x ox C od) (hb : Looks (model prog w) s.heap (typeOf b) tb) (hn : notFirst K C tb = true)
    (hne : findIn K (.ref C) "__ne__" = some (some (.builtin "object.__ne__"))) (ho : mroIn K C (.type "object") = some true)
    (hs : findIn K (.ref C) "__eq__" = some (some (.ref f))) (hf : isFn K (.ref f) = true)
    (h : wpAny (model prog w) A.in1 (call (.ref f) [.ref x, b]) (fun v s' => ∃ r, v = .bool r ∧ Q (.bool (!r)) s') E s) : wpAny (model prog w) A (richCompare .NotEq (.ref x) b) Q E s := by
  have X := X₀.keeps F.keep
  have one : wpAny (model prog w) A (tryCompare (.ref x) (cmpInfo .NotEq).2.1 b) (fun r s' => ∃ v, r = some v ∧ Q v s') E s := by
    unfold tryCompare
    refine wpAny_bind (ifBound_B X I hne PySem.F.cmp_object.ne.bind (wpAny_call (codeAny_call_builtin PySem.F.cmp_object.ne.plain PySem.F.cmpEntry_ne
      (@PySem.W.check_slot (model prog w) _ _ s "object.__ne__" "object" "__ne__" (.ref x) [b] [] _ PySem.F.cmpKind_ne PySem.F.cmpSplit_ne (isInst_looks X I ho) (PySem.F.cmpArgs_ne _ _) (ne_entry (A := A.in1) hu X I hs hf (wpAny_mono h (fun v s' hv => ?_) fun _ _ e => e))))))
    obtain ⟨r, rfl, hq⟩ := hv
    exact ⟨r, rfl, wpAny_pure ⟨_, rfl, hq⟩⟩
  unfold richCompare
  simp only [oneThing_ref]
  refine wpAny_holding (wpAny_bind (wpAny_cRoomFor (Nat.lt_of_succ_lt hu) ?_))
  refine wpAny_bind (I.type.here (wpAny_bind (hb.here ?_)))
  split
  · rename_i q
    have e : subIn K tb (.ref C) = some false := by
      rcases Bool.or_eq_true_iff.mp hn with e | e
      · rw [beq_iff_eq.mp e] at q; simp at q
      · exact beq_iff_eq.mp e
    refine wpAny_bind ((looks_subIn X e).here ?_)
    simp only [Bool.false_eq_true, if_false]
    refine wpAny_bind (wpAny_mono one (fun r s' z => ?_) fun _ _ e => e)
    obtain ⟨v, rfl, hq⟩ := z
    exact wpAny_pure hq
  · refine wpAny_bind (wpAny_pure ?_)
    simp only [Bool.false_eq_true, if_false]
    refine wpAny_bind (wpAny_mono one (fun r s' z => ?_) fun _ _ e => e)
    obtain ⟨v, rfl, hq⟩ := z
    exact wpAny_pure hq
end
end PySem.W

namespace Ld
open PySem PySem.Spec PyProof.Rows L2
section
variable {X : Cx} {CX : CXT} {C g : Addr} {n : Nat} {sp : Sp} {E : XK}
/-- x != y, by the own __eq__ -/
def rCmpNe (K : PySem.W.Frag) (C : Addr) (sp : Sp) (E : XK) : R2 := fun x y H Q => ∃ a dx fs t, x = .ref a ∧ H a = some (.ins C dx fs) ∧ TyX K H y t ∧ PySem.W.notFirst K C t = true ∧ sp [x, y] H (fun v H' => ∃ b, v = .bl b ∧ Q (.bl (!b)) H') E
theorem op_cmpNe (hne : PySem.W.findIn X.K (.ref C) "__ne__" = some (some (.builtin "object.__ne__"))) (ho : PySem.W.mroIn X.K C (.type "object") = some true) (hs : PySem.W.findIn X.K (.ref C) "__eq__" = some (some (.ref g))) (hf : PySem.W.isFn X.K (.ref g) = true)
    (F : FnR X.prog X.w X.K X.mg X.base CX n g sp) (hr : Room (n + 1) X.A) (hx : Passes CX X E) : OpR X (compareOp .NotEq) (rCmpNe X.K C sp E) := by
  intro pins s σ H x y v u Q I rx ry h
  obtain ⟨a, dx, fs, t, rfl, ha, ty, hn, q⟩ := h
  cases (show v = Value.ref a from rx)
  obtain ⟨mA, O, _⟩ := ins_get I.hok ha
  obtain ⟨od, J, _⟩ := O.look
  obtain ⟨m, hF⟩ := I.fr
  show wpAny _ _ (richCompare .NotEq _ _) _ _ _
  have hr1 : Room n X.A.in1 := Room.in1 hr
  refine PySem.W.ne_K (tb := t) (hu_of hr) hF I.ok.mod.kin J (tyX_looks I ry ty) hn hne ho hs hf ?_
  refine wpAny_mono (wpAny_call (SlX.run_at (A := X.A.in1) (us := [.ref a, u]) (ws := [.ref a, y]) F hr1 I.env0.in1 hx I (.cons rfl (.cons ry .nil)) q)) (fun w' s' z => ?_) fun _ _ x => x
  obtain ⟨z', H', I', rz, b, rfl, qz⟩ := z
  cases rz
  exact ⟨b, rfl, .bl (!b), H', I', rfl, qz⟩
end
end Ld
namespace Ld
open PySem PySem.Spec PyProof.Rows L2
def hitB (qs : List (Str × Int)) (ps : List (Str × Int)) : Bool := ps.all fun p => decide (ctO qs p.1 = some p.2)
theorem hits_ct {A : Around} {s : Shared} {qs : List (Str × Int)} {vb : List (Key × Value)} (rb : KV (cD qs) vb) : ∀ {ps : List (Str × Int)} {va : List (Key × Value)}, KV (cD ps) va → PySem.W.KeqHits A s vb va (hitB qs ps)
  | [], _, .nil => .nil
  | p :: r, (k, v) :: t, .cons h ra => by
    have h1 : (Sum.inr p.1 : Key) = k := h.1
    obtain ⟨tk, ev⟩ := (show ∃ t, v = Value.int p.2 t from h.2)
    have rr : RelO (valV (cD qs) (Sum.inr p.1)) (valueAt vb (Sum.inr p.1)) := rb.val _
    rw [valV_cD] at rr
    rw [h1] at rr
    have ih := hits_ct (A := A) (s := s) rb ra
    show PySem.W.KeqHits A s vb ((k, v) :: t) (decide (ctO qs p.1 = some p.2) && hitB qs r)
    cases e : ctO qs p.1 with
    | none =>
      rw [e] at rr
      have hn : valueAt vb k = none := by
        cases e2 : valueAt vb k with
        | none => rfl
        | some y => rw [e2] at rr; exact absurd rr (by simp [RelO])
      have : (decide ((none : Option Int) = some p.2) && hitB qs r) = false := by simp
      rw [this]
      exact .miss hn
    | some j =>
      rw [e] at rr
      obtain ⟨y, hy, ry⟩ := rr.some_of
      obtain ⟨tj, ey⟩ := (show ∃ t, y = Value.int j t from ry)
      subst ev ey
      have q : decide (some j = some p.2) = (p.2 == j) := by
        rw [Bool.eq_iff_iff, decide_eq_true_eq, beq_iff_eq, Option.some.injEq]
        exact eq_comm
      rw [q]
      exact .hit hy (SeqAt.EqAt.int_int p.2 tk j tj) ih
theorem sub_back : ∀ {l m : List Str}, l.Nodup → (∀ x ∈ l, x ∈ m) → m.length ≤ l.length → ∀ x ∈ m, x ∈ l
  | [], m, _, _, hl, x, hx => by
    have : m = [] := List.length_eq_zero_iff.mp (by simpa using hl)
    rw [this] at hx
    exact hx
  | a :: l, m, nd, hs, hl, x, hx => by
    have ha := hs a List.mem_cons_self
    have nd2 := List.nodup_cons.mp nd
    by_cases e : x = a
    · rw [e]
      exact List.mem_cons_self
    · refine List.mem_cons_of_mem _ (sub_back (l := l) (m := m.erase a) nd2.2 (fun y hy => ?_) ?_ x ((List.mem_erase_of_ne e).mpr hx))
      · exact (List.mem_erase_of_ne (fun (q : y = a) => nd2.1 (by rw [← q]; exact hy))).mpr (hs y (List.mem_cons_of_mem _ hy))
      · rw [List.length_erase_of_mem ha]
        rw [List.length_cons] at hl
        omega
theorem can_beq {ps qs : List (Str × Int)} (a : Can ps) (b : Can qs) : (ps.length == qs.length && hitB qs ps) = decide (ps = qs) := by
  rw [Bool.eq_iff_iff, Bool.and_eq_true, beq_iff_eq, decide_eq_true_eq]
  constructor
  · rintro ⟨hl, hh⟩
    have hm : ∀ p ∈ ps, ctO qs p.1 = some p.2 := fun p hp => of_decide_eq_true (List.all_eq_true.mp hh p hp)
    have sub : ∀ z ∈ ps.map (·.1), z ∈ qs.map (·.1) := fun z hz => by
      obtain ⟨p, hp, e⟩ := List.mem_map.mp hz
      refine Classical.byContradiction fun n => ?_
      have h1 := hm p hp
      rw [e, ctO_none n] at h1
      cases h1
    have back := sub_back a.nd sub (by rw [List.length_map, List.length_map, hl]; exact Nat.le_refl _)
    refine can_eq a b fun z => ?_
    by_cases hz : z ∈ ps.map (·.1)
    · obtain ⟨p, hp, e⟩ := List.mem_map.mp hz
      rw [← e, ct_mem a.nd hp]
      unfold ct
      rw [hm p hp]
      rfl
    · rw [ct_out hz, ct_out fun h => hz (back z h)]
  · rintro rfl
    refine ⟨rfl, List.all_eq_true.mpr fun p hp => decide_eq_true ?_⟩
    rw [ctO_some (List.mem_map.mpr ⟨p, hp, rfl⟩), ct_mem a.nd hp]
section
variable {X : Cx}
def rEqCt : R2 := fun x y H Q => ∃ a b ps qs, x = .ref a ∧ y = .ref b ∧ H a = some (.dK (cD ps)) ∧ H b = some (.dK (cD qs)) ∧ Q (.bl (ps.length == qs.length && hitB qs ps)) H
theorem op_eqCt (hu : X.A.units < cLine) : OpR X (compareOp .Eq) rEqCt := by
  intro pins s σ H x y v u Q I rx ry h
  obtain ⟨a, b, ps, qs, rfl, rfl, ea, eb, q⟩ := h
  obtain rfl : v = Value.ref a := rx
  obtain rfl : u = Value.ref b := ry
  obtain ⟨_, ya, va, ra, da⟩ := (show ObjOk X.prog X.w H s.heap a (.dK (cD ps)) from I.hok a _ ea)
  obtain ⟨_, yb, vb, rb, db⟩ := (show ObjOk X.prog X.w H s.heap b (.dK (cD qs)) from I.hok b _ eb)
  have hl : (va.length == vb.length) = (ps.length == qs.length) := by rw [← ra.length, ← rb.length, cD_len, cD_len]
  refine PySem.W.keq_eq (knd := mixKind X.prog X.w) (r := hitB qs ps) ya yb da db hu (fun _ => hits_ct rb ra) ?_
  exact ⟨.bl (ps.length == qs.length && hitB qs ps), H, I, by rw [hl]; rfl, q⟩
end
end Ld
namespace Ld
open PySem PySem.Spec PyProof.Rows L2
theorem LoadAt.ty {K : PySem.W.Frag} {C : Addr} {H : Hp} {x : Addr} {ps : List (Str × Int)} (h : LoadAt C H x ps) (c : Cls K C) (i : SlX.SIsi K C) : TyX K H (.ref x) (.ref C) := by
  obtain ⟨dx, t, h1, _, _⟩ := h
  exact .base (.ins h1 c i.ca i.cn i.ct i.cm)
theorem kit_self {K : PySem.W.Frag} {C : Addr} : PySem.W.kitOne K (.ref C) (.ref C) = some true := by
  unfold PySem.W.kitOne
  rw [if_pos (beq_self_eq_true _)]
theorem nf_self {K : PySem.W.Frag} {C : Addr} : PySem.W.notFirst K C (.ref C) = true := by
  unfold PySem.W.notFirst
  rw [beq_self_eq_true]
  rfl
def spEqL (K : PySem.W.Frag) (C : Addr) : Sp := fun vs H Q _ => ∃ (x : Addr) (y : V) (ps : List (Str × Int)), vs = [.ref x, y] ∧ LoadAt C H x ps ∧
  ((∃ b qs, y = .ref b ∧ LoadAt C H b qs ∧ Q (.bl (decide (ps = qs))) H) ∨ ∃ t, TyX K H y t ∧ PySem.W.kitOne K t (.ref C) = some false ∧ Q (.bl false) H)
abbrev sEq : Stmt := inClass (top 14) 19
section
variable {P : Program} {w : World} {K : PySem.W.Frag} {mg : Str → Option Value} {base : Heap} {C fi : Addr}
theorem scEq : FnScope ["self", "other"] ["self", "other"] (defScope sEq) := ⟨rfl, rfl, rfl, by decide +kernel, rfl, by decide +kernel, by decide +kernel⟩
theorem ok_eqL {f : Addr} {fd : FuncData} (F : Fun K "__eq__" "Load.__eq__" sEq f fd) (T : LoadC K mg C fi) (S : SlX.SIsi K C) (B : Blt2 mg) : FnOk P w K mg base CX0 1 f fd ["self", "other"] (spEqL K C) := by
  refine F.ok scEq (fun vs H Q E h => ?_) (fun cdv A outer s H vs Q E hr h => ?_)
  · obtain ⟨x, y, ps, rfl, _⟩ := h
    rfl
  · obtain ⟨x, y, ps, rfl, hx, h⟩ := h
    refine ⟨_, pss_one (ps_ret (pe_and (pe_callB call_isi (by rfl) B.isi bIsi (pa_cons (pv 1) (pa_cons (pe_glob (v := .ref C) (by rfl) T.gC rfl) pa_nil)))
      (pe_one (pe_cmpR (op_eqCt hr.units0) (pe_fld (pv 0) rfl) (pe_fld (pv 1) rfl) (nomark _))))), ?_⟩
    rcases h with ⟨b, qs, rfl, hb, q⟩ | ⟨t, ty, kt, q⟩
    · refine ⟨_, rfl, .ref b, _, _, _, true, rfl, .own C, hb.ty T.c S, kit_self, true, rfl, ?_⟩
      obtain ⟨dx, tx, h1, h2, cx⟩ := hx
      obtain ⟨dy, ty, h3, h4, cy⟩ := hb
      refine ⟨_, rfl, x, C, dx, _, _, rfl, h1, T.c, T.nc, rfl, _, rfl, b, C, dy, _, _, rfl, h3, T.c, T.nc, rfl, tx, ty, ps, qs, rfl, rfl, h2, h4, ?_⟩
      rw [can_beq cx cy]
      exact q
    · exact ⟨_, rfl, y, _, t, _, false, rfl, .own C, ty, kt, false, rfl, q⟩
end
end Ld
namespace Ld
open PySem PySem.Spec PyProof.Rows L2
section
variable {X : Cx} {pins : List (Addr × Obj)} {σ : L2.St} {H : Hp} {s : Shared}
theorem star_dict (hcalm : X.calm = true) {a : Addr} {kvs : List (Key × V)} {E : Value → Shared → Prop} {Q : List Value → Shared → Prop} (I : Inv X pins σ H s) (hd : Rd H a (.dK kvs)) (hQ : ∀ us s', Inv X pins σ H s' → Vals (kvs.map fun kv => kV kv.1) us → Q us s') : PySem.W.StarOf (model X.prog X.w) X.A E (.ref a) Q s := by
  obtain ⟨z, lo, vs, rel, dd⟩ := dk_rd I.hok hd
  obtain ⟨ep, hat⟩ := dd.dictAt
  have ek : (kvs.map fun kv => kV kv.1) = vs.map fun p => kV p.1 := by
    have e := congrArg (List.map kV) rel.keys
    rw [List.map_map, List.map_map] at e
    exact e
  have h16 : vs.length ≤ sizeLine := by rw [← rel.length]; exact z
  unfold PySem.W.StarOf notIterableAtAll
  refine wpAny_bind (wpAny_specialOf dd.typeIs PySem.F.slot_dict_iter.lookup (wpAny_pure ⟨rfl, ?_⟩))
  refine PySem.W.kdu_collect (A := X.A) (PySem.W.kdl_dict (knd := mixKind X.prog X.w) (kvs := vs) (ep := ep) lo) (I.ok.hd hcalm) hat h16 fun h' tk acc hk hacc => ?_
  have hv : Vals (vs.map fun p => kV p.1) acc.toList := keys_at (by rw [Array.length_toList]; exact hacc.1) fun j v e => hacc.2 j v (by rw [← Array.getElem?_toList]; exact e)
  exact hQ acc.toList _ (I.kept hk) (by rw [ek]; exact hv)
end
def tStarD (te : TE) (t : TA) : TA := fun σ H Q => te σ H fun x H1 => ∃ p kvs, x = V.ref p ∧ Rd H1 p (.dK kvs) ∧ t σ H1 fun ys H2 => Q ((kvs.map fun kv => kV kv.1) ++ ys) H2
section
variable {X : Cx} {e : Expr} {es : List Expr} {te : TE} {t : TA} {p : Pos}
theorem pa_starD (hcalm : X.calm = true) (he : PE X e te) (hr : PA X es t) (hs : starEach (.Starred e p :: es) X.env = (true, eval e X.env) :: starEach es X.env := by rfl) : PA X (.Starred e p :: es) (tStarD te t) := by
  refine ⟨fun pos pins s σ H Q I h => ?_⟩
  refine PySem.W.items_star (thn (he.run pins s σ H _ I h) fun v s1 ⟨y, H1, I1, ry, a, kvs, ey, hx, q⟩ => ?_) hs
  subst ey
  obtain rfl : v = Value.ref a := ry
  refine star_dict hcalm I1 hx fun us s2 I2 rv => ?_
  exact thn (hr.run pos pins s2 σ H1 _ I2 q) fun ws s3 ⟨vs, H3, I3, r3, q3⟩ => ⟨_ ++ vs, H3, I3, rv.append r3, q3⟩
end
end Ld
namespace Ld
open PySem PySem.Spec PyProof.Rows L2
def tSubO (C : Addr) (sp : Sp) (E : XK) (to ti : TE) : TE := fun σ H Q => to σ H fun x H1 => ti σ H1 fun y H2 => ∃ a dx fs, x = V.ref a ∧ H2 a = some (.ins C dx fs) ∧ sp [x, y] H2 Q E
section
variable {X : Cx} {CX : CXT} {C g : Addr} {n : Nat} {sp : Sp} {E : XK} {o i : Expr} {to ti : TE} {pos : Pos}
/-- o[i], o an instance of the class at C whose __getitem__ is at g -/
theorem pe_subO (hs : PySem.W.findIn X.K (.ref C) "__getitem__" = some (some (.ref g))) (hf : PySem.W.fnIn X.K g = true) (hfn : PySem.W.isFn X.K (.ref g) = true) (F : FnR X.prog X.w X.K X.mg X.base CX n g sp) (hr : Room (n + 1) X.A) (hx : Passes CX X E)
    (ho : PE X o to) (hi : PE X i ti) (hsl : ∀ a v, subscripted i true (.ref a) v = runValue (.builtin "lifetime.subscript" ⟨[.ref a, v], []⟩) := by intro _ _; with_unfolding_all rfl) : PE X (.Subscript o i pos) (tSubO C sp E to ti) := by
  refine ⟨fun pins s σ H Q I h => ?_⟩
  refine Subscript_ (thn (ho.run pins s σ H _ I h) fun u s1 ⟨x, H1, I1, rx, q1⟩ => thn (hi.run pins s1 σ H1 _ I1 q1) fun v s2 ⟨y, H2, I2, ry, a, dx, fs, ex, ha, q2⟩ => ?_)
  subst ex
  obtain rfl : u = Value.ref a := rx
  obtain ⟨mA, O, _⟩ := ins_get I2.hok ha
  obtain ⟨od, J, _⟩ := O.look
  obtain ⟨m, hF⟩ := I2.fr
  have hr1 : Room n X.A.in1 := Room.in1 hr
  refine PySem.W.sub_K hF I2.ok.mod.kin J hs hf hfn ?_ (hsl a v)
  exact wpAny_call (SlX.run_at (A := X.A.in1) (us := [.ref a, v]) (ws := [.ref a, y]) F hr1 I2.env0.in1 hx I2 (.cons rfl (.cons ry .nil)) q2)
end
end Ld
namespace Ld
open PySem PySem.Spec PyProof.Rows L2
/-- C.name is a def that keeps sp -/
def HasM (P : Program) (w : World) (K : PySem.W.Frag) (mg : Str → Option Value) (base : Heap) (n : Nat) (C : Addr) (name : Str) (sp : Sp) : Prop :=
  ∃ g, PySem.W.findIn K (.ref C) name = some (some (.ref g)) ∧ PySem.W.fnIn K g = true ∧ PySem.W.isFn K (.ref g) = true ∧ FnR P w K mg base CX0 n g sp
theorem fnR_of {P : Program} {w : World} {K : PySem.W.Frag} {mg : Str → Option Value} {base : Heap} {n : Nat} {f : Addr} {fd : FuncData} {ps : List Str} {sp : Sp} (F : FnOk P w K mg base CX0 n f fd ps sp) (b : L2.Binds K fd ps []) : FnR P w K mg base CX0 n f sp :=
  (F.raw b .nil).imp fun vs H Q E h => by rw [List.append_nil]; exact h
def spGet (C : Addr) : Sp := fun vs H Q _ => ∃ (x : Addr) (ps : List (Str × Int)) (z : Str), vs = [.ref x, .str z] ∧ LoadAt C H x ps ∧ Q (.int (ct ps z)) H
theorem cD_kV (ps : List (Str × Int)) : ((cD ps).map fun kv : Key × V => kV kv.1) = (ps.map (·.1)).map V.str := by
  unfold cD
  rw [List.map_map, List.map_map]
  rfl
def leB (ps qs : List (Str × Int)) : Bool := (ps.map (·.1) ++ qs.map (·.1)).all fun z => decide (ct ps z ≤ ct qs z)
def spLe (C : Addr) : Sp := fun vs H Q _ => ∃ (x y : Addr) (ps qs : List (Str × Int)), vs = [.ref x, .ref y] ∧ LoadAt C H x ps ∧ LoadAt C H y qs ∧ ∀ H', Same H H' → Q (.bl (leB ps qs)) H'
def spLt (C : Addr) : Sp := fun vs H Q _ => ∃ (x y : Addr) (ps qs : List (Str × Int)), vs = [.ref x, .ref y] ∧ LoadAt C H x ps ∧ LoadAt C H y qs ∧ ∀ H', Same H H' → Q (.bl (leB ps qs && !decide (ps = qs))) H'
def spGe (C : Addr) : Sp := fun vs H Q _ => ∃ (x y : Addr) (ps qs : List (Str × Int)), vs = [.ref x, .ref y] ∧ LoadAt C H x ps ∧ LoadAt C H y qs ∧ ∀ H', Same H H' → Q (.bl (leB qs ps)) H'
def spGt (C : Addr) : Sp := fun vs H Q _ => ∃ (x y : Addr) (ps qs : List (Str × Int)), vs = [.ref x, .ref y] ∧ LoadAt C H x ps ∧ LoadAt C H y qs ∧ ∀ H', Same H H' → Q (.bl (leB qs ps && !decide (qs = ps))) H'
abbrev sGet : Stmt := inClass (top 14) 9
abbrev sLe : Stmt := inClass (top 14) 20
abbrev sLt : Stmt := inClass (top 14) 21
abbrev sGe : Stmt := inClass (top 14) 22
abbrev sGt : Stmt := inClass (top 14) 23
section
variable {P : Program} {w : World} {K : PySem.W.Frag} {mg : Str → Option Value} {base : Heap} {C fi : Addr}
theorem scGet : FnScope ["self", "at"] ["self", "at"] (defScope sGet) := ⟨rfl, rfl, rfl, by decide +kernel, rfl, by decide +kernel, by decide +kernel⟩
theorem ok_get {f : Addr} {fd : FuncData} (F : Fun K "__getitem__" "Load.__getitem__" sGet f fd) (T : LoadC K mg C fi) : FnOk P w K mg base CX0 1 f fd ["self", "at"] (spGet C) := by
  refine F.ok scGet (fun vs H Q E h => ?_) (fun cdv A outer s H vs Q E hr h => ?_)
  · obtain ⟨x, ps, z, rfl, _⟩ := h
    rfl
  · obtain ⟨x, ps, z, rfl, ⟨dx, t, h1, h2, can⟩, q⟩ := h
    refine ⟨_, pss_one (ps_ret (pe_dget2 (hu_of hr) (pe_fld (pv 0) rfl) (pv 1) pe_int ⟨rfl, rfl, rfl, rfl⟩)), ?_⟩
    refine ⟨_, rfl, x, C, dx, _, _, rfl, h1, T.c, T.nc, rfl, t, rfl, .inl ⟨_, .inl h2⟩, _, rfl, _, .inl ⟨cD ps, Sum.inr z, .inl h2, rfl, rfl⟩, ?_⟩
    rw [valV_cD]
    have e : ((ctO ps z).map V.int).getD (.int 0) = .int (ct ps z) := by
      unfold ct
      cases ctO ps z <;> rfl
    rw [e]
    exact q
abbrev nLe : List Str := ["self", "other", "kind"]
theorem scLe : FnScope nLe ["self", "other"] (defScope sLe) := ⟨rfl, rfl, rfl, by decide +kernel, rfl, by decide +kernel, by decide +kernel⟩
theorem ok_le {f : Addr} {fd : FuncData} (F : Fun K "__le__" "Load.__le__" sLe f fd) (T : LoadC K mg C fi) (S : SlX.SIsi K C) (B : Blt2 mg) (HG : HasM P w K mg base 1 C "__getitem__" (spGet C)) : FnOk P w K mg base CX0 3 f fd ["self", "other"] (spLe C) := by
  obtain ⟨g, a1, a2, a3, G⟩ := HG
  refine F.ok scLe (fun vs H Q E h => ?_) (fun cdv A outer s H vs Q E hr h => ?_)
  · obtain ⟨x, y, ps, qs, rfl, _⟩ := h
    rfl
  · obtain ⟨x, y, ps, qs, rfl, hx, hy, q⟩ := h
    have nd : nLe.Nodup := scLe.nd
    refine ⟨_, pss_cons (ps_if (pt_not (pt_truth (pe_callB call_isi (by rfl) B.isi bIsi (pa_cons (pv 1) (pa_cons (pe_glob (v := .ref C) (by rfl) T.gC rfl) pa_nil))) (fun _ => rfl))) (pss_one ps_never) pss_nil)
      (pss_one (ps_ret (pe_callB (cr_all rfl) (by rfl) B.all bAll (pa_cons (pe_lc (own := [("kind", 2)]) (g := gName 2) (tt := tYes) rfl nd (pi_list (pe_lst (pa_starD rfl (pe_fld (pv 0) rfl) (pa_starD rfl (pe_fld (pv 1) rfl) pa_nil)))) (blkOk_by (N := nLe) (sc := defScope sLe) (by decide +kernel))
        (fun _ _ _ _ _ => pg_name (i := 2) nd rfl (Or.inl rfl)) (fun _ _ _ _ _ => pts_nil) (fun _ _ _ _ _ => pe_cmpR op_le (pe_subO a1 a2 a3 G hr pass0 (pv 0) (pv 2)) (pe_subO a1 a2 a3 G hr pass0 (pv 1) (pv 2)) (nomark _))) pa_nil)))), ?_⟩
    refine ⟨_, rfl, .ref y, _, _, _, true, rfl, .own C, hy.ty T.c S, kit_self, true, rfl, ?_⟩
    have hx' := hx
    have hy' := hy
    obtain ⟨dx, tx, h1, h2, cx⟩ := hx
    obtain ⟨dy, ty, h3, h4, cy⟩ := hy
    refine ⟨_, rfl, x, C, dx, _, _, rfl, h1, T.c, T.nc, rfl, tx, cD ps, rfl, .inl h2, _, rfl, y, C, dy, _, _, rfl, h3, T.c, T.nc, rfl, ty, cD qs, rfl, .inl h4, ?_⟩
    have ek : ((cD ps).map fun kv : Key × V => kV kv.1) ++ (((cD qs).map fun kv : Key × V => kV kv.1) ++ []) = (ps.map (·.1) ++ qs.map (·.1)).map V.str := by
      rw [List.append_nil, List.map_append, cD_kV, cD_kV]
    have hn : (((cD ps).map fun kv : Key × V => kV kv.1) ++ (((cD qs).map fun kv : Key × V => kV kv.1) ++ [])).length ≤ 2000 := by
      rw [ek, List.length_map, List.length_append, List.length_map, List.length_map]
      have := cx.few
      have := cy.few
      omega
    refine ⟨Nat.le_trans hn (by decide : 2000 ≤ sizeLine), fun p hp => ⟨p, rfl, ⟨_, .inl (.inl upd_same)⟩, fun D hD => ?_⟩⟩
    have nDp : D ≠ p := fun e => by rw [e, upd_same] at hD; cases hD
    have hD0 : H D = none := by rw [upd_ne nDp] at hD; exact hD
    have sp1 := same_new (o := .lst (((cD ps).map fun kv : Key × V => kV kv.1) ++ (((cD qs).map fun kv : Key × V => kV kv.1) ++ []))) hp
    refine lc_it (walk_list (K := K) (a := p) (xs := ((cD ps).map fun kv : Key × V => kV kv.1) ++ (((cD qs).map fun kv : Key × V => kV kv.1) ++ []))) (fun i H' => H' D = some (.lst (((ps.map (·.1) ++ qs.map (·.1)).take i).map fun z => V.bl (decide (ct ps z ≤ ct qs z)))) ∧ H' p = some (.lst (((cD ps).map fun kv : Key × V => kV kv.1) ++ (((cD qs).map fun kv : Key × V => kV kv.1) ++ []))) ∧ Same H H')
      ⟨upd_same, by rw [upd_ne nDp.symm, upd_same], fun b o eb => by rw [upd_ne (ne_of_none eb hD0)]; exact sp1 _ _ eb⟩ (fun i H' _ h => .inl (.inl h.2.1)) ?_ ?_
    · rintro i v H2 H3 hi ⟨eD, ep, same⟩ ⟨rfl, hv⟩
      rw [ek, List.getElem?_map] at hv
      obtain ⟨z, hz, rfl⟩ : ∃ z, (ps.map (·.1) ++ qs.map (·.1))[i]? = some z ∧ v = V.str z := by
        cases e : (ps.map (·.1) ++ qs.map (·.1))[i]? with
        | none => rw [e] at hv; cases hv
        | some z => rw [e] at hv; exact ⟨z, rfl, (Option.some.inj hv).symm⟩
      refine ⟨rfl, _, rfl, _, rfl, x, dx, _, rfl, same _ _ h1, x, ps, z, rfl, hx'.same same, _, rfl, _, rfl, y, dy, _, rfl, same _ _ h3, y, qs, z, rfl, hy'.same same, _, _, rfl, rfl, _, eD, ?_, ?_, by rw [upd_ne nDp.symm]; exact ep, fun b o eb => by rw [upd_ne (ne_of_none eb hD0)]; exact same _ _ eb⟩
      · rw [List.length_map, List.length_take]
        exact Nat.lt_of_le_of_lt (by omega : _ ≤ 2000) (by decide)
      · rw [upd_same, List.take_add_one, hz, List.map_append]
        rfl
    · rintro H2 ⟨eD, ep, same⟩
      rw [ek, List.length_map, List.take_of_length_le (Nat.le_refl _)] at eD
      have eA : (ps.map (·.1) ++ qs.map (·.1)).map (fun z => V.bl (decide (ct ps z ≤ ct qs z))) = ((ps.map (·.1) ++ qs.map (·.1)).map fun z => decide (ct ps z ≤ ct qs z)).map V.bl := by
        rw [List.map_map]
        rfl
      rw [eA] at eD
      refine ⟨D, _, rfl, .inl (.inl eD), ?_⟩
      have e : ((ps.map (·.1) ++ qs.map (·.1)).map fun z => decide (ct ps z ≤ ct qs z)).all id = leB ps qs := by
        unfold leB
        rw [List.all_map]
        rfl
      rw [e]
      exact q H2 same
end
end Ld
namespace Ld
open PySem PySem.Spec PyProof.Rows L2
/-- what != asks of the class -/
structure NeC (K : PySem.W.Frag) (C : Addr) : Prop where
  ne : PySem.W.findIn K (.ref C) "__ne__" = some (some (.builtin "object.__ne__"))
abbrev sCounts : Stmt := inClass (top 14) 4
section
variable {P : Program} {w : World} {K : PySem.W.Frag} {mg : Str → Option Value} {base : Heap} {C fi : Addr}
theorem scLt : FnScope ["self", "other"] ["self", "other"] (defScope sLt) := ⟨rfl, rfl, rfl, by decide +kernel, rfl, by decide +kernel, by decide +kernel⟩
theorem scGe : FnScope ["self", "other"] ["self", "other"] (defScope sGe) := ⟨rfl, rfl, rfl, by decide +kernel, rfl, by decide +kernel, by decide +kernel⟩
theorem scGt : FnScope ["self", "other"] ["self", "other"] (defScope sGt) := ⟨rfl, rfl, rfl, by decide +kernel, rfl, by decide +kernel, by decide +kernel⟩
theorem ok_lt {f : Addr} {fd : FuncData} (F : Fun K "__lt__" "Load.__lt__" sLt f fd) (T : LoadC K mg C fi) (S : SlX.SIsi K C) (N : NeC K C) (B : Blt2 mg) (HE : HasM P w K mg base 1 C "__eq__" (spEqL K C)) (HL : HasM P w K mg base 3 C "__le__" (spLe C)) :
    FnOk P w K mg base CX0 4 f fd ["self", "other"] (spLt C) := by
  obtain ⟨g, a1, a2, a3, G⟩ := HE
  obtain ⟨g2, c1, c2, c3, G2⟩ := HL
  refine F.ok scLt (fun vs H Q E h => ?_) (fun cdv A outer s H vs Q E hr h => ?_)
  · obtain ⟨x, y, ps, qs, rfl, _⟩ := h
    rfl
  · obtain ⟨x, y, ps, qs, rfl, hx, hy, q⟩ := h
    refine ⟨_, pss_cons (ps_if (pt_not (pt_truth (pe_callB call_isi (by rfl) B.isi bIsi (pa_cons (pv 1) (pa_cons (pe_glob (v := .ref C) (by rfl) T.gC rfl) pa_nil))) (fun _ => rfl))) (pss_one ps_never) pss_nil)
      (pss_one (ps_ret (pe_and (pe_cmpR (op_cmp (op := .LtE) (fun _ _ => rfl) c1 c3 G2 hr pass0) (pv 0) (pv 1) (nomark _)) (pe_one (pe_cmpR (op_cmpNe N.ne S.cm a1 a3 G (hr.mono (by decide)) pass0) (pv 0) (pv 1) (nomark _)))))), ?_⟩
    refine ⟨_, rfl, .ref y, _, _, _, true, rfl, .own C, hy.ty T.c S, kit_self, true, rfl, ?_⟩
    have hx' := hx
    obtain ⟨dx, tx, h1, h2, cx⟩ := hx
    refine ⟨_, rfl, _, rfl, x, dx, _, _, rfl, h1, hy.ty T.c S, nf_self, x, y, ps, qs, rfl, hx', hy, fun H1 same1 => ⟨_, rfl, ifb (fun e => ?_) (fun e => ?_)⟩⟩
    · refine ⟨_, rfl, _, rfl, x, dx, _, _, rfl, same1 _ _ h1, (hy.same same1).ty T.c S, nf_self, x, .ref y, ps, rfl, hx'.same same1, .inl ⟨y, qs, rfl, hy.same same1, _, rfl, ?_⟩⟩
      have := q H1 same1
      rw [e] at this
      exact this
    · have := q H1 same1
      rw [e] at this
      exact this
theorem ok_ge {f : Addr} {fd : FuncData} (F : Fun K "__ge__" "Load.__ge__" sGe f fd) (T : LoadC K mg C fi) (S : SlX.SIsi K C) (B : Blt2 mg) (HL : HasM P w K mg base 3 C "__le__" (spLe C)) : FnOk P w K mg base CX0 4 f fd ["self", "other"] (spGe C) := by
  obtain ⟨g2, c1, c2, c3, G2⟩ := HL
  refine F.ok scGe (fun vs H Q E h => ?_) (fun cdv A outer s H vs Q E hr h => ?_)
  · obtain ⟨x, y, ps, qs, rfl, _⟩ := h
    rfl
  · obtain ⟨x, y, ps, qs, rfl, hx, hy, q⟩ := h
    refine ⟨_, pss_cons (ps_if (pt_not (pt_truth (pe_callB call_isi (by rfl) B.isi bIsi (pa_cons (pv 1) (pa_cons (pe_glob (v := .ref C) (by rfl) T.gC rfl) pa_nil))) (fun _ => rfl))) (pss_one ps_never) pss_nil)
      (pss_one (ps_ret (pe_cmpR (op_cmp (op := .LtE) (fun _ _ => rfl) c1 c3 G2 hr pass0) (pv 1) (pv 0) (nomark _)))), ?_⟩
    refine ⟨_, rfl, .ref y, _, _, _, true, rfl, .own C, hy.ty T.c S, kit_self, true, rfl, ?_⟩
    have hy' := hy
    obtain ⟨dy, ty, h1, h2, cy⟩ := hy
    exact ⟨_, rfl, _, rfl, y, dy, _, _, rfl, h1, hx.ty T.c S, nf_self, y, x, qs, ps, rfl, hy', hx, fun H1 same1 => q H1 same1⟩
theorem ok_gt {f : Addr} {fd : FuncData} (F : Fun K "__gt__" "Load.__gt__" sGt f fd) (T : LoadC K mg C fi) (S : SlX.SIsi K C) (B : Blt2 mg) (HL : HasM P w K mg base 4 C "__lt__" (spLt C)) : FnOk P w K mg base CX0 5 f fd ["self", "other"] (spGt C) := by
  obtain ⟨g2, c1, c2, c3, G2⟩ := HL
  refine F.ok scGt (fun vs H Q E h => ?_) (fun cdv A outer s H vs Q E hr h => ?_)
  · obtain ⟨x, y, ps, qs, rfl, _⟩ := h
    rfl
  · obtain ⟨x, y, ps, qs, rfl, hx, hy, q⟩ := h
    refine ⟨_, pss_cons (ps_if (pt_not (pt_truth (pe_callB call_isi (by rfl) B.isi bIsi (pa_cons (pv 1) (pa_cons (pe_glob (v := .ref C) (by rfl) T.gC rfl) pa_nil))) (fun _ => rfl))) (pss_one ps_never) pss_nil)
      (pss_one (ps_ret (pe_cmpR (op_cmp (op := .Lt) (fun _ _ => rfl) c1 c3 G2 hr pass0) (pv 1) (pv 0) (nomark _)))), ?_⟩
    refine ⟨_, rfl, .ref y, _, _, _, true, rfl, .own C, hy.ty T.c S, kit_self, true, rfl, ?_⟩
    have hy' := hy
    obtain ⟨dy, ty, h1, h2, cy⟩ := hy
    exact ⟨_, rfl, _, rfl, y, dy, _, _, rfl, h1, hx.ty T.c S, nf_self, y, x, qs, ps, rfl, hy', hx, fun H1 same1 => q H1 same1⟩
/-- the counts, a new dict -/
def spCounts (C : Addr) : Sp := fun vs H Q _ => ∃ (x : Addr) (ps : List (Str × Int)), vs = [.ref x] ∧ LoadAt C H x ps ∧ ∀ p, H p = none → Q (.ref p) (upd H p (.dK (cD ps)))
theorem scCounts : FnScope ["self"] ["self"] (defScope sCounts) := ⟨rfl, rfl, rfl, by decide +kernel, rfl, by decide +kernel, by decide +kernel⟩
theorem ok_counts {f : Addr} {fd : FuncData} (F : Fun K "counts" "Load.counts" sCounts f fd) (T : LoadC K mg C fi) (B : Blt2 mg) : FnOk P w K mg base CX0 1 f fd ["self"] (spCounts C) := by
  refine F.ok scCounts (fun vs H Q E h => ?_) (fun cdv A outer s H vs Q E hr h => ?_)
  · obtain ⟨x, ps, rfl, _⟩ := h
    rfl
  · obtain ⟨x, ps, rfl, ⟨dx, t, h1, h2, can⟩, q⟩ := h
    refine ⟨_, pss_one (ps_ret (pe_callTy call_dictD (by rfl) B.dict (by decide +kernel) (pa_cons (pe_fld (pv 0) rfl) pa_nil))), ?_⟩
    exact ⟨_, rfl, x, C, dx, _, _, rfl, h1, T.c, T.nc, rfl, t, cD ps, rfl, .inl h2, q⟩
end
end Ld
namespace Ld
open PySem PySem.Spec PyProof.Rows L2
/-! ### dicts of counts, filled -/
def putI (ps : List (Str × Int)) (z : Str) (i : Int) : List (Str × Int) := if z ∈ ps.map (·.1) then ps.map fun p => if p.1 = z then (p.1, i) else p else ps ++ [(z, i)]
theorem putI_keys_in {ps : List (Str × Int)} {z : Str} {i : Int} (h : z ∈ ps.map (·.1)) : (putI ps z i).map (·.1) = ps.map (·.1) := by
  unfold putI
  rw [if_pos h, List.map_map]
  refine List.map_congr_left fun p _ => ?_
  show (if p.1 = z then (p.1, i) else p).1 = p.1
  split <;> rfl
theorem putI_keys_out {ps : List (Str × Int)} {z : Str} {i : Int} (h : z ∉ ps.map (·.1)) : (putI ps z i).map (·.1) = ps.map (·.1) ++ [z] := by
  unfold putI
  rw [if_neg h, List.map_append]
  rfl
theorem putI_nd {ps : List (Str × Int)} {z : Str} {i : Int} (h : (ps.map (·.1)).Nodup) : ((putI ps z i).map (·.1)).Nodup := by
  by_cases e : z ∈ ps.map (·.1)
  · rw [putI_keys_in e]
    exact h
  · rw [putI_keys_out e, List.nodup_append]
    refine ⟨h, by simp, fun a ha b hb q => ?_⟩
    rw [List.mem_singleton.mp hb] at q
    exact e (q ▸ ha)
theorem putI_keys {ps : List (Str × Int)} {z : Str} {i : Int} {y : Str} : y ∈ (putI ps z i).map (·.1) → y = z ∨ y ∈ ps.map (·.1) := by
  intro h
  by_cases e : z ∈ ps.map (·.1)
  · rw [putI_keys_in e] at h
    exact .inr h
  · rw [putI_keys_out e] at h
    rcases List.mem_append.mp h with h | h
    · exact .inr h
    · exact .inl (List.mem_singleton.mp h)
theorem putI_key {ps : List (Str × Int)} {z : Str} {i : Int} : z ∈ (putI ps z i).map (·.1) := by
  by_cases e : z ∈ ps.map (·.1)
  · rw [putI_keys_in e]
    exact e
  · rw [putI_keys_out e]
    exact List.mem_append_right _ (List.mem_singleton.mpr rfl)
theorem putI_mem {ps : List (Str × Int)} {z : Str} {i : Int} {q : Str × Int} : q ∈ putI ps z i → q = (z, i) ∨ q ∈ ps := by
  intro h
  unfold putI at h
  split at h
  · obtain ⟨p, hp, e⟩ := List.mem_map.mp h
    split at e
    · rename_i e2
      exact .inl (by rw [← e, e2])
    · exact .inr (e ▸ hp)
  · rcases List.mem_append.mp h with h | h
    · exact .inr h
    · exact .inl (List.mem_singleton.mp h)
theorem putI_len {ps : List (Str × Int)} {z : Str} {i : Int} : (putI ps z i).length ≤ ps.length + 1 := by
  unfold putI
  split
  · rw [List.length_map]
    omega
  · rw [List.length_append]
    exact Nat.le_refl _
theorem putI_cD {ps : List (Str × Int)} {z : Str} {i : Int} : putK (cD ps) (Sum.inr z : Key) (.int i) = cD (putI ps z i) := by
  by_cases e : z ∈ ps.map (·.1)
  · unfold putI putK
    rw [if_pos e, valV_any, valV_cD, ctO_some e]
    show (cD ps).map _ = _
    unfold cD
    rw [List.map_map, List.map_map]
    refine List.map_congr_left fun p _ => ?_
    show (if (Sum.inr p.1 : Key) = Sum.inr z then ((Sum.inr p.1 : Key), V.int i) else (Sum.inr p.1, V.int p.2)) = _
    by_cases h : p.1 = z
    · rw [if_pos (by rw [h])]
      show _ = (Sum.inr (if p.1 = z then (p.1, i) else p).1, V.int (if p.1 = z then (p.1, i) else p).2)
      rw [if_pos h]
    · rw [if_neg fun q => h (Sum.inr.inj q)]
      show _ = (Sum.inr (if p.1 = z then (p.1, i) else p).1, V.int (if p.1 = z then (p.1, i) else p).2)
      rw [if_neg h]
  · rw [cD_put e]
    unfold putI
    rw [if_neg e]
theorem ctO_putI (ps : List (Str × Int)) (z y : Str) (i : Int) : ctO (putI ps z i) y = if y = z then some i else ctO ps y := by
  have h : (ctO (putI ps z i) y).map V.int = (if y = z then some i else ctO ps y).map V.int := by
    rw [← valV_cD, ← putI_cD, valV_put]
    by_cases e : y = z
    · rw [if_pos e, if_pos (by rw [e])]
      rfl
    · rw [if_neg e, if_neg fun q => e (Sum.inr.inj q), valV_cD]
  cases h1 : ctO (putI ps z i) y with
  | none =>
    rw [h1] at h
    cases h2 : (if y = z then some i else ctO ps y) with
    | none => rfl
    | some b => rw [h2] at h; cases h
  | some a =>
    rw [h1] at h
    cases h2 : (if y = z then some i else ctO ps y) with
    | none => rw [h2] at h; cases h
    | some b =>
      rw [h2] at h
      have : V.int a = V.int b := Option.some.inj h
      rw [V.int.inj this]
theorem ct_putI (ps : List (Str × Int)) (z y : Str) (i : Int) : ct (putI ps z i) y = if y = z then i else ct ps y := by
  unfold ct
  rw [ctO_putI]
  split <;> rfl
/-- dict(pairs) -/
def mrg (acc qs : List (Str × Int)) : List (Str × Int) := qs.foldl (fun a q => putI a q.1 q.2) acc
theorem mergeK_cD : ∀ (qs acc : List (Str × Int)), mergeK (cD acc) (cD qs) = cD (mrg acc qs)
  | [], acc => rfl
  | q :: r, acc => by
    show mergeK (putK (cD acc) (Sum.inr q.1) (.int q.2)) (cD r) = _
    rw [putI_cD, mergeK_cD r]
    rfl
theorem mrg_nd : ∀ {qs acc : List (Str × Int)}, (acc.map (·.1)).Nodup → ((mrg acc qs).map (·.1)).Nodup
  | [], _, h => h
  | q :: r, _, h => mrg_nd (qs := r) (putI_nd h)
theorem mrg_mem : ∀ {qs acc : List (Str × Int)} {q : Str × Int}, q ∈ mrg acc qs → q ∈ acc ∨ q ∈ qs
  | [], _, _, h => .inl h
  | p :: r, acc, q, h => by
    rcases mrg_mem (qs := r) h with h | h
    · rcases putI_mem h with h | h
      · exact .inr (by rw [h]; exact List.mem_cons_self)
      · exact .inl h
    · exact .inr (List.mem_cons_of_mem _ h)
theorem mrg_len : ∀ {qs acc : List (Str × Int)}, (mrg acc qs).length ≤ acc.length + qs.length
  | [], _ => Nat.le_refl _
  | q :: r, acc => by
    have h1 := mrg_len (qs := r) (acc := putI acc q.1 q.2)
    have h2 := putI_len (ps := acc) (z := q.1) (i := q.2)
    show (mrg (putI acc q.1 q.2) r).length ≤ _
    rw [List.length_cons]
    omega
theorem cD_nil : cD [] = [] := rfl
/-- a dict from words of a list to numbers below a bound -/
structure Ds (ws : List Str) (b : Nat) (ps : List (Str × Int)) : Prop where
  nd : (ps.map (·.1)).Nodup
  sub : ∀ z ∈ ps.map (·.1), z ∈ ws
  sm : ∀ p ∈ ps, p.2.natAbs < b
  few : ps.length ≤ 100
theorem Ds.mono {ws : List Str} {b c : Nat} {ps : List (Str × Int)} (h : Ds ws b ps) (k : b ≤ c) : Ds ws c ps := ⟨h.nd, h.sub, fun p hp => Nat.lt_of_lt_of_le (h.sm p hp) k, h.few⟩
theorem Ds.ct {ws : List Str} {b : Nat} {ps : List (Str × Int)} (h : Ds ws b ps) (hb : 0 < b) (z : Str) : (ct ps z).natAbs < b := by
  by_cases e : z ∈ ps.map (·.1)
  · obtain ⟨p, hp, e⟩ := List.mem_map.mp e
    rw [← e, ct_mem h.nd hp]
    exact h.sm p hp
  · rw [ct_out e]
    exact hb
theorem ds_mrg {ws : List Str} {b : Nat} {qs : List (Str × Int)} (h1 : ∀ q ∈ qs, q.1 ∈ ws ∧ q.2.natAbs < b) (h2 : qs.length ≤ 100) : Ds ws b (mrg [] qs) := by
  refine ⟨mrg_nd List.nodup_nil, fun z hz => ?_, fun p hp => ?_, ?_⟩
  · obtain ⟨p, hp, rfl⟩ := List.mem_map.mp hz
    rcases mrg_mem hp with h | h
    · cases h
    · exact (h1 p h).1
  · rcases mrg_mem hp with h | h
    · cases h
    · exact (h1 p h).2
  · have := mrg_len (qs := qs) (acc := [])
    rw [List.length_nil] at this
    omega
theorem nd_len {l m : List Str} (nd : l.Nodup) (h : ∀ x ∈ l, x ∈ m) : l.length ≤ m.length := by
  induction l generalizing m with
  | nil => exact Nat.zero_le _
  | cons a r ih =>
    obtain ⟨h1, h2⟩ := List.nodup_cons.mp nd
    have ha : a ∈ m := h a List.mem_cons_self
    have := ih (m := m.erase a) h2 fun x hx => (List.mem_erase_of_ne (fun (e : x = a) => h1 (e ▸ hx))).mpr (h x (List.mem_cons_of_mem _ hx))
    rw [List.length_erase_of_mem ha] at this
    have : 0 < m.length := List.length_pos_of_mem ha
    rw [List.length_cons]
    omega
theorem ds_put {ws : List Str} {b : Nat} {ps : List (Str × Int)} {z : Str} {i : Int} (h : Ds ws b ps) (hz : z ∈ ws) (hi : i.natAbs < b) (hw : ws.length ≤ 100) : Ds ws b (putI ps z i) := by
  have nd := putI_nd (z := z) (i := i) h.nd
  have sub : ∀ y ∈ (putI ps z i).map (·.1), y ∈ ws := fun y hy => by
    rcases putI_keys hy with e | e
    · rw [e]
      exact hz
    · exact h.sub y e
  refine ⟨nd, sub, fun p hp => ?_, ?_⟩
  · rcases putI_mem hp with e | e
    · rw [e]
      exact hi
    · exact h.sm p e
  · have := nd_len nd sub
    rw [List.length_map] at this
    omega
/-! ### the told comparisons, by the gaps -/
theorem leB_iff {ps qs : List (Str × Int)} : leB ps qs = true ↔ ∀ z, ct ps z ≤ ct qs z := by
  unfold leB
  rw [List.all_eq_true]
  constructor
  · intro h z
    by_cases e : z ∈ ps.map (·.1) ++ qs.map (·.1)
    · exact of_decide_eq_true (h z e)
    · rw [List.mem_append, not_or] at e
      rw [ct_out e.1, ct_out e.2]
      exact Int.le_refl _
  · intro h z _
    exact decide_eq_true (h z)
theorem leB_gaps {ps qs as bs : List (Str × Int)} {ws : List Str} {m : Int} (ha : ∀ z, ct as z = ct ps z) (hb : ∀ z, ct bs z = ct qs z) (k1 : ∀ z ∈ ps.map (·.1), z ∈ ws) (k2 : ∀ z ∈ qs.map (·.1), z ∈ ws)
    (hm : m ∈ (ws.map fun z => ct qs z - ct ps z) ++ [0]) (hle : ∀ y ∈ (ws.map fun z => ct qs z - ct ps z) ++ [0], m ≤ y) : leB as bs = decide (m = 0) := by
  rw [Bool.eq_iff_iff, leB_iff, decide_eq_true_eq]
  have h0 : m ≤ 0 := hle 0 (List.mem_append_right _ (List.mem_singleton.mpr rfl))
  constructor
  · intro h
    rcases List.mem_append.mp hm with e | e
    · obtain ⟨z, _, e⟩ := List.mem_map.mp e
      have := h z
      rw [ha, hb] at this
      omega
    · exact List.mem_singleton.mp e
  · intro h z
    rw [ha, hb]
    by_cases e : z ∈ ws
    · have := hle _ (List.mem_append_left _ (List.mem_map.mpr ⟨z, e, rfl⟩))
      omega
    · rw [ct_out fun q => e (k1 z q), ct_out fun q => e (k2 z q)]
      exact Int.le_refl _
theorem leB_gaps2 {ps qs as bs : List (Str × Int)} {ws : List Str} {m : Int} (ha : ∀ z, ct as z = ct ps z) (hb : ∀ z, ct bs z = ct qs z) (k1 : ∀ z ∈ ps.map (·.1), z ∈ ws) (k2 : ∀ z ∈ qs.map (·.1), z ∈ ws)
    (hm : m ∈ (ws.map fun z => ct qs z - ct ps z) ++ [0]) (hle : ∀ y ∈ (ws.map fun z => ct qs z - ct ps z) ++ [0], y ≤ m) : leB bs as = decide (m = 0) := by
  rw [Bool.eq_iff_iff, leB_iff, decide_eq_true_eq]
  have h0 : 0 ≤ m := hle 0 (List.mem_append_right _ (List.mem_singleton.mpr rfl))
  constructor
  · intro h
    rcases List.mem_append.mp hm with e | e
    · obtain ⟨z, _, e⟩ := List.mem_map.mp e
      have := h z
      rw [ha, hb] at this
      omega
    · exact List.mem_singleton.mp e
  · intro h z
    rw [ha, hb]
    by_cases e : z ∈ ws
    · have := hle _ (List.mem_append_left _ (List.mem_map.mpr ⟨z, e, rfl⟩))
      omega
    · rw [ct_out fun q => e (k1 z q), ct_out fun q => e (k2 z q)]
      exact Int.le_refl _
theorem eq_le {as bs : List (Str × Int)} (a : Can as) (b : Can bs) : decide (as = bs) = (leB as bs && leB bs as) := by
  rw [Bool.eq_iff_iff, Bool.and_eq_true, leB_iff, leB_iff, decide_eq_true_eq]
  constructor
  · rintro rfl
    exact ⟨fun _ => Int.le_refl _, fun _ => Int.le_refl _⟩
  · rintro ⟨h1, h2⟩
    exact can_eq a b fun z => Int.le_antisymm (h1 z) (h2 z)
end Ld
namespace Ld
open PySem PySem.Spec PyProof.Rows L2
/-! ### reading dicts of counts -/
theorem dget_ct {H : Hp} {a : Addr} {ps : List (Str × Int)} {z : Str} (e : H a = some (.dK (cD ps))) : DGet H a (.str z) ((ctO ps z).map V.int) := by
  have q := DGet.k (k := (Sum.inr z : Key)) e
  rw [valV_cD] at q
  exact q
theorem getD_ct {ps : List (Str × Int)} {z : Str} : ((ctO ps z).map V.int).getD (.int 0) = .int (ct ps z) := by
  unfold ct
  cases ctO ps z <;> rfl
theorem dput_ct {H : Hp} {a : Addr} {ps : List (Str × Int)} {z : Str} {i : Int} (e : H a = some (.dK (cD ps))) (hl : ps.length ≤ 1000) : DPut H a (.str z) (.int i) (upd H a (.dK (cD (putI ps z i)))) := by
  have q := DPut.k (k := (Sum.inr z : Key)) (v := .int i) e (by rw [cD_len]; exact Nat.lt_of_le_of_lt hl (by decide))
  rw [putI_cD] at q
  exact q
/-! ### pairs made one by one -/
def TupsAt (H : Hp) (ts : List Addr) (qs : List (Str × Int)) : Prop := Paired (fun t q => H t = some (.tup [V.str q.1, V.int q.2])) ts qs
theorem TupsAt.keep {H H' : Hp} {ts : List Addr} {qs : List (Str × Int)} (h : TupsAt H ts qs) (k : ∀ t xs, H t = some (.tup xs) → H' t = some (.tup xs)) : TupsAt H' ts qs := Paired.mono (fun _ _ e => k _ _ e) h
theorem TupsAt.cD {K : PySem.W.Frag} {H : Hp} : ∀ {ts : List Addr} {qs : List (Str × Int)}, TupsAt H ts qs → Paired (fun p kv => SqT K H p [kV kv.1, kv.2]) ts (cD qs)
  | _, _, .nil => .nil
  | _, _, .cons h t => .cons (.inl (.inl h)) (TupsAt.cD t)
theorem SameP.tup {p : Addr} {H H' : Hp} {c : Addr} {ns : List Int} {u r : Int} (s : SameP p H H') (P : PenAt H p c ns u r) (t : Addr) (xs : List V) (h : H t = some (.tup xs)) : H' t = some (.tup xs) := by
  obtain ⟨kvs, hp, _⟩ := P.ob
  exact s _ _ h (ne_of h hp fun z => nomatch z)
theorem PenAt.nd {H : Hp} {p c : Addr} {ns : List Int} {u r : Int} (P : PenAt H p c ns u r) {d : Addr} (h : H d = none) : d ≠ p := by
  obtain ⟨kvs, hp, _⟩ := P.ob
  exact (ne_of_none hp h).symm
theorem PenAt.nc {H : Hp} {p c : Addr} {ns : List Int} {u r : Int} (P : PenAt H p c ns u r) {d : Addr} (h : H d = none) : d ≠ c := (ne_of_none P.cl h).symm
theorem PenAt.nl {H : Hp} {p c : Addr} {ns : List Int} {u r : Int} (P : PenAt H p c ns u r) {d : Addr} {xs : List V} (h : H d = some (.lst xs)) : d ≠ p := by
  obtain ⟨kvs, hp, _⟩ := P.ob
  exact ne_of h hp fun z => nomatch z
/-- what is new to a heap is new to the one before -/
theorem SameP.none {p : Addr} {H H' : Hp} (s : SameP p H H') {d : Addr} (h : H' d = none) (n : d ≠ p) : H d = none := by
  cases e : H d with
  | none => rfl
  | some o => rw [s _ _ e n] at h; cases h
theorem Same.none {H H' : Hp} (s : Same H H') {d : Addr} (h : H' d = none) : H d = none := by
  cases e : H d with
  | none => rfl
  | some o => rw [s _ _ e] at h; cases h
/-! ### loads made by a call of the class -/
section
variable {C : Addr} {σ : L2.St} {H : Hp} {Q : Addr → Hp → Prop}
theorem made_load {y : List Str} {zs : List V} {ps : List (Str × Int)} (hz : zs.length = y.length) (hk : kwD y zs = cD ps) (nd : (ps.map (·.1)).Nodup) (few : ps.length ≤ 1000) (wd : ∀ p ∈ ps, wordB p.1 = true)
    (h : ∀ (H' : Hp) (x : Addr) (ps' : List (Str × Int)), Same H H' → H x = none → LoadAt C H' x ps' → (∀ z, ct ps' z = ct ps z) → Q x H') :
    ∀ x dx, H x = Option.none → H dx = Option.none → dx ≠ x → spKw y (spInitB C) (V.ref x :: zs) (upd (upd H dx (.own x)) x (.ins C dx [])) (fun v H3 => v = .non ∧ Q x H3) E0 := by
  intro x dx hx hdx ne
  refine ⟨.ref x, zs, rfl, hz, fun d hd => ?_⟩
  have ndx : d ≠ x := fun e => by rw [e, upd_same] at hd; cases hd
  refine ⟨x, dx, d, ps, [], rfl, by rw [upd_ne ndx.symm, upd_same], by decide, ⟨by rw [upd_same, hk], nd, few, wd⟩, fun H4 t ps' keep hx4 ht can cts => ⟨rfl, ?_⟩⟩
  refine h H4 x ps' (fun b o eb => ?_) hx ⟨dx, t, hx4, ht, can⟩ cts
  have nb : b ≠ x := ne_of_none eb hx
  have nb2 : b ≠ dx := ne_of_none eb hdx
  refine keep b o nb ?_
  by_cases e : b = d
  · exfalso
    rw [upd_ne ndx] at hd
    rw [← e, upd_ne nb2, eb] at hd
    cases hd
  · rw [upd_ne e, upd_ne nb, upd_ne nb2]
    exact eb
end
end Ld
/-! sets of texts: set(list of texts), set(dict of texts), sorted of such a set -/
namespace Ld
open PySem PySem.Spec PyProof.Rows L2
/-- the text of an entry -/
def txOf (e : Int × Value) : Str := match e.2 with | .str z _ => z | _ => Str.empty
/-- an entry that holds a text, by its hash -/
def TxE (w : World) (e : Int × Value) : Prop := ∃ z tk, e.2 = Value.str z tk ∧ e.1 = hashStr w z
/-- a table that can be walked -/
structure Tab (w : World) (n : Nat) (t : SetTable) : Prop where
  fit : t.fits n = true
  ris : Ris t.place.toList
  led : w.params.followText "set-order" = true ∨ t.led = true
/-- the set of texts at a, in the order L -/
def TxSet (w : World) (h : Heap) (a : Addr) (L : List Str) : Prop :=
  ∃ o es ep t, h.get? a = some o ∧ o.ExactSet ∧ o.data = .set es ep t ∧ (∀ e ∈ es.toList, TxE w e) ∧ es.toList.map txOf = L ∧ L.Nodup ∧ es.size < scanBound ∧ Tab w es.size t
section
variable {P : Program} {w : World} {h h' : Heap} {a : Addr} {L : List Str}
theorem TxSet.at (R : TxSet w h a L) (k : ∀ o, h.get? a = some o → h'.get? a = some o) : TxSet w h' a L := by
  obtain ⟨o, es, ep, t, ho, r⟩ := R
  exact ⟨o, es, ep, t, k o ho, r⟩
theorem tx_elems {l : List (Int × Value)} (g : ∀ e ∈ l, TxE w e) : ElemsOf (PySem.strKind P w) l := fun e he => by
  obtain ⟨z, tk, h1, h2⟩ := g e he
  exact ⟨⟨z, by rw [h1]; exact strKind_is P w z tk, h2⟩, by rw [h1]; rfl⟩
theorem tx_is {e : Int × Value} (g : TxE w e) (z : Str) : (PySem.strKind P w).is z e.2 = true ↔ txOf e = z := by
  obtain ⟨y, tk, h1, _⟩ := g
  unfold txOf
  rw [h1]
  show (Value.isStrOf z (.str y tk) = true) ↔ y = z
  simp only [Value.isStrOf, beq_iff_eq]
  try exact eq_comm
theorem tx_fresh {o : Obj} (ho : h.get? a = some o) (e : o = { cls := .type "set", dict := none, data := .set #[] 0 (.fresh 0 0 (!w.params.followText "set-order")) }) : TxSet w h a [] := by
  subst e
  refine ⟨_, #[], 0, _, ho, ⟨rfl, rfl, rfl⟩, rfl, fun e he => by simp at he, rfl, List.nodup_nil, by decide, ⟨rfl, List.Pairwise.nil, ?_⟩⟩
  show _ ∨ (!w.params.followText "set-order") = true
  cases w.params.followText "set-order" with
  | true => exact .inl rfl
  | false => exact .inr rfl
end
section
variable {P : Program} {w : World} {A : Around} {E : Value → Shared → Prop} {s : Shared} {a : Addr} {L : List Str}
/-- what is laid into the set's own object -/
theorem tx_store {h : Heap} {o : Obj} {es es' : Array (Int × Value)} {ep : Nat} {t t' : SetTable} (ho : h.get? a = some o) (hex : o.ExactSet) (hd : o.data = .set es ep t) (g : ∀ e ∈ es'.toList, TxE w e) (nd : (es'.toList.map txOf).Nodup) (hb : es'.size < scanBound) (T : Tab w es'.size t') :
    TxSet w (h.update a (Obj.putSet es' t')) a (es'.toList.map txOf) ∧ ∃ o', (h.update a (Obj.putSet es' t')).get? a = some o' ∧ o'.ExactSet ∧ o'.data = .set es' (ep + 1) t' := by
  have q := store_at (es' := es') (t' := t') ho hd
  exact ⟨⟨_, es', ep + 1, t', q, hex, rfl, g, rfl, nd, hb, T⟩, _, q, hex, rfl⟩
/-- the end of an addition: the entry is laid, the table perhaps laid anew -/
theorem tx_tail {g : Bool → Sem Unit} (hg : ∀ (b : Bool) (s₁ : Shared) (Q' : Unit → Shared → Prop), Q' () s₁ → wpAny (model P w) A (g b) Q' E s₁) {o : Obj} {es : Array (Int × Value)} {ep : Nat} {t : SetTable}
    (ho : s.heap.get? a = some o) (hex : o.ExactSet) (hd : o.data = .set es ep t) {es1 : Array (Int × Value)} {t2 : SetTable} (g1 : ∀ e ∈ es1.toList, TxE w e) (nd1 : (es1.toList.map txOf).Nodup) (hb1 : es1.size < scanBound) (T2 : Tab w es1.size t2)
    {wasDummy : Bool} {R : Option Bool → Shared → Prop} (hR : ∀ h' L', Heap.SameBut a s.heap h' → TxSet w h' a L' → L'.Perm (es1.toList.map txOf) → R (some true) { s with heap := h' }) :
    wpAny (model P w) A (do
        storeSet a es1 t2
        if (!wasDummy && t2.tooFull) = true then do
            g (relayAll t2 es1 (SetTable.grown es1.size)).2.2
            storeSet a (relayAll t2 es1 (SetTable.grown es1.size)).1 (relayAll t2 es1 (SetTable.grown es1.size)).2.1
            pure (some true)
          else pure (some true)) R E s := by
  refine wpAny_bind (wpAny_storeSet_of ho hd ?_ (fits_of_scanBound hb1))
  obtain ⟨x1, o1, ho1, hex1, hd1⟩ := tx_store (a := a) (t' := t2) ho hex hd g1 nd1 hb1 T2
  have sb1 := Heap.SameBut.update s.heap a (Obj.putSet es1 t2)
  by_cases c : (!wasDummy && t2.tooFull) = true
  · rw [if_pos c]
    have pm := relayAll_perm t2 es1 (SetTable.grown es1.size)
    have f3 := relayAll_fits t2 es1 (SetTable.grown es1.size)
    have r3 := relayAll_ris t2 es1 (SetTable.grown es1.size)
    have l3 := relayAll_led t2 es1 (SetTable.grown es1.size)
    generalize relayAll t2 es1 (SetTable.grown es1.size) = Z at pm f3 r3 l3 ⊢
    obtain ⟨es2, t3, gave⟩ := Z
    dsimp only at pm f3 r3 l3 ⊢
    have hsz : es2.size = es1.size := by
      have := pm.length_eq
      rwa [Array.length_toList, Array.length_toList] at this
    have hb2 : es2.size < scanBound := by rw [hsz]; exact hb1
    have pk := pm.map txOf
    obtain ⟨x2, _⟩ := tx_store (a := a) (t' := t3) ho1 hex1 hd1 (fun e he => g1 e (pm.mem_iff.mp he)) (pk.nodup_iff.mpr nd1) hb2 ⟨f3, r3, T2.led.imp id fun q => by rw [l3]; exact q⟩
    exact wpAny_bind (hg _ _ _ (wpAny_bind (wpAny_storeSet_of ho1 hd1 (wpAny_pure (hR _ _ (sb1.trans (Heap.SameBut.update _ a _)) x2 pk)) (fits_of_scanBound hb2))))
  · rw [if_neg c]
    exact wpAny_pure (hR _ _ sb1 x1 (List.Perm.refl _))
theorem tx_add {z : Str} {tk : Tok} {Q : Bool → Shared → Prop} (R : TxSet w s.heap a L) (room : L.length + 1 < scanBound)
    (hQ : ∀ h' L' b, Heap.SameBut a s.heap h' → TxSet w h' a L' → (∀ y, y ∈ L' ↔ y = z ∨ y ∈ L) → L'.length ≤ L.length + 1 → Q b { s with heap := h' }) :
    wpAny (model P w) A (setAddHashed a (.str z tk) (hashStr w z)) Q E s := by
  obtain ⟨o, es, ep, t, ho, hex, hd, g, hL, nd, hb, T⟩ := R
  have hkey : (PySem.strKind P w).is z (.str z tk) = true := strKind_is P w z tk
  have hsc : (Value.str z tk).scannable = true := rfl
  have hel : ElemsOf (PySem.strKind P w) es.toList := tx_elems g
  have hlen : L.length = es.size := by rw [← hL, List.length_map, Array.length_toList]
  unfold setAddHashed setAddHashedIn
  refine wpAny_holding (wpAny_bind (wpAny_setState_of ho hd T.fit ?_))
  dsimp only
  rw [byScan_of hsc hb hel, if_pos rfl]
  unfold setAddByScan
  refine wpAny_bind (wpAny_bind (wpAny_rule (wpAny_bind (wpAny_setScan_of (knd := PySem.strKind P w) hkey ho hd T.fit hel ?_))))
  cases hfi : List.findIdx? (fun e => (PySem.strKind P w).is z e.2) es.toList with
  | some j =>
    dsimp only
    obtain ⟨hj, pj, _⟩ := List.findIdx?_eq_some_iff_getElem.mp hfi
    have hm : z ∈ L := by
      rw [← hL]
      exact List.mem_map.mpr ⟨_, List.getElem_mem hj, (tx_is (P := P) (g _ (List.getElem_mem hj)) z).mp pj⟩
    refine wpAny_pure (wpAny_pure (hQ s.heap L _ (Heap.SameBut.refl a s.heap) ⟨o, es, ep, t, ho, hex, hd, g, hL, nd, hb, T⟩ (fun y => ⟨.inr, fun q => q.elim (fun e => by rw [e]; exact hm) id⟩) (Nat.le_succ _)))
  | none =>
    dsimp only
    have hn : z ∉ L := fun q => by
      rw [← hL] at q
      obtain ⟨e, he, q⟩ := List.mem_map.mp q
      have c := List.findIdx?_eq_none_iff.mp hfi e he
      rw [(tx_is (P := P) (g e he) z).mpr q] at c
      cases c
    have hgw : ∀ (b : Bool) {s₁ : Shared} {Q' : Unit → Shared → Prop}, Q' () s₁ → wpAny (model P w) A (match b with | true => rule "set.scan.the-table-gave-way" | false => pure ()) Q' E s₁ :=
      fun b _ _ q => match b with | true => wpAny_rule q | false => wpAny_pure q
    have pm := layNew_perm t es ((PySem.strKind P w).hash z) (.str z tk)
    have f1 := layNew_fits t es ((PySem.strKind P w).hash z) (.str z tk)
    have r1 := layNew_ris t es ((PySem.strKind P w).hash z) (.str z tk) T.ris
    have l1 := layNew_led t es ((PySem.strKind P w).hash z) (.str z tk)
    show wpAny (model P w) A _ _ _ _
    have eH : hashStr w z = (PySem.strKind P w).hash z := rfl
    rw [eH]
    generalize layNew t es ((PySem.strKind P w).hash z) (.str z tk) = Z at pm f1 r1 l1 ⊢
    obtain ⟨es1, t1, wasDummy, gave⟩ := Z
    dsimp only at pm f1 r1 l1 ⊢
    rw [Array.toList_push] at pm
    have pc : es1.toList.Perm (((PySem.strKind P w).hash z, Value.str z tk) :: es.toList) := pm.trans (List.perm_append_singleton _ _)
    have pk : (es1.toList.map txOf).Perm (z :: L) := by
      have q := pc.map txOf
      rw [List.map_cons, hL] at q
      exact q
    have g1 : ∀ e ∈ es1.toList, TxE w e := fun e he => by
      rcases List.mem_cons.mp (pc.mem_iff.mp he) with q | q
      · rw [q]
        exact ⟨z, tk, rfl, rfl⟩
      · exact g e q
    have nd1 : (es1.toList.map txOf).Nodup := pk.nodup_iff.mpr (List.nodup_cons.mpr ⟨hn, nd⟩)
    have hsz : es1.size = L.length + 1 := by
      have q := pc.length_eq
      rw [List.length_cons, Array.length_toList, Array.length_toList] at q
      omega
    have hb1 : es1.size < scanBound := by omega
    have hled : w.params.followText "set-order" = true ∨ t1.led = true := T.led.imp id fun q => by rw [l1]; exact q
    have fin : ∀ h' L', Heap.SameBut a s.heap h' → TxSet w h' a L' → L'.Perm (es1.toList.map txOf) → Q true { s with heap := h' } := fun h' L' sb x p => by
      have p2 := p.trans pk
      exact hQ h' L' true sb x (fun y => by rw [p2.mem_iff, List.mem_cons]) (by rw [p2.length_eq, List.length_cons]; exact Nat.le_refl _)
    refine wpAny_bind (hgw _ ?_)
    split
    · refine wpAny_bind ?_
      rw [hashByValue_scannable 8 hsc]
      refine wpAny_pure ?_
      refine tx_tail ?_ ho hex hd g1 nd1 hb1 ⟨?_, ?_, ?_⟩ ?_
      · intro b s₁ Q' q; cases b <;> first | exact wpAny_pure q | exact wpAny_rule q
      · first | (split <;> first | exact f1 | exact SetTable.fits_plain_off f1) | exact f1
      · first | (split <;> exact r1) | exact r1
      · first | (split <;> exact hled) | exact hled
      · intro h' L' sb x p; dsimp only; exact wpAny_pure (fin h' L' sb x p)
    · refine wpAny_bind (wpAny_pure ?_)
      simp only [↓reduceIte]
      refine tx_tail ?_ ho hex hd g1 nd1 hb1 ⟨f1, r1, hled⟩ ?_
      · intro b s₁ Q' q; cases b <;> first | exact wpAny_pure q | exact wpAny_rule q
      · intro h' L' sb x p; dsimp only; exact wpAny_pure (fin h' L' sb x p)
end
end Ld
namespace Ld
open PySem PySem.Spec PyProof.Rows L2
section
variable {P : Program} {w : World} {A : Around} {E : Value → Shared → Prop} {s : Shared}
/-- the loop that lays the items of a walk into a set -/
theorem tx_loop {I : Addr} {fp wr : List Addr} {G : Array GenState → Array GenState → Prop} {n : Nat} {Pv : Nat → Value → Prop} {St : Nat → Shared → Prop} {R : Result → Shared → Prop}
    (W : WalksS P w A.in1 I fp wr G n Pv St) (S : Addr) (hSf : S ∉ fp) (xs : List Str) (hn : n = xs.length) (hb : xs.length + 1 < scanBound) (hval : ∀ i v, Pv i v → ∃ z t, xs[i]? = some z ∧ v = .str z t) :
    ∀ (k i : Nat) (s : Shared), n - i = k → i ≤ n → St i s → (∃ L, L.length ≤ i ∧ TxSet w s.heap S L ∧ ∀ y, y ∈ L ↔ y ∈ xs.take i) →
      (∀ s' L, Moved (S :: wr) G s s' → TxSet w s'.heap S L → L.length ≤ n → (∀ y, y ∈ L ↔ y ∈ xs) → R (.ok (.ret .none)) s') →
      codeAny (model P w) A (.builtin "set.update.loop" ⟨[.ref S, .ref I], []⟩) R s := by
  have hSw : S ∉ wr := fun h => hSf (W.sub _ h)
  have hsub : ∀ b ∈ wr, b ∈ S :: wr := fun b hb => List.mem_cons_of_mem _ hb
  intro k
  induction k with
  | zero =>
    rintro i s hk hi hst ⟨L, hL, x, hm⟩ hR
    obtain rfl : i = n := by omega
    refine codeAny_builtin F.entry_set_update_loop ?_
    rw [Around.under_plainId F.plain_set_update_loop _]
    show wpAny _ A.in1 (pyNext (.ref I) >>= _) _ _ s
    refine wpAny_bind (W.done s _ _ hst fun s' mv => ?_)
    show wpAny _ A.in1 (ret Value.none) _ _ s'
    rw [List.take_of_length_le (by omega)] at hm
    exact wpAny_pure (hR s' L (mv.mono hsub) (x.at fun o e => mv.heap S o hSw e) hL hm)
  | succ k ih =>
    rintro i s hk hi hst ⟨L, hL, x, hm⟩ hR
    have hlt : i < n := by omega
    refine codeAny_builtin F.entry_set_update_loop ?_
    rw [Around.under_plainId F.plain_set_update_loop _]
    show wpAny _ A.in1 (pyNext (.ref I) >>= _) _ _ s
    refine wpAny_bind (W.item i s _ _ hlt hst fun v s' hP hst' mv => ?_)
    obtain ⟨z, t, hz, rfl⟩ := hval i v hP
    have x' : TxSet w s'.heap S L := x.at fun o e => mv.heap S o hSw e
    show wpAny _ A.in1 (holding [Value.str z t] (setAdd S (.str z t)) >>= _) _ _ s'
    refine wpAny_bind (wpAny_holding ?_)
    unfold setAdd
    refine wpAny_holding (wpAny_bind ((PySem.strKind P w).pyHash (k := z) (strKind_is _ _ _ _) ?_))
    refine tx_add (s := { s' with toks := s'.toks + 1 }) x' (by omega) fun h' L' b sb x2 hm2 hl2 => ?_
    refine wpAny_pure ⟨plainId_quiet F.plain_set_update_loop _, ih (i + 1) _ (by omega) hlt (W.frame _ s' _ _ hst' (Nat.le_succ _) fun b hb o e => ?_) ⟨L', by omega, x2, fun y => ?_⟩ fun s'' L2 mv2 x3 hl3 hm3 => ?_⟩
    · rw [sb.2 b (fun q : b = S => hSf (by rw [← q]; exact hb))]
      exact e
    · rw [hm2, hm, List.take_add_one, hz, List.mem_append]
      show _ ↔ _ ∨ y ∈ [z]
      rw [List.mem_singleton]
      exact Or.comm
    · refine hR s'' L2 (Moved.trans W.gtrans ((mv.mono hsub).then_heap (Nat.le_succ _) fun b o hb e => ?_) mv2) x3 hl3 hm3
      rw [sb.2 b (fun q : b = S => hb (by rw [q]; exact List.mem_cons_self))]
      exact e
abbrev set0 (w : World) : Obj := { cls := .type "set", dict := none, data := .set #[] 0 (.fresh 0 0 (!w.params.followText "set-order")) }
/-- set(x): the new set, then x's items laid into it -/
theorem set_from {x : Value} {Q : Value → Shared → Prop}
    (h : wpAny (model P w) A.in1.in1 (Builtin.Frozenset.updateFrom "set.__init__" s.heap.objs.size x) (fun _ s' => Q (.ref s.heap.objs.size) s') E { s with heap := s.heap.push (set0 w) }) :
    wpAny (model P w) A (call (.type "set") [x]) Q E s := by
  obtain ⟨c, tl, hmro⟩ := F.called_set.mro
  have hmade := F.called_set.made
  have hsub := F.called_set.sub
  refine wpAny_call (codeAny_of_tree ?_)
  show wpAny _ _ (callAny (.type "set") _) _ _ _
  refine wpAny_pure ⟨Code.quiet_builtin _ (by decide +kernel), codeAny_builtin F.entry_type_call ?_⟩
  rw [Around.under_plain (weight_type_call_type "set" [x] []) rfl]
  have h1 := F.called_set.notType
  have h2 := F.called_set.canCreate
  have hct := F.typeCall_set_1 x
  repeat (any_goals (first | assumption | wp_step))
  refine codeAny_mono (code_set_led1 x (E := E) (Q₁ := fun obj s₁ => obj = .ref s.heap.objs.size ∧ s₁ = { s with heap := s.heap.push (set0 w) }) ⟨rfl, rfl⟩) fun r s₁ hr => ?_
  cases r with
  | error e => exact hr
  | ok fl =>
    cases fl with
    | ret obj =>
      obtain ⟨rfl, rfl⟩ := hr
      have hS : (s.heap.push (set0 w)).get? s.heap.objs.size = some (set0 w) := Heap.get?_push_size _ rfl
      have hT : Shared.TypeIs { s with heap := s.heap.push (set0 w) } (.ref s.heap.objs.size) "set" := ⟨_, hS, rfl⟩
      have hli := F.called_set.init.lookup
      have hbi := F.called_set.init.bind (.ref s.heap.objs.size)
      repeat (any_goals (first | assumption | wp_step))
      refine codeAny_mono (codeAny_call_builtin (R := wants (fun r s₂ => r = .none ∧ Q (.ref s.heap.objs.size) s₂) E) F.called_set.init.plain F.entry_set_init (check_set_init_1 hT ?_)) fun r₂ s₂ hr₂ => ?_
      · unfold Builtin.«set.__init__» noKeywords
        generalize hUF : Builtin.Frozenset.updateFrom = UF at h ⊢
        wp_walk
        refine wpAny_mono h (fun _ s' q => ?_) fun _ _ e => e
        first
          | exact wpAny_pure ⟨rfl, q⟩
          | (wp_walk; exact ⟨rfl, q⟩)
      · cases r₂ with
        | error e => exact hr₂
        | ok fl₂ =>
          cases fl₂ with
          | ret r =>
            obtain ⟨rfl, q⟩ := hr₂
            repeat (any_goals (first | assumption | wp_step))
          | _ => exact hr₂.elim
    | _ => exact hr.elim
end
end Ld
namespace Ld
open PySem PySem.Spec PyProof.Rows L2
theorem sizeAbove_le (n : Nat) : ∀ f size, SetTable.sizeAbove.go n f size ≤ max size (2 * n)
  | 0, size => Nat.le_max_left _ _
  | f + 1, size => by
    unfold SetTable.sizeAbove.go
    split
    · have := sizeAbove_le n f (size * 2)
      omega
    · exact Nat.le_max_left _ _
theorem live_none (m : Nat) : (List.range (m + 1)).filterMap (fun j => (((Array.replicate (m + 1) none : Array (Option Nat)).getD j none).map (j, ·))) = ([] : List (Nat × Nat)) := by
  refine List.filterMap_eq_nil_iff.mpr fun j hj => ?_
  have e : (Array.replicate (m + 1) none : Array (Option Nat)).getD j none = none := by
    rw [Array.getD_eq_getD_getElem?, Array.getElem?_replicate]
    split <;> rfl
  rw [e]
  rfl
/-- the empty table, laid anew -/
theorem relaid_empty (t : SetTable) (wanted : Nat) : ∃ t', t.relaid #[] wanted = some (t', #[]) ∧ t'.fits 0 = true ∧ t'.place = #[] := by
  refine ⟨{ mask := SetTable.sizeAbove wanted - 1, place := #[], dummies := #[], finger := t.finger, led := t.led, moves := t.movedTo (SetTable.sizeAbove wanted - 1), plain := t.plain }, ?_, ?_, rfl⟩
  · rw [relaid_eq]
    have e : SetTable.layClean (SetTable.sizeAbove wanted - 1) #[] = some (Array.replicate (SetTable.sizeAbove wanted - 1 + 1) none) := by
      rw [layClean_eq]
      rfl
    have e2 : liveOf (SetTable.sizeAbove wanted - 1) (Array.replicate (SetTable.sizeAbove wanted - 1 + 1) none) = [] := live_none _
    rw [e, Option.bind_some]
    unfold tabOf
    rw [e2]
    rfl
  · unfold SetTable.fits SetTable.fill
    simp
theorem pairs_key {P : Program} {w : World} : ∀ {es : List DictEntry} {kvs : List (Key × Value)}, Pairs (mixKind P w) es kvs → ∀ (i : Nat) (e : DictEntry) (k : Key), es[i]? = some e → (kvs.map (·.1))[i]? = some k → (mixKind P w).is k e.key = true
  | _, _, .nil, i, e, k, h, _ => by simp at h
  | _, _, .cons h1 _ _, 0, e, k, h, hk => by
    simp at h hk
    rw [← h, ← hk]
    exact h1
  | _, _, .cons _ _ r, i + 1, e, k, h, hk => pairs_key r i e k (by simpa using h) (by simpa using hk)
theorem strsAre_map : ∀ (vs : List Value), (∀ v ∈ vs, ∃ z tk, v = Value.str z tk) → StrsAre vs (vs.map fun v => txOf (0, v))
  | [], _ => .nil
  | v :: r, h => by
    obtain ⟨z, tk, rfl⟩ := h v List.mem_cons_self
    exact .cons z tk (strsAre_map r fun u hu => h u (List.mem_cons_of_mem _ hu))
section
variable {P : Program} {w : World} {A : Around} {E : Value → Shared → Prop} {s : Shared} {a : Addr}
/-- room for more in an empty set of texts -/
theorem tx_room {more : Nat} {Q : Unit → Shared → Prop} (R : TxSet w s.heap a []) (hm : more ≤ 1000) (hQ : ∀ h', Heap.SameBut a s.heap h' → TxSet w h' a [] → Q () { s with heap := h' }) : wpAny (model P w) A (setRoomFor a more) Q E s := by
  obtain ⟨o, es, ep, t, ho, hex, hd, g, hL, nd, hb, T⟩ := R
  have e0 : es = #[] := by
    have := congrArg List.length hL
    rw [List.length_map, Array.length_toList, List.length_nil] at this
    exact Array.eq_empty_of_size_eq_zero this
  subst e0
  unfold setRoomFor
  refine wpAny_bind (wpAny_setState_of ho hd T.fit ?_)
  dsimp only
  cases e : t.roomFor more with
  | none => exact wpAny_pure (hQ s.heap (Heap.SameBut.refl a s.heap) ⟨o, #[], ep, t, ho, hex, hd, g, hL, nd, hb, T⟩)
  | some wanted =>
    dsimp only
    have hw : wanted = (t.place.size + more) * 2 := by
      unfold SetTable.roomFor at e
      split at e
      · exact (Option.some.inj e).symm
      · cases e
    have hp : t.place.size = 0 := by
      have := T.fit
      unfold SetTable.fits at this
      rw [Bool.and_eq_true] at this
      exact beq_iff_eq.mp this.1
    have hsz : ¬ SetTable.sizeAbove wanted > sizeLine := by
      have := sizeAbove_le wanted 64 8
      have h2 : SetTable.sizeAbove wanted = SetTable.sizeAbove.go wanted 64 8 := rfl
      rw [h2, sizeLine_eq]
      omega
    rw [setRelay_eq]
    obtain ⟨t', er, ft, ep'⟩ := relaid_empty t wanted
    have rl := (relaid_ris er).2
    refine wpAny_bind (wpAny_setState_of ho hd T.fit ?_)
    dsimp only
    rw [if_neg hsz]
    have em : Array.map (fun x : Int × Value => x.fst) #[] = #[] := by simp
    rw [em, er]
    dsimp only
    refine wpAny_bind (wpAny_pure ?_)
    dsimp only
    have T' : Tab w (#[] : Array (Int × Value)).size t' := ⟨ft, by rw [ep']; exact List.Pairwise.nil, T.led.imp id fun q => by rw [rl]; exact q⟩
    refine wpAny_storeSet_of (es' := #[]) ho hd (hQ _ (Heap.SameBut.update s.heap a _) ?_) (Nat.zero_le _)
    exact (tx_store (a := a) (es' := #[]) (t' := t') ho hex hd (fun e he => by simp at he) List.nodup_nil (by decide) T').1
/-- set(l), l a list of texts -/
theorem upd_list {l : Addr} {items : Array Value} {xs : List Str} {Q : Unit → Shared → Prop} (hh : A.handled = none) (hl : s.heap.IsList l items) (hi : StrsAre items.toList xs) (hb : xs.length + 1 < scanBound) (R : TxSet w s.heap a []) (hla : l ≠ a) (hal : a < s.heap.objs.size)
    (hQ : ∀ s' L, (∀ b o, b ≠ a → s.heap.get? b = some o → s'.heap.get? b = some o) → s'.gens = s.gens → s'.drawn = s.drawn → s'.os = s.os → TxSet w s'.heap a L → (∀ y, y ∈ L ↔ y ∈ xs) → L.length ≤ xs.length → Q () s') :
    wpAny (model P w) A (Builtin.Frozenset.updateFrom "set.__init__" a (.ref l)) Q E s := by
  obtain ⟨ol, hol, hcl, nl, hdl⟩ := id hl
  have hT : s.TypeIs (.ref l) "list" := ⟨ol, hol, hcl⟩
  have hsz : items.size = xs.length := by
    have := StrsAre.len_eq hi
    rwa [Array.length_toList] at this
  unfold Builtin.Frozenset.updateFrom Builtin.Frozenset.isAnySet
  have hsls := F.sub_list_set
  have hslf := F.sub_list_frozenset
  refine wpAny_bind (m := (isInstance (.ref l) (.type "set") <||> isInstance (.ref l) (.type "frozenset"))) (wpAny_bind (wpAny_isInstance hT hsls ?_))
  refine wpAny_isInstance hT hslf ?_
  rw [if_neg Bool.false_ne_true]
  refine wpAny_bind (wpAny_typeOf hT ?_)
  rw [if_neg (by decide)]
  refine wpAny_bind (wpAny_pyIter_list hl ?_)
  refine wpAny_bind (wpAny_runValue ?_)
  have hlS : l < s.heap.objs.size := Heap.lt_size hol
  have hh1 : A.in1.handled = none := by simp [hh]
  have hneI : l ≠ s.heap.objs.size := Nat.ne_of_lt hlS
  have hSf : a ∉ [s.heap.objs.size, l] := by
    simp only [List.mem_cons, List.not_mem_nil, or_false, not_or]
    exact ⟨Nat.ne_of_lt hal, fun e => hla e.symm⟩
  have hval : ∀ (i : Nat) (v : Value), items[i]? = some v → ∃ z t, xs[i]? = some z ∧ v = .str z t := fun i v hv => by
    have hi' : i < xs.length := by rw [← hsz]; exact (Array.getElem?_eq_some_iff.mp hv).1
    obtain ⟨t, e⟩ := SS.strs_at hi i v (by rw [Array.getElem?_toList]; exact hv)
    refine ⟨xs[i], t, List.getElem?_eq_getElem hi', ?_⟩
    rw [e, List.getD_eq_getElem?_getD, List.getElem?_eq_getElem hi']
    rfl
  refine tx_loop ((Walks.list hh1 _ l hneI items).toS) a hSf xs hsz hb hval (items.size - 0) 0 _ (by omega) (Nat.zero_le _) ⟨⟨_, Heap.get?_push_size _ rfl, rfl, rfl⟩, hl.push _⟩ ⟨[], Nat.le_refl _, R.at fun o e => Heap.get?_push_of_some _ e, fun y => by simp⟩ fun s' L mv x hL hm => ?_
  refine wpAny_pure (hQ s' L (fun b o nb eb => ?_) mv.gens mv.drawn mv.os x hm (by omega))
  refine mv.heap b o ?_ (Heap.get?_push_of_some _ eb)
  simp only [List.mem_cons, List.not_mem_nil, or_false, not_or]
  exact ⟨nb, Nat.ne_of_lt (Heap.lt_size eb)⟩
/-- set(d), d a dict whose keys are texts -/
theorem upd_dict {d : Addr} {kvs : List (Key × Value)} {xs : List Str} {Q : Unit → Shared → Prop} (hd : s.heap.DictOf (mixKind P w) d kvs) (hx : kvs.map (·.1) = xs.map Sum.inr) (hs : (d == sysModules) = false) (hb : xs.length ≤ 1000) (R : TxSet w s.heap a []) (hda : d ≠ a)
    (hQ : ∀ h' L, (∀ b o, b ≠ a → s.heap.get? b = some o → h'.get? b = some o) → TxSet w h' a L → (∀ y, y ∈ L ↔ y ∈ xs) → L.length ≤ xs.length → Q () { s with heap := h' }) :
    wpAny (model P w) A (Builtin.Frozenset.updateFrom "set.__init__" a (.ref d)) Q E s := by
  obtain ⟨o, es, ep, ho, hex, hdat, hk, hp, _⟩ := hd
  have hT : s.TypeIs (.ref d) "dict" := ⟨o, ho, hex.1⟩
  have hes : es.size = xs.length := by
    have h1 := hp.length
    rw [Array.length_toList] at h1
    have h2 := congrArg List.length hx
    rw [List.length_map, List.length_map] at h2
    omega
  have ent : ∀ (i : Nat) (e : DictEntry), es[i]? = some e → ∃ z t, xs[i]? = some z ∧ e.key = .str z t ∧ e.hash = hashStr w z := fun i e he => by
    have hi' : i < xs.length := by rw [← hes]; exact (Array.getElem?_eq_some_iff.mp he).1
    have he' : es.toList[i]? = some e := by rw [Array.getElem?_toList]; exact he
    have hkv : (kvs.map (·.1))[i]? = some (Sum.inr xs[i]) := by rw [hx, List.getElem?_map, List.getElem?_eq_getElem hi']; rfl
    have hik := pairs_key hp i e _ he' hkv
    obtain ⟨t, ek⟩ := Value.isStrOf_shape (x := xs[i]) (v := e.key) hik
    refine ⟨xs[i], t, List.getElem?_eq_getElem hi', ek, ?_⟩
    obtain ⟨k', hk1, hk2⟩ := hk e (Array.mem_toList_iff.mp (List.mem_of_getElem? he'))
    have : k' = Sum.inr xs[i] := (mixKind P w).inj _ _ _ hk1 hik
    rw [hk2, this]
    rfl
  unfold Builtin.Frozenset.updateFrom Builtin.Frozenset.isAnySet
  have hsls : isSubtype (.type "dict") (.type "set") = pure false := by rw [isSubtype_type]; kernel_rfl
  have hslf : isSubtype (.type "dict") (.type "frozenset") = pure false := by rw [isSubtype_type]; kernel_rfl
  refine wpAny_bind (m := (isInstance (.ref d) (.type "set") <||> isInstance (.ref d) (.type "frozenset"))) (wpAny_bind (wpAny_isInstance hT hsls ?_))
  refine wpAny_isInstance hT hslf ?_
  rw [if_neg Bool.false_ne_true]
  refine wpAny_bind (wpAny_typeOf hT ?_)
  rw [if_pos (by decide)]
  refine wpAny_bind (wpAny_rule (wpAny_bind (wpAny_pure ?_)))
  dsimp only
  rw [hs, if_neg Bool.false_ne_true]
  refine wpAny_bind (wpAny_dictEpoch ho hdat (wpAny_bind (wpAny_dictEntries ho hdat ?_)))
  refine wpAny_bind (tx_room R (by omega) fun h1 sb1 R1 => ?_)
  have ho1 : h1.get? d = some o := (sb1.2 d hda).trans ho
  refine wpAny_bind (wpAny_dictEntries ho1 hdat ?_)
  refine wpAny_bind (TI.forIn_rng _ (fun rest _ s' => ∃ i h2 L, rest = List.range' i (es.size - i) ∧ i ≤ es.size ∧ s' = { s with heap := h2 } ∧ (∀ b o, b ≠ a → s.heap.get? b = some o → h2.get? b = some o) ∧ TxSet w h2 a L ∧ (∀ y, y ∈ L ↔ y ∈ xs.take i) ∧ L.length ≤ i) _ ?_ ?_ _
    ⟨0, h1, [], rfl, Nat.zero_le _, rfl, fun b o nb eb => (sb1.2 b nb).trans eb, R1, fun y => by simp, Nat.le_refl _⟩)
  · rintro x rest _ s' ⟨i, h2, L, er, hi, rfl, k2, R2, hm2, hl2⟩
    have hlt : i < es.size := by
      rcases Nat.lt_or_ge i es.size with c | c
      · exact c
      · rw [Nat.sub_eq_zero_of_le c] at er
        cases er
    obtain ⟨m, em⟩ : ∃ m, es.size - i = m + 1 := ⟨es.size - i - 1, by omega⟩
    rw [em, List.range'_succ] at er
    obtain ⟨rfl, rfl⟩ := List.cons.inj er
    have ho2 := k2 d o hda ho
    refine wpAny_bind (wpAny_dictEntries ho2 hdat ?_)
    have he : es[x]? = some es[x] := Array.getElem?_eq_getElem hlt
    rw [he]
    dsimp only
    obtain ⟨z, t, hz, ek, eh⟩ := ent x _ he
    rw [ek, eh]
    have hx1 : xs.length ≤ 1000 := hb
    refine wpAny_bind (wpAny_holding (tx_add (s := { s with heap := h2 }) R2 (by show L.length + 1 < 4096; omega) fun h3 L' b sb3 R3 hm3 hl3 => ?_))
    have ho3 : h3.get? d = some o := (sb3.2 d hda).trans ho2
    refine wpAny_bind (wpAny_dictEpoch ho3 hdat ?_)
    rw [if_neg (by simp)]
    refine wpAny_pure ⟨x + 1, h3, L', by rw [show es.size - (x + 1) = m by omega], hlt, rfl, fun b o nb eb => (sb3.2 b nb).trans (k2 b o nb eb), R3, fun y => ?_, by omega⟩
    rw [hm3, hm2, List.take_add_one, hz, List.mem_append]
    show _ ↔ _ ∨ y ∈ [z]
    rw [List.mem_singleton]
    exact Or.comm
  · rintro _ s' ⟨i, h2, L, er, hi, rfl, k2, R2, hm2, hl2⟩
    have hie : i = es.size := by
      have := congrArg List.length er
      rw [List.length_nil, List.length_range'] at this
      omega
    rw [List.take_of_length_le (by omega)] at hm2
    exact wpAny_pure (hQ h2 L k2 R2 hm2 (by omega))
/-- sorted(s), s a set of texts -/
theorem sorted_tx {L : List Str} {Q : Value → Shared → Prop} (R : TxSet w s.heap a L) (hh : A.handled = none)
    (hQ : ∀ s' p (out : Array Value) (c : Nat) (ys : List Str), (∀ b o, s.heap.get? b = some o → s'.heap.get? b = some o) → s'.gens = s.gens → s'.os = s.os → s.heap.objs.size ≤ p →
      s'.heap.get? p = some (seqObj "list" out c) → StrsAre out.toList ys → ys.Perm L → sortedS ys = true → Q (.ref p) s') :
    wpAny (model P w) A (call (.builtin "sorted") [.ref a]) Q E s := by
  obtain ⟨o, es, ep, t, ho, hex, hd, g, hL, nd, hb, T⟩ := R
  refine Calls.call_function_entry kind_sorted plain_sorted entry_sorted (args_sorted1 _) ?_
  unfold Builtin.«sorted»
  refine wpAny_bind (m := checkCount "sorted" 1 1 _) (wpAny_pure ?_)
  refine wpAny_bind (collect_set (A := A.in1) hh ⟨o, ho, hex.1, hd⟩ T.fit hb T.ris T.led fun s1 vs k1 hz g1 o1 pm => ?_)
  have pL : (vs.map fun v => txOf (0, v)).Perm L := by
    rw [← hL]
    have q := pm.map fun v => txOf (0, v)
    rw [List.map_map] at q
    exact q
  have hS : StrsAre vs (vs.map fun v => txOf (0, v)) := strsAre_map vs fun v hv => by
    obtain ⟨e, he, q⟩ := List.mem_map.mp (pm.mem_iff.mp hv)
    obtain ⟨z, tk, h1, _⟩ := g e he
    exact ⟨z, tk, by rw [← q]; exact h1⟩
  have hvl : vs.length < 4096 := by
    rw [pm.length_eq, List.length_map, Array.length_toList]
    exact hb
  have hvz : vs.length < sizeLine := Nat.lt_trans hvl (by rw [sizeLine_eq]; decide)
  refine wpAny_bind (wpAny_newList ?_ (Nat.le_of_lt hvz))
  have hoL : (s1.heap.push (seqObj "list" vs.toArray 0)).get? s1.heap.objs.size = some (seqObj "list" vs.toArray 0) := Heap.get?_push_size _ rfl
  refine wpAny_bind (wpAny_holding (wpAny_call_entry slot_list_sort ⟨_, hoL, rfl⟩ entry_list_sort
    (list_sort_treeKAny strKind_oneLt (s := { s1 with heap := s1.heap.push (seqObj "list" vs.toArray 0) }) hoL hS.keysOf (fun v₁ v₂ rest e => keyKind_strs (by rw [← e]; exact hS)) (Nat.le_of_lt hvz) fun st' hp hs => ⟨_, rfl, ?_⟩) (args_list_sort _)))
  obtain ⟨ys, y1, y2, y3⟩ := sorted_out_str hS hp hs
  obtain ⟨c, hc⟩ := sortedHeap_at (vs := vs) (out := (arrOf st').map (·.2)) hoL
  refine wpAny_pure ⟨_, rfl, hQ _ s1.heap.objs.size _ c ys (fun b u e => ?_) g1 o1 hz hc y1 (y2.trans pL) y3⟩
  have q := k1 b u e
  have hlt := Heap.lt_size q
  show (sortedHeap (s1.heap.push (seqObj "list" vs.toArray 0)) s1.heap.objs.size vs _).get? b = some u
  rw [sortedHeap_old (Nat.ne_of_lt hlt) (by rw [size_push']; exact Nat.lt_succ_of_lt hlt)]
  exact Heap.get?_push_of_some _ q
end
/-! ### over the abstract heap -/
def TxO (w : World) (a : Addr) (L : List Str) : HO := .ext fun h => TxSet w h a L
theorem txO_new {w : World} {P : Program} {H : Hp} {h : Heap} {a : Addr} {L : List Str} (R : TxSet w h a L) : ObjOk P w H h a (TxO w a L) := by
  have ⟨o, _, _, _, ho, _⟩ := R
  exact ⟨R, ⟨o, ho⟩, fun _ _ p k => TxSet.at p k⟩
theorem TxSet.facts {w : World} {h : Heap} {a : Addr} {L : List Str} (R : TxSet w h a L) : L.Nodup := by
  obtain ⟨o, es, ep, t, ho, hex, hd, g, hL, nd, _⟩ := R
  exact nd
/-- set(l), l a list of texts -/
def rSetL (K : PySem.W.Frag) (w : World) : List V → Hp → VK → Prop := fun vs H Q => ∃ (l : Addr) (xs : List Str), vs = [.ref l] ∧ SqL K H l (xs.map V.str) ∧ xs.length ≤ 1000 ∧
  ∀ p L, H p = none → L.Nodup → (∀ y, y ∈ L ↔ y ∈ xs) → Q (.ref p) (upd H p (TxO w p L))
/-- set(d), d a dict with texts as keys -/
def rSetD (w : World) : List V → Hp → VK → Prop := fun vs H Q => ∃ (d : Addr) (kvs : List (Key × V)) (xs : List Str), vs = [.ref d] ∧ Rd H d (.dK kvs) ∧ kvs.map (·.1) = xs.map Sum.inr ∧ xs.length ≤ 1000 ∧
  ∀ p L, H p = none → L.Nodup → (∀ y, y ∈ L ↔ y ∈ xs) → Q (.ref p) (upd H p (TxO w p L))
/-- sorted(s), s such a set -/
def rSortedTx (w : World) : List V → Hp → VK → Prop := fun vs H Q => ∃ (a : Addr) (L : List Str), vs = [.ref a] ∧ H a = some (TxO w a L) ∧
  ∀ p ys, ys.Perm L → sortedS ys = true → H p = none → Q (.ref p) (upd H p (.lst (ys.map V.str)))
section
variable {X : Cx}
theorem cr_setL (hc : X.calm = true) : CallR X (.type "set") (rSetL X.K X.w) := by
  intro pins s σ H vs us Q I r h
  obtain ⟨l, xs, rfl, hs, hb, q⟩ := h
  obtain ⟨its, rv, hl, _⟩ := I.list hs
  rw [Vals.ref1 r]
  have hn : H s.heap.objs.size = none := I.hok.fresh (Nat.le_refl _)
  obtain ⟨ol, hol, _⟩ := id hl.isList
  have hlS : l < s.heap.objs.size := Heap.lt_size hol
  refine set_from ?_
  refine upd_list (s := { s with heap := s.heap.push (set0 X.w) }) (xs := xs) (by simp [I.ok.hd hc]) (hl.isList.push _) rv.strs (by show xs.length + 1 < 4096; omega) (tx_fresh (Heap.get?_push_size _ rfl) rfl) (Nat.ne_of_lt hlS) (by rw [Heap.size_push]; exact Nat.lt_succ_self _) fun s' L k e1 e2 e3 x hm hL => ?_
  have k' : ∀ b o, s.heap.get? b = some o → s'.heap.get? b = some o := fun b o e => k b o (Nat.ne_of_lt (Heap.lt_size e)) (Heap.get?_push_of_some _ e)
  have J : Inv X pins σ (upd H s.heap.objs.size (TxO X.w s.heap.objs.size L)) { s with heap := s'.heap, gens := s'.gens, drawn := s'.drawn, toks := s'.toks } :=
    I.call (ch := []) (Un.laid k' (Nat.le_refl _) hn) (I.hok.laid k' (Nat.le_refl _) (txO_new x)) (by rw [e1]; exact I.bare) (fun _ z => nomatch z)
  have e : s' = { s with heap := s'.heap, gens := s'.gens, drawn := s'.drawn, toks := s'.toks } := by
    cases s'
    cases s
    cases e3
    rfl
  rw [e]
  exact ⟨.ref s.heap.objs.size, _, J, rfl, q _ L hn x.facts hm⟩
theorem cr_setD : CallR X (.type "set") (rSetD X.w) := by
  intro pins s σ H vs us Q I r h
  obtain ⟨d, kvs, xs, rfl, hs, hx, hb, q⟩ := h
  obtain ⟨_, hm, vs, rel, dd⟩ := dk_rd I.hok hs
  rw [Vals.ref1 r]
  have hn : H s.heap.objs.size = none := I.hok.fresh (Nat.le_refl _)
  obtain ⟨od, es, ep, hod, rest⟩ := id dd
  have hdS : d < s.heap.objs.size := Heap.lt_size hod
  refine set_from ?_
  refine upd_dict (s := { s with heap := s.heap.push (set0 X.w) }) (xs := xs) (kvs := vs) ⟨od, es, ep, Heap.get?_push_of_some _ hod, rest⟩ (rel.keys.symm.trans hx) hm hb (tx_fresh (Heap.get?_push_size _ rfl) rfl) (Nat.ne_of_lt hdS) fun h' L k x hm hL => ?_
  have k' : ∀ b o, s.heap.get? b = some o → h'.get? b = some o := fun b o e => k b o (Nat.ne_of_lt (Heap.lt_size e)) (Heap.get?_push_of_some _ e)
  exact ⟨.ref s.heap.objs.size, upd H s.heap.objs.size (TxO X.w s.heap.objs.size L), I.laid (t' := s.toks) k' (Nat.le_refl _) (txO_new x), rfl, q _ L hn x.facts hm⟩
theorem cr_sortedTx (hc : X.calm = true) : CallR X (.builtin "sorted") (rSortedTx X.w) := by
  intro pins s σ H vs us Q I r h
  obtain ⟨a, L, rfl, ha, q⟩ := h
  have R : TxSet X.w s.heap a L := (I.hok a _ ha).1
  rw [Vals.ref1 r]
  have hlen : L.length ≤ sizeLine := by
    obtain ⟨o, es, ep, t, ho, hex, hd, g, hL, nd, hb, _⟩ := id R
    rw [← hL, List.length_map, Array.length_toList]
    exact fits_of_scanBound hb
  refine sorted_tx R (I.ok.hd hc) fun s' p out c ys k g o hp hg hi hpm hs => ?_
  have hn : H p = none := I.hok.fresh hp
  have hl2 : (ys.map V.str).length ≤ sizeLine := by rw [List.length_map, hpm.length_eq]; exact hlen
  have J : Inv X pins σ (upd H p (.lst (ys.map V.str))) { s with heap := s'.heap, gens := s'.gens, drawn := s'.drawn, toks := s'.toks } :=
    I.call (ch := []) (Un.laid k hp hn) (I.hok.laid k hp ⟨hl2, out.toList, c, vals_of_strs hi, by rw [Array.toArray_toList]; exact hg⟩) (by rw [g]; exact I.bare) (fun _ z => nomatch z)
  have e : s' = { s with heap := s'.heap, gens := s'.gens, drawn := s'.drawn, toks := s'.toks } := by
    cases s'
    cases s
    cases o
    rfl
  rw [e]
  exact ⟨.ref p, _, J, rfl, q p ys hpm hs hn⟩
end
end Ld
/-! repr of dicts of counts and of lists of such; how long these texts are -/
namespace Ld
open PySem PySem.Spec PyProof.Rows L2
/-! ### a list of scalars and of dicts of scalars -/
def ItR (H : Hp) (x : V) (d : PyData) : Prop := (scaV x = true ∧ d = datV x) ∨ ∃ a kvs, x = .ref a ∧ H a = some (.dK kvs) ∧ (∀ p ∈ kvs, scaV p.2 = true) ∧ d = datD kvs
theorem readsAll_it {P : Program} {w : World} {H : Hp} {h : Heap} (ok : HOk P w H h) : ∀ {xs : List V} {ds : List PyData} {us : List Value}, Paired (ItR H) xs ds → Vals xs us → ∃ as, ReadsAll h us ds as ∧ sysModules ∉ as
  | _, _, _, .nil, r => by
    cases r
    exact ⟨[], .nil, fun h => nomatch h⟩
  | _, _, _, .cons i t, r => by
    cases r with
    | cons r1 r2 =>
      obtain ⟨bs, h1, n1⟩ := readsAll_it ok t r2
      rcases i with ⟨sc, rfl⟩ | ⟨a, kvs, rfl, e, f, rfl⟩
      · exact ⟨[] ++ bs, .cons (reads_sca sc r1) h1, n1⟩
      · obtain ⟨hr, hm⟩ := reads_dict ok e f
        cases (show _ = Value.ref a from r1)
        exact ⟨[a] ++ bs, .cons hr h1, fun q => (List.mem_append.mp q).elim hm n1⟩
def rReprL (K : PySem.W.Frag) : List V → Hp → VK → Prop := fun vs H Q => ∃ (a : Addr) (xs : List V) (ds : List PyData), vs = [.ref a] ∧ SqL K H a xs ∧ Paired (ItR H) xs ds ∧ (PyData.list ds).showable = true ∧ (PyData.list ds).depth ≤ 60 ∧ (PyData.list ds).shown.length ≤ sizeLine ∧ Q (.str (PyData.list ds).shown) H
theorem call_reprL {X : Cx} (hgd : X.A.guards = some []) (hu : X.A.units + 64 < cLine) : CallR X (.builtin "repr") (rReprL X.K) := by
  intro pins s σ H vs us Q I r h
  obtain ⟨a, xs, ds, rfl, hs, hi, hsh, hdp, hsz, q⟩ := h
  rw [Vals.ref1 r]
  obtain ⟨its, rv, ⟨o, n, h1, h2, _, h3⟩, _⟩ := I.list hs
  obtain ⟨as, h4, hno⟩ := readsAll_it I.hok hi rv
  have hz : (listText (PyData.shownAll ds)).length ≤ sizeLine := by simpa only [PyData.shown] using hsz
  obtain ⟨bs, hb, hk⟩ := ReprAllK.of_readsAll (prog := X.prog) (w := X.w) h4 (by simpa [PyData.showable] using hsh) (fun _ => hno) (fun t ht => Nat.le_trans (listText_mem_le ht) hz)
  have rd : Reads s.heap (.ref a) (.list ds) (a :: as) := .list h1 h2 h3 (by simpa using h4)
  have hna : a ∉ bs := not_mem_of_deeper rd (by simp only [PyData.depth]; omega) hb
  simp only [PyData.depth] at hdp
  simp only [PyData.shown] at q
  refine call_repr_slot (T := "list") (idr := "list.__repr__") (by omega) ⟨o, h1, h2⟩ F.slot_list_repr.toG ?_
  cases its with
  | nil =>
    cases h4
    simp only [PyData.shownAll, listText_nil] at q
    exact call_list_repr_empty ⟨o, h1, h2⟩ h1 h3 ⟨_, _, rfl, .str _, H, I.tok _, ⟨_, rfl⟩, q⟩
  | cons x l =>
    exact call_list_reprK h1 h2 h3 hna (by simpa using hk.length_eq) (fun i y e => hk.item i y (by simpa using e)) hgd (fun b _ => Clear.nil b) (by show X.A.units + 1 + _ < cLine; omega) (fun _ _ e => e)
      (fun h' u tk k => ⟨_, _, rfl, .str _, H, I.kept (t' := tk) k, ⟨u, rfl⟩, q⟩) hz
/-! ### how long -/
theorem piled_le {b : Nat} : ∀ (ts : List Str), (∀ t ∈ ts, t.length ≤ b) → piled ts ≤ ts.length * (b + 2)
  | [], _ => Nat.zero_le _
  | t :: r, h => by
    have h1 := piled_le r fun x hx => h x (List.mem_cons_of_mem _ hx)
    have h2 := h t List.mem_cons_self
    show (t.length + 2) + piled r ≤ (r.length + 1) * (b + 2)
    rw [Nat.add_mul]
    omega
theorem dictText_le {b : Nat} {ts : List Str} (h : ∀ t ∈ ts, t.length ≤ b) : (dictText ts).length ≤ 2 + ts.length * (b + 2) := by
  have h1 := piled_le ts h
  unfold dictText
  rw [strLen_append, strLen_append]
  have e1 : ((("{" : String) : Str)).length = 1 := rfl
  have e2 : ((("}" : String) : Str)).length = 1 := rfl
  by_cases e : ts = []
  · subst e
    have : (Str.join (Str.ofString ", ") []).length = 0 := rfl
    omega
  · have := join_length_add ts e
    omega
theorem textFrom_le : ∀ (ts : List Str) (k : Nat) (acc : Str), (textFrom k acc ts).length ≤ acc.length + piled ts
  | [], k, acc => Nat.le_add_right _ _
  | t :: r, k, acc => by
    have h := textFrom_le r (k + 1) (acc ++ (if k > 0 then ", " else "" : String) ++ t)
    have e : (acc ++ (if k > 0 then ", " else "" : String) ++ t).length ≤ acc.length + 2 + t.length := by
      rw [strLen_append, strLen_append]
      have : (Str.ofString (if k > 0 then ", " else "" : String)).length ≤ 2 := by
        split
        · exact Nat.le_refl 2
        · exact Nat.zero_le 2
      omega
    show (textFrom (k + 1) (acc ++ (if k > 0 then ", " else "" : String) ++ t) r).length ≤ acc.length + ((t.length + 2) + piled r)
    omega
theorem listText_le {b : Nat} {ts : List Str} (h : ∀ t ∈ ts, t.length ≤ b) : (listText ts).length ≤ 2 + ts.length * (b + 2) := by
  have h1 := piled_le ts h
  have h2 := textFrom_le ts 0 "["
  unfold listText
  rw [strLen_append]
  have e1 : ((("[" : String) : Str)).length = 1 := rfl
  have e2 : ((("]" : String) : Str)).length = 1 := rfl
  omega
theorem word_small {z : Str} (h : wordB z = true) : (reprText z).length ≤ 82 := by
  have hl := (wordB_len h).2
  have := PySem.StrLaws.reprText_len z fun c hc => by
    unfold wordB at h
    rw [Bool.and_eq_true, List.all_eq_true] at h
    have q := h.2 c hc
    unfold azB at q
    rw [Bool.and_eq_true, decide_eq_true_eq, decide_eq_true_eq] at q
    exact Nat.lt_of_le_of_lt q.2 (by decide)
  omega
theorem int_show {i : Int} {k : Nat} (h : i.natAbs < 10 ^ k) (h0 : 0 < k) (hk : k ≤ 500) : (PyData.int i).showable = true ∧ (PyData.int i).shown.length ≤ k + 1 := by
  constructor
  · simp only [PyData.showable, decide_eq_true_eq]
    by_cases e : i.natAbs = 0
    · rw [e]
      decide
    · refine (Nat.log2_lt e).mpr (Nat.lt_of_lt_of_le h (Nat.le_trans (Nat.pow_le_pow_right (by decide) hk) ?_))
      decide +kernel
  · simp only [PyData.shown]
    show (Str.ofString (toString i)).length ≤ k + 1
    rw [PySem.ofString_length]
    exact int_text_length_le10 h0 h
theorem depthKv_sca : ∀ (ps : List (Str × Int)), PyData.depthKv ((cD ps).map fun p => (datV (kV p.1), datV p.2)) = 0
  | [] => rfl
  | p :: r => by
    show max (max 0 0) (PyData.depthKv ((cD r).map fun p => (datV (kV p.1), datV p.2))) = 0
    rw [depthKv_sca r]
    rfl
theorem showKv_ct {k : Nat} (h0 : 0 < k) (hk : k ≤ 500) : ∀ (ps : List (Str × Int)), (∀ p ∈ ps, wordB p.1 = true ∧ p.2.natAbs < 10 ^ k) →
    PyData.showableKv ((cD ps).map fun p => (datV (kV p.1), datV p.2)) = true ∧ (∀ t ∈ PyData.shownKv ((cD ps).map fun p => (datV (kV p.1), datV p.2)), t.length ≤ k + 85) ∧ (PyData.shownKv ((cD ps).map fun p => (datV (kV p.1), datV p.2))).length = ps.length
  | [], _ => ⟨rfl, (fun _ h => nomatch h), rfl⟩
  | p :: r, h => by
    obtain ⟨a1, a2, a3⟩ := showKv_ct h0 hk r fun q hq => h q (List.mem_cons_of_mem _ hq)
    obtain ⟨w1, i1⟩ := h p List.mem_cons_self
    obtain ⟨s1, s2⟩ := int_show i1 h0 hk
    have e : (cD (p :: r)).map (fun p => (datV (kV p.1), datV p.2)) = (PyData.str p.1, PyData.int p.2) :: (cD r).map fun p => (datV (kV p.1), datV p.2) := rfl
    rw [e]
    refine ⟨?_, ?_, ?_⟩
    · simp only [PyData.showableKv, a1, Bool.and_true]
      show ((PyData.str p.1).showable && (PyData.int p.2).showable) = true
      rw [s1]
      simp only [PyData.showable, Bool.and_true]
    · intro t ht
      simp only [PyData.shownKv] at ht
      rcases List.mem_cons.mp ht with e | ht
      · rw [e, strLen_append, strLen_append]
        have h1 : (PyData.str p.1).shown.length ≤ 82 := by
          simp only [PyData.shown]
          exact word_small w1
        have h2 : (Str.ofString ": ").length = 2 := rfl
        omega
      · exact a2 t ht
    · simp only [PyData.shownKv, List.length_cons, a3]
theorem show_ct {k : Nat} (h0 : 0 < k) (hk : k ≤ 500) {ps : List (Str × Int)} (h : ∀ p ∈ ps, wordB p.1 = true ∧ p.2.natAbs < 10 ^ k) : (datD (cD ps)).showable = true ∧ (datD (cD ps)).depth = 1 ∧ (datD (cD ps)).shown.length ≤ 2 + ps.length * (k + 87) := by
  obtain ⟨a1, a2, a3⟩ := showKv_ct h0 hk ps h
  refine ⟨?_, ?_, ?_⟩
  · simp only [datD, PyData.showable]
    exact a1
  · simp only [datD, PyData.depth, depthKv_sca]
  · simp only [datD, PyData.shown]
    have := dictText_le a2
    rwa [a3] at this
theorem scalar_cD (ps : List (Str × Int)) : ∀ p ∈ cD ps, scaV p.2 = true := by
  intro p hp
  obtain ⟨q, _, rfl⟩ := List.mem_map.mp hp
  rfl
theorem list_show {b : Nat} : ∀ {ds : List PyData}, (∀ d ∈ ds, d.showable = true ∧ d.depth ≤ 1 ∧ d.shown.length ≤ b) →
    PyData.showableAll ds = true ∧ PyData.depthAll ds ≤ 1 ∧ (∀ t ∈ PyData.shownAll ds, t.length ≤ b) ∧ (PyData.shownAll ds).length = ds.length
  | [], _ => ⟨rfl, Nat.zero_le _, (fun _ h => nomatch h), rfl⟩
  | d :: r, h => by
    obtain ⟨a1, a2, a3, a4⟩ := list_show (ds := r) fun q hq => h q (List.mem_cons_of_mem _ hq)
    obtain ⟨d1, d2, d3⟩ := h d List.mem_cons_self
    refine ⟨?_, ?_, ?_, ?_⟩
    · simp only [PyData.showableAll, d1, a1, Bool.and_self]
    · simp only [PyData.depthAll]
      omega
    · intro t ht
      simp only [PyData.shownAll] at ht
      rcases List.mem_cons.mp ht with e | ht
      · rw [e]
        exact d3
      · exact a3 t ht
    · simp only [PyData.shownAll, List.length_cons, a4]
theorem show_list {b : Nat} {ds : List PyData} (h : ∀ d ∈ ds, d.showable = true ∧ d.depth ≤ 1 ∧ d.shown.length ≤ b) : (PyData.list ds).showable = true ∧ (PyData.list ds).depth ≤ 60 ∧ (PyData.list ds).shown.length ≤ 2 + ds.length * (b + 2) := by
  obtain ⟨a1, a2, a3, a4⟩ := list_show h
  refine ⟨?_, ?_, ?_⟩
  · simp only [PyData.showable]
    exact a1
  · simp only [PyData.depth]
    omega
  · simp only [PyData.shown]
    have := listText_le a3
    rwa [a4] at this
end Ld
/-! own operators: x + y, x * n, n * x, -x, bool(x) -/
namespace PySem.W
open PySem PySem.Spec PyProof.Rows PySem.Calls
section
variable {prog : Program} {w : World} {A : Around} {E : Value → Shared → Prop} {s : Shared} {K : Frag} {x C L f g : Addr} {h₀ : Heap} {m : Str → Option Value} {ox : Obj} {od : Option Obj}
/-- int.__mul__ of what is no int -/
theorem mul_none {i : Int} {t : Tok} {Q : Option Value → Shared → Prop} (hx : s.heap.get? x = some ox) (hn : ∀ j u, ox.data ≠ .prim (.int j u)) (q : Q none s) :
    wpAny (model prog w) A (tryMethod (.int i t) (PySem.dunder "mul") (.ref x)) Q E s := by
  unfold tryMethod
  refine wpAny_bind (wpAny_callSpecial?_slot (typeIs_int s i t) F.slot_int_mul (GQ.call_here F.slot_int_mul (typeIs_int s i t) F.entry_int_mul (F.args_int_mul_2 _ _) ?_))
  obtain ⟨hp, g, d, tk, os⟩ := s
  have hz : wpAny (model prog w) A.in1 (asInt? (.ref x)) (fun r s' => r = none ∧ s' = ⟨hp, g, d, tk, os⟩) (fun e s' => wants (fun v => (fun o s'' => wpAny (model prog w) A (match o with | some .notImplemented | none => pure none | some v => pure (some v)) Q E s'') (some v)) E (.error e) s') ⟨hp, g, d, tk, os⟩ := by
    unfold asInt?
    refine wpAny_bind (wpAny_load hx ?_)
    obtain ⟨c, dd, dt, sl⟩ := ox
    cases dt with
    | prim v =>
      cases v with
      | int j u => exact absurd rfl (hn j u)
      | _ => exact wpAny_pure ⟨rfl, rfl⟩
    | _ => exact wpAny_pure ⟨rfl, rfl⟩
  generalize hAI : asInt? = AI at hz
  unfold Builtin.«int.__mul__» Builtin.Int.intBinary
  rw [hAI]
  wp_walk
  refine wpAny_mono hz (fun r s' h => ?_) fun _ _ e => e
  obtain ⟨rfl, rfl⟩ := h
  wp_walk
  exact q
/-- n * x by x's __rmul__ -/
theorem mulR_K {i : Int} {t : Tok} {Q : Value → Shared → Prop} (F : Fr h₀ L s.heap m) (X₀ : K.In h₀) (I : InstAt s.heap x ox C od) (hn : ∀ j u, ox.data ≠ .prim (.int j u)) (hc : selfFirst K C = true) (hi : mroIn K C (.type "int") = some false)
    (hs1 : findIn K (.ref C) (PySem.dunder "mul") = some (some (.ref g))) (hs : findIn K (.ref C) (dunderR "mul") = some (some (.ref f))) (hf : isFn K (.ref f) = true)
    (h : wpAny (model prog w) A (call (.ref f) [.ref x, .int i t]) (CmpBack Q) E s) : wpAny (model prog w) A (binaryOp .Mult (.int i t) (.ref x)) Q E s := by
  have X := X₀.keeps F.keep
  obtain ⟨cd, rest, hcd, hm⟩ := ksp_first hc
  have one := ksp_try X I hs hf h
  obtain ⟨hh, gg, d, tt, os⟩ := s
  have L1 : Looks (model prog w) hh (typeOf (.int i t)) (.type "int") := Looks.of_pure rfl
  have L2 : Looks (model prog w) hh (typeOf (.ref x)) (.ref C) := I.type
  have L3 : Looks (model prog w) hh (fillsNumberSlot (.type "int") "mul") true := Looks.of_pure PySem.F.fills_int_mul
  have L4 : Looks (model prog w) hh (fillsNumberSlot (.ref C) "mul") true := fills_K X hcd hm hs1
  have L5 : Looks (model prog w) hh (isSubtype (.ref C) (.type "int")) false := looks_mroIn X hi
  have L6 : Looks (model prog w) hh (numberSlotInPython (.type "int") "mul") false := Looks.of_pure rfl
  have hne : (Value.type "int" == Value.ref C) = false := by rfl
  have two : ∀ Q' : Option Value → Shared → Prop, Q' none ⟨hh, gg, d, tt, os⟩ → wpAny (model prog w) A (tryMethod (.int i t) (PySem.dunder "mul") (.ref x)) Q' E ⟨hh, gg, d, tt, os⟩ := fun Q' q => mul_none I.at_ hn q
  unfold binaryOp
  refine wpAny_holding (wpAny_bind ?_)
  show wpAny _ _ (binaryOp1 "mul" _ _) _ _ _
  unfold binaryOp1
  refine wpAny_bind (L1.at (wpAny_bind (L2.at (wpAny_bind (L3.at ?_)))))
  simp only [hne, Bool.false_eq_true, if_false]
  refine wpAny_bind (L4.at ?_)
  simp only [Bool.and_self, if_true, Bool.true_and]
  refine wpAny_bind (L5.at ?_)
  simp only [Bool.false_eq_true, if_false, Bool.not_false, if_true]
  refine wpAny_bind (L6.at ?_)
  simp only [Bool.false_eq_true, if_false]
  refine wpAny_bind (two _ ?_)
  dsimp only
  refine wpAny_bind (wpAny_mono one (fun r s' hr => ?_) fun _ _ e => e)
  obtain ⟨v, rfl, hq⟩ := hr
  dsimp only
  refine wpAny_bind (wpAny_rule ?_)
  exact wpAny_pure (wpAny_pure hq)
end
end PySem.W
namespace Ld
open PySem PySem.Spec PyProof.Rows L2
section
variable {X : Cx} {CX : CXT} {C g f : Addr} {n : Nat} {sp : Sp} {E : XK}
/-- x op y, both instances of the class at C, whose def for op is at g -/
def rBin (C : Addr) (sp : Sp) (E : XK) : R2 := fun x y H Q => ∃ a b dx fs dy gs, x = .ref a ∧ y = .ref b ∧ H a = some (.ins C dx fs) ∧ H b = some (.ins C dy gs) ∧ sp [x, y] H Q E
theorem op_bin {op : Operator} (hc : PySem.W.selfFirst X.K C = true) (hs : PySem.W.findIn X.K (.ref C) (PySem.dunder op.info.2) = some (some (.ref g))) (hf : PySem.W.isFn X.K (.ref g) = true) (F : FnR X.prog X.w X.K X.mg X.base CX n g sp) (hr : Room n X.A) (hx : Passes CX X E) :
    OpR X (binaryOp op) (rBin C sp E) := by
  intro pins s σ H x y v u Q I rx ry h
  obtain ⟨a, b, dx, fs, dy, gs, rfl, rfl, ha, hb, q⟩ := h
  cases (show v = Value.ref a from rx)
  cases (show u = Value.ref b from ry)
  obtain ⟨mA, O, _⟩ := ins_get I.hok ha
  obtain ⟨od, J, _⟩ := O.look
  obtain ⟨mB, OB, _⟩ := ins_get I.hok hb
  obtain ⟨od2, J2, _⟩ := OB.look
  obtain ⟨m, hF⟩ := I.fr
  refine PySem.W.binop_K hF I.ok.mod.kin J J2.type hc hs hf ?_
  refine wpAny_mono (wpAny_call (run_fnR (us := [.ref a, .ref b]) (vs := [.ref a, .ref b]) F hr hx I (.cons rfl (.cons rfl .nil)) q)) (fun w s' z => ?_) fun _ _ x => x
  obtain ⟨z', H', I', rz, qz⟩ := z
  exact SlX.cmpback rz ⟨z', H', I', rz, qz⟩
/-- what of the class x * n and n * x ask -/
structure MulC (K : PySem.W.Frag) (C : Addr) (fm fr : Addr) : Prop where
  first : PySem.W.selfFirst K C = true
  mul : PySem.W.findIn K (.ref C) "__mul__" = some (some (.ref fm))
  rmul : PySem.W.findIn K (.ref C) "__rmul__" = some (some (.ref fr))
  fnm : PySem.W.isFn K (.ref fm) = true
  fnr : PySem.W.isFn K (.ref fr) = true
  int1 : ∃ fo, PySem.W.findIn K (.type "int") "__mul__" = some fo
  int2 : ∃ ro, PySem.W.findIn K (.type "int") "__rmul__" = some ro
  noInt : PySem.W.mroIn K C (.type "int") = some false
/-- x * n -/
def rBinI (C : Addr) (sp : Sp) (E : XK) : R2 := fun x y H Q => ∃ a dx fs i, x = .ref a ∧ y = .int i ∧ H a = some (.ins C dx fs) ∧ sp [x, y] H Q E
theorem op_mulI {fr : Addr} (T : MulC X.K C g fr) (F : FnR X.prog X.w X.K X.mg X.base CX n g sp) (hr : Room n X.A) (hx : Passes CX X E) (hsub : PySem.W.subIn X.K (.type "int") (.ref C) = some false) : OpR X (binaryOp .Mult) (rBinI C sp E) := by
  intro pins s σ H x y v u Q I rx ry h
  obtain ⟨a, dx, fs, i, rfl, rfl, ha, q⟩ := h
  cases (show v = Value.ref a from rx)
  obtain ⟨t, rfl⟩ := (show ∃ t, u = Value.int i t from ry)
  obtain ⟨mA, O, _⟩ := ins_get I.hok ha
  obtain ⟨od, J, _⟩ := O.look
  obtain ⟨m, hF⟩ := I.fr
  obtain ⟨fo, h1⟩ := T.int1
  obtain ⟨ro, h2⟩ := T.int2
  refine PySem.W.ksp_binT (op := .Mult) (T := "int") (fo := fo) (ro := ro) (rc := some (.ref fr)) hF I.ok.mod.kin J rfl T.first T.mul T.fnm T.rmul (.inr ⟨_, rfl⟩) h1 h2 hsub ?_
  refine wpAny_mono (wpAny_call (run_fnR (us := [.ref a, .int i t]) (vs := [.ref a, .int i]) F hr hx I (.cons rfl (.cons ⟨t, rfl⟩ .nil)) q)) (fun w s' z => ?_) fun _ _ x => x
  obtain ⟨z', H', I', rz, qz⟩ := z
  exact SlX.cmpback rz ⟨z', H', I', rz, qz⟩
/-- n * x -/
def rBinR (C : Addr) (sp : Sp) (E : XK) : R2 := fun x y H Q => ∃ a dx fs i, x = .int i ∧ y = .ref a ∧ H a = some (.ins C dx fs) ∧ sp [y, x] H Q E
theorem op_mulR {fm : Addr} (T : MulC X.K C fm g) (F : FnR X.prog X.w X.K X.mg X.base CX n g sp) (hr : Room n X.A) (hx : Passes CX X E) : OpR X (binaryOp .Mult) (rBinR C sp E) := by
  intro pins s σ H x y v u Q I rx ry h
  obtain ⟨a, dx, fs, i, rfl, rfl, ha, q⟩ := h
  cases (show u = Value.ref a from ry)
  obtain ⟨t, rfl⟩ := (show ∃ t, v = Value.int i t from rx)
  obtain ⟨mA, O, _⟩ := ins_get I.hok ha
  obtain ⟨od, J, _⟩ := O.look
  obtain ⟨m, hF⟩ := I.fr
  refine PySem.W.mulR_K hF I.ok.mod.kin J (fun j u z => nomatch z) T.first T.noInt T.mul T.rmul T.fnr ?_
  refine wpAny_mono (wpAny_call (run_fnR (us := [.ref a, .int i t]) (vs := [.ref a, .int i]) F hr hx I (.cons rfl (.cons ⟨t, rfl⟩ .nil)) q)) (fun w s' z => ?_) fun _ _ x => x
  obtain ⟨z', H', I', rz, qz⟩ := z
  exact SlX.cmpback rz ⟨z', H', I', rz, qz⟩
/-- -x -/
def rNeg (C : Addr) (sp : Sp) (E : XK) : V → Hp → VK → Prop := fun x H Q => ∃ a dx fs, x = .ref a ∧ H a = some (.ins C dx fs) ∧ sp [x] H Q E
theorem un_own (hs : PySem.W.findIn X.K (.ref C) "__neg__" = some (some (.ref g))) (hf : PySem.W.isFn X.K (.ref g) = true) (F : FnR X.prog X.w X.K X.mg X.base CX n g sp) (hr : Room n X.A) (hx : Passes CX X E) : UnR X (unaryOp .USub) (rNeg C sp E) := by
  intro pins s σ H x v Q I rx h
  obtain ⟨a, dx, fs, rfl, ha, q⟩ := h
  cases (show v = Value.ref a from rx)
  obtain ⟨mA, O, _⟩ := ins_get I.hok ha
  obtain ⟨od, J, _⟩ := O.look
  obtain ⟨m, hF⟩ := I.fr
  exact PySem.W.ksp_neg hF I.ok.mod.kin J hs hf (wpAny_call (run_fnR (us := [.ref a]) (vs := [.ref a]) F hr hx I (.cons rfl .nil) q))
end
end Ld
namespace Ld
open PySem PySem.Spec PyProof.Rows L2
section
variable {prog : Program} {w : World} {A : Around} {E : Value → Shared → Prop} {s : Shared}
theorem code_bool_new {x : Value} {R : Result → Shared → Prop} (h : wpAny (model prog w) A.in1 (truthy x) (fun b s' => R (.ok (.ret (.bool b))) s') (fun e s' => R (.error e) s') s) :
    wpAny (model prog w) A.in1 (Builtin.«bool.__new__» ⟨[.type "bool", x], []⟩) (fun fin s' => match fin with | .done f => R (.ok f) s' | .again c' => c'.quiet = true ∧ codeAny (model prog w) A c' R s') (fun e s' => R (.error e) s') s := by
  obtain ⟨hp, g, d, tk, os⟩ := s
  have f1 := F.conv_sub_bool
  generalize hT : truthy = T at h
  unfold Builtin.«bool.__new__»
  rw [hT]
  wp_walk
  refine wpAny_mono h (fun b s' q => ?_) fun _ _ e => e
  first
    | exact q
    | (wp_walk; exact q)
theorem call_bool_by {x : Value} {Q : Value → Shared → Prop} (h : wpAny (model prog w) A.in1.in1 (truthy x) (fun b s' => Q (.bool b) s') E s) : wpAny (model prog w) A (call (.type "bool") [x]) Q E s := by
  obtain ⟨c, tl, hmro⟩ := F.called_bool.mro
  have hmade := F.called_bool.made
  have hsub := F.called_bool.sub
  refine wpAny_call (codeAny_of_tree ?_)
  show wpAny _ _ (callAny (.type "bool") _) _ _ _
  refine wpAny_pure ⟨Code.quiet_builtin _ (by decide +kernel), codeAny_builtin F.entry_type_call ?_⟩
  rw [Around.under_plain (weight_type_call_type "bool" [x] []) rfl]
  have h1 := F.called_bool.notType
  have h2 := F.called_bool.canCreate
  have hct := F.typeCall_bool_1 x
  repeat (any_goals (first | assumption | wp_step))
  refine codeAny_mono (codeAny_call_builtin (R := wants (fun v s' => (∃ b, v = .bool b) ∧ Q v s') E) F.called_bool.plain F.entry_bool_new (wpAny_of_eq (F.newCall_bool_1 x) (code_bool_new (wpAny_mono h (fun b s' q => ⟨⟨b, rfl⟩, q⟩) fun _ _ e => e)))) fun r s₁ hr => ?_
  cases r with
  | error e => exact hr
  | ok fl =>
    cases fl with
    | ret obj =>
      obtain ⟨⟨b, rfl⟩, q⟩ := hr
      have hT : s₁.TypeIs (.bool b) "bool" := rfl
      have hli := F.called_bool.init.lookup
      have hbi := F.called_bool.init.bind (.bool b)
      repeat (any_goals (first | assumption | wp_step))
      refine codeAny_mono (codeAny_call_builtin (R := wants (fun v s' => v = .none ∧ Q (.bool b) s') E) F.called_bool.init.plain F.entry_object_init (F.called_bool.init.check _ _ _ _ _ _ _ _ hT (F.args_object_init_2 _ x) (object_init_meets F.called_bool.init.lookup F.called_bool.made F.newNe_bool prog w _ _ _ ⟨hT, rfl, q⟩))) fun r₂ s₂ hr₂ => ?_
      cases r₂ with
      | error e => exact hr₂
      | ok fl₂ =>
        cases fl₂ with
        | ret r =>
          obtain ⟨rfl, q⟩ := hr₂
          repeat (any_goals (first | assumption | wp_step))
        | _ => exact hr₂.elim
    | _ => exact hr.elim
end
section
variable {X : Cx} {CX : CXT} {C g : Addr} {n : Nat} {sp : Sp} {E : XK}
/-- bool(x), x's own __bool__ -/
def rBoolO (C : Addr) (sp : Sp) (E : XK) : List V → Hp → VK → Prop := fun xs H Q => ∃ a dx fs, xs = [.ref a] ∧ H a = some (.ins C dx fs) ∧ sp [.ref a] H (fun v H' => ∃ b, v = .bl b ∧ Q (.bl b) H') E
theorem call_boolO (hs : PySem.W.findIn X.K (.ref C) "__bool__" = some (some (.ref g))) (hf : PySem.W.isFn X.K (.ref g) = true) (F : FnR X.prog X.w X.K X.mg X.base CX n g sp) (hr : Room (n + 2) X.A) (hx : Passes CX X E) : CallR X (.type "bool") (rBoolO C sp E) := by
  intro pins s σ H xs us Q I r h
  obtain ⟨a, dx, fs, rfl, ha, q⟩ := h
  rw [Vals.ref1 r]
  obtain ⟨mA, O, _⟩ := ins_get I.hok ha
  obtain ⟨od, J, _⟩ := O.look
  obtain ⟨m, hF⟩ := I.fr
  refine call_bool_by (PySem.W.truthy_K hF I.ok.mod.kin J hs hf ?_)
  have hr2 : Room n X.A.in1.in1 := (Room.in1 (Room.in1 hr))
  refine wpAny_mono (wpAny_call (SlX.run_at (A := X.A.in1.in1) (us := [.ref a]) (ws := [.ref a]) F hr2 I.env0.in1.in1 hx I (.cons rfl .nil) q)) (fun w' s' z => ?_) fun _ _ x => x
  obtain ⟨z', H', I', rz, b, rfl, qz⟩ := z
  cases rz
  exact ⟨.bl b, H', I', rfl, qz⟩
end
end Ld
namespace Ld
open PySem PySem.Spec PyProof.Rows L2
structure Blt3 (mg : Str → Option Value) : Prop where
  min : mg "min" = none
  max : mg "max" = none
  repr : mg "repr" = none
theorem bMin : bootBuiltins "min" = some (.builtin "min") := by decide +kernel
theorem bMax : bootBuiltins "max" = some (.builtin "max") := by decide +kernel
theorem bRepr : bootBuiltins "repr" = some (.builtin "repr") := by decide +kernel
theorem bDict : bootBuiltins "dict" = some (.type "dict") := by decide +kernel
/-- the own class is one that isinstance takes, and no built-in type's first -/
structure OddC (K : PySem.W.Frag) (C : Addr) : Prop where
  own : ((PySem.W.clsIn K C).isSome && PySem.W.typeIn K (.ref C) == some (.type "type")) = true
theorem kit_no {K : PySem.W.Frag} {C : Addr} (h : OddC K C) {T : String} (e : (fastBuiltinMro T).map (·.contains (Value.ref C)) = some false) : PySem.W.kitOne K (.type T) (.ref C) = some false := by
  unfold PySem.W.kitOne PySem.W.kitCls
  rw [if_neg (by intro q; exact nomatch (show Value.type T = Value.ref C from beq_iff_eq.mp q))]
  show (if _ then PySem.W.subIn K (.type T) (.ref C) else none) = _
  rw [if_pos h.own]
  exact e
theorem nf_no {K : PySem.W.Frag} {C : Addr} {T : String} (e : (fastBuiltinMro T).map (·.contains (Value.ref C)) = some false) : PySem.W.notFirst K C (.type T) = true := by
  unfold PySem.W.notFirst
  have e2 : PySem.W.subIn K (.type T) (.ref C) = some false := e
  rw [e2]
  simp
theorem mroDict {C : Addr} : (fastBuiltinMro "dict").map (·.contains (Value.ref C)) = some false := by kernel_rfl
theorem mroStr {C : Addr} : (fastBuiltinMro "str").map (·.contains (Value.ref C)) = some false := by kernel_rfl
theorem mroNon {C : Addr} : (fastBuiltinMro "NoneType").map (·.contains (Value.ref C)) = some false := by kernel_rfl
theorem mroInt {C : Addr} : (fastBuiltinMro "int").map (·.contains (Value.ref C)) = some false := by kernel_rfl
theorem mroTup {C : Addr} : (fastBuiltinMro "tuple").map (·.contains (Value.ref C)) = some false := by kernel_rfl
theorem mroLst {C : Addr} : (fastBuiltinMro "list").map (·.contains (Value.ref C)) = some false := by kernel_rfl
section
variable {P : Program} {w : World} {K : PySem.W.Frag} {mg : Str → Option Value} {base : Heap} {C fi : Addr}
/-- a classmethod of the class that keeps sp -/
def HasC (P : Program) (w : World) (K : PySem.W.Frag) (mg : Str → Option Value) (base : Heap) (n : Nat) (C : Addr) (name : Str) (sp : Sp) : Prop :=
  ∃ mc p g, ClX.CRead K C mc ∧ ClX.CMet K C mc name p g ∧ FnR P w K mg base CX0 n g sp
/-- a property of the class -/
def HasP (P : Program) (w : World) (K : PySem.W.Frag) (mg : Str → Option Value) (base : Heap) (n : Nat) (C : Addr) (name : Str) (sp : Sp) : Prop :=
  ∃ p g fd, PropOf K C name p g ∧ FnOk P w K mg base CX0 n g fd ["self"] sp ∧ Binds K fd ["self"] []
/-- a method of the class -/
def HasT (P : Program) (w : World) (K : PySem.W.Frag) (mg : Str → Option Value) (base : Heap) (n : Nat) (C : Addr) (name : Str) (ps : List Str) (sp : Sp) : Prop :=
  ∃ g fd, Meth K C name g ∧ FnOk P w K mg base CX0 n g fd ps sp ∧ Binds K fd ps []
end
end Ld
namespace Ld
open PySem PySem.Spec PyProof.Rows L2
open TL
theorem ok_cps {z : Str} (h : ∀ c ∈ tl z, c ≤ 122) : PyData.strOk z = true := by
  unfold PyData.strOk
  rw [← Array.all_toList, List.all_eq_true]
  exact fun c hc => decide_eq_true (Nat.lt_of_le_of_lt (h c hc) (by decide))
theorem word_cps {z : Str} (h : wordB z = true) : ∀ c ∈ tl z, c ≤ 122 := fun c hc => by
  unfold wordB at h
  rw [Bool.and_eq_true] at h
  have h2 := List.all_eq_true.mp h.2 c hc
  unfold azB at h2
  rw [Bool.and_eq_true, decide_eq_true_eq, decide_eq_true_eq] at h2
  exact h2.2
theorem strs_lay : ∀ zs : List Str, (∀ z ∈ zs, PyData.strOk z = true) → PyData.canLayAll0 (zs.map PyData.str) = true ∧ PyData.depthAll (zs.map PyData.str) = 0
  | [], _ => ⟨rfl, rfl⟩
  | z :: r, h => by
    obtain ⟨h1, h2⟩ := strs_lay r fun y hy => h y (List.mem_cons_of_mem _ hy)
    have h0 := h z List.mem_cons_self
    refine ⟨?_, ?_⟩
    · simp only [List.map_cons, PyData.canLayAll0, PyData.canLay0, h1, h0, Bool.and_self]
    · simp only [List.map_cons, PyData.depthAll, PyData.depth, h2, Nat.max_self]
theorem strs_shaped {zs : List Str} (h : ∀ z ∈ zs, PyData.strOk z = true) : SeqAt.shaped (.list (zs.map PyData.str)) = true := by
  obtain ⟨h1, h2⟩ := strs_lay zs h
  unfold SeqAt.shaped
  rw [Bool.and_eq_true]
  refine ⟨?_, decide_eq_true ?_⟩
  · simp only [PyData.canLay0]
    exact h1
  · simp only [PyData.depth]
    omega
theorem strs_eqv (zs : List Str) : PyData.eqv (.list (zs.map PyData.str)) (.list []) = zs.isEmpty := by
  cases zs with
  | nil => simp [PyData.eqv, PyData.eqvAll]
  | cons p r => simp [PyData.eqv, PyData.eqvAll]
theorem dp_strs {K : PySem.W.Frag} {H : Hp} : ∀ zs : List Str, DpAll K H (zs.map V.str) (zs.map PyData.str)
  | [] => .nil
  | z :: r => .cons (.str z) (dp_strs r)
theorem seqIx {d : Int} {n : Nat} (h0 : 0 ≤ d) (h1 : d < (n : Int)) : seqIndex? d n = some d.toNat := by
  unfold seqIndex?
  rw [if_neg (by omega : ¬ d < 0)]
  show (if (decide (0 ≤ d) && decide (d < (n : Int))) = true then some d.toNat else none) = _
  rw [decide_eq_true h0, decide_eq_true h1]
  rfl
theorem er_perm : ∀ {l : List Str} {k : Nat} {y : Str}, l[k]? = some y → (y :: l.eraseIdx k).Perm l
  | [], k, y, h => by simp at h
  | a :: r, 0, y, h => by
    simp at h
    subst h
    simp
  | a :: r, k + 1, y, h => by
    have h' : r[k]? = some y := by simpa using h
    exact (List.Perm.swap a y _).trans ((er_perm h').cons a)
theorem er_map : ∀ (l : List Str) (k : Nat), (l.map V.str).eraseIdx k = (l.eraseIdx k).map V.str
  | [], _ => rfl
  | _ :: _, 0 => rfl
  | a :: r, k + 1 => by
    show V.str a :: (r.map V.str).eraseIdx k = V.str a :: (r.eraseIdx k).map V.str
    rw [er_map r k]
def spShuf : Sp := fun vs H Q _ => ∃ (p c l : Addr) (xs : List Str) (ns : List Int) (u r : Int), vs = [.ref p, .ref l] ∧ PenAt H p c ns u r ∧ H l = some (.lst (xs.map V.str)) ∧ xs.length ≤ 100 ∧ (∀ z ∈ xs, Wd 1 8 z) ∧ u + xs.length ≤ 1000000 ∧
  ∀ (q : Addr) (ys : List Str) (u' r' : Int) (H' : Hp), H q = none → H' q = some (.lst (ys.map V.str)) → ys.Perm xs → u' ≤ u + xs.length → PenAt H' p c ns u' r' → SameP p H H' → Q (.ref q) H'
section
variable {P : Program} {w : World} {K : PySem.W.Frag} {mg : Str → Option Value} {base : Heap}
abbrev nShuf : List Str := ["_law_pen_here", "_law_items", "_law_left", "_law_found"]
theorem scShuf : FnScope nShuf ["_law_pen_here", "_law_items"] (defScope sShuf) := ⟨rfl, rfl, rfl, by decide +kernel, rfl, by decide +kernel, by decide +kernel⟩
theorem ok_shuf {f : Addr} {fd : FuncData} (F : Fun K "_law_shuffled" "_law_shuffled" sShuf f fd) (B : Blt mg) (HD : Has P w K mg base 1 "_law_draw" ["_law_pen_here", "_law_many"] spDraw) : FnOk P w K mg base CX0 2 f fd ["_law_pen_here", "_law_items"] spShuf := by
  obtain ⟨g1, gd1, G1, b1, m1, k1⟩ := HD
  refine F.ok scShuf (fun vs H Q E h => ?_) (fun cdv A outer s H vs Q E hr h => ?_)
  · obtain ⟨p, c, l, xs, ns, u, r, rfl, _⟩ := h
    rfl
  · obtain ⟨p, c, l, xs, ns, u, r, rfl, PA, gL, hx, hw, hu6, k⟩ := h
    have hu64 := hr.units
    have nd : nShuf.Nodup := scShuf.nd
    refine ⟨_, pss_cons (ps_par (i := 2) (j := 3) rfl nd rfl rfl (by decide) rfl rfl (pa_cons (pe_callTy call_list_of (by rfl) B.list bList (pa_cons (pv 1) pa_nil)) (pa_cons (pe_lst pa_nil) pa_nil)) (by rfl))
      (pss_cons (ps_while PassesOwn.never (pt_cmpR (op_neD hu64) (pv 2) (pe_lst pa_nil) (nomark _))
        (pss_one (ps_expr (pe_bm PySem.F.plainAttrs_list PySem.F.slot_list_append PySem.F.type_list_append mt_append (pv 3) (pa_cons (pe_bm PySem.F.plainAttrs_list PySem.F.slot_list_pop PySem.F.type_list_pop mt_popAt (pv 2) (pa_cons (pe_call G1 hr (by rfl) m1 k1 b1 .nil pass0 (pa_cons (pv 0) (pa_cons (pe_callB call_len_seq (by rfl) B.len PySem.boot_len (pa_cons (pv 2) pa_nil)) pa_nil))) pa_nil)) pa_nil)))))
      (pss_one (ps_ret (pv 3)))), ?_⟩
    -- rest, found
    refine seq_step (fun σ' H' => ∃ R F', σ' = [some (.ref p), some (.ref l), some (.ref R), some (.ref F')] ∧ R ≠ F' ∧ R ≠ p ∧ R ≠ c ∧ F' ≠ p ∧ F' ≠ c ∧ H R = none ∧ H F' = none ∧ PenAt H' p c ns u r ∧ Same H H' ∧ H' R = some (.lst (xs.map V.str)) ∧ H' F' = some (.lst [])) (fun R0 hR => ?_) (fun σ1 H1 h1 => ?_)
    · refine ⟨_, rfl, _, _, rfl, .inl (.inl (.inl gL)), fun R hR1 => ?_⟩
      have s1 := same_new (o := .lst (xs.map V.str)) hR1
      refine ⟨Nat.zero_le _, fun F' hF => ?_⟩
      have s2 := same_new (o := .lst []) hF
      have nRF : R ≠ F' := ne_of_none (upd_same (H := H) (a := R) (o := .lst (xs.map V.str))) hF
      have hF0 : H F' = none := by
        have z := hF
        rwa [upd_ne nRF.symm] at z
      obtain ⟨kvs, hp, _⟩ := PA.ob
      exact ⟨_, _, rfl, hR _ _ ⟨R, F', rfl, nRF, (ne_of_none hp hR1).symm, (ne_of_none PA.cl hR1).symm, (ne_of_none hp hF0).symm, (ne_of_none PA.cl hF0).symm, hR1, hF0, PA.same (s1.trans s2), s1.trans s2, by rw [upd_ne nRF, upd_same], upd_same⟩⟩
    obtain ⟨R, F', rfl, nRF, nRp, nRc, nFp, nFc, hR0, hF0, PA1, s1, gR1, gF1⟩ := h1
    -- while
    refine seq_step (fun σ' H' => ∃ (ys : List Str) (u' r' : Int), σ' = [some (.ref p), some (.ref l), some (.ref R), some (.ref F')] ∧ ys.Perm xs ∧ u' ≤ u + xs.length ∧ PenAt H' p c ns u' r' ∧ SameP p H H' ∧ H' F' = some (.lst (ys.map V.str))) (fun R0 hR => ?_) (fun σ2 H2 h2 => ?_)
    · refine ⟨fun m σ' H' => ∃ (rs fs : List Str) (u' r' : Int), σ' = [some (.ref p), some (.ref l), some (.ref R), some (.ref F')] ∧ rs.length = m ∧ (fs ++ rs).Perm xs ∧ u' + m ≤ u + xs.length ∧ PenAt H' p c ns u' r' ∧ SameP p H H' ∧ H' R = some (.lst (rs.map V.str)) ∧ H' F' = some (.lst (fs.map V.str)),
        ⟨xs.length, xs, [], u, r, rfl, rfl, .refl _, by omega, PA1, .of s1, gR1, gF1⟩, ?_⟩
      rintro m σ' H' ⟨rs, fs, u', r', rfl, hm, hp, hu', PA', keep', gR, gF⟩
      have wok : ∀ z ∈ rs, PyData.strOk z = true := fun z hz => ok_cps (word_cps (hw z (hp.mem_iff.mp (List.mem_append_right _ hz))).word)
      refine ⟨_, rfl, Nat.zero_le _, fun q hq => ?_⟩
      have s0 := same_new (o := .lst []) hq
      refine ⟨.list (rs.map PyData.str), .list [], .lst (.inl (.inl (s0 _ _ gR))) (dp_strs rs), .lst (.inl (.inl upd_same)) .nil, strs_shaped wok, strs_shaped (zs := []) (fun _ h => nomatch h), _, rfl, ?_⟩
      rw [strs_eqv]
      have keep0 := keep'.trans (.of s0)
      have PA0 := PA'.same s0
      have gR0 := s0 _ _ gR
      have gF0 := s0 _ _ gF
      clear hq
      generalize upd H' q (.lst []) = H3 at keep0 PA0 gR0 gF0 ⊢
      cases rs with
      | nil =>
        refine iteF (hR _ _ ⟨fs, u', r', rfl, by rwa [List.append_nil] at hp, by omega, PA0, keep0, gF0⟩)
      | cons y0 yr =>
        have hlen : ((y0 :: yr).map V.str).length = m := by rw [List.length_map]; exact hm
        have hm1 : 0 < m := by rw [← hm]; exact Nat.succ_pos _
        have hfl : fs.length ≤ 100 := by
          have := hp.length_eq
          rw [List.length_append] at this
          omega
        have hml : m ≤ 100 := by
          have := hp.length_eq
          rw [List.length_append] at this
          omega
        have gpk := PA0.u0
        refine iteT ⟨fun σ'' H'' => ∃ m', m' < m ∧ ∃ (rs fs : List Str) (u' r' : Int), σ'' = [some (.ref p), some (.ref l), some (.ref R), some (.ref F')] ∧ rs.length = m' ∧ (fs ++ rs).Perm xs ∧ u' + m' ≤ u + xs.length ∧ PenAt H'' p c ns u' r' ∧ SameP p H H'' ∧ H'' R = some (.lst (rs.map V.str)) ∧ H'' F' = some (.lst (fs.map V.str)), fun _ _ h => h, ?_⟩
        refine ⟨_, rfl, .inl ⟨rfl, _, .inl (.inl gF0)⟩, _, rfl, .inl ⟨rfl, _, .inl (.inl gR0)⟩, _, rfl, _, rfl, _, _, rfl, .inl (.inl (.inl gR0)), p, c, ns, u', r', _, rfl, PA0, by omega, by omega, by omega, fun d u5 r5 H5 d0 d1 hu5 PA5 keep5 => ?_⟩
        have gR5 := keep5 _ _ gR0 nRp
        have gF5 := keep5 _ _ gF0 nFp
        have hdl : d.toNat < (y0 :: yr).length := by omega
        refine ⟨R, (y0 :: yr).map V.str, d, d.toNat, .str (y0 :: yr)[d.toNat], rfl, rfl, gR5, by omega, by omega, seqIx d0 d1, by rw [List.getElem?_map, List.getElem?_eq_getElem hdl]; rfl, ?_⟩
        refine ⟨F', _, _, rfl, rfl, by rw [upd_ne nRF.symm]; exact gF5, by rw [List.length_map]; exact Nat.lt_of_le_of_lt hfl (by decide), ?_⟩
        refine ⟨m - 1, by omega, (y0 :: yr).eraseIdx d.toNat, fs ++ [(y0 :: yr)[d.toNat]], u5, r5, rfl, by rw [List.length_eraseIdx_of_lt hdl]; omega, ?_, by omega, (PA5.upd nRp nRc).upd nFp nFc, ?_, ?_, ?_⟩
        · have e1 := er_perm (List.getElem?_eq_getElem hdl)
          rw [List.append_assoc]
          exact (e1.append_left fs).trans hp
        · intro b o eb nb
          rw [upd_ne (ne_of_none eb hF0), upd_ne (ne_of_none eb hR0)]
          exact keep5 _ _ (keep0 _ _ eb nb) nb
        · rw [upd_ne nRF, upd_same, er_map]
        · rw [upd_same, List.map_append]
          rfl
    obtain ⟨ys, u', r', rfl, hp, hu', PA', keep', gF⟩ := h2
    exact ⟨_, rfl, k F' ys u' r' H2 hF0 gF hp hu' PA' keep'⟩
end
end Ld
namespace Ld
open PySem PySem.Spec PyProof.Rows L2
open TL
theorem cut_take {xs : List V} {j : Nat} : cutV xs none (some (j : Int)) = xs.take j := by
  unfold cutV
  rw [HT.sIx_nat, HT.sIx_none, Nat.sub_zero, List.drop_zero]
  rcases Nat.le_total j xs.length with h | h
  · rw [Nat.min_eq_left h]
  · rw [Nat.min_eq_right h, List.take_length, List.take_of_length_le h]
theorem pw30 : (10 : Int) ^ 30 = 1000000000000000000000000000000 := by decide +kernel
theorem q30 : (10 : Int) ^ Int.toNat 30 = 1000000000000000000000000000000 := by decide +kernel
end Ld
namespace Ld
open PySem PySem.Spec PyProof.Rows L2
open TL
theorem nt_of {b : Bool} (h : (!b) = false) : b = true := by
  cases b with
  | true => rfl
  | false => cases h
theorem tOr_ofS {t u : TT} {σ : L2.St} {H : Hp} {Q : Bool → Hp → Prop} {b c : Bool} (h1 : ∀ Q : Bool → Hp → Prop, (∀ H', Same H H' → Q b H') → t σ H Q) (h2 : ∀ H', Same H H' → b = false → ∀ Q : Bool → Hp → Prop, (∀ H'', Same H' H'' → Q c H'') → u σ H' Q) (q : ∀ H', Same H H' → Q (b || c) H') : tOr t u σ H Q := by
  refine h1 _ fun H' s => ?_
  cases b with
  | true => exact iteT (q H' s)
  | false => exact iteF (h2 H' s rfl _ fun H'' s2 => q H'' (s.trans s2))
/-- what a field of a note may hold here -/
def Fv (p : Addr) (H : Hp) (v : V) : Prop := v = .non ∨ (∃ b, v = .bl b) ∨ (∃ i, v = .int i) ∨ (∃ z : Str, v = .str z ∧ z.length ≤ 100 ∧ ∀ c ∈ tl z, c ≤ 122) ∨
  ∃ a, v = .ref a ∧ a ≠ p ∧ ((∃ xs, H a = some (.tup xs)) ∨ (∃ xs, H a = some (.lst xs)) ∨ (∃ kvs, H a = some (.dK kvs)))
theorem Fv.keep {p : Addr} {H H' : Hp} {v : V} (h : Fv p H v) (s : SameP p H H') : Fv p H' v := by
  rcases h with h | h | h | h | ⟨a, rfl, ne, h⟩
  · exact .inl h
  · exact .inr (.inl h)
  · exact .inr (.inr (.inl h))
  · exact .inr (.inr (.inr (.inl h)))
  · refine .inr (.inr (.inr (.inr ⟨a, rfl, ne, ?_⟩)))
    rcases h with ⟨xs, h⟩ | ⟨xs, h⟩ | ⟨xs, h⟩
    · exact .inl ⟨xs, s _ _ h ne⟩
    · exact .inr (.inl ⟨xs, s _ _ h ne⟩)
    · exact .inr (.inr ⟨xs, s _ _ h ne⟩)
def isI : V → Bool
  | .int _ => true
  | _ => false
def wdV : V → Bool
  | .str z => wordB z
  | _ => false
def ltOne : V → Bool
  | .int i => decide (i < 1)
  | _ => false
/-- what a note's making says of four fields, and of whether its load fits -/
def dueV (v0 v1 v2 v3 : V) (fits : Bool) : V := if (!isI v0 || ltOne v0) = true then .str "number" else if (!isI v1) = true then .str "day" else if (!wdV v2) = true then .str "giver" else if (!wdV v3 || decide (v3 = v2)) = true then .str "taker" else if fits = true then .non else .str "load"
section
variable {K : PySem.W.Frag}
theorem Fv.ty {p : Addr} {H : Hp} {v : V} (h : Fv p H v) : ∃ t b1 b2, TyX K H v t ∧ PySem.W.kitOne K t (.type "int") = some b1 ∧ PySem.W.kitOne K t (.type "bool") = some b2 ∧ (b1 && !b2) = isI v ∧ ((∃ z : Str, v = .str z ∧ z.length ≤ 100 ∧ ∀ c ∈ tl z, c ≤ 122) ∨ (wdV v = false ∧ PySem.W.kitOne K t (.type "str") = some false)) := by
  rcases h with rfl | ⟨b, rfl⟩ | ⟨i, rfl⟩ | ⟨z, rfl, hz⟩ | ⟨a, rfl, ne, h⟩
  · exact ⟨_, false, false, .base .non, kit_ty (by decide +kernel), kit_ty (by decide +kernel), rfl, .inr ⟨rfl, kit_ty (by decide +kernel)⟩⟩
  · exact ⟨_, true, true, .base (.bl b), kit_ty (by decide +kernel), kit_ty (by decide +kernel), rfl, .inr ⟨rfl, kit_ty (by decide +kernel)⟩⟩
  · exact ⟨_, true, false, .base (.int i), kit_ty (by decide +kernel), kit_ty (by decide +kernel), rfl, .inr ⟨rfl, kit_ty (by decide +kernel)⟩⟩
  · exact ⟨_, false, false, .base (.str z), kit_ty (by decide +kernel), kit_ty (by decide +kernel), rfl, .inl ⟨z, rfl, hz⟩⟩
  · rcases h with ⟨xs, h⟩ | ⟨xs, h⟩ | ⟨xs, h⟩
    · exact ⟨_, false, false, .base (.tup h), kit_ty (by decide +kernel), kit_ty (by decide +kernel), rfl, .inr ⟨rfl, kit_ty (by decide +kernel)⟩⟩
    · exact ⟨_, false, false, .base (.lst h), kit_ty (by decide +kernel), kit_ty (by decide +kernel), rfl, .inr ⟨rfl, kit_ty (by decide +kernel)⟩⟩
    · exact ⟨_, false, false, .base (.dK h), kit_ty (by decide +kernel), kit_ty (by decide +kernel), rfl, .inr ⟨rfl, kit_ty (by decide +kernel)⟩⟩
theorem Fv.isInt {p : Addr} {H : Hp} {v : V} {Q : VK} {E : XK} (h : Fv p H v) (q : Q (.bl (isI v)) H) : spIsInt K [v] H Q E := by
  obtain ⟨t, b1, b2, ty, k1, k2, e, _⟩ := h.ty (K := K)
  exact ⟨v, t, b1, b2, rfl, ty, k1, k2, by rw [e]; exact q⟩
theorem Fv.isWord {p : Addr} {H : Hp} {v : V} {Q : VK} {E : XK} (h : Fv p H v) (q : ∀ H', Same H H' → Q (.bl (wdV v)) H') : spIsWord K [v] H Q E := by
  obtain ⟨t, b1, b2, ty, _, _, _, ⟨z, rfl, hz, _⟩ | ⟨e, k⟩⟩ := h.ty (K := K)
  · exact ⟨_, rfl, .inl ⟨z, rfl, Nat.le_trans hz (by decide), q⟩⟩
  · exact ⟨v, rfl, .inr ⟨t, ty, k, by have := q H (fun _ _ e => e); rwa [e] at this⟩⟩
end
theorem isI_int {v : V} (h : isI v = true) : ∃ i, v = .int i := by
  cases v with
  | int i => exact ⟨i, rfl⟩
  | _ => cases h
theorem wdV_str {v : V} (h : wdV v = true) : ∃ z, v = .str z ∧ wordB z = true := by
  cases v with
  | str z => exact ⟨z, rfl, h⟩
  | _ => cases h
end Ld
namespace Ld
open PySem PySem.Spec PyProof.Rows L2
open TL
open L2
/-! ### the truth of an own object -/
def tTruO (C : Addr) (sp : Sp) (E : XK) (te : TE) : TT := fun σ H Q => te σ H fun x H' => ∃ a dx fs, x = .ref a ∧ H' a = some (.ins C dx fs) ∧ sp [.ref a] H' (fun v H'' => ∃ b, v = .bl b ∧ Q b H'') E
theorem pt_own {X : Cx} {CX : CXT} {C g : Addr} {n : Nat} {sp : Sp} {E : XK} {e : Expr} {te : TE} (ha : PE X e te) (he : ∀ whole, isTrue e X.env whole = (do let v ← whole; standAt e.pos; holding [v] (truthy v)))
    (hs : PySem.W.findIn X.K (.ref C) "__bool__" = some (some (.ref g))) (hf : PySem.W.isFn X.K (.ref g) = true) (F : FnR X.prog X.w X.K X.mg X.base CX n g sp) (hr : Room n X.A) (hx : Passes CX X E) : PT X e (tTruO C sp E te) := by
  refine ⟨fun pins s σ H Q I h => isTrue_plain (thn (ha.run pins s σ H _ I h) fun v s1 ⟨x, H1, I1, r1, a, dx, fs, ex, hax, q⟩ => ?_) (he _)⟩
  subst ex
  obtain rfl : v = Value.ref a := r1
  obtain ⟨mA, O, _⟩ := ins_get I1.hok hax
  obtain ⟨od, J, _⟩ := O.look
  obtain ⟨m, hF⟩ := I1.fr
  refine PySem.W.truthy_K hF I1.ok.mod.kin J hs hf ?_
  refine wpAny_mono (wpAny_call (SlX.run_at (A := X.A) (us := [.ref a]) (ws := [.ref a]) F hr I1.env0 hx I1 (.cons rfl .nil) q)) (fun w' s' z => ?_) fun _ _ x => x
  obtain ⟨z', H', I', rz, b, rfl, qz⟩ := z
  cases rz
  exact ⟨H', I', qz⟩
/-! ### bool(x) of a load -/
abbrev sBool : Stmt := inClass (top 14) 13
def spBool (C : Addr) : Sp := fun vs H Q _ => ∃ (x : Addr) (ps : List (Str × Int)), vs = [.ref x] ∧ LoadAt C H x ps ∧ Q (.bl (!ps.isEmpty)) H
theorem call_boolD {X : Cx} : CallR X (.type "bool") (fun xs H Q => ∃ d kvs, xs = [V.ref d] ∧ H d = some (.dK kvs) ∧ Q (.bl (!kvs.isEmpty)) H) := by
  intro pins s σ H xs us Q I r h
  obtain ⟨d, kvs, rfl, hd, q⟩ := h
  rw [Vals.ref1 r]
  have hl := line63
  obtain ⟨hz, hS, vs, rr, m⟩ : kvs.length ≤ sizeLine ∧ (d == sysModules) = false ∧ ∃ vs, KV kvs vs ∧ s.heap.DictOf (mixKind X.prog X.w) d vs := I.hok d _ hd
  have hlen : kvs.length = vs.length := Paired.length rr
  exact call_bool_by (wpAny_truthy_dict hS m (by omega) ⟨.bl _, H, I.tok _, by rw [isEmpty_kv rr]; rfl, q⟩)
section
variable {P : Program} {w : World} {K : PySem.W.Frag} {mg : Str → Option Value} {base : Heap} {C fi : Addr}
theorem scBool : FnScope ["self"] ["self"] (defScope sBool) := ⟨rfl, rfl, rfl, by decide +kernel, rfl, by decide +kernel, by decide +kernel⟩
theorem ok_bool {f : Addr} {fd : FuncData} (F : Fun K "__bool__" "Load.__bool__" sBool f fd) (T : LoadC K mg C fi) (B : Blt2 mg) : FnOk P w K mg base CX0 1 f fd ["self"] (spBool C) := by
  refine F.ok scBool (fun vs H Q E h => ?_) (fun cdv A outer s H vs Q E hr h => ?_)
  · obtain ⟨x, ps, rfl, _⟩ := h
    rfl
  · obtain ⟨x, ps, rfl, ⟨dx, t, h1, h2, can⟩, q⟩ := h
    refine ⟨_, pss_one (ps_ret (pe_callTy call_boolD (by rfl) B.bool (by decide +kernel) (pa_cons (pe_fld (pv 0) rfl) pa_nil))), ?_⟩
    refine ⟨_, rfl, x, C, dx, _, _, rfl, h1, T.c, T.nc, rfl, t, cD ps, rfl, h2, ?_⟩
    have e : (cD ps).isEmpty = ps.isEmpty := by
      unfold cD
      cases ps <;> rfl
    rw [e]
    exact q
end
/-! ### an own error with one field of any kind -/
def spXI (C : Addr) (f : Str) : Sp := fun vs H Q _ => ∃ (a : Addr) (v : V), vs = [.ref a, v] ∧ H a = some (exo a C none) ∧
  ∀ dx, H dx = none → dx ≠ a → Q .non (upd (upd H dx (exd dx [(f, v)])) a (exo a C (some dx)))
structure XCls (K : PySem.W.Frag) (mg : Str → Option Value) (x : Str) (C fI : Addr) : Prop where
  oex : OexC K C
  iC : PySem.W.findIn K (.ref C) "__init__" = some (some (.ref fI))
  tI : PySem.W.typeIn K (.ref fI) = some (.type "function")
  gC : mg x = some (.ref C)
  ve : mg "ValueError" = none
  vV : PySem.W.findCls K (.type "ValueError") (.type "type") "__init__" = some (.val (.builtin "ValueError.__init__"))
abbrev sXn : Stmt := inClass (top 8) 0
theorem scXn : FnScope ["self", "field"] ["self", "field"] (defScope sXn) := ⟨rfl, rfl, rfl, by decide +kernel, rfl, by decide +kernel, by decide +kernel⟩
theorem mkO_v {C : Addr} {f : Str} {H1 : Hp} {v : V} {Qx : XK} (k : ∀ (H' : Hp) (d : Addr), Same H1 H' → H' d = some (.xd [(f, v)]) → Qx (.ref C) (some d) H') :
    [v].length ≤ 1000 ∧ ∀ a, H1 a = none → spXI C f (.ref a :: ([v] ++ [])) (upd H1 a (exo a C none))
      (fun v H2 => v = .non ∧ ∃ (d : Addr) (fs : List (Str × V)), H2 a = some (exo a C (some d)) ∧ H2 d = some (exd d fs) ∧ H1 d = none ∧ Qx (.ref C) (some d) (upd (del H2 a) d (.xd fs))) (fun _ _ _ => False) := by
  refine ⟨by show 1 ≤ 1000; decide, fun a ha => ⟨a, v, rfl, upd_same, fun dx hdx hne => ⟨rfl, dx, [(f, v)], upd_same, by rw [upd_ne hne, upd_same], by rw [upd_ne hne] at hdx; exact hdx, k _ _ (fun b o e => ?_) upd_same⟩⟩⟩
  have hba : b ≠ a := ne_of_none e ha
  have hdx' : H1 dx = none := by rw [upd_ne hne] at hdx; exact hdx
  have hbd : b ≠ dx := ne_of_none e hdx'
  rw [upd_ne hbd, del_ne hba, upd_ne hba, upd_ne hbd, upd_ne hba]
  exact e
section
variable {P : Program} {w : World} {K : PySem.W.Frag} {mg : Str → Option Value} {base : Heap} {CT fT : Addr}
theorem ok_xn {f : Addr} {fd : FuncData} (F : Fun K "__init__" "InvalidNote.__init__" sXn f fd) (T : OexC K CT) (ve : mg "ValueError" = none) (vV : PySem.W.findCls K (.type "ValueError") (.type "type") "__init__" = some (.val (.builtin "ValueError.__init__"))) (no : PySem.W.findIn K (.ref CT) "field" = some none) :
    FnOk P w K mg base CX0 1 f fd ["self", "field"] (spXI CT "field") := by
  refine F.ok scXn (fun vs H Q E h => ?_) (fun cdv A outer s H vs Q E hr h => ?_)
  · obtain ⟨a, i, rfl, _⟩ := h
    rfl
  · obtain ⟨a, i, rfl, ha, q⟩ := h
    have nd : (["self", "field"] : List Str).Nodup := scXn.nd
    refine ⟨_, pss_cons (ps_expr (pe_veinit (by rfl) ve vV (pa_cons (pv 0) (pa_cons (pv 1) pa_nil)))) (pss_one (ps_ost (pv 0) (pv 1))), ?_⟩
    refine ⟨_, rfl, _, rfl, a, CT, [i], rfl, by show 1 ≤ 1000; decide, T, ha, ?_⟩
    exact ⟨_, rfl, _, rfl, a, CT, rfl, T, no, .inl ⟨ha, fun dx h1 h2 => q dx h1 h2⟩⟩
end
end Ld
namespace Ld
open PySem PySem.Spec PyProof.Rows L2
open TL
abbrev sStock : Stmt := top 21
abbrev sNoteI : Stmt := inClass (top 23) 0
/-- a value in a note's last field, and whether it fits -/
def LdV (K : PySem.W.Frag) (C : Addr) (H : Hp) (v : V) (fits : Bool) : Prop := (∃ x ps, v = .ref x ∧ LoadAt C H x ps ∧ fits = (leB [] ps && !ps.isEmpty)) ∨ (fits = false ∧ ∃ t, (∀ H', Same H H' → TyX K H' v t) ∧ PySem.W.kitOne K t (.ref C) = some false)
def spStock (K : PySem.W.Frag) (C : Addr) : Sp := fun vs H Q _ => ∃ v, vs = [v] ∧ ((∃ x ps, v = .ref x ∧ LoadAt C H x ps ∧ ∀ H', Same H H' → Q (.bl (leB [] ps)) H') ∨ ∃ t, TyX K H v t ∧ PySem.W.kitOne K t (.ref C) = some false ∧ Q (.bl false) H)
/-- what of the text the class of notes must have -/
structure NoteC (K : PySem.W.Frag) (mg : Str → Option Value) (CN fi : Addr) : Prop where
  c : Cls K CN
  n0 : NoAttr K CN "number"
  n1 : NoAttr K CN "day"
  n2 : NoAttr K CN "giver"
  n3 : NoAttr K CN "taker"
  n4 : NoAttr K CN "load"
  mkC : Mk K CN fi
  gC : mg "Note" = some (.ref CN)
def nfs (v0 v1 v2 v3 v4 : V) : List (Str × V) := [("number", v0), ("day", v1), ("giver", v2), ("taker", v3), ("load", v4)]
def spNoteI (K : PySem.W.Frag) (C CN CT : Addr) : Sp := fun vs H Q E => ∃ (p x dx : Addr) (v0 v1 v2 v3 v4 : V) (fits : Bool), vs = [.ref x, v0, v1, v2, v3, v4] ∧ H x = some (.ins CN dx []) ∧ Fv p H v0 ∧ Fv p H v1 ∧ Fv p H v2 ∧ Fv p H v3 ∧ LdV K C H v4 fits ∧
  (dueV v0 v1 v2 v3 fits = .non → ∀ H' : Hp, (∀ b o, b ≠ x → H b = some o → H' b = some o) → H' x = some (.ins CN dx (nfs v0 v1 v2 v3 v4)) → Q .non H') ∧
  (∀ z : Str, dueV v0 v1 v2 v3 fits = .str z → ∀ (H' : Hp) (d : Addr), Same H H' → H' d = some (.xd [("field", .str z)]) → E (.ref CT) (some d) H')
section
variable {P : Program} {w : World} {K : PySem.W.Frag} {mg : Str → Option Value} {base : Heap} {C fi CN fn CT fT : Addr}
theorem scStock : FnScope ["value"] ["value"] (defScope sStock) := ⟨rfl, rfl, rfl, by decide +kernel, rfl, by decide +kernel, by decide +kernel⟩
theorem ok_stock {f : Addr} {fd : FuncData} (F : Fun K "is_stock" "is_stock" sStock f fd) (T : LoadC K mg C fi) (S : SlX.SIsi K C) (B : Blt2 mg) (HG : HasM P w K mg base 4 C "__ge__" (spGe C)) (FI : FnK P w K mg base CX0 3 fi [] (spKw [] (spInitB C))) : FnOk P w K mg base CX0 5 f fd ["value"] (spStock K C) := by
  obtain ⟨g2, c1, c2, c3, G2⟩ := HG
  refine F.ok scStock (fun vs H Q E h => ?_) (fun cdv A outer s H vs Q E hr h => ?_)
  · obtain ⟨v, rfl, _⟩ := h
    rfl
  · obtain ⟨v, rfl, h⟩ := h
    refine ⟨_, pss_one (ps_ret (pe_and (pe_callB call_isi (by rfl) B.isi bIsi (pa_cons (pv 0) (pa_cons (pe_glob (v := .ref C) (by rfl) T.gC rfl) pa_nil)))
      (pe_one (pe_cmpR (op_cmp (op := .GtE) (fun _ _ => rfl) c1 c3 G2 hr pass0) (pv 0) (pe_makeQ0 T.mkC FI hr (by rfl) T.gC pass0) (nomark _))))), ?_⟩
    rcases h with ⟨x, ps, rfl, hx, q⟩ | ⟨t, ty, kt, q⟩
    · refine ⟨_, rfl, .ref x, _, _, _, true, rfl, .own C, hx.ty T.c S, kit_self, true, rfl, iteT ?_⟩
      refine ⟨_, rfl, rfl, made_load (y := []) (zs := []) (ps := []) rfl rfl List.nodup_nil (by decide) (fun _ h => nomatch h) fun H3 o1 as same3 _ h1 hc1 => ?_⟩
      have hx3 := hx.same same3
      have hx4 := hx3
      obtain ⟨dx, tx, e1, e2, cx⟩ := hx4
      obtain ⟨_, _, _, _, cn⟩ := id h1
      have e0 : as = [] := can_eq cn ⟨List.nodup_nil, rfl, (fun _ h => nomatch h), (fun _ h => nomatch h), by decide⟩ hc1
      subst e0
      exact ⟨x, dx, _, _, rfl, e1, h1.ty T.c S, nf_self, x, o1, ps, [], rfl, hx3, h1, fun H4 s4 => q _ (same3.trans s4)⟩
    · exact ⟨_, rfl, v, _, t, _, false, rfl, .own C, ty, kt, false, rfl, iteF q⟩
abbrev nNoteI : List Str := ["self", "number", "day", "giver", "taker", "load"]
theorem scNoteI : FnScope nNoteI nNoteI (defScope sNoteI) := ⟨rfl, rfl, rfl, by decide +kernel, rfl, by decide +kernel, by decide +kernel⟩
theorem ok_noteI {f : Addr} {fd : FuncData} (F : Fun K "__init__" "Note.__init__" sNoteI f fd) (N : NoteC K mg CN fn) (HI : Has P w K mg base 1 "is_integer" ["value"] (spIsInt K)) (HW : Has P w K mg base 1 "is_word" ["value"] (spIsWord K)) (HS : Has P w K mg base 5 "is_stock" ["value"] (spStock K C))
    {gb : Addr} (hs : PySem.W.findIn K (.ref C) "__bool__" = some (some (.ref gb))) (hf : PySem.W.isFn K (.ref gb) = true) (FB : FnR P w K mg base CX0 1 gb (spBool C))
    {xd : FuncData} (XT : XCls K mg "InvalidNote" CT fT) (FT : FnOk P w K mg base CX0 1 fT xd ["self", "field"] (spXI CT "field")) (bT : L2.Binds K xd ["self", "field"] []) :
    FnOk P w K mg base (L2.CX P w) 6 f fd nNoteI (spNoteI K C CN CT) := by
  obtain ⟨g1, gd1, G1, b1, m1, k1⟩ := HI
  obtain ⟨g2, gd2, G2, b2, m2, k2⟩ := HW
  obtain ⟨g3, gd3, G3, b3, m3, k3⟩ := HS
  refine F.okX scNoteI (fun vs H Q E h => ?_) (fun cdv A outer s H vs Q E hr h => ?_)
  · obtain ⟨p, x, dx, v0, v1, v2, v3, v4, fits, rfl, _⟩ := h
    rfl
  · obtain ⟨p, x, dx, v0, v1, v2, v3, v4, fits, rfl, hx, f0, f1, f2, f3, f4, kq, ke⟩ := h
    have nd : nNoteI.Nodup := scNoteI.nd
    have hr1 : Room 1 _ := hr.mono (by decide : 1 ≤ 5)
    have hr2 : Room 2 _ := hr.mono (by decide : 2 ≤ 5)
    refine ⟨_, pss_cons (ps_if (PW.pt (pw_or (pt_not (pt_truth (pe_call G1 hr1 (by rfl) m1 k1 b1 .nil pass0 (pa_cons (pv 1) pa_nil)) (fun _ => rfl))) (pw_or1 (pt_cmpR op_lt (pv 1) pe_int (nomark _))))) (pss_one (ps_raise rfl (takes_of rfl rfl rfl rfl) (pmk_oex XT.oex XT.iC XT.tI FT hr2 bT .nil pass0 (by rfl) XT.gC (pa_cons pe_str pa_nil)))) pss_nil)
      (pss_cons (ps_if (pt_not (pt_truth (pe_call G1 hr1 (by rfl) m1 k1 b1 .nil pass0 (pa_cons (pv 2) pa_nil)) (fun _ => rfl))) (pss_one (ps_raise rfl (takes_of rfl rfl rfl rfl) (pmk_oex XT.oex XT.iC XT.tI FT hr2 bT .nil pass0 (by rfl) XT.gC (pa_cons pe_str pa_nil)))) pss_nil)
      (pss_cons (ps_if (pt_not (pt_truth (pe_call G2 hr1 (by rfl) m2 k2 b2 .nil pass0 (pa_cons (pv 3) pa_nil)) (fun _ => rfl))) (pss_one (ps_raise rfl (takes_of rfl rfl rfl rfl) (pmk_oex XT.oex XT.iC XT.tI FT hr2 bT .nil pass0 (by rfl) XT.gC (pa_cons pe_str pa_nil)))) pss_nil)
      (pss_cons (ps_if (PW.pt (pw_or (pt_not (pt_truth (pe_call G2 hr1 (by rfl) m2 k2 b2 .nil pass0 (pa_cons (pv 4) pa_nil)) (fun _ => rfl))) (pw_or1 (pt_cmpR op_eq (pv 4) (pv 3) (nomark _))))) (pss_one (ps_raise rfl (takes_of rfl rfl rfl rfl) (pmk_oex XT.oex XT.iC XT.tI FT hr2 bT .nil pass0 (by rfl) XT.gC (pa_cons pe_str pa_nil)))) pss_nil)
      (pss_cons (ps_if (PW.pt (pw_or (pt_not (pt_truth (pe_call G3 hr (by rfl) m3 k3 b3 .nil pass0 (pa_cons (pv 5) pa_nil)) (fun _ => rfl))) (pw_or1 (pt_not (pt_own (pv 5) (fun _ => rfl) hs hf FB hr1 pass0))))) (pss_one (ps_raise rfl (takes_of rfl rfl rfl rfl) (pmk_oex XT.oex XT.iC XT.tI FT hr2 bT .nil pass0 (by rfl) XT.gC (pa_cons pe_str pa_nil)))) pss_nil)
      (pss_cons (ps_fld (pv 0) (pv 1) rfl)
      (pss_cons (ps_fld (pv 0) (pv 2) rfl)
      (pss_cons (ps_fld (pv 0) (pv 3) rfl)
      (pss_cons (ps_fld (pv 0) (pv 4) rfl)
      (pss_one (ps_fld (pv 0) (pv 5) rfl)))))))))), ?_⟩
    unfold dueV at kq ke
    -- number
    refine tOr_ofS (b := !isI v0) (c := ltOne v0) (fun Q q => ⟨_, rfl, by dsimp only [tNil]; exact f0.isInt ⟨_, rfl, q _ fun _ _ e => e⟩⟩) (fun H' s' hb Q q => ?_) (fun H2 s2 => ?_)
    · obtain ⟨i, rfl⟩ := isI_int (nt_of hb)
      exact ⟨_, rfl, _, _, rfl, rfl, _, rfl, q _ fun _ _ e => e⟩
    refine ifb (fun hb => ?_) (fun hb => ?_)
    · rw [hb, if_pos rfl] at ke
      exact mkO_v fun H' d s => ke _ rfl _ _ (s2.trans s)
    rw [hb, if_neg Bool.false_ne_true] at kq ke
    -- day
    refine ⟨_, rfl, ?_⟩
    dsimp only [tNil]
    refine (f1.keep (p := p) (.of s2)).isInt ⟨_, rfl, ?_⟩
    refine ifb (fun hb1 => ?_) (fun hb1 => ?_)
    · rw [hb1, if_pos rfl] at ke
      exact mkO_v fun H' d s => ke _ rfl _ _ (s2.trans s)
    rw [hb1, if_neg Bool.false_ne_true] at kq ke
    -- giver
    refine ⟨_, rfl, ?_⟩
    try dsimp only [tNil]
    refine (f2.keep (p := p) (.of s2)).isWord fun H3 s3 => ⟨_, rfl, ?_⟩
    have s13 := s2.trans s3
    refine ifb (fun hb2 => ?_) (fun hb2 => ?_)
    · rw [hb2, if_pos rfl] at ke
      exact mkO_v fun H' d s => ke _ rfl _ _ (s13.trans s)
    rw [hb2, if_neg Bool.false_ne_true] at kq ke
    obtain ⟨z2, rfl, hz2⟩ := wdV_str (nt_of hb2)
    -- taker
    try dsimp only [tNext, tSeq, tIfS]
    refine tOr_ofS (b := !wdV v3) (c := decide (v3 = .str z2)) (fun Q q => ⟨_, rfl, by dsimp only [tNil]; exact (f3.keep (p := p) (.of s13)).isWord fun H4 s4 => ⟨_, rfl, q _ s4⟩⟩) (fun H' s' hb Q q => ?_) (fun H4 s4 => ?_)
    · obtain ⟨z3, rfl, hz3⟩ := wdV_str (nt_of hb)
      exact ⟨_, rfl, _, rfl, rfl, _, rfl, q _ fun _ _ e => e⟩
    have s14 := s13.trans s4
    refine ifb (fun hb3 => ?_) (fun hb3 => ?_)
    · rw [hb3, if_pos rfl] at ke
      exact mkO_v fun H' d s => ke _ rfl _ _ (s14.trans s)
    rw [hb3, if_neg Bool.false_ne_true] at kq ke
    -- load
    try dsimp only [tNext, tSeq, tIfS]
    rcases f4 with ⟨y, ps, rfl, hy, hfit⟩ | ⟨hfit, t, ty, kt⟩
    · refine tOr_ofS (b := !leB [] ps) (c := !(!ps.isEmpty)) (fun Q q => ⟨_, rfl, .ref y, rfl, .inl ⟨y, ps, rfl, hy.same s14, fun H5 s5 => ⟨_, rfl, q _ s5⟩⟩⟩) (fun H' s' hb Q q => ?_) (fun H5 s5 => ?_)
      · have hy' := hy.same (s14.trans s')
        obtain ⟨dy, ty, e1, e2, cy⟩ := id hy'
        exact ⟨_, rfl, y, dy, _, rfl, e1, y, ps, rfl, hy', _, rfl, q _ fun _ _ e => e⟩
      have s15 := s14.trans s5
      refine ifb (fun hb4 => ?_) (fun hb4 => ?_)
      · have e : fits = false := by
          rw [hfit]
          cases h1 : leB [] ps with
          | false => rfl
          | true =>
            rw [h1] at hb4
            cases h2 : ps.isEmpty with
            | false => rw [h2] at hb4; cases hb4
            | true => rfl
        rw [e, if_neg Bool.false_ne_true] at ke
        exact mkO_v fun H' d s => ke _ rfl _ _ (s15.trans s)
      have e : fits = true := by
        rw [hfit]
        cases h1 : leB [] ps with
        | false => rw [h1] at hb4; cases hb4
        | true =>
          rw [h1] at hb4
          cases h2 : ps.isEmpty with
          | false => rfl
          | true => rw [h2] at hb4; cases hb4
      rw [e, if_pos rfl] at kq
      have hx5 := s15 _ _ hx
      refine ⟨_, rfl, _, rfl, x, CN, dx, _, rfl, hx5, N.c, N.n0, by decide, ?_⟩
      refine ⟨_, rfl, _, rfl, x, CN, dx, _, rfl, upd_same, N.c, N.n1, by show 1 < 1000; decide, ?_⟩
      refine ⟨_, rfl, _, rfl, x, CN, dx, _, rfl, upd_same, N.c, N.n2, by show 2 < 1000; decide, ?_⟩
      refine ⟨_, rfl, _, rfl, x, CN, dx, _, rfl, upd_same, N.c, N.n3, by show 3 < 1000; decide, ?_⟩
      refine ⟨_, rfl, _, rfl, x, CN, dx, _, rfl, upd_same, N.c, N.n4, by show 4 < 1000; decide, ?_⟩
      rw [upd_upd, upd_upd, upd_upd, upd_upd]
      exact kq rfl _ (fun b o nb eb => by rw [upd_ne nb]; exact s15 _ _ eb) upd_same
    · rw [hfit, if_neg Bool.false_ne_true] at ke
      refine tOr_ofS (b := true) (c := false) (fun Q q => ⟨_, rfl, v4, rfl, .inr ⟨t, ty _ s14, kt, _, rfl, q _ fun _ _ e => e⟩⟩) (fun _ _ hb => nomatch hb) (fun H5 s5 => ?_)
      exact iteT (mkO_v fun H' d s => ke _ rfl _ _ ((s14.trans s5).trans s))
end
end Ld
namespace Ld
open PySem PySem.Spec PyProof.Rows L2
open TL
abbrev sNoteEq : Stmt := inClass (top 23) 1
/-- a note with these fields -/
structure Nt where
  n : Int
  d : Int
  g : Str
  t : Str
  ps : List (Str × Int)
deriving DecidableEq
def NoteAt (C CN : Addr) (H : Hp) (x : Addr) (m : Nt) : Prop := ∃ dx y, H x = some (.ins CN dx (nfs (.int m.n) (.int m.d) (.str m.g) (.str m.t) (.ref y))) ∧ LoadAt C H y m.ps
theorem NoteAt.same {C CN : Addr} {H H' : Hp} {x : Addr} {m : Nt} (h : NoteAt C CN H x m) (s : Same H H') : NoteAt C CN H' x m := by
  obtain ⟨dx, y, h1, h2⟩ := h
  exact ⟨dx, y, s _ _ h1, h2.same s⟩
def eqN (a b : Nt) : Bool := decide ((.int a.n : V) = .int b.n) && (decide ((.int a.d : V) = .int b.d) && (decide ((.str a.g : V) = .str b.g) && (decide ((.str a.t : V) = .str b.t) && decide (a.ps = b.ps))))
theorem eqN_iff {a b : Nt} : eqN a b = true ↔ a = b := by
  unfold eqN
  simp only [Bool.and_eq_true, decide_eq_true_eq, V.int.injEq, V.str.injEq]
  constructor
  · rintro ⟨h1, h2, h3, h4, h5⟩
    cases a
    cases b
    simp only at h1 h2 h3 h4 h5
    subst h1 h2 h3 h4 h5
    rfl
  · rintro rfl
    exact ⟨rfl, rfl, rfl, rfl, rfl⟩
theorem tAndV_of {t u : TE} {σ : L2.St} {H : Hp} {Q : VK} {b c : Bool} (h1 : ∀ Q : VK, Q (.bl b) H → t σ H Q) (h2 : b = true → ∀ Q : VK, Q (.bl c) H → u σ H Q) (q : Q (.bl (b && c)) H) : tAndV t u σ H Q :=
  h1 _ ⟨b, rfl, by
    cases b with
    | true => exact iteT (h2 rfl _ q)
    | false => exact iteF q⟩
def spNoteEq (K : PySem.W.Frag) (C CN : Addr) : Sp := fun vs H Q _ => ∃ (x : Addr) (y : V) (m : Nt), vs = [.ref x, y] ∧ NoteAt C CN H x m ∧
  ((∃ b m', y = .ref b ∧ NoteAt C CN H b m' ∧ Q (.bl (eqN m m')) H) ∨ ∃ t, TyX K H y t ∧ PySem.W.kitOne K t (.ref CN) = some false ∧ Q (.bl false) H)
section
variable {P : Program} {w : World} {K : PySem.W.Frag} {mg : Str → Option Value} {base : Heap} {C fi CN fn : Addr}
theorem NoteAt.ty {H : Hp} {x : Addr} {m : Nt} (h : NoteAt C CN H x m) (c : Cls K CN) (i : SlX.SIsi K CN) : TyX K H (.ref x) (.ref CN) := by
  obtain ⟨dx, y, h1, _⟩ := h
  exact .base (.ins h1 c i.ca i.cn i.ct i.cm)
theorem scNoteEq : FnScope ["self", "other"] ["self", "other"] (defScope sNoteEq) := ⟨rfl, rfl, rfl, by decide +kernel, rfl, by decide +kernel, by decide +kernel⟩
theorem ok_noteEq {f : Addr} {fd : FuncData} (F : Fun K "__eq__" "Note.__eq__" sNoteEq f fd) (N : NoteC K mg CN fn) (SN : SlX.SIsi K CN) (T : LoadC K mg C fi) (S : SlX.SIsi K C) (B : Blt2 mg) (HE : HasM P w K mg base 1 C "__eq__" (spEqL K C)) : FnOk P w K mg base CX0 2 f fd ["self", "other"] (spNoteEq K C CN) := by
  obtain ⟨g2, c1, c2, c3, G2⟩ := HE
  refine F.ok scNoteEq (fun vs H Q E h => ?_) (fun cdv A outer s H vs Q E hr h => ?_)
  · obtain ⟨x, y, m, rfl, _⟩ := h
    rfl
  · obtain ⟨x, y, m, rfl, hx, h⟩ := h
    refine ⟨_, pss_one (ps_ret (pe_and (pe_callB call_isi (by rfl) B.isi bIsi (pa_cons (pv 1) (pa_cons (pe_glob (v := .ref CN) (by rfl) N.gC rfl) pa_nil)))
      (pe_and (pe_cmpR op_eq (pe_fld (pv 0) rfl) (pe_fld (pv 1) rfl) (nomark _))
      (pe_and (pe_cmpR op_eq (pe_fld (pv 0) rfl) (pe_fld (pv 1) rfl) (nomark _))
      (pe_and (pe_cmpR op_eq (pe_fld (pv 0) rfl) (pe_fld (pv 1) rfl) (nomark _))
      (pe_and (pe_cmpR op_eq (pe_fld (pv 0) rfl) (pe_fld (pv 1) rfl) (nomark _))
      (pe_one (pe_cmpR (op_cmp (op := .Eq) (fun _ _ => rfl) c1 c3 G2 hr pass0) (pe_fld (pv 0) rfl) (pe_fld (pv 1) rfl) (nomark _))))))))), ?_⟩
    rcases h with ⟨b, m', rfl, hb, q⟩ | ⟨t, ty, kt, q⟩
    · refine ⟨_, rfl, .ref b, _, _, _, true, rfl, .own CN, hb.ty N.c SN, kit_self, true, rfl, iteT ?_⟩
      obtain ⟨dx, yx, h1, h2⟩ := hx
      obtain ⟨dy, yb, h3, h4⟩ := hb
      refine tAndV_of (b := decide ((.int m.n : V) = .int m'.n)) (c := decide ((.int m.d : V) = .int m'.d) && (decide ((.str m.g : V) = .str m'.g) && (decide ((.str m.t : V) = .str m'.t) && decide (m.ps = m'.ps)))) (fun Q q => ⟨_, rfl, x, CN, dx, _, _, rfl, h1, N.c, N.n0, rfl, _, rfl, b, CN, dy, _, _, rfl, h3, N.c, N.n0, rfl, rfl, q⟩) (fun _ Q q => ?_) q
      refine tAndV_of (b := decide ((.int m.d : V) = .int m'.d)) (c := decide ((.str m.g : V) = .str m'.g) && (decide ((.str m.t : V) = .str m'.t) && decide (m.ps = m'.ps))) (fun Q q => ⟨_, rfl, x, CN, dx, _, _, rfl, h1, N.c, N.n1, rfl, _, rfl, b, CN, dy, _, _, rfl, h3, N.c, N.n1, rfl, rfl, q⟩) (fun _ Q q => ?_) q
      refine tAndV_of (b := decide ((.str m.g : V) = .str m'.g)) (c := decide ((.str m.t : V) = .str m'.t) && decide (m.ps = m'.ps)) (fun Q q => ⟨_, rfl, x, CN, dx, _, _, rfl, h1, N.c, N.n2, rfl, _, rfl, b, CN, dy, _, _, rfl, h3, N.c, N.n2, rfl, rfl, q⟩) (fun _ Q q => ?_) q
      refine tAndV_of (b := decide ((.str m.t : V) = .str m'.t)) (c := decide (m.ps = m'.ps)) (fun Q q => ⟨_, rfl, x, CN, dx, _, _, rfl, h1, N.c, N.n3, rfl, _, rfl, b, CN, dy, _, _, rfl, h3, N.c, N.n3, rfl, rfl, q⟩) (fun _ Q q => ?_) q
      have h5 := h2
      obtain ⟨dz, tz, e1, e2, cz⟩ := h5
      exact ⟨_, rfl, x, CN, dx, _, _, rfl, h1, N.c, N.n4, rfl, _, rfl, b, CN, dy, _, _, rfl, h3, N.c, N.n4, rfl, yx, dz, _, _, rfl, e1, h4.ty T.c S, nf_self, yx, .ref yb, m.ps, rfl, h2, .inl ⟨yb, m'.ps, rfl, h4, q⟩⟩
    · exact ⟨_, rfl, y, _, t, _, false, rfl, .own CN, ty, kt, false, rfl, iteF q⟩
end
end Ld
namespace Ld
open PySem PySem.Spec PyProof.Rows L2
open TL
/-! ### two tuples that differ at a place -/
inductive DiffP (P : Program) (w : World) (A : Around) (s : Shared) : List (Value × Value) → Prop
  | here {y x : Value} {r : List (Value × Value)} : SeqAt.EqP P w A s y x false → DiffP P w A s ((y, x) :: r)
  | later {y x : Value} {r : List (Value × Value)} : SeqAt.EqP P w A s y x true → DiffP P w A s r → DiffP P w A s ((y, x) :: r)
theorem tup_ne_diff {P : Program} {w : World} {l b : Addr} {us vs : Array Value} {n m : Nat} {dd dd2 : Option Addr} {sl sl2 : Array (Option Value)} :
    MeetsIn P w (Builtin.«tuple.__ne__» ⟨[.ref l, .ref b], []⟩)
      (fun A R s => s.heap.get? l = some { cls := .type "tuple", dict := dd, data := .seq us n, slots := sl } ∧ s.heap.get? b = some { cls := .type "tuple", dict := dd2, data := .seq vs m, slots := sl2 } ∧
        DiffP P w A.in1 s (us.toList.zip vs.toList) ∧ R (.ok (.ret (.bool true))) s) := by
  intro A R s h
  obtain ⟨hp, g, d, tk, os⟩ := s
  obtain ⟨hl, hb, hd, hR⟩ := h
  have f2 := AutoSeq1.sub_tuple_tuple
  wp_walk using wpAny_loadPart' hl, wpAny_loadPart' hb, wpAny_forIn_list _ (fun rest b s' => b.1 = none ∧ s' = ⟨hp, g, d, tk, os⟩ ∧ DiffP P w A.in1 ⟨hp, g, d, tk, os⟩ rest) _
  case turn =>
    rintro ⟨y, x⟩ rest b s' ⟨_, rfl, df⟩
    cases df with
    | here he =>
      refine wpAny_bind (he _ _ ?_)
      wp_walk
      exact hR
    | later he ht =>
      refine wpAny_bind (he _ _ ?_)
      wp_walk
      exact ⟨rfl, rfl, ht⟩
  case fin =>
    rintro ⟨b1, b2⟩ s' ⟨_, _, df⟩
    cases df
  case h => exact ⟨rfl, rfl, hd⟩
/-- the items differ: two scalars, or two dicts of counts, behind equal ones -/
inductive DiffV (H : Hp) : List V → List V → Prop
  | int {i j : Int} {xs ys : List V} : i ≠ j → DiffV H (.int i :: xs) (.int j :: ys)
  | str {i j : Str} {xs ys : List V} : i ≠ j → DiffV H (.str i :: xs) (.str j :: ys)
  | dict {a b : Addr} {ps qs : List (Str × Int)} {xs ys : List V} : a ≠ b → H a = some (.dK (cD ps)) → H b = some (.dK (cD qs)) → (ps.length == qs.length && hitB qs ps) = false → DiffV H (.ref a :: xs) (.ref b :: ys)
  | flat {v : V} {xs ys : List V} : flatB v = true → DiffV H xs ys → DiffV H (v :: xs) (v :: ys)
def rNeDf (K : PySem.W.Frag) : R2 := fun x y H Q => ∃ a b xs ys, x = .ref a ∧ y = .ref b ∧ SqT K H a xs ∧ SqT K H b ys ∧ DiffV H xs ys ∧ Q (.bl true) H
section
variable {X : Cx}
theorem diff_run {pins : List (Addr × Obj)} {σ : L2.St} {H : Hp} {s : Shared} (I : Inv X pins σ H s) {A : Around} (hu : A.units < cLine) : ∀ {xs ys : List V} {us vs : List Value}, DiffV H xs ys → Vals xs us → Vals ys vs → DiffP X.prog X.w A s (us.zip vs)
  | _, _, _, _, @DiffV.int _ i j _ _ ne, .cons r1 _, .cons r2 _ => by
    obtain ⟨t, rfl⟩ := r1
    obtain ⟨t', rfl⟩ := r2
    have h := (SeqAt.EqAt.int_int (A := A) (s := s) i t j t').eqP (prog := X.prog) (w := X.w)
    rw [beq_eq_false_iff_ne.mpr ne] at h
    exact .here h
  | _, _, _, _, @DiffV.str _ i j _ _ ne, .cons r1 _, .cons r2 _ => by
    obtain ⟨t, rfl⟩ := r1
    obtain ⟨t', rfl⟩ := r2
    have h := (SeqAt.EqAt.str_str (A := A) (s := s) i t j t').eqP (prog := X.prog) (w := X.w)
    rw [beq_eq_false_iff_ne.mpr ne] at h
    exact .here h
  | _, _, _, _, @DiffV.dict _ a b ps qs _ _ ne ea eb hf, .cons r1 _, .cons r2 _ => by
    cases (show _ = Value.ref a from r1)
    cases (show _ = Value.ref b from r2)
    obtain ⟨_, ya, va, ra, da⟩ := (show ObjOk X.prog X.w H s.heap a (.dK (cD ps)) from I.hok a _ ea)
    obtain ⟨_, yb, vb, rb, db⟩ := (show ObjOk X.prog X.w H s.heap b (.dK (cD qs)) from I.hok b _ eb)
    have hl : (va.length == vb.length) = (ps.length == qs.length) := by rw [← ra.length, ← rb.length, cD_len, cD_len]
    refine .here (SeqAt.eqP_refs ne fun E Q q => ?_)
    refine PySem.W.keq_eq (knd := mixKind X.prog X.w) (r := hitB qs ps) ya yb da db hu (fun _ => hits_ct rb ra) ?_
    rw [hl, hf]
    exact q
  | _, _, _, _, .flat f k, .cons r1 t1, .cons r2 t2 => .later (eqAt_same r1 r2 f).eqP (diff_run I hu k t1 t2)
theorem op_neDf (hu : X.A.units + 1 < cLine) : OpR X (compareOp .NotEq) (rNeDf X.K) := by
  intro pins s σ H x y v u Q I rx ry h
  obtain ⟨a, b, xs, ys, rfl, rfl, ha, hb, hd, q⟩ := h
  obtain rfl : v = Value.ref a := rx
  obtain rfl : u = Value.ref b := ry
  obtain ⟨us, r1, ⟨o1, e1, c1, n1, d1⟩, _⟩ := I.tuple ha
  obtain ⟨vs, r2, ⟨o2, e2, c2, n2, d2⟩, _⟩ := I.tuple hb
  obtain ⟨cls, dd, data, sl⟩ := o1
  obtain ⟨cls2, dd2, data2, sl2⟩ := o2
  simp only at c1 d1 c2 d2
  subst c1 d1 c2 d2
  have df := diff_run I (A := X.A.in1) (by show X.A.units + 1 < cLine; omega) hd r1 r2
  exact wpAny_richCompare_same_room (op := .NotEq) ⟨_, e1, rfl⟩ ⟨_, e2, rfl⟩ F.slot_tuple_ne (call_meetsIn F.slot_tuple_ne ⟨_, e1, rfl⟩ F.entry_tuple_ne (F.args_tuple_ne_2 _ _) tup_ne_diff
    ⟨e1, e2, df, show Value.bool true ≠ Value.notImplemented ∧ _ from ⟨(fun x => nomatch x), ⟨.bl true, H, I, rfl, q⟩⟩⟩) (by omega)
/-- two tuples that differ at a place, or of the same items -/
def rNeDq (K : PySem.W.Frag) : R2 := fun x y H Q => ∃ a b xs ys, x = .ref a ∧ y = .ref b ∧ SqT K H a xs ∧ SqT K H b ys ∧ ((DiffV H xs ys ∧ Q (.bl true) H) ∨ (xs = ys ∧ (∀ v ∈ xs, flatB v = true ∨ ∃ c, v = .ref c) ∧ Q (.bl false) H))
theorem vals_at : ∀ {xs : List V} {us vs : List Value}, (∀ v ∈ xs, flatB v = true ∨ ∃ c, v = .ref c) → Vals xs us → Vals xs vs → ∀ {A : Around} {s : Shared} (j : Nat) (h1 : j < us.length) (h2 : j < vs.length), SeqAt.EqAt A s us[j] vs[j] true
  | _, _, _, _, .nil, .nil, _, _, j, h1, _ => absurd h1 (Nat.not_lt_zero j)
  | v :: _, _, _, hf, .cons r1 t1, .cons r2 t2, _, _, 0, _, _ => by
    rcases hf v List.mem_cons_self with f | ⟨c, rfl⟩
    · exact eqAt_same r1 r2 f
    · cases (show _ = Value.ref c from r1)
      cases (show _ = Value.ref c from r2)
      exact SeqAt.EqAt.same _
  | _ :: _, _, _, hf, .cons _ t1, .cons _ t2, _, _, j + 1, h1, h2 => vals_at (fun v hv => hf v (List.mem_cons_of_mem _ hv)) t1 t2 j (Nat.lt_of_succ_lt_succ h1) (Nat.lt_of_succ_lt_succ h2)
theorem op_neDq (hu : X.A.units + 1 < cLine) : OpR X (compareOp .NotEq) (rNeDq X.K) := by
  intro pins s σ H x y v u Q I rx ry h
  obtain ⟨a, b, xs, ys, ex, ey, ha, hb, h⟩ := h
  rcases h with ⟨hd, q⟩ | ⟨rfl, hf, q⟩
  · exact op_neDf hu pins s σ H x y v u Q I rx ry ⟨a, b, xs, ys, ex, ey, ha, hb, hd, q⟩
  · subst ex ey
    obtain rfl : v = Value.ref a := rx
    obtain rfl : u = Value.ref b := ry
    obtain ⟨us, r1, ⟨o1, e1, c1, n1, d1⟩, _⟩ := I.tuple ha
    obtain ⟨vs, r2, ⟨o2, e2, c2, n2, d2⟩, _⟩ := I.tuple hb
    have hl : us.length = vs.length := by rw [← r1.length, ← r2.length]
    refine SeqAt.RcNeAt.tuples (e := fun _ => true) ⟨o1, e1, c1, n1, d1⟩ ⟨o2, e2, c2, n2, d2⟩ (by omega) (fun j h1 h2 => ?_) X.prog X.w X.xe _ ?_
    · have := vals_at hf r1 r2 (A := X.A.in1) (s := s) j (by simpa using h1) (by simpa using h2)
      simpa using this
    · have e : (!((List.range (min us.toArray.size vs.toArray.size)).all (fun _ => true) && us.toArray.size == vs.toArray.size)) = false := by
        rw [List.all_eq_true.mpr fun _ _ => rfl, List.size_toArray, List.size_toArray, hl]
        simp
      rw [e]
      exact ⟨.bl false, H, I, rfl, q⟩
/-! ### repr of a tuple of scalars and dicts -/
def rReprT (K : PySem.W.Frag) : List V → Hp → VK → Prop := fun vs H Q => ∃ (a : Addr) (xs : List V) (ds : List PyData), vs = [.ref a] ∧ SqT K H a xs ∧ Paired (ItR H) xs ds ∧ (PyData.tuple ds).showable = true ∧ (PyData.tuple ds).depth ≤ 60 ∧ (PyData.tuple ds).shown.length ≤ sizeLine ∧ Q (.str (PyData.tuple ds).shown) H
theorem call_reprT (hgd : X.A.guards = some []) (hu : X.A.units + 64 < cLine) : CallR X (.builtin "repr") (rReprT X.K) := by
  intro pins s σ H vs us Q I r h
  obtain ⟨a, xs, ds, rfl, hs, hi, hsh, hdp, hsz, q⟩ := h
  rw [Vals.ref1 r]
  obtain ⟨its, rv, ⟨o, h1, h2, n, h3⟩, _⟩ := I.tuple hs
  obtain ⟨as, h4, hno⟩ := readsAll_it I.hok hi rv
  have hz : (tupleText (PyData.shownAll ds)).length ≤ sizeLine := by simpa only [PyData.shown] using hsz
  obtain ⟨bs, hb, hk⟩ := ReprAllK.of_readsAll (prog := X.prog) (w := X.w) h4 (by simpa [PyData.showable] using hsh) (fun _ => hno) (fun t ht => Nat.le_trans (tupleText_mem_le ht) hz)
  have rd : Reads s.heap (.ref a) (.tuple ds) as := .tuple h1 h2 h3 (by simpa using h4)
  have hna : a ∉ bs := not_mem_of_deeper rd (by simp only [PyData.depth]; omega) hb
  simp only [PyData.depth] at hdp
  simp only [PyData.shown] at q
  refine call_repr_slot (T := "tuple") (idr := "tuple.__repr__") (by omega) ⟨o, h1, h2⟩ F.slot_tuple_repr ?_
  exact call_tuple_reprK h1 h2 h3 hna (by simpa using hk) hgd (fun b _ => Clear.nil b) (by show X.A.units + 1 + _ < cLine; omega) (fun _ _ e => e)
    (fun h' u tk k => ⟨_, _, rfl, .str _, H, I.kept (t' := tk) k, ⟨u, rfl⟩, q⟩) hz
end
end Ld
namespace Ld
open PySem PySem.Spec PyProof.Rows L2
/-! ### a dict comprehension over the items of a dict of counts -/
def mapC (f : Int → Int) (flt : Int → Bool) (ps : List (Str × Int)) : List (Str × Int) := (ps.filter fun p => flt p.2).map fun p => (p.1, f p.2)
theorem mapC_keys {f : Int → Int} {flt : Int → Bool} {ps : List (Str × Int)} : (mapC f flt ps).map (·.1) = (ps.filter fun p => flt p.2).map (·.1) := by
  unfold mapC
  rw [List.map_map]
  rfl
theorem mapC_nd {f : Int → Int} {flt : Int → Bool} {ps : List (Str × Int)} (nd : (ps.map (·.1)).Nodup) : ((mapC f flt ps).map (·.1)).Nodup := by
  rw [mapC_keys]
  exact nd.sublist (List.filter_sublist.map _)
theorem mapC_mem {f : Int → Int} {flt : Int → Bool} {ps : List (Str × Int)} {q : Str × Int} : q ∈ mapC f flt ps ↔ ∃ i, (q.1, i) ∈ ps ∧ flt i = true ∧ q.2 = f i := by
  unfold mapC
  rw [List.mem_map]
  constructor
  · rintro ⟨p, hp, rfl⟩
    obtain ⟨h1, h2⟩ := List.mem_filter.mp hp
    exact ⟨p.2, h1, h2, rfl⟩
  · rintro ⟨i, h1, h2, h3⟩
    exact ⟨(q.1, i), List.mem_filter.mpr ⟨h1, h2⟩, by rw [← h3]⟩
theorem mapC_len {f : Int → Int} {flt : Int → Bool} {ps : List (Str × Int)} : (mapC f flt ps).length ≤ ps.length := by
  unfold mapC
  rw [List.length_map]
  exact List.length_filter_le _ _
theorem ct_mapC {f : Int → Int} {flt : Int → Bool} {ps : List (Str × Int)} (nd : (ps.map (·.1)).Nodup) (h0 : flt 0 = true → f 0 = 0) (z : Str) : ct (mapC f flt ps) z = if flt (ct ps z) = true then f (ct ps z) else 0 := by
  by_cases hz : z ∈ ps.map (·.1)
  · obtain ⟨p, hp, rfl⟩ := List.mem_map.mp hz
    have hc := ct_mem nd hp
    by_cases hf : flt p.2 = true
    · rw [hc, if_pos hf]
      exact ct_mem (mapC_nd nd) (mapC_mem.mpr ⟨p.2, hp, hf, rfl⟩ : (p.1, f p.2) ∈ mapC f flt ps)
    · rw [hc, if_neg hf]
      refine ct_out fun hm => ?_
      obtain ⟨q, hq, e⟩ := List.mem_map.mp hm
      obtain ⟨i, h1, h2, h3⟩ := mapC_mem.mp hq
      have h4 := ct_mem nd h1
      have h4' : ct ps q.1 = i := h4
      rw [e, hc] at h4'
      rw [h4'] at hf
      exact hf h2
  · rw [ct_out hz]
    have : z ∉ (mapC f flt ps).map (·.1) := fun hm => by
      obtain ⟨q, hq, e⟩ := List.mem_map.mp hm
      obtain ⟨i, h1, _, _⟩ := mapC_mem.mp hq
      exact hz (List.mem_map.mpr ⟨_, h1, e⟩)
    rw [ct_out this]
    split
    · rename_i h
      rw [h0 h]
    · rfl
theorem mapC_ok {f : Int → Int} {flt : Int → Bool} {ps : List (Str × Int)} {H : Hp} {D : Addr} (can : Can ps) (e : H D = some (.dK (cD (mapC f flt ps)))) : Ok H D (mapC f flt ps) :=
  ⟨e, mapC_nd can.nd, Nat.le_trans mapC_len can.few, fun p hp => by
    obtain ⟨i, h1, _, _⟩ := mapC_mem.mp hp
    exact can.wd (p.1, i) h1⟩
theorem dc_counts {t D : Addr} {od : Obj} {ps : List (Str × Int)} {g : TG} {tt : TT} {tk tv : TE} {vs : List Nat} {σ : L2.St} {H : Hp} {Qd : Hp → Prop} (f : Int → Int) (flt : Int → Bool) (h2 : H t = some (.dK (cD ps))) (can : Can ps) (hD : upd H t (.frz od (.dK (cD ps))) D = none)
    (hturn : ∀ (T : Addr) (z : Str) (i : Int) (H3 : Hp) (R : V → V → Hp → Prop) (R' : Hp → Prop), H3 T = some (.tup [.str z, .int i]) → (z, i) ∈ ps → (flt i = true → R (.str z) (.int (f i)) H3) → (flt i = false → R' H3) →
      g (.ref T) (wipe σ vs) H3 fun σ2 H2 => wipe σ2 vs = wipe σ vs ∧ tt σ2 H2 fun b H3 => if b = true then tk σ2 H3 fun y H4 => tv σ2 H4 fun z H5 => R y z H5 else R' H3)
    (hq : ∀ H', Same H (upd H' t (.dK (cD ps))) → H D = none → H' t = some (.frz od (.dK (cD ps))) → upd H' t (.dK (cD ps)) D = some (.dK (cD (mapC f flt ps))) → Qd H') :
    ∃ W : Nat → Nat → Hp → Prop, (∃ m, W 0 m (upd (upd H t (.frz od (.dK (cD ps)))) D (.dK []))) ∧ ∀ i m H, W i m H →
      ((Iti t od (cD ps)).stop i H ∧ Qd H) ∨ ((Iti t od (cD ps)).go i H ∧ ∃ Nx : Hp → Prop, (∀ H', Nx H' → ∃ m', m' < m ∧ W (i + 1) m' H') ∧ ∀ x H', (Iti t od (cD ps)).yld i H x H' → g x (wipe σ vs) H' fun σ2 H2 => wipe σ2 vs = wipe σ vs ∧ tt σ2 H2 fun b H3 =>
        if b = true then tk σ2 H3 fun y H4 => tv σ2 H4 fun z H5 => ∃ kvs k, y = kV k ∧ H5 D = some (.dK kvs) ∧ kvs.length < sizeLine ∧ Nx (upd H5 D (.dK (putK kvs k z))) else Nx H3) := by
  have nDt : D ≠ t := fun e => by rw [e, upd_same] at hD; cases hD
  have hD0 : H D = none := by rw [upd_ne nDt] at hD; exact hD
  refine dc_it (H1 := upd H t (.frz od (.dK (cD ps)))) (walk_items (d := t) (o := od) (kvs := cD ps)) (fun i H' => H' D = some (.dK (cD (mapC f flt (ps.take i)))) ∧ H' t = some (.frz od (.dK (cD ps))) ∧ ∀ b o, H b = some o → b ≠ t → H' b = some o)
    ⟨upd_same, by rw [upd_ne nDt.symm, upd_same], fun b o eb nb => by rw [upd_ne (ne_of_none eb hD0), upd_ne nb]; exact eb⟩ (fun i H' _ h => h.2.1) ?_ ?_
  · rintro i v H2 H3 hi ⟨eD, et, keep⟩ ⟨T1, k1, v1, rfl, hT, rfl, ek, ev⟩
    rw [cD_len] at hi
    have hp : (cD ps)[i]? = some (Sum.inr ps[i].1, V.int ps[i].2) := by
      unfold cD
      rw [List.getElem?_map, List.getElem?_eq_getElem hi]
      rfl
    have ek : (cD ps)[i]?.map (fun kv : Key × V => kV kv.1) = some k1 := ek
    have ev : (cD ps)[i]?.map Prod.snd = some v1 := ev
    rw [hp] at ek ev
    cases ek
    cases ev
    have hmem : ps[i] ∈ ps := List.getElem_mem hi
    have nTD : T1 ≠ D := (ne_of_none eD hT).symm
    have nTt : T1 ≠ t := (ne_of_none et hT).symm
    have e1 : mapC f flt (ps.take (i + 1)) = mapC f flt (ps.take i) ++ (if flt ps[i].2 = true then [(ps[i].1, f ps[i].2)] else []) := by
      unfold mapC
      rw [List.take_add_one, List.getElem?_eq_getElem hi, List.filter_append, List.map_append]
      congr 1
      show (List.filter _ [ps[i]]).map _ = _
      rw [List.filter_cons]
      split <;> rfl
    have keep2 : ∀ b o, H b = some o → b ≠ t → (upd H2 T1 (.tup [kV (Sum.inr ps[i].1), .int ps[i].2])) b = some o := fun b o eb nb => by
      have e2 := keep b o eb nb
      rw [upd_ne (ne_of_none e2 hT)]
      exact e2
    refine hturn T1 ps[i].1 ps[i].2 _ _ _ upd_same hmem (fun c => ?_) (fun c => ?_)
    · refine ⟨_, Sum.inr ps[i].1, rfl, by rw [upd_ne nTD.symm]; exact eD, ?_, ?_, ?_, ?_⟩
      · rw [cD_len]
        refine Nat.lt_of_le_of_lt (Nat.le_trans mapC_len ?_) (Nat.lt_of_le_of_lt can.few (by decide : 1000 < sizeLine))
        rw [List.length_take]
        omega
      · rw [upd_same, cD_put, e1, if_pos c]
        rw [mapC_keys]
        intro hm
        have hm2 := (List.filter_sublist.map _).subset hm
        have nd2 := can.nd
        obtain ⟨q, hq, e⟩ := List.mem_map.mp hm2
        obtain ⟨j, hj, ej⟩ := List.mem_take_iff_getElem.mp hq
        have hji : j < i := by omega
        have hjl : j < ps.length := by omega
        have a1 : (ps.map (·.1))[j]'(by rw [List.length_map]; exact hjl) = (ps.map (·.1))[i]'(by rw [List.length_map]; exact hi) := by
          rw [List.getElem_map, List.getElem_map, ej]
          exact e
        have := (List.getElem_inj nd2).mp a1
        omega
      · rw [upd_ne nDt.symm, upd_ne nTt.symm]
        exact et
      · intro b o eb nb
        rw [upd_ne (ne_of_none eb hD0)]
        exact keep2 b o eb nb
    · refine ⟨?_, by rw [upd_ne nTt.symm]; exact et, keep2⟩
      rw [upd_ne nTD.symm, eD, e1, if_neg (by rw [c]; exact Bool.false_ne_true), List.append_nil]
  · rintro H2 ⟨eD, et, keep⟩
    rw [cD_len, List.take_of_length_le (Nat.le_refl _)] at eD
    refine hq H2 (fun b o eb => ?_) hD0 et (by rw [upd_ne nDt]; exact eD)
    by_cases e : b = t
    · rw [e, upd_same, ← h2, ← e, eb]
    · rw [upd_ne e]
      exact keep b o eb e
end Ld
namespace Ld
open PySem PySem.Spec PyProof.Rows L2
/-- a load made of the counts of another, each by itself -/
def spMapC (C : Addr) (f : Int → Int) (flt : Int → Bool) : Sp := fun vs H Q _ => ∃ (x : Addr) (ps : List (Str × Int)), vs = [.ref x] ∧ LoadAt C H x ps ∧
  ∀ (H' : Hp) (y : Addr) (ps' : List (Str × Int)), Same H H' → H y = none → LoadAt C H' y ps' → (∀ z, ct ps' z = if flt (ct ps z) = true then f (ct ps z) else 0) → Q (.ref y) H'
abbrev sPos : Stmt := inClass (top 14) 6
abbrev sNeg : Stmt := inClass (top 14) 7
abbrev sUneg : Stmt := inClass (top 14) 16
abbrev sMul : Stmt := inClass (top 14) 17
abbrev sRmul : Stmt := inClass (top 14) 18
abbrev nPos : List Str := ["self", "kind", "count"]
abbrev nMul : List Str := ["self", "other", "kind", "count"]
theorem neg0 : (-(0 : Int)) = 0 := by decide
section
variable {P : Program} {w : World} {K : PySem.W.Frag} {mg : Str → Option Value} {base : Heap} {C fi : Addr}
theorem scPos : FnScope nPos ["self"] (defScope sPos) := ⟨rfl, rfl, rfl, by decide +kernel, rfl, by decide +kernel, by decide +kernel⟩
theorem scNeg : FnScope nPos ["self"] (defScope sNeg) := ⟨rfl, rfl, rfl, by decide +kernel, rfl, by decide +kernel, by decide +kernel⟩
theorem scUneg : FnScope nPos ["self"] (defScope sUneg) := ⟨rfl, rfl, rfl, by decide +kernel, rfl, by decide +kernel, by decide +kernel⟩
theorem scMul : FnScope nMul ["self", "other"] (defScope sMul) := ⟨rfl, rfl, rfl, by decide +kernel, rfl, by decide +kernel, by decide +kernel⟩
theorem scRmul : FnScope ["self", "other"] ["self", "other"] (defScope sRmul) := ⟨rfl, rfl, rfl, by decide +kernel, rfl, by decide +kernel, by decide +kernel⟩
theorem ok_pos {f : Addr} {fd : FuncData} (F : Fun K "positive" "Load.positive" sPos f fd) (T : LoadC K mg C fi) (HO : HasC P w K mg base 5 C "of" (spOf C)) : FnOk P w K mg base CX0 6 f fd ["self"] (spMapC C (fun i => i) (fun i => decide (0 < i))) := by
  obtain ⟨mc, po, go, rO, cO, FO⟩ := HO
  refine F.ok scPos (fun vs H Q E h => ?_) (fun cdv A outer s H vs Q E hr h => ?_)
  · obtain ⟨x, ps, rfl, _⟩ := h
    rfl
  · obtain ⟨x, ps, rfl, ⟨dx, t, h1, h2, can⟩, q⟩ := h
    have nd : nPos.Nodup := scPos.nd
    refine ⟨_, pss_one (ps_ret (ClX.pe_cmeth (pe_glob (v := .ref C) (by rfl) T.gC rfl) rO cO FO hr pass0 (pa_cons (pe_lock (pe_dc (own := [("kind", 1), ("count", 2)]) (g := gTup K 2 (gCons (gName 1) (gCons (gName 2) gNil))) rfl nd (pi_items (pe_fld (pv 0) rfl)) (blkOk_by (N := nPos) (sc := defScope sPos) (by decide +kernel))
      (fun _ _ _ _ _ => pg_tup rfl (pgs_cons (pg_name (i := 1) nd rfl (Or.inl rfl)) (pgs_cons (pg_name (i := 2) nd rfl (Or.inl rfl)) pgs_nil))) (fun _ _ _ _ _ => (pts_one (pt_cmpR op_gt (pv 2) pe_int (nomark _))))
      (fun _ _ _ _ _ => pv 1) (fun _ _ _ _ _ => pv 2))) pa_nil))), ?_⟩
    have nxt : x ≠ t := ne_of h1 h2 (fun z => nomatch z)
    refine ⟨rfl, t, _, h2, trivial, fun od => ⟨_, rfl, x, C, dx, _, _, rfl, by rw [upd_ne nxt]; exact h1, T.c, T.nc, rfl, t, od, cD ps, rfl, upd_same, fun D hD => ?_⟩⟩
    refine dc_counts (fun i => i) (fun i => decide (0 < i)) h2 can hD (fun T1 z i H3 R R' e hm c1 c2 => ?_) fun H2 same hD0 et eD => ?_
    · refine ⟨T1, _, rfl, .inl (.inl e), rfl, _, _, rfl, _, _, rfl, rfl, rfl, _, rfl, _, _, rfl, rfl, _, rfl, ifd (fun c => ⟨_, rfl, _, rfl, c1 (decide_eq_true c)⟩) (fun c => c2 (decide_eq_false c))⟩
    · refine ⟨et, _, D, _, rfl, mapC_ok can eD, fun H' y ps' s2 hy hl hc => ?_⟩
      exact q H' y ps' (Same.trans same s2) (Same.none same hy) hl fun z => by rw [hc, ct_mapC can.nd (fun _ => rfl)]
theorem ok_neg {f : Addr} {fd : FuncData} (F : Fun K "negative" "Load.negative" sNeg f fd) (T : LoadC K mg C fi) (HO : HasC P w K mg base 5 C "of" (spOf C)) : FnOk P w K mg base CX0 6 f fd ["self"] (spMapC C (fun i => -i) (fun i => decide (i < 0))) := by
  obtain ⟨mc, po, go, rO, cO, FO⟩ := HO
  refine F.ok scNeg (fun vs H Q E h => ?_) (fun cdv A outer s H vs Q E hr h => ?_)
  · obtain ⟨x, ps, rfl, _⟩ := h
    rfl
  · obtain ⟨x, ps, rfl, ⟨dx, t, h1, h2, can⟩, q⟩ := h
    have nd : nPos.Nodup := scNeg.nd
    refine ⟨_, pss_one (ps_ret (ClX.pe_cmeth (pe_glob (v := .ref C) (by rfl) T.gC rfl) rO cO FO hr pass0 (pa_cons (pe_lock (pe_dc (own := [("kind", 1), ("count", 2)]) (g := gTup K 2 (gCons (gName 1) (gCons (gName 2) gNil))) rfl nd (pi_items (pe_fld (pv 0) rfl)) (blkOk_by (N := nPos) (sc := defScope sNeg) (by decide +kernel))
      (fun _ _ _ _ _ => pg_tup rfl (pgs_cons (pg_name (i := 1) nd rfl (Or.inl rfl)) (pgs_cons (pg_name (i := 2) nd rfl (Or.inl rfl)) pgs_nil))) (fun _ _ _ _ _ => (pts_one (pt_cmpR op_lt (pv 2) pe_int (nomark _))))
      (fun _ _ _ _ _ => pv 1) (fun _ _ _ _ _ => pe_un un_neg (pv 2)))) pa_nil))), ?_⟩
    have nxt : x ≠ t := ne_of h1 h2 (fun z => nomatch z)
    refine ⟨rfl, t, _, h2, trivial, fun od => ⟨_, rfl, x, C, dx, _, _, rfl, by rw [upd_ne nxt]; exact h1, T.c, T.nc, rfl, t, od, cD ps, rfl, upd_same, fun D hD => ?_⟩⟩
    refine dc_counts (fun i => -i) (fun i => decide (i < 0)) h2 can hD (fun T1 z i H3 R R' e hm c1 c2 => ?_) fun H2 same hD0 et eD => ?_
    · refine ⟨T1, _, rfl, .inl (.inl e), rfl, _, _, rfl, _, _, rfl, rfl, rfl, _, rfl, _, _, rfl, rfl, _, rfl, ifd (fun c => ⟨_, rfl, _, rfl, _, rfl, c1 (decide_eq_true c)⟩) (fun c => c2 (decide_eq_false c))⟩
    · refine ⟨et, _, D, _, rfl, mapC_ok can eD, fun H' y ps' s2 hy hl hc => ?_⟩
      exact q H' y ps' (Same.trans same s2) (Same.none same hy) hl fun z => by rw [hc, ct_mapC can.nd (fun _ => neg0)]
theorem ok_uneg {f : Addr} {fd : FuncData} (F : Fun K "__neg__" "Load.__neg__" sUneg f fd) (T : LoadC K mg C fi) (HO : HasC P w K mg base 5 C "of" (spOf C)) : FnOk P w K mg base CX0 6 f fd ["self"] (spMapC C (fun i => -i) (fun _ => true)) := by
  obtain ⟨mc, po, go, rO, cO, FO⟩ := HO
  refine F.ok scUneg (fun vs H Q E h => ?_) (fun cdv A outer s H vs Q E hr h => ?_)
  · obtain ⟨x, ps, rfl, _⟩ := h
    rfl
  · obtain ⟨x, ps, rfl, ⟨dx, t, h1, h2, can⟩, q⟩ := h
    have nd : nPos.Nodup := scUneg.nd
    refine ⟨_, pss_one (ps_ret (ClX.pe_cmeth (pe_glob (v := .ref C) (by rfl) T.gC rfl) rO cO FO hr pass0 (pa_cons (pe_lock (pe_dc (own := [("kind", 1), ("count", 2)]) (g := gTup K 2 (gCons (gName 1) (gCons (gName 2) gNil))) (tt := tYes) rfl nd (pi_items (pe_fld (pv 0) rfl)) (blkOk_by (N := nPos) (sc := defScope sUneg) (by decide +kernel))
      (fun _ _ _ _ _ => pg_tup rfl (pgs_cons (pg_name (i := 1) nd rfl (Or.inl rfl)) (pgs_cons (pg_name (i := 2) nd rfl (Or.inl rfl)) pgs_nil))) (fun _ _ _ _ _ => pts_nil)
      (fun _ _ _ _ _ => pv 1) (fun _ _ _ _ _ => pe_un un_neg (pv 2)))) pa_nil))), ?_⟩
    have nxt : x ≠ t := ne_of h1 h2 (fun z => nomatch z)
    refine ⟨rfl, t, _, h2, trivial, fun od => ⟨_, rfl, x, C, dx, _, _, rfl, by rw [upd_ne nxt]; exact h1, T.c, T.nc, rfl, t, od, cD ps, rfl, upd_same, fun D hD => ?_⟩⟩
    refine dc_counts (fun i => -i) (fun _ => true) h2 can hD (fun T1 z i H3 R R' e hm c1 c2 => ?_) fun H2 same hD0 et eD => ?_
    · exact ⟨T1, _, rfl, .inl (.inl e), rfl, _, _, rfl, _, _, rfl, rfl, rfl, ⟨_, rfl, _, rfl, _, rfl, c1 rfl⟩⟩
    · refine ⟨et, _, D, _, rfl, mapC_ok can eD, fun H' y ps' s2 hy hl hc => ?_⟩
      exact q H' y ps' (Same.trans same s2) (Same.none same hy) hl fun z => by rw [hc, ct_mapC can.nd (fun _ => neg0)]
end
end Ld
namespace Ld
open PySem PySem.Spec PyProof.Rows L2
open TL
theorem Paired.nth {α β : Type} {F : α → β → Prop} : ∀ {l : List α} {m : List β}, Paired F l m → ∀ {i : Nat} {a : α} {b : β}, l[i]? = some a → m[i]? = some b → F a b
  | _, _, .nil, i, a, b, h, _ => by simp at h
  | _, _, .cons h t, 0, a, b, h1, h2 => by
    simp at h1 h2
    subst h1 h2
    exact h
  | _, _, .cons h t, i + 1, a, b, h1, h2 => Paired.nth t (by simpa using h1) (by simpa using h2)
theorem mrg_app : ∀ {qs acc : List (Str × Int)}, ((acc ++ qs).map (·.1)).Nodup → mrg acc qs = acc ++ qs
  | [], acc, _ => (List.append_nil acc).symm
  | q :: r, acc, nd => by
    have hq : q.1 ∉ acc.map (·.1) := by
      rw [List.map_append, List.nodup_append] at nd
      intro h
      exact nd.2.2 q.1 h q.1 List.mem_cons_self rfl
    have e : putI acc q.1 q.2 = acc ++ [q] := by
      unfold putI
      rw [if_neg hq]
    show mrg (putI acc q.1 q.2) r = _
    have e2 : acc ++ q :: r = (acc ++ [q]) ++ r := by rw [List.append_assoc]; rfl
    rw [e, e2]
    exact mrg_app (by rw [← e2]; exact nd)
/-! ### f(k = v, ..) of an own def, no positional values -/
theorem pe_callN0 {X : Cx} {CX : CXT} {k : Nat} {f : Addr} {fd : FuncData} {ps ks : List Str} {sp : Sp} {E : XK} {x : Str} {p pos : Pos} {kws : List Keyword} {tk : TA} {g : List Value → List Value → List Value} {gV : List V → List V → List V}
    (F : FnOk X.prog X.w X.K X.mg X.base CX k f fd ps sp) (hr : Room k X.A) (hg : Gl X x) (hm : X.mg x = some (.ref f)) (hk : PySem.W.keepIn X.K (.ref f) = true) (hb : KBn X.K fd ps 0 ks g gV) (hx : Passes CX X E)
    (hkw : PK X kws tk) (hall : (backToKw pos (keywordEach kws X.env)).all (·.1.isSome) = true := by rfl) (hks : (backToKw pos (keywordEach kws X.env)).filterMap (·.1) = ks := by rfl) (hdb : (x == ("__debug__" : Str)) = false := by decide)
    (hpl : ((backTo pos (starEach [] X.env)).any (·.1) || (backToKw pos (keywordEach kws X.env)).any (·.1.isNone)) = false := by rfl) :
    PE X (.Call (.Name x p) [] kws pos) (tCallN 0 ks.length sp gV E tNil tk) := by
  refine ⟨fun pins s σ H Q I h => ?_⟩
  refine wpAny_Call_Name_kw (ld_glob I hg hm ?_ hdb)
  refine PySem.W.callWith_KW0 (h₀ := X.base) I.ok.mod.kin hk hall ?_ hpl
  refine thn (hkw.run pos pins s σ H _ I h) fun ws s2 ⟨zs, H2, I2, rz, l1, l2, q2⟩ => ⟨I2.kIn, ?_⟩
  rw [hks]
  exact run_fnN (us := []) (vs := []) F hr hb hx I2 .nil rz l1 l2 q2
/-! ### repr of a list of tuples of scalars and dicts -/
def ItR2 (H : Hp) (x : V) (d : PyData) : Prop := ItR H x d ∨ ∃ a xs ds, x = .ref a ∧ H a = some (.tup xs) ∧ Paired (ItR H) xs ds ∧ d = .tuple ds
theorem readsAll_it2 {P : Program} {w : World} {H : Hp} {h : Heap} (ok : HOk P w H h) : ∀ {xs : List V} {ds : List PyData} {us : List Value}, Paired (ItR2 H) xs ds → Vals xs us → ∃ as, ReadsAll h us ds as ∧ sysModules ∉ as
  | _, _, _, .nil, r => by
    cases r
    exact ⟨[], .nil, fun h => nomatch h⟩
  | _, _, _, .cons i t, r => by
    cases r with
    | cons r1 r2 =>
      obtain ⟨bs, h1, n1⟩ := readsAll_it2 ok t r2
      rcases i with i | ⟨a, xs, ds, rfl, e, hi, rfl⟩
      · obtain ⟨cs, h2, n2⟩ := readsAll_it ok (.cons i .nil) (.cons r1 .nil)
        cases h2 with
        | @cons _ _ _ _ c1 c2 q1 q2 =>
          cases q2
          exact ⟨c1 ++ bs, .cons q1 h1, fun q => (List.mem_append.mp q).elim (fun z => n2 (List.mem_append_left _ z)) n1⟩
      · cases (show _ = Value.ref a from r1)
        obtain ⟨_, its, rv, o, ho, hc, n, hd⟩ := (show ObjOk P w H h a (.tup xs) from ok a _ e)
        obtain ⟨cs, h2, n2⟩ := readsAll_it ok hi rv
        exact ⟨cs ++ bs, .cons (.tuple ho hc hd (by simpa using h2)) h1, fun q => (List.mem_append.mp q).elim n2 n1⟩
def rReprL2 (K : PySem.W.Frag) : List V → Hp → VK → Prop := fun vs H Q => ∃ (a : Addr) (xs : List V) (ds : List PyData), vs = [.ref a] ∧ SqL K H a xs ∧ Paired (ItR2 H) xs ds ∧ (PyData.list ds).showable = true ∧ (PyData.list ds).depth ≤ 60 ∧ (PyData.list ds).shown.length ≤ sizeLine ∧ Q (.str (PyData.list ds).shown) H
theorem call_reprL2 {X : Cx} (hgd : X.A.guards = some []) (hu : X.A.units + 64 < cLine) : CallR X (.builtin "repr") (rReprL2 X.K) := by
  intro pins s σ H vs us Q I r h
  obtain ⟨a, xs, ds, rfl, hs, hi, hsh, hdp, hsz, q⟩ := h
  rw [Vals.ref1 r]
  obtain ⟨its, rv, ⟨o, n, h1, h2, _, h3⟩, _⟩ := I.list hs
  obtain ⟨as, h4, hno⟩ := readsAll_it2 I.hok hi rv
  have hz : (listText (PyData.shownAll ds)).length ≤ sizeLine := by simpa only [PyData.shown] using hsz
  obtain ⟨bs, hb, hk⟩ := ReprAllK.of_readsAll (prog := X.prog) (w := X.w) h4 (by simpa [PyData.showable] using hsh) (fun _ => hno) (fun t ht => Nat.le_trans (listText_mem_le ht) hz)
  have rd : Reads s.heap (.ref a) (.list ds) (a :: as) := .list h1 h2 h3 (by simpa using h4)
  have hna : a ∉ bs := not_mem_of_deeper rd (by simp only [PyData.depth]; omega) hb
  simp only [PyData.depth] at hdp
  simp only [PyData.shown] at q
  refine call_repr_slot (T := "list") (idr := "list.__repr__") (by omega) ⟨o, h1, h2⟩ F.slot_list_repr.toG ?_
  cases its with
  | nil =>
    cases h4
    simp only [PyData.shownAll, listText_nil] at q
    exact call_list_repr_empty ⟨o, h1, h2⟩ h1 h3 ⟨_, _, rfl, .str _, H, I.tok _, ⟨_, rfl⟩, q⟩
  | cons x l =>
    exact call_list_reprK h1 h2 h3 hna (by simpa using hk.length_eq) (fun i y e => hk.item i y (by simpa using e)) hgd (fun b _ => Clear.nil b) (by show X.A.units + 1 + _ < cLine; omega) (fun _ _ e => e)
      (fun h' u tk k => ⟨_, _, rfl, .str _, H, I.kept (t' := tk) k, ⟨u, rfl⟩, q⟩) hz
/-! ### pairs made of a dict's keys -/
theorem dget_rd {H : Hp} {a : Addr} {ps : List (Str × Int)} {z : Str} (e : Rd H a (.dK (cD ps))) : DGet H a (.str z) ((ctO ps z).map V.int) :=
  .inl ⟨cD ps, Sum.inr z, e, rfl, (valV_cD _ _).symm⟩
theorem dget_in {H : Hp} {a : Addr} {ps : List (Str × Int)} {z : Str} {i : Int} (e : Rd H a (.dK (cD ps))) (nd : (ps.map (·.1)).Nodup) (h : (z, i) ∈ ps) : DGet H a (.str z) (some (.int i)) := by
  have q := dget_rd (z := z) e
  rw [ctO_some (List.mem_map.mpr ⟨(z, i), h, rfl⟩ : z ∈ ps.map (·.1)), ct_mem nd h] at q
  exact q
theorem merge_nd {qs : List (Str × Int)} (nd : (qs.map (·.1)).Nodup) : mergeK [] (cD qs) = cD qs := by
  have e0 : mergeK [] (cD qs) = cD (mrg [] qs) := mergeK_cD _ []
  rw [e0, mrg_app (by rw [List.nil_append]; exact nd), List.nil_append]
theorem lk_counts {t D : Addr} {od : Obj} {ps : List (Str × Int)} {g : TG} {tt : TT} {te : TE} {vs : List Nat} {σ : L2.St} {H : Hp} {Qd : Hp → Prop} (f : Int → Int) (flt : Int → Bool) (ht : H t = some (.frz od (.dK (cD ps)))) (few : ps.length ≤ 1000) (hD : H D = none)
    (hturn : ∀ (z : Str) (i : Int) (H3 : Hp) (R : V → Hp → Prop) (R' : Hp → Prop), Rd H3 t (.dK (cD ps)) → (z, i) ∈ ps → (flt i = true → ∀ T', H3 T' = none → R (.ref T') (upd H3 T' (.tup [.str z, .int (f i)]))) → (flt i = false → R' H3) →
      g (.str z) (wipe σ vs) H3 fun σ2 H2 => wipe σ2 vs = wipe σ vs ∧ tt σ2 H2 fun b H3 => if b = true then te σ2 H3 fun y H4 => R y H4 else R' H3)
    (hq : ∀ H' us, Same H H' → H' D = some (.lst (us.map V.ref)) → TupsAt H' us (mapC f flt ps) → Qd H') :
    ∃ W : Nat → Nat → Hp → Prop, (∃ m, W 0 m (upd H D (.lst []))) ∧ ∀ i m H, W i m H →
      ((Itk t od (cD ps)).stop i H ∧ Qd H) ∨ ((Itk t od (cD ps)).go i H ∧ ∃ Nx : Hp → Prop, (∀ H', Nx H' → ∃ m', m' < m ∧ W (i + 1) m' H') ∧ ∀ x H', (Itk t od (cD ps)).yld i H x H' → g x (wipe σ vs) H' fun σ2 H2 => wipe σ2 vs = wipe σ vs ∧ tt σ2 H2 fun b H3 =>
        if b = true then te σ2 H3 fun y H4 => ∃ acc, H4 D = some (.lst acc) ∧ acc.length < sizeLine ∧ Nx (upd H4 D (.lst (acc ++ [y]))) else Nx H3) := by
  refine lc_it (walk_keys (d := t) (o := od) (kvs := cD ps)) (fun j H' => ∃ us : List Addr, Same H H' ∧ H' D = some (.lst (us.map V.ref)) ∧ TupsAt H' us (mapC f flt (ps.take j)))
    ⟨[], same_new hD, upd_same, .nil⟩ (fun j H' _ ⟨_, h, _⟩ => h _ _ ht) ?_ ?_
  · rintro j x H5 H6 hj ⟨us, same, eD, hus⟩ ⟨rfl, k, v, hx, rfl⟩
    rw [cD_len] at hj
    have hp : (cD ps)[j]? = some (Sum.inr ps[j].1, V.int ps[j].2) := by
      unfold cD
      rw [List.getElem?_map, List.getElem?_eq_getElem hj]
      rfl
    rw [hp] at hx
    cases hx
    have e1 : mapC f flt (ps.take (j + 1)) = mapC f flt (ps.take j) ++ (if flt ps[j].2 = true then [(ps[j].1, f ps[j].2)] else []) := by
      unfold mapC
      rw [List.take_add_one, List.getElem?_eq_getElem hj, List.filter_append, List.map_append]
      congr 1
      show (List.filter _ [ps[j]]).map _ = _
      rw [List.filter_cons]
      split <;> rfl
    refine hturn ps[j].1 ps[j].2 H6 _ _ (.inr ⟨od, same _ _ ht⟩) (List.getElem_mem hj) (fun c T1 hT => ?_) (fun c => ?_)
    · have nTD : D ≠ T1 := ne_of_none eD hT
      refine ⟨_, by rw [upd_ne nTD]; exact eD, ?_, us ++ [T1], ?_, ?_, ?_⟩
      · have e5 : us.length = (mapC f flt (ps.take j)).length := Paired.length hus
        have e6 : (mapC f flt (ps.take j)).length ≤ ps.length := by
          refine Nat.le_trans mapC_len ?_
          rw [List.length_take]
          omega
        rw [List.length_map, e5]
        exact Nat.lt_of_le_of_lt (Nat.le_trans e6 few) (by decide)
      · intro c o ec
        have e6 := same _ _ ec
        rw [upd_ne (ne_of_none ec hD), upd_ne (ne_of_none e6 hT)]
        exact e6
      · rw [upd_same, List.map_append]
        rfl
      · rw [e1, if_pos c]
        refine .snoc (TupsAt.keep hus fun t xs ht => ?_) ?_
        · rw [upd_ne (ne_of ht eD fun z => nomatch z), upd_ne (ne_of_none ht hT)]
          exact ht
        · rw [upd_ne nTD.symm, upd_same]
    · refine ⟨us, same, eD, ?_⟩
      rw [e1, if_neg (by rw [c]; exact Bool.false_ne_true), List.append_nil]
      exact hus
  · rintro H5 ⟨us, same, eD, hus⟩
    rw [cD_len, List.take_of_length_le (Nat.le_refl _)] at hus
    exact hq H5 us same eD hus
end Ld
namespace Ld
open PySem PySem.Spec PyProof.Rows L2
open TL
/-- a count that the law draws -/
def spCntL : Sp := fun vs H Q _ => ∃ (p c : Addr) (ns : List Int) (u r : Int), vs = [.ref p] ∧ PenAt H p c ns u r ∧ u + 3 ≤ 1000000 ∧
  ∀ (d u' r' : Int) (H' : Hp), d.natAbs ≤ 10 ^ 9 → u' ≤ u + 3 → PenAt H' p c ns u' r' → SameP p H H' → Q (.int d) H'
/-- counts that the law draws, of some of the kinds ws -/
structure Cr (ws : List Str) (ps : List (Str × Int)) : Prop where
  nd : (ps.map (·.1)).Nodup
  sub : ∀ q ∈ ps, q.1 ∈ ws
  sm : ∀ q ∈ ps, q.2.natAbs ≤ 10 ^ 9
  few : ps.length ≤ 3
def spCntsL : Sp := fun vs H Q _ => ∃ (p c l : Addr) (ws : List Str) (ns : List Int) (u r : Int), vs = [.ref p, .ref l] ∧ PenAt H p c ns u r ∧ H l = some (.lst (ws.map V.str)) ∧ ws.length ≤ 26 ∧ ws.Nodup ∧ (∀ z ∈ ws, Wd 1 8 z) ∧ u + 50 ≤ 1000000 ∧
  ∀ (d : Addr) (ps : List (Str × Int)) (u' r' : Int) (H' : Hp), H d = none → H' d = some (.dK (cD ps)) → Cr ws ps → u' ≤ u + 50 → PenAt H' p c ns u' r' → SameP p H H' → Q (.ref d) H'
section
variable {P : Program} {w : World} {K : PySem.W.Frag} {mg : Str → Option Value} {base : Heap}
theorem scCntL : FnScope ["_law_pen_here", "_law_size"] ["_law_pen_here"] (defScope sCntL) := ⟨rfl, rfl, rfl, by decide +kernel, rfl, by decide +kernel, by decide +kernel⟩
theorem p9 : (10 : Int) ^ Int.toNat 9 = 1000000000 := by decide +kernel
theorem ok_cntL {f : Addr} {fd : FuncData} (F : Fun K "_law_count" "_law_count" sCntL f fd) (HD : Has P w K mg base 1 "_law_draw" ["_law_pen_here", "_law_many"] spDraw) (HP : Has P w K mg base 2 "_law_pick" ["_law_pen_here", "_law_items"] (spPick K)) :
    FnOk P w K mg base CX0 3 f fd ["_law_pen_here"] spCntL := by
  obtain ⟨g1, gd1, G1, b1, m1, k1⟩ := HD
  obtain ⟨g2, gd2, G2, b2, m2, k2⟩ := HP
  refine F.ok scCntL (fun vs H Q E h => ?_) (fun cdv A outer s H vs Q E hr h => ?_)
  · obtain ⟨p, c, ns, u, r, rfl, _⟩ := h
    rfl
  · obtain ⟨p, c, ns, u, r, rfl, PA, hu6, k⟩ := h
    have hr1 : Room 1 _ := hr.mono (by decide)
    have nd : (["_law_pen_here", "_law_size"] : List Str).Nodup := scCntL.nd
    refine ⟨_, pss_cons (ps_set (i := 1) nd rfl (Or.inl rfl) (pe_call G2 hr (by rfl) m2 k2 b2 .nil pass0 (pa_cons (pv 0) (pa_cons (pe_lst (pa_cons pe_int (pa_cons pe_int (pa_cons pe_int (pa_cons pe_int (pa_cons pe_int (pa_cons pe_int (pa_cons pe_int (pa_cons (pe_op op_add pe_int (pe_call G1 hr1 (by rfl) m1 k1 b1 .nil pass0 (pa_cons (pv 0) (pa_cons pe_int pa_nil)))) (pa_cons (pe_op op_pow pe_int pe_int) pa_nil)))))))))) pa_nil))))
      (pss_one (ps_ret (pe_ifExp (pt_cmpR op_eq (pe_call G1 hr1 (by rfl) m1 k1 b1 .nil pass0 (pa_cons (pv 0) (pa_cons pe_int pa_nil))) pe_int (nomark _)) (pv 1) (pe_op op_sub pe_int (pv 1))))), ?_⟩
    refine seq_step (fun σ' H' => ∃ (d u' r' : Int), σ' = [some (.ref p), some (.int d)] ∧ d.natAbs ≤ 10 ^ 9 ∧ u' ≤ u + 2 ∧ PenAt H' p c ns u' r' ∧ SameP p H H') (fun R hR => ?_) (fun σ1 H1 h1 => ?_)
    · refine ⟨_, rfl, _, rfl, p, c, ns, u, r, 999, rfl, PA, by omega, by decide, by decide, fun e u1 r1 H1 e0 e1 hu1 PA1 keep1 => ?_⟩
      refine ⟨_, _, rfl, rfl, _, _, rfl, rfl, ⟨by decide, by decide, by decide⟩, by show 9 ≤ sizeLine; decide, fun l hl => ?_⟩
      have sl := same_new (o := .lst [.int 1, .int 1, .int 2, .int 3, .int 4, .int 6, .int 12, .int (1 + e), .int (10 ^ Int.toNat 9)]) hl
      refine ⟨p, c, .ref l, ns, u1, r1, rfl, PA1.same sl, by omega, .inl ⟨l, _, rfl, upd_same, by show 0 < 9; decide, by show 9 ≤ 100000; decide, fun v u2 r2 H2 hv hu2 PA2 keep2 => ?_⟩⟩
      obtain ⟨d, rfl, hd⟩ : ∃ d : Int, v = .int d ∧ d.natAbs ≤ 10 ^ 9 := by
        simp only [List.mem_cons, List.not_mem_nil, or_false] at hv
        rcases hv with h | h | h | h | h | h | h | h | h
        · exact ⟨_, h, by decide⟩
        · exact ⟨_, h, by decide⟩
        · exact ⟨_, h, by decide⟩
        · exact ⟨_, h, by decide⟩
        · exact ⟨_, h, by decide⟩
        · exact ⟨_, h, by decide⟩
        · exact ⟨_, h, by decide⟩
        · exact ⟨_, h, by omega⟩
        · exact ⟨_, h, by rw [p9]; decide⟩
      exact hR _ _ ⟨d, u2, r2, rfl, hd, by omega, PA2, keep1.trans ((SameP.of sl).trans keep2)⟩
    obtain ⟨d, u1, r1, rfl, hd, hu1, PA1, keep1⟩ := h1
    refine ⟨_, rfl, p, c, ns, u1, r1, 2, rfl, PA1, by omega, by decide, by decide, fun e u2 r2 H2 e0 e1 hu2 PA2 keep2 => ⟨rfl, _, rfl, ifb (fun _ => ?_) (fun _ => ?_)⟩⟩
    · exact ⟨_, rfl, k d u2 r2 H2 hd (by omega) PA2 (keep1.trans keep2)⟩
    · exact ⟨_, rfl, _, _, rfl, rfl, k (0 - d) u2 r2 H2 (by omega) (by omega) PA2 (keep1.trans keep2)⟩
abbrev nCnts : List Str := ["_law_pen_here", "_law_kinds", "_law_some", "_law_kind"]
theorem scCntsL : FnScope nCnts ["_law_pen_here", "_law_kinds"] (defScope sCntsL) := ⟨rfl, rfl, rfl, by decide +kernel, rfl, by decide +kernel, by decide +kernel⟩
theorem ok_cntsL {f : Addr} {fd : FuncData} (F : Fun K "_law_counts" "_law_counts" sCntsL f fd) (B : Blt mg) (B2 : Blt2 mg) (HD : Has P w K mg base 1 "_law_draw" ["_law_pen_here", "_law_many"] spDraw) (HS : Has P w K mg base 2 "_law_shuffled" ["_law_pen_here", "_law_items"] spShuf) (HC : Has P w K mg base 3 "_law_count" ["_law_pen_here"] spCntL) :
    FnOk P w K mg base CX0 4 f fd ["_law_pen_here", "_law_kinds"] spCntsL := by
  obtain ⟨g1, gd1, G1, b1, m1, k1⟩ := HD
  obtain ⟨g2, gd2, G2, b2, m2, k2⟩ := HS
  obtain ⟨g3, gd3, G3, b3, m3, k3⟩ := HC
  refine F.ok scCntsL (fun vs H Q E h => ?_) (fun cdv A outer s H vs Q E hr h => ?_)
  · obtain ⟨p, c, l, ws, ns, u, r, rfl, _⟩ := h
    rfl
  · obtain ⟨p, c, l, ws, ns, u, r, rfl, PA, gL, hwl, hnd, hw, hu6, k⟩ := h
    have hr1 : Room 1 _ := hr.mono (by decide)
    have hr2 : Room 2 _ := hr.mono (by decide)
    have nd : nCnts.Nodup := scCntsL.nd
    refine ⟨_, pss_cons (ps_set (i := 2) nd rfl (Or.inl rfl) (pe_slice sl_list (pe_call G2 hr2 (by rfl) m2 k2 b2 .nil pass0 (pa_cons (pv 0) (pa_cons (pv 1) pa_nil))) po_none (po_some (pe_call G1 hr1 (by rfl) m1 k1 b1 .nil pass0 (pa_cons (pv 0) (pa_cons pe_int pa_nil))))))
      (pss_one (ps_ret (pe_callTy (call_dictP rfl) (by rfl) B2.dict bDict (pa_cons (pe_lc (own := [("_law_kind", 3)]) (g := gName 3) (tt := tYes) rfl nd (pi_list (pv 2)) (blkOk_by (N := nCnts) (sc := defScope sCntsL) (by decide +kernel)) (fun _ _ _ _ _ => pg_name (i := 3) nd rfl (Or.inl rfl)) (fun _ _ _ _ _ => pts_nil) (fun _ _ _ _ _ => (pe_tup (pa_cons (pv 3) (pa_cons (pe_call G3 hr (by rfl) m3 k3 b3 .nil pass0 (pa_cons (pv 0) pa_nil)) pa_nil))))) pa_nil)))), ?_⟩
    -- some
    refine seq_step (fun σ' H' => ∃ (S : Addr) (zs : List Str) (u' r' : Int), σ' = [some (.ref p), some (.ref l), some (.ref S), none] ∧ zs.Nodup ∧ (∀ z ∈ zs, z ∈ ws) ∧ zs.length ≤ 3 ∧ H' S = some (.lst (zs.map V.str)) ∧ u' ≤ u + 27 ∧ PenAt H' p c ns u' r' ∧ SameP p H H') (fun R hR => ?_) (fun σ1 H1 h1 => ?_)
    · refine ⟨_, rfl, _, rfl, p, c, l, ws, ns, u, r, rfl, PA, gL, by omega, hw, by omega, fun q ys u1 r1 H1 hq gq hp hu1 PA1 keep1 => ?_⟩
      refine ⟨_, rfl, p, c, ns, u1, r1, 4, rfl, PA1, by omega, by decide, by decide, fun j u2 r2 H2 j0 j1 hu2 PA2 keep2 => ?_⟩
      obtain ⟨jn, rfl⟩ : ∃ n : Nat, j = (n : Int) := ⟨j.toNat, by omega⟩
      have gq2 := keep2 _ _ gq (PA.nd hq)
      refine ⟨_, rfl, q, _, rfl, .inl (.inl gq2), fun S hS => ?_⟩
      have sS := same_new (o := .lst (cutV (ys.map V.str) none (some (jn : Int)))) hS
      refine hR _ _ ⟨S, ys.take jn, u2, r2, rfl, (hp.nodup_iff.mpr hnd).sublist (List.take_sublist _ _), fun z hz => hp.mem_iff.mp (List.mem_of_mem_take hz), ?_, ?_, by omega, PA2.same sS, keep1.trans (keep2.trans (.of sS))⟩
      · rw [List.length_take]
        omega
      · rw [upd_same, cut_take, List.map_take]
    obtain ⟨S, zs, u1, r1, rfl, hzn, hzw, hzl, gS, hu1, PA1, keep1⟩ := h1
    refine ⟨_, rfl, S, rfl, ⟨_, .inl (.inl gS)⟩, fun D hD => ?_⟩
    have nDp := PA1.nd hD
    have nDc := PA1.nc hD
    have sD := same_new (o := .lst []) hD
    have nSp := PA1.nl gS
    refine lc_it (walk_list (xs := zs.map V.str)) (fun j H' => ∃ (us : List Addr) (qs : List (Str × Int)) (u' r' : Int), H' D = some (.lst (us.map V.ref)) ∧ TupsAt H' us qs ∧ qs.map (·.1) = zs.take j ∧ (∀ q ∈ qs, q.2.natAbs ≤ 10 ^ 9) ∧ u' ≤ u1 + 3 * j ∧ PenAt H' p c ns u' r' ∧ SameP p H1 H')
      ⟨[], [], u1, r1, upd_same, .nil, rfl, (fun _ h => nomatch h), by omega, PA1.same sD, .of sD⟩ (fun j H' _ ⟨_, _, _, _, _, _, _, _, _, _, h⟩ => .inl (.inl (h _ _ gS nSp))) ?_ ?_
    · rintro j x H5 H6 hj ⟨us, qs, u', r', eD, hus, hk, hb, hu', PA', keep'⟩ ⟨rfl, hx⟩
      rw [List.length_map] at hj
      rw [List.getElem?_map, List.getElem?_eq_getElem hj] at hx
      obtain rfl : x = V.str zs[j] := (Option.some.inj hx).symm
      have hql : qs.length ≤ j := by
        have := congrArg List.length hk
        rw [List.length_map, List.length_take] at this
        omega
      refine ⟨rfl, _, rfl, _, rfl, p, c, ns, u', r', rfl, PA', by omega, fun d u3 r3 H3 hd hu3 PA3 keep3 => ⟨by show 2 ≤ sizeLine; decide, fun T hT => ?_⟩⟩
      have eD3 := keep3 _ _ eD nDp
      have nTD : D ≠ T := ne_of_none eD3 hT
      have sT := same_new (o := .tup [.str zs[j], .int d]) hT
      have hul := Paired.length hus
      refine ⟨_, by rw [upd_ne nTD]; exact eD3, ?_, us ++ [T], qs ++ [(zs[j], d)], u3, r3, ?_, ?_, ?_, ?_, by omega, (PA3.same sT).upd nDp nDc, ?_⟩
      · rw [List.length_map, hul]
        exact Nat.lt_of_le_of_lt (by omega : qs.length ≤ 3) (by decide)
      · rw [upd_same, List.map_append]
        rfl
      · refine .snoc (TupsAt.keep hus fun t xs ht => ?_) ?_
        · have h3 := SameP.tup keep3 PA' t xs ht
          rw [upd_ne (ne_of h3 eD3 fun z => nomatch z), upd_ne (ne_of_none h3 hT)]
          exact h3
        · rw [upd_ne nTD.symm, upd_same]
      · rw [List.map_append, hk, List.take_succ, List.getElem?_eq_getElem hj]
        rfl
      · intro q hq
        rcases List.mem_append.mp hq with h | h
        · exact hb q h
        · rw [List.mem_singleton.mp h]
          exact hd
      · intro b o eb nb
        have e6 := keep3 _ _ (keep' b o eb nb) nb
        rw [upd_ne (ne_of_none eb hD), upd_ne (ne_of_none e6 hT)]
        exact e6
    · rintro H5 ⟨us, qs, u', r', eD, hus, hk, hb, hu', PA', keep'⟩
      rw [List.length_map, List.take_length] at hk
      rw [List.length_map] at hu'
      have ndq : (qs.map (·.1)).Nodup := by rw [hk]; exact hzn
      have hql : qs.length = zs.length := by rw [← hk, List.length_map]
      refine ⟨D, us, cD qs, rfl, .inl (.inl eD), TupsAt.cD hus, fun d hd => ?_⟩
      rw [merge_nd ndq]
      have sd := same_new (o := .dK (cD qs)) hd
      have kk := keep1.trans keep'
      refine k d qs u' r' _ (SameP.none kk hd (PA'.nd hd)) upd_same ⟨ndq, fun q hq => hzw _ ?_, hb, by omega⟩ (by omega) (PA'.same sd) (kk.trans (.of sd))
      rw [← hk]
      exact List.mem_map_of_mem hq
end
end Ld
namespace Ld
open PySem PySem.Spec PyProof.Rows L2
open TL
def spClnL : Sp := fun vs H Q _ => ∃ (a : Addr) (ps : List (Str × Int)), vs = [.ref a] ∧ H a = some (.dK (cD ps)) ∧ (ps.map (·.1)).Nodup ∧ (∀ q ∈ ps, wordB q.1 = true) ∧ ps.length ≤ 100 ∧
  ∀ (H' : Hp) (p : Addr) (rs : List (Str × Int)), Same H H' → H p = none → H' p = some (.dK (cD rs)) → Can rs → (∀ z, ct rs z = ct ps z) → Q (.ref p) H'
section
variable {P : Program} {w : World} {K : PySem.W.Frag} {mg : Str → Option Value} {base : Heap}
abbrev nCln : List Str := ["_law_counts_here", "_law_kind"]
theorem scClnL : FnScope nCln ["_law_counts_here"] (defScope sClnL) := ⟨rfl, rfl, rfl, by decide +kernel, rfl, by decide +kernel, by decide +kernel⟩
theorem ok_clnL {f : Addr} {fd : FuncData} (F : Fun K "_law_clean" "_law_clean" sClnL f fd) (B2 : Blt2 mg) (mSet : mg "set" = none) : FnOk P w K mg base CX0 1 f fd ["_law_counts_here"] spClnL := by
  refine F.ok scClnL (fun vs H Q E h => ?_) (fun cdv A outer s H vs Q E hr h => ?_)
  · obtain ⟨a, ps, rfl, _⟩ := h
    rfl
  · obtain ⟨a, ps, rfl, ha, hnd, hwd, hfew, q⟩ := h
    have nd : nCln.Nodup := scClnL.nd
    have hu := hu_of hr
    refine ⟨_, pss_one (ps_ret (pe_callTy (call_dictP rfl) (by rfl) B2.dict bDict (pa_cons (pe_lc (own := [("_law_kind", 1)]) (g := gName 1) rfl nd (pi_list (pe_callB (cr_sortedTx rfl) (by rfl) B2.sorted (by decide +kernel) (pa_cons (pe_callTy cr_setD (by rfl) mSet (by decide +kernel) (pa_cons (pv 0) pa_nil)) pa_nil))) (blkOk_by (N := nCln) (sc := defScope sClnL) (by decide +kernel)) (fun _ _ _ _ _ => pg_name (i := 1) nd rfl (Or.inl rfl)) (fun _ _ _ _ _ => (pts_one (pt_cmpR op_ne (pe_dget hu (pv 0) (pv 1) (fun _ _ => rfl)) pe_int (nomark _)))) (fun _ _ _ _ _ => (pe_tup (pa_cons (pv 1) (pa_cons (pe_dget hu (pv 0) (pv 1) (fun _ _ => rfl)) pa_nil))))) pa_nil))), ?_⟩
    have hkk : (cD ps).map (·.1) = (ps.map (·.1)).map Sum.inr := by
      unfold cD
      rw [List.map_map, List.map_map]
      rfl
    refine ⟨_, rfl, a, cD ps, ps.map (·.1), rfl, .inl ha, hkk, by rw [List.length_map]; omega, fun p4 L hp4 ndL hmL => ?_⟩
    have s4 := same_new (o := TxO w p4 L) hp4
    refine ⟨p4, L, rfl, upd_same, fun e ys perm srt he => ?_⟩
    have s5 := Same.trans s4 (same_new (o := .lst (ys.map V.str)) he)
    refine ⟨e, rfl, ⟨_, .inl (.inl upd_same)⟩, fun D hD => ?_⟩
    have he5 : (upd (upd H p4 (TxO w p4 L)) e (.lst (ys.map V.str))) e = some (.lst (ys.map V.str)) := upd_same
    have ndy : ys.Nodup := perm.nodup_iff.mpr ndL
    have hmy : ∀ y, y ∈ ys ↔ y ∈ ps.map (·.1) := fun y => by rw [perm.mem_iff, hmL]
    have hpy : ys.Perm (ps.map (·.1)) := (List.perm_ext_iff_of_nodup ndy hnd).mpr hmy
    have hyl : ys.length = ps.length := by rw [hpy.length_eq, List.length_map]
    have ha5 := s5 _ _ ha
    obtain ⟨can, cts⟩ := tidy_can hnd hwd (by omega) hpy srt
    refine lc_it (walk_list (xs := ys.map V.str)) (fun j H' => ∃ us : List Addr, Same (upd (upd H p4 (TxO w p4 L)) e (.lst (ys.map V.str))) H' ∧ H' D = some (.lst (us.map V.ref)) ∧ TupsAt H' us (tidy ps (ys.take j)))
      ⟨[], same_new hD, upd_same, .nil⟩ (fun j H' _ ⟨_, h, _⟩ => .inl (.inl (h _ _ he5))) ?_ ?_
    · rintro j x H6 H7 hj ⟨us, same, eD, hus⟩ ⟨rfl, hx⟩
      rw [List.length_map] at hj
      rw [List.getElem?_map, List.getElem?_eq_getElem hj] at hx
      obtain rfl : x = V.str ys[j] := (Option.some.inj hx).symm
      have hin : ys[j] ∈ ps.map (·.1) := (hmy _).mp (List.getElem_mem hj)
      have hget : DGet H7 a (.str ys[j]) (some (.int (ct ps ys[j]))) := by
        have z := dget_rd (z := ys[j]) (.inl (same _ _ ha5) : Rd H7 a (.dK (cD ps)))
        rw [ctO_some hin] at z
        exact z
      have eadd : tidy ps (ys.take (j + 1)) = tidy ps (ys.take j) ++ (if ct ps ys[j] != 0 then [(ys[j], ct ps ys[j])] else []) := by
        unfold tidy
        rw [List.take_add_one, List.getElem?_eq_getElem hj, List.map_append, List.filter_append]
        congr 1
        show List.filter _ [(ys[j], ct ps ys[j])] = _
        rw [List.filter_cons]
        rfl
      refine ⟨rfl, _, rfl, _, rfl, a, _, rfl, hget, rfl, _, rfl, ifb (fun c => ?_) (fun c => ?_)⟩
      · have cz : (ct ps ys[j] != 0) = true := by
          rw [bne_iff_ne]
          intro e
          rw [e] at c
          revert c
          decide +kernel
        refine ⟨_, rfl, _, rfl, _, rfl, a, _, rfl, hget, by show 2 ≤ sizeLine; decide, fun T1 hT => ?_⟩
        have nTD : D ≠ T1 := ne_of_none eD hT
        refine ⟨_, by rw [upd_ne nTD]; exact eD, ?_, us ++ [T1], ?_, ?_, ?_⟩
        · have e5 : us.length = (tidy ps (ys.take j)).length := Paired.length hus
          have e6 : (tidy ps (ys.take j)).length ≤ ys.length := by
            unfold tidy
            refine Nat.le_trans (List.length_filter_le _ _) ?_
            rw [List.length_map, List.length_take]
            omega
          rw [List.length_map, e5]
          exact Nat.lt_of_le_of_lt (by omega : _ ≤ 100) (by decide)
        · intro c o ec
          have e6 := same _ _ ec
          rw [upd_ne (ne_of_none ec hD), upd_ne (ne_of_none e6 hT)]
          exact e6
        · rw [upd_same, List.map_append]
          rfl
        · rw [eadd, if_pos cz]
          refine .snoc (TupsAt.keep hus fun t xs ht => ?_) ?_
          · rw [upd_ne (ne_of ht eD fun z => nomatch z), upd_ne (ne_of_none ht hT)]
            exact ht
          · rw [upd_ne nTD.symm, upd_same]
      · have cz : ¬ (ct ps ys[j] != 0) = true := by
          rw [Bool.not_eq_false', decide_eq_true_eq] at c
          rw [bne_iff_ne]
          exact fun e => e (V.int.inj c)
        refine ⟨us, same, eD, ?_⟩
        rw [eadd, if_neg cz, List.append_nil]
        exact hus
    · rintro H6 ⟨us, same, eD, hus⟩
      rw [List.length_map, List.take_of_length_le (Nat.le_refl _)] at hus
      refine ⟨D, us, cD (tidy ps ys), rfl, .inl (.inl eD), TupsAt.cD hus, fun p hp => ?_⟩
      rw [merge_nd can.nd]
      have sam := Same.trans s5 same
      exact q _ p _ (Same.trans sam (same_new hp)) (Same.none sam hp) upd_same can cts
end
end Ld
namespace Ld
open PySem PySem.Spec PyProof.Rows L2
open TL
abbrev Row := Str × Str × List (Str × Int)
/-- a drive's row: the houses and a dict of counts -/
def RowAt (p : Addr) (H : Hp) (t : Addr) (r : Row) : Prop := ∃ e, e ≠ p ∧ H t = some (.tup [.str r.1, .str r.2.1, .ref e]) ∧ H e = some (.dK (cD r.2.2))
structure RowOk (r : Row) : Prop where
  w1 : wordB r.1 = true
  w2 : wordB r.2.1 = true
  ne : r.2.1 ≠ r.1
  can : Can r.2.2
  few : r.2.2.length ≤ 3
  sm : ∀ q ∈ r.2.2, q.2.natAbs ≤ 10 ^ 9
theorem RowAt.keep {p : Addr} {H H' : Hp} {t : Addr} {r : Row} (h : RowAt p H t r) (k : ∀ b xs, H b = some (.tup xs) → H' b = some (.tup xs)) (k2 : ∀ b kvs, b ≠ p → H b = some (.dK kvs) → H' b = some (.dK kvs)) : RowAt p H' t r := by
  obtain ⟨e, ne, h1, h2⟩ := h
  exact ⟨e, ne, k _ _ h1, k2 _ _ ne h2⟩
theorem RowAt.same {p : Addr} {H H' : Hp} {t : Addr} {r : Row} (h : RowAt p H t r) (s : Same H H') : RowAt p H' t r := h.keep (fun b o e => s b _ e) (fun b o _ e => s b _ e)
theorem RowAt.keepP {p c : Addr} {ns : List Int} {u r0 : Int} {H H' : Hp} {t : Addr} {r : Row} (h : RowAt p H t r) (P : PenAt H p c ns u r0) (s : SameP p H H') : RowAt p H' t r := h.keep (fun b o e => s.tup P b o e) (fun b o n e => s b _ e n)
/-- a dict of counts of words -/
structure Cw (ps : List (Str × Int)) : Prop where
  nd : (ps.map (·.1)).Nodup
  wd : ∀ q ∈ ps, wordB q.1 = true
  sm : ∀ q ∈ ps, q.2.natAbs ≤ 10 ^ 9
  few : ps.length ≤ 3
theorem Cw.mapC {ps : List (Str × Int)} {f : Int → Int} {flt : Int → Bool} (h : Cw ps) (hf : ∀ i, (f i).natAbs = i.natAbs) : Cw (Ld.mapC f flt ps) := by
  refine ⟨mapC_nd h.nd, fun q hq => ?_, fun q hq => ?_, Nat.le_trans mapC_len h.few⟩
  · obtain ⟨i, h1, _, _⟩ := mapC_mem.mp hq
    exact h.wd (q.1, i) h1
  · obtain ⟨i, h1, _, h3⟩ := mapC_mem.mp hq
    rw [h3, hf]
    exact h.sm (q.1, i) h1
theorem Cr.cw {ws : List Str} {ps : List (Str × Int)} (h : Cr ws ps) (hw : ∀ z ∈ ws, Wd 1 8 z) : Cw ps := ⟨h.nd, fun q hq => (hw _ (h.sub q hq)).word, h.sm, h.few⟩
/-- behind a walk over a locked dict's keys -/
theorem lk_end {d D : Addr} {od : Obj} {ps qs : List (Str × Int)} {H H' : Hp} {us : List Addr} (hd : H d = some (.dK (cD ps))) (hD : upd H d (.frz od (.dK (cD ps))) D = none) (same : Same (upd H d (.frz od (.dK (cD ps)))) H')
    (eD : H' D = some (.lst (us.map V.ref))) (hus : TupsAt H' us qs) :
    H' d = some (.frz od (.dK (cD ps))) ∧ Same H (upd H' d (.dK (cD ps))) ∧ (upd H' d (.dK (cD ps))) D = some (.lst (us.map V.ref)) ∧ TupsAt (upd H' d (.dK (cD ps))) us qs := by
  have nDd : D ≠ d := fun e => by rw [e, upd_same] at hD; cases hD
  have hd' := same _ _ (upd_same (H := H) (a := d) (o := .frz od (.dK (cD ps))))
  refine ⟨hd', fun b o e => ?_, by rw [upd_ne nDd]; exact eD, hus.keep fun t xs ht => ?_⟩
  · by_cases eb : b = d
    · rw [eb, upd_same, ← hd, ← eb, e]
    · rw [upd_ne eb]
      exact same _ _ (by rw [upd_ne eb]; exact e)
  · rw [upd_ne (ne_of ht hd' fun z => nomatch z)]
    exact ht
def spSomL : Sp := fun vs H Q _ => ∃ (p c kl hl : Addr) (ks hs : List Str) (ns : List Int) (u r : Int), vs = [.ref p, .ref kl, .ref hl] ∧ PenAt H p c ns u r ∧ H kl = some (.lst (ks.map V.str)) ∧ ks.length ≤ 26 ∧ ks.Nodup ∧ (∀ z ∈ ks, Wd 1 8 z) ∧
  H hl = some (.lst (hs.map V.str)) ∧ hs.length ≤ 26 ∧ 2 ≤ hs.length ∧ hs.Nodup ∧ (∀ z ∈ hs, Wd 1 8 z) ∧ u + 700 ≤ 1000000 ∧
  ∀ (L : Addr) (ts : List Addr) (rows : List Row) (u' r' : Int) (H' : Hp), H L = none → H' L = some (.lst (ts.map V.ref)) → Paired (RowAt p H') ts rows → (∀ r ∈ rows, RowOk r) → rows.length ≤ 7 → u' ≤ u + 700 → PenAt H' p c ns u' r' → SameP p H H' → Q (.ref L) H'
section
variable {P : Program} {w : World} {K : PySem.W.Frag} {mg : Str → Option Value} {base : Heap}
abbrev nSom : List Str := ["_law_pen_here", "_law_kinds", "_law_houses", "_law_found", "_law_k", "_law_one", "_law_other", "_law_counts_here", "_law_way", "_law_kind"]
theorem scSomL : FnScope nSom ["_law_pen_here", "_law_kinds", "_law_houses"] (defScope sSomL) := ⟨rfl, rfl, rfl, by decide +kernel, rfl, by decide +kernel, by decide +kernel⟩
theorem abs_na (i : Int) : (if i < 0 then -i else i).natAbs = i.natAbs := by split <;> omega
theorem nabs_na (i : Int) : (0 - (if i < 0 then -i else i)).natAbs = i.natAbs := by split <;> omega
theorem ok_somL {f : Addr} {fd : FuncData} (F : Fun K "_law_some_drives" "_law_some_drives" sSomL f fd) (B : Blt mg) (B2 : Blt2 mg) (HD : Has P w K mg base 1 "_law_draw" ["_law_pen_here", "_law_many"] spDraw) (HS : Has P w K mg base 2 "_law_shuffled" ["_law_pen_here", "_law_items"] spShuf) (HC : Has P w K mg base 4 "_law_counts" ["_law_pen_here", "_law_kinds"] spCntsL) (HN : Has P w K mg base 1 "_law_clean" ["_law_counts_here"] spClnL) :
    FnOk P w K mg base CX0 5 f fd ["_law_pen_here", "_law_kinds", "_law_houses"] spSomL := by
  obtain ⟨g1, gd1, G1, b1, m1, k1⟩ := HD
  obtain ⟨g2, gd2, G2, b2, m2, k2⟩ := HS
  obtain ⟨g3, gd3, G3, b3, m3, k3⟩ := HC
  obtain ⟨g4, gd4, G4, b4, m4, k4⟩ := HN
  refine F.ok scSomL (fun vs H Q E h => ?_) (fun cdv A outer s H vs Q E hr h => ?_)
  · obtain ⟨p, c, kl, hl, ks, hs, ns, u, r, rfl, _⟩ := h
    rfl
  · obtain ⟨p, c, kl, hl, ks, hs, ns, u, r, rfl, PA, gK, hkl, hkn, hkw, gH, hhl, hh2, hhn, hhw, hu6, k⟩ := h
    have hr1 : Room 1 _ := hr.mono (by decide)
    have hr2 : Room 2 _ := hr.mono (by decide)
    have hu := hu_of hr
    have nd : nSom.Nodup := scSomL.nd
    refine ⟨_, pss_cons (ps_set (i := 3) nd rfl (Or.inl rfl) (pe_lst pa_nil))
      (pss_cons (ps_for PassesOwn.never rfl (pi_range1 (by rfl) B.range (pa_cons (pe_call G1 hr1 (by rfl) m1 k1 b1 .nil pass0 (pa_cons (pv 0) (pa_cons pe_int pa_nil))) pa_nil)) (pg_name (i := 4) nd rfl (Or.inl rfl))
        (pss_cons (ps_asg (pe_slice sl_list (pe_call G2 hr2 (by rfl) m2 k2 b2 .nil pass0 (pa_cons (pv 0) (pa_cons (pv 2) pa_nil))) po_none (po_some pe_int)) (pg_unl rfl (pgs_cons (pg_name (i := 5) nd rfl (Or.inl rfl)) (pgs_cons (pg_name (i := 6) nd rfl (Or.inl rfl)) pgs_nil))))
        (pss_cons (ps_asg (pe_tup (pa_cons (pe_call G3 hr (by rfl) m3 k3 b3 .nil pass0 (pa_cons (pv 0) (pa_cons (pv 1) pa_nil))) (pa_cons (pe_call G1 hr1 (by rfl) m1 k1 b1 .nil pass0 (pa_cons (pv 0) (pa_cons pe_int pa_nil))) pa_nil))) (pg_tup (by rfl) (pgs_cons (pg_name (i := 7) nd rfl (Or.inr rfl)) (pgs_cons (pg_name (i := 8) nd rfl (Or.inl rfl)) pgs_nil))))
        (pss_cons (ps_if (pt_cmpR op_eq (pv 8) pe_int (nomark _)) (pss_one (ps_set (i := 7) nd rfl (Or.inr rfl) (pe_callTy (call_dictP rfl) (by rfl) B2.dict bDict (pa_cons (pe_lock (pe_lc (own := [("_law_kind", 9)]) (g := gName 9) (tt := tYes) rfl nd (pi_keys (pv 7)) (blkOk_by (N := nSom) (sc := defScope sSomL) (by decide +kernel)) (fun _ _ _ _ _ => pg_name (i := 9) nd rfl (Or.inl rfl)) (fun _ _ _ _ _ => pts_nil) (fun _ _ _ _ _ => (pe_tup (pa_cons (pv 9) (pa_cons (pe_callB call_abs (by rfl) B.abs bAbs (pa_cons (pe_dget hu (pv 7) (pv 9) (fun _ _ => rfl)) pa_nil)) pa_nil)))))) pa_nil)))) pss_nil)
        (pss_cons (ps_if (pt_cmpR op_eq (pv 8) pe_int (nomark _)) (pss_one (ps_set (i := 7) nd rfl (Or.inr rfl) (pe_callTy (call_dictP rfl) (by rfl) B2.dict bDict (pa_cons (pe_lock (pe_lc (own := [("_law_kind", 9)]) (g := gName 9) (tt := tYes) rfl nd (pi_keys (pv 7)) (blkOk_by (N := nSom) (sc := defScope sSomL) (by decide +kernel)) (fun _ _ _ _ _ => pg_name (i := 9) nd rfl (Or.inl rfl)) (fun _ _ _ _ _ => pts_nil) (fun _ _ _ _ _ => (pe_tup (pa_cons (pv 9) (pa_cons (pe_op op_sub pe_int (pe_callB call_abs (by rfl) B.abs bAbs (pa_cons (pe_dget hu (pv 7) (pv 9) (fun _ _ => rfl)) pa_nil))) pa_nil)))))) pa_nil)))) pss_nil)
        (pss_one (ps_expr (pe_bm PySem.F.plainAttrs_list PySem.F.slot_list_append PySem.F.type_list_append mt_append (pv 3) (pa_cons (pe_tup (pa_cons (pv 5) (pa_cons (pv 6) (pa_cons (pe_call G4 hr1 (by rfl) m4 k4 b4 .nil pass0 (pa_cons (pv 7) pa_nil)) pa_nil)))) pa_nil)))))))))
      (pss_one (ps_ret (pv 3)))), ?_⟩
    -- found
    refine seq_step (fun σ' H' => ∃ D : Addr, σ' = [some (.ref p), some (.ref kl), some (.ref hl), some (.ref D), none, none, none, none, none, none] ∧ H D = none ∧ H' = upd H D (.lst [])) (fun R hR => ?_) (fun σ1 H1 h1 => ?_)
    · exact ⟨Nat.zero_le _, fun D hD => hR _ _ ⟨D, rfl, hD, rfl⟩⟩
    obtain ⟨D, rfl, hD, e1⟩ := h1
    have nDp := PA.nd hD
    have nDc := PA.nc hD
    have sD := same_new (o := .lst []) hD
    have PA1 : PenAt H1 p c ns u r := by rw [e1]; exact PA.same sD
    have gD1 : H1 D = some (.lst []) := by rw [e1, upd_same]
    have s1 : Same H H1 := by rw [e1]; exact sD
    clear e1
    have nKp := PA.nl gK
    have nHp := PA.nl gH
    -- the drives
    refine seq_step (fun σ' H' => ∃ (x4 x5 x6 x7 x8 : Option V) (ts : List Addr) (rows : List Row) (u' r' : Int), σ' = [some (.ref p), some (.ref kl), some (.ref hl), some (.ref D), x4, x5, x6, x7, x8, none] ∧ H' D = some (.lst (ts.map V.ref)) ∧ Paired (RowAt p H') ts rows ∧ (∀ r ∈ rows, RowOk r) ∧ rows.length ≤ 7 ∧ u' ≤ u + 700 ∧ PenAt H' p c ns u' r' ∧ SameP p H H') (fun R hR => ?_) (fun σ2 H2 h2 => ?_)
    · refine ⟨_, rfl, p, c, ns, u, r, 8, rfl, PA1, by omega, by decide, by decide, fun m u1 r1 H2 m0 m1 hu1 PA2 keep2 => ?_⟩
      obtain ⟨n, rfl⟩ : ∃ n : Nat, m = (n : Int) := ⟨m.toNat, by omega⟩
      have gD2 := keep2 _ _ gD1 nDp
      have kp2 : SameP p H H2 := (SameP.of s1).trans keep2
      refine ⟨_, rfl, by omega, by omega, for_range (n := n) (fun i σ' H' => ∃ (x4 x5 x6 x7 x8 : Option V) (ts : List Addr) (rows : List Row) (u' r' : Int), σ' = [some (.ref p), some (.ref kl), some (.ref hl), some (.ref D), x4, x5, x6, x7, x8, none] ∧ H' D = some (.lst (ts.map V.ref)) ∧ Paired (RowAt p H') ts rows ∧ (∀ r ∈ rows, RowOk r) ∧ rows.length = i ∧ u' ≤ u1 + 80 * i ∧ PenAt H' p c ns u' r' ∧ SameP p H H')
        ⟨_, _, _, _, _, [], [], u1, r1, rfl, gD2, .nil, (fun _ h => nomatch h), rfl, by omega, PA2, kp2⟩ ?_ ?_⟩
      · rintro i σ' H3 hi ⟨x4, x5, x6, x7, x8, ts, rows, u', r', rfl, gD, hrows, hok, hlen, hu', PA3, kp3⟩
        have gK3 := kp3 _ _ gK nKp
        have gH3 := kp3 _ _ gH nHp
        -- one, other
        refine seq_step (fun σ' H' => ∃ (g t : Str) (u2 r2 : Int), σ' = [some (.ref p), some (.ref kl), some (.ref hl), some (.ref D), some (.int (0 + (i : Int))), some (.str g), some (.str t), x7, x8, none] ∧ wordB g = true ∧ wordB t = true ∧ t ≠ g ∧ u2 ≤ u' + 26 ∧ PenAt H' p c ns u2 r2 ∧ SameP p H3 H') (fun R hR => ?_) (fun σ4 H4 h4 => ?_)
        · refine ⟨_, rfl, _, rfl, p, c, hl, hs, ns, u', r', rfl, PA3, gH3, by omega, hhw, by omega, fun q0 ys u2 r2 H4 _ gq hp qb PAb sb => ?_⟩
          have hyl := hp.length_eq
          obtain ⟨g, t, yr, rfl⟩ : ∃ g t yr, ys = g :: t :: yr := by
            match ys, (by omega : 2 ≤ ys.length) with
            | g :: t :: yr, _ => exact ⟨g, t, yr, rfl⟩
          have hyn := hp.nodup_iff.mpr hhn
          refine ⟨_, rfl, q0, _, rfl, .inl (.inl gq), fun t0 ht0 => ?_⟩
          have e2 : cutV ((g :: t :: yr).map V.str) none (some (2 : Int)) = [.str g, .str t] := (cut_take (xs := (g :: t :: yr).map V.str) (j := 2)).trans rfl
          rw [e2]
          have s0 := same_new (o := .lst [.str g, .str t]) ht0
          exact ⟨t0, _, rfl, .inl (.inl upd_same), rfl, _, _, rfl, _, _, rfl, rfl, hR _ _ ⟨g, t, u2, r2, rfl, (hhw g (hp.mem_iff.mp List.mem_cons_self)).word, (hhw t (hp.mem_iff.mp (List.mem_cons_of_mem _ List.mem_cons_self))).word, fun e => by
            rw [e] at hyn
            exact (List.nodup_cons.mp hyn).1 List.mem_cons_self, by omega, PAb.same s0, sb.trans (.of s0)⟩⟩
        obtain ⟨g, t, u2, r2, rfl, hg, ht, hne, hu2, PA4, keep4⟩ := h4
        -- counts, way
        refine seq_step (fun σ' H' => ∃ (d : Addr) (ps : List (Str × Int)) (way u3 r3 : Int), σ' = [some (.ref p), some (.ref kl), some (.ref hl), some (.ref D), some (.int (0 + (i : Int))), some (.str g), some (.str t), some (.ref d), some (.int way), none] ∧ H' d = some (.dK (cD ps)) ∧ Cw ps ∧ u3 ≤ u' + 80 ∧ PenAt H' p c ns u3 r3 ∧ SameP p H3 H') (fun R hR => ?_) (fun σ5 H5 h5 => ?_)
        · refine ⟨_, rfl, _, rfl, p, c, kl, ks, ns, u2, r2, rfl, PA4, keep4 _ _ gK3 nKp, hkl, hkn, hkw, by omega, fun d ps u3 r3 H5 hd gd cr hu3 PA5 keep5 => ?_⟩
          refine ⟨_, rfl, p, c, ns, u3, r3, 4, rfl, PA5, by omega, by decide, by decide, fun way u4 r4 H6 w0 w1 hu4 PA6 keep6 => ⟨by show 2 ≤ sizeLine; decide, fun T1 hT1 => ?_⟩⟩
          have sT := same_new (o := .tup [.ref d, .int way]) hT1
          exact ⟨T1, _, rfl, .inl (.inl upd_same), rfl, _, _, rfl, _, _, rfl, rfl, hR _ _ ⟨d, ps, way, u4, r4, rfl, sT _ _ (keep6 _ _ gd (PA4.nd hd)), cr.cw hkw, by omega, PA6.same sT, keep4.trans (keep5.trans (keep6.trans (.of sT)))⟩⟩
        obtain ⟨d, ps, way, u3, r3, rfl, gd, cw, hu3, PA5, keep5⟩ := h5
        -- if way == 0
        refine seq_step (fun σ' H' => ∃ (d : Addr) (ps : List (Str × Int)), σ' = [some (.ref p), some (.ref kl), some (.ref hl), some (.ref D), some (.int (0 + (i : Int))), some (.str g), some (.str t), some (.ref d), some (.int way), none] ∧ H' d = some (.dK (cD ps)) ∧ Cw ps ∧ Same H5 H') (fun R hR => ?_) (fun σ6 H6 h6 => ?_)
        · refine ⟨_, rfl, rfl, _, rfl, ifb (fun _ => ?_) (fun _ => hR _ _ ⟨d, ps, rfl, gd, cw, fun _ _ e => e⟩)⟩
          refine ⟨d, _, gd, trivial, fun od => ⟨_, rfl, d, od, rfl, .inl ⟨cD ps, upd_same, fun E0 hE => ?_⟩⟩⟩
          refine lk_counts (fun i => if i < 0 then -i else i) (fun _ => true) upd_same (Nat.le_trans cw.few (by decide)) hE (fun z i H3 R R' rd hm c1 c2 => ?_) (fun H' us same eD hus => ?_)
          · exact ⟨rfl, _, rfl, _, rfl, _, rfl, d, _, rfl, dget_in rd cw.nd hm, _, rfl, by show 2 ≤ sizeLine; decide, fun T hT => c1 rfl T hT⟩
          · obtain ⟨f1, f2, f3, f4⟩ := lk_end gd hE same eD hus
            refine ⟨f1, E0, us, cD _, rfl, .inl (.inl f3), TupsAt.cD f4, fun q hq => ?_⟩
            rw [merge_nd (mapC_nd cw.nd)]
            exact hR _ _ ⟨q, _, rfl, upd_same, cw.mapC abs_na, f2.trans (same_new hq)⟩
        obtain ⟨d2, ps2, rfl, gd2, cw2, s6⟩ := h6
        -- if way == 1
        refine seq_step (fun σ' H' => ∃ (d : Addr) (ps : List (Str × Int)), σ' = [some (.ref p), some (.ref kl), some (.ref hl), some (.ref D), some (.int (0 + (i : Int))), some (.str g), some (.str t), some (.ref d), some (.int way), none] ∧ H' d = some (.dK (cD ps)) ∧ Cw ps ∧ Same H6 H') (fun R hR => ?_) (fun σ7 H7 h7 => ?_)
        · refine ⟨_, rfl, rfl, _, rfl, ifb (fun _ => ?_) (fun _ => hR _ _ ⟨d2, ps2, rfl, gd2, cw2, fun _ _ e => e⟩)⟩
          refine ⟨d2, _, gd2, trivial, fun od => ⟨_, rfl, d2, od, rfl, .inl ⟨cD ps2, upd_same, fun E0 hE => ?_⟩⟩⟩
          refine lk_counts (fun i => 0 - (if i < 0 then -i else i)) (fun _ => true) upd_same (Nat.le_trans cw2.few (by decide)) hE (fun z i H3 R R' rd hm c1 c2 => ?_) (fun H' us same eD hus => ?_)
          · exact ⟨rfl, _, rfl, _, rfl, _, rfl, d2, _, rfl, dget_in rd cw2.nd hm, _, rfl, _, _, rfl, rfl, by show 2 ≤ sizeLine; decide, fun T hT => c1 rfl T hT⟩
          · obtain ⟨f1, f2, f3, f4⟩ := lk_end gd2 hE same eD hus
            refine ⟨f1, E0, us, cD _, rfl, .inl (.inl f3), TupsAt.cD f4, fun q hq => ?_⟩
            rw [merge_nd (mapC_nd cw2.nd)]
            exact hR _ _ ⟨q, _, rfl, upd_same, cw2.mapC nabs_na, f2.trans (same_new hq)⟩
        obtain ⟨d3, ps3, rfl, gd3, cw3, s7⟩ := h7
        -- found.append((one, other, clean(counts)))
        have s57 := s6.trans s7
        have kp7 : SameP p H3 H7 := keep5.trans (.of s57)
        have PA7 := PA5.same s57
        refine ⟨_, rfl, .inl ⟨rfl, _, .inl (.inl (kp7 _ _ gD nDp))⟩, _, rfl, _, rfl, _, rfl, d3, ps3, rfl, gd3, cw3.nd, cw3.wd, Nat.le_trans cw3.few (by decide), fun H8 q rs s8 hq eq can cts => ⟨by show 3 ≤ sizeLine; decide, fun T hT => ?_⟩⟩
        have sT := same_new (o := .tup [.str g, .str t, .ref q]) hT
        have s79 := s8.trans sT
        have gD9 := s79 _ _ (kp7 _ _ gD nDp)
        refine ⟨D, _, _, rfl, rfl, gD9, ?_, ?_⟩
        · have := Paired.length hrows
          rw [List.length_map, this]
          exact Nat.lt_of_le_of_lt (by omega : rows.length ≤ 7) (by decide)
        have hsm : ∀ q ∈ rs, q.2.natAbs ≤ 10 ^ 9 := fun q hq => by
          have h1 := ct_mem can.nd hq
          rw [cts] at h1
          have h2 : q.1 ∈ ps3.map (·.1) := ct_in (by rw [h1]; exact can.nz q hq)
          obtain ⟨x, hx, ex⟩ := List.mem_map.mp h2
          have h3 := ct_mem cw3.nd hx
          rw [ex, h1] at h3
          rw [h3]
          exact cw3.sm x hx
        have hfew : rs.length ≤ 3 := by
          have := nd_len can.nd (m := ps3.map (·.1)) fun z hz => by
            obtain ⟨x, hx, rfl⟩ := List.mem_map.mp hz
            exact ct_in (by rw [← cts, ct_mem can.nd hx]; exact can.nz x hx)
          rw [List.length_map, List.length_map] at this
          exact Nat.le_trans this cw3.few
        refine ⟨_, _, _, _, _, ts ++ [T], rows ++ [(g, t, rs)], u3, r3, rfl, ?_, ?_, ?_, ?_, by omega, ((PA7.same s79).upd nDp nDc), ?_⟩
        · rw [upd_same, List.map_append]
          rfl
        · have nTD : D ≠ T := ne_of_none (s8 _ _ (kp7 _ _ gD nDp)) hT
          have nqD : q ≠ D := (ne_of_none (kp7 _ _ gD nDp) hq).symm
          have nqT : q ≠ T := ne_of_none eq hT
          refine .snoc (Paired.mono (fun t' r' h => ?_) hrows) ⟨q, PA7.nd hq, ?_, ?_⟩
          · refine ((h.keepP PA3 kp7).same s79).keep (fun b xs e => ?_) (fun b kvs _ e => ?_)
            · rw [upd_ne (ne_of e gD9 fun z => nomatch z)]
              exact e
            · rw [upd_ne (ne_of e gD9 fun z => nomatch z)]
              exact e
          · rw [upd_ne nTD.symm, upd_same]
          · rw [upd_ne nqD, upd_ne nqT]
            exact eq
        · intro r hr
          rcases List.mem_append.mp hr with h | h
          · exact hok r h
          · rw [List.mem_singleton.mp h]
            exact ⟨hg, ht, hne, can, hfew, hsm⟩
        · rw [List.length_append, hlen]
          rfl
        · intro b o eb nb
          rw [upd_ne (ne_of_none eb hD)]
          exact s79 _ _ (kp7 _ _ (kp3 _ _ eb nb) nb)
      · rintro σ' H3 ⟨x4, x5, x6, x7, x8, ts, rows, u', r', rfl, gD, hrows, hok, hlen, hu', PA3, kp3⟩
        exact hR _ _ ⟨_, _, _, _, _, ts, rows, u', r', rfl, gD, hrows, hok, by omega, by omega, PA3, kp3⟩
    obtain ⟨x4, x5, x6, x7, x8, ts, rows, u', r', rfl, gD, hrows, hok, hlen, hu', PA2, kp2⟩ := h2
    exact ⟨_, rfl, k D ts rows u' r' H2 hD gD hrows hok hlen hu' PA2 kp2⟩
end
end Ld
namespace Ld
open PySem PySem.Spec PyProof.Rows L2
open TL
/-! ### what the drives are told as -/
def sgn (s : Int) (ps : List (Str × Int)) : List (Str × Int) := mapC (fun i => s * i) (fun i => decide (0 < s * i)) ps
def addPart (f d : Int) (acc : List Nt) (g t : Str) (ps : List (Str × Int)) : List Nt := if ps.isEmpty = true then acc else acc ++ [⟨f + acc.length, d, g, t, ps⟩]
def two (f d : Int) (acc : List Nt) (r : Row) : List Nt := addPart f d (addPart f d acc r.1 r.2.1 (sgn 1 r.2.2)) r.2.1 r.1 (sgn (-1) r.2.2)
def linesOf (f d : Int) (rows : List Row) : List Nt := rows.foldl (two f d) []
theorem addPart_len {f d : Int} {acc : List Nt} {g t : Str} {ps : List (Str × Int)} : (addPart f d acc g t ps).length ≤ acc.length + 1 := by
  unfold addPart
  split
  · omega
  · rw [List.length_append]
    exact Nat.le_refl _
theorem two_len {f d : Int} {acc : List Nt} {r : Row} : (two f d acc r).length ≤ acc.length + 2 := Nat.le_trans addPart_len (Nat.succ_le_succ addPart_len)
theorem foldTwo_len {f d : Int} : ∀ {rows : List Row} {acc : List Nt}, (rows.foldl (two f d) acc).length ≤ acc.length + 2 * rows.length
  | [], acc => Nat.le_refl _
  | r :: rs, acc => by
    have h1 := foldTwo_len (f := f) (d := d) (rows := rs) (acc := two f d acc r)
    have h2 := two_len (f := f) (d := d) (acc := acc) (r := r)
    show (rs.foldl (two f d) (two f d acc r)).length ≤ _
    rw [List.length_cons]
    omega
theorem fold_take {α β : Type} (f : β → α → β) (b : β) (l : List α) (i : Nat) (x : α) (h : l[i]? = some x) : (l.take (i + 1)).foldl f b = f ((l.take i).foldl f b) x := by
  rw [List.take_succ, h, List.foldl_append]
  rfl
def LineAt (H : Hp) (T : Addr) (m : Nt) : Prop := ∃ e, H T = some (.tup [.int m.n, .int m.d, .str m.g, .str m.t, .ref e]) ∧ H e = some (.dK (cD m.ps))
theorem LineAt.keep {H H' : Hp} {T : Addr} {m : Nt} (h : LineAt H T m) (k : ∀ b xs, H b = some (.tup xs) → H' b = some (.tup xs)) (k2 : ∀ b kvs, H b = some (.dK kvs) → H' b = some (.dK kvs)) : LineAt H' T m := by
  obtain ⟨e, h1, h2⟩ := h
  exact ⟨e, k _ _ h1, k2 _ _ h2⟩
theorem LineAt.same {H H' : Hp} {T : Addr} {m : Nt} (h : LineAt H T m) (s : Same H H') : LineAt H' T m := h.keep (fun b o e => s b _ e) (fun b o e => s b _ e)
def rNeCt : R2 := fun x y H Q => ∃ a b ps qs, x = .ref a ∧ y = .ref b ∧ H a = some (.dK (cD ps)) ∧ H b = some (.dK (cD qs)) ∧ Q (.bl (!(ps.length == qs.length && hitB qs ps))) H
theorem op_neCt {X : Cx} (hu : X.A.units < cLine) : OpR X (compareOp .NotEq) rNeCt := by
  intro pins s σ H x y v u Q I rx ry h
  obtain ⟨a, b, ps, qs, rfl, rfl, ea, eb, q⟩ := h
  obtain rfl : v = Value.ref a := rx
  obtain rfl : u = Value.ref b := ry
  obtain ⟨_, ya, va, ra, da⟩ := (show ObjOk X.prog X.w H s.heap a (.dK (cD ps)) from I.hok a _ ea)
  obtain ⟨_, yb, vb, rb, db⟩ := (show ObjOk X.prog X.w H s.heap b (.dK (cD qs)) from I.hok b _ eb)
  have hl : (va.length == vb.length) = (ps.length == qs.length) := by rw [← ra.length, ← rb.length, cD_len, cD_len]
  refine PySem.W.keq_ne (knd := mixKind X.prog X.w) (r := hitB qs ps) ya yb da db hu (fun _ => hits_ct rb ra) ?_
  exact ⟨.bl (!(ps.length == qs.length && hitB qs ps)), H, I, by rw [hl]; rfl, q⟩
theorem ne_nil (ps : List (Str × Int)) : (!(ps.length == ([] : List (Str × Int)).length && hitB [] ps)) = !ps.isEmpty := by
  cases ps with
  | nil => rfl
  | cons a r => rfl
def spLinL : Sp := fun vs H Q _ => ∃ (p L : Addr) (ts : List Addr) (rows : List Row) (d f : Int), vs = [.ref L, .int d, .int f] ∧ H L = some (.lst (ts.map V.ref)) ∧ Paired (RowAt p H) ts rows ∧ (∀ r ∈ rows, RowOk r) ∧ rows.length ≤ 7 ∧
  ∀ (H' : Hp) (M : Addr) (us : List Addr), Same H H' → H M = none → H' M = some (.lst (us.map V.ref)) → Paired (LineAt H') us (linesOf f d rows) → Q (.ref M) H'
section
variable {P : Program} {w : World} {K : PySem.W.Frag} {mg : Str → Option Value} {base : Heap}
abbrev nLin : List Str := ["_law_rows", "_law_when", "_law_first", "_law_found", "_law_one", "_law_other", "_law_counts_here", "_law_giver", "_law_taker", "_law_sign", "_law_part", "_law_kind"]
theorem scLinL : FnScope nLin ["_law_rows", "_law_when", "_law_first"] (defScope sLinL) := ⟨rfl, rfl, rfl, by decide +kernel, rfl, by decide +kernel, by decide +kernel⟩
theorem ok_linL {f : Addr} {fd : FuncData} (F : Fun K "_law_lines" "_law_lines" sLinL f fd) (B : Blt mg) (B2 : Blt2 mg) : FnOk P w K mg base CX0 1 f fd ["_law_rows", "_law_when", "_law_first"] spLinL := by
  refine F.ok scLinL (fun vs H Q E h => ?_) (fun cdv A outer s H vs Q E hr h => ?_)
  · obtain ⟨p, L, ts, rows, d, f, rfl, _⟩ := h
    rfl
  · obtain ⟨p, L, ts, rows, d, f, rfl, gL, hrows, hok, hlen, k⟩ := h
    have hu := hu_of hr
    have hu0 := Nat.lt_of_succ_lt hu
    have nd : nLin.Nodup := scLinL.nd
    refine ⟨_, pss_cons (ps_set (i := 3) nd rfl (Or.inl rfl) (pe_lst pa_nil))
      (pss_cons (ps_for PassesOwn.never rfl (pi_list (pv 0)) (pg_tup rfl (pgs_cons (pg_name (i := 4) nd rfl (Or.inl rfl)) (pgs_cons (pg_name (i := 5) nd rfl (Or.inl rfl)) (pgs_cons (pg_name (i := 6) nd rfl (Or.inr rfl)) pgs_nil))))
        (pss_one (ps_for PassesOwn.never rfl (pi_list (pe_lst (pa_cons (pe_tup (pa_cons (pv 4) (pa_cons (pv 5) (pa_cons pe_int pa_nil)))) (pa_cons (pe_tup (pa_cons (pv 5) (pa_cons (pv 4) (pa_cons (pe_un un_neg pe_int) pa_nil)))) pa_nil)))) (pg_tup rfl (pgs_cons (pg_name (i := 7) nd rfl (Or.inl rfl)) (pgs_cons (pg_name (i := 8) nd rfl (Or.inl rfl)) (pgs_cons (pg_name (i := 9) nd rfl (Or.inr rfl)) pgs_nil))))
          (pss_cons (ps_set (i := 10) nd rfl (Or.inl rfl) (pe_callTy (call_dictP rfl) (by rfl) B2.dict bDict (pa_cons (pe_lock (pe_lc (own := [("_law_kind", 11)]) (g := gName 11) rfl nd (pi_keys (pv 6)) (blkOk_by (N := nLin) (sc := defScope sLinL) (by decide +kernel)) (fun _ _ _ _ _ => pg_name (i := 11) nd rfl (Or.inl rfl)) (fun _ _ _ _ _ => (pts_one (pt_cmpR op_gt (pe_op op_mul (pv 9) (pe_dget hu (pv 6) (pv 11) (fun _ _ => rfl))) pe_int (nomark _)))) (fun _ _ _ _ _ => (pe_tup (pa_cons (pv 11) (pa_cons (pe_op op_mul (pv 9) (pe_dget hu (pv 6) (pv 11) (fun _ _ => rfl))) pa_nil)))))) pa_nil)))
          (pss_one (ps_if (pt_cmpR (op_neCt hu0) (pv 10) pe_dnewK (nomark _)) (pss_one (ps_expr (pe_bm PySem.F.plainAttrs_list PySem.F.slot_list_append PySem.F.type_list_append mt_append (pv 3) (pa_cons (pe_tup (pa_cons (pe_op op_add (pv 2) (pe_callB call_len_seq (by rfl) B.len PySem.boot_len (pa_cons (pv 3) pa_nil))) (pa_cons (pv 1) (pa_cons (pv 7) (pa_cons (pv 8) (pa_cons (pv 10) pa_nil)))))) pa_nil)))) pss_nil))))))
      (pss_one (ps_ret (pv 3)))), ?_⟩
    -- found
    refine seq_step (fun σ' H' => ∃ D : Addr, σ' = [some (.ref L), some (.int d), some (.int f), some (.ref D), none, none, none, none, none, none, none, none] ∧ H D = none ∧ H' = upd H D (.lst [])) (fun R hR => ?_) (fun σ1 H1 h1 => ?_)
    · exact ⟨Nat.zero_le _, fun D hD => hR _ _ ⟨D, rfl, hD, rfl⟩⟩
    obtain ⟨D, rfl, hD, e1⟩ := h1
    have s1 : Same H H1 := by rw [e1]; exact same_new hD
    have gD1 : H1 D = some (.lst []) := by rw [e1, upd_same]
    clear e1
    have htl := Paired.length hrows
    refine seq_step (fun σ' H' => ∃ (x4 x5 x6 x7 x8 x9 x10 : Option V) (us : List Addr), σ' = [some (.ref L), some (.int d), some (.int f), some (.ref D), x4, x5, x6, x7, x8, x9, x10, none] ∧ H' D = some (.lst (us.map V.ref)) ∧ Paired (LineAt H') us (linesOf f d rows) ∧ Same H H') (fun R hR => ?_) (fun σ2 H2 h2 => ?_)
    · refine ⟨_, rfl, L, rfl, ⟨_, .inl (.inl (s1 _ _ gL))⟩, for_list (xs := ts.map V.ref) (fun i σ' H' => ∃ (x4 x5 x6 x7 x8 x9 x10 : Option V) (us : List Addr), σ' = [some (.ref L), some (.int d), some (.int f), some (.ref D), x4, x5, x6, x7, x8, x9, x10, none] ∧ H' D = some (.lst (us.map V.ref)) ∧ Paired (LineAt H') us ((rows.take i).foldl (two f d) []) ∧ Same H H')
        ⟨_, _, _, _, _, _, _, [], rfl, gD1, .nil, s1⟩ (fun i σ' H' _ ⟨_, _, _, _, _, _, _, _, _, _, _, h⟩ => .inl (.inl (h _ _ gL))) ?_ ?_⟩
      · rintro i y σ' H3 hy ⟨x4, x5, x6, x7, x8, x9, x10, us, rfl, gD, hus, sm⟩
        rw [List.getElem?_map] at hy
        obtain ⟨T, hT, rfl⟩ := Option.map_eq_some_iff.mp hy
        have hil : i < ts.length := (List.getElem?_eq_some_iff.mp hT).1
        have hir : i < rows.length := by omega
        have hri : rows[i]? = some rows[i] := List.getElem?_eq_getElem hir
        have hro := hok _ (List.getElem_mem hir)
        have hrw : RowAt p H T rows[i] := Paired.nth hrows hT hri
        have hacl : ((rows.take i).foldl (two f d) []).length ≤ 12 := by
          have := foldTwo_len (f := f) (d := d) (rows := rows.take i) (acc := [])
          rw [List.length_take] at this
          have e0 : ([] : List Nt).length = 0 := rfl
          omega
        rw [fold_take _ _ _ _ _ hri]
        generalize (rows.take i).foldl (two f d) [] = acc at hus hacl ⊢
        generalize rows[i] = row at hro hrw ⊢
        obtain ⟨one, other, ps⟩ := row
        obtain ⟨e, nep, hTt, he⟩ := hrw
        dsimp only at hTt he
        have hT3 := sm _ _ hTt
        have he3 := sm _ _ he
        have can : Can ps := hro.can
        refine ⟨T, _, rfl, .inl (.inl hT3), rfl, _, _, rfl, _, _, rfl, _, _, rfl, rfl, ?_⟩
        refine ⟨_, rfl, _, rfl, by show 3 ≤ sizeLine; decide, fun T1 hT1 => ⟨_, rfl, _, rfl, _, rfl, by show 3 ≤ sizeLine; decide, fun T2 hT2 => ⟨by show 2 ≤ sizeLine; decide, fun I hI => ?_⟩⟩⟩
        have t1 := same_new (o := .tup [.str one, .str other, .int 1]) hT1
        have t2 := same_new (o := .tup [.str other, .str one, .int (-1)]) hT2
        have t3 := same_new (o := .lst [.ref T1, .ref T2]) hI
        have g1 := t3 _ _ (t2 _ _ (upd_same (H := H3) (a := T1) (o := .tup [.str one, .str other, .int 1])))
        have g2 := t3 _ _ (upd_same (H := upd H3 T1 (.tup [.str one, .str other, .int 1])) (a := T2) (o := .tup [.str other, .str one, .int (-1)]))
        have g3 := upd_same (H := upd (upd H3 T1 (.tup [.str one, .str other, .int 1])) T2 (.tup [.str other, .str one, .int (-1)])) (a := I) (o := .lst [.ref T1, .ref T2])
        have t13 := t1.trans (t2.trans t3)
        have gD4 := t13 _ _ gD
        have nID : I ≠ D := (ne_of_none ((t1.trans t2) _ _ gD) hI).symm
        clear hI hT1 hT2 t1 t2 t3
        generalize upd (upd (upd H3 T1 (.tup [.str one, .str other, .int 1])) T2 (.tup [.str other, .str one, .int (-1)])) I (.lst [.ref T1, .ref T2]) = H4 at g1 g2 g3 t13 gD4 ⊢
        have hus4 : Paired (LineAt H4) us acc := Paired.mono (fun _ _ h => h.same t13) hus
        have he4 := t13 _ _ he3
        have neD : e ≠ D := ne_of he3 gD fun z => nomatch z
        let acs : Nat → List Nt := fun j => match j with
          | 0 => acc
          | 1 => addPart f d acc one other (sgn 1 ps)
          | _ => two f d acc (one, other, ps)
        refine ⟨I, rfl, ⟨_, .inl (.inl g3)⟩, for_list (xs := [.ref T1, .ref T2]) (fun j σ' H' => ∃ (x7 x8 x9 x10 : Option V) (us : List Addr), σ' = [some (.ref L), some (.int d), some (.int f), some (.ref D), some (.str one), some (.str other), some (.ref e), x7, x8, x9, x10, none] ∧ H' D = some (.lst (us.map V.ref)) ∧ Paired (LineAt H') us (acs j) ∧ Same H H' ∧ (acs j).length ≤ 12 + j ∧ ∀ b o, b ≠ D → H4 b = some o → H' b = some o)
          ⟨_, _, _, _, us, rfl, gD4, hus4, sm.trans t13, hacl, fun _ _ _ e => e⟩ (fun j σ' H' _ ⟨_, _, _, _, _, _, _, _, _, _, h⟩ => .inl (.inl (h _ _ nID g3))) ?_ ?_⟩
        · rintro j y σ' H5 hy ⟨x7, x8, x9, x10, us, rfl, gD5, hus5, sm5, hl5, kp5⟩
          obtain ⟨T3, g, t, s, rfl, hT3', hs, hacs⟩ : ∃ T3 g t s, y = .ref T3 ∧ H4 T3 = some (.tup [.str g, .str t, .int s]) ∧ (s = 1 ∨ s = -1) ∧ acs (j + 1) = addPart f d (acs j) g t (sgn s ps) := by
            match j, hy with
            | 0, hy => exact ⟨T1, one, other, 1, (Option.some.inj hy).symm, g1, .inl rfl, rfl⟩
            | 1, hy => exact ⟨T2, other, one, -1, (Option.some.inj hy).symm, g2, .inr rfl, rfl⟩
          have hs2 : -(2 ^ 64) < s ∧ s < 2 ^ 64 := by rcases hs with rfl | rfl <;> decide
          have nTD : T3 ≠ D := ne_of hT3' gD4 fun z => nomatch z
          have hj2 : j < 2 := (List.getElem?_eq_some_iff.mp hy).1
          rw [hacs]
          have hl6 : (addPart f d (acs j) g t (sgn s ps)).length ≤ 12 + (j + 1) := Nat.le_trans addPart_len (by omega)
          generalize acs j = ac at hus5 hl5 hl6 ⊢
          clear hacs
          have hT5 := kp5 _ _ nTD hT3'
          have he5 := kp5 _ _ neD he4
          refine ⟨T3, _, rfl, .inl (.inl hT5), rfl, _, _, rfl, _, _, rfl, _, _, rfl, rfl, ?_⟩
          -- part
          refine seq_step (fun σ' H' => ∃ q : Addr, σ' = [some (.ref L), some (.int d), some (.int f), some (.ref D), some (.str one), some (.str other), some (.ref e), some (.str g), some (.str t), some (.int s), some (.ref q), none] ∧ H5 q = none ∧ H' q = some (.dK (cD (sgn s ps))) ∧ Same H5 H') (fun R hR => ?_) (fun σ6 H6 h6 => ?_)
          · refine ⟨e, _, he5, trivial, fun od => ⟨_, rfl, e, od, rfl, .inl ⟨cD ps, upd_same, fun E0 hE => ?_⟩⟩⟩
            refine lk_counts (fun i => s * i) (fun i => decide (0 < s * i)) upd_same can.few hE (fun z i H3 R R' rd hm c1 c2 => ?_) (fun H' vs same eD hvs => ?_)
            · exact ⟨rfl, _, rfl, _, rfl, _, rfl, e, _, rfl, dget_in rd can.nd hm, _, _, rfl, rfl, .inl hs2, _, _, rfl, rfl, _, rfl, ifd (fun c => ⟨_, rfl, _, rfl, _, rfl, _, rfl, e, _, rfl, dget_in rd can.nd hm, _, _, rfl, rfl, .inl hs2, by show 2 ≤ sizeLine; decide, fun T hT => c1 (decide_eq_true c) T hT⟩) (fun c => c2 (decide_eq_false c))⟩
            · obtain ⟨f1, f2, f3, f4⟩ := lk_end he5 hE same eD hvs
              refine ⟨f1, E0, vs, cD _, rfl, .inl (.inl f3), TupsAt.cD f4, fun q hq => ?_⟩
              rw [merge_nd (mapC_nd can.nd)]
              exact hR _ _ ⟨q, rfl, Same.none f2 hq, upd_same, f2.trans (same_new hq)⟩
          obtain ⟨q, rfl, hq5, gq, s56⟩ := h6
          have gD6 := s56 _ _ gD5
          have hul := Paired.length hus5
          -- if part != {}
          refine ⟨_, rfl, fun E0 hE => ⟨q, E0, sgn s ps, [], rfl, rfl, same_new hE _ _ gq, upd_same, ?_⟩⟩
          rw [ne_nil]
          have sE := same_new (o := .dK []) hE
          have s57 := s56.trans sE
          have gD7 := sE _ _ gD6
          have gq7 := sE _ _ gq
          generalize upd H6 E0 (.dK []) = H7 at s57 gD7 gq7 ⊢
          refine ⟨_, rfl, ifb (fun hb => ?_) (fun hb => ?_)⟩
          · have hne : ¬ (sgn s ps).isEmpty = true := by
              rw [Bool.not_eq_true'] at hb
              rw [hb]
              exact Bool.false_ne_true
            refine ⟨_, rfl, .inl ⟨rfl, _, .inl (.inl gD7)⟩, _, rfl, _, rfl, _, _, rfl, .inl (.inl (.inl gD7)), _, _, rfl, rfl, _, rfl, _, rfl, _, rfl, _, rfl, by show 5 ≤ sizeLine; decide, fun T hT => ?_⟩
            have sT := same_new (o := .tup [.int (f + ((us.map V.ref).length : Nat)), .int d, .str g, .str t, .ref q]) hT
            have gD8 := sT _ _ gD7
            have nTD8 : T ≠ D := (ne_of_none gD7 hT).symm
            have nqD : q ≠ D := ne_of gq7 gD7 fun z => nomatch z
            refine ⟨D, _, _, rfl, rfl, gD8, by rw [List.length_map, hul]; exact Nat.lt_of_le_of_lt (by omega : ac.length ≤ 14) (by decide), ?_⟩
            refine ⟨_, _, _, _, us ++ [T], rfl, ?_, ?_, ?_, hl6, ?_⟩
            · rw [upd_same, List.map_append]
              rfl
            · unfold addPart
              rw [if_neg hne]
              refine .snoc (Paired.mono (fun t' m h => ?_) hus5) ⟨q, ?_, ?_⟩
              · refine ((h.same s57).same sT).keep (fun b xs eb => ?_) (fun b kvs eb => ?_)
                · rw [upd_ne (ne_of eb gD8 fun z => nomatch z)]
                  exact eb
                · rw [upd_ne (ne_of eb gD8 fun z => nomatch z)]
                  exact eb
              · rw [upd_ne nTD8, upd_same, List.length_map, hul]
              · rw [upd_ne nqD]
                exact sT _ _ gq7
            · intro b o eb
              rw [upd_ne (ne_of_none eb hD)]
              exact sT _ _ (s57 _ _ (sm5 _ _ eb))
            · intro b o nb eb
              rw [upd_ne nb]
              exact sT _ _ (s57 _ _ (kp5 b o nb eb))
          · have hne : (sgn s ps).isEmpty = true := by
              rwa [Bool.not_eq_false'] at hb
            refine ⟨_, _, _, _, us, rfl, gD7, ?_, sm5.trans s57, hl6, fun b o nb eb => s57 _ _ (kp5 b o nb eb)⟩
            unfold addPart
            rw [if_pos hne]
            exact Paired.mono (fun _ _ h => h.same s57) hus5
        · rintro σ' H5 ⟨x7, x8, x9, x10, us, rfl, gD5, hus5, sm5, _, _⟩
          exact ⟨_, _, _, _, _, _, _, us, rfl, gD5, hus5, sm5⟩
      · rintro σ' H3 ⟨x4, x5, x6, x7, x8, x9, x10, us, rfl, gD, hus, sm⟩
        rw [List.length_map, htl, List.take_length] at hus
        exact hR _ _ ⟨_, _, _, _, _, _, _, us, rfl, gD, hus, sm⟩
    obtain ⟨x4, x5, x6, x7, x8, x9, x10, us, rfl, gD, hus, sm⟩ := h2
    exact ⟨_, rfl, k H2 D us sm hD gD hus⟩
end
end Ld
namespace Ld
open PySem PySem.Spec PyProof.Rows L2
open TL
theorem fvS {p : Addr} {H : Hp} {z : Str} (h1 : z.length ≤ 100) (h2 : ∀ c ∈ tl z, c ≤ 122) : Fv p H (.str z) := .inr (.inr (.inr (.inl ⟨z, rfl, h1, h2⟩)))
theorem fvW {p : Addr} {H : Hp} {z : Str} (h : wordB z = true) : Fv p H (.str z) := fvS (Nat.le_trans (wordB_len h).2 (by decide)) (word_cps h)
theorem fvN {p : Addr} {H : Hp} : Fv p H .non := .inl rfl
theorem fvB {p : Addr} {H : Hp} {b : Bool} : Fv p H (.bl b) := .inr (.inl ⟨b, rfl⟩)
theorem fvI {p : Addr} {H : Hp} {i : Int} : Fv p H (.int i) := .inr (.inr (.inl ⟨i, rfl⟩))
theorem due_ok {n d : Int} {g t : Str} (h1 : 1 ≤ n) (hg : wordB g = true) (ht : wordB t = true) (ne : t ≠ g) : dueV (.int n) (.int d) (.str g) (.str t) true = .non := by
  unfold dueV
  have e1 : ltOne (.int n) = false := decide_eq_false (by omega)
  have e2 : wdV (.str g) = true := hg
  have e3 : wdV (.str t) = true := ht
  have e4 : decide ((V.str t) = V.str g) = false := decide_eq_false fun e => ne (V.str.inj e)
  have e5 : ∀ i : Int, isI (.int i) = true := fun _ => rfl
  rw [e1, e2, e3, e4, e5, e5]
  rfl
/-- a note of fields that fit is made -/
theorem mk_note {K : PySem.W.Frag} {C CN CT : Addr} {H : Hp} {Q : Addr → Hp → Prop} {E : XK} {n d : Int} {g t : Str} {y : Addr} {ps : List (Str × Int)} (h1 : 1 ≤ n) (hg : wordB g = true) (ht : wordB t = true) (ne : t ≠ g) (hy : LoadAt C H y ps) (hfit : (leB [] ps && !ps.isEmpty) = true)
    (k : ∀ (H' : Hp) (x : Addr), Same H H' → H x = none → NoteAt C CN H' x ⟨n, d, g, t, ps⟩ → Q x H') :
    ∀ x dx, H x = none → H dx = none → dx ≠ x → spNoteI K C CN CT [.ref x, .int n, .int d, .str g, .str t, .ref y] (upd (upd H dx (.own x)) x (.ins CN dx [])) (fun v H2 => v = .non ∧ Q x H2) E := by
  intro x dx hx hdx nx
  have s0 : Same H (upd (upd H dx (.own x)) x (.ins CN dx [])) := fun b o e => by
    rw [upd_ne (ne_of_none e hx), upd_ne (ne_of_none e hdx)]
    exact e
  refine ⟨0, x, dx, _, _, _, _, _, true, rfl, upd_same, fvI, fvI, fvW hg, fvW ht, .inl ⟨y, ps, rfl, hy.same s0, hfit.symm⟩, fun _ H' keep hx' => ⟨rfl, ?_⟩, fun z hz => ?_⟩
  · have s1 : Same H H' := fun b o e => keep b o (ne_of_none e hx) (s0 b o e)
    exact k H' x s1 hx ⟨dx, y, hx', hy.same s1⟩
  · rw [due_ok h1 hg ht ne] at hz
    cases hz
def SameL (H H' : Hp) : Prop := ∀ b o, H b = some o → (∀ xs, o ≠ .lst xs) → H' b = some o
theorem sameL_upd {H : Hp} {L : Addr} {xs ys : List V} (h : H L = some (.lst xs)) : SameL H (upd H L (.lst ys)) := fun b o e n => by
  rw [upd_ne (fun q => by subst q; rw [h] at e; exact n xs (Option.some.inj e).symm)]
  exact e
theorem LoadAt.sameL {C : Addr} {H H' : Hp} {x : Addr} {ps : List (Str × Int)} (h : LoadAt C H x ps) (s : SameL H H') : LoadAt C H' x ps := by
  obtain ⟨dx, t, h1, h2, cn⟩ := h
  exact ⟨dx, t, s _ _ h1 (fun _ z => nomatch z), s _ _ h2 (fun _ z => nomatch z), cn⟩
theorem NoteAt.sameL {C CN : Addr} {H H' : Hp} {x : Addr} {m : Nt} (h : NoteAt C CN H x m) (s : SameL H H') : NoteAt C CN H' x m := by
  obtain ⟨dx, y, h1, h2⟩ := h
  exact ⟨dx, y, s _ _ h1 (fun _ z => nomatch z), h2.sameL s⟩
theorem mapC_can {f : Int → Int} {flt : Int → Bool} {ps : List (Str × Int)} (c : Can ps) (h : ∀ i, flt i = true → f i ≠ 0) : Can (mapC f flt ps) := by
  refine ⟨mapC_nd c.nd, ?_, fun p hp => ?_, fun p hp => ?_, Nat.le_trans mapC_len c.few⟩
  · rw [mapC_keys]
    exact pw_sorted ((sorted_pw c.srt).sublist (List.filter_sublist.map _))
  · obtain ⟨i, h1, h2, h3⟩ := mapC_mem.mp hp
    rw [h3]
    exact h i h2
  · obtain ⟨i, h1, _, _⟩ := mapC_mem.mp hp
    exact c.wd (p.1, i) h1
/-! ### a walk over a list or a tuple -/
def iSeqW (K : PySem.W.Frag) (tl : TE) : TI := fun σ H R => tl σ H fun x H1 => ∃ a xs, x = .ref a ∧ (SqL K H1 a xs ∨ SqT K H1 a xs) ∧ ∀ J (G : Hp → Prop), Walk J xs.length G (YAt xs) → (∀ H, (∀ o, H1 a = some o → H a = some o) → G H) → R J H1
theorem pi_seqW {X : Cx} {tg l : Expr} {tl : TE} (hl : PE X l tl) : PI X tg l (iSeqW X.K tl) := by
  refine ⟨fun pins s σ H R I h => ?_⟩
  refine thn (hl.run pins s σ H _ I h) fun v s1 ⟨x, H1, I1, r1, q1⟩ => ?_
  obtain ⟨a, xs, e, hq, q⟩ := q1
  subst e
  cases r1
  rcases hq with hq | hq
  · have q := q (Itl X.K a) _ walk_list (fun H e => by
      rcases hq with (h | ⟨o, h⟩) | h
      · exact .inl (.inl (e _ h))
      · exact .inl (.inr ⟨o, e _ h⟩)
      · exact .inr h)
    obtain ⟨its, rv, p, hz⟩ := I1.list hq
    refine wpAny_pyIter_list p.isList ?_
    refine ⟨s1.heap.objs.size, [s1.heap.objs.size], _, _, H1, rfl, I1.kept (t' := s1.toks) fun b o e => Heap.get?_push_of_some _ e, turn_list a _, ⟨_, Heap.get?_push_size _ rfl, rfl, rfl⟩, fun b hb => ?_, q⟩
    have e : b = s1.heap.objs.size := by simpa using hb
    subst e
    exact I1.fpOk (Nat.le_refl _) (I1.hok.fresh (Nat.le_refl _))
  · have q := q (Itt X.K a) _ walk_tup (fun H e => by
      rcases hq with (h | ⟨o, h⟩) | h
      · exact .inl (.inl (e _ h))
      · exact .inl (.inr ⟨o, e _ h⟩)
      · exact .inr h)
    obtain ⟨its, rv, p, hz⟩ := I1.tuple hq
    refine wpAny_pyIter_tuple (show s1.heap.IsTuple a its.toArray from p) ?_
    refine ⟨s1.heap.objs.size, [s1.heap.objs.size], _, _, H1, rfl, I1.kept (t' := s1.toks) fun b o e => Heap.get?_push_of_some _ e, turn_tuple a _, ⟨_, Heap.get?_push_size _ rfl, rfl, rfl⟩, fun b hb => ?_, q⟩
    have e : b = s1.heap.objs.size := by simpa using hb
    subst e
    exact I1.fpOk (Nat.le_refl _) (I1.hok.fresh (Nat.le_refl _))
/-- a drive: the houses and a load -/
def DrvAt (C : Addr) (H : Hp) (t : Addr) (r : Row) : Prop := ∃ x, H t = some (.tup [.str r.1, .str r.2.1, .ref x]) ∧ LoadAt C H x r.2.2
theorem DrvAt.same {C : Addr} {H H' : Hp} {t : Addr} {r : Row} (h : DrvAt C H t r) (s : Same H H') : DrvAt C H' t r := by
  obtain ⟨x, h1, h2⟩ := h
  exact ⟨x, s _ _ h1, h2.same s⟩
theorem sgn_pos {ps p1 : List (Str × Int)} (can : Can ps) (c1 : Can p1) (h : ∀ z, ct p1 z = if decide (0 < ct ps z) = true then ct ps z else 0) : p1 = sgn 1 ps := by
  refine can_eq c1 (mapC_can can fun i hi => ?_) fun z => ?_
  · have := of_decide_eq_true hi
    omega
  · rw [h]
    unfold sgn
    rw [ct_mapC can.nd (fun _ => by decide), Int.one_mul]
theorem sgn_neg {ps p1 : List (Str × Int)} (can : Can ps) (c1 : Can p1) (h : ∀ z, ct p1 z = if decide (ct ps z < 0) = true then -ct ps z else 0) : p1 = sgn (-1) ps := by
  refine can_eq c1 (mapC_can can fun i hi => ?_) fun z => ?_
  · have := of_decide_eq_true hi
    omega
  · rw [h]
    unfold sgn
    rw [ct_mapC can.nd (fun _ => by decide), Int.neg_one_mul]
    have e : decide (ct ps z < 0) = decide (0 < -ct ps z) := by
      rw [decide_eq_decide]
      omega
    rw [e]
theorem sgn_le {s : Int} {ps : List (Str × Int)} (can : Can ps) : leB [] (sgn s ps) = true := by
  rw [leB_iff]
  intro z
  unfold sgn
  rw [ct_mapC can.nd (fun h => by simp at h), ct_out (ps := []) List.not_mem_nil]
  split
  · rename_i h
    have := of_decide_eq_true h
    omega
  · exact Int.le_refl 0
def spDn (K : PySem.W.Frag) (C CN : Addr) : Sp := fun vs H Q _ => ∃ (L : Addr) (ts : List Addr) (rows : List Row) (d f : Int), vs = [.ref L, .int d, .int f] ∧ (H L = some (.lst (ts.map V.ref)) ∨ H L = some (.tup (ts.map V.ref))) ∧ Paired (DrvAt C H) ts rows ∧ (∀ r ∈ rows, RowOk r) ∧ rows.length ≤ 7 ∧ 1 ≤ f ∧
  ∀ (H' : Hp) (M : Addr) (us : List Addr), Same H H' → H M = none → H' M = some (.lst (us.map V.ref)) → Paired (NoteAt C CN H') us (linesOf f d rows) → Q (.ref M) H'
abbrev sDn : Stmt := top 25
abbrev nDn : List Str := ["drives", "day", "number", "found", "one", "other", "load", "giver", "taker", "part"]
section
variable {P : Program} {w : World} {K : PySem.W.Frag} {mg : Str → Option Value} {base : Heap} {C CN CT fi fn : Addr} {nd0 : FuncData}
theorem scDn : FnScope nDn ["drives", "day", "number"] (defScope sDn) := ⟨rfl, rfl, rfl, by decide +kernel, rfl, by decide +kernel, by decide +kernel⟩
theorem ok_dn {f : Addr} {fd : FuncData} (F : Fun K "drive_notes" "drive_notes" sDn f fd) (B : Blt mg) (T : LoadC K mg C fi) (N : NoteC K mg CN fn) (HP : HasP P w K mg base 6 C "positive" (spMapC C (fun i => i) (fun i => decide (0 < i)))) (HG : HasP P w K mg base 6 C "negative" (spMapC C (fun i => -i) (fun i => decide (i < 0))))
    {gb : Addr} (hs : PySem.W.findIn K (.ref C) "__bool__" = some (some (.ref gb))) (hf : PySem.W.isFn K (.ref gb) = true) (FB : FnR P w K mg base CX0 1 gb (spBool C))
    (FN : FnOk P w K mg base (L2.CX P w) 6 fn nd0 nNoteI (spNoteI K C CN CT)) (bN : L2.Binds K nd0 nNoteI []) : FnOk P w K mg base CX0 8 f fd ["drives", "day", "number"] (spDn K C CN) := by
  obtain ⟨qP, gP, dP, pP, FP, bP⟩ := HP
  obtain ⟨qG, gG, dG, pG, FG, bG⟩ := HG
  refine F.ok scDn (fun vs H Q E h => ?_) (fun cdv A outer s H vs Q E hr h => ?_)
  · obtain ⟨L, ts, rows, d, f, rfl, _⟩ := h
    rfl
  · obtain ⟨L, ts, rows, d, f, rfl, gL, hrows, hok, hlen, hf1, k⟩ := h
    have hr1 : Room 1 _ := hr.mono (by decide : 1 ≤ 7)
    have hr6 : Room 6 _ := hr.mono (by decide : 6 ≤ 7)
    have nd : nDn.Nodup := scDn.nd
    refine ⟨_, pss_cons (ps_set (i := 3) nd rfl (Or.inl rfl) (pe_lst pa_nil))
      (pss_cons (ps_for PassesOwn.never rfl (pi_seqW (pv 0)) (pg_tup rfl (pgs_cons (pg_name (i := 4) nd rfl (Or.inl rfl)) (pgs_cons (pg_name (i := 5) nd rfl (Or.inl rfl)) (pgs_cons (pg_name (i := 6) nd rfl (Or.inl rfl)) pgs_nil))))
        (pss_one (ps_for PassesOwn.never rfl (pi_tup (pe_tup (pa_cons (pe_tup (pa_cons (pv 4) (pa_cons (pv 5) (pa_cons (pe_prop (pv 6) T.c pP FP hr bP .nil pass0 rfl) pa_nil)))) (pa_cons (pe_tup (pa_cons (pv 5) (pa_cons (pv 4) (pa_cons (pe_prop (pv 6) T.c pG FG hr bG .nil pass0 rfl) pa_nil)))) pa_nil)))) (pg_tup rfl (pgs_cons (pg_name (i := 7) nd rfl (Or.inl rfl)) (pgs_cons (pg_name (i := 8) nd rfl (Or.inl rfl)) (pgs_cons (pg_name (i := 9) nd rfl (Or.inl rfl)) pgs_nil))))
          (pss_one (ps_if (pt_own (pv 9) (fun _ => rfl) hs hf FB hr1 pass0) (pss_one (ps_expr (pe_bm PySem.F.plainAttrs_list PySem.F.slot_list_append PySem.F.type_list_append mt_append (pv 3) (pa_cons (pe_make N.mkC FN hr (by rfl) N.gC bN .nil (passes_call takes0 fun _ _ _ _ h => (h : False)) (pa_cons (pe_op op_add (pv 2) (pe_callB call_len_seq (by rfl) B.len PySem.boot_len (pa_cons (pv 3) pa_nil))) (pa_cons (pv 1) (pa_cons (pv 7) (pa_cons (pv 8) (pa_cons (pv 9) pa_nil)))))) pa_nil)))) pss_nil)))))
      (pss_one (ps_ret (pv 3)))), ?_⟩
    -- found
    refine seq_step (fun σ' H' => ∃ D : Addr, σ' = [some (.ref L), some (.int d), some (.int f), some (.ref D), none, none, none, none, none, none] ∧ H D = none ∧ H' = upd H D (.lst [])) (fun R hR => ?_) (fun σ1 H1 h1 => ?_)
    · exact ⟨Nat.zero_le _, fun D hD => hR _ _ ⟨D, rfl, hD, rfl⟩⟩
    obtain ⟨D, rfl, hD, e1⟩ := h1
    have s1 : Same H H1 := by rw [e1]; exact same_new hD
    have gD1 : H1 D = some (.lst []) := by rw [e1, upd_same]
    clear e1
    have htl := Paired.length hrows
    have nLD : L ≠ D := by
      rcases gL with h | h
      · exact ne_of_none h hD
      · exact ne_of_none h hD
    have hGs : ∀ {H' : Hp}, Same H H' → ∀ o, H1 L = some o → H' L = some o := fun {H'} sm o e => by
      rcases gL with h | h
      · rw [s1 _ _ h] at e
        cases e
        exact sm _ _ h
      · rw [s1 _ _ h] at e
        cases e
        exact sm _ _ h
    refine seq_step (fun σ' H' => ∃ (x4 x5 x6 x7 x8 x9 : Option V) (us : List Addr), σ' = [some (.ref L), some (.int d), some (.int f), some (.ref D), x4, x5, x6, x7, x8, x9] ∧ H' D = some (.lst (us.map V.ref)) ∧ Paired (NoteAt C CN H') us (linesOf f d rows) ∧ Same H H') (fun R hR => ?_) (fun σ2 H2 h2 => ?_)
    · refine ⟨_, rfl, L, ts.map V.ref, rfl, gL.imp (fun h => .inl (.inl (s1 _ _ h))) (fun h => .inl (.inl (s1 _ _ h))), fun J G wk hG => ?_⟩
      refine for_it wk (fun i σ' H' => ∃ (x4 x5 x6 x7 x8 x9 : Option V) (us : List Addr), σ' = [some (.ref L), some (.int d), some (.int f), some (.ref D), x4, x5, x6, x7, x8, x9] ∧ H' D = some (.lst (us.map V.ref)) ∧ Paired (NoteAt C CN H') us ((rows.take i).foldl (two f d) []) ∧ Same H H' ∧ G H')
        ⟨_, _, _, _, _, _, [], rfl, gD1, .nil, s1, hG _ fun _ e => e⟩ (fun i σ' H' _ ⟨_, _, _, _, _, _, _, _, _, _, _, h⟩ => h) ?_ ?_
      · rintro i y σ' H3 H3' hi ⟨x4, x5, x6, x7, x8, x9, us, rfl, gD, hus, sm, _⟩ ⟨rfl, hy⟩
        rw [List.getElem?_map] at hy
        obtain ⟨T0, hT, rfl⟩ := Option.map_eq_some_iff.mp hy
        have hil : i < ts.length := (List.getElem?_eq_some_iff.mp hT).1
        have hir : i < rows.length := by omega
        have hri : rows[i]? = some rows[i] := List.getElem?_eq_getElem hir
        have hro := hok _ (List.getElem_mem hir)
        have hrw : DrvAt C H T0 rows[i] := Paired.nth hrows hT hri
        have hacl : ((rows.take i).foldl (two f d) []).length ≤ 12 := by
          have := foldTwo_len (f := f) (d := d) (rows := rows.take i) (acc := [])
          rw [List.length_take] at this
          have e0 : ([] : List Nt).length = 0 := rfl
          omega
        rw [fold_take _ _ _ _ _ hri]
        generalize (rows.take i).foldl (two f d) [] = acc at hus hacl ⊢
        generalize rows[i] = row at hro hrw ⊢
        obtain ⟨one, other, ps⟩ := row
        obtain ⟨x, hTt, hx⟩ := hrw
        dsimp only at hTt hx
        have hT3 := sm _ _ hTt
        have hx3 := hx.same sm
        have can : Can ps := hro.can
        refine ⟨T0, _, rfl, .inl (.inl hT3), rfl, _, _, rfl, _, _, rfl, _, _, rfl, rfl, ?_⟩
        obtain ⟨dx, tx, hx1, _, _⟩ := id hx3
        refine ⟨_, rfl, _, rfl, _, rfl, x, dx, _, rfl, hx1, x, ps, rfl, hx3, fun H4 y1 p1 s4 hy1 hl1 hc1 => ⟨by show 3 ≤ sizeLine; decide, fun T1 hT1 => ?_⟩⟩
        have t1 := same_new (o := .tup [.str one, .str other, .ref y1]) hT1
        have s5 := s4.trans t1
        refine ⟨_, rfl, _, rfl, _, rfl, x, dx, _, rfl, s5 _ _ hx1, x, ps, rfl, hx3.same s5, fun H6 y2 p2 s6 hy2 hl2 hc2 => ⟨by show 3 ≤ sizeLine; decide, fun T2 hT2 => ⟨by show 2 ≤ sizeLine; decide, fun I hI => ?_⟩⟩⟩
        have t2 := same_new (o := .tup [.str other, .str one, .ref y2]) hT2
        have t3 := same_new (o := .tup [.ref T1, .ref T2]) hI
        have q1 : p1 = sgn 1 ps := sgn_pos can (by obtain ⟨_, _, _, _, c⟩ := hl1; exact c) hc1
        have q2 : p2 = sgn (-1) ps := sgn_neg can (by obtain ⟨_, _, _, _, c⟩ := hl2; exact c) hc2
        subst q1 q2
        have g1 := t3 _ _ (t2 _ _ (s6 _ _ (upd_same (H := H4) (a := T1) (o := .tup [.str one, .str other, .ref y1]))))
        have g2 := t3 _ _ (upd_same (H := H6) (a := T2) (o := .tup [.str other, .str one, .ref y2]))
        have g3 := upd_same (H := upd H6 T2 (.tup [.str other, .str one, .ref y2])) (a := I) (o := .tup [.ref T1, .ref T2])
        have l1 := hl1.same (t1.trans (s6.trans (t2.trans t3)))
        have l2 := hl2.same (t2.trans t3)
        have t13 := s5.trans (s6.trans (t2.trans t3))
        have gD4 := t13 _ _ gD
        have nID : I ≠ D := (ne_of_none ((s5.trans (s6.trans t2)) _ _ gD) hI).symm
        clear hI hT1 hT2 t1 t2 t3 s5 s6 s4 hl1 hl2 hy1 hy2 hc1 hc2
        generalize upd (upd H6 T2 (.tup [.str other, .str one, .ref y2])) I (.tup [.ref T1, .ref T2]) = H7 at g1 g2 g3 l1 l2 t13 gD4 ⊢
        have hus4 : Paired (NoteAt C CN H7) us acc := Paired.mono (fun _ _ h => h.same t13) hus
        let acs : Nat → List Nt := fun j => match j with
          | 0 => acc
          | 1 => addPart f d acc one other (sgn 1 ps)
          | _ => two f d acc (one, other, ps)
        refine ⟨I, rfl, ⟨_, .inl (.inl g3)⟩, for_tup (xs := [.ref T1, .ref T2]) (fun j σ' H' => ∃ (x7 x8 x9 : Option V) (us : List Addr), σ' = [some (.ref L), some (.int d), some (.int f), some (.ref D), some (.str one), some (.str other), some (.ref x), x7, x8, x9] ∧ H' D = some (.lst (us.map V.ref)) ∧ Paired (NoteAt C CN H') us (acs j) ∧ Same H H' ∧ (acs j).length ≤ 12 + j ∧ ∀ b o, b ≠ D → H7 b = some o → H' b = some o)
          ⟨_, _, _, us, rfl, gD4, hus4, sm.trans t13, hacl, fun _ _ _ e => e⟩ (fun j σ' H' _ ⟨_, _, _, _, _, _, _, _, _, h⟩ => .inl (.inl (h _ _ nID g3))) ?_ ?_⟩
        · rintro j y σ' H8 hy ⟨x7, x8, x9, us, rfl, gD5, hus5, sm5, hl5, kp5⟩
          obtain ⟨T3, g, t, s, z, rfl, hT3', hz, hwg, hwt, hne, hacs⟩ : ∃ T3 g t s z, y = .ref T3 ∧ H7 T3 = some (.tup [.str g, .str t, .ref z]) ∧ LoadAt C H7 z (sgn s ps) ∧ wordB g = true ∧ wordB t = true ∧ t ≠ g ∧ acs (j + 1) = addPart f d (acs j) g t (sgn s ps) := by
            match j, hy with
            | 0, hy => exact ⟨T1, one, other, 1, y1, (Option.some.inj hy).symm, g1, l1, hro.w1, hro.w2, hro.ne, rfl⟩
            | 1, hy => exact ⟨T2, other, one, -1, y2, (Option.some.inj hy).symm, g2, l2, hro.w2, hro.w1, hro.ne.symm, rfl⟩
          have nTD : T3 ≠ D := ne_of hT3' gD4 fun z => nomatch z
          have hj2 : j < 2 := (List.getElem?_eq_some_iff.mp hy).1
          rw [hacs]
          have hl6 : (addPart f d (acs j) g t (sgn s ps)).length ≤ 12 + (j + 1) := Nat.le_trans addPart_len (by omega)
          generalize acs j = ac at hus5 hl5 hl6 ⊢
          clear hacs
          have hT5 := kp5 _ _ nTD hT3'
          have hz5 : LoadAt C H8 z (sgn s ps) := by
            obtain ⟨dz, tz, e1, e2, c⟩ := hz
            exact ⟨dz, tz, kp5 _ _ (ne_of e1 gD4 fun z => nomatch z) e1, kp5 _ _ (ne_of e2 gD4 fun z => nomatch z) e2, c⟩
          have hul := Paired.length hus5
          refine ⟨T3, _, rfl, .inl (.inl hT5), rfl, _, _, rfl, _, _, rfl, _, _, rfl, rfl, ?_⟩
          -- if part
          obtain ⟨dz, tz, hz1, _, _⟩ := id hz5
          refine ⟨_, rfl, z, dz, _, rfl, hz1, z, sgn s ps, rfl, hz5, _, rfl, ifb (fun hb => ?_) (fun hb => ?_)⟩
          · have hne0 : ¬ (sgn s ps).isEmpty = true := by
              rw [Bool.not_eq_true'] at hb
              rw [hb]
              exact Bool.false_ne_true
            refine ⟨_, rfl, .inl ⟨rfl, _, .inl (.inl gD5)⟩, _, rfl, _, rfl, _, _, rfl, .inl (.inl (.inl gD5)), _, _, rfl, rfl, _, rfl, _, rfl, _, rfl, _, rfl, ?_⟩
            dsimp only [tNil]
            refine mk_note (by omega) hwg hwt hne hz5 (by rw [sgn_le can, hb]; rfl) (fun H9 nx s9 _ hN => ?_)
            have gD9 := s9 _ _ gD5
            refine ⟨D, _, _, rfl, rfl, gD9, by rw [List.length_map, hul]; exact Nat.lt_of_le_of_lt (by omega : ac.length ≤ 14) (by decide), ?_⟩
            have sL := sameL_upd (ys := us.map V.ref ++ [V.ref nx]) gD9
            refine ⟨_, _, _, us ++ [nx], rfl, ?_, ?_, ?_, hl6, ?_⟩
            · rw [upd_same, List.map_append]
              rfl
            · unfold addPart
              rw [if_neg hne0]
              refine .snoc (Paired.mono (fun t' m h => (h.same s9).sameL sL) hus5) ?_
              have := hN.sameL sL
              rw [List.length_map, hul] at this
              exact this
            · intro b o eb
              rw [upd_ne (ne_of_none eb hD)]
              exact s9 _ _ (sm5 _ _ eb)
            · intro b o nb eb
              rw [upd_ne nb]
              exact s9 _ _ (kp5 b o nb eb)
          · have hne0 : (sgn s ps).isEmpty = true := by
              rwa [Bool.not_eq_false'] at hb
            refine ⟨_, _, _, us, rfl, gD5, ?_, sm5, hl6, kp5⟩
            unfold addPart
            rw [if_pos hne0]
            exact hus5
        · rintro σ' H5 ⟨x7, x8, x9, us, rfl, gD5, hus5, sm5, _, _⟩
          exact ⟨_, _, _, _, _, _, us, rfl, gD5, hus5, sm5, hG _ (hGs sm5)⟩
      · rintro σ' H3 ⟨x4, x5, x6, x7, x8, x9, us, rfl, gD, hus, sm, _⟩
        rw [List.length_map, htl, List.take_length] at hus
        exact hR _ _ ⟨_, _, _, _, _, _, us, rfl, gD, hus, sm⟩
    obtain ⟨x4, x5, x6, x7, x8, x9, us, rfl, gD, hus, sm⟩ := h2
    exact ⟨_, rfl, k H2 D us sm hD gD hus⟩
end
end Ld
namespace Ld
open PySem PySem.Spec PyProof.Rows L2
open TL
/-! ### rows and lines as data, and how long their texts are -/
def dRow (r : Row) : PyData := .tuple [.str r.1, .str r.2.1, datD (cD r.2.2)]
def dLine (m : Nt) : PyData := .tuple [.int m.n, .int m.d, .str m.g, .str m.t, datD (cD m.ps)]
def DRow (H : Hp) (t : Addr) (r : Row) : Prop := ∃ e, H t = some (.tup [.str r.1, .str r.2.1, .ref e]) ∧ H e = some (.dK (cD r.2.2))
theorem RowAt.dr {p : Addr} {H : Hp} {t : Addr} {r : Row} (h : RowAt p H t r) : DRow H t r := by
  obtain ⟨e, _, h1, h2⟩ := h
  exact ⟨e, h1, h2⟩
theorem DRow.same {H H' : Hp} {t : Addr} {r : Row} (h : DRow H t r) (s : Same H H') : DRow H' t r := by
  obtain ⟨e, h1, h2⟩ := h
  exact ⟨e, s _ _ h1, s _ _ h2⟩
theorem it_rows {H : Hp} : ∀ {ts : List Addr} {rows : List Row}, Paired (DRow H) ts rows → Paired (ItR2 H) (ts.map V.ref) (rows.map dRow)
  | _, _, .nil => .nil
  | _, _, .cons h t => by
    obtain ⟨e, h1, h2⟩ := h
    exact .cons (.inr ⟨_, _, _, rfl, h1, .cons (.inl ⟨rfl, rfl⟩) (.cons (.inl ⟨rfl, rfl⟩) (.cons (.inr ⟨e, _, rfl, h2, scalar_cD _, rfl⟩) .nil)), rfl⟩) (it_rows t)
theorem it_lines {H : Hp} : ∀ {ts : List Addr} {ms : List Nt}, Paired (LineAt H) ts ms → Paired (ItR2 H) (ts.map V.ref) (ms.map dLine)
  | _, _, .nil => .nil
  | _, _, .cons h t => by
    obtain ⟨e, h1, h2⟩ := h
    exact .cons (.inr ⟨_, _, _, rfl, h1, .cons (.inl ⟨rfl, rfl⟩) (.cons (.inl ⟨rfl, rfl⟩) (.cons (.inl ⟨rfl, rfl⟩) (.cons (.inl ⟨rfl, rfl⟩) (.cons (.inr ⟨e, _, rfl, h2, scalar_cD _, rfl⟩) .nil)))), rfl⟩) (it_lines t)
/-- an item that can be shown in so many signs -/
structure Shw (b : Nat) (d : PyData) : Prop where
  ok : d.showable = true
  dp : d.depth ≤ 50
  ln : d.shown.length ≤ b
theorem shw_all {b : Nat} : ∀ {ds : List PyData}, (∀ d ∈ ds, Shw b d) → PyData.showableAll ds = true ∧ PyData.depthAll ds ≤ 50 ∧ (∀ t ∈ PyData.shownAll ds, t.length ≤ b) ∧ (PyData.shownAll ds).length = ds.length
  | [], _ => ⟨by simp only [PyData.showableAll], by simp only [PyData.depthAll]; omega, fun t h => by simp [PyData.shownAll] at h, by simp [PyData.shownAll]⟩
  | d :: r, h => by
    obtain ⟨h1, h2, h3, h4⟩ := shw_all fun x hx => h x (List.mem_cons_of_mem _ hx)
    have h0 := h d List.mem_cons_self
    refine ⟨?_, ?_, fun t ht => ?_, ?_⟩
    · simp only [PyData.showableAll, h0.ok, h1, Bool.and_self]
    · simp only [PyData.depthAll]
      exact Nat.max_le.mpr ⟨h0.dp, h2⟩
    · simp only [PyData.shownAll] at ht
      rcases List.mem_cons.mp ht with e | e
      · rw [e]
        exact h0.ln
      · exact h3 t e
    · simp only [PyData.shownAll, List.length_cons, h4]
theorem shw_list {b : Nat} {ds : List PyData} (h : ∀ d ∈ ds, Shw b d) (hb : 2 + ds.length * (b + 2) ≤ sizeLine) : (PyData.list ds).showable = true ∧ (PyData.list ds).depth ≤ 60 ∧ (PyData.list ds).shown.length ≤ sizeLine := by
  obtain ⟨h1, h2, h3, h4⟩ := shw_all h
  refine ⟨?_, ?_, ?_⟩
  · simp only [PyData.showable]
    exact h1
  · simp only [PyData.depth]
    omega
  · simp only [PyData.shown]
    have := listText_le h3
    rw [h4] at this
    exact Nat.le_trans this hb
theorem shw_row {r : Row} (hg : wordB r.1 = true) (ht : wordB r.2.1 = true) (hp : ∀ p ∈ r.2.2, wordB p.1 = true ∧ p.2.natAbs < 10 ^ 100) (few : r.2.2.length ≤ 10) : Shw 5000 (dRow r) := by
  obtain ⟨c1, c2, c3⟩ := show_ct (k := 100) (by decide) (by decide) hp
  refine ⟨?_, ?_, ?_⟩
  · simp only [dRow, PyData.showable, PyData.showableAll]
    rw [c1]
    rfl
  · simp only [dRow, PyData.depth, PyData.depthAll]
    rw [c2]
    decide
  · simp only [dRow, PyData.shown, PyData.shownAll]
    refine Nat.le_trans (tupleText_len_le _) ?_
    have w1 := word_small hg
    have w2 := word_small ht
    simp only [List.map_cons, List.map_nil, List.sum_cons, List.sum_nil, List.length_cons, List.length_nil]
    have : r.2.2.length * (100 + 87) ≤ 10 * (100 + 87) := Nat.mul_le_mul_right _ few
    omega
theorem shw_line {m : Nt} (hn : m.n.natAbs < 10 ^ 100) (hd : m.d.natAbs < 10 ^ 100) (hg : wordB m.g = true) (ht : wordB m.t = true) (hp : ∀ p ∈ m.ps, wordB p.1 = true ∧ p.2.natAbs < 10 ^ 100) (few : m.ps.length ≤ 10) : Shw 5000 (dLine m) := by
  obtain ⟨a1, a2⟩ := int_show hn (by decide) (by decide)
  obtain ⟨b1, b2⟩ := int_show hd (by decide) (by decide)
  obtain ⟨c1, c2, c3⟩ := show_ct (k := 100) (by decide) (by decide) hp
  refine ⟨?_, ?_, ?_⟩
  · simp only [dLine, PyData.showable, PyData.showableAll]
    simp only [PyData.showable] at a1 b1
    rw [a1, b1, c1]
    rfl
  · simp only [dLine, PyData.depth, PyData.depthAll]
    rw [c2]
    decide
  · simp only [dLine, PyData.shown, PyData.shownAll]
    refine Nat.le_trans (tupleText_len_le _) ?_
    have w1 := word_small hg
    have w2 := word_small ht
    simp only [PyData.shown] at a2 b2
    simp only [List.map_cons, List.map_nil, List.sum_cons, List.sum_nil, List.length_cons, List.length_nil]
    have : m.ps.length * (100 + 87) ≤ 10 * (100 + 87) := Nat.mul_le_mul_right _ few
    omega
theorem row_small {r : Row} (h : RowOk r) : ∀ p ∈ r.2.2, wordB p.1 = true ∧ p.2.natAbs < 10 ^ 100 := fun p hp => ⟨h.can.wd p hp, by
  have b : (10 : Nat) ^ 9 < 10 ^ 100 := by decide +kernel
  exact Nat.lt_of_le_of_lt (h.sm p hp) b⟩
theorem shw_rows {rows : List Row} (h : ∀ r ∈ rows, RowOk r) (hl : rows.length ≤ 7) : (PyData.list (rows.map dRow)).showable = true ∧ (PyData.list (rows.map dRow)).depth ≤ 60 ∧ (PyData.list (rows.map dRow)).shown.length ≤ sizeLine := by
  refine shw_list (b := 5000) (fun d hd => ?_) ?_
  · obtain ⟨r, hr, rfl⟩ := List.mem_map.mp hd
    have hr' := h r hr
    exact shw_row hr'.w1 hr'.w2 (row_small hr') (Nat.le_trans hr'.few (by decide))
  · rw [List.length_map]
    have hs : sizeLine = 16777216 := sizeLine_eq
    have : rows.length * (5000 + 2) ≤ 7 * (5000 + 2) := Nat.mul_le_mul_right _ hl
    omega
/-- what a told line may hold -/
structure LnOk (f d : Int) (m : Nt) : Prop where
  n0 : f ≤ m.n
  n1 : m.n ≤ f + 20
  dd : m.d = d
  g : wordB m.g = true
  t : wordB m.t = true
  ps : ∀ p ∈ m.ps, wordB p.1 = true ∧ p.2.natAbs < 10 ^ 100
  few : m.ps.length ≤ 10
theorem sgn_small {s : Int} (hs : s = 1 ∨ s = -1) {ps : List (Str × Int)} (h : ∀ p ∈ ps, wordB p.1 = true ∧ p.2.natAbs < 10 ^ 100) : ∀ p ∈ sgn s ps, wordB p.1 = true ∧ p.2.natAbs < 10 ^ 100 := fun p hp => by
  obtain ⟨i, h1, _, h3⟩ := mapC_mem.mp hp
  have h4 := h _ h1
  refine ⟨h4.1, ?_⟩
  rw [h3]
  have : (s * i).natAbs = i.natAbs := by
    rw [Int.natAbs_mul]
    rcases hs with rfl | rfl <;> simp
  rw [this]
  exact h4.2
theorem addPart_ok {f d : Int} {acc : List Nt} {g t : Str} {ps : List (Str × Int)} (h : ∀ m ∈ acc, LnOk f d m) (hl : acc.length ≤ 20) (hg : wordB g = true) (ht : wordB t = true) (hp : ∀ p ∈ ps, wordB p.1 = true ∧ p.2.natAbs < 10 ^ 100) (few : ps.length ≤ 10) : ∀ m ∈ addPart f d acc g t ps, LnOk f d m := fun m hm => by
  unfold addPart at hm
  split at hm
  · exact h m hm
  · rcases List.mem_append.mp hm with e | e
    · exact h m e
    · rw [List.mem_singleton.mp e]
      refine ⟨?_, ?_, rfl, hg, ht, hp, few⟩
      · show f ≤ f + (acc.length : Int)
        omega
      · show f + (acc.length : Int) ≤ f + 20
        omega
theorem fold_ok {f d : Int} : ∀ {rows : List Row} {acc : List Nt}, (∀ r ∈ rows, RowOk r) → (∀ m ∈ acc, LnOk f d m) → acc.length + 2 * rows.length ≤ 20 → ∀ m ∈ rows.foldl (two f d) acc, LnOk f d m
  | [], acc, _, h, _ => h
  | r :: rs, acc, hr, h, hl => by
    rw [List.length_cons] at hl
    have h0 := hr r List.mem_cons_self
    have hs := row_small h0
    have few : ∀ s, (sgn s r.2.2).length ≤ 10 := fun s => Nat.le_trans mapC_len (Nat.le_trans h0.few (by decide))
    have l1 := addPart_len (f := f) (d := d) (acc := acc) (g := r.1) (t := r.2.1) (ps := sgn 1 r.2.2)
    have a1 := addPart_ok h (by omega) h0.w1 h0.w2 (sgn_small (.inl rfl) hs) (few 1)
    have a2 := addPart_ok a1 (by omega) h0.w2 h0.w1 (sgn_small (.inr rfl) hs) (few (-1))
    have l2 := two_len (f := f) (d := d) (acc := acc) (r := r)
    exact fold_ok (rows := rs) (acc := two f d acc r) (fun x hx => hr x (List.mem_cons_of_mem _ hx)) a2 (by omega)
theorem shw_lines {rows : List Row} {f d : Int} (h : ∀ r ∈ rows, RowOk r) (hl : rows.length ≤ 7) (hf : f.natAbs ≤ 10 ^ 20) (hd : d.natAbs ≤ 10 ^ 30) : (PyData.list ((linesOf f d rows).map dLine)).showable = true ∧ (PyData.list ((linesOf f d rows).map dLine)).depth ≤ 60 ∧ (PyData.list ((linesOf f d rows).map dLine)).shown.length ≤ sizeLine := by
  have ho := fold_ok (f := f) (d := d) (acc := []) h (fun _ h => nomatch h) (by rw [List.length_nil]; omega)
  have hn := foldTwo_len (f := f) (d := d) (rows := rows) (acc := [])
  rw [List.length_nil] at hn
  have b1 : (10 : Nat) ^ 20 + 20 < 10 ^ 100 := by decide +kernel
  have b2 : (10 : Nat) ^ 30 < 10 ^ 100 := by decide +kernel
  refine shw_list (b := 5000) (fun x hx => ?_) ?_
  · obtain ⟨m, hm, rfl⟩ := List.mem_map.mp hx
    have q := ho m hm
    have q0 := q.n0
    have q1 := q.n1
    have q2 := q.dd
    exact shw_line (Nat.lt_of_le_of_lt (by omega : m.n.natAbs ≤ 10 ^ 20 + 20) b1) (Nat.lt_of_le_of_lt (by rw [q2]; exact hd) b2) q.g q.t q.ps q.few
  · rw [List.length_map]
    have hs : sizeLine = 16777216 := sizeLine_eq
    unfold linesOf
    have : (rows.foldl (two f d) []).length * (5000 + 2) ≤ 14 * (5000 + 2) := Nat.mul_le_mul_right _ (by omega)
    omega
def spRowL (C : Addr) : Sp := fun vs H Q _ => ∃ (L : Addr) (ts : List Addr) (rows : List Row), vs = [.ref L] ∧ H L = some (.lst (ts.map V.ref)) ∧ Paired (DrvAt C H) ts rows ∧ rows.length ≤ 7 ∧
  ∀ (H' : Hp) (M : Addr) (us : List Addr), Same H H' → H M = none → H' M = some (.lst (us.map V.ref)) → Paired (DRow H') us rows → Q (.ref M) H'
section
variable {P : Program} {w : World} {K : PySem.W.Frag} {mg : Str → Option Value} {base : Heap} {C fi : Addr}
abbrev nRow : List Str := ["_law_told", "_law_one", "_law_other", "_law_load"]
theorem scRowL : FnScope nRow ["_law_told"] (defScope sRowL) := ⟨rfl, rfl, rfl, by decide +kernel, rfl, by decide +kernel, by decide +kernel⟩
theorem ok_rowL {f : Addr} {fd : FuncData} (F : Fun K "_law_rows_of" "_law_rows_of" sRowL f fd) (T : LoadC K mg C fi) (HC : HasP P w K mg base 1 C "counts" (spCounts C)) : FnOk P w K mg base CX0 3 f fd ["_law_told"] (spRowL C) := by
  obtain ⟨pc, gc, dc, pC, FC, bC⟩ := HC
  refine F.ok scRowL (fun vs H Q E h => ?_) (fun cdv A outer s H vs Q E hr h => ?_)
  · obtain ⟨L, ts, rows, rfl, _⟩ := h
    rfl
  · obtain ⟨L, ts, rows, rfl, gL, hrows, hlen, k⟩ := h
    have nd : nRow.Nodup := scRowL.nd
    have hr2 : Room 2 _ := hr.mono (by decide)
    refine ⟨_, pss_one (ps_ret (pe_lc (own := [("_law_one", 1), ("_law_other", 2), ("_law_load", 3)]) (g := gTup K 3 (gCons (gName 1) (gCons (gName 2) (gCons (gName 3) gNil)))) (tt := tYes) rfl nd (pi_list (pv 0)) (blkOk_by (N := nRow) (sc := defScope sRowL) (by decide +kernel)) (fun _ _ _ _ _ => pg_tup rfl (pgs_cons (pg_name (i := 1) nd rfl (Or.inl rfl)) (pgs_cons (pg_name (i := 2) nd rfl (Or.inl rfl)) (pgs_cons (pg_name (i := 3) nd rfl (Or.inl rfl)) pgs_nil)))) (fun _ _ _ _ _ => pts_nil) (fun _ _ _ _ _ => (pe_tup (pa_cons (pv 1) (pa_cons (pv 2) (pa_cons (pe_prop (pv 3) T.c pC FC hr2 bC .nil pass0 rfl) pa_nil))))))), ?_⟩
    have htl := Paired.length hrows
    refine ⟨_, rfl, L, rfl, ⟨_, .inl (.inl gL)⟩, fun D hD => ?_⟩
    refine lc_it (walk_list (xs := ts.map V.ref)) (fun j H' => ∃ us : List Addr, Same H H' ∧ H' D = some (.lst (us.map V.ref)) ∧ Paired (DRow H') us (rows.take j))
      ⟨[], same_new hD, upd_same, .nil⟩ (fun j H' _ ⟨_, h, _⟩ => .inl (.inl (h _ _ gL))) ?_ ?_
    · rintro j x H5 H6 hj ⟨us, same, eD, hus⟩ ⟨rfl, hx⟩
      rw [List.length_map] at hj
      rw [List.getElem?_map, List.getElem?_eq_getElem hj] at hx
      obtain rfl : x = V.ref ts[j] := (Option.some.inj hx).symm
      have hjr : j < rows.length := by omega
      have hri : rows[j]? = some rows[j] := List.getElem?_eq_getElem hjr
      obtain ⟨y, h1, h2⟩ : DrvAt C H ts[j] rows[j] := Paired.nth hrows (List.getElem?_eq_getElem hj) hri
      have h3 := same _ _ h1
      have h4 := h2.same same
      obtain ⟨dy, ty, h5, _, _⟩ := id h4
      refine ⟨ts[j], _, rfl, .inl (.inl h3), rfl, _, _, rfl, _, _, rfl, _, _, rfl, rfl, rfl, _, rfl, _, rfl, _, rfl, y, dy, _, rfl, h5, y, rows[j].2.2, rfl, h4, fun E1 hE1 => ⟨by show 3 ≤ sizeLine; decide, fun T1 hT => ?_⟩⟩
      have a1 := same_new (o := .dK (cD rows[j].2.2)) hE1
      have a2 := same_new (o := .tup [.str rows[j].1, .str rows[j].2.1, .ref E1]) hT
      have a12 := a1.trans a2
      have eD6 := a12 _ _ eD
      have nTD : T1 ≠ D := (ne_of_none (a1 _ _ eD) hT).symm
      have nED : E1 ≠ D := (ne_of_none eD hE1).symm
      have nET : E1 ≠ T1 := ne_of_none (upd_same (H := H6) (a := E1) (o := .dK (cD rows[j].2.2))) hT
      refine ⟨_, eD6, ?_, us ++ [T1], ?_, ?_, ?_⟩
      · have := Paired.length hus
        rw [List.length_map, this, List.length_take]
        exact Nat.lt_of_le_of_lt (by omega : _ ≤ 7) (by decide)
      · intro b o eb
        rw [upd_ne (ne_of_none eb hD)]
        exact a12 _ _ (same _ _ eb)
      · rw [upd_same, List.map_append]
        rfl
      · rw [List.take_succ, hri]
        refine .snoc (Paired.mono (fun t r h => ?_) hus) ⟨E1, ?_, ?_⟩
        · obtain ⟨e, q1, q2⟩ := h.same a12
          exact ⟨e, by rw [upd_ne (ne_of q1 eD6 fun z => nomatch z)]; exact q1, by rw [upd_ne (ne_of q2 eD6 fun z => nomatch z)]; exact q2⟩
        · rw [upd_ne nTD, upd_same]
        · rw [upd_ne nED, upd_ne nET, upd_same]
    · rintro H5 ⟨us, same, eD, hus⟩
      rw [List.length_map, htl, List.take_length] at hus
      exact k H5 D us same hD eD hus
end
end Ld
namespace Ld
open PySem PySem.Spec PyProof.Rows L2
open TL
abbrev sLaw : Stmt := top 38
theorem if_ne {v : V} {A B : Prop} (h : B) : if (!decide (v = v)) = true then A else B := by
  rw [decide_eq_true rfl]
  exact iteF h
structure LawT (P : Program) (w : World) (K : PySem.W.Frag) (mg : Str → Option Value) (base : Heap) (C CN : Addr) : Prop where
  pen : Has P w K mg base 1 "_law_pen" ["_law_script"] (spPen K)
  draw : Has P w K mg base 1 "_law_draw" ["_law_pen_here", "_law_many"] spDraw
  pick : Has P w K mg base 2 "_law_pick" ["_law_pen_here", "_law_items"] (spPick K)
  words : Has P w K mg base 3 "_law_words" ["_law_pen_here", "_law_many"] spWords
  somed : Has P w K mg base 5 "_law_some_drives" ["_law_pen_here", "_law_kinds", "_law_houses"] spSomL
  count : Has P w K mg base 3 "_law_count" ["_law_pen_here"] spCntL
  lines : Has P w K mg base 1 "_law_lines" ["_law_rows", "_law_when", "_law_first"] spLinL
  rows : Has P w K mg base 3 "_law_rows_of" ["_law_told"] (spRowL C)
  dn : ∃ g gd gs gv, FnOk P w K mg base CX0 8 g gd ["drives", "day", "number"] (spDn K C CN) ∧ L2.Binds K gd ["drives", "day", "number"] [] ∧ KBn K gd ["drives", "day", "number"] 0 ["number", "day", "drives"] gs gv ∧ (∀ a b c : V, gv [] [a, b, c] = [c, b, a]) ∧ mg "drive_notes" = some (.ref g) ∧ PySem.W.keepIn K (.ref g) = true
def spLaw (K : PySem.W.Frag) : Sp := fun vs H Q _ => ∃ (a : Addr) (ns : List Int), vs = [.ref a] ∧ SqL K H a (ns.map V.int) ∧ ns.length ≤ 63 ∧ ∀ H', Q (.bl true) H'
theorem bTup : bootBuiltins "tuple" = some (.type "tuple") := by decide +kernel
theorem q20 : (10 : Int) ^ Int.toNat 20 = 100000000000000000000 := by decide +kernel
section
variable {P : Program} {w : World} {K : PySem.W.Frag} {mg : Str → Option Value} {base : Heap} {C CN fi fn : Addr}
abbrev nLaw : List Str := ["_law_script", "_law_pen_here", "_law_turn", "_law_kinds", "_law_houses", "_law_rows", "_law_when", "_law_first", "_law_some", "_law_due", "_law_told", "_law_lines_here", "_law_one", "_law_other", "_law_counts_here", "_law_note"]
theorem scLaw : FnScope nLaw ["_law_script"] (defScope sLaw) := ⟨rfl, rfl, rfl, by decide +kernel, rfl, by decide +kernel, by decide +kernel⟩
theorem ok_law {f : Addr} {fd : FuncData} (F : Fun K "law" "law" sLaw f fd) (B : Blt mg) (B2 : Blt2 mg) (B3 : Blt3 mg) (mTup : mg "tuple" = none) (T : LoadC K mg C fi) (S : SlX.SIsi K C) (N : NoteC K mg CN fn) (SN : SlX.SIsi K CN) (HO : HasC P w K mg base 5 C "of" (spOf C)) (HC : HasP P w K mg base 1 C "counts" (spCounts C)) (W : LawT P w K mg base C CN) : FnG P w K mg base 9 f fd ["_law_script"] (spLaw K) := by
  obtain ⟨f1, d1, G1, b1, m1, k1⟩ := W.pen
  obtain ⟨f2, d2, G2, b2, m2, k2⟩ := W.draw
  obtain ⟨f3, d3, G3, b3, m3, k3⟩ := W.pick
  obtain ⟨f4, d4, G4, b4, m4, k4⟩ := W.words
  obtain ⟨f5, d5', G5, b5, m5, k5⟩ := W.somed
  obtain ⟨f6, d6, G6, b6, m6, k6⟩ := W.count
  obtain ⟨f7, d7, G7, b7, m7, k7⟩ := W.lines
  obtain ⟨f8, d8, G8, b8, m8, k8⟩ := W.rows
  obtain ⟨f9, d9, gs9, gv9, G9, b9, kb9, hgv, m9, k9⟩ := W.dn
  obtain ⟨mc, po, go, rO, cO, FO⟩ := HO
  obtain ⟨pc, gc, dc, pC, FC, bC⟩ := HC
  refine FnG.of F scLaw (fun vs H Q E h => ?_) (fun cdv A outer s H vs Q hr hgd h => ?_)
  · obtain ⟨a, ns, rfl, _⟩ := h
    rfl
  · obtain ⟨a, ns, rfl, hS, hl, q⟩ := h
    have nd := scLaw.nd
    have hu64 := hr.units
    have hr1 : Room 1 _ := hr.mono (by decide : 1 ≤ 8)
    have hr2 : Room 2 _ := hr.mono (by decide : 2 ≤ 8)
    have hr3 : Room 3 _ := hr.mono (by decide : 3 ≤ 8)
    have hr5 : Room 5 _ := hr.mono (by decide : 5 ≤ 8)
    have hr8 : Room 8 _ := hr
    refine ⟨_, pss_cons (ps_set (i := 1) nd rfl (Or.inl rfl) (pe_call G1 hr1 (by rfl) m1 k1 b1 .nil pass0 (pa_cons (pv 0) pa_nil)))
      (pss_cons (ps_for PassesOwn.never rfl (pi_range1 (by rfl) B.range (pa_cons (pe_op op_add pe_int (pe_callB (call_min2 rfl) (by rfl) B3.min bMin (pa_cons pe_int (pa_cons (pe_callB call_len_seq (by rfl) B.len PySem.boot_len (pa_cons (pv 0) pa_nil)) pa_nil)))) pa_nil)) (pg_name (i := 2) nd rfl (Or.inl rfl))
        (pss_cons (ps_par (i := 3) (j := 4) rfl nd rfl rfl (by decide) rfl rfl (pa_cons (pe_call G4 hr3 (by rfl) m4 k4 b4 .nil pass0 (pa_cons (pv 1) (pa_cons (pe_op op_add pe_int (pe_call G2 hr1 (by rfl) m2 k2 b2 .nil pass0 (pa_cons (pv 1) (pa_cons pe_int pa_nil)))) pa_nil))) (pa_cons (pe_call G4 hr3 (by rfl) m4 k4 b4 .nil pass0 (pa_cons (pv 1) (pa_cons (pe_op op_add pe_int (pe_call G2 hr1 (by rfl) m2 k2 b2 .nil pass0 (pa_cons (pv 1) (pa_cons pe_int pa_nil)))) pa_nil))) pa_nil)) (by rfl))
        (pss_cons (ps_par (i := 5) (j := 6) rfl nd rfl rfl (by decide) rfl rfl (pa_cons (pe_call G5 hr5 (by rfl) m5 k5 b5 .nil pass0 (pa_cons (pv 1) (pa_cons (pv 3) (pa_cons (pv 4) pa_nil)))) (pa_cons (pe_call G3 hr2 (by rfl) m3 k3 b3 .nil pass0 (pa_cons (pv 1) (pa_cons (pe_lst (pa_cons pe_int (pa_cons pe_int (pa_cons (pe_un un_neg pe_int) (pa_cons (pe_call G6 hr3 (by rfl) m6 k6 b6 .nil pass0 (pa_cons (pv 1) pa_nil)) (pa_cons (pe_op op_pow pe_int pe_int) pa_nil)))))) pa_nil))) pa_nil)) (by rfl))
        (pss_cons (ps_set (i := 7) nd rfl (Or.inl rfl) (pe_call G3 hr2 (by rfl) m3 k3 b3 .nil pass0 (pa_cons (pv 1) (pa_cons (pe_lst (pa_cons pe_int (pa_cons pe_int (pa_cons pe_int (pa_cons pe_int (pa_cons pe_int (pa_cons (pe_op op_pow pe_int pe_int) (pa_cons (pe_op op_add pe_int (pe_call G2 hr1 (by rfl) m2 k2 b2 .nil pass0 (pa_cons (pv 1) (pa_cons pe_int pa_nil)))) pa_nil)))))))) pa_nil))))
        (pss_cons (ps_setLc (i := 8) (own := [("_law_one", 12), ("_law_other", 13), ("_law_counts_here", 14)]) (g := gTup K 3 (gCons (gName 12) (gCons (gName 13) (gCons (gName 14) gNil)))) (tt := tYes) rfl nd rfl rfl (sw_true rfl rfl rfl (by decide +kernel)) (pi_list (pv 5)) (blkOk_by (N := nLaw) (sc := defScope sLaw) (by decide +kernel)) (fun _ _ _ _ _ => pg_tup rfl (pgs_cons (pg_name (i := 12) nd rfl (Or.inl rfl)) (pgs_cons (pg_name (i := 13) nd rfl (Or.inl rfl)) (pgs_cons (pg_name (i := 14) nd rfl (Or.inl rfl)) pgs_nil)))) (fun _ _ _ _ _ => pts_nil) (fun _ _ _ _ _ => (pe_tup (pa_cons (pv 12) (pa_cons (pv 13) (pa_cons (ClX.pe_cmeth (pe_glob (v := .ref C) (by rfl) T.gC rfl) rO cO FO hr5 pass0 (pa_cons (pv 14) pa_nil)) pa_nil))))))
        (pss_cons (ps_set (i := 9) nd rfl (Or.inl rfl) (pe_callB (call_reprL2 hgd hu64) (by rfl) B3.repr bRepr (pa_cons (pe_call G7 hr1 (by rfl) m7 k7 b7 .nil pass0 (pa_cons (pv 5) (pa_cons (pv 6) (pa_cons (pv 7) pa_nil)))) pa_nil)))
        (pss_cons (ps_for PassesOwn.never rfl (pi_list (pe_lst (pa_cons (pe_call G9 hr8 (by rfl) m9 k9 b9 .nil pass0 (pa_cons (pv 8) (pa_cons (pv 6) (pa_cons (pv 7) pa_nil)))) (pa_cons (pe_callN0 G9 hr8 (by rfl) m9 k9 kb9 pass0 (pk_cons (pv 7) (pk_cons (pv 6) (pk_cons (pe_callTy call_tuple_of (by rfl) mTup bTup (pa_cons (pv 8) pa_nil)) pk_nil)))) pa_nil)))) (pg_name (i := 10) nd rfl (Or.inl rfl))
          (pss_cons (ps_if (PW.pt (pw_or (pt_not (pt_val (pe_callB (r := rIsi K) call_isi (by rfl) B2.isi bIsi (pa_cons (pv 10) (pa_cons (pe_bltn (v := .ty "list") (by rfl) B.list (by decide +kernel) rfl) pa_nil))))) (pw_or1 (pt_cmpR (op_neD hu64) (pe_lc (own := [("_law_note", 15)]) (g := gName 15) rfl nd (pi_list (pv 10)) (blkOk_by (N := nLaw) (sc := defScope sLaw) (by decide +kernel)) (fun _ _ _ _ _ => pg_name (i := 15) nd rfl (Or.inl rfl)) (fun _ _ _ _ _ => (pts_one (pt_not (pt_val (pe_callB (r := rIsi K) call_isi (by rfl) B2.isi bIsi (pa_cons (pv 15) (pa_cons (pe_glob (v := .ref CN) (by rfl) N.gC rfl) pa_nil))))))) (fun _ _ _ _ _ => (pv 15))) (pe_lst pa_nil) (nomark _))))) (pss_one (ps_ret pe_bl)) pss_nil)
          (pss_cons (ps_setLc (i := 11) (own := [("_law_note", 15)]) (g := gName 15) (tt := tYes) (te := tTup (tCons (tFld K (tVar 15) "number") (tCons (tFld K (tVar 15) "day") (tCons (tFld K (tVar 15) "giver") (tCons (tFld K (tVar 15) "taker") (tCons (tProp C (spCounts C) [] _ (tFld K (tVar 15) "load")) tNil)))))) rfl nd rfl rfl (sw_true rfl rfl rfl (by decide +kernel)) (pi_list (pv 10)) (blkOk_by (N := nLaw) (sc := defScope sLaw) (by decide +kernel)) (fun _ _ _ _ _ => pg_name (i := 15) nd rfl (Or.inl rfl)) (fun _ _ _ _ _ => pts_nil) (fun _ _ _ _ _ => (pe_tup (pa_cons (pe_fld (pv 15) rfl) (pa_cons (pe_fld (pv 15) rfl) (pa_cons (pe_fld (pv 15) rfl) (pa_cons (pe_fld (pv 15) rfl) (pa_cons (pe_prop (pe_fld (pv 15) rfl) T.c pC FC hr2 bC .nil pass0 rfl) pa_nil))))))))
          (pss_one (ps_if (pt_cmpR op_ne (pe_callB (call_reprL2 hgd hu64) (by rfl) B3.repr bRepr (pa_cons (pv 11) pa_nil)) (pv 9) (nomark _)) (pss_one (ps_ret pe_bl)) pss_nil)))))
        (pss_one (ps_if (pt_cmpR op_ne (pe_callB (call_reprL2 hgd hu64) (by rfl) B3.repr bRepr (pa_cons (pe_call G8 hr3 (by rfl) m8 k8 b8 .nil pass0 (pa_cons (pv 8) pa_nil)) pa_nil)) (pe_callB (call_reprL2 hgd hu64) (by rfl) B3.repr bRepr (pa_cons (pv 5) pa_nil)) (nomark _)) (pss_one (ps_ret pe_bl)) pss_nil)))))))))
      (pss_one (ps_ret pe_bl))), ?_⟩
    -- the pen
    refine seq_step (fun σ' H' => ∃ p c, σ' = [some (.ref a), some (.ref p), none, none, none, none, none, none, none, none, none, none, none, none, none, none] ∧ Same H H' ∧ PenAt H' p c ns 0 0) (fun R hR => ?_) (fun σ1 H1 h1 => ?_)
    · exact ⟨_, rfl, a, ns, rfl, hS, hl, fun p c H' same PA => hR _ _ ⟨p, c, rfl, same, PA⟩⟩
    obtain ⟨p, c, rfl, same1, PA⟩ := h1
    have hN : (5 + (if ((ns.map V.int).length : Int) < 5 then ((ns.map V.int).length : Int) else 5)).toNat ≤ 10 := by split <;> omega
    -- the turns
    refine seq_step (fun σ' H' => True) (fun R hR => ?_) (fun σ2 H2 h2 => q _)
    refine ⟨_, rfl, _, _, rfl, .inl (same1.seq hS), _, _, rfl, _, _, rfl, rfl, _, rfl, by omega, by omega, for_range (n := (5 + (if ((ns.map V.int).length : Int) < 5 then ((ns.map V.int).length : Int) else 5)).toNat)
        (fun i σ' H' => (∃ x2 x3 x4 x5 x6 x7 x8 x9 x10 x11 x12 x13 x14 x15, σ' = [some (.ref a), some (.ref p), x2, x3, x4, x5, x6, x7, x8, x9, x10, x11, x12, x13, x14, x15]) ∧ ∃ u r, PenAt H' p c ns u r ∧ u ≤ 800 * i)
        ⟨⟨_, _, _, _, _, _, _, _, _, _, _, _, _, _, rfl⟩, 0, 0, PA, by omega⟩ ?_ (fun σ' H' h => hR _ _ trivial)⟩
    clear hR PA
    rintro i σ' H' hi ⟨⟨x2, x3, x4, x5, x6, x7, x8, x9, x10, x11, x12, x13, x14, x15, rfl⟩, u, r, PA, hu0⟩
    have hi12 : i < 10 := Nat.lt_of_lt_of_le hi hN
    have hu1 : u ≤ 8000 := by omega
    -- kinds, houses
    refine seq_step (fun σ' H' => ∃ (kl hl : Addr) (ks hs : List Str) (u' r' : Int), σ' = [some (.ref a), some (.ref p), some (.int (0 + (i : Int))), some (.ref kl), some (.ref hl), x5, x6, x7, x8, x9, x10, x11, x12, x13, x14, x15] ∧ H' kl = some (.lst (ks.map V.str)) ∧ H' hl = some (.lst (hs.map V.str)) ∧ ks.length ≤ 26 ∧ ks.Nodup ∧ (∀ z ∈ ks, Wd 1 8 z) ∧ hs.length ≤ 26 ∧ 2 ≤ hs.length ∧ hs.Nodup ∧ (∀ z ∈ hs, Wd 1 8 z) ∧ u' ≤ u + 26 ∧ PenAt H' p c ns u' r') (fun R hR => ?_) (fun σ3 H3 h3 => ?_)
    · refine ⟨_, rfl, _, rfl, p, c, ns, u, r, 4, rfl, PA, by omega, by decide, by decide, fun e u1 r1 H1 e0 e1 hu1 PA1 keep1 => ?_⟩
      refine ⟨_, _, rfl, rfl, p, c, ns, u1, r1, (3 + e).toNat, ?_, PA1, by omega, by omega, fun kl ks u2 r2 H2 _ gk lk nk wk hu2 PA2 keep2 => ?_⟩
      · show [V.ref p, V.int (3 + e)] = [V.ref p, V.int (((3 + e).toNat : Nat) : Int)]
        rw [Int.toNat_of_nonneg (by omega)]
      refine ⟨_, rfl, _, rfl, p, c, ns, u2, r2, 6, rfl, PA2, by omega, by decide, by decide, fun e2 u3 r3 H3 e3 e4 hu3 PA3 keep3 => ?_⟩
      refine ⟨_, _, rfl, rfl, p, c, ns, u3, r3, (2 + e2).toNat, ?_, PA3, by omega, by omega, fun hl hs u4 r4 H4 _ gh lh nh wh hu4 PA4 keep4 => ?_⟩
      · show [V.ref p, V.int (2 + e2)] = [V.ref p, V.int (((2 + e2).toNat : Nat) : Int)]
        rw [Int.toNat_of_nonneg (by omega)]
      exact ⟨_, _, rfl, hR _ _ ⟨kl, hl, ks, hs, u4, r4, rfl, (keep3.trans keep4) _ _ gk (PA2.nl gk), gh, by omega, nk, wk, by omega, by omega, nh, wh, by omega, PA4⟩⟩
    obtain ⟨kl, hl, ks, hs, u3, r3, rfl, gK, gH, lK, nK, wK, lH, lH2, nH, wH, hu3, PA3⟩ := h3
    -- rows, when
    refine seq_step (fun σ' H' => ∃ (L : Addr) (ts : List Addr) (rows : List Row) (d u' r' : Int), σ' = [some (.ref a), some (.ref p), some (.int (0 + (i : Int))), some (.ref kl), some (.ref hl), some (.ref L), some (.int d), x7, x8, x9, x10, x11, x12, x13, x14, x15] ∧ H' L = some (.lst (ts.map V.ref)) ∧ Paired (RowAt p H') ts rows ∧ (∀ r ∈ rows, RowOk r) ∧ rows.length ≤ 7 ∧ d.natAbs ≤ 10 ^ 30 ∧ u' ≤ u + 740 ∧ PenAt H' p c ns u' r') (fun R hR => ?_) (fun σ4 H4 h4 => ?_)
    · refine ⟨_, rfl, _, rfl, _, rfl, p, c, kl, hl, ks, hs, ns, u3, r3, rfl, PA3, gK, lK, nK, wK, gH, lH, lH2, nH, wH, by omega, fun L ts rows u4 r4 H4 _ gL hrows hok hlen hu4 PA4 keep4 => ?_⟩
      refine ⟨_, rfl, _, rfl, _, rfl, p, c, ns, u4, r4, rfl, PA4, by omega, fun d u5 r5 H5 hd hu5 PA5 keep5 => ?_⟩
      refine ⟨_, _, rfl, rfl, ⟨by decide, by decide, by decide⟩, by show 5 ≤ sizeLine; decide, fun l hl => ?_⟩
      have sl := same_new (o := .lst [.int 0, .int 7, .int (-3), .int d, .int (10 ^ Int.toNat 30)]) hl
      refine ⟨p, c, .ref l, ns, u5, r5, rfl, PA5.same sl, by omega, .inl ⟨l, _, rfl, upd_same, by show 0 < 5; decide, by show 5 ≤ 100000; decide, fun v u6 r6 H6 hv hu6 PA6 keep6 => ?_⟩⟩
      obtain ⟨n, rfl, hn⟩ : ∃ n : Int, v = .int n ∧ n.natAbs ≤ 10 ^ 30 := by
        have b : (10 : Nat) ^ 9 ≤ 10 ^ 30 := by decide +kernel
        simp only [List.mem_cons, List.not_mem_nil, or_false] at hv
        rcases hv with h | h | h | h | h
        · exact ⟨_, h, by decide +kernel⟩
        · exact ⟨_, h, by decide +kernel⟩
        · exact ⟨_, h, by decide +kernel⟩
        · exact ⟨_, h, Nat.le_trans hd b⟩
        · exact ⟨_, h, by rw [q30]; decide +kernel⟩
      have kp := (keep5.trans (.of sl)).trans keep6
      exact ⟨_, _, rfl, hR _ _ ⟨L, ts, rows, n, u6, r6, rfl, kp _ _ gL (PA4.nl gL), Paired.mono (fun _ _ h => h.keepP PA4 kp) hrows, hok, hlen, hn, by omega, PA6⟩⟩
    obtain ⟨L, ts, rows, d, u4, r4, rfl, gL, hrows, hok, hlen, hd, hu4, PA4⟩ := h4
    -- first
    refine seq_step (fun σ' H' => ∃ (n u' r' : Int), σ' = [some (.ref a), some (.ref p), some (.int (0 + (i : Int))), some (.ref kl), some (.ref hl), some (.ref L), some (.int d), some (.int n), x8, x9, x10, x11, x12, x13, x14, x15] ∧ H' L = some (.lst (ts.map V.ref)) ∧ Paired (RowAt p H') ts rows ∧ 1 ≤ n ∧ n.natAbs ≤ 10 ^ 20 ∧ u' ≤ u + 745 ∧ PenAt H' p c ns u' r') (fun R hR => ?_) (fun σ5 H5 h5 => ?_)
    · refine ⟨_, rfl, _, _, rfl, rfl, ⟨by decide, by decide, by decide⟩, _, rfl, p, c, ns, u4, r4, 9999, rfl, PA4, by omega, by decide, by decide, fun e u5 r5 H5 e0 e1 hu5 PA5 keep5 => ?_⟩
      refine ⟨_, _, rfl, rfl, by show 7 ≤ sizeLine; decide, fun l hl => ?_⟩
      have sl := same_new (o := .lst [.int 1, .int 1, .int 2, .int 9, .int 98, .int (10 ^ Int.toNat 20), .int (1 + e)]) hl
      refine ⟨p, c, .ref l, ns, u5, r5, rfl, PA5.same sl, by omega, .inl ⟨l, _, rfl, upd_same, by show 0 < 7; decide, by show 7 ≤ 100000; decide, fun v u6 r6 H6 hv hu6 PA6 keep6 => ?_⟩⟩
      obtain ⟨n, rfl, hn, hn2⟩ : ∃ n : Int, v = .int n ∧ 1 ≤ n ∧ n.natAbs ≤ 10 ^ 20 := by
        simp only [List.mem_cons, List.not_mem_nil, or_false] at hv
        rcases hv with h | h | h | h | h | h | h
        · exact ⟨_, h, by decide, by decide +kernel⟩
        · exact ⟨_, h, by decide, by decide +kernel⟩
        · exact ⟨_, h, by decide, by decide +kernel⟩
        · exact ⟨_, h, by decide, by decide +kernel⟩
        · exact ⟨_, h, by decide, by decide +kernel⟩
        · exact ⟨_, h, by rw [q20]; decide, by rw [q20]; decide +kernel⟩
        · exact ⟨_, h, by omega, Nat.le_trans (by omega : (1 + e).natAbs ≤ 10000) (by decide +kernel)⟩
      have kp := (keep5.trans (.of sl)).trans keep6
      exact hR _ _ ⟨n, u6, r6, rfl, kp _ _ gL (PA4.nl gL), Paired.mono (fun _ _ h => h.keepP PA4 kp) hrows, hn, hn2, by omega, PA6⟩
    obtain ⟨n, u5, r5, rfl, gL5, hrows5, hn, hn2, hu5, PA5⟩ := h5
    clear hrows gL PA4
    have htl := Paired.length hrows5
    -- some
    refine seq_step (fun σ' H' => ∃ (M : Addr) (us : List Addr), σ' = [some (.ref a), some (.ref p), some (.int (0 + (i : Int))), some (.ref kl), some (.ref hl), some (.ref L), some (.int d), some (.int n), some (.ref M), x9, x10, x11, x12, x13, x14, x15] ∧ Same H5 H' ∧ H' M = some (.lst (us.map V.ref)) ∧ Paired (DrvAt C H') us rows) (fun R hR => ?_) (fun σ6 H6 h6 => ?_)
    · refine ⟨_, rfl, L, rfl, ⟨_, .inl (.inl gL5)⟩, fun D hD => ?_⟩
      refine lc_it (walk_list (xs := ts.map V.ref)) (fun j H' => ∃ us : List Addr, Same H5 H' ∧ H' D = some (.lst (us.map V.ref)) ∧ Paired (DrvAt C H') us (rows.take j))
        ⟨[], same_new hD, upd_same, .nil⟩ (fun j H' _ ⟨_, h, _⟩ => .inl (.inl (h _ _ gL5))) ?_ ?_
      · rintro j x H6 H7 hj ⟨us, same, eD, hus⟩ ⟨rfl, hx⟩
        rw [List.length_map] at hj
        rw [List.getElem?_map, List.getElem?_eq_getElem hj] at hx
        obtain rfl : x = V.ref ts[j] := (Option.some.inj hx).symm
        have hjr : j < rows.length := by omega
        have hri : rows[j]? = some rows[j] := List.getElem?_eq_getElem hjr
        have hro := hok _ (List.getElem_mem hjr)
        obtain ⟨e, _, h1, h2⟩ : RowAt p H5 ts[j] rows[j] := Paired.nth hrows5 (List.getElem?_eq_getElem hj) hri
        have h3 := same _ _ h1
        have h4 := same _ _ h2
        refine ⟨ts[j], _, rfl, .inl (.inl h3), rfl, _, _, rfl, _, _, rfl, _, _, rfl, rfl, rfl, _, rfl, _, rfl, rfl, _, rfl, .ref C, e, rows[j].2.2, rfl, ⟨h4, hro.can.nd, hro.can.few, hro.can.wd⟩, fun H8 x ps' s8 hx0 hL hC => ⟨by show 3 ≤ sizeLine; decide, fun T1 hT => ?_⟩⟩
        have e0 : ps' = rows[j].2.2 := by
          obtain ⟨_, _, _, _, cn⟩ := id hL
          exact can_eq cn hro.can hC
        subst e0
        have a2 := same_new (o := .tup [.str rows[j].1, .str rows[j].2.1, .ref x]) hT
        have a12 := s8.trans a2
        have eD9 := a12 _ _ eD
        have nTD : T1 ≠ D := (ne_of_none (s8 _ _ eD) hT).symm
        have sL := sameL_upd (ys := us.map V.ref ++ [V.ref T1]) eD9
        refine ⟨_, eD9, ?_, us ++ [T1], ?_, ?_, ?_⟩
        · have := Paired.length hus
          rw [List.length_map, this, List.length_take]
          exact Nat.lt_of_le_of_lt (by omega : _ ≤ 7) (by decide)
        · intro b o eb
          rw [upd_ne (ne_of_none eb hD)]
          exact a12 _ _ (same _ _ eb)
        · rw [upd_same, List.map_append]
          rfl
        · rw [List.take_succ, hri]
          refine .snoc (Paired.mono (fun t r h => ?_) hus) ⟨x, ?_, ?_⟩
          · obtain ⟨y, q1, q2⟩ := h.same a12
            exact ⟨y, sL _ _ q1 (fun _ z => nomatch z), q2.sameL sL⟩
          · rw [upd_ne nTD, upd_same]
          · exact (hL.same a2).sameL sL
      · rintro H6 ⟨us, same, eD, hus⟩
        rw [List.length_map, htl, List.take_length] at hus
        exact hR _ _ ⟨D, us, rfl, same, eD, hus⟩
    obtain ⟨M, us, rfl, s6, gM, hdrv⟩ := h6
    obtain ⟨sh1, sh2, sh3⟩ := shw_lines (f := n) (d := d) hok hlen hn2 hd
    obtain ⟨sr1, sr2, sr3⟩ := shw_rows hok hlen
    -- due
    refine seq_step (fun σ' H' => σ' = [some (.ref a), some (.ref p), some (.int (0 + (i : Int))), some (.ref kl), some (.ref hl), some (.ref L), some (.int d), some (.int n), some (.ref M), some (.str (PyData.list ((linesOf n d rows).map dLine)).shown), x10, x11, x12, x13, x14, x15] ∧ Same H6 H') (fun R hR => ?_) (fun σ7 H7 h7 => ?_)
    · refine ⟨_, rfl, _, rfl, _, rfl, p, L, ts, rows, d, n, rfl, s6 _ _ gL5, Paired.mono (fun _ _ h => h.same s6) hrows5, hok, hlen, fun H7 M2 vs s7 _ gM2 hvs => ?_⟩
      exact ⟨M2, vs.map V.ref, (linesOf n d rows).map dLine, rfl, .inl (.inl gM2), it_lines hvs, sh1, sh2, sh3, hR _ _ ⟨rfl, s7⟩⟩
    obtain ⟨rfl, s7⟩ := h7
    generalize hdue : (PyData.list ((linesOf n d rows).map dLine)).shown = due
    have s67 := s6.trans s7
    have gM7 := s7 _ _ gM
    have hdrv7 : Paired (DrvAt C H7) us rows := Paired.mono (fun _ _ h => h.same s7) hdrv
    -- the two calls
    refine seq_step (fun σ' H' => ∃ y10 y11 y15, σ' = [some (.ref a), some (.ref p), some (.int (0 + (i : Int))), some (.ref kl), some (.ref hl), some (.ref L), some (.int d), some (.int n), some (.ref M), some (.str due), y10, y11, x12, x13, x14, y15] ∧ Same H7 H') (fun R hR => ?_) (fun σ8 H8 h8 => ?_)
    · refine ⟨_, rfl, _, rfl, _, rfl, M, us, rows, d, n, rfl, .inl gM7, hdrv7, hok, hlen, hn, fun H8 M1 v1 s8 _ g1 hv1 => ?_⟩
      refine ⟨_, rfl, _, rfl, _, rfl, M, us.map V.ref, rfl, .inl ⟨.inl (.inl (s8 _ _ gM7)), fun l hl => ⟨rfl, rfl, ?_⟩⟩⟩
      rw [hgv]
      have sl := same_new (o := .tup (us.map V.ref)) hl
      have s8l := s8.trans sl
      refine ⟨l, us, rows, d, n, rfl, .inr upd_same, Paired.mono (fun _ _ h => h.same s8l) hdrv7, hok, hlen, hn, fun H9 M2 v2 s9 _ g2 hv2 => ⟨by show 2 ≤ sizeLine; decide, fun I hI => ?_⟩⟩
      have sI := same_new (o := .lst [.ref M1, .ref M2]) hI
      have s9I := s9.trans sI
      have g1' := s9I _ _ (sl _ _ g1)
      have g2' := sI _ _ g2
      have hv1' : Paired (NoteAt C CN (upd H9 I (.lst [.ref M1, .ref M2]))) v1 (linesOf n d rows) := Paired.mono (fun _ _ h => h.same (sl.trans s9I)) hv1
      have hv2' : Paired (NoteAt C CN (upd H9 I (.lst [.ref M1, .ref M2]))) v2 (linesOf n d rows) := Paired.mono (fun _ _ h => h.same sI) hv2
      have gI := upd_same (H := H9) (a := I) (o := .lst [.ref M1, .ref M2])
      have s7I := s8l.trans s9I
      clear hI sI s9I s9 sl s8l g1 g2 hv1 hv2 hl
      generalize upd H9 I (.lst [.ref M1, .ref M2]) = HA at g1' g2' hv1' hv2' gI s7I ⊢
      refine ⟨I, rfl, ⟨_, .inl (.inl gI)⟩, for_list (xs := [.ref M1, .ref M2]) (fun j σ' H' => ∃ y10 y11 y15, σ' = [some (.ref a), some (.ref p), some (.int (0 + (i : Int))), some (.ref kl), some (.ref hl), some (.ref L), some (.int d), some (.int n), some (.ref M), some (.str due), y10, y11, x12, x13, x14, y15] ∧ Same HA H')
        ⟨_, _, _, rfl, fun _ _ e => e⟩ (fun j σ' H' _ ⟨_, _, _, _, h⟩ => .inl (.inl (h _ _ gI))) ?_ ?_⟩
      · rintro j y σ' HB hy ⟨y10, y11, y15, rfl, sB⟩
        obtain ⟨M3, v3, rfl, g3, hv3⟩ : ∃ M3 v3, y = .ref M3 ∧ HA M3 = some (.lst (v3.map V.ref)) ∧ Paired (NoteAt C CN HA) v3 (linesOf n d rows) := by
          match j, hy with
          | 0, hy => exact ⟨M1, v1, (Option.some.inj hy).symm, g1', hv1'⟩
          | 1, hy => exact ⟨M2, v2, (Option.some.inj hy).symm, g2', hv2'⟩
        have g4 := sB _ _ g3
        have hv4 : Paired (NoteAt C CN HB) v3 (linesOf n d rows) := Paired.mono (fun _ _ h => h.same sB) hv3
        have hvl := Paired.length hv4
        have hll : (linesOf n d rows).length ≤ 14 := by
          have := foldTwo_len (f := n) (d := d) (rows := rows) (acc := [])
          have e0 : ([] : List Nt).length = 0 := rfl
          unfold linesOf
          omega
        -- isinstance(told, list), all of it notes
        refine seq_step (fun σ' H' => ∃ z15, σ' = [some (.ref a), some (.ref p), some (.int (0 + (i : Int))), some (.ref kl), some (.ref hl), some (.ref L), some (.int d), some (.int n), some (.ref M), some (.str due), some (.ref M3), y11, x12, x13, x14, z15] ∧ Same HB H') (fun R2 hR2 => ?_) (fun σ9 H9 h9 => ?_)
        · refine ⟨_, rfl, .ref M3, _, _, _, true, rfl, .ty _, .base (.lst g4), kit_ty (by decide +kernel), true, rfl, iteF ?_⟩
          refine ⟨_, rfl, M3, rfl, ⟨_, .inl (.inl g4)⟩, fun D hD => ?_⟩
          refine lc_it (walk_list (xs := v3.map V.ref)) (fun j H' => Same HB H' ∧ H' D = some (.lst []))
            ⟨same_new hD, upd_same⟩ (fun j H' _ ⟨h, _⟩ => .inl (.inl (h _ _ g4))) ?_ ?_
          · rintro j x H9 HC hj ⟨same, eD⟩ ⟨rfl, hx⟩
            rw [List.length_map] at hj
            rw [List.getElem?_map, List.getElem?_eq_getElem hj] at hx
            obtain rfl : x = V.ref v3[j] := (Option.some.inj hx).symm
            have hN : NoteAt C CN HB v3[j] ((linesOf n d rows)[j]'(by omega)) := Paired.nth hv4 (List.getElem?_eq_getElem hj) (List.getElem?_eq_getElem (by omega))
            have hN2 := hN.same same
            exact ⟨rfl, _, rfl, .ref v3[j], _, _, _, true, rfl, .own CN, hN2.ty N.c SN, kit_self, true, rfl, iteF ⟨same, eD⟩⟩
          · rintro H9 ⟨same, eD⟩
            refine ⟨Nat.zero_le _, fun q0 hq0 => ?_⟩
            have s0 := same_new (o := .lst []) hq0
            refine ⟨.list [], .list [], .lst (.inl (.inl (s0 _ _ eD))) .nil, .lst (.inl (.inl upd_same)) .nil, strs_shaped (zs := []) (fun _ h => nomatch h), strs_shaped (zs := []) (fun _ h => nomatch h), _, rfl, ?_⟩
            have e0 : (!PyData.eqv (.list []) (.list [])) = false := by decide +kernel
            rw [e0]
            exact iteF (hR2 _ _ ⟨_, rfl, same.trans s0⟩)
        obtain ⟨z15, rfl, s9⟩ := h9
        -- lines_here
        refine seq_step (fun σ' H' => ∃ (E1 : Addr) (ws : List Addr) (z15 : Option V), σ' = [some (.ref a), some (.ref p), some (.int (0 + (i : Int))), some (.ref kl), some (.ref hl), some (.ref L), some (.int d), some (.int n), some (.ref M), some (.str due), some (.ref M3), some (.ref E1), x12, x13, x14, z15] ∧ Same H9 H' ∧ H' E1 = some (.lst (ws.map V.ref)) ∧ Paired (LineAt H') ws (linesOf n d rows)) (fun R2 hR2 => ?_) (fun σC HC hC => ?_)
        · have g5 := s9 _ _ g4
          refine ⟨_, rfl, M3, rfl, ⟨_, .inl (.inl g5)⟩, fun D hD => ?_⟩
          refine lc_it (walk_list (xs := v3.map V.ref)) (fun j H' => ∃ ws : List Addr, Same H9 H' ∧ H' D = some (.lst (ws.map V.ref)) ∧ Paired (LineAt H') ws ((linesOf n d rows).take j))
            ⟨[], same_new hD, upd_same, .nil⟩ (fun j H' _ ⟨_, h, _⟩ => .inl (.inl (h _ _ g5))) ?_ ?_
          · rintro j x HD HC hj ⟨ws, same, eD, hws⟩ ⟨rfl, hx⟩
            rw [List.length_map] at hj
            rw [List.getElem?_map, List.getElem?_eq_getElem hj] at hx
            obtain rfl : x = V.ref v3[j] := (Option.some.inj hx).symm
            have hjr : j < (linesOf n d rows).length := by omega
            have hri : (linesOf n d rows)[j]? = some (linesOf n d rows)[j] := List.getElem?_eq_getElem hjr
            have hN : NoteAt C CN HB v3[j] (linesOf n d rows)[j] := Paired.nth hv4 (List.getElem?_eq_getElem hj) hri
            obtain ⟨dx, y, hx1, hL⟩ := (hN.same s9).same same
            obtain ⟨dy, ty, hy1, _, _⟩ := id hL
            rw [List.take_succ, hri]
            generalize (linesOf n d rows)[j] = m at hx1 hL ⊢
            refine ⟨rfl, _, rfl, v3[j], CN, dx, _, _, rfl, hx1, N.c, N.n0, rfl, _, rfl, v3[j], CN, dx, _, _, rfl, hx1, N.c, N.n1, rfl, _, rfl, v3[j], CN, dx, _, _, rfl, hx1, N.c, N.n2, rfl, _, rfl, v3[j], CN, dx, _, _, rfl, hx1, N.c, N.n3, rfl, _, rfl, v3[j], CN, dx, _, _, rfl, hx1, N.c, N.n4, rfl, y, dy, _, rfl, hy1, y, m.ps, rfl, hL, fun E1 hE1 => ⟨by show 5 ≤ sizeLine; decide, fun T1 hT => ?_⟩⟩
            have a1 := same_new (o := .dK (cD m.ps)) hE1
            have a2 := same_new (o := .tup [.int m.n, .int m.d, .str m.g, .str m.t, .ref E1]) hT
            have a12 := a1.trans a2
            have eD6 := a12 _ _ eD
            have nTD : T1 ≠ D := (ne_of_none (a1 _ _ eD) hT).symm
            have nED : E1 ≠ D := (ne_of_none eD hE1).symm
            have gE1 := a2 _ _ (upd_same (H := HC) (a := E1) (o := .dK (cD m.ps)))
            have sL := sameL_upd (ys := ws.map V.ref ++ [V.ref T1]) eD6
            refine ⟨_, eD6, ?_, ws ++ [T1], ?_, ?_, ?_⟩
            · have := Paired.length hws
              rw [List.length_map, this, List.length_take]
              exact Nat.lt_of_le_of_lt (by omega : _ ≤ 14) (by decide)
            · intro b o eb
              rw [upd_ne (ne_of_none eb hD)]
              exact a12 _ _ (same _ _ eb)
            · rw [upd_same, List.map_append]
              rfl
            · refine .snoc (Paired.mono (fun t m h => ?_) hws) ⟨E1, ?_, ?_⟩
              · obtain ⟨e, q1, q2⟩ := h.same a12
                exact ⟨e, sL _ _ q1 (fun _ z => nomatch z), sL _ _ q2 (fun _ z => nomatch z)⟩
              · rw [upd_ne nTD, upd_same]
              · exact sL _ _ gE1 (fun _ z => nomatch z)
          · rintro HD ⟨ws, same, eD, hws⟩
            rw [List.length_map, hvl, List.take_length] at hws
            exact hR2 _ _ ⟨D, ws, _, rfl, same, eD, hws⟩
        obtain ⟨E1, ws, z15, rfl, sC, gE1, hws⟩ := hC
        -- repr(lines_here) != due
        refine ⟨_, rfl, E1, ws.map V.ref, (linesOf n d rows).map dLine, rfl, .inl (.inl gE1), it_lines hws, sh1, sh2, sh3, ?_⟩
        rw [hdue]
        exact ⟨_, rfl, rfl, _, rfl, if_ne ⟨_, _, _, rfl, sB.trans (s9.trans sC)⟩⟩
      · rintro σ' HB ⟨y10, y11, y15, rfl, sB⟩
        exact hR _ _ ⟨_, _, _, rfl, s7I.trans sB⟩
    obtain ⟨y10, y11, y15, rfl, s8⟩ := h8
    -- the drives stay
    refine ⟨_, rfl, M, us, rows, rfl, s8 _ _ gM7, Paired.mono (fun _ _ h => h.same s8) hdrv7, hlen, fun H9 M2 vs s9 _ g2 hvs => ?_⟩
    refine ⟨M2, vs.map V.ref, rows.map dRow, rfl, .inl (.inl g2), it_rows hvs, sr1, sr2, sr3, ?_⟩
    have s59 := s67.trans (s8.trans s9)
    have hrr : Paired (DRow H9) ts rows := Paired.mono (fun _ _ h => h.dr.same s59) hrows5
    refine ⟨_, rfl, L, ts.map V.ref, rows.map dRow, rfl, .inl (.inl (s59 _ _ gL5)), it_rows hrr, sr1, sr2, sr3, ?_⟩
    generalize (PyData.list (rows.map dRow)).shown = zz
    exact ⟨rfl, _, rfl, if_ne ⟨⟨_, _, _, _, _, _, _, _, _, _, _, _, _, _, rfl⟩, u5, r5, PA5.same s59, by omega⟩⟩
end
def rot3 {α : Type} (_ ws : List α) : List α := match ws with
  | [a, b, c] => [c, b, a]
  | _ => []
theorem kb_dn {K : PySem.W.Frag} {f : Addr} {fd : FuncData} (F : Fun K "drive_notes" "drive_notes" sDn f fd) : KBn K fd ["drives", "day", "number"] 0 ["number", "day", "drives"] rot3 rot3 := by
  obtain ⟨oc, od, kV, doc, pm, an, cdv, ct, osl, rfl, lk, hcd⟩ := F.ex
  refine ⟨fun s us ws X l1 l2 => ?_, fun {vs us zs ws} r1 r2 => ?_⟩
  · match us, l1, ws, l2 with
    | [], _, [a, b, c], _ => exact .of_eq rfl
  · match zs, ws, r2 with
    | [], _, .nil => exact .nil
    | [_], _, .cons _ .nil => exact .nil
    | [_, _], _, .cons _ (.cons _ .nil) => exact .nil
    | [_, _, _], _, .cons h1 (.cons h2 (.cons h3 .nil)) => exact .cons h3 (.cons h2 (.cons h1 .nil))
    | _ :: _ :: _ :: _ :: _, _, .cons _ (.cons _ (.cons _ (.cons _ _))) => exact .nil
end Ld
namespace Ld
open PySem PySem.Spec PyProof.Rows L2
theorem fin_mk {l : PySem.W.OpenLaw} {w : World} {K : PySem.W.Frag} {h : Heap} {mg : Str → Option Value} {fa : Addr} (X : K.In h) (G : h.Ns mainGlobals mg) (hfa : mg "law" = some (.ref fa))
    {g2 g3 g4 g15 g16 g21 g25 g27 g28 g29 g30 g31 g32 g33 g34 g35 g36 g37 g38 C gm0 q_m1 gm1 q_m4 gm4 q_m6 gm6 q_m7 gm7 gm9 gm13 gm20 gm22 CN gn0 CT gx9 : Addr} {od2 an2 od3 an3 od4 an4 od15 an15 od16 an16 od21 an21 od25 an25 od27 an27 od28 an28 od29 an29 od30 an30 od31 an31 od32 an32 od33 an33 od34 an34 od35 an35 od36 an36 od37 an37 od38 an38 odm0 anm0 odm1 anm1 odm4 anm4 odm6 anm6 odm7 anm7 odm9 anm9 odm13 anm13 odm20 anm20 odm22 anm22 odn0 ann0 odx9 anx9 : Option Addr} {sl2 sl3 sl4 sl15 sl16 sl21 sl25 sl27 sl28 sl29 sl30 sl31 sl32 sl33 sl34 sl35 sl36 sl37 sl38 slm0 slm1 slm4 slm6 slm7 slm9 slm13 slm20 slm22 sln0 slx9 : Array (Option Value)} {oc2 kV2 dc2 pm2 cd2 ct2 oc3 kV3 dc3 pm3 cd3 ct3 oc4 kV4 dc4 pm4 cd4 ct4 oc15 kV15 dc15 pm15 cd15 ct15 oc16 kV16 dc16 pm16 cd16 ct16 oc21 kV21 dc21 pm21 cd21 ct21 oc25 kV25 dc25 pm25 cd25 ct25 oc27 kV27 dc27 pm27 cd27 ct27 oc28 kV28 dc28 pm28 cd28 ct28 oc29 kV29 dc29 pm29 cd29 ct29 oc30 kV30 dc30 pm30 cd30 ct30 oc31 kV31 dc31 pm31 cd31 ct31 oc32 kV32 dc32 pm32 cd32 ct32 oc33 kV33 dc33 pm33 cd33 ct33 oc34 kV34 dc34 pm34 cd34 ct34 oc35 kV35 dc35 pm35 cd35 ct35 oc36 kV36 dc36 pm36 cd36 ct36 oc37 kV37 dc37 pm37 cd37 ct37 oc38 kV38 dc38 pm38 cd38 ct38 ocm0 kVm0 dcm0 pmm0 cdm0 ctm0 ocm1 kVm1 dcm1 pmm1 cdm1 ctm1 ocm4 kVm4 dcm4 pmm4 cdm4 ctm4 ocm6 kVm6 dcm6 pmm6 cdm6 ctm6 ocm7 kVm7 dcm7 pmm7 cdm7 ctm7 ocm9 kVm9 dcm9 pmm9 cdm9 ctm9 ocm13 kVm13 dcm13 pmm13 cdm13 ctm13 ocm20 kVm20 dcm20 pmm20 cdm20 ctm20 ocm22 kVm22 dcm22 pmm22 cdm22 ctm22 ocn0 kVn0 dcn0 pmn0 cdn0 ctn0 ocx9 kVx9 dcx9 pmx9 cdx9 ctx9 : Value} {tM : Tok} {nmT qT : Str} {NT : Addr} {bsT snL : List Value} {snT : List Str} {abT : Bool} {coT : Option Bool} {ddT : Option Addr} {k0T k1T k2T k3T k5T : Option Value} {rm1 rm4 rm6 rm7 : List Value}
    (a2 : PySem.W.nsIn K mainGlobals "is_integer" = some (some (.ref g2)))
    (l2 : K.lookup g2 = some ⟨oc2, od2, .func (PySem.W.fnOf "is_integer" "is_integer" (defArgs (top 2)) (defBody (top 2)) (defScope (top 2)) .none kV2 dc2 pm2 an2 cd2 ct2), sl2⟩)
    (c2 : PySem.W.codeIn K cd2 "is_integer" = true)
    (k2 : PySem.W.keepIn K (.ref g2) = true)
    (a3 : PySem.W.nsIn K mainGlobals "is_word" = some (some (.ref g3)))
    (l3 : K.lookup g3 = some ⟨oc3, od3, .func (PySem.W.fnOf "is_word" "is_word" (defArgs (top 3)) (defBody (top 3)) (defScope (top 3)) .none kV3 dc3 pm3 an3 cd3 ct3), sl3⟩)
    (c3 : PySem.W.codeIn K cd3 "is_word" = true)
    (k3 : PySem.W.keepIn K (.ref g3) = true)
    (a4 : PySem.W.nsIn K mainGlobals "ascending" = some (some (.ref g4)))
    (l4 : K.lookup g4 = some ⟨oc4, od4, .func (PySem.W.fnOf "ascending" "ascending" (defArgs (top 4)) (defBody (top 4)) (defScope (top 4)) .none kV4 dc4 pm4 an4 cd4 ct4), sl4⟩)
    (c4 : PySem.W.codeIn K cd4 "ascending" = true)
    (k4 : PySem.W.keepIn K (.ref g4) = true)
    (a15 : PySem.W.nsIn K mainGlobals "check_counts" = some (some (.ref g15)))
    (l15 : K.lookup g15 = some ⟨oc15, od15, .func (PySem.W.fnOf "check_counts" "check_counts" (defArgs (top 15)) (defBody (top 15)) (defScope (top 15)) .none kV15 dc15 pm15 an15 cd15 ct15), sl15⟩)
    (c15 : PySem.W.codeIn K cd15 "check_counts" = true)
    (k15 : PySem.W.keepIn K (.ref g15) = true)
    (a16 : PySem.W.nsIn K mainGlobals "tidy_counts" = some (some (.ref g16)))
    (l16 : K.lookup g16 = some ⟨oc16, od16, .func (PySem.W.fnOf "tidy_counts" "tidy_counts" (defArgs (top 16)) (defBody (top 16)) (defScope (top 16)) .none kV16 dc16 pm16 an16 cd16 ct16), sl16⟩)
    (c16 : PySem.W.codeIn K cd16 "tidy_counts" = true)
    (k16 : PySem.W.keepIn K (.ref g16) = true)
    (a21 : PySem.W.nsIn K mainGlobals "is_stock" = some (some (.ref g21)))
    (l21 : K.lookup g21 = some ⟨oc21, od21, .func (PySem.W.fnOf "is_stock" "is_stock" (defArgs (top 21)) (defBody (top 21)) (defScope (top 21)) .none kV21 dc21 pm21 an21 cd21 ct21), sl21⟩)
    (c21 : PySem.W.codeIn K cd21 "is_stock" = true)
    (k21 : PySem.W.keepIn K (.ref g21) = true)
    (a25 : PySem.W.nsIn K mainGlobals "drive_notes" = some (some (.ref g25)))
    (l25 : K.lookup g25 = some ⟨oc25, od25, .func (PySem.W.fnOf "drive_notes" "drive_notes" (defArgs (top 25)) (defBody (top 25)) (defScope (top 25)) .none kV25 dc25 pm25 an25 cd25 ct25), sl25⟩)
    (c25 : PySem.W.codeIn K cd25 "drive_notes" = true)
    (k25 : PySem.W.keepIn K (.ref g25) = true)
    (a27 : PySem.W.nsIn K mainGlobals "_law_pen" = some (some (.ref g27)))
    (l27 : K.lookup g27 = some ⟨oc27, od27, .func (PySem.W.fnOf "_law_pen" "_law_pen" (defArgs (top 27)) (defBody (top 27)) (defScope (top 27)) .none kV27 dc27 pm27 an27 cd27 ct27), sl27⟩)
    (c27 : PySem.W.codeIn K cd27 "_law_pen" = true)
    (k27 : PySem.W.keepIn K (.ref g27) = true)
    (a28 : PySem.W.nsIn K mainGlobals "_law_draw" = some (some (.ref g28)))
    (l28 : K.lookup g28 = some ⟨oc28, od28, .func (PySem.W.fnOf "_law_draw" "_law_draw" (defArgs (top 28)) (defBody (top 28)) (defScope (top 28)) .none kV28 dc28 pm28 an28 cd28 ct28), sl28⟩)
    (c28 : PySem.W.codeIn K cd28 "_law_draw" = true)
    (k28 : PySem.W.keepIn K (.ref g28) = true)
    (a29 : PySem.W.nsIn K mainGlobals "_law_pick" = some (some (.ref g29)))
    (l29 : K.lookup g29 = some ⟨oc29, od29, .func (PySem.W.fnOf "_law_pick" "_law_pick" (defArgs (top 29)) (defBody (top 29)) (defScope (top 29)) .none kV29 dc29 pm29 an29 cd29 ct29), sl29⟩)
    (c29 : PySem.W.codeIn K cd29 "_law_pick" = true)
    (k29 : PySem.W.keepIn K (.ref g29) = true)
    (a30 : PySem.W.nsIn K mainGlobals "_law_shuffled" = some (some (.ref g30)))
    (l30 : K.lookup g30 = some ⟨oc30, od30, .func (PySem.W.fnOf "_law_shuffled" "_law_shuffled" (defArgs (top 30)) (defBody (top 30)) (defScope (top 30)) .none kV30 dc30 pm30 an30 cd30 ct30), sl30⟩)
    (c30 : PySem.W.codeIn K cd30 "_law_shuffled" = true)
    (k30 : PySem.W.keepIn K (.ref g30) = true)
    (a31 : PySem.W.nsIn K mainGlobals "_law_words" = some (some (.ref g31)))
    (l31 : K.lookup g31 = some ⟨oc31, od31, .func (PySem.W.fnOf "_law_words" "_law_words" (defArgs (top 31)) (defBody (top 31)) (defScope (top 31)) .none kV31 dc31 pm31 an31 cd31 ct31), sl31⟩)
    (c31 : PySem.W.codeIn K cd31 "_law_words" = true)
    (k31 : PySem.W.keepIn K (.ref g31) = true)
    (a32 : PySem.W.nsIn K mainGlobals "_law_count" = some (some (.ref g32)))
    (l32 : K.lookup g32 = some ⟨oc32, od32, .func (PySem.W.fnOf "_law_count" "_law_count" (defArgs (top 32)) (defBody (top 32)) (defScope (top 32)) .none kV32 dc32 pm32 an32 cd32 ct32), sl32⟩)
    (c32 : PySem.W.codeIn K cd32 "_law_count" = true)
    (k32 : PySem.W.keepIn K (.ref g32) = true)
    (a33 : PySem.W.nsIn K mainGlobals "_law_counts" = some (some (.ref g33)))
    (l33 : K.lookup g33 = some ⟨oc33, od33, .func (PySem.W.fnOf "_law_counts" "_law_counts" (defArgs (top 33)) (defBody (top 33)) (defScope (top 33)) .none kV33 dc33 pm33 an33 cd33 ct33), sl33⟩)
    (c33 : PySem.W.codeIn K cd33 "_law_counts" = true)
    (k33 : PySem.W.keepIn K (.ref g33) = true)
    (a34 : PySem.W.nsIn K mainGlobals "_law_clean" = some (some (.ref g34)))
    (l34 : K.lookup g34 = some ⟨oc34, od34, .func (PySem.W.fnOf "_law_clean" "_law_clean" (defArgs (top 34)) (defBody (top 34)) (defScope (top 34)) .none kV34 dc34 pm34 an34 cd34 ct34), sl34⟩)
    (c34 : PySem.W.codeIn K cd34 "_law_clean" = true)
    (k34 : PySem.W.keepIn K (.ref g34) = true)
    (a35 : PySem.W.nsIn K mainGlobals "_law_rows_of" = some (some (.ref g35)))
    (l35 : K.lookup g35 = some ⟨oc35, od35, .func (PySem.W.fnOf "_law_rows_of" "_law_rows_of" (defArgs (top 35)) (defBody (top 35)) (defScope (top 35)) .none kV35 dc35 pm35 an35 cd35 ct35), sl35⟩)
    (c35 : PySem.W.codeIn K cd35 "_law_rows_of" = true)
    (k35 : PySem.W.keepIn K (.ref g35) = true)
    (a36 : PySem.W.nsIn K mainGlobals "_law_some_drives" = some (some (.ref g36)))
    (l36 : K.lookup g36 = some ⟨oc36, od36, .func (PySem.W.fnOf "_law_some_drives" "_law_some_drives" (defArgs (top 36)) (defBody (top 36)) (defScope (top 36)) .none kV36 dc36 pm36 an36 cd36 ct36), sl36⟩)
    (c36 : PySem.W.codeIn K cd36 "_law_some_drives" = true)
    (k36 : PySem.W.keepIn K (.ref g36) = true)
    (a37 : PySem.W.nsIn K mainGlobals "_law_lines" = some (some (.ref g37)))
    (l37 : K.lookup g37 = some ⟨oc37, od37, .func (PySem.W.fnOf "_law_lines" "_law_lines" (defArgs (top 37)) (defBody (top 37)) (defScope (top 37)) .none kV37 dc37 pm37 an37 cd37 ct37), sl37⟩)
    (c37 : PySem.W.codeIn K cd37 "_law_lines" = true)
    (k37 : PySem.W.keepIn K (.ref g37) = true)
    (a38 : PySem.W.nsIn K mainGlobals "law" = some (some (.ref g38)))
    (l38 : K.lookup g38 = some ⟨oc38, od38, .func (PySem.W.fnOf "law" "law" (defArgs (top 38)) (defBody (top 38)) (defScope (top 38)) .none kV38 dc38 pm38 an38 cd38 ct38), sl38⟩)
    (c38 : PySem.W.codeIn K cd38 "law" = true)
    (k38 : PySem.W.keepIn K (.ref g38) = true)
    (z_int : PySem.W.nsIn K mainGlobals "int" = some none)
    (z_abs : PySem.W.nsIn K mainGlobals "abs" = some none)
    (z_list : PySem.W.nsIn K mainGlobals "list" = some none)
    (z_len : PySem.W.nsIn K mainGlobals "len" = some none)
    (z_range : PySem.W.nsIn K mainGlobals "range" = some none)
    (z_str : PySem.W.nsIn K mainGlobals "str" = some none)
    (z_bool : PySem.W.nsIn K mainGlobals "bool" = some none)
    (z_sorted : PySem.W.nsIn K mainGlobals "sorted" = some none)
    (z_isinstance : PySem.W.nsIn K mainGlobals "isinstance" = some none)
    (z_all : PySem.W.nsIn K mainGlobals "all" = some none)
    (z_dict : PySem.W.nsIn K mainGlobals "dict" = some none)
    (z_min : PySem.W.nsIn K mainGlobals "min" = some none)
    (z_max : PySem.W.nsIn K mainGlobals "max" = some none)
    (z_repr : PySem.W.nsIn K mainGlobals "repr" = some none)
    (z_set : PySem.W.nsIn K mainGlobals "set" = some none)
    (z_tuple : PySem.W.nsIn K mainGlobals "tuple" = some none)
    (z_ValueError : PySem.W.nsIn K mainGlobals "ValueError" = some none)
    (aC : PySem.W.nsIn K mainGlobals "Load" = some (some (.ref C)))
    (pgC : PySem.W.plainGet K C Str.empty = true)
    (hdC : PySem.W.hasDictIn K C = true)
    (poC : PySem.W.plainOver K C = true)
    (saC : PySem.W.findIn K (.ref C) "__setattr__" = some (some (.builtin "object.__setattr__")))
    (ncC : PySem.W.findIn K (.ref C) "_counts" = some none)
    (mkC : PySem.W.makesIn K C = true)
    (kpC : PySem.W.keepIn K (.ref C) = true)
    (caC : PySem.W.findIn K (.ref C) "__class__" = some (some (.builtin "object.__class__")))
    (cnC : PySem.W.specialIn K (.builtin "object.__class__") "__get__" = some (some (.builtin "getset_descriptor.__get__")))
    (ctC : PySem.W.takesIn K (.builtin "object.__class__") = some true)
    (cmC : PySem.W.mroIn K C (.type "object") = some true)
    (neC : PySem.W.findIn K (.ref C) "__ne__" = some (some (.builtin "object.__ne__")))
    (icC : PySem.W.isClsIn K C = true)
    (tyC : PySem.W.typeIn K (.ref C) = some (.type "type"))
    (rdC : PySem.W.readsIn K C (.type "type") = true)
    (gaC : PySem.W.specialIn K (.ref C) "__getattribute__" = some (some (.builtin "type.__getattribute__")))
    (am0 : PySem.W.findIn K (.ref C) "__init__" = some (some (.ref gm0)))
    (lm0 : K.lookup gm0 = some ⟨ocm0, odm0, .func (PySem.W.fnOf "__init__" "Load.__init__" (defArgs (inClass (top 14) 0)) (defBody (inClass (top 14) 0)) (defScope (inClass (top 14) 0)) .none kVm0 dcm0 pmm0 anm0 cdm0 ctm0), slm0⟩)
    (cm0 : PySem.W.codeIn K cdm0 "Load.__init__" = true)
    (km0 : PySem.W.keepIn K (.ref gm0) = true)
    (fm0 : PySem.W.fnIn K gm0 = true)
    (im0 : PySem.W.isFn K (.ref gm0) = true)
    (am1 : PySem.W.findCls K (.ref C) (.type "type") "of" = some (.get (.builtin "classmethod.__get__") (.ref q_m1) .none (.ref C)))
    (rcm1 : PySem.W.recIn K q_m1 "classmethod" = some (.ref gm1 :: rm1))
    (lm1 : K.lookup gm1 = some ⟨ocm1, odm1, .func (PySem.W.fnOf "of" "Load.of" (defArgs (inClass (top 14) 1)) (defBody (inClass (top 14) 1)) (defScope (inClass (top 14) 1)) .none kVm1 dcm1 pmm1 anm1 cdm1 ctm1), slm1⟩)
    (cm1 : PySem.W.codeIn K cdm1 "Load.of" = true)
    (km1 : PySem.W.keepIn K (.ref gm1) = true)
    (fm1 : PySem.W.fnIn K gm1 = true)
    (am4 : PySem.W.findIn K (.ref C) "counts" = some (some (.ref q_m4)))
    (rcm4 : PySem.W.recIn K q_m4 "property" = some (.ref gm4 :: rm4))
    (lm4 : K.lookup gm4 = some ⟨ocm4, odm4, .func (PySem.W.fnOf "counts" "Load.counts" (defArgs (inClass (top 14) 4)) (defBody (inClass (top 14) 4)) (defScope (inClass (top 14) 4)) .none kVm4 dcm4 pmm4 anm4 cdm4 ctm4), slm4⟩)
    (cm4 : PySem.W.codeIn K cdm4 "Load.counts" = true)
    (km4 : PySem.W.keepIn K (.ref gm4) = true)
    (gem4 : PySem.W.specialIn K (.ref q_m4) "__get__" = some (some (.builtin "property.__get__")))
    (tkm4 : PySem.W.takesIn K (.ref q_m4) = some true)
    (am6 : PySem.W.findIn K (.ref C) "positive" = some (some (.ref q_m6)))
    (rcm6 : PySem.W.recIn K q_m6 "property" = some (.ref gm6 :: rm6))
    (lm6 : K.lookup gm6 = some ⟨ocm6, odm6, .func (PySem.W.fnOf "positive" "Load.positive" (defArgs (inClass (top 14) 6)) (defBody (inClass (top 14) 6)) (defScope (inClass (top 14) 6)) .none kVm6 dcm6 pmm6 anm6 cdm6 ctm6), slm6⟩)
    (cm6 : PySem.W.codeIn K cdm6 "Load.positive" = true)
    (km6 : PySem.W.keepIn K (.ref gm6) = true)
    (gem6 : PySem.W.specialIn K (.ref q_m6) "__get__" = some (some (.builtin "property.__get__")))
    (tkm6 : PySem.W.takesIn K (.ref q_m6) = some true)
    (am7 : PySem.W.findIn K (.ref C) "negative" = some (some (.ref q_m7)))
    (rcm7 : PySem.W.recIn K q_m7 "property" = some (.ref gm7 :: rm7))
    (lm7 : K.lookup gm7 = some ⟨ocm7, odm7, .func (PySem.W.fnOf "negative" "Load.negative" (defArgs (inClass (top 14) 7)) (defBody (inClass (top 14) 7)) (defScope (inClass (top 14) 7)) .none kVm7 dcm7 pmm7 anm7 cdm7 ctm7), slm7⟩)
    (cm7 : PySem.W.codeIn K cdm7 "Load.negative" = true)
    (km7 : PySem.W.keepIn K (.ref gm7) = true)
    (gem7 : PySem.W.specialIn K (.ref q_m7) "__get__" = some (some (.builtin "property.__get__")))
    (tkm7 : PySem.W.takesIn K (.ref q_m7) = some true)
    (am9 : PySem.W.findIn K (.ref C) "__getitem__" = some (some (.ref gm9)))
    (lm9 : K.lookup gm9 = some ⟨ocm9, odm9, .func (PySem.W.fnOf "__getitem__" "Load.__getitem__" (defArgs (inClass (top 14) 9)) (defBody (inClass (top 14) 9)) (defScope (inClass (top 14) 9)) .none kVm9 dcm9 pmm9 anm9 cdm9 ctm9), slm9⟩)
    (cm9 : PySem.W.codeIn K cdm9 "Load.__getitem__" = true)
    (km9 : PySem.W.keepIn K (.ref gm9) = true)
    (fm9 : PySem.W.fnIn K gm9 = true)
    (im9 : PySem.W.isFn K (.ref gm9) = true)
    (am13 : PySem.W.findIn K (.ref C) "__bool__" = some (some (.ref gm13)))
    (lm13 : K.lookup gm13 = some ⟨ocm13, odm13, .func (PySem.W.fnOf "__bool__" "Load.__bool__" (defArgs (inClass (top 14) 13)) (defBody (inClass (top 14) 13)) (defScope (inClass (top 14) 13)) .none kVm13 dcm13 pmm13 anm13 cdm13 ctm13), slm13⟩)
    (cm13 : PySem.W.codeIn K cdm13 "Load.__bool__" = true)
    (km13 : PySem.W.keepIn K (.ref gm13) = true)
    (fm13 : PySem.W.fnIn K gm13 = true)
    (im13 : PySem.W.isFn K (.ref gm13) = true)
    (am20 : PySem.W.findIn K (.ref C) "__le__" = some (some (.ref gm20)))
    (lm20 : K.lookup gm20 = some ⟨ocm20, odm20, .func (PySem.W.fnOf "__le__" "Load.__le__" (defArgs (inClass (top 14) 20)) (defBody (inClass (top 14) 20)) (defScope (inClass (top 14) 20)) .none kVm20 dcm20 pmm20 anm20 cdm20 ctm20), slm20⟩)
    (cm20 : PySem.W.codeIn K cdm20 "Load.__le__" = true)
    (km20 : PySem.W.keepIn K (.ref gm20) = true)
    (fm20 : PySem.W.fnIn K gm20 = true)
    (im20 : PySem.W.isFn K (.ref gm20) = true)
    (am22 : PySem.W.findIn K (.ref C) "__ge__" = some (some (.ref gm22)))
    (lm22 : K.lookup gm22 = some ⟨ocm22, odm22, .func (PySem.W.fnOf "__ge__" "Load.__ge__" (defArgs (inClass (top 14) 22)) (defBody (inClass (top 14) 22)) (defScope (inClass (top 14) 22)) .none kVm22 dcm22 pmm22 anm22 cdm22 ctm22), slm22⟩)
    (cm22 : PySem.W.codeIn K cdm22 "Load.__ge__" = true)
    (km22 : PySem.W.keepIn K (.ref gm22) = true)
    (fm22 : PySem.W.fnIn K gm22 = true)
    (im22 : PySem.W.isFn K (.ref gm22) = true)
    (cM : PySem.W.nsIn K mainGlobals "MOST_LETTERS" = some (some (.int 8 tM)))
    (aN : PySem.W.nsIn K mainGlobals "Note" = some (some (.ref CN)))
    (pgN : PySem.W.plainGet K CN Str.empty = true)
    (hdN : PySem.W.hasDictIn K CN = true)
    (poN : PySem.W.plainOver K CN = true)
    (saN : PySem.W.findIn K (.ref CN) "__setattr__" = some (some (.builtin "object.__setattr__")))
    (nN0 : PySem.W.findIn K (.ref CN) "number" = some none)
    (nN1 : PySem.W.findIn K (.ref CN) "day" = some none)
    (nN2 : PySem.W.findIn K (.ref CN) "giver" = some none)
    (nN3 : PySem.W.findIn K (.ref CN) "taker" = some none)
    (nN4 : PySem.W.findIn K (.ref CN) "load" = some none)
    (mkN : PySem.W.makesIn K CN = true)
    (kpN : PySem.W.keepIn K (.ref CN) = true)
    (caN : PySem.W.findIn K (.ref CN) "__class__" = some (some (.builtin "object.__class__")))
    (cmN : PySem.W.mroIn K CN (.type "object") = some true)
    (an0 : PySem.W.findIn K (.ref CN) "__init__" = some (some (.ref gn0)))
    (ln0 : K.lookup gn0 = some ⟨ocn0, odn0, .func (PySem.W.fnOf "__init__" "Note.__init__" (defArgs (inClass (top 23) 0)) (defBody (inClass (top 23) 0)) (defScope (inClass (top 23) 0)) .none kVn0 dcn0 pmn0 ann0 cdn0 ctn0), sln0⟩)
    (cn0 : PySem.W.codeIn K cdn0 "Note.__init__" = true)
    (kn0 : PySem.W.keepIn K (.ref gn0) = true)
    (fn0 : PySem.W.fnIn K gn0 = true)
    (in0 : PySem.W.isFn K (.ref gn0) = true)
    (aT : PySem.W.nsIn K mainGlobals "InvalidNote" = some (some (.ref CT)))
    (xT : K.lookup CT = some (excClassObj nmT qT CT NT bsT PySem.HandSPX.veTail true snT snL abT coT ddT k0T k1T k2T k3T k5T "ValueError.__new__"))
    (saT : PySem.W.findIn K (.ref CT) "__setattr__" = some (some (.builtin "object.__setattr__")))
    (exT : PySem.W.subIn K (.ref CT) (.type "BaseException") = some true)
    (tyT : PySem.W.typeIn K (.ref CT) = some (.type "type"))
    (kpT : PySem.W.keepIn K (.ref CT) = true)
    (ax9 : PySem.W.findIn K (.ref CT) "__init__" = some (some (.ref gx9)))
    (lx9 : K.lookup gx9 = some ⟨ocx9, odx9, .func (PySem.W.fnOf "__init__" "InvalidNote.__init__" (defArgs (inClass (top 8) 0)) (defBody (inClass (top 8) 0)) (defScope (inClass (top 8) 0)) .none kVx9 dcx9 pmx9 anx9 cdx9 ctx9), slx9⟩)
    (cx9 : PySem.W.codeIn K cdx9 "InvalidNote.__init__" = true)
    (kx9 : PySem.W.keepIn K (.ref gx9) = true)
    (tfT : PySem.W.typeIn K (.ref gx9) = some (.type "function"))
    (vV : PySem.W.findCls K (.type "ValueError") (.type "type") "__init__" = some (.val (.builtin "ValueError.__init__")))
    (noT : PySem.W.findIn K (.ref CT) "field" = some none)
    : ∃ fd : FuncData, (∀ (s : Shared) (v : Value), BindsTo s fd ⟨[v], []⟩ [("_law_script", v)]) ∧ ∀ base : Heap, K.In base → base.Ns mainGlobals mg → FnG l.prog w K mg base 9 fa fd ["_law_script"] (spLaw K) := by
  have D2 := fun_mk (st := top 2) l2 c2 k2
  have b2 := D2.binds (ps := ["value"]) fun _ _ _ _ _ _ us hl => match us, hl with | [_], _ => rfl
  have D3 := fun_mk (st := top 3) l3 c3 k3
  have b3 := D3.binds (ps := ["value"]) fun _ _ _ _ _ _ us hl => match us, hl with | [_], _ => rfl
  have D4 := fun_mk (st := top 4) l4 c4 k4
  have b4 := D4.binds (ps := ["words"]) fun _ _ _ _ _ _ us hl => match us, hl with | [_], _ => rfl
  have D15 := fun_mk (st := top 15) l15 c15 k15
  have b15 := D15.binds (ps := ["counts"]) fun _ _ _ _ _ _ us hl => match us, hl with | [_], _ => rfl
  have D16 := fun_mk (st := top 16) l16 c16 k16
  have b16 := D16.binds (ps := ["counts"]) fun _ _ _ _ _ _ us hl => match us, hl with | [_], _ => rfl
  have D21 := fun_mk (st := top 21) l21 c21 k21
  have b21 := D21.binds (ps := ["value"]) fun _ _ _ _ _ _ us hl => match us, hl with | [_], _ => rfl
  have D25 := fun_mk (st := top 25) l25 c25 k25
  have b25 := D25.binds (ps := ["drives", "day", "number"]) fun _ _ _ _ _ _ us hl => match us, hl with | [_, _, _], _ => rfl
  have D27 := fun_mk (st := top 27) l27 c27 k27
  have b27 := D27.binds (ps := ["_law_script"]) fun _ _ _ _ _ _ us hl => match us, hl with | [_], _ => rfl
  have D28 := fun_mk (st := top 28) l28 c28 k28
  have b28 := D28.binds (ps := ["_law_pen_here", "_law_many"]) fun _ _ _ _ _ _ us hl => match us, hl with | [_, _], _ => rfl
  have D29 := fun_mk (st := top 29) l29 c29 k29
  have b29 := D29.binds (ps := ["_law_pen_here", "_law_items"]) fun _ _ _ _ _ _ us hl => match us, hl with | [_, _], _ => rfl
  have D30 := fun_mk (st := top 30) l30 c30 k30
  have b30 := D30.binds (ps := ["_law_pen_here", "_law_items"]) fun _ _ _ _ _ _ us hl => match us, hl with | [_, _], _ => rfl
  have D31 := fun_mk (st := top 31) l31 c31 k31
  have b31 := D31.binds (ps := ["_law_pen_here", "_law_many"]) fun _ _ _ _ _ _ us hl => match us, hl with | [_, _], _ => rfl
  have D32 := fun_mk (st := top 32) l32 c32 k32
  have b32 := D32.binds (ps := ["_law_pen_here"]) fun _ _ _ _ _ _ us hl => match us, hl with | [_], _ => rfl
  have D33 := fun_mk (st := top 33) l33 c33 k33
  have b33 := D33.binds (ps := ["_law_pen_here", "_law_kinds"]) fun _ _ _ _ _ _ us hl => match us, hl with | [_, _], _ => rfl
  have D34 := fun_mk (st := top 34) l34 c34 k34
  have b34 := D34.binds (ps := ["_law_counts_here"]) fun _ _ _ _ _ _ us hl => match us, hl with | [_], _ => rfl
  have D35 := fun_mk (st := top 35) l35 c35 k35
  have b35 := D35.binds (ps := ["_law_told"]) fun _ _ _ _ _ _ us hl => match us, hl with | [_], _ => rfl
  have D36 := fun_mk (st := top 36) l36 c36 k36
  have b36 := D36.binds (ps := ["_law_pen_here", "_law_kinds", "_law_houses"]) fun _ _ _ _ _ _ us hl => match us, hl with | [_, _, _], _ => rfl
  have D37 := fun_mk (st := top 37) l37 c37 k37
  have b37 := D37.binds (ps := ["_law_rows", "_law_when", "_law_first"]) fun _ _ _ _ _ _ us hl => match us, hl with | [_, _, _], _ => rfl
  have D38 := fun_mk (st := top 38) l38 c38 k38
  have b38 := D38.binds (ps := ["_law_script"]) fun _ _ _ _ _ _ us hl => match us, hl with | [_], _ => rfl
  have Dm0 := fun_mk (st := inClass (top 14) 0) lm0 cm0 km0
  have Dm1 := fun_mk (st := inClass (top 14) 1) lm1 cm1 km1
  have bm1 := Dm1.binds (ps := ["cls", "counts"]) fun _ _ _ _ _ _ us hl => match us, hl with | [_, _], _ => rfl
  have Dm4 := fun_mk (st := inClass (top 14) 4) lm4 cm4 km4
  have bm4 := Dm4.binds (ps := ["self"]) fun _ _ _ _ _ _ us hl => match us, hl with | [_], _ => rfl
  have Dm6 := fun_mk (st := inClass (top 14) 6) lm6 cm6 km6
  have bm6 := Dm6.binds (ps := ["self"]) fun _ _ _ _ _ _ us hl => match us, hl with | [_], _ => rfl
  have Dm7 := fun_mk (st := inClass (top 14) 7) lm7 cm7 km7
  have bm7 := Dm7.binds (ps := ["self"]) fun _ _ _ _ _ _ us hl => match us, hl with | [_], _ => rfl
  have Dm9 := fun_mk (st := inClass (top 14) 9) lm9 cm9 km9
  have bm9 := Dm9.binds (ps := ["self", "at"]) fun _ _ _ _ _ _ us hl => match us, hl with | [_, _], _ => rfl
  have Dm13 := fun_mk (st := inClass (top 14) 13) lm13 cm13 km13
  have bm13 := Dm13.binds (ps := ["self"]) fun _ _ _ _ _ _ us hl => match us, hl with | [_], _ => rfl
  have Dm20 := fun_mk (st := inClass (top 14) 20) lm20 cm20 km20
  have bm20 := Dm20.binds (ps := ["self", "other"]) fun _ _ _ _ _ _ us hl => match us, hl with | [_, _], _ => rfl
  have Dm22 := fun_mk (st := inClass (top 14) 22) lm22 cm22 km22
  have bm22 := Dm22.binds (ps := ["self", "other"]) fun _ _ _ _ _ _ us hl => match us, hl with | [_, _], _ => rfl
  have Dn0 := fun_mk (st := inClass (top 23) 0) ln0 cn0 kn0
  have bn0 := Dn0.binds (ps := ["self", "number", "day", "giver", "taker", "load"]) fun _ _ _ _ _ _ us hl => match us, hl with | [_, _, _, _, _, _], _ => rfl
  have Dx9 := fun_mk (st := inClass (top 8) 0) lx9 cx9 kx9
  have bx9 := Dx9.binds (ps := ["self", "field"]) fun _ _ _ _ _ _ us hl => match us, hl with | [_, _], _ => rfl
  have e := hfa.symm.trans (PySem.W.mg_of X G a38)
  cases e
  have N := fun {x : Str} (z : PySem.W.nsIn K mainGlobals x = some none) => PySem.W.mg_none_of X G z
  have B : Blt mg := ⟨N z_int, N z_abs, N z_list, N z_len, N z_range⟩
  have B2 : Blt2 mg := ⟨N z_str, N z_bool, N z_sorted, N z_isinstance, N z_all, N z_dict⟩
  have B3 : Blt3 mg := ⟨N z_min, N z_max, N z_repr⟩
  have mM : ∃ t, mg "MOST_LETTERS" = some (.int 8 t) := ⟨_, PySem.W.mg_of X G cM⟩
  refine ⟨PySem.W.fnOf "law" "law" (defArgs (top 38)) (defBody (top 38)) (defScope (top 38)) .none kV38 dc38 pm38 an38 cd38 ct38, fun s v => .of_eq rfl, fun base _ _ => ?_⟩
  have H_ascending : Has l.prog w K mg base 1 "ascending" ["words"] spAsc := ⟨g4, _, ok_asc D4 B2, b4, PySem.W.mg_of X G a4, k4⟩
  have H_is_word : Has l.prog w K mg base 1 "is_word" ["value"] (spIsWord K) := ⟨g3, _, ok_isWord D3 B2 B.len mM, b3, PySem.W.mg_of X G a3, k3⟩
  have H_is_integer : Has l.prog w K mg base 1 "is_integer" ["value"] (spIsInt K) := ⟨g2, _, ok_isInt D2 B2 B.int, b2, PySem.W.mg_of X G a2, k2⟩
  have H_check_counts : Has l.prog w K mg base 2 "check_counts" ["counts"] spCheck := ⟨g15, _, ok_check D15 H_ascending H_is_word H_is_integer, b15, PySem.W.mg_of X G a15, k15⟩
  have H_tidy_counts : Has l.prog w K mg base 2 "tidy_counts" ["counts"] spTidy := ⟨g16, _, ok_tidy D16 H_ascending, b16, PySem.W.mg_of X G a16, k16⟩
  have OX : OexC K CT := ⟨⟨nmT, qT, NT, bsT, PySem.HandSPX.veTail, snT, snL, abT, coT, ddT, k0T, k1T, k2T, k3T, k5T, xT, by rfl⟩, saT, exT, tyT, kpT⟩
  have FT := ok_xn (P := l.prog) (w := w) (base := base) Dx9 OX (N z_ValueError) vV noT
  have XT : XCls K mg "InvalidNote" CT gx9 := ⟨OX, ax9, tfT, PySem.W.mg_of X G aT, N z_ValueError, vV⟩
  have T : LoadC K mg C gm0 := ⟨⟨pgC, hdC, poC, saC⟩, ncC, ⟨mkC, am0, im0, kpC⟩, PySem.W.mg_of X G aC⟩
  have S : SlX.SIsi K C := ⟨caC, cnC, ctC, cmC⟩
  have SN : SlX.SIsi K CN := ⟨caN, cnC, ctC, cmN⟩
  have I0 := ok_init0 (P := l.prog) (w := w) (base := base) Dm0 T H_check_counts H_tidy_counts
  have RD : ClX.CRead K C (.type "type") := ⟨rdC, gaC⟩
  have HO : HasC l.prog w K mg base 5 C "of" (spOf C) := ⟨.type "type", q_m1, gm1, RD, ⟨am1, ⟨_, rcm1⟩, fm1⟩, fnR_of (ok_of Dm1 T B2 I0 H_check_counts H_tidy_counts) bm1⟩
  have HG : HasM l.prog w K mg base 1 C "__getitem__" (spGet C) := ⟨_, am9, fm9, im9, fnR_of (ok_get Dm9 T) bm9⟩
  have HLe : HasM l.prog w K mg base 3 C "__le__" (spLe C) := ⟨_, am20, fm20, im20, fnR_of (ok_le Dm20 T S B2 HG) bm20⟩
  have HGe : HasM l.prog w K mg base 4 C "__ge__" (spGe C) := ⟨_, am22, fm22, im22, fnR_of (ok_ge Dm22 T S B2 HLe) bm22⟩
  have HC : HasP l.prog w K mg base 1 C "counts" (spCounts C) := ⟨q_m4, gm4, _, ⟨am4, gem4, tkm4, ⟨_, rcm4⟩⟩, ok_counts Dm4 T B2, bm4⟩
  have HP : HasP l.prog w K mg base 6 C "positive" (spMapC C (fun i => i) (fun i => decide (0 < i))) := ⟨q_m6, gm6, _, ⟨am6, gem6, tkm6, ⟨_, rcm6⟩⟩, ok_pos Dm6 T HO, bm6⟩
  have HM : HasP l.prog w K mg base 6 C "negative" (spMapC C (fun i => -i) (fun i => decide (i < 0))) := ⟨q_m7, gm7, _, ⟨am7, gem7, tkm7, ⟨_, rcm7⟩⟩, ok_neg Dm7 T HO, bm7⟩
  have H_is_stock : Has l.prog w K mg base 5 "is_stock" ["value"] (spStock K C) := ⟨g21, _, ok_stock D21 T S B2 HGe I0, b21, PySem.W.mg_of X G a21, k21⟩
  have NC : NoteC K mg CN gn0 := ⟨⟨pgN, hdN, poN, saN⟩, nN0, nN1, nN2, nN3, nN4, ⟨mkN, an0, in0, kpN⟩, PySem.W.mg_of X G aN⟩
  have FN := ok_noteI (P := l.prog) (w := w) (base := base) Dn0 NC H_is_integer H_is_word H_is_stock am13 im13 (fnR_of (ok_bool Dm13 T B2) bm13) XT FT bx9
  have DN := ok_dn (P := l.prog) (w := w) (base := base) D25 B T NC HP HM am13 im13 (fnR_of (ok_bool Dm13 T B2) bm13) FN bn0
  have H__law_draw : Has l.prog w K mg base 1 "_law_draw" ["_law_pen_here", "_law_many"] spDraw := ⟨g28, _, ok_draw D28 B, b28, PySem.W.mg_of X G a28, k28⟩
  have H__law_pick : Has l.prog w K mg base 2 "_law_pick" ["_law_pen_here", "_law_items"] (spPick K) := ⟨g29, _, ok_pick D29 B H__law_draw, b29, PySem.W.mg_of X G a29, k29⟩
  have H__law_pen : Has l.prog w K mg base 1 "_law_pen" ["_law_script"] (spPen K) := ⟨g27, _, ok_pen D27 B, b27, PySem.W.mg_of X G a27, k27⟩
  have H__law_words : Has l.prog w K mg base 3 "_law_words" ["_law_pen_here", "_law_many"] spWords := ⟨g31, _, ok_words D31 B H__law_draw H__law_pick, b31, PySem.W.mg_of X G a31, k31⟩
  have H__law_shuffled : Has l.prog w K mg base 2 "_law_shuffled" ["_law_pen_here", "_law_items"] spShuf := ⟨g30, _, ok_shuf D30 B H__law_draw, b30, PySem.W.mg_of X G a30, k30⟩
  have H__law_count : Has l.prog w K mg base 3 "_law_count" ["_law_pen_here"] spCntL := ⟨g32, _, ok_cntL D32 H__law_draw H__law_pick, b32, PySem.W.mg_of X G a32, k32⟩
  have H__law_counts : Has l.prog w K mg base 4 "_law_counts" ["_law_pen_here", "_law_kinds"] spCntsL := ⟨g33, _, ok_cntsL D33 B B2 H__law_draw H__law_shuffled H__law_count, b33, PySem.W.mg_of X G a33, k33⟩
  have H__law_clean : Has l.prog w K mg base 1 "_law_clean" ["_law_counts_here"] spClnL := ⟨g34, _, ok_clnL D34 B2 (N z_set), b34, PySem.W.mg_of X G a34, k34⟩
  have H__law_some_drives : Has l.prog w K mg base 5 "_law_some_drives" ["_law_pen_here", "_law_kinds", "_law_houses"] spSomL := ⟨g36, _, ok_somL D36 B B2 H__law_draw H__law_shuffled H__law_counts H__law_clean, b36, PySem.W.mg_of X G a36, k36⟩
  have H__law_lines : Has l.prog w K mg base 1 "_law_lines" ["_law_rows", "_law_when", "_law_first"] spLinL := ⟨g37, _, ok_linL D37 B B2, b37, PySem.W.mg_of X G a37, k37⟩
  have H__law_rows_of : Has l.prog w K mg base 3 "_law_rows_of" ["_law_told"] (spRowL C) := ⟨g35, _, ok_rowL D35 T HC, b35, PySem.W.mg_of X G a35, k35⟩
  exact ok_law (CN := CN) D38 B B2 B3 (N z_tuple) T S NC SN HO HC {
    pen := H__law_pen
    draw := H__law_draw
    pick := H__law_pick
    words := H__law_words
    somed := H__law_some_drives
    count := H__law_count
    lines := H__law_lines
    rows := H__law_rows_of
    dn := ⟨g25, _, rot3, rot3, DN, b25, kb_dn D25, fun _ _ _ => rfl, PySem.W.mg_of X G a25, k25⟩ }
theorem walk {l : PySem.W.OpenLaw} {q : Program} {loose : List Str} {XP : (Str → Option Value) → Heap → Prop} {YP : World → Heap → Prop} {d : DefRec} {K : Params → PySem.W.Frag} (hn : l.most = some 63) (hdf : d.params.defaults = [])
    (hY : ∀ (w : World) (h : Heap), YP w h → (K w.params).In h)
    (F : ∀ (w : World) (mg : Str → Option Value) (fa : Addr) (h : Heap), (K w.params).In h → h.Ns mainGlobals mg → mg d.name = some (.ref fa) →
      ∃ fd : FuncData, (∀ (s : Shared) (u : Value), BindsTo s fd ⟨[u], []⟩ [("_law_script", u)]) ∧ ∀ base : Heap, (K w.params).In base → base.Ns mainGlobals mg → FnG l.prog w (K w.params) mg base 9 fa fd ["_law_script"] (spLaw (K w.params))) :
    PySem.W.WalkO q loose XP YP l.row.toRowW d [] (fun f vs => PySem.call f vs) :=
  L2.walk_G (n := 63) (k := 9) (x := "_law_script") (sp := fun w => spLaw (K w.params)) hn (by decide) hdf ⟨rfl, by decide, by decide⟩ hY F (fun _ _ a ns hl _ hS => ⟨a, ns, rfl, hS, hl, fun _ => rfl⟩)
end Ld
open PySem PySem.W PyProof.Rows
set_option maxRecDepth 100000 in
set_option maxHeartbeats 0 in
theorem PySem.Challenge.cw_crateround_k87_notes_that_tell_drives_holds : PySem.Challenge.rw_crateround_k87_notes_that_tell_drives.Holds := by
  w_on; o_law; k_head; (case hw => w_witness2)
  k_fill
  refine Ld.walk (l := PySem.Challenge.rw_crateround_k87_notes_that_tell_drives) rfl rfl (fun w h Y => PySem.W.kIn_of Y) ?F
  case F =>
    intro w mg fa h KX G hmg
    refine' Ld.fin_mk KX G hmg ?a2 ?l2 ?c2 ?k2 ?a3 ?l3 ?c3 ?k3 ?a4 ?l4 ?c4 ?k4 ?a15 ?l15 ?c15 ?k15 ?a16 ?l16 ?c16 ?k16 ?a21 ?l21 ?c21 ?k21 ?a25 ?l25 ?c25 ?k25 ?a27 ?l27 ?c27 ?k27 ?a28 ?l28 ?c28 ?k28 ?a29 ?l29 ?c29 ?k29 ?a30 ?l30 ?c30 ?k30 ?a31 ?l31 ?c31 ?k31 ?a32 ?l32 ?c32 ?k32 ?a33 ?l33 ?c33 ?k33 ?a34 ?l34 ?c34 ?k34 ?a35 ?l35 ?c35 ?k35 ?a36 ?l36 ?c36 ?k36 ?a37 ?l37 ?c37 ?k37 ?a38 ?l38 ?c38 ?k38 ?z_int ?z_abs ?z_list ?z_len ?z_range ?z_str ?z_bool ?z_sorted ?z_isinstance ?z_all ?z_dict ?z_min ?z_max ?z_repr ?z_set ?z_tuple ?z_ValueError ?aC ?pgC ?hdC ?poC ?saC ?ncC ?mkC ?kpC ?caC ?cnC ?ctC ?cmC ?neC ?icC ?tyC ?rdC ?gaC ?am0 ?lm0 ?cm0 ?km0 ?fm0 ?im0 ?am1 ?rcm1 ?lm1 ?cm1 ?km1 ?fm1 ?am4 ?rcm4 ?lm4 ?cm4 ?km4 ?gem4 ?tkm4 ?am6 ?rcm6 ?lm6 ?cm6 ?km6 ?gem6 ?tkm6 ?am7 ?rcm7 ?lm7 ?cm7 ?km7 ?gem7 ?tkm7 ?am9 ?lm9 ?cm9 ?km9 ?fm9 ?im9 ?am13 ?lm13 ?cm13 ?km13 ?fm13 ?im13 ?am20 ?lm20 ?cm20 ?km20 ?fm20 ?im20 ?am22 ?lm22 ?cm22 ?km22 ?fm22 ?im22 ?cM ?aN ?pgN ?hdN ?poN ?saN ?nN0 ?nN1 ?nN2 ?nN3 ?nN4 ?mkN ?kpN ?caN ?cmN ?an0 ?ln0 ?cn0 ?kn0 ?fn0 ?in0 ?aT ?xT ?saT ?exT ?tyT ?kpT ?ax9 ?lx9 ?cx9 ?kx9 ?tfT ?vV ?noT
    (case a2 => k_is)
    (case l2 => k_is)
    (case c2 => k_is)
    (case k2 => k_is)
    (case a3 => k_is)
    (case l3 => k_is)
    (case c3 => k_is)
    (case k3 => k_is)
    (case a4 => k_is)
    (case l4 => k_is)
    (case c4 => k_is)
    (case k4 => k_is)
    (case a15 => k_is)
    (case l15 => k_is)
    (case c15 => k_is)
    (case k15 => k_is)
    (case a16 => k_is)
    (case l16 => k_is)
    (case c16 => k_is)
    (case k16 => k_is)
    (case a21 => k_is)
    (case l21 => k_is)
    (case c21 => k_is)
    (case k21 => k_is)
    (case a25 => k_is)
    (case l25 => k_is)
    (case c25 => k_is)
    (case k25 => k_is)
    (case a27 => k_is)
    (case l27 => k_is)
    (case c27 => k_is)
    (case k27 => k_is)
    (case a28 => k_is)
    (case l28 => k_is)
    (case c28 => k_is)
    (case k28 => k_is)
    (case a29 => k_is)
    (case l29 => k_is)
    (case c29 => k_is)
    (case k29 => k_is)
    (case a30 => k_is)
    (case l30 => k_is)
    (case c30 => k_is)
    (case k30 => k_is)
    (case a31 => k_is)
    (case l31 => k_is)
    (case c31 => k_is)
    (case k31 => k_is)
    (case a32 => k_is)
    (case l32 => k_is)
    (case c32 => k_is)
    (case k32 => k_is)
    (case a33 => k_is)
    (case l33 => k_is)
    (case c33 => k_is)
    (case k33 => k_is)
    (case a34 => k_is)
    (case l34 => k_is)
    (case c34 => k_is)
    (case k34 => k_is)
    (case a35 => k_is)
    (case l35 => k_is)
    (case c35 => k_is)
    (case k35 => k_is)
    (case a36 => k_is)
    (case l36 => k_is)
    (case c36 => k_is)
    (case k36 => k_is)
    (case a37 => k_is)
    (case l37 => k_is)
    (case c37 => k_is)
    (case k37 => k_is)
    (case a38 => k_is)
    (case l38 => k_is)
    (case c38 => k_is)
    (case k38 => k_is)
    (case z_int => k_is)
    (case z_abs => k_is)
    (case z_list => k_is)
    (case z_len => k_is)
    (case z_range => k_is)
    (case z_str => k_is)
    (case z_bool => k_is)
    (case z_sorted => k_is)
    (case z_isinstance => k_is)
    (case z_all => k_is)
    (case z_dict => k_is)
    (case z_min => k_is)
    (case z_max => k_is)
    (case z_repr => k_is)
    (case z_set => k_is)
    (case z_tuple => k_is)
    (case z_ValueError => k_is)
    (case aC => k_is)
    (case pgC => k_is)
    (case hdC => k_is)
    (case poC => k_is)
    (case saC => k_is)
    (case ncC => k_is)
    (case mkC => k_is)
    (case kpC => k_is)
    (case caC => k_is)
    (case cnC => k_is)
    (case ctC => k_is)
    (case cmC => k_is)
    (case neC => k_is)
    (case icC => k_is)
    (case tyC => k_is)
    (case rdC => k_is)
    (case gaC => k_is)
    (case am0 => k_is)
    (case lm0 => k_is)
    (case cm0 => k_is)
    (case km0 => k_is)
    (case fm0 => k_is)
    (case im0 => k_is)
    (case am1 => k_is)
    (case rcm1 => k_is)
    (case lm1 => k_is)
    (case cm1 => k_is)
    (case km1 => k_is)
    (case fm1 => k_is)
    (case am4 => k_is)
    (case rcm4 => k_is)
    (case lm4 => k_is)
    (case cm4 => k_is)
    (case km4 => k_is)
    (case gem4 => k_is)
    (case tkm4 => k_is)
    (case am6 => k_is)
    (case rcm6 => k_is)
    (case lm6 => k_is)
    (case cm6 => k_is)
    (case km6 => k_is)
    (case gem6 => k_is)
    (case tkm6 => k_is)
    (case am7 => k_is)
    (case rcm7 => k_is)
    (case lm7 => k_is)
    (case cm7 => k_is)
    (case km7 => k_is)
    (case gem7 => k_is)
    (case tkm7 => k_is)
    (case am9 => k_is)
    (case lm9 => k_is)
    (case cm9 => k_is)
    (case km9 => k_is)
    (case fm9 => k_is)
    (case im9 => k_is)
    (case am13 => k_is)
    (case lm13 => k_is)
    (case cm13 => k_is)
    (case km13 => k_is)
    (case fm13 => k_is)
    (case im13 => k_is)
    (case am20 => k_is)
    (case lm20 => k_is)
    (case cm20 => k_is)
    (case km20 => k_is)
    (case fm20 => k_is)
    (case im20 => k_is)
    (case am22 => k_is)
    (case lm22 => k_is)
    (case cm22 => k_is)
    (case km22 => k_is)
    (case fm22 => k_is)
    (case im22 => k_is)
    (case cM => k_is)
    (case aN => k_is)
    (case pgN => k_is)
    (case hdN => k_is)
    (case poN => k_is)
    (case saN => k_is)
    (case nN0 => k_is)
    (case nN1 => k_is)
    (case nN2 => k_is)
    (case nN3 => k_is)
    (case nN4 => k_is)
    (case mkN => k_is)
    (case kpN => k_is)
    (case caN => k_is)
    (case cmN => k_is)
    (case an0 => k_is)
    (case ln0 => k_is)
    (case cn0 => k_is)
    (case kn0 => k_is)
    (case fn0 => k_is)
    (case in0 => k_is)
    (case aT => k_is)
    (case xT => k_is)
    (case saT => k_is)
    (case exT => k_is)
    (case tyT => k_is)
    (case kpT => k_is)
    (case ax9 => k_is)
    (case lx9 => k_is)
    (case cx9 => k_is)
    (case kx9 => k_is)
    (case tfT => k_is)
    (case vV => k_is)
    (case noT => k_is)
