import PyProof.Rows.All
import Wide.All
import OpenK.AllK
import Wide.FinOn
import KE.KExcInit
import HandS.Base
import HandS.Call
import HandS.List
import HandS.Exc
import HandS.ExcInit
import KE.KIsAll
import HandS.Words
import PyProof.ReprRoads
import HandS.ForMost
import HandS.IsInst
import HandS.Conv
import HandS.More
import PySem.Challenge.RW_crateround_k00_errors
set_option Elab.async false
set_option linter.all false
set_option maxRecDepth 100000
set_option maxHeartbeats 4000000
/-! Every error of the package keeps its fields and stands directly below its own built-in error: law k00, by hand over the layer HandS. Parts: own exception classes over any built-in base made by position and by keyword and held as values; promises that know that no container is being shown; repr of data; the law's pen; its odd values; the twenty __init__; all errors at once; which class, which base, which field; the law's loops; the end. -/
/-! own exception classes over any built-in base, made with positions or keywords, held as values -/
namespace PySem
namespace CrX
open PySem.W PySem.Calls PyProof.Rows PySem.HandSPX
section
open Builtin Builtin.ObjectAttr
variable {M : Model} {prog : Program} {w : World} {A : Around} {E : Value → Shared → Prop} {R : Result → Shared → Prop} {h : Heap} {g : Array GenState} {d : Drawn} {t : Nat} {os : OsState}
variable {nm q : Str} {C N : Addr} {bs bm bmB : List Value} {hdct : Bool} {sn : List Str} {sub : List Value} {ab : Bool} {col : Option Bool} {dd : Option Addr} {k0 k1 k2 k3 k5 : Option Value} {B newId initId : String}

theorem check_new_kw (F : ExcBaseFacts B newId initId bmB) (hT : ∀ X : String, bm.contains (.type X) = bmB.contains (.type X)) {rest : List Value} {kw : List (Str × Value)} {Q : Unit → Shared → Prop}
    (hC : h.get? C = some (excClassObj nm q C N bs bm hdct sn sub ab col dd k0 k1 k2 k3 k5 newId)) (hq : Q () ⟨h, g, d, t, os⟩) : wpAny M A (checkBuiltinCall newId ⟨.ref C :: rest, kw⟩) Q E ⟨h, g, d, t, os⟩ := by
  have hcont : (Value.ref C :: bm).contains (.type B) = true := by rw [List.contains_cons, hT, F.hasB, Bool.or_true]
  have hstar := F.noStar
  simp only [checkBuiltinCall, F.newKind, F.newSplit, F.newRow]
  repeat (first | refine wpAny_loadPart_at hC ?_ | (refine wpAny_isSubtype_exc hC ?_; rw [hcont]) | refine wpAny_staticBase_exc hC ?_ | refine wpAny_madeBy_exc hC ?_ | simp only [bne_self_eq_false, Bool.false_eq_true, if_false] | wp_step)
  exact hq
theorem new_kw (F : ExcBaseFacts B newId initId bmB) (hT : ∀ X : String, bm.contains (.type X) = bmB.contains (.type X)) {rest : List Value} {kw : List (Str × Value)}
    (hC : h.get? C = some (excClassObj nm q C N bs bm hdct sn sub ab col dd k0 k1 k2 k3 k5 newId))
    (hq : R (.ok (.ret (.ref (h.objs.size + 1)))) ⟨(h.push { cls := .type "tuple", data := .seq rest.toArray }).push
      { cls := .ref C, data := .fields #[.ref h.objs.size, .none, .none, .none, .bool false, .none] }, g, d, t, os⟩) (hrest : rest.length ≤ sizeLine) :
    codeAny (model prog w) A (.builtin newId ⟨.ref C :: rest, kw⟩) R ⟨h, g, d, t, os⟩ := by
  have hends := F.ends
  have hcB : (Value.ref C :: bm).contains (.type B) = true := by rw [List.contains_cons, hT, F.hasB, Bool.or_true]
  have hcA : (Value.ref C :: bm).contains (.type "AttributeError") = false := by rw [List.contains_cons, hT, F.noAttr]; rfl
  have hcN : (Value.ref C :: bm).contains (.type "NameError") = false := by rw [List.contains_cons, hT, F.noName]; rfl
  refine codeAny_builtinAt F.entry ?_
  unfold Builtin.«BaseException.__new__»
  refine wpAt_bind ?_
  show wpAt _ _ _ (stack >>= _) _ _ _
  refine wpAt_bind (wpAt_stack fun p below => wpAt_of_wpAny ?_)
  wp_walk
  refine wpAt_of_wpAny ?_
  rw [F.owner]
  repeat (first | with_reducible refine wpAny_madeHere_exc F.canon hC ?_ | with_reducible refine wpAny_loadPart_at hC ?_ | (with_reducible refine wpAny_isSubtype_exc hC ?_; first | rw [hcB] | rw [hcA] | rw [hcN]) | wp_step)
  show R _ _
  rw [Heap.size_push]
  exact hq
theorem type_call_kw (F : ExcBaseFacts B newId initId bmB) (hT : ∀ X : String, bm.contains (.type X) = bmB.contains (.type X)) {rest : List Value} {kw : List (Str × Value)} {fI : Addr} {Q : Fin → Shared → Prop}
    (hC : h.get? C = some (excClassObj nm q C N bs bm hdct sn sub ab col dd k0 k1 k2 k3 k5 newId))
    (hi : W.Looks (model prog w) h (typeLookup (.ref C) "__init__") (some (.ref fI))) (hb : ∀ self, W.Looks (model prog w) h (bindSpecial (.ref fI) self) (.ref fI, [self])) (hrest : rest.length ≤ sizeLine)
    (hq : codeAny (model prog w) A (.call (.ref fI) ⟨.ref (h.objs.size + 1) :: rest, kw⟩)
      (fun r s' => match r with | .ok (.ret v) => v = .none ∧ Q (.done (.ret (.ref (h.objs.size + 1)))) s' | .ok _ => False | .error e => E e s')
      ⟨(h.push (W.kdv_tup rest)).push (excO C h.objs.size), g, d, t, os⟩) :
    wpAny (model prog w) A (Builtin.«type.__call__» ⟨.ref C :: rest, kw⟩) Q E ⟨h, g, d, t, os⟩ := by
  repeat (first | with_reducible refine wpAny_loadPart_at hC ?_ | with_reducible refine wpAny_madeBy_exc hC ?_ | wp_step)
  refine codeAny_call_builtin_code (Code.quiet_builtin _ F.quiet) (check_new_kw F hT hC ?_)
  refine new_kw F hT hC ?_ hrest
  show wpAny _ _ _ _ _ _
  have k : ∀ b o, h.get? b = some o → ((h.push (W.kdv_tup rest)).push (excO C h.objs.size)).get? b = some o := fun b o e => Heap.get?_push_of_some _ (Heap.get?_push_of_some _ e)
  have hC₁ := k _ _ hC
  have hget : ((h.push (W.kdv_tup rest)).push (excO C h.objs.size)).get? (h.objs.size + 1) = some (excO C h.objs.size) := by heap_get
  have hcC : (Value.ref C :: bm).contains (.ref C) = true := by simp
  have i1 := hi.keeps k
  have b1 := (hb (.ref (h.objs.size + 1))).keeps k
  unfold isInstance
  repeat (first | with_reducible refine wpAny_loadPart_at hget ?_ | (with_reducible refine wpAny_isSubtype_exc hC₁ ?_; rw [hcC]) | wp_step)
  show wpAny _ _ (typeLookup (.ref C) _) _ _ _
  refine i1.at ?_
  refine wpAny_holding (wpAny_bind (b1.at ?_))
  refine wpAny_bind (wpAny_call (codeAny_mono hq fun r s' z => ?_))
  rcases r with e | (v | _ | _ | _) <;> first | exact z | exact z.elim | skip
  obtain ⟨rfl, z⟩ := z
  first
    | exact wpAny_pure (wpAny_pure z)
    | (wp_walk; exact z)
theorem call_kw (F : ExcBaseFacts B newId initId bmB) (hT : ∀ X : String, bm.contains (.type X) = bmB.contains (.type X)) {rest : List Value} {kw : List (Str × Value)} {fI : Addr}
    (hC : h.get? C = some (excClassObj nm q C N bs bm hdct sn sub ab col dd k0 k1 k2 k3 k5 newId))
    (hi : W.Looks (model prog w) h (typeLookup (.ref C) "__init__") (some (.ref fI))) (hb : ∀ self, W.Looks (model prog w) h (bindSpecial (.ref fI) self) (.ref fI, [self])) (hrest : rest.length ≤ sizeLine)
    (hq : codeAny (model prog w) (A.under (.builtin "type.__call__" ⟨.ref C :: rest, kw⟩)) (.call (.ref fI) ⟨.ref (h.objs.size + 1) :: rest, kw⟩) (W.InitBack (h.objs.size + 1) R)
      ⟨(h.push (W.kdv_tup rest)).push (excO C h.objs.size), g, d, t, os⟩) :
    codeAny (model prog w) A (.call (.ref C) ⟨rest, kw⟩) R ⟨h, g, d, t, os⟩ := by
  have f1 := tc_lookup
  have f2 := tc_bind (.ref C)
  have hTy : (⟨h, g, d, t, os⟩ : Shared).TypeIs (.ref C) "type" := ⟨_, hC, rfl⟩
  refine codeAny_of_tree ?_
  show wpAny _ _ (callAny (.ref C) _) _ _ _
  repeat (any_goals (first | assumption | with_reducible refine wpAny_loadPart_at hC ?_ | wp_step))
  refine ⟨rfl, ?_⟩
  refine codeAny_call_builtin_at (Code.quiet_builtin _ (by decide +kernel)) entry_typeCall (wpAny_check_type_call_sub hC (type_call_kw F hT hC hi hb hrest ?_))
  refine codeAny_mono hq fun r s' z => ?_
  rcases r with e | (v | _ | _ | _) <;> exact z

/-- self.name = v, the first attribute -/
theorem osa_new (SF : StoreFacts B bmB "object.__setattr__" "object") {K : W.Frag} {name : Str} {tk : Tok} {v : Value} {x C : Addr} {fv : Array Value} {cd : ClassData}
    (X : K.In h) (hx : h.get? x = some { cls := .ref C, data := .fields fv }) (hcd : W.clsIn K C = some cd) (hm : cd.mro = .ref C :: bmB) (hob : bmB.contains (.type "object") = true) (hh : cd.hasDict = true) (ha : W.findIn K (.ref C) name = some none)
    (hq : ∀ h' tk' dx, (∀ b o, b ≠ x → h.get? b = some o → h'.get? b = some o) → h.objs.size ≤ dx → dx ≠ x → h'.get? x = some { cls := .ref C, dict := some dx, data := .fields fv } →
      h'.Ns1 dx (fun y => if y = name then some v else none) → R (.ok (.ret .none)) ⟨h', g, d, tk', os⟩) :
    codeAny (model prog w) A (.call (.builtin "object.__setattr__") ⟨[.ref x, .str name tk, v], []⟩) R ⟨h, g, d, t, os⟩ := by
  have I : W.InstAt h x { cls := .ref C, data := .fields fv } C none := ⟨hx, rfl, rfl, trivial⟩
  have SO := F.store_object
  have hob' : cd.mro.contains (.type "object") = true := by rw [hm, List.contains_cons, hob, Bool.or_true]
  have hxs : x ≠ h.objs.size := Nat.ne_of_lt (Heap.lt_size hx)
  have sub : W.Looks (model prog w) h (isInstance (.ref x) (.type "object")) true := I.type.andThen (W.looks_mroIn X (by unfold W.mroIn; rw [hcd, Option.bind_some, if_neg (by rw [hm]; exact Bool.false_ne_true), hob']))
  refine codeAny_call_builtin SO.slot.plain SO.entry (@W.check_slot (model prog w) _ _ ⟨h, g, d, t, os⟩ "object.__setattr__" "object" "__setattr__" (.ref x) [.str name tk, v] [] _ SO.kind SO.split sub (SO.args (.ref x) (.str name tk) v) ?_)
  have hmr : W.Looks (model prog w) h (mroOf (.ref C)) cd.mro := (W.looks_clsIn X hcd).andThen .now
  have L3 : W.Looks (model prog w) h (storeTaker? none) none := .now
  have hcls : W.Looks (model prog w) h (classData C) cd := W.looks_clsIn X hcd
  rw [W.osa_eq, refuse_eq]
  refine wpAny_bind (wpAny_bind (I.type.at (wpAny_bind (hmr.at ?_))))
  rw [hm, refuseLoop_ref, SF.passes]
  refine wpAny_pure (wpAny_bind (I.type.at (wpAny_bind ((W.looks_findIn X ha).at (wpAny_bind (L3.at ?_))))))
  show wpAny _ _ (storeInOwnDict (.ref x) (.ref C) (.str name tk) name v false) _ _ _
  obtain ⟨nm, bs, mro, ns, qn, hd, sn, sb, ab, col, del⟩ := cd
  dsimp only at hh
  subst hh
  unfold storeInOwnDict ownDictForStores
  repeat (first | with_reducible refine HandSPX.store_in_new ?_ ?_ | with_reducible refine wpAny_loadPart_at hx ?_ | with_reducible refine hcls.at ?_ | wp_step)
  · exact ⟨_, #[], _, (Heap.get?_update_ne _ _ _ _ hxs.symm).trans (Heap.get?_push_at rfl rfl), rfl, fun e he => absurd he (by simp), fun _ => rfl⟩
  · intro h' tk' hn' hs
    have hx₁ : (h.push { cls := .type "dict", data := .dict #[] }).get? x = some { cls := .ref C, data := .fields fv } := Heap.get?_push_of_some _ hx
    refine hq h' tk' h.objs.size (fun b o hb ho => ?_) (Nat.le_refl _) hxs.symm ?_ hn'
    · exact (hs.2 b (Nat.ne_of_lt (Heap.lt_size ho))).trans ((Heap.get?_update_ne _ _ _ _ hb).trans (Heap.get?_push_of_some _ ho))
    · exact (hs.2 x hxs).trans (Heap.get?_update_self _ hx₁ rfl)
theorem osa_old (SF : StoreFacts B bmB "object.__setattr__" "object") {K : W.Frag} {name : Str} {tk : Tok} {v : Value} {x C dx : Addr} {fv : Array Value} {cd : ClassData} {m0 : Str → Option Value} {nl : List Str}
    (X : K.In h) (hx : h.get? x = some { cls := .ref C, dict := some dx, data := .fields fv }) (hns : h.Ns1 dx m0) (hw : Within m0 nl) (hz : nl.length ≤ 1000) (hcd : W.clsIn K C = some cd) (hm : cd.mro = .ref C :: bmB) (hob : bmB.contains (.type "object") = true) (hh : cd.hasDict = true)
    (ha : W.findIn K (.ref C) name = some none)
    (hq : ∀ h' tk', (∀ b o, b ≠ dx → h.get? b = some o → h'.get? b = some o) → h'.Ns1 dx (fun y => if y = name then some v else m0 y) → R (.ok (.ret .none)) ⟨h', g, d, tk', os⟩) :
    codeAny (model prog w) A (.call (.builtin "object.__setattr__") ⟨[.ref x, .str name tk, v], []⟩) R ⟨h, g, d, t, os⟩ := by
  obtain ⟨oD, esD, epD, hoD, hdD, _⟩ := hns.count hw
  have I : W.InstAt h x { cls := .ref C, dict := some dx, data := .fields fv } C (some oD) := ⟨hx, rfl, rfl, hoD⟩
  have SO := F.store_object
  have hob' : cd.mro.contains (.type "object") = true := by rw [hm, List.contains_cons, hob, Bool.or_true]
  have sub : W.Looks (model prog w) h (isInstance (.ref x) (.type "object")) true := I.type.andThen (W.looks_mroIn X (by unfold W.mroIn; rw [hcd, Option.bind_some, if_neg (by rw [hm]; exact Bool.false_ne_true), hob']))
  refine codeAny_call_builtin SO.slot.plain SO.entry (@W.check_slot (model prog w) _ _ ⟨h, g, d, t, os⟩ "object.__setattr__" "object" "__setattr__" (.ref x) [.str name tk, v] [] _ SO.kind SO.split sub (SO.args (.ref x) (.str name tk) v) ?_)
  have hmr : W.Looks (model prog w) h (mroOf (.ref C)) cd.mro := (W.looks_clsIn X hcd).andThen .now
  have L3 : W.Looks (model prog w) h (storeTaker? none) none := .now
  have hcls : W.Looks (model prog w) h (classData C) cd := W.looks_clsIn X hcd
  rw [W.osa_eq, refuse_eq]
  refine wpAny_bind (wpAny_bind (I.type.at (wpAny_bind (hmr.at ?_))))
  rw [hm, refuseLoop_ref, SF.passes]
  refine wpAny_pure (wpAny_bind (I.type.at (wpAny_bind ((W.looks_findIn X ha).at (wpAny_bind (L3.at ?_))))))
  show wpAny _ _ (storeInOwnDict (.ref x) (.ref C) (.str name tk) name v false) _ _ _
  obtain ⟨nm, bs, mro, ns, qn, hd, sn, sb, ab, col, del⟩ := cd
  dsimp only at hh
  subst hh
  unfold storeInOwnDict ownDictForStores
  repeat (first | with_reducible refine OEX.store_in_old hns hw hz ?_ | with_reducible refine wpAny_loadPart_at hx ?_ | with_reducible refine hcls.at ?_ | wp_step)
  intro h' tk' hn' hs
  exact hq h' tk' (fun b o hb ho => (hs.2 b hb).trans ho) hn'
end
end CrX
end PySem
namespace PySem.CrX
open PySem PySem.Spec PySem.W PySem.Calls PyProof.Rows
section
variable {prog : Program} {w : World} {A : Around} {E : Value → Shared → Prop} {s : Shared} {K : Frag} {x D : Addr} {ox : Obj} {od : Option Obj}
theorem findObj_dataO {C : Addr} {name : Str} {a g : Value} (hc : (clsIn K C).isSome = true) (ha : findIn K (.ref C) name = some (some a)) (hg : specialIn K a "__get__" = some (some g)) (ht : takesIn K a = some true) : findObj K C od name = some (.bind g a) := by
  obtain ⟨cd, hc⟩ := Option.isSome_iff_exists.mp hc
  unfold findObj
  rw [hc, Option.bind_some, ha, Option.bind_some]
  simp [hg, ht]
theorem kin_classO {Q : Option Value → Shared → Prop} (hga : findIn K (.ref D) "__getattribute__" = some (some (.builtin "BaseException.__getattribute__"))) (hgt : findIn K (.ref D) "__getattr__" = some none) (hsub : subIn K (.ref D) (.type "BaseException") = some true)
    (hdct : hasDictIn K D = true) (ha : findIn K (.ref D) "__class__" = some (some (.builtin "object.__class__")))
    (hn : specialIn K (.builtin "object.__class__") "__get__" = some (some (.builtin "getset_descriptor.__get__"))) (htk : takesIn K (.builtin "object.__class__") = some true) (hm : mroIn K D (.type "object") = some true)
    (X : K.In s.heap) (I : InstAt s.heap x ox D od) (h : Q (some (.ref D)) { s with toks := s.toks + 1 }) : wpAny (model prog w) A (getAttr? (.ref x) "__class__") Q E s := by
  have hf : findObj K D od "__class__" = some (.bind (.builtin "getset_descriptor.__get__") (.builtin "object.__class__")) := findObj_dataO (by obtain ⟨cd, hc, _⟩ := any_some hdct; rw [hc]; rfl) ha hn htk
  obtain ⟨hp, g, d, t, os⟩ := s
  have L0 := I.type (M := model prog w)
  have L1 := looks_findIn (M := model prog w) X hga
  have L2 := looks_findIn (M := model prog w) X hgt
  have L3 := looks_find (M := model prog w) X I hf
  have sub : Looks (model prog w) hp (isInstance (.ref x) (.type "BaseException")) true := L0.andThen (looks_subIn X hsub)
  have hx0 : (false && onTheHeap (Value.builtin "BaseException.__getattribute__")) = false := rfl
  have hx2 : (Value.builtin "BaseException.__getattribute__" == Value.builtin "object.__getattribute__") = false := by decide +kernel
  have hx1 : (onTheHeap (Value.ref D) && Value.builtin "BaseException.__getattribute__" == Value.builtin "object.__getattribute__") = false := by rw [hx2]; rfl
  unfold getAttr? getAttrBy? getAttrBy
  refine wpAny_bind (wpAny_mkText (wpAny_bind (wpAny_attempt (wpAny_holding (wpAny_bind (L0.at (wpAny_bind (L1.at ?_))))))))
  show wpAny _ _ (if (onTheHeap (Value.ref D) && Value.builtin "BaseException.__getattribute__" == Value.builtin "object.__getattribute__") = true then _ else _) _ _ _
  rw [hx1, if_neg Bool.false_ne_true]
  unfold getAttrByItsOwn hookBefore
  refine wpAny_bind ?_
  rw [if_pos (show onTheHeap (Value.ref D) = true from rfl)]
  refine L2.at ?_
  refine wpAny_bind (wpAny_attempt (wpAny_holding ?_))
  unfold callGetattribute
  rw [hx0, if_neg Bool.false_ne_true]
  unfold boundAndCalled
  rw [PySem.F.excAttr_ValueError.ga.bind (.ref x)]
  refine wpAny_bind (wpAny_pure ?_)
  show wpAny _ _ (call (.builtin "BaseException.__getattribute__") [.ref x, .str "__class__" t]) _ _ _
  refine wpAny_call (codeAny_call_builtin PySem.F.excAttr_ValueError.ga.plain PySem.F.entry_bexc_ga ?_)
  refine @check_slot (model prog w) _ _ ⟨hp, g, d, t + 1, os⟩ "BaseException.__getattribute__" "BaseException" "__getattribute__" (.ref x) [.str "__class__" t] [] _ (by decide +kernel) (by decide +kernel) sub (PySem.F.args_bexc_ga (.ref x) (.str "__class__" t)) ?_
  unfold Builtin.«object.__getattribute__»
  refine wpAny_bind (wpAny_of_eq (a := ((Value.ref x : Value), [Value.str "__class__" t])) (by first | rfl | (simp only [slotArgs]; rfl)) ?_)
  refine wpAny_bind (wpAny_pure (wpAny_bind (L0.at (wpAny_bind (L3.at ?_)))))
  show wpAny _ _ (holding [Value.builtin "object.__class__"] (call (.builtin "getset_descriptor.__get__") [.builtin "object.__class__", .ref x, .ref D]) >>= ret) _ _ _
  refine wpAny_bind (wpAny_holding (wpAny_call (class_get (s := ⟨hp, g, d, t + 1, os⟩) (ox := ox) (od := od) X I hm ?_)))
  refine wpAny_pure ?_
  show wpAny _ _ (handedOut (.ref D)) _ _ _
  rw [handedOut_of (v := .ref D) rfl]
  first
    | exact wpAny_pure (wpAny_pure h)
    | exact wpAny_pure h
    | exact wpAny_pure (wpAny_bind (wpAny_pure (wpAny_pure h)))
theorem kitx_excO (hga : findIn K (.ref D) "__getattribute__" = some (some (.builtin "BaseException.__getattribute__"))) (hgt : findIn K (.ref D) "__getattr__" = some none) (hsub : subIn K (.ref D) (.type "BaseException") = some true) (hdct : hasDictIn K D = true) (ha : findIn K (.ref D) "__class__" = some (some (.builtin "object.__class__")))
    (hn : specialIn K (.builtin "object.__class__") "__get__" = some (some (.builtin "getset_descriptor.__get__"))) (htk : takesIn K (.builtin "object.__class__") = some true) (hm : mroIn K D (.type "object") = some true) :
    KitX K (.ref x) (.ref D) (fun h => InstAt h x ox D od) where
  ty := fun _ _ _ I => I.type
  it := fun _ _ X _ => by
    obtain ⟨cdD, hcD, _⟩ := any_some hdct
    unfold clsIn at hcD
    split at hcD
    · rename_i c' d' cd' sl' ho
      intro A' Q' E' s' k q
      unfold isType loadHead
      exact wpAny_bind (wpAny_loadPart (k _ _ (X _ _ ho)) (wpAny_pure q))
    · cases hcD
  ne := fun h tp dd its n sl X htp => by
    obtain ⟨cdD, hcD, _⟩ := any_some hdct
    refine Bool.eq_false_iff.mpr fun q => ?_
    have e : D = tp := Value.ref.inj (beq_iff_eq.mp q)
    subst e
    unfold clsIn at hcD
    split at hcD
    · rename_i c' d' cd' sl' ho
      have z := (X _ _ ho).symm.trans htp
      cases z
    · cases hcD
  ca := fun X I k => kin_classO hga hgt hsub hdct ha hn htk hm X I k
end
end PySem.CrX

namespace L2
open PySem PySem.Spec PyProof.Rows
/-- an own exception class at C directly over a built-in base, its own __init__ at fI; its objects have the attributes f only -/
structure OexB (K : PySem.W.Frag) (B newId initId : String) (bmB : List Value) (C : Addr) : Prop where
  F : ExcBaseFacts B newId initId bmB
  S : StoreFacts B bmB "object.__setattr__" "object"
  ob : bmB.contains (.type "object") = true
  cls : ∃ nm q N bs sn sub ab col dd k0 k1 k2 k3 k5, K.lookup C = some (excClassObj nm q C N bs bmB true sn sub ab col dd k0 k1 k2 k3 k5 newId)
  sa : PySem.W.findIn K (.ref C) "__setattr__" = some (some (.builtin "object.__setattr__"))
  kC : PySem.W.keepIn K (.ref C) = true
section
variable {X : Cx} {pins : List (Addr × Obj)} {σ : St} {H : Hp} {s : Shared} {a C dx : Addr} {f : Str} {y : V} {u : Value} {fs : List (Str × V)} {Q : Unit → Shared → Prop} {E : Value → Shared → Prop} {A : Around}
variable {B newId initId : String} {bmB : List Value}
theorem OexB.clsIs (T : OexB X.K B newId initId bmB C) : ∃ cd, PySem.W.clsIn X.K C = some cd ∧ cd.mro = .ref C :: bmB ∧ cd.hasDict = true := by
  obtain ⟨nm, q, N, bs, sn, sub, ab, col, dd, k0, k1, k2, k3, k5, hC⟩ := T.cls
  exact ⟨{ name := nm, bases := bs, mro := .ref C :: bmB, ns := N, qualname := q, hasDict := true, slotNames := sn, subclasses := sub, abstract := ab, collection := col, hasDel := false }, by unfold PySem.W.clsIn; rw [hC] <;> rfl, rfl, rfl⟩
/-- self.f = y, the first one -/
theorem ostB_new (T : OexB X.K B newId initId bmB C) (I : Inv X pins σ H s) (e : H a = some (exo a C none)) (hno : PySem.W.findIn X.K (.ref C) f = some none) (ry : RelV y u)
    (h : ∀ dx s', H dx = none → dx ≠ a → Inv X pins σ (upd (upd H dx (exd dx [(f, y)])) a (exo a C (some dx))) s' → Q () s') : wpAny (model X.prog X.w) A (setAttr (.ref a) f u) Q E s := by
  obtain ⟨cd, hcl, hmro, hhd⟩ := T.clsIs
  obtain ⟨t1, ho⟩ := exo_at I.hok e
  obtain ⟨hp, g, d, t, os⟩ := s
  refine PySem.W.set_plain I.kIn (ox := { cls := .ref C, dict := none, data := .fields #[.ref t1, .none, .none, .none, .bool false, .none] }) (od := none) ⟨ho, rfl, rfl, trivial⟩ T.sa ?_
  refine PySem.CrX.osa_new T.S I.kIn ho hcl hmro T.ob hhd hno (fun h' tk' dx k dn dne hx hn => ?_)
  have hnd : H dx = none := I.hok.fresh dn
  have nd : ∀ {b : Addr} {o : Obj}, hp.get? b = some o → b ≠ dx := fun {b o} q => Nat.ne_of_lt (Nat.lt_of_lt_of_le (Heap.lt_size q) dn)
  have na : ∀ {b : Addr}, H b = none → b ≠ a := fun {b} n z => by
    rw [z, e] at n
    cases n
  have Un1 : Un X.fs [] H (upd (upd H dx (exd dx [(f, y)])) a (exo a C (some dx))) hp h' := {
    keep := fun b o q n _ _ => k b o (na n) q
    slot := fun b o q n _ _ => ⟨o.slots, k b o (na n) q⟩
    free := fun b o q n _ => by rw [upd_ne (na n), upd_ne (nd q)]; exact n
    there := fun b o q _ => by
      by_cases hb : b = a
      · exact ⟨_, by rw [hb]; exact hx⟩
      · exact ⟨o, k b o hb q⟩
    tups := fun b xs q => by rw [upd_ne (at_ne e q exo_tup), upd_ne (ne_of_none q hnd)]; exact q
    frzs := fun b o v q => by rw [upd_ne (at_ne e q exo_frz), upd_ne (ne_of_none q hnd)]; exact q
    tbls := fun b ps q => ⟨#[], by rw [upd_ne (at_ne e q exo_tbl), upd_ne (ne_of_none q hnd), q]; simp⟩ }
  refine h dx _ hnd dne (I.un (t' := tk') Un1 fun b o q => ?_)
  by_cases hb : b = a
  · subst hb
    rw [upd_same] at q
    cases q
    exact exo_ok hx
  · rw [upd_ne hb] at q
    by_cases hd : b = dx
    · subst hd
      rw [upd_same] at q
      cases q
      exact exd_ok hn (relO_put (fs := []) ry fun g => True.intro)
    · rw [upd_ne hd] at q
      exact (I.hok b o q).stay (fun c v hc z => k c v (by
          rcases hc with hc | hc
          · rw [hc]
            exact hb
          · exact at_ne e hc exo_own) z)
        (fun c hc => by rw [upd_ne (at_ne e hc exo_own), upd_ne (ne_of_none hc hnd)]; exact hc) (fun c xs hc => by rw [upd_ne (at_ne e hc exo_tup), upd_ne (ne_of_none hc hnd)]; exact hc)
/-- self.f = y, a further one -/
theorem ostB_old (T : OexB X.K B newId initId bmB C) (I : Inv X pins σ H s) (e : H a = some (exo a C (some dx))) (ed : H dx = some (exd dx fs)) (hl : fs.length ≤ 900) (hno : PySem.W.findIn X.K (.ref C) f = some none) (ry : RelV y u)
    (h : ∀ s', Inv X pins σ (upd H dx (exd dx ((f, y) :: fs))) s' → Q () s') : wpAny (model X.prog X.w) A (setAttr (.ref a) f u) Q E s := by
  obtain ⟨cd, hcl, hmro, hhd⟩ := T.clsIs
  obtain ⟨t1, ho⟩ := exo_at I.hok e
  obtain ⟨mA, hns, rel⟩ := exd_at I.hok ed
  have hw := within_of rel
  obtain ⟨hp, g, d, t, os⟩ := s
  obtain ⟨oD, _, _, hoD, _, _⟩ := hns.count hw
  refine PySem.W.set_plain I.kIn (ox := { cls := .ref C, dict := some dx, data := .fields #[.ref t1, .none, .none, .none, .bool false, .none] }) (od := some oD) ⟨ho, rfl, rfl, hoD⟩ T.sa ?_
  refine PySem.CrX.osa_old T.S I.kIn ho hns hw (by rw [List.length_map]; omega) hcl hmro T.ob hhd hno (fun h' tk' k hn => ?_)
  have hd : ∃ o, h'.get? dx = some o := by
    obtain ⟨o, _, _, e', _⟩ := hn
    exact ⟨o, e'⟩
  exact h _ (I.write (t' := tk') (x := dx) (e := dx) (o := exd dx ((f, y) :: fs)) (by rw [ed]; exact True.intro) (.inl rfl) k hd (exd_ok hn (relO_put ry rel)))
/-- B.__init__(self, ..): nothing of it is told -/
theorem binit_ok {us : List Value} {Q : Value → Shared → Prop} (T : OexB X.K B newId initId bmB C) (I : Inv X pins σ H s) (e : H a = some (exo a C none)) (hl : us.length ≤ sizeLine) (h : ∀ s', Inv X pins σ H s' → Q .none s') :
    wpAny (model X.prog X.w) A (call (.builtin initId) (.ref a :: us)) Q E s := by
  obtain ⟨nm, q, N, bs, sn, sub, ab, col, dd, k0, k1, k2, k3, k5, hC⟩ := T.cls
  obtain ⟨t1, ho⟩ := exo_at I.hok e
  obtain ⟨hp, g, d, t, os⟩ := s
  refine wpAny_call (PySem.HandSPX.init_base T.F (fun Y => rfl) (I.kIn _ _ hC) ho hl fun h' t2 k hx => ?_)
  have J := I.write (t' := t) (x := a) (e := a) (o := exo a C none) (by rw [e]; exact True.intro) (.inl rfl) k ⟨_, hx⟩ (exo_ok hx)
  have eu : upd H a (exo a C none) = H := by
    funext b
    by_cases hb : b = a
    · rw [hb, upd_same, e]
    · rw [upd_ne hb]
  rw [eu] at J
  exact h _ J
end

/-- B.__init__(self, ..) -/
def tBi (K : PySem.W.Frag) (B newId initId : String) (bmB : List Value) (ta : TA) : TE := fun σ H Q => ta σ H fun vs H1 => ∃ (a C : Addr) (ws : List V), vs = .ref a :: ws ∧ ws.length ≤ 1000 ∧ OexB K B newId initId bmB C ∧ H1 a = some (exo a C none) ∧ Q .non H1
/-- self.f = e -/
def tOstB (K : PySem.W.Frag) (B newId initId : String) (bmB : List Value) (f : Str) (to te : TE) : TS := fun D σ H => te σ H fun y H1 => to σ H1 fun x H2 => ∃ a C : Addr, x = .ref a ∧ OexB K B newId initId bmB C ∧ PySem.W.findIn K (.ref C) f = some none ∧
  ((H2 a = some (exo a C none) ∧ ∀ dx, H2 dx = none → dx ≠ a → D.nx σ (upd (upd H2 dx (exd dx [(f, y)])) a (exo a C (some dx)))) ∨
    ∃ (dx : Addr) (fs : List (Str × V)), H2 a = some (exo a C (some dx)) ∧ H2 dx = some (exd dx fs) ∧ fs.length ≤ 900 ∧ D.nx σ (upd H2 dx (exd dx ((f, y) :: fs))))
/-- C(e, .., k = v, ..) as a value: a new exception object, then C's own __init__, which keeps sp -/
def tMkV (C : Addr) (sp : Sp) (ta : TA) : TE := fun σ H Q => ta σ H fun vs H1 => vs.length ≤ 1000 ∧ ∀ a, H1 a = none → sp (.ref a :: vs) (upd H1 a (exo a C none)) (fun v H2 => v = .non ∧ Q (.ref a) H2) (fun _ _ _ => False)
section
variable {X : Cx} {o e : Expr} {es : List Expr} {to te : TE} {ta tk : TA} {f : Str} {p p' p1 p2 pos : Pos} {B newId initId : String} {bmB : List Value} {kws : List Keyword} {ks : List Str}
theorem pe_binit {pl : Sem Bool} (x : Str) (hg : Gl X x) (hm : X.mg x = none) (hv : bootBuiltins x = some (.type B)) (ty : typeOf (.type B) = pure (.type "type")) (stub : Manifest.isStub B = false)
    (vV : PySem.W.findCls X.K (.type B) (.type "type") "__init__" = some (.val (.builtin initId))) (hh : PySem.W.handedIn (.builtin initId) = true) (ha : PA X (e :: es) ta)
    (hn : x ≠ "__name__" := by decide) (hdb : (x == ("__debug__" : Str)) = false := by decide)
    (hc : eval (.Call (.Attribute (.Name x p1) "__init__" p2) (e :: es) [] pos) X.env = (do
      let ov ← eval (.Name x p1) X.env
      standAt p2.atName
      let (f, first) ← holding [ov] (getMethod ov "__init__" pl)
      callWith pos f first (backTo pos (starEach (e :: es) X.env)) (backToKw pos (keywordEach [] X.env))) := by rfl)
    (he : starEach (e :: es) X.env = (false, eval e X.env) :: starEach es X.env := by rfl) (hpl : (backTo pos (starEach es X.env)).any (·.1) = false := by rfl) :
    PE X (.Call (.Attribute (.Name x p1) "__init__" p2) (e :: es) [] pos) (tBi X.K B newId initId bmB ta) := by
  refine ⟨fun pins s σ H Q I h => ?_⟩
  refine PySem.W.methodCall_KW (ld_blt I hg hm hv ?_ hn hdb) hc
  obtain ⟨m, fr⟩ := I.fr
  refine PySem.W.method_type fr I.ok.mod.kin ty stub vV hh ?_
  show wpAny _ _ (callWith pos (Value.builtin initId) [] (backTo pos (starEach (e :: es) X.env)) []) _ _ _
  refine PyProof.Rows.callWith_method1 (thn (ha.run pos pins _ σ H _ (I.tok _) h) fun us s1 ⟨vs, H1, I1, r1, a, C, ws, ev, hl, T, ea, q⟩ => ?_) he hpl
  subst ev
  cases r1 with
  | @cons _ u0 _ ur ra rw' =>
    obtain rfl : u0 = Value.ref a := ra
    have hlen : ur.length ≤ sizeLine := by
      rw [← Paired.length rw', sizeLine_eq]
      omega
    exact binit_ok T I1 ea hlen fun s' J => ⟨.non, H1, J, rfl, q⟩
theorem ps_ostB (ho : PE X o to) (he : PE X e te) (hs : swapsWith e (some (.Attribute o f p')) pos.line X.env = pure false := by rfl) : PS X (.Assign [.Attribute o f p'] e pos) (tOstB X.K B newId initId bmB f to te) := by
  refine ⟨fun pins s σ H D I h => ?_⟩
  refine plainObj_wpAny_Assign_Attribute (thn (he.run pins s σ H _ I h) fun v s1 ⟨y, H1, I1, r1, q1⟩ => thn (ho.run pins s1 σ H1 _ I1 q1) fun u s2 ⟨x, H2, I2, r2, a, C, ex, T, hno, q⟩ => ?_) hs
  subst ex
  obtain rfl : u = Value.ref a := r2
  rcases q with ⟨ea, q⟩ | ⟨dx, fs, ea, ed, hl, q⟩
  · exact ostB_new T I2 ea hno r1 fun dx s' n ne J => ⟨σ, _, J, q dx n ne⟩
  · exact ostB_old T I2 ea ed hl hno r1 fun s' J => ⟨σ, _, J, q⟩
/-- C's call: the object is laid, the __init__ runs -/
theorem run_mkV {pins : List (Addr × Obj)} {σ : St} {H : Hp} {s : Shared} {Q : VK} {C fI : Addr} {k : Nat} {fd : FuncData} {ps : List Str} {sp : Sp} {us : List Value} {kw : List (Str × Value)} {vs : List V} {ws : List Value}
    (T : OexB X.K B newId initId bmB C) (iC : PySem.W.findIn X.K (.ref C) "__init__" = some (some (.ref fI))) (tI : PySem.W.typeIn X.K (.ref fI) = some (.type "function"))
    (F1 : FnOk X.prog X.w X.K X.mg X.base CX0 k fI fd ps sp) (hr : Room (k + 1) X.A) (I : Inv X pins σ H s) (hus : us.length ≤ sizeLine)
    (hb : ∀ (s' : Shared) (a : Addr), X.K.In s'.heap → BindsTo s' fd ⟨.ref a :: us, kw⟩ (ps.zip (.ref a :: ws))) (r : Vals vs ws)
    (h : ∀ a, H a = none → sp (.ref a :: vs) (upd H a (exo a C none)) (fun v H2 => v = .non ∧ Q (.ref a) H2) (fun _ _ _ => False)) :
    wpAny (model X.prog X.w) X.A (call (.ref C) us kw) (EP X pins σ Q) X.xe s := by
  obtain ⟨nm, q, N, bs, sn, sub, ab, col, dd, k0, k1, k2, k3, k5, hC⟩ := T.cls
  obtain ⟨hp, g, dr, tk, os⟩ := s
  have hsz : hp.objs.size ≤ hp.objs.size + 1 := Nat.le_succ _
  have hn : H (hp.objs.size + 1) = none := I.hok.fresh hsz
  have hq := h (hp.objs.size + 1) hn
  have kk : ∀ b o, hp.get? b = some o → ((hp.push (PySem.W.kdv_tup us)).push (PySem.HandSPX.excO C hp.objs.size)).get? b = some o := fun b o e => Heap.get?_push_of_some _ (Heap.get?_push_of_some _ e)
  have hget : ((hp.push (PySem.W.kdv_tup us)).push (PySem.HandSPX.excO C hp.objs.size)).get? (hp.objs.size + 1) = some (PySem.HandSPX.excO C hp.objs.size) := by heap_get
  have I2 : Inv X pins σ (upd H (hp.objs.size + 1) (exo (hp.objs.size + 1) C none)) ⟨(hp.push (PySem.W.kdv_tup us)).push (PySem.HandSPX.excO C hp.objs.size), g, dr, tk, os⟩ :=
    I.laid (t' := tk) (a := hp.objs.size + 1) (o := exo (hp.objs.size + 1) C none) (h' := (hp.push (PySem.W.kdv_tup us)).push (PySem.HandSPX.excO C hp.objs.size)) kk hsz (exo_ok hget)
  have r2 : Vals (V.ref (hp.objs.size + 1) :: vs) (Value.ref (hp.objs.size + 1) :: ws) := .cons rfl r
  refine wpAny_call (PySem.CrX.call_kw T.F (fun Y => rfl) (I.kIn _ _ hC) (PySem.W.looks_findIn I.kIn iC) (fun self => PySem.W.bind_fn I.kIn self tI) hus
    (codeAny_mono (F1.run _ X.stack _ _ ⟨Value.ref (hp.objs.size + 1) :: us, kw⟩ (Value.ref (hp.objs.size + 1) :: ws) _ _ (fun _ _ _ => False) (hr.make C us kw) (I2.env0.make C us kw) (hb _ _ I2.kIn) r2 hq) fun rr s' hq' => ?_))
  cases rr with
  | error er => exact False.elim hq'
  | ok fl =>
    cases fl with
    | ret u =>
      obtain ⟨v, H2, I3, rv, ev, q2⟩ := I2.after hq'
      subst ev
      exact ⟨rv, V.ref (hp.objs.size + 1), H2, I3, rfl, q2⟩
    | next => exact False.elim hq'
    | brk => exact False.elim hq'
    | cont => exact False.elim hq'
end
end L2
namespace L2
open PySem PySem.Spec PyProof.Rows
section
variable {X : Cx} {e : Expr} {es : List Expr} {ta tk te : TA} {x : Str} {p pos : Pos} {B newId initId : String} {bmB : List Value} {kws : List Keyword} {ks : List Str} {C fI : Addr} {k : Nat} {fd : FuncData} {ps : List Str} {sp : Sp}
/-- C(e, ..) -/
theorem pe_mkV (T : OexB X.K B newId initId bmB C) (iC : PySem.W.findIn X.K (.ref C) "__init__" = some (some (.ref fI))) (tI : PySem.W.typeIn X.K (.ref fI) = some (.type "function"))
    (F1 : FnOk X.prog X.w X.K X.mg X.base CX0 k fI fd ps sp) (hr : Room (k + 1) X.A) (hb : Binds X.K fd ps []) (hg : Gl X x) (hm : X.mg x = some (.ref C)) (ha : PA X (e :: es) ta)
    (hdb : (x == ("__debug__" : Str)) = false := by decide) (he : starEach (e :: es) X.env = (false, eval e X.env) :: starEach es X.env := by rfl) (hpl : (backTo pos (starEach es X.env)).any (·.1) = false := by rfl) :
    PE X (.Call (.Name x p) (e :: es) [] pos) (tMkV C sp ta) := by
  refine ⟨fun pins s σ H Q I h => ?_⟩
  refine wpAny_Call_Name_kw (ld_glob I hg hm ?_ hdb)
  refine PySem.W.callWith_K (h₀ := X.base) I.ok.mod.kin T.kC (thn (ha.run pos pins s σ H _ I h) fun us s1 ⟨vs, H1, I1, r1, hz, q1⟩ => ⟨I1.kIn, ?_⟩) he hpl
  show wpAny _ _ (call (.ref C) us) _ _ _
  have hus : us.length ≤ sizeLine := by
    rw [← Paired.length r1, sizeLine_eq]
    omega
  have hlen : vs.length + 1 = ps.length := by
    have hq := q1 (s1.heap.objs.size + 1) (I1.hok.fresh (Nat.le_succ _))
    exact F1.len _ _ _ _ hq
  refine run_mkV (kw := []) (ws := us) T iC tI F1 hr I1 hus (fun s' a K1 => ?_) r1 q1
  have z := hb s' (.ref a :: us) K1 (by rw [List.append_nil, List.length_cons, ← Paired.length r1]; exact hlen)
  rwa [List.append_nil] at z
/-- C(k = v, ..): n keywords; permV puts the values in the order of the parameters -/
def tMkVK (C : Addr) (sp : Sp) (n : Nat) (permV : List V → List V) (tk : TA) : TE := fun σ H Q => tk σ H fun zs H1 => zs.length = n ∧ ∀ a, H1 a = none → sp (.ref a :: permV zs) (upd H1 a (exo a C none)) (fun v H2 => v = .non ∧ Q (.ref a) H2) (fun _ _ _ => False)
theorem pe_mkVK {perm : List Value → List Value} {permV : List V → List V} (T : OexB X.K B newId initId bmB C) (iC : PySem.W.findIn X.K (.ref C) "__init__" = some (some (.ref fI))) (tI : PySem.W.typeIn X.K (.ref fI) = some (.type "function"))
    (F1 : FnOk X.prog X.w X.K X.mg X.base CX0 k fI fd ps sp) (hr : Room (k + 1) X.A) (hb : ∀ (s' : Shared) (a : Addr) (ws : List Value), ws.length = ks.length → BindsTo s' fd ⟨[.ref a], ks.zip ws⟩ (ps.zip (.ref a :: perm ws)))
    (hrel : ∀ {zs : List V} {ws : List Value}, Vals zs ws → Vals (permV zs) (perm ws)) (hg : Gl X x) (hm : X.mg x = some (.ref C)) (hkw : PK X kws tk)
    (hall : (backToKw pos (keywordEach kws X.env)).all (·.1.isSome) = true := by rfl) (hks : (backToKw pos (keywordEach kws X.env)).filterMap (·.1) = ks := by rfl) (hdb : (x == ("__debug__" : Str)) = false := by decide)
    (hpl : ((backTo pos (starEach [] X.env)).any (·.1) || (backToKw pos (keywordEach kws X.env)).any (·.1.isNone)) = false := by rfl) :
    PE X (.Call (.Name x p) [] kws pos) (tMkVK C sp ks.length permV tk) := by
  refine ⟨fun pins s σ H Q I h => ?_⟩
  refine wpAny_Call_Name_kw (ld_glob I hg hm ?_ hdb)
  refine PySem.W.callWith_KW0 (h₀ := X.base) I.ok.mod.kin T.kC hall ?_ hpl
  refine thn (hkw.run pos pins s σ H _ I h) fun ws s2 ⟨zs, H2, I2, rz, l2, q2⟩ => ⟨I2.kIn, ?_⟩
  rw [hks]
  show wpAny _ _ (call (.ref C) [] (ks.zip ws)) _ _ _
  exact run_mkV (us := []) (kw := ks.zip ws) (ws := perm ws) T iC tI F1 hr I2 (Nat.zero_le _) (fun s' a _ => hb s' a ws (by rw [← Paired.length rz]; exact l2)) (hrel rz) q2
end

/-! ### an exception held as a value: its field, isinstance -/
/-- what the class at D says of its instances -/
structure ExcV (K : PySem.W.Frag) (D : Addr) : Prop where
  ga : PySem.W.findIn K (.ref D) "__getattribute__" = some (some (.builtin "BaseException.__getattribute__"))
  gg : PySem.W.findIn K (.ref D) "__getattr__" = some none
  sb : PySem.W.subIn K (.ref D) (.type "BaseException") = some true
  hd : PySem.W.hasDictIn K D = true
  ca : PySem.W.findIn K (.ref D) "__class__" = some (some (.builtin "object.__class__"))
  mo : PySem.W.mroIn K D (.type "object") = some true
/-- facts of object.__class__ itself -/
structure ClsD (K : PySem.W.Frag) : Prop where
  sp : PySem.W.specialIn K (.builtin "object.__class__") "__get__" = some (some (.builtin "getset_descriptor.__get__"))
  tk : PySem.W.takesIn K (.builtin "object.__class__") = some true
/-- e.f, e an exception that is held -/
def tExF (K : PySem.W.Frag) (f : Str) (te : TE) : TE := fun σ H Q => te σ H fun x H1 => ∃ (a C d : Addr) (fs : List (Str × V)) (v : V), x = .ref a ∧ H1 a = some (exo a C (some d)) ∧ H1 d = some (exd d fs) ∧ ExcV K C ∧ PySem.W.findIn K (.ref C) f = some none ∧ fs.lookup f = some v ∧ Q v H1
theorem pe_exF {X : Cx} {e : Expr} {f : Str} {te : TE} {pos : Pos} (he : PE X e te) (hb : attributeBase e f X.env (eval e X.env) = eval e X.env := by rfl) : PE X (.Attribute e f pos) (tExF X.K f te) := by
  refine ⟨fun pins s σ H Q I h => ?_⟩
  refine attr_of hb (thn (he.run pins s σ H _ I h) fun u s1 hh => ?_)
  obtain ⟨x, H1, I1, rx, a, C, d, fs, v, rfl, ea, ed, T, hno, l, q⟩ := hh
  obtain rfl : u = Value.ref a := rx
  obtain ⟨t1, ho⟩ := exo_at I1.hok ea
  obtain ⟨mA, hns, hr⟩ := exd_at I1.hok ed
  have hw := within_of hr
  obtain ⟨od, es, ep, hod, hrest⟩ := id hns
  obtain ⟨od', hod', hl⟩ := lookIn_ns hns
  obtain ⟨u, hu, ru⟩ := RelO.some_of (v := v) (o := mA f) (by rw [← l]; exact hr f)
  have J : PySem.W.InstAt s1.heap a { cls := .ref C, dict := some d, data := .fields #[.ref t1, .none, .none, .none, .bool false, .none] } C (some od') := ⟨ho, rfl, rfl, hod'⟩
  exact HandSPX.exc_get I1.kIn J T.ga T.gg T.sb (PySem.W.findObj_own T.hd hno rfl (by rw [hl, hu])) (handed_of ru) ⟨v, H1, I1.tok _, ru, q⟩
/-- isinstance(e, c), e an exception that is held -/
def rIsX (K : PySem.W.Frag) : List V → Hp → VK → Prop := fun xs H Q => ∃ (a C d : Addr) (fs : List (Str × V)) (c : V) (u : Value) (b : Bool), xs = [.ref a, c] ∧ H a = some (exo a C (some d)) ∧ H d = some (exd d fs) ∧ ExcV K C ∧ ClsD K ∧ ClsV c u ∧ PySem.W.kitOne K (.ref C) u = some b ∧ Q (.bl b) H
theorem call_isX {X : Cx} : CallR X (.builtin "isinstance") (rIsX X.K) := by
  intro pins s σ H xs us Q I r h
  obtain ⟨a, C, d, fs, c, u, b, rfl, ea, ed, T, D, k, e, q⟩ := h
  obtain ⟨u1, u2, rfl, r1, r2⟩ := vals2 r
  have e2 := k.eq r2
  subst e2
  obtain rfl : u1 = Value.ref a := r1
  obtain ⟨t1, ho⟩ := exo_at I.hok ea
  obtain ⟨mA, hns, hr⟩ := exd_at I.hok ed
  obtain ⟨od', hod', hl⟩ := lookIn_ns hns
  have J : PySem.W.InstAt s.heap a { cls := .ref C, dict := some d, data := .fields #[.ref t1, .none, .none, .none, .bool false, .none] } C (some od') := ⟨ho, rfl, rfl, hod'⟩
  exact PySem.W.kia_one (PySem.CrX.kitx_excO (od := some od') T.ga T.gg T.sb T.hd T.ca D.sp D.tk T.mo) I.kIn J e (fun z => nomatch z) fun tk => ⟨.bl b, H, I.tok tk, rfl, q⟩

/-! ### repr of data; data that holds dicts -/
/-- a value of None, bools, ints, texts, lists, tuples, dicts of such, as it stands in the heap -/
inductive Dq (K : PySem.W.Frag) (H : Hp) : V → PyData → Prop
  | base {v : V} {d : PyData} : Dp K H v d → Dq K H v d
  | dict {a : Addr} {kvs : List (Key × V)} {ds : List (PyData × PyData)} : H a = some (.dK kvs) → DpAll K H (kvs.map fun p => kV p.1) (ds.map (·.1)) → DpAll K H (kvs.map (·.2)) (ds.map (·.2)) → Dq K H (.ref a) (.dict ds)
end L2
namespace L2
open PySem PySem.Spec PyProof.Rows

/-! ### promises that may use that no container is being shown (guards) -/
/-- as FnOk, for calls made where no guard stands; nothing is raised -/
structure FnG (P : Program) (w : World) (K : PySem.W.Frag) (mg : Str → Option Value) (base : Heap) (k : Nat) (f : Addr) (fd : FuncData) (ps : List Str) (sp : Sp) : Prop where
  arity : ∀ vs H Q E, sp vs H Q E → vs.length = ps.length
  goes : ∀ (A : Around) (outer : List Env) (s : Shared) (H : Hp) (us : List Value) (vs : List V) (Q : VK), Room k A → A.guards = some [] → Env0 P w K mg base A outer s H → BindsTo s fd ⟨us, []⟩ (ps.zip us) → Vals vs us → sp vs H Q E0 →
    codeAny (model P w) A (.call (.ref f) ⟨us, []⟩) (CR CX0 outer P w H s Q E0) s
theorem FnG.of {P : Program} {w : World} {K : PySem.W.Frag} {mg : Str → Option Value} {base : Heap} {k : Nat} {f : Addr} {x qual : Str} {st : Stmt} {fd : FuncData} {N ps : List Str} {sp : Sp}
    (F : Fun K x qual st f fd) (S : FnScope N ps (defScope st)) (len : ∀ vs H Q E, sp vs H Q E → vs.length = ps.length)
    (hbody : ∀ (cdv : Value) (A : Around) (outer : List Env) (s : Shared) (H : Hp) (vs : List V) (Q : VK), Room k (A.deeper (envOfC qual (defScope st) s.heap.objs.size f cdv)) → (A.deeper (envOfC qual (defScope st) s.heap.objs.size f cdv)).guards = some [] → sp vs H Q E0 →
      ∃ t, PSs (cxOf CX0 P w K mg base N qual (defScope st) f cdv A outer s H E0).nox (defBody st) t ∧ t { nx := fun _ H' => Q .non H', rt := Q } (start N vs) H) : FnG P w K mg base (k + 1) f fd ps sp := by
  obtain ⟨oc, od, kV, doc, pm, an, cdv, ct, osl, rfl, lk, hcd⟩ := F.ex
  refine ⟨len, fun A outer s H us vs Q hr hgd e0 hb r hsp => ?_⟩
  have inS : ∀ b o, base.get? b = some o → s.heap.get? b = some o := fun b o e => (e0.bs b o e).1
  have hkind : ∀ y ∈ ps.zip us, (defScope st).names.lookup y.1 = some .local ∨ ((defScope st).names.lookup y.1 = some .cell ∧ ((cellsFrom (s.heap.objs.size + 1) (defScope st).names []).lookup y.1).isSome = true) := by
    rintro ⟨n, v⟩ hy
    rcases S.par n (List.of_mem_zip hy).1 with q | q
    · exact .inl q
    · exact .inr ⟨q, PySem.W.cellsFrom_some _ _ _ (.inl q)⟩
  refine codeAny_call_function hr.depth ((e0.mod.kin.keeps inS) _ _ lk) rfl S.co S.gen rfl (PySem.W.codeRec_of (e0.mod.kin.keeps inS) hcd) (hb _ _ _ _ (wpAny_newFunctionEnv_cells S.kind hkind fun env he s1 x => ?_))
  subst he
  refine ⟨(e0.mod.nolimit.keeps inS).keeps x.toInCall.keep, codeAny_func ?_⟩
  obtain ⟨t, ht, hq⟩ := hbody cdv A outer s H vs Q (hr.deeper _) hgd hsp
  refine wpAny_mono (ht.nox.run [] s1 (start N vs) H _ (inv_start S hr.hd e0 (len _ _ _ _ hsp) r x) hq) (fun fl s' hs => ?_) fun e s' hs => hs
  cases fl with
  | ret u =>
    obtain ⟨v, σ', H', J, rv, q⟩ := hs
    exact ⟨v, H', J.os, J.bare, J.base, J.hok, rv, q⟩
  | next =>
    obtain ⟨σ', H', J, q⟩ := hs
    exact ⟨V.non, H', J.os, J.bare, J.base, J.hok, rfl, q⟩
  | brk => exact hs.elim fun _ z => z.elim fun _ z => z.2.elim
  | cont => exact hs.elim fun _ z => z.elim fun _ z => z.2.elim
section
variable {X : Cx} {k : Nat} {f : Addr} {fd : FuncData} {ps : List Str} {sp : Sp} {x : Str} {p pos : Pos} {e : Expr} {es : List Expr} {t : TA}
/-- f(e, ..), f such a def -/
theorem pe_callG (F : FnG X.prog X.w X.K X.mg X.base k f fd ps sp) (hr : Room k X.A) (hgd : X.A.guards = some []) (hg : Gl X x) (hm : X.mg x = some (.ref f)) (hk : PySem.W.keepIn X.K (.ref f) = true) (hb : Binds X.K fd ps [])
    (ha : PA X (e :: es) t) (hdb : (x == ("__debug__" : Str)) = false := by decide) (he : starEach (e :: es) X.env = (false, eval e X.env) :: starEach es X.env := by rfl) (hpl : (backTo pos (starEach es X.env)).any (·.1) = false := by rfl) :
    PE X (.Call (.Name x p) (e :: es) [] pos) (tCall sp [] E0 t) := by
  refine ⟨fun pins s σ H Q I h => wpAny_Call_Name_kw (ld_glob I hg hm ?_ hdb)⟩
  refine PySem.W.callWith_K (h₀ := X.base) I.ok.mod.kin hk (thn (ha.run pos pins s σ H _ I h) fun us s1 ⟨vs, H1, I1, r, q⟩ => ⟨I1.kIn, ?_⟩) he hpl
  have q0 : sp (vs ++ []) H1 Q E0 := q
  have q' : sp vs H1 Q E0 := by rw [List.append_nil] at q0; exact q0
  have z := hb s1 us I1.kIn (by rw [List.append_nil, ← Paired.length r]; exact F.arity _ _ _ _ q')
  rw [List.append_nil] at z
  show wpAny _ _ (call (.ref f) us) _ _ _
  refine wpAny_call (codeAny_mono (F.goes X.A X.stack s1 H1 us vs Q hr hgd I1.env0 z r q') fun rr s' hq => ?_)
  cases rr with
  | error e => exact False.elim hq
  | ok fl =>
    cases fl with
    | ret u => exact I1.after hq
    | next => exact False.elim hq
    | brk => exact False.elim hq
    | cont => exact False.elim hq
end
/-- the law's own call, by such a promise -/
theorem law_callG {P : Program} {w : World} {K : PySem.W.Frag} {mg mb : Str → Option Value} {k : Nat} {fa a : Addr} {fd : FuncData} {x : Str} {sp : Sp} {s₁ : Shared} {vs : List Value} {ns : List Int}
    (KX : K.In s₁.heap) (hns : s₁.heap.Ns mainGlobals mg) (hb : s₁.heap.Ns builtinsNs mb) (hbb : ∀ x : Str, x ≠ "__name__" → mb x = bootBuiltins x) (hlim : s₁.heap.NoLimit) (hg : s₁.gens = #[])
    (ha : s₁.heap.get? a = some { cls := .type "list", data := .seq vs.toArray }) (hi : IntsAre vs ns) (hl : ns.length ≤ sizeLine) (hr : Room k callerA)
    (F : ∀ base : Heap, K.In base → base.Ns mainGlobals mg → FnG P w K mg base k fa fd [x] sp) (hbind : ∀ (s : Shared) (u : Value), BindsTo s fd ⟨[u], []⟩ [(x, u)])
    (hsp : ∀ H : Hp, Only H → SqL K H a (ns.map V.int) → sp [.ref a] H (fun v _ => v = .bl true) E0) :
    codeAny (model P w) callerA (.call (.ref fa) ⟨[.ref a], []⟩) (fun r s' => r = .ok (.ret (.bool true)) ∧ OldK s₁.heap s'.heap ∧ s'.os = s₁.os ∧ AllBare s'.gens) s₁ := by
  have rv := vals_ints hi
  have fsz : vs.length = ns.length := hi.length
  -- any abstract heap that tracks the script at most
  have core : ∀ H : Hp, Only H → SqL K H a (ns.map V.int) → HOk P w H s₁.heap → (∀ b u, H b = some u → b = a ∧ K.lookup a = none) →
      codeAny (model P w) callerA (.call (.ref fa) ⟨[.ref a], []⟩) (fun r s' => r = .ok (.ret (.bool true)) ∧ OldK s₁.heap s'.heap ∧ s'.os = s₁.os ∧ AllBare s'.gens) s₁ := by
    intro H hO hS hok hA
    have free : ∀ {b : Addr}, (∀ u, H b = some u → False) → H b = none := fun {b} z => by
      cases q : H b with
      | none => rfl
      | some u => exact (z u q).elim
    have dictFree : ∀ {b : Addr} {o : Obj} {es : Array DictEntry} {ep : Nat}, s₁.heap.get? b = some o → o.data = .dict es ep → H b = none := fun {b o es ep} e d => free fun u q => by
      obtain ⟨rfl, _⟩ := hA b u q
      rw [ha] at e
      cases e
      have d' : Data.seq vs.toArray _ = Data.dict es ep := d
      cases d'
    have under : ∀ {b : Addr} {m : Str → Option Value}, s₁.heap.Ns b m → (hidT s₁.heap H).Ns b m := fun {b m} ⟨o, es, ep, e, d, r⟩ => ⟨o, es, ep, hidT_get e (dictFree e d), d, r⟩
    have hKb : K.In (hidT s₁.heap H) := fun b o e => hidT_get (KX b o e) (free fun u q => by
      obtain ⟨rfl, z⟩ := hA b u q
      rw [z] at e
      cases e)
    have hM : Mod K mg (hidT s₁.heap H) := ⟨hKb, under hns, ⟨mb, under hb, hbb⟩, let ⟨mc, h1, h2⟩ := hlim; ⟨mc, under h1, h2⟩⟩
    have e0 : Env0 P w K mg (hidT s₁.heap H) callerA [] s₁ H := ⟨rfl, hM, fun b o e => of_hidT e, Nat.le_of_eq (hidT_size _ _), trivial, fun b hb => absurd (show b ∈ ([] : List Addr) from hb) (by simp), hok, .of_eq hg⟩
    refine codeAny_mono ((F _ hKb (under hns)).goes callerA [] s₁ H [.ref a] [.ref a] _ hr rfl e0 (hbind s₁ (.ref a)) (.cons rfl .nil) (hsp H hO hS)) fun r s' h => ?_
    cases r with
    | error e => exact False.elim h
    | ok fl =>
      cases fl with
      | next => exact False.elim h
      | brk => exact False.elim h
      | cont => exact False.elim h
      | ret u =>
        obtain ⟨v, H', os, bare, un, hok', r', q⟩ := h
        obtain rfl : v = .bl true := q
        obtain rfl : u = Value.bool true := r'
        refine ⟨rfl, OldK.of_keep fun b o e => ?_, os, bare⟩
        cases q : H b with
        | none => exact un.keep b o e q (by intro z; exact absurd (show b ∈ ([] : List Addr) from z) (by simp)) (by simp)
        | some u =>
          rcases hO b with z | ⟨ob, xs, z⟩
          · rw [q] at z
            cases z
          · obtain ⟨e1, _⟩ := hok b _ z
            obtain ⟨e2, _⟩ := hok' b _ (un.frzs b ob _ z)
            rw [e] at e1
            cases e1
            exact e2
  cases hk : K.lookup a with
  | some o =>
    have e := KX a o hk
    rw [ha] at e
    cases e
    exact core (fun _ => none) (fun _ => .inl rfl) (.inr ⟨_, vs.toArray, _, hk, rfl, rfl, rfl, by rw [List.size_toArray, fsz]; exact hl, by simpa using rv⟩) (fun b u z => nomatch z) fun b u z => nomatch z
  | none =>
    refine core (fun b => if b = a then some (.frz { cls := .type "list", data := .seq vs.toArray } (.lst (ns.map V.int))) else none) (fun b => ?_) (.inl (.inr ⟨{ cls := .type "list", data := .seq vs.toArray }, if_pos rfl⟩)) (fun b u z => ?_) fun b u z => ?_
    · by_cases hb : b = a
      · exact .inr ⟨_, _, if_pos hb⟩
      · exact .inl (if_neg hb)
    · by_cases hb : b = a
      · have z' := (if_pos hb).symm.trans z
        cases z'
        subst hb
        exact ⟨ha, by rw [List.length_map]; exact hl, vs, _, rv, ha⟩
      · have z' := (if_neg hb).symm.trans z
        cases z'
    · by_cases hb : b = a
      · exact ⟨hb, hk⟩
      · have z' := (if_neg hb).symm.trans z
        cases z'
theorem walk_G {l : PySem.W.OpenLaw} {n k : Nat} {q : Program} {loose : List Str} {XP : (Str → Option Value) → Heap → Prop} {YP : World → Heap → Prop} {d : DefRec} {K : Params → PySem.W.Frag} {sp : World → Sp} {x : Str}
    (hn : l.most = some n) (hn2 : n ≤ sizeLine) (hdf : d.params.defaults = []) (hr : Room k callerA) (hY : ∀ (w : World) (h : Heap), YP w h → (K w.params).In h)
    (F : ∀ (w : World) (mg : Str → Option Value) (fa : Addr) (h : Heap), (K w.params).In h → h.Ns mainGlobals mg → mg d.name = some (.ref fa) →
      ∃ fd : FuncData, (∀ (s : Shared) (u : Value), BindsTo s fd ⟨[u], []⟩ [(x, u)]) ∧ ∀ base : Heap, (K w.params).In base → base.Ns mainGlobals mg → FnG l.prog w (K w.params) mg base k fa fd [x] (sp w))
    (hsp : ∀ (w : World) (H : Hp) (a : Addr) (ns : List Int), ns.length ≤ n → Only H → SqL (K w.params) H a (ns.map V.int) → sp w [.ref a] H (fun v _ => v = .bl true) E0) :
    PySem.W.WalkO q loose XP YP l.row.toRowW d [] (fun f vs => PySem.call f vs) := by
  refine Att.attach_call hn hdf fun w s₀ s₁ mg mb fa o pm cd doc a vs ns G Y ho hd hcd hmg hobj hints hlen hg => ?_
  obtain ⟨fd, hb, hF⟩ := F w mg fa _ (hY w _ Y) G.T.g hmg
  exact law_callG (hY w _ Y) G.T.g G.T.b G.T.builtins G.T.nolimit hg hobj hints (Nat.le_trans hlen hn2) hr hF hb fun H hO hS => hsp w H a ns hlen hO hS

/-! ### repr of data -/
/-- a scalar as data -/
def datV : V → PyData
  | .bl b => .bool b
  | .int i => .int i
  | .str x => .str x
  | _ => .none
def scaV : V → Bool
  | .non | .bl _ | .int _ | .str _ => true
  | _ => false
theorem reads_sca {h : Heap} {v : V} {u : Value} (f : scaV v = true) (r : RelV v u) : Reads h u (datV v) [] := by
  cases v with
  | non => cases (show u = Value.none from r); exact .none
  | bl b => cases (show u = Value.bool b from r); exact .bool b
  | int i => obtain ⟨t, rfl⟩ := (show ∃ t, u = Value.int i t from r); exact .int i t
  | str x => obtain ⟨t, rfl⟩ := (show ∃ t, u = Value.str x t from r); exact .str x t
  | _ => cases f
theorem readsAll_sca {h : Heap} : ∀ {vs : List V} {us : List Value}, (∀ v ∈ vs, scaV v = true) → Vals vs us → ReadsAll h us (vs.map datV) []
  | _, _, _, .nil => .nil
  | _, _, f, .cons r t => .cons (as := []) (bs := []) (reads_sca (f _ List.mem_cons_self) r) (readsAll_sca (fun v hv => f v (List.mem_cons_of_mem _ hv)) t)
theorem pairs_vals {P : Program} {w : World} : ∀ {es : List DictEntry} {vs : List (Key × Value)} {kvs : List (Key × V)}, Pairs (mixKind P w) es vs → KV kvs vs → Vals (kvs.map fun p => kV p.1) (es.map (·.key)) ∧ Vals (kvs.map (·.2)) (es.map (·.val))
  | _, _, _, .nil, h => by
    unfold KV at h
    cases h
    exact ⟨.nil, .nil⟩
  | _, _, _, .cons h1 h2 hr, h => by
    unfold KV at h
    cases h with
    | @cons p q ps qs hp ht =>
      obtain ⟨k1, k2⟩ := pairs_vals hr ht
      obtain ⟨e1, e2⟩ := hp
      refine ⟨.cons ?_ k1, .cons ?_ k2⟩
      · have h1' := h1
        rw [mixKind_is, ← e1] at h1'
        rcases keyIs_shape h1' with ⟨i, t, ek, ev⟩ | ⟨x, t, ek, ev⟩
        · show RelV (kV p.1) _
          rw [ek]
          exact ⟨t, ev⟩
        · show RelV (kV p.1) _
          rw [ek]
          exact ⟨t, ev⟩
      · show RelV p.2 (DictEntry.val _)
        rw [h2]
        exact e2
/-- a dict of scalars as data -/
def datD (kvs : List (Key × V)) : PyData := .dict (kvs.map fun p => (datV (kV p.1), datV p.2))
theorem reads_dict {P : Program} {w : World} {H : Hp} {h : Heap} {a : Addr} {kvs : List (Key × V)} (ok : HOk P w H h) (e : H a = some (.dK kvs)) (f : ∀ p ∈ kvs, scaV p.2 = true) : Reads h (.ref a) (datD kvs) [a] ∧ sysModules ∉ [a] := by
  obtain ⟨_, ns, vs, hkv, o, es, ep, ho, ex, hd, _, hp, _⟩ := ok a _ e
  obtain ⟨k1, k2⟩ := pairs_vals hp hkv
  refine ⟨Reads.dict (as := []) (bs := []) ho ex.1 hd ?_ ?_, fun m => ?_⟩
  · have z := readsAll_sca (h := h) (fun v hv => by
      obtain ⟨p, _, rfl⟩ := List.mem_map.mp hv
      obtain ⟨k, x⟩ := p
      cases k <;> rfl) k1
    rw [List.map_map] at z
    rw [List.map_map]
    exact z
  · have z := readsAll_sca (h := h) (fun v hv => by
      obtain ⟨p, hp, rfl⟩ := List.mem_map.mp hv
      exact f p hp) k2
    rw [List.map_map] at z
    rw [List.map_map]
    exact z
  · have z := List.mem_singleton.mp m
    rw [← z] at ns
    exact absurd ns (by decide)
/-- repr(x): x a scalar, or data in the heap -/
def rRepr (K : PySem.W.Frag) : List V → Hp → VK → Prop := fun xs H Q => ∃ (x : V) (d : PyData), xs = [x] ∧ (Dp K H x d ∨ ∃ a kvs, x = .ref a ∧ H a = some (.dK kvs) ∧ (∀ p ∈ kvs, scaV p.2 = true) ∧ d = datD kvs) ∧ d.showable = true ∧ d.depth ≤ 60 ∧ d.shown.length ≤ sizeLine ∧ Q (.str d.shown) H
theorem noDict_of_dp {K : PySem.W.Frag} {H : Hp} : ∀ (d : PyData) (v : V), Dp K H v d → d.hasDict = false := by
  intro d
  exact (PyData.rec (motive_1 := fun d => ∀ v, Dp K H v d → d.hasDict = false) (motive_2 := fun ds => ∀ vs, DpAll K H vs ds → PyData.hasDictAll ds = false) (motive_3 := fun _ => True) (motive_4 := fun _ => True)
    (fun v _ => by simp only [PyData.hasDict]) (fun b v _ => by simp only [PyData.hasDict]) (fun i v _ => by simp only [PyData.hasDict]) (fun x v _ => by simp only [PyData.hasDict])
    (fun xs ih v h => by cases h with | lst hs ha => simp only [PyData.hasDict]; exact ih _ ha)
    (fun xs ih v h => by cases h with | tup hs ha => simp only [PyData.hasDict]; exact ih _ ha)
    (fun kvs _ v h => by cases h)
    (fun vs h => by simp only [PyData.hasDictAll]) (fun d ds i1 i2 vs h => by cases h with | cons h1 h2 => simp only [PyData.hasDictAll, i1 _ h1, i2 _ h2, Bool.or_self])
    trivial (fun _ _ _ _ => trivial) (fun _ _ _ _ => trivial) d)
theorem call_repr {X : Cx} (hgd : X.A.guards = some []) (hu : X.A.units + 64 < cLine) : CallR X (.builtin "repr") (rRepr X.K) := by
  intro pins s σ H xs us Q I r h
  obtain ⟨x, d, rfl, hd, hsh, hdp, hsz, q⟩ := h
  obtain ⟨u, rfl, ru⟩ := vals1 r
  have key : ∃ as, Reads s.heap u d as ∧ (d.hasDict = true → sysModules ∉ as) := by
    rcases hd with hd | ⟨a, kvs, rfl, e, f, rfl⟩
    · obtain ⟨as, hr⟩ := Dp.reads I d x u hd ru
      exact ⟨as, hr, PyData.noDict_hsm (noDict_of_dp d x hd)⟩
    · obtain ⟨hr, hm⟩ := reads_dict I.hok e f
      cases (show u = Value.ref a from ru)
      exact ⟨_, hr, fun _ => hm⟩
  obtain ⟨as, hr, hm⟩ := key
  cases hr with
  | none =>
    simp only [PyData.shown] at q
    exact PySem.P.repr_of_none ⟨.str _, H, I.tok _, ⟨_, rfl⟩, q⟩
  | bool b =>
    simp only [PyData.shown] at q
    exact PySem.P.repr_of_bool ⟨.str _, H, I.tok _, ⟨_, rfl⟩, q⟩
  | int i t =>
    simp only [PyData.shown] at q
    exact PySem.P.repr_of_int (by simpa [PyData.showable] using hsh) ⟨.str _, H, I.tok _, ⟨_, rfl⟩, q⟩
  | str y t =>
    simp only [PyData.shown] at q hsz
    exact PySem.P.repr_of_str ⟨.str _, H, I.tok _, ⟨_, rfl⟩, q⟩ hsz
  | list h1 h2 h3 h4 => exact repr_of_reads' (Reads.list h1 h2 h3 h4) hsh hm hgd (by omega) (fun _ _ e => e) (fun h' u tk hk => ⟨.str _, H, I.kept (t' := tk) hk, ⟨u, rfl⟩, q⟩) hsz
  | tuple h1 h2 h3 h4 => exact repr_of_reads' (Reads.tuple h1 h2 h3 h4) hsh hm hgd (by omega) (fun _ _ e => e) (fun h' u tk hk => ⟨.str _, H, I.kept (t' := tk) hk, ⟨u, rfl⟩, q⟩) hsz
  | dict h1 h2 h3 h4 h5 => exact repr_of_reads' (Reads.dict h1 h2 h3 h4 h5) hsh hm hgd (by omega) (fun _ _ e => e) (fun h' u tk hk => ⟨.str _, H, I.kept (t' := tk) hk, ⟨u, rfl⟩, q⟩) hsz
end L2
namespace Cr
open PySem PySem.Spec PyProof.Rows L2
def top (i : Nat) : Stmt := PySem.Challenge.pw_crateround_k00_errors.main.body.getD i (.Pass ⟨0, 0, 0, 0⟩)
abbrev sPen : Stmt := top 22
abbrev sDraw : Stmt := top 23
abbrev sPick : Stmt := top 24
/-! ### the pen: the script's cells, how many were used, what is left of a great one -/
structure PenAt (H : Hp) (p c : Addr) (ns : List Int) (u r : Int) : Prop where
  ob : ∃ kvs : List (Key × V), H p = some (.dK kvs) ∧ kvs.length ≤ 10 ∧ valV kvs (Sum.inr ("cells" : Str) : Key) = some (.ref c) ∧ valV kvs (Sum.inr ("used" : Str) : Key) = some (.int u) ∧ valV kvs (Sum.inr ("rest" : Str) : Key) = some (.int r)
  cl : H c = some (.lst (ns.map V.int))
  few : ns.length ≤ 63
  u0 : 0 ≤ u
  r0 : 0 ≤ r
theorem PenAt.ne {H : Hp} {p c : Addr} {ns : List Int} {u r : Int} (P : PenAt H p c ns u r) : c ≠ p := by
  obtain ⟨kvs, h, _⟩ := P.ob
  exact ne_of P.cl h (fun z => nomatch z)
theorem PenAt.same {H H' : Hp} {p c : Addr} {ns : List Int} {u r : Int} (P : PenAt H p c ns u r) (s : Same H H') : PenAt H' p c ns u r := by
  obtain ⟨kvs, h, k⟩ := P.ob
  exact ⟨⟨kvs, s _ _ h, k⟩, s _ _ P.cl, P.few, P.u0, P.r0⟩
theorem putK_len {kvs : List (Key × V)} {k : Key} {v x : V} (h : valV kvs k = some x) : (putK kvs k v).length = kvs.length := by
  unfold putK
  rw [if_pos (by rw [valV_any, h]; rfl), List.length_map]
theorem kCU : ¬ (Sum.inr ("cells" : Str) : Key) = Sum.inr ("used" : Str) := by decide +kernel
theorem kCR : ¬ (Sum.inr ("cells" : Str) : Key) = Sum.inr ("rest" : Str) := by decide +kernel
theorem kUR : ¬ (Sum.inr ("used" : Str) : Key) = Sum.inr ("rest" : Str) := by decide +kernel
theorem kRU : ¬ (Sum.inr ("rest" : Str) : Key) = Sum.inr ("used" : Str) := by decide +kernel
/-- the dict behind a store of rest, or of used -/
theorem PenAt.setRest {H : Hp} {p c : Addr} {ns : List Int} {u r r' : Int} {kvs : List (Key × V)} (P : PenAt H p c ns u r) (h : H p = some (.dK kvs)) (hl : kvs.length ≤ 10)
    (v1 : valV kvs (Sum.inr ("cells" : Str) : Key) = some (.ref c)) (v2 : valV kvs (Sum.inr ("used" : Str) : Key) = some (.int u)) (v3 : valV kvs (Sum.inr ("rest" : Str) : Key) = some (.int r)) (h0 : 0 ≤ r') :
    PenAt (upd H p (.dK (putK kvs (Sum.inr ("rest" : Str)) (.int r')))) p c ns u r' :=
  ⟨⟨_, upd_same, by rw [putK_len v3]; exact hl, by rw [valV_put, if_neg kCR]; exact v1, by rw [valV_put, if_neg kUR]; exact v2, by rw [valV_put, if_pos rfl]⟩, by rw [upd_ne P.ne]; exact P.cl, P.few, P.u0, h0⟩
theorem PenAt.setUsed {H : Hp} {p c : Addr} {ns : List Int} {u r u' : Int} {kvs : List (Key × V)} (P : PenAt H p c ns u r) (h : H p = some (.dK kvs)) (hl : kvs.length ≤ 10)
    (v1 : valV kvs (Sum.inr ("cells" : Str) : Key) = some (.ref c)) (v2 : valV kvs (Sum.inr ("used" : Str) : Key) = some (.int u)) (v3 : valV kvs (Sum.inr ("rest" : Str) : Key) = some (.int r)) (h0 : 0 ≤ u') :
    PenAt (upd H p (.dK (putK kvs (Sum.inr ("used" : Str)) (.int u')))) p c ns u' r :=
  ⟨⟨_, upd_same, by rw [putK_len v2]; exact hl, by rw [valV_put, if_neg kCU]; exact v1, by rw [valV_put, if_pos rfl], by rw [valV_put, if_neg kRU]; exact v3⟩, by rw [upd_ne P.ne]; exact P.cl, P.few, h0, P.r0⟩
/-! ### lists of ints as data -/
theorem dp_ints {K : PySem.W.Frag} {H : Hp} : ∀ ns : List Int, DpAll K H (ns.map V.int) (ns.map PyData.int)
  | [] => .nil
  | n :: r => .cons (.int n) (dp_ints r)
theorem lay_ints : ∀ ns : List Int, PyData.canLayAll0 (ns.map PyData.int) = true
  | [] => by simp [PyData.canLayAll0]
  | n :: r => by simp [PyData.canLayAll0, PyData.canLay0, lay_ints r]
theorem dep_ints : ∀ ns : List Int, PyData.depthAll (ns.map PyData.int) = 0
  | [] => by simp [PyData.depthAll]
  | n :: r => by simp [PyData.depthAll, PyData.depth, dep_ints r]
theorem shaped_ints (ns : List Int) : SeqAt.shaped (.list (ns.map PyData.int)) = true := by
  unfold SeqAt.shaped
  rw [Bool.and_eq_true]
  refine ⟨?_, decide_eq_true ?_⟩
  · simp only [PyData.canLay0]
    exact lay_ints ns
  · simp only [PyData.depth, dep_ints]
    omega
theorem eqv_nil (ns : List Int) : PyData.eqv (.list (ns.map PyData.int)) (.list []) = ns.isEmpty := by
  cases ns with
  | nil => simp [PyData.eqv, PyData.eqvAll]
  | cons n r => simp [PyData.eqv, PyData.eqvAll]
theorem bInt : bootBuiltins "int" = some (.type "int") := by decide +kernel
theorem bAbs : bootBuiltins "abs" = some (.builtin "abs") := by decide +kernel
theorem bList : bootBuiltins "list" = some (.type "list") := by decide +kernel
/-- names of the module that are the built-ins' own -/
structure Blt (mg : Str → Option Value) : Prop where
  int : mg "int" = none
  abs : mg "abs" = none
  list : mg "list" = none
  len : mg "len" = none
  range : mg "range" = none
  isi : mg "isinstance" = none
  repr : mg "repr" = none
theorem dget_s {H : Hp} {a : Addr} {kvs : List (Key × V)} {x : Str} {v : V} (e : H a = some (.dK kvs)) (h : valV kvs (Sum.inr x : Key) = some v) : DGet H a (.str x) (some v) := by
  have z := DGet.k (k := (Sum.inr x : Key)) e
  rw [h] at z
  exact z
theorem dput_s {H : Hp} {a : Addr} {kvs : List (Key × V)} {x : Str} {v : V} (e : H a = some (.dK kvs)) (hl : kvs.length ≤ 10) : DPut H a (.str x) v (upd H a (.dK (putK kvs (Sum.inr x : Key) v))) :=
  DPut.k (k := (Sum.inr x : Key)) e (Nat.lt_of_le_of_lt hl (by decide))
theorem ifd {c : Prop} [Decidable c] {A B : Prop} (h1 : c → A) (h2 : ¬ c → B) : if decide c = true then A else B := by
  by_cases h : c
  · rw [if_pos (decide_eq_true h)]
    exact h1 h
  · rw [if_neg (by rw [decide_eq_false h]; exact Bool.false_ne_true)]
    exact h2 h
theorem ifb {b : Bool} {A B : Prop} (h1 : b = true → A) (h2 : b = false → B) : if b = true then A else B := by
  cases b with
  | true => exact (if_pos rfl : (if true = true then A else B) = A) ▸ h1 rfl
  | false => exact (if_neg Bool.false_ne_true : (if false = true then A else B) = B) ▸ h2 rfl
theorem atI_in {xs : List V} {i : Int} {n : Int} (hn : n = (xs.length : Int)) (h0 : 0 ≤ i) (h1 : i < n) : ∃ v, atI xs i = some v ∧ v ∈ xs := by
  have hl : i.toNat < xs.length := by omega
  refine ⟨xs[i.toNat], ?_, List.getElem_mem hl⟩
  have e : i = ((i.toNat : Nat) : Int) := by omega
  have z : atI xs ((i.toNat : Nat) : Int) = some xs[i.toNat] := atI_nat (by simp [List.getElem?_eq_getElem hl])
  rwa [← e] at z
theorem em {x n : Int} (h0 : 0 < n) (h1 : n ≤ 18446744073709551616) : -(2 ^ 64) < x % n ∧ x % n < 2 ^ 64 := by
  have a := Int.emod_nonneg x (by omega : n ≠ 0)
  have b := Int.emod_lt_of_pos x h0
  omega
/-! ### the promises -/
def spPen (K : PySem.W.Frag) : Sp := fun vs H Q _ => ∃ (a : Addr) (ns : List Int), vs = [.ref a] ∧ SqL K H a (ns.map V.int) ∧ ns.length ≤ 63 ∧ ∀ (p c : Addr) (H' : Hp), Same H H' → PenAt H' p c ns 0 0 → Q (.ref p) H'
/-- a draw: a number from 0 to m - 1; the pen alone changes -/
def spDraw : Sp := fun vs H Q _ => ∃ (p c : Addr) (ns : List Int) (u r m : Int), vs = [.ref p, .int m] ∧ PenAt H p c ns u r ∧ u ≤ 1000000 ∧ 0 < m ∧ m ≤ 1000000 ∧
  ∀ (d u' r' : Int) (H' : Hp), 0 ≤ d → d < m → u' ≤ u + 1 → PenAt H' p c ns u' r' → (∀ b o, H b = some o → b ≠ p → H' b = some o) → Q (.int d) H'
local macro_rules | `(tactic| walk_at "pe") => `(tactic| first
  | exact pe_int
  | exact pe_bl
  | exact pe_non
  | exact pe_str
  | ((with_reducible show PE _ (Expr.Name _ _) _); first | exact pv 0 | exact pv 1 | exact pv 2 | exact pv 3 | exact pv 4 | exact pv 5 | exact pv 6 | exact pv 7 | exact pv 8 | exact pv 9 | exact pv 10 | exact pv 11)
  | ((with_reducible show PE _ (Expr.BinOp _ Operator.Add _ _) _); refine' pe_op op_add ?p1 ?p2; (case p1 => walk_at "pe"); (case p2 => walk_at "pe"))
  | ((with_reducible show PE _ (Expr.BinOp _ Operator.Sub _ _) _); refine' pe_op op_sub ?p1 ?p2; (case p1 => walk_at "pe"); (case p2 => walk_at "pe"))
  | ((with_reducible show PE _ (Expr.BinOp _ Operator.Mult _ _) _); refine' pe_op op_mul ?p1 ?p2; (case p1 => walk_at "pe"); (case p2 => walk_at "pe"))
  | ((with_reducible show PE _ (Expr.BinOp _ Operator.Mod _ _) _); refine' pe_op op_mod ?p1 ?p2; (case p1 => walk_at "pe"); (case p2 => walk_at "pe"))
  | ((with_reducible show PE _ (Expr.BinOp _ Operator.FloorDiv _ _) _); refine' pe_op op_fdiv ?p1 ?p2; (case p1 => walk_at "pe"); (case p2 => walk_at "pe"))
  | ((with_reducible show PE _ (Expr.BinOp _ Operator.Pow _ _) _); refine' pe_op op_pow ?p1 ?p2; (case p1 => walk_at "pe"); (case p2 => walk_at "pe"))
  | ((with_reducible show PE _ (Expr.UnaryOp UnaryOp.USub _ _) _); refine' pe_un un_neg ?p1; (case p1 => walk_at "pe"))
  | ((with_reducible show PE _ (Expr.Subscript _ (Expr.Constant (Const.str _) _ _) _) _); refine' pe_dget (by assumption) ?p1 pe_str (fun _ _ => rfl); (case p1 => walk_at "pe"))
  | ((with_reducible show PE _ (Expr.Subscript _ _ _) _); refine' pe_ix ix_list ?p1 ?p2 (fun _ _ => rfl); (case p1 => walk_at "pe"); (case p2 => walk_at "pe"))
  | ((with_reducible show PE _ (Expr.Call (Expr.Name "int" _) _ _ _) _); refine' pe_callTy call_int1 (by rfl) (by assumption) bInt (pa_cons ?p1 pa_nil); (case p1 => walk_at "pe"))
  | ((with_reducible show PE _ (Expr.Call (Expr.Name "abs" _) _ _ _) _); refine' pe_callB call_abs (by rfl) (by assumption) bAbs (pa_cons ?p1 pa_nil); (case p1 => walk_at "pe"))
  | ((with_reducible show PE _ (Expr.Call (Expr.Name "len" _) _ _ _) _); refine' pe_callB call_len_seq (by rfl) (by assumption) PySem.boot_len (pa_cons ?p1 pa_nil); (case p1 => walk_at "pe"))
  | ((with_reducible show PE _ (Expr.List _ _) _); refine' pe_lst ?p1; (case p1 => walk_at "pa"))
  | ((with_reducible show PE _ (Expr.Tuple _ _ _) _); refine' pe_tup ?p1; (case p1 => walk_at "pa")))
local macro_rules | `(tactic| walk_at "pa") => `(tactic| first | exact pa_nil | (refine' pa_cons ?p1 ?p2; (case p1 => walk_at "pe"); (case p2 => walk_at "pa")))
local macro_rules | `(tactic| walk_at "pt") => `(tactic| first
  | ((with_reducible show PT _ (Expr.Compare _ [CmpOp.Gt] [_] _) _); refine' pt_cmpR op_gt ?p1 ?p2 (nomark _); (case p1 => walk_at "pe"); (case p2 => walk_at "pe"))
  | ((with_reducible show PT _ (Expr.Compare _ [CmpOp.GtE] [_] _) _); refine' pt_cmpR op_ge ?p1 ?p2 (nomark _); (case p1 => walk_at "pe"); (case p2 => walk_at "pe"))
  | ((with_reducible show PT _ (Expr.Compare _ [CmpOp.Lt] [_] _) _); refine' pt_cmpR op_lt ?p1 ?p2 (nomark _); (case p1 => walk_at "pe"); (case p2 => walk_at "pe"))
  | ((with_reducible show PT _ (Expr.Compare _ [CmpOp.LtE] [_] _) _); refine' pt_cmpR op_le ?p1 ?p2 (nomark _); (case p1 => walk_at "pe"); (case p2 => walk_at "pe"))
  | ((with_reducible show PT _ (Expr.Compare _ [CmpOp.NotEq] [Expr.List [] _] _) _); refine' pt_cmpR (op_neD (by assumption)) ?p1 (pe_lst pa_nil) (nomark _); (case p1 => walk_at "pe"))
  | ((with_reducible show PT _ (Expr.BoolOp BoolOp.And [_, _] _) _); refine' PW.pt (pw_and ?p1 (pw_and1 ?p2)); (case p1 => walk_at "pt"); (case p2 => walk_at "pt")))
local macro_rules | `(tactic| walk_at "st") => `(tactic| first
  | ((with_reducible show PS _ (Stmt.Return (some _) _) _); refine' ps_ret ?p1; (case p1 => walk_at "pe"))
  | ((with_reducible show PS _ (Stmt.Assign [Expr.Subscript _ _ _] _ _) _); refine' ps_dput (by assumption) ?p1 ?p2 ?p3 rfl; (case p1 => walk_at "pe"); (case p2 => walk_at "pe"); (case p3 => walk_at "pe"))
  | ((with_reducible show PS _ (Stmt.Assign [Expr.Name _ _] _ _) _); (first | refine' ps_set (i := 1) (by assumption) rfl (Or.inl rfl) ?p1 | refine' ps_set (i := 2) (by assumption) rfl (Or.inl rfl) ?p1 | refine' ps_set (i := 3) (by assumption) rfl (Or.inl rfl) ?p1 | refine' ps_set (i := 4) (by assumption) rfl (Or.inl rfl) ?p1 | refine' ps_set (i := 5) (by assumption) rfl (Or.inl rfl) ?p1 | refine' ps_set (i := 6) (by assumption) rfl (Or.inl rfl) ?p1 | refine' ps_set (i := 7) (by assumption) rfl (Or.inl rfl) ?p1 | refine' ps_set (i := 8) (by assumption) rfl (Or.inl rfl) ?p1 | refine' ps_set (i := 9) (by assumption) rfl (Or.inl rfl) ?p1 | refine' ps_set (i := 10) (by assumption) rfl (Or.inl rfl) ?p1 | refine' ps_set (i := 11) (by assumption) rfl (Or.inl rfl) ?p1); (case p1 => walk_at "pe"))
  | ((with_reducible show PS _ (Stmt.If _ _ _ _) _); refine' ps_if ?p1 ?p2 ?p3; (case p1 => walk_at "pt"); (case p2 => walk_at "ps"); (case p3 => walk_at "ps")))
local macro_rules | `(tactic| walk_at "ps") => `(tactic| first
  | exact pss_nil | (refine' pss_one ?p1; (case p1 => walk_at "st")) | (refine' pss_cons ?p1 ?p2; (case p1 => walk_at "st"); (case p2 => walk_at "ps")))
section
variable {P : Program} {w : World} {K : PySem.W.Frag} {mg : Str → Option Value} {base : Heap}
theorem scDraw : FnScope ["_law_pen_here", "_law_many", "_law_digit", "_law_used", "_law_cell", "_law_mix"] ["_law_pen_here", "_law_many"] (defScope sDraw) := ⟨rfl, rfl, rfl, by decide +kernel, rfl, by decide +kernel, by decide +kernel⟩
theorem ok_draw {f : Addr} {fd : FuncData} (F : Fun K "_law_draw" "_law_draw" sDraw f fd) (B : Blt mg) : FnOk P w K mg base CX0 1 f fd ["_law_pen_here", "_law_many"] spDraw := by
  refine F.ok scDraw (fun vs H Q E h => ?_) (fun cdv A outer s H vs Q E hr h => ?_)
  · obtain ⟨p, c, ns, u, r, m, rfl, _⟩ := h
    rfl
  · obtain ⟨p, c, ns, u, r, m, rfl, PA, hu6, hm0, hm1, k⟩ := h
    have hu := hu_of hr
    have hu64 := hr.units
    have m1 := B.int
    have m2 := B.abs
    have m3 := B.len
    have nd : (["_law_pen_here", "_law_many", "_law_digit", "_law_used", "_law_cell", "_law_mix"] : List Str).Nodup := scDraw.nd
    refine' Exists.intro _ (And.intro ?d ?r)
    case d => walk_at "ps"
    case r =>
      obtain ⟨kvs, hp, hl, v1, v2, v3⟩ := PA.ob
      have hc := PA.cl
      -- if pen['rest'] > 0
      refine ⟨_, rfl, _, _, rfl, dget_s hp v3, _, _, rfl, rfl, _, rfl, ifd (fun c0 => ?_) (fun c0 => ?_)⟩
      · -- digit = int(rest) % many; pen['rest'] = rest // many; return digit
        refine ⟨_, rfl, _, _, rfl, dget_s hp v3, .inl ⟨_, rfl, ?_⟩⟩
        refine ⟨_, rfl, _, _, rfl, rfl, hm0, ?_⟩
        refine ⟨_, rfl, _, _, rfl, dget_s hp v3, _, rfl, _, _, rfl, rfl, ⟨hm0, by omega⟩, ?_⟩
        refine ⟨_, rfl, _, _, rfl, dput_s hp hl, ?_⟩
        refine ⟨_, rfl, ?_⟩
        exact k _ _ _ _ (Int.emod_nonneg _ (by omega)) (Int.emod_lt_of_pos _ hm0) (by omega) (PA.setRest hp hl v1 v2 v3 (Int.ediv_nonneg PA.r0 (by omega))) fun b o e hb => by rw [upd_ne hb]; exact e
      · -- used = pen['used']; pen['used'] = used + 1; cell = 59 * used + 17
        refine ⟨_, rfl, _, _, rfl, dget_s hp v2, ?_⟩
        refine ⟨_, rfl, _, _, rfl, rfl, _, rfl, _, _, rfl, dput_s hp hl, ?_⟩
        have PA1 := PA.setUsed (u' := u + 1) hp hl v1 v2 v3 (by have := PA.u0; omega)
        have keep1 : ∀ b o, H b = some o → b ≠ p → (upd H p (.dK (putK kvs (Sum.inr ("used" : Str)) (.int (u + 1))))) b = some o := fun b o e hb => by rw [upd_ne hb]; exact e
        generalize upd H p (.dK (putK kvs (Sum.inr ("used" : Str)) (.int (u + 1)))) = H1 at PA1 keep1 ⊢
        clear hp hl v1 v2 v3 hc kvs
        obtain ⟨kvs, hp, hl, v1, v2, v3⟩ := PA1.ob
        have hc := PA1.cl
        have u0 := PA.u0
        refine ⟨_, rfl, _, _, rfl, rfl, .inl ⟨by decide, by decide⟩, _, _, rfl, rfl, ?_⟩
        -- if pen['cells'] != []
        refine ⟨_, rfl, _, _, rfl, dget_s hp v1, Nat.zero_le _, fun q hq => ?_⟩
        have nq : c ≠ q := ne_of_none hc hq
        refine ⟨PyData.list (ns.map PyData.int), PyData.list [], .lst (.inl (.inl (by rw [upd_ne nq]; exact hc))) (dp_ints ns), .lst (.inl (.inl upd_same)) .nil, shaped_ints ns, by decide +kernel, _, rfl, ?_⟩
        have s2 : Same H1 (upd H1 q (.lst [])) := fun b o e => by rw [upd_ne (ne_of_none e hq)]; exact e
        have PA2 := PA1.same s2
        have keep2 : ∀ b o, H b = some o → b ≠ p → (upd H1 q (.lst [])) b = some o := fun b o e hb => s2 b o (keep1 b o e hb)
        generalize upd H1 q (.lst []) = H2 at PA2 keep2 ⊢
        clear hp hl v1 v2 v3 hc kvs s2 PA1 keep1
        obtain ⟨kvs, hp, hl, v1, v2, v3⟩ := PA2.ob
        have hc := PA2.cl
        refine ifb (fun hne => ?_) (fun he => ?_)
        rw [eqv_nil] at hne
        have hpos : 0 < ns.length := by
          cases ns with
          | nil => cases hne
          | cons a l => exact Nat.succ_pos _
        have hlen : (ns.map V.int).length = ns.length := List.length_map ..
        refine ⟨_, rfl, _, _, rfl, dget_s hp v1, _, rfl, .inl ⟨_, rfl, ?_⟩⟩
        refine ⟨_, rfl, _, _, rfl, dget_s hp v1, _, _, rfl, .inl (.inl (.inl hc)), _, _, rfl, rfl, by rw [hlen]; omega, ?_⟩
        obtain ⟨v, hv, hm⟩ := atI_in (xs := ns.map V.int) (i := u % ((ns.map V.int).length : Int)) rfl (Int.emod_nonneg _ (by omega)) (Int.emod_lt_of_pos _ (by omega))
        obtain ⟨z, _, rfl⟩ := List.mem_map.mp hm
        refine ⟨_, _, _, _, rfl, rfl, .inl (.inl hc), hv, ?_⟩
        -- both ways on: used < len(cells) and abs(cell) >= 10 ** 18
        all_goals refine ⟨_, rfl, _, rfl, _, _, rfl, dget_s hp v1, _, _, rfl, .inl (.inl (.inl hc)), _, _, rfl, rfl, _, rfl, ifd (fun cl => ?_) (fun ncl => ?_)⟩
        all_goals first
          | refine iteF ?_
          | refine ⟨_, rfl, _, rfl, _, _, rfl, rfl, ⟨by decide, by decide, by decide⟩, _, _, rfl, rfl, _, rfl, ifd (fun big => ?_) (fun nbig => ?_)⟩
        all_goals first
          | (-- pen['rest'] = (abs(cell) - 10 ** 18) // many; return int(abs(cell) - 10 ** 18) % many
            refine ⟨_, rfl, _, rfl, _, _, rfl, rfl, ⟨by decide, by decide, by decide⟩, _, _, rfl, rfl, _, rfl, _, _, rfl, rfl, ⟨hm0, by omega⟩, ?_⟩
            refine ⟨_, rfl, _, _, rfl, dput_s hp hl, ?_⟩
            refine ⟨_, rfl, _, rfl, _, _, rfl, rfl, ⟨by decide, by decide, by decide⟩, _, _, rfl, rfl, .inl ⟨_, rfl, ?_⟩⟩
            refine ⟨_, rfl, _, _, rfl, rfl, hm0, ?_⟩
            exact k _ _ _ _ (Int.emod_nonneg _ (by omega)) (Int.emod_lt_of_pos _ hm0) (by omega) (PA2.setRest hp hl v1 v2 v3 (Int.ediv_nonneg (by omega) (by omega))) fun b o e hb => by rw [upd_ne hb]; exact keep2 b o e hb)
          | (-- the three mixings
            refine ⟨_, rfl, .inl ⟨_, rfl, _, _, rfl, rfl, (by decide : (0 : Int) < 4294967291), _, _, rfl, rfl, .inr ⟨by decide, by decide⟩, ?_⟩⟩
            refine ⟨_, rfl, _, _, rfl, rfl, .inl ⟨by decide, by decide⟩, _, rfl, _, _, rfl, rfl, .inr ⟨by omega, by omega⟩, _, _, rfl, rfl, _, _, rfl, rfl, .inl ⟨_, rfl, _, _, rfl, rfl, (by decide : (0 : Int) < 4294967189), ?_⟩⟩
            refine ⟨_, rfl, _, rfl, _, _, rfl, rfl, .inl (em (by decide) (by decide)), ?_⟩
            refine ⟨_, rfl, _, _, rfl, rfl, .inl ⟨by decide, by decide⟩, _, _, rfl, rfl, ?_⟩
            refine ⟨_, rfl, _, _, rfl, rfl, .inl ⟨by decide, by decide⟩, _, _, rfl, rfl, _, _, rfl, rfl, .inl ⟨_, rfl, _, _, rfl, rfl, (by decide : (0 : Int) < 4294967161), ?_⟩⟩
            refine ⟨_, rfl, _, rfl, _, _, rfl, rfl, .inl (em (by decide) (by decide)), ?_⟩
            refine ⟨_, rfl, _, _, rfl, rfl, .inl ⟨by decide, by decide⟩, _, _, rfl, rfl, ?_⟩
            refine ⟨_, rfl, _, _, rfl, rfl, .inl ⟨_, rfl, _, _, rfl, rfl, (by decide : (0 : Int) < 4294967143), ?_⟩⟩
            -- return int(int(mix * (mix + 16807)) % 4294967111 // 64) % many
            refine ⟨_, rfl, _, rfl, _, _, rfl, rfl, _, _, rfl, rfl, .inl (em (by decide) (by decide)), .inl ⟨_, rfl, ?_⟩⟩
            refine ⟨_, _, rfl, rfl, (by decide : (0 : Int) < 4294967111), _, _, rfl, rfl, ⟨by decide, by decide⟩, .inl ⟨_, rfl, ?_⟩⟩
            refine ⟨_, rfl, _, _, rfl, rfl, hm0, ?_⟩
            exact k _ _ _ _ (Int.emod_nonneg _ (by omega)) (Int.emod_lt_of_pos _ hm0) (by omega) PA2 keep2)
end



abbrev sOdd : Stmt := top 25
theorem same_new {H : Hp} {p : Addr} {o : HO} (h : H p = none) : Same H (upd H p o) := fun b u e => by rw [upd_ne (ne_of_none e h)]; exact e
theorem new_at {H : Hp} {p : Addr} {o : HO} (h : H p = none) : ∃ H', upd H p o = H' ∧ Same H H' ∧ H' p = some o := ⟨_, rfl, same_new h, upd_same⟩
theorem new_dict {H : Hp} {p : Addr} {o u : HO} (h : H p = none) : ∃ H', upd (upd H p u) p o = H' ∧ Same H H' ∧ H' p = some o := ⟨_, rfl, by rw [upd_upd]; exact same_new h, upd_same⟩
theorem Same.tup {K : PySem.W.Frag} {H H' : Hp} {a : Addr} {xs : List V} (e : Same H H') (h : SqT K H a xs) : SqT K H' a xs := by
  rcases h with (h | ⟨o, h⟩) | h
  · exact .inl (.inl (e _ _ h))
  · exact .inl (.inr ⟨o, e _ _ h⟩)
  · exact .inr h
theorem dp_same {K : PySem.W.Frag} {H H' : Hp} (s : Same H H') : ∀ (d : PyData) (v : V), Dp K H v d → Dp K H' v d := fun d =>
  PyData.rec (motive_1 := fun d => ∀ v, Dp K H v d → Dp K H' v d) (motive_2 := fun ds => ∀ vs, DpAll K H vs ds → DpAll K H' vs ds) (motive_3 := fun _ => True) (motive_4 := fun _ => True)
    (fun v h => by cases h; exact .non) (fun b v h => by cases h; exact .bl b) (fun i v h => by cases h; exact .int i) (fun x v h => by cases h; exact .str x)
    (fun xs ih v h => by cases h with | lst hs ha => exact .lst (s.seq hs) (ih _ ha))
    (fun xs ih v h => by cases h with | tup hs ha => exact .tup (Same.tup s hs) (ih _ ha))
    (fun kvs _ v h => by cases h)
    (fun vs h => by cases h; exact .nil) (fun d ds i1 i2 vs h => by cases h with | cons h1 h2 => exact .cons (i1 _ h1) (i2 _ h2))
    trivial (fun _ _ _ _ => trivial) (fun _ _ _ _ => trivial) d
/-- a value whose repr can be asked, and that is equal to itself -/
def Odd (K : PySem.W.Frag) (H : Hp) (v : V) : Prop :=
  (∃ d, Dp K H v d ∧ d.showable = true ∧ d.depth ≤ 60 ∧ d.shown.length ≤ sizeLine ∧ SeqAt.shaped d = true ∧ PyData.eqv d d = true) ∨
  ∃ a kvs, v = .ref a ∧ H a = some (.dK kvs) ∧ (∀ p ∈ kvs, scaV p.2 = true ∧ flatB p.2 = true) ∧ (kvs.map (·.1)).Nodup ∧ (datD kvs).showable = true ∧ (datD kvs).depth ≤ 60 ∧ (datD kvs).shown.length ≤ sizeLine
theorem Odd.same {K : PySem.W.Frag} {H H' : Hp} {v : V} (o : Odd K H v) (s : Same H H') : Odd K H' v := by
  rcases o with ⟨d, h, k⟩ | ⟨a, kvs, rfl, h, k⟩
  · exact .inl ⟨d, dp_same s d v h, k⟩
  · exact .inr ⟨a, kvs, rfl, s _ _ h, k⟩
theorem odd_of {K : PySem.W.Frag} {H : Hp} {v : V} (d : PyData) (h : Dp K H v d) (k : (d.showable && (decide (d.depth ≤ 60) && (decide (d.shown.length ≤ sizeLine) && (SeqAt.shaped d && PyData.eqv d d)))) = true) : Odd K H v := by
  simp only [Bool.and_eq_true, decide_eq_true_eq] at k
  exact .inl ⟨d, h, k.1, k.2.1, k.2.2.1, k.2.2.2.1, k.2.2.2.2⟩
theorem odd_dict {K : PySem.W.Frag} {H : Hp} {a : Addr} (kvs : List (Key × V)) (h : H a = some (.dK kvs)) (k1 : ∀ p ∈ kvs, scaV p.2 = true ∧ flatB p.2 = true) (k2 : (kvs.map (·.1)).Nodup) (k : ((datD kvs).showable && (decide ((datD kvs).depth ≤ 60) && decide ((datD kvs).shown.length ≤ sizeLine))) = true) : Odd K H (.ref a) := by
  simp only [Bool.and_eq_true, decide_eq_true_eq] at k
  exact .inr ⟨a, kvs, rfl, h, k1, k2, k.1, k.2.1, k.2.2⟩
/-- an item of a list of odd values, and the pen behind -/
def spPick (K : PySem.W.Frag) : Sp := fun vs H Q _ => ∃ (p c l : Addr) (ns : List Int) (u r : Int) (xs : List V), vs = [.ref p, .ref l] ∧ PenAt H p c ns u r ∧ u ≤ 1000000 ∧ H l = some (.lst xs) ∧ 0 < xs.length ∧ xs.length ≤ 1000 ∧
  ∀ (v : V) (u' r' : Int) (H' : Hp), v ∈ xs → u' ≤ u + 1 → PenAt H' p c ns u' r' → (∀ b o, H b = some o → b ≠ p → H' b = some o) → Q v H'
def spOdd (K : PySem.W.Frag) : Sp := fun vs H Q _ => ∃ (p c : Addr) (ns : List Int) (u r : Int), vs = [.ref p] ∧ PenAt H p c ns u r ∧ u ≤ 1000000 ∧
  ∀ (v : V) (u' r' : Int) (H' : Hp), Odd K H' v → u' ≤ u + 1 → PenAt H' p c ns u' r' → (∀ b o, H b = some o → b ≠ p → H' b = some o) → Q v H'
theorem merge3 (x y z : V) : mergeK [] [((Sum.inr ("cells" : Str) : Key), x), (Sum.inr ("used" : Str), y), (Sum.inr ("rest" : Str), z)] = [((Sum.inr ("cells" : Str) : Key), x), (Sum.inr ("used" : Str), y), (Sum.inr ("rest" : Str), z)] := by
  kernel_rfl
theorem val3a (x y z : V) : valV [((Sum.inr ("cells" : Str) : Key), x), (Sum.inr ("used" : Str), y), (Sum.inr ("rest" : Str), z)] (Sum.inr ("cells" : Str)) = some x := by kernel_rfl
theorem val3b (x y z : V) : valV [((Sum.inr ("cells" : Str) : Key), x), (Sum.inr ("used" : Str), y), (Sum.inr ("rest" : Str), z)] (Sum.inr ("used" : Str)) = some y := by kernel_rfl
theorem val3c (x y z : V) : valV [((Sum.inr ("cells" : Str) : Key), x), (Sum.inr ("used" : Str), y), (Sum.inr ("rest" : Str), z)] (Sum.inr ("rest" : Str)) = some z := by kernel_rfl
theorem cut_all {xs : List V} (h : xs.length ≤ 63) : cutV xs none (some 63) = xs := by
  unfold cutV
  have e1 : HT.sIx xs.length xs.length (some 63) = xs.length := by
    have z := HT.sIx_nat xs.length xs.length 63
    have z' : HT.sIx xs.length xs.length (some (63 : Int)) = min 63 xs.length := z
    rw [z']
    exact Nat.min_eq_right h
  rw [e1, HT.sIx_none, Nat.sub_zero, List.drop_zero, List.take_length]
section
variable {P : Program} {w : World} {K : PySem.W.Frag} {mg : Str → Option Value} {base : Heap}
theorem scPen : FnScope ["_law_script"] ["_law_script"] (defScope sPen) := ⟨rfl, rfl, rfl, by decide +kernel, rfl, by decide +kernel, by decide +kernel⟩
theorem ok_pen {f : Addr} {fd : FuncData} (F : Fun K "_law_pen" "_law_pen" sPen f fd) (B : Blt mg) : FnOk P w K mg base CX0 1 f fd ["_law_script"] (spPen K) := by
  refine F.ok scPen (fun vs H Q E h => ?_) (fun cdv A outer s H vs Q E hr h => ?_)
  · obtain ⟨a, ns, rfl, _⟩ := h
    rfl
  · obtain ⟨a, ns, rfl, hS, hl, k⟩ := h
    refine ⟨_, pss_one (ps_ret (pe_disp (pps_cons pe_str (pe_callTy call_list_of (by rfl) B.list bList (pa_cons (pe_slice sl_list (pv 0) po_none (po_some pe_int)) pa_nil)) (pps_cons pe_str pe_int (pps_cons pe_str pe_int pps_nil))) rfl rfl (by simp) (by decide))), ?_⟩
    intro p hp
    have s1 := same_new (o := .dK []) hp
    refine ⟨_, rfl, _, rfl, _, _, rfl, s1.seq hS, fun t ht => ?_⟩
    have s2 : Same H (upd (upd H p (.dK [])) t (.lst (cutV (ns.map V.int) none (some 63)))) := s1.trans (same_new ht)
    refine ⟨_, _, rfl, .inl (.inl (.inl upd_same)), fun l hl' => ?_⟩
    have npt : p ≠ t := ne_of_none (upd_same (H := H) (a := p) (o := .dK [])) ht
    have npl : p ≠ l := ne_of_none (show (upd (upd H p (.dK [])) t (.lst (cutV (ns.map V.int) none (some 63)))) p = some (.dK []) by rw [upd_ne npt, upd_same]) hl'
    refine ⟨by rw [upd_ne npl, upd_ne npt, upd_same], [(Sum.inr "cells", .ref l), (Sum.inr "used", .int 0), (Sum.inr "rest", .int 0)], rfl, by show 3 ≤ 15; decide, ?_⟩
    rw [merge3]
    refine k p l _ (fun b o e => ?_) ⟨⟨_, upd_same, by show 3 ≤ 10; decide, val3a _ _ _, val3b _ _ _, val3c _ _ _⟩, ?_, hl, Int.le_refl 0, Int.le_refl 0⟩
    · rw [upd_ne (ne_of_none e hp)]
      exact (s2.trans (same_new hl')) b o e
    · rw [upd_ne npl.symm, upd_same, cut_all (by rw [List.length_map]; exact hl)]
theorem scPick : FnScope ["_law_pen_here", "_law_items"] ["_law_pen_here", "_law_items"] (defScope sPick) := ⟨rfl, rfl, rfl, by decide +kernel, rfl, by decide +kernel, by decide +kernel⟩
theorem ok_pick {f g : Addr} {fd gd : FuncData} (F : Fun K "_law_pick" "_law_pick" sPick f fd) (B : Blt mg) (G : FnOk P w K mg base CX0 1 g gd ["_law_pen_here", "_law_many"] spDraw) (bG : Binds K gd ["_law_pen_here", "_law_many"] []) (mG : mg "_law_draw" = some (.ref g)) (kG : PySem.W.keepIn K (.ref g) = true) :
    FnOk P w K mg base CX0 2 f fd ["_law_pen_here", "_law_items"] (spPick K) := by
  refine F.ok scPick (fun vs H Q E h => ?_) (fun cdv A outer s H vs Q E hr h => ?_)
  · obtain ⟨p, c, l, ns, u, r, xs, rfl, _⟩ := h
    rfl
  · obtain ⟨p, c, l, ns, u, r, xs, rfl, PA, hu6, hL, h0, h1, k⟩ := h
    have m3 := B.len
    refine ⟨_, pss_one (ps_ret (pe_ix ix_list (pv 1) (pe_call G hr (by rfl) mG kG bG .nil pass0 (pa_cons (pv 0) (pa_cons (by walk_at "pe") pa_nil))) (fun _ _ => rfl))), ?_⟩
    have nlp : l ≠ p := by
      obtain ⟨kvs, hp, _⟩ := PA.ob
      exact ne_of hL hp (fun z => nomatch z)
    refine ⟨_, rfl, _, rfl, _, rfl, _, _, rfl, .inl (.inl (.inl hL)), p, c, ns, u, r, _, rfl, PA, hu6, by omega, by omega, fun d u' r' H' d0 d1 hu' PA' keep => ?_⟩
    obtain ⟨v, hv, hm⟩ := atI_in (xs := xs) (i := d) rfl d0 d1
    exact ⟨_, _, _, _, rfl, rfl, .inl (.inl (keep _ _ hL nlp)), hv, k v u' r' H' hm hu' PA' keep⟩
theorem scOdd : FnScope ["_law_pen_here", "_law_some"] ["_law_pen_here"] (defScope sOdd) := ⟨rfl, rfl, rfl, by decide +kernel, rfl, by decide +kernel, by decide +kernel⟩
theorem ok_odd {f g : Addr} {fd gd : FuncData} (F : Fun K "_law_odd_value" "_law_odd_value" sOdd f fd) (G : FnOk P w K mg base CX0 2 g gd ["_law_pen_here", "_law_items"] (spPick K)) (bG : Binds K gd ["_law_pen_here", "_law_items"] []) (mG : mg "_law_pick" = some (.ref g)) (kG : PySem.W.keepIn K (.ref g) = true) :
    FnOk P w K mg base CX0 3 f fd ["_law_pen_here"] (spOdd K) := by
  refine F.ok scOdd (fun vs H Q E h => ?_) (fun cdv A outer s H vs Q E hr h => ?_)
  · obtain ⟨p, c, ns, u, r, rfl, _⟩ := h
    rfl
  · obtain ⟨p, c, ns, u, r, rfl, PA, hu6, k⟩ := h
    have nd : (["_law_pen_here", "_law_some"] : List Str).Nodup := scOdd.nd
    refine ⟨_, pss_cons (ps_set (i := 1) nd rfl (Or.inl rfl) (pe_lst (pa_cons pe_non (pa_cons pe_bl (pa_cons pe_bl (pa_cons pe_int (pa_cons pe_int (pa_cons (by walk_at "pe") (pa_cons pe_int (pa_cons (by walk_at "pe") (pa_cons pe_str (pa_cons pe_str (pa_cons pe_str (pa_cons pe_str (pa_cons pe_str
      (pa_cons (pe_tup pa_nil) (pa_cons (pe_tup (pa_cons pe_str pa_nil)) (pa_cons (pe_lst pa_nil) (pa_cons (pe_lst (pa_cons pe_str pa_nil)) (pa_cons pe_dnewK pa_nil))))))))))))))))))))
      (pss_one (ps_ret (pe_call G hr (by rfl) mG kG bG .nil pass0 (pa_cons (pv 0) (pa_cons (pe_op op_cat (pv 1) (pe_lst
        (pa_cons (pe_disp (pps_cons pe_str pe_int pps_nil) rfl rfl (by simp) (by decide)) (pa_cons (pe_tup (pa_cons pe_non pa_nil)) (pa_cons (pe_tup (pa_cons (pe_tup pa_nil) pa_nil)) (pa_cons (pe_tup (pa_cons pe_str (pa_cons pe_str pa_nil)))
        (pa_cons (pe_disp (pps_cons pe_int pe_non pps_nil) rfl rfl (by simp) (by decide)) (pa_cons (pe_lst (pa_cons (pe_lst (pa_cons pe_int pa_nil)) pa_nil)) (pa_cons pe_str pa_nil))))))))) pa_nil))))), ?_⟩
    obtain ⟨kvs, hp, _⟩ := PA.ob
    -- None, True, False, 0, 1, -1, 99, -10 ** 60, the texts
    refine ⟨_, rfl, _, _, rfl, rfl, ⟨by decide, by decide, by decide⟩, _, rfl, ?_⟩
    -- (), ('a',), [], ['a'], {}
    refine ⟨by decide, fun p1 h => ?_⟩
    obtain ⟨H1, e, s1, f1⟩ := new_at (o := .tup []) h
    have n1 : p1 ≠ p := (ne_of_none hp h).symm
    replace hp := s1 _ _ hp
    rw [e]
    clear e h
    refine ⟨by decide, fun p2 h => ?_⟩
    obtain ⟨H2, e, s2, f2⟩ := new_at (o := .tup [.str "a"]) h
    have n2 : p2 ≠ p := (ne_of_none hp h).symm
    replace hp := s2 _ _ hp
    rw [e]
    clear e h
    refine ⟨by decide, fun p3 h => ?_⟩
    obtain ⟨H3, e, s3, f3⟩ := new_at (o := .lst []) h
    have n3 : p3 ≠ p := (ne_of_none hp h).symm
    replace hp := s3 _ _ hp
    rw [e]
    clear e h
    refine ⟨by decide, fun p4 h => ?_⟩
    obtain ⟨H4, e, s4, f4⟩ := new_at (o := .lst [.str "a"]) h
    have n4 : p4 ≠ p := (ne_of_none hp h).symm
    replace hp := s4 _ _ hp
    rw [e]
    clear e h
    intro p5 h
    obtain ⟨H5, e, s5, f5⟩ := new_at (o := .dK []) h
    have n5 : p5 ≠ p := (ne_of_none hp h).symm
    replace hp := s5 _ _ hp
    rw [e]
    clear e h
    refine ⟨by show 18 ≤ sizeLine; decide, fun p6 h => ?_⟩
    obtain ⟨H6, e, s6, f6⟩ := new_at (o := .lst [.non, .bl true, .bl false, .int 0, .int 1, .int (-1), .int 99, .int (-(10 ^ (60 : Int).toNat)), .str "", .str "a", .str "box", .str "A", .str "box 3", .ref p1, .ref p2, .ref p3, .ref p4, .ref p5]) h
    have n6 : p6 ≠ p := (ne_of_none hp h).symm
    replace hp := s6 _ _ hp
    rw [e]
    clear e h
    -- the second list: {'a': 1}, (None,), ((),), ('ann', 'bo'), {1: None}, [[1]], 'ann'
    refine ⟨_, rfl, _, rfl, ?_⟩
    intro p7 h
    have h7 : (upd H6 p7 (.dK [])) p7 = some (.dK []) := upd_same
    refine ⟨h7, [(Sum.inr "a", .int 1)], rfl, by show 1 ≤ 15; decide, ?_⟩
    obtain ⟨H7, e, s7, f7⟩ := new_dict (u := .dK []) (o := .dK (mergeK [] [((Sum.inr ("a" : Str) : Key), V.int 1)])) h
    have n7 : p7 ≠ p := (ne_of_none hp h).symm
    replace hp := s7 _ _ hp
    rw [e]
    clear e h h7
    refine ⟨by decide, fun p8 h => ?_⟩
    obtain ⟨H8, e, s8, f8⟩ := new_at (o := .tup [.non]) h
    have n8 : p8 ≠ p := (ne_of_none hp h).symm
    replace hp := s8 _ _ hp
    rw [e]
    clear e h
    refine ⟨by decide, fun p9 h => ?_⟩
    obtain ⟨H9, e, s9, f9⟩ := new_at (o := .tup []) h
    have n9 : p9 ≠ p := (ne_of_none hp h).symm
    replace hp := s9 _ _ hp
    rw [e]
    clear e h
    refine ⟨by show 1 ≤ sizeLine; decide, fun p10 h => ?_⟩
    obtain ⟨H10, e, s10, f10⟩ := new_at (o := .tup [.ref p9]) h
    have n10 : p10 ≠ p := (ne_of_none hp h).symm
    replace hp := s10 _ _ hp
    rw [e]
    clear e h
    refine ⟨by decide, fun p11 h => ?_⟩
    obtain ⟨H11, e, s11, f11⟩ := new_at (o := .tup [.str "ann", .str "bo"]) h
    have n11 : p11 ≠ p := (ne_of_none hp h).symm
    replace hp := s11 _ _ hp
    rw [e]
    clear e h
    intro p12 h
    have h7 : (upd H11 p12 (.dK [])) p12 = some (.dK []) := upd_same
    refine ⟨h7, [(Sum.inl 1, .non)], rfl, by show 1 ≤ 15; decide, ?_⟩
    obtain ⟨H12, e, s12, f12⟩ := new_dict (u := .dK []) (o := .dK (mergeK [] [((Sum.inl (1 : Int) : Key), V.non)])) h
    have n12 : p12 ≠ p := (ne_of_none hp h).symm
    replace hp := s12 _ _ hp
    rw [e]
    clear e h h7
    refine ⟨by decide, fun p13 h => ?_⟩
    obtain ⟨H13, e, s13, f13⟩ := new_at (o := .lst [.int 1]) h
    have n13 : p13 ≠ p := (ne_of_none hp h).symm
    replace hp := s13 _ _ hp
    rw [e]
    clear e h
    refine ⟨by show 1 ≤ sizeLine; decide, fun p14 h => ?_⟩
    obtain ⟨H14, e, s14, f14⟩ := new_at (o := .lst [.ref p13]) h
    have n14 : p14 ≠ p := (ne_of_none hp h).symm
    replace hp := s14 _ _ hp
    rw [e]
    clear e h
    refine ⟨by show 7 ≤ sizeLine; decide, fun p15 h => ?_⟩
    obtain ⟨H15, e, s15, f15⟩ := new_at (o := .lst [.ref p7, .ref p8, .ref p10, .ref p11, .ref p12, .ref p14, .str "ann"]) h
    have n15 : p15 ≠ p := (ne_of_none hp h).symm
    replace hp := s15 _ _ hp
    rw [e]
    clear e h
    -- the two lists together, one item picked
    have S14 : Same H14 H15 := s15
    have S13 : Same H13 H15 := s14.trans S14
    have S12 : Same H12 H15 := s13.trans S13
    have S11 : Same H11 H15 := s12.trans S12
    have S10 : Same H10 H15 := s11.trans S11
    have S9 : Same H9 H15 := s10.trans S10
    have S8 : Same H8 H15 := s9.trans S9
    have S7 : Same H7 H15 := s8.trans S8
    have S6 : Same H6 H15 := s7.trans S7
    have S5 : Same H5 H15 := s6.trans S6
    have S4 : Same H4 H15 := s5.trans S5
    have S3 : Same H3 H15 := s4.trans S4
    have S2 : Same H2 H15 := s3.trans S3
    have S1 : Same H1 H15 := s2.trans S2
    have S0 : Same H H15 := s1.trans S1
    refine ⟨p6, p15, _, _, rfl, rfl, S6 _ _ f6, f15, by show 25 ≤ sizeLine; decide, fun p16 h => ?_⟩
    have n16 : p16 ≠ p := (ne_of_none hp h).symm
    have s16 : Same H15 (upd H15 p16 (.lst ([.non, .bl true, .bl false, .int 0, .int 1, .int (-1), .int 99, .int (-(10 ^ (60 : Int).toNat)), .str "", .str "a", .str "box", .str "A", .str "box 3", .ref p1, .ref p2, .ref p3, .ref p4, .ref p5] ++ [.ref p7, .ref p8, .ref p10, .ref p11, .ref p12, .ref p14, .str "ann"]))) := same_new h
    refine ⟨p, c, p16, ns, u, r, _, rfl, PA.same (S0.trans s16), hu6, upd_same, by show 0 < 25; decide, by show 25 ≤ 1000; decide, fun v u' r' H' hm hu' PA' keep => ?_⟩
    have t1 := keep _ _ (s16 _ _ (S1 _ _ f1)) n1
    have t2 := keep _ _ (s16 _ _ (S2 _ _ f2)) n2
    have t3 := keep _ _ (s16 _ _ (S3 _ _ f3)) n3
    have t4 := keep _ _ (s16 _ _ (S4 _ _ f4)) n4
    have t5 := keep _ _ (s16 _ _ (S5 _ _ f5)) n5
    have t7 := keep _ _ (s16 _ _ (S7 _ _ f7)) n7
    have t8 := keep _ _ (s16 _ _ (S8 _ _ f8)) n8
    have t9 := keep _ _ (s16 _ _ (S9 _ _ f9)) n9
    have t10 := keep _ _ (s16 _ _ (S10 _ _ f10)) n10
    have t11 := keep _ _ (s16 _ _ (S11 _ _ f11)) n11
    have t12 := keep _ _ (s16 _ _ (S12 _ _ f12)) n12
    have t13 := keep _ _ (s16 _ _ (S13 _ _ f13)) n13
    have t14 := keep _ _ (s16 _ _ (S14 _ _ f14)) n14
    refine k v u' r' H' ?_ hu' PA' fun b o e hb => keep b o (s16 b o (S0 b o e)) hb
    clear k G bG mG kG keep PA PA' hr F
    rcases List.mem_append.mp hm with hm | hm
    · simp only [List.mem_cons, List.not_mem_nil, or_false] at hm
      rcases hm with rfl | rfl | rfl | rfl | rfl | rfl | rfl | rfl | rfl | rfl | rfl | rfl | rfl | rfl | rfl | rfl | rfl | rfl
      · exact odd_of _ .non (by decide +kernel)
      · exact odd_of _ (.bl _) (by decide +kernel)
      · exact odd_of _ (.bl _) (by decide +kernel)
      · exact odd_of _ (.int _) (by decide +kernel)
      · exact odd_of _ (.int _) (by decide +kernel)
      · exact odd_of _ (.int _) (by decide +kernel)
      · exact odd_of _ (.int _) (by decide +kernel)
      · exact odd_of _ (.int _) (by decide +kernel)
      · exact odd_of _ (.str _) (by decide +kernel)
      · exact odd_of _ (.str _) (by decide +kernel)
      · exact odd_of _ (.str _) (by decide +kernel)
      · exact odd_of _ (.str _) (by decide +kernel)
      · exact odd_of _ (.str _) (by decide +kernel)
      · exact odd_of (.tuple []) (.tup (.inl (.inl t1)) .nil) (by decide +kernel)
      · exact odd_of (.tuple [.str "a"]) (.tup (.inl (.inl t2)) (.cons (.str _) .nil)) (by decide +kernel)
      · exact odd_of (.list []) (.lst (.inl (.inl t3)) .nil) (by decide +kernel)
      · exact odd_of (.list [.str "a"]) (.lst (.inl (.inl t4)) (.cons (.str _) .nil)) (by decide +kernel)
      · exact odd_dict [] t5 (fun _ h => nomatch h) List.nodup_nil (by decide +kernel)
    · simp only [List.mem_cons, List.not_mem_nil, or_false] at hm
      rcases hm with rfl | rfl | rfl | rfl | rfl | rfl | rfl
      · exact odd_dict [(Sum.inr "a", .int 1)] t7 (fun p h => by rw [List.mem_singleton.mp h]; exact ⟨rfl, rfl⟩) (by simp) (by decide +kernel)
      · exact odd_of (.tuple [.none]) (.tup (.inl (.inl t8)) (.cons .non .nil)) (by decide +kernel)
      · exact odd_of (.tuple [.tuple []]) (.tup (.inl (.inl t10)) (.cons (.tup (.inl (.inl t9)) .nil) .nil)) (by decide +kernel)
      · exact odd_of (.tuple [.str "ann", .str "bo"]) (.tup (.inl (.inl t11)) (.cons (.str _) (.cons (.str _) .nil))) (by decide +kernel)
      · exact odd_dict [(Sum.inl 1, .non)] t12 (fun p h => by rw [List.mem_singleton.mp h]; exact ⟨rfl, rfl⟩) (by simp) (by decide +kernel)
      · exact odd_of (.list [.list [.int 1]]) (.lst (.inl (.inl t14)) (.cons (.lst (.inl (.inl t13)) (.cons (.int _) .nil)) .nil)) (by decide +kernel)
      · exact odd_of _ (.str _) (by decide +kernel)
end

/-! ### the twenty classes, in the law's order -/
def bsE (k : Nat) : Nat := if k < 14 then 0 else if k < 17 then 1 else if k = 17 then 2 else 3
def bN : Nat → String
  | 0 => "ValueError" | 1 => "LookupError" | 2 => "OverflowError" | _ => "RuntimeError"
def bNew : Nat → String
  | 0 => "ValueError.__new__" | 1 => "LookupError.__new__" | 2 => "OverflowError.__new__" | _ => "RuntimeError.__new__"
def bIni : Nat → String
  | 0 => "ValueError.__init__" | 1 => "LookupError.__init__" | 2 => "OverflowError.__init__" | _ => "RuntimeError.__init__"
def bBm : Nat → List Value
  | 0 => [.type "ValueError", .type "Exception", .type "BaseException", .type "object"]
  | 1 => [.type "LookupError", .type "Exception", .type "BaseException", .type "object"]
  | 2 => [.type "OverflowError", .type "ArithmeticError", .type "Exception", .type "BaseException", .type "object"]
  | _ => [.type "RuntimeError", .type "Exception", .type "BaseException", .type "object"]
def nmE : Nat → Str
  | 0 => "InvalidLoad" | 1 => "InvalidWeighting" | 2 => "InvalidDay" | 3 => "InvalidSettling" | 4 => "InvalidLimit" | 5 => "InvalidText" | 6 => "InvalidPair" | 7 => "InvalidData" | 8 => "Unfair" | 9 => "InvalidNote"
  | 10 => "InvalidYard" | 11 => "Uneven" | 12 => "Stuck" | 13 => "OtherPair" | 14 => "NotASide" | 15 => "NoNote" | 16 => "OutOfRange" | 17 => "TooMany" | 18 => "Closed" | _ => "OverLimit"
def fdE : Nat → Str
  | 0 => "value" | 1 => "value" | 2 => "value" | 3 => "value" | 4 => "value" | 5 => "index" | 6 => "index" | 7 => "index" | 8 => "index" | 9 => "field"
  | 10 => "field" | 11 => "house" | 12 => "place" | 13 => "number" | 14 => "value" | 15 => "number" | 16 => "count" | 17 => "most" | 18 => "number" | _ => "one"
theorem bF : ∀ b : Nat, ExcBaseFacts (bN b) (bNew b) (bIni b) (bBm b)
  | 0 => PySem.F.excBase_ValueError | 1 => PySem.F.excBase_LookupError | 2 => PySem.F.excBase_OverflowError | _ + 3 => PySem.F.excBase_RuntimeError
theorem bS : ∀ b : Nat, StoreFacts (bN b) (bBm b) "object.__setattr__" "object"
  | 0 => PySem.F.store_ValueError | 1 => PySem.F.store_LookupError | 2 => PySem.F.store_OverflowError | _ + 3 => PySem.F.store_RuntimeError
theorem bO : ∀ b : Nat, (bBm b).contains (.type "object") = true
  | 0 => by decide +kernel | 1 => by decide +kernel | 2 => by decide +kernel | _ + 3 => (by decide +kernel : (bBm 3).contains (.type "object") = true)
theorem bRef (D : Addr) : ∀ b : Nat, (bBm b).contains (.ref D) = false
  | 0 => rfl | 1 => rfl | 2 => rfl | _ + 3 => rfl
theorem bMeta : ∀ b : Nat, PySem.W.kitMeta (bN b) = true
  | 0 => by decide +kernel | 1 => by decide +kernel | 2 => by decide +kernel | _ + 3 => (by decide +kernel : PySem.W.kitMeta (bN 3) = true)
/-- what the written part says of the class k, at C, its __init__ at fI -/
structure EC (K : PySem.W.Frag) (mg : Str → Option Value) (k : Nat) (C fI : Addr) : Prop where
  cls : ∃ q N bs sn sub ab col dd k0 k1 k2 k3 k5, K.lookup C = some (excClassObj (nmE k) q C N bs (bBm (bsE k)) true sn sub ab col dd k0 k1 k2 k3 k5 (bNew (bsE k)))
  sa : PySem.W.findIn K (.ref C) "__setattr__" = some (some (.builtin "object.__setattr__"))
  kC : PySem.W.keepIn K (.ref C) = true
  ga : PySem.W.findIn K (.ref C) "__getattribute__" = some (some (.builtin "BaseException.__getattribute__"))
  gg : PySem.W.findIn K (.ref C) "__getattr__" = some none
  ca : PySem.W.findIn K (.ref C) "__class__" = some (some (.builtin "object.__class__"))
  no : PySem.W.findIn K (.ref C) (fdE k) = some none
  gC : mg (nmE k) = some (.ref C)
  iC : PySem.W.findIn K (.ref C) "__init__" = some (some (.ref fI))
  tI : PySem.W.typeIn K (.ref fI) = some (.type "function")
theorem oex_cls {K : PySem.W.Frag} {B newId initId : String} {bmB : List Value} {C : Addr} (T : OexB K B newId initId bmB C) : ∃ cd, PySem.W.clsIn K C = some cd ∧ cd.mro = .ref C :: bmB ∧ cd.hasDict = true := by
  obtain ⟨nm, q, N, bs, sn, sub, ab, col, dd, k0, k1, k2, k3, k5, hC⟩ := T.cls
  have h : PySem.W.clsIn K C = some { name := nm, bases := bs, mro := .ref C :: bmB, ns := N, qualname := q, hasDict := true, slotNames := sn, subclasses := sub, abstract := ab, collection := col, hasDel := false } := by
    unfold PySem.W.clsIn
    rw [hC]
    all_goals rfl
  exact ⟨_, h, rfl, rfl⟩
section
variable {K : PySem.W.Frag} {mg : Str → Option Value} {k j : Nat} {C fI D gI : Addr}
theorem EC.oex (E : EC K mg k C fI) : OexB K (bN (bsE k)) (bNew (bsE k)) (bIni (bsE k)) (bBm (bsE k)) C := by
  obtain ⟨q, N, bs, sn, sub, ab, col, dd, k0, k1, k2, k3, k5, h⟩ := E.cls
  exact ⟨bF _, bS _, bO _, ⟨_, q, N, bs, sn, sub, ab, col, dd, k0, k1, k2, k3, k5, h⟩, E.sa, E.kC⟩
theorem EC.mro (E : EC K mg k C fI) (base : Value) : PySem.W.mroIn K C base = some ((Value.ref C :: bBm (bsE k)).contains base) := by
  obtain ⟨cd, h1, h2, _⟩ := oex_cls E.oex
  unfold PySem.W.mroIn
  rw [h1, Option.bind_some, h2, if_neg (by exact Bool.false_ne_true)]
theorem EC.sub (E : EC K mg k C fI) (base : Value) : PySem.W.subIn K (.ref C) base = some ((Value.ref C :: bBm (bsE k)).contains base) := E.mro base
theorem EC.ev (E : EC K mg k C fI) : ExcV K C := by
  obtain ⟨cd, h1, h2, h3⟩ := oex_cls E.oex
  refine ⟨E.ga, E.gg, ?_, ?_, E.ca, ?_⟩
  · rw [E.sub, List.contains_cons, (bF _).hasBase, Bool.or_true]
  · unfold PySem.W.hasDictIn
    rw [h1]
    exact h3
  · rw [E.mro, List.contains_cons, bO, Bool.or_true]
theorem EC.ty (E : EC K mg k C fI) : ((PySem.W.clsIn K C).isSome && PySem.W.typeIn K (.ref C) == some (.type "type")) = true := by
  obtain ⟨q, N, bs, sn, sub, ab, col, dd, k0, k1, k2, k3, k5, h⟩ := E.cls
  obtain ⟨cd, h1, _⟩ := oex_cls E.oex
  have h2 : PySem.W.typeIn K (.ref C) = some (.type "type") := by
    show (K.lookup C).map (·.cls) = _
    rw [h]
    all_goals rfl
  rw [h1, h2]
  all_goals rfl
theorem EC.ne (E : EC K mg k C fI) (E' : EC K mg j D gI) (h : nmE k ≠ nmE j) : C ≠ D := fun z => by
  obtain ⟨q, N, bs, sn, sub, ab, col, dd, k0, k1, k2, k3, k5, h1⟩ := E.cls
  obtain ⟨q', N', bs', sn', sub', ab', col', dd', k0', k1', k2', k3', k5', h2⟩ := E'.cls
  rw [z, h2] at h1
  have e := Option.some.inj h1
  have e2 : Data.cls _ = Data.cls _ := congrArg Obj.data e
  exact h (congrArg ClassData.name (Data.cls.inj e2)).symm
theorem EC.kitOwn (E : EC K mg k C fI) (E' : EC K mg j D gI) (h : k ≠ j → nmE k ≠ nmE j) (hc : k = j → C = D) : PySem.W.kitOne K (.ref C) (.ref D) = some (decide (j = k)) := by
  by_cases e : k = j
  · have e' := hc e
    subst e e'
    unfold PySem.W.kitOne
    rw [if_pos (by simp)]
    simp
  · have n := E.ne E' (h e)
    unfold PySem.W.kitOne
    rw [if_neg (by simpa using n)]
    show (if _ then _ else _) = _
    rw [if_pos E'.ty, E.sub, List.contains_cons, bRef, decide_eq_false (fun z => e z.symm)]
    have : (Value.ref D == Value.ref C) = false := by simpa using Ne.symm n
    rw [this]
    rfl
theorem EC.kitBase (E : EC K mg k C fI) (b : Nat) (hb : b < 4) : PySem.W.kitOne K (.ref C) (.type (bN b)) = some (decide (b = bsE k)) := by
  unfold PySem.W.kitOne
  rw [if_neg (by simp)]
  show (if _ then _ else _) = _
  rw [if_pos (bMeta b), E.sub, List.contains_cons]
  have : (Value.type (bN b) == Value.ref C) = false := by simp
  rw [this, Bool.false_or]
  have hk : bsE k < 4 := by unfold bsE; split <;> (try split) <;> (try split) <;> omega
  generalize bsE k = c at hk
  rcases b with _ | _ | _ | _ | b <;> rcases c with _ | _ | _ | _ | c <;> first | omega | decide +kernel
end
/-- all of them -/
structure Fam (K : PySem.W.Frag) (mg : Str → Option Value) (Cs Fs : Nat → Addr) : Prop where
  ec : ∀ k, k < 20 → EC K mg k (Cs k) (Fs k)
  cd : ClsD K
theorem nmE_inj {j k : Nat} (hj : j < 20) (hk : k < 20) (h : k ≠ j) : nmE k ≠ nmE j := by
  have key : ∀ a : Fin 20, ∀ b : Fin 20, a ≠ b → nmE a.val ≠ nmE b.val := by decide +kernel
  exact key ⟨k, hk⟩ ⟨j, hj⟩ fun z => h (congrArg Fin.val z)
theorem Fam.own {K : PySem.W.Frag} {mg : Str → Option Value} {Cs Fs : Nat → Addr} (T : Fam K mg Cs Fs) {j k : Nat} (hj : j < 20) (hk : k < 20) : PySem.W.kitOne K (.ref (Cs k)) (.ref (Cs j)) = some (decide (j = k)) :=
  (T.ec k hk).kitOwn (T.ec j hj) (nmE_inj hj hk) fun e => by rw [e]
/-! ### an error at an address -/
def ErrAt (H : Hp) (C : Addr) (fs : List (Str × V)) (a : Addr) : Prop := ∃ d, H a = some (exo a C (some d)) ∧ H d = some (exd d fs)
theorem ErrAt.same {H H' : Hp} {C a : Addr} {fs : List (Str × V)} (e : ErrAt H C fs a) (s : Same H H') : ErrAt H' C fs a := by
  obtain ⟨d, h1, h2⟩ := e
  exact ⟨d, s _ _ h1, s _ _ h2⟩
def flE (k : Nat) (v w : V) : List (Str × V) := if k = 19 then [("other", w), ("one", v)] else [(fdE k, v)]
/-- the promise of an __init__ with one field -/
def spI (C : Addr) (f : Str) : Sp := fun vs H Q _ => ∃ (a : Addr) (v : V), vs = [.ref a, v] ∧ H a = some (exo a C none) ∧ ∀ (H' : Hp), (∀ b o, H b = some o → b ≠ a → H' b = some o) → ErrAt H' C [(f, v)] a → Q .non H'
def spI2 (C : Addr) : Sp := fun vs H Q _ => ∃ (a : Addr) (v w : V), vs = [.ref a, v, w] ∧ H a = some (exo a C none) ∧ ∀ (H' : Hp), (∀ b o, H b = some o → b ≠ a → H' b = some o) → ErrAt H' C [("other", w), ("one", v)] a → Q .non H'
/-- what a def's built-in base asks of the module -/
structure BsT (K : PySem.W.Frag) (mg : Str → Option Value) (b : Nat) : Prop where
  mB : mg (Str.ofString (bN b)) = none
  vV : PySem.W.findCls K (.type (bN b)) (.type "type") "__init__" = some (.val (.builtin (bIni b)))
theorem bBoot : ∀ b : Nat, bootBuiltins (Str.ofString (bN b)) = some (.type (bN b))
  | 0 => by decide +kernel | 1 => by decide +kernel | 2 => by decide +kernel | _ + 3 => (by decide +kernel : bootBuiltins (Str.ofString (bN 3)) = some (.type (bN 3)))
theorem bTy : ∀ b : Nat, typeOf (.type (bN b)) = pure (.type "type") := fun b => PySem.W.kitMeta_of (bMeta b)
theorem bStub : ∀ b : Nat, Manifest.isStub (bN b) = false
  | 0 => by decide +kernel | 1 => by decide +kernel | 2 => by decide +kernel | _ + 3 => (by decide +kernel : Manifest.isStub (bN 3) = false)
theorem bHand : ∀ b : Nat, PySem.W.handedIn (.builtin (bIni b)) = true
  | 0 => by decide +kernel | 1 => by decide +kernel | 2 => by decide +kernel | _ + 3 => (by decide +kernel : PySem.W.handedIn (.builtin (bIni 3)) = true)
section
variable {P : Program} {w : World} {K : PySem.W.Frag} {mg : Str → Option Value} {base : Heap}
abbrev sI (i : Nat) : Stmt := inClass (top i) 0
theorem scI0 : FnScope ["self", "value"] ["self", "value"] (defScope (sI 1)) := ⟨rfl, rfl, rfl, by decide +kernel, rfl, by decide +kernel, by decide +kernel⟩
theorem ok_I0 {f C : Addr} {fd : FuncData} (F : Fun K "__init__" "InvalidLoad.__init__" (sI 1) f fd) (E : EC K mg 0 C f) (B : BsT K mg 0) : FnOk P w K mg base CX0 1 f fd ["self", "value"] (spI C "value") := by
  refine F.ok scI0 (fun vs H Q E h => ?_) (fun cdv A outer s H vs Q E' hr h => ?_)
  · obtain ⟨a, v, rfl, _⟩ := h
    rfl
  · obtain ⟨a, v, rfl, ha, k⟩ := h
    refine ⟨_, pss_cons (ps_expr (pe_binit (B := bN 0) (initId := bIni 0) (newId := bNew 0) (bmB := bBm 0) (Str.ofString (bN 0)) (by rfl) B.mB (bBoot 0) (bTy 0) (bStub 0) B.vV (bHand 0) (pa_cons (pv 0) (pa_cons (pv 1) pa_nil)) (by decide) (by decide)))
      (pss_one (ps_ostB (B := bN 0) (initId := bIni 0) (newId := bNew 0) (bmB := bBm 0) (pv 0) (pv 1))), ?_⟩
    refine ⟨_, rfl, _, rfl, a, C, _, rfl, (by show 1 ≤ 1000; decide), E.oex, ha, ?_⟩
    refine ⟨_, rfl, _, rfl, a, C, rfl, E.oex, E.no, .inl ⟨ha, fun dx hd ne => ?_⟩⟩
    exact k _ (fun b o e hb => by rw [upd_ne hb, upd_ne (ne_of_none e hd)]; exact e) ⟨dx, upd_same, by rw [upd_ne ne, upd_same]⟩
theorem scI1 : FnScope ["self", "value"] ["self", "value"] (defScope (sI 4)) := ⟨rfl, rfl, rfl, by decide +kernel, rfl, by decide +kernel, by decide +kernel⟩
theorem ok_I1 {f C : Addr} {fd : FuncData} (F : Fun K "__init__" "InvalidWeighting.__init__" (sI 4) f fd) (E : EC K mg 1 C f) (B : BsT K mg 0) : FnOk P w K mg base CX0 1 f fd ["self", "value"] (spI C "value") := by
  refine F.ok scI1 (fun vs H Q E h => ?_) (fun cdv A outer s H vs Q E' hr h => ?_)
  · obtain ⟨a, v, rfl, _⟩ := h
    rfl
  · obtain ⟨a, v, rfl, ha, k⟩ := h
    refine ⟨_, pss_cons (ps_expr (pe_binit (B := bN 0) (initId := bIni 0) (newId := bNew 0) (bmB := bBm 0) (Str.ofString (bN 0)) (by rfl) B.mB (bBoot 0) (bTy 0) (bStub 0) B.vV (bHand 0) (pa_cons (pv 0) (pa_cons (pv 1) pa_nil)) (by decide) (by decide)))
      (pss_one (ps_ostB (B := bN 0) (initId := bIni 0) (newId := bNew 0) (bmB := bBm 0) (pv 0) (pv 1))), ?_⟩
    refine ⟨_, rfl, _, rfl, a, C, _, rfl, (by show 1 ≤ 1000; decide), E.oex, ha, ?_⟩
    refine ⟨_, rfl, _, rfl, a, C, rfl, E.oex, E.no, .inl ⟨ha, fun dx hd ne => ?_⟩⟩
    exact k _ (fun b o e hb => by rw [upd_ne hb, upd_ne (ne_of_none e hd)]; exact e) ⟨dx, upd_same, by rw [upd_ne ne, upd_same]⟩
theorem scI2 : FnScope ["self", "value"] ["self", "value"] (defScope (sI 6)) := ⟨rfl, rfl, rfl, by decide +kernel, rfl, by decide +kernel, by decide +kernel⟩
theorem ok_I2 {f C : Addr} {fd : FuncData} (F : Fun K "__init__" "InvalidDay.__init__" (sI 6) f fd) (E : EC K mg 2 C f) (B : BsT K mg 0) : FnOk P w K mg base CX0 1 f fd ["self", "value"] (spI C "value") := by
  refine F.ok scI2 (fun vs H Q E h => ?_) (fun cdv A outer s H vs Q E' hr h => ?_)
  · obtain ⟨a, v, rfl, _⟩ := h
    rfl
  · obtain ⟨a, v, rfl, ha, k⟩ := h
    refine ⟨_, pss_cons (ps_expr (pe_binit (B := bN 0) (initId := bIni 0) (newId := bNew 0) (bmB := bBm 0) (Str.ofString (bN 0)) (by rfl) B.mB (bBoot 0) (bTy 0) (bStub 0) B.vV (bHand 0) (pa_cons (pv 0) (pa_cons (pv 1) pa_nil)) (by decide) (by decide)))
      (pss_one (ps_ostB (B := bN 0) (initId := bIni 0) (newId := bNew 0) (bmB := bBm 0) (pv 0) (pv 1))), ?_⟩
    refine ⟨_, rfl, _, rfl, a, C, _, rfl, (by show 1 ≤ 1000; decide), E.oex, ha, ?_⟩
    refine ⟨_, rfl, _, rfl, a, C, rfl, E.oex, E.no, .inl ⟨ha, fun dx hd ne => ?_⟩⟩
    exact k _ (fun b o e hb => by rw [upd_ne hb, upd_ne (ne_of_none e hd)]; exact e) ⟨dx, upd_same, by rw [upd_ne ne, upd_same]⟩
theorem scI3 : FnScope ["self", "value"] ["self", "value"] (defScope (sI 7)) := ⟨rfl, rfl, rfl, by decide +kernel, rfl, by decide +kernel, by decide +kernel⟩
theorem ok_I3 {f C : Addr} {fd : FuncData} (F : Fun K "__init__" "InvalidSettling.__init__" (sI 7) f fd) (E : EC K mg 3 C f) (B : BsT K mg 0) : FnOk P w K mg base CX0 1 f fd ["self", "value"] (spI C "value") := by
  refine F.ok scI3 (fun vs H Q E h => ?_) (fun cdv A outer s H vs Q E' hr h => ?_)
  · obtain ⟨a, v, rfl, _⟩ := h
    rfl
  · obtain ⟨a, v, rfl, ha, k⟩ := h
    refine ⟨_, pss_cons (ps_expr (pe_binit (B := bN 0) (initId := bIni 0) (newId := bNew 0) (bmB := bBm 0) (Str.ofString (bN 0)) (by rfl) B.mB (bBoot 0) (bTy 0) (bStub 0) B.vV (bHand 0) (pa_cons (pv 0) (pa_cons (pv 1) pa_nil)) (by decide) (by decide)))
      (pss_one (ps_ostB (B := bN 0) (initId := bIni 0) (newId := bNew 0) (bmB := bBm 0) (pv 0) (pv 1))), ?_⟩
    refine ⟨_, rfl, _, rfl, a, C, _, rfl, (by show 1 ≤ 1000; decide), E.oex, ha, ?_⟩
    refine ⟨_, rfl, _, rfl, a, C, rfl, E.oex, E.no, .inl ⟨ha, fun dx hd ne => ?_⟩⟩
    exact k _ (fun b o e hb => by rw [upd_ne hb, upd_ne (ne_of_none e hd)]; exact e) ⟨dx, upd_same, by rw [upd_ne ne, upd_same]⟩
theorem scI4 : FnScope ["self", "value"] ["self", "value"] (defScope (sI 9)) := ⟨rfl, rfl, rfl, by decide +kernel, rfl, by decide +kernel, by decide +kernel⟩
theorem ok_I4 {f C : Addr} {fd : FuncData} (F : Fun K "__init__" "InvalidLimit.__init__" (sI 9) f fd) (E : EC K mg 4 C f) (B : BsT K mg 0) : FnOk P w K mg base CX0 1 f fd ["self", "value"] (spI C "value") := by
  refine F.ok scI4 (fun vs H Q E h => ?_) (fun cdv A outer s H vs Q E' hr h => ?_)
  · obtain ⟨a, v, rfl, _⟩ := h
    rfl
  · obtain ⟨a, v, rfl, ha, k⟩ := h
    refine ⟨_, pss_cons (ps_expr (pe_binit (B := bN 0) (initId := bIni 0) (newId := bNew 0) (bmB := bBm 0) (Str.ofString (bN 0)) (by rfl) B.mB (bBoot 0) (bTy 0) (bStub 0) B.vV (bHand 0) (pa_cons (pv 0) (pa_cons (pv 1) pa_nil)) (by decide) (by decide)))
      (pss_one (ps_ostB (B := bN 0) (initId := bIni 0) (newId := bNew 0) (bmB := bBm 0) (pv 0) (pv 1))), ?_⟩
    refine ⟨_, rfl, _, rfl, a, C, _, rfl, (by show 1 ≤ 1000; decide), E.oex, ha, ?_⟩
    refine ⟨_, rfl, _, rfl, a, C, rfl, E.oex, E.no, .inl ⟨ha, fun dx hd ne => ?_⟩⟩
    exact k _ (fun b o e hb => by rw [upd_ne hb, upd_ne (ne_of_none e hd)]; exact e) ⟨dx, upd_same, by rw [upd_ne ne, upd_same]⟩
theorem scI5 : FnScope ["self", "index"] ["self", "index"] (defScope (sI 2)) := ⟨rfl, rfl, rfl, by decide +kernel, rfl, by decide +kernel, by decide +kernel⟩
theorem ok_I5 {f C : Addr} {fd : FuncData} (F : Fun K "__init__" "InvalidText.__init__" (sI 2) f fd) (E : EC K mg 5 C f) (B : BsT K mg 0) : FnOk P w K mg base CX0 1 f fd ["self", "index"] (spI C "index") := by
  refine F.ok scI5 (fun vs H Q E h => ?_) (fun cdv A outer s H vs Q E' hr h => ?_)
  · obtain ⟨a, v, rfl, _⟩ := h
    rfl
  · obtain ⟨a, v, rfl, ha, k⟩ := h
    refine ⟨_, pss_cons (ps_expr (pe_binit (B := bN 0) (initId := bIni 0) (newId := bNew 0) (bmB := bBm 0) (Str.ofString (bN 0)) (by rfl) B.mB (bBoot 0) (bTy 0) (bStub 0) B.vV (bHand 0) (pa_cons (pv 0) (pa_cons (pv 1) pa_nil)) (by decide) (by decide)))
      (pss_one (ps_ostB (B := bN 0) (initId := bIni 0) (newId := bNew 0) (bmB := bBm 0) (pv 0) (pv 1))), ?_⟩
    refine ⟨_, rfl, _, rfl, a, C, _, rfl, (by show 1 ≤ 1000; decide), E.oex, ha, ?_⟩
    refine ⟨_, rfl, _, rfl, a, C, rfl, E.oex, E.no, .inl ⟨ha, fun dx hd ne => ?_⟩⟩
    exact k _ (fun b o e hb => by rw [upd_ne hb, upd_ne (ne_of_none e hd)]; exact e) ⟨dx, upd_same, by rw [upd_ne ne, upd_same]⟩
theorem scI6 : FnScope ["self", "index"] ["self", "index"] (defScope (sI 3)) := ⟨rfl, rfl, rfl, by decide +kernel, rfl, by decide +kernel, by decide +kernel⟩
theorem ok_I6 {f C : Addr} {fd : FuncData} (F : Fun K "__init__" "InvalidPair.__init__" (sI 3) f fd) (E : EC K mg 6 C f) (B : BsT K mg 0) : FnOk P w K mg base CX0 1 f fd ["self", "index"] (spI C "index") := by
  refine F.ok scI6 (fun vs H Q E h => ?_) (fun cdv A outer s H vs Q E' hr h => ?_)
  · obtain ⟨a, v, rfl, _⟩ := h
    rfl
  · obtain ⟨a, v, rfl, ha, k⟩ := h
    refine ⟨_, pss_cons (ps_expr (pe_binit (B := bN 0) (initId := bIni 0) (newId := bNew 0) (bmB := bBm 0) (Str.ofString (bN 0)) (by rfl) B.mB (bBoot 0) (bTy 0) (bStub 0) B.vV (bHand 0) (pa_cons (pv 0) (pa_cons (pv 1) pa_nil)) (by decide) (by decide)))
      (pss_one (ps_ostB (B := bN 0) (initId := bIni 0) (newId := bNew 0) (bmB := bBm 0) (pv 0) (pv 1))), ?_⟩
    refine ⟨_, rfl, _, rfl, a, C, _, rfl, (by show 1 ≤ 1000; decide), E.oex, ha, ?_⟩
    refine ⟨_, rfl, _, rfl, a, C, rfl, E.oex, E.no, .inl ⟨ha, fun dx hd ne => ?_⟩⟩
    exact k _ (fun b o e hb => by rw [upd_ne hb, upd_ne (ne_of_none e hd)]; exact e) ⟨dx, upd_same, by rw [upd_ne ne, upd_same]⟩
theorem scI7 : FnScope ["self", "index"] ["self", "index"] (defScope (sI 8)) := ⟨rfl, rfl, rfl, by decide +kernel, rfl, by decide +kernel, by decide +kernel⟩
theorem ok_I7 {f C : Addr} {fd : FuncData} (F : Fun K "__init__" "InvalidData.__init__" (sI 8) f fd) (E : EC K mg 7 C f) (B : BsT K mg 0) : FnOk P w K mg base CX0 1 f fd ["self", "index"] (spI C "index") := by
  refine F.ok scI7 (fun vs H Q E h => ?_) (fun cdv A outer s H vs Q E' hr h => ?_)
  · obtain ⟨a, v, rfl, _⟩ := h
    rfl
  · obtain ⟨a, v, rfl, ha, k⟩ := h
    refine ⟨_, pss_cons (ps_expr (pe_binit (B := bN 0) (initId := bIni 0) (newId := bNew 0) (bmB := bBm 0) (Str.ofString (bN 0)) (by rfl) B.mB (bBoot 0) (bTy 0) (bStub 0) B.vV (bHand 0) (pa_cons (pv 0) (pa_cons (pv 1) pa_nil)) (by decide) (by decide)))
      (pss_one (ps_ostB (B := bN 0) (initId := bIni 0) (newId := bNew 0) (bmB := bBm 0) (pv 0) (pv 1))), ?_⟩
    refine ⟨_, rfl, _, rfl, a, C, _, rfl, (by show 1 ≤ 1000; decide), E.oex, ha, ?_⟩
    refine ⟨_, rfl, _, rfl, a, C, rfl, E.oex, E.no, .inl ⟨ha, fun dx hd ne => ?_⟩⟩
    exact k _ (fun b o e hb => by rw [upd_ne hb, upd_ne (ne_of_none e hd)]; exact e) ⟨dx, upd_same, by rw [upd_ne ne, upd_same]⟩
theorem scI8 : FnScope ["self", "index"] ["self", "index"] (defScope (sI 11)) := ⟨rfl, rfl, rfl, by decide +kernel, rfl, by decide +kernel, by decide +kernel⟩
theorem ok_I8 {f C : Addr} {fd : FuncData} (F : Fun K "__init__" "Unfair.__init__" (sI 11) f fd) (E : EC K mg 8 C f) (B : BsT K mg 0) : FnOk P w K mg base CX0 1 f fd ["self", "index"] (spI C "index") := by
  refine F.ok scI8 (fun vs H Q E h => ?_) (fun cdv A outer s H vs Q E' hr h => ?_)
  · obtain ⟨a, v, rfl, _⟩ := h
    rfl
  · obtain ⟨a, v, rfl, ha, k⟩ := h
    refine ⟨_, pss_cons (ps_expr (pe_binit (B := bN 0) (initId := bIni 0) (newId := bNew 0) (bmB := bBm 0) (Str.ofString (bN 0)) (by rfl) B.mB (bBoot 0) (bTy 0) (bStub 0) B.vV (bHand 0) (pa_cons (pv 0) (pa_cons (pv 1) pa_nil)) (by decide) (by decide)))
      (pss_one (ps_ostB (B := bN 0) (initId := bIni 0) (newId := bNew 0) (bmB := bBm 0) (pv 0) (pv 1))), ?_⟩
    refine ⟨_, rfl, _, rfl, a, C, _, rfl, (by show 1 ≤ 1000; decide), E.oex, ha, ?_⟩
    refine ⟨_, rfl, _, rfl, a, C, rfl, E.oex, E.no, .inl ⟨ha, fun dx hd ne => ?_⟩⟩
    exact k _ (fun b o e hb => by rw [upd_ne hb, upd_ne (ne_of_none e hd)]; exact e) ⟨dx, upd_same, by rw [upd_ne ne, upd_same]⟩
theorem scI9 : FnScope ["self", "field"] ["self", "field"] (defScope (sI 5)) := ⟨rfl, rfl, rfl, by decide +kernel, rfl, by decide +kernel, by decide +kernel⟩
theorem ok_I9 {f C : Addr} {fd : FuncData} (F : Fun K "__init__" "InvalidNote.__init__" (sI 5) f fd) (E : EC K mg 9 C f) (B : BsT K mg 0) : FnOk P w K mg base CX0 1 f fd ["self", "field"] (spI C "field") := by
  refine F.ok scI9 (fun vs H Q E h => ?_) (fun cdv A outer s H vs Q E' hr h => ?_)
  · obtain ⟨a, v, rfl, _⟩ := h
    rfl
  · obtain ⟨a, v, rfl, ha, k⟩ := h
    refine ⟨_, pss_cons (ps_expr (pe_binit (B := bN 0) (initId := bIni 0) (newId := bNew 0) (bmB := bBm 0) (Str.ofString (bN 0)) (by rfl) B.mB (bBoot 0) (bTy 0) (bStub 0) B.vV (bHand 0) (pa_cons (pv 0) (pa_cons (pv 1) pa_nil)) (by decide) (by decide)))
      (pss_one (ps_ostB (B := bN 0) (initId := bIni 0) (newId := bNew 0) (bmB := bBm 0) (pv 0) (pv 1))), ?_⟩
    refine ⟨_, rfl, _, rfl, a, C, _, rfl, (by show 1 ≤ 1000; decide), E.oex, ha, ?_⟩
    refine ⟨_, rfl, _, rfl, a, C, rfl, E.oex, E.no, .inl ⟨ha, fun dx hd ne => ?_⟩⟩
    exact k _ (fun b o e hb => by rw [upd_ne hb, upd_ne (ne_of_none e hd)]; exact e) ⟨dx, upd_same, by rw [upd_ne ne, upd_same]⟩
theorem scI10 : FnScope ["self", "field"] ["self", "field"] (defScope (sI 10)) := ⟨rfl, rfl, rfl, by decide +kernel, rfl, by decide +kernel, by decide +kernel⟩
theorem ok_I10 {f C : Addr} {fd : FuncData} (F : Fun K "__init__" "InvalidYard.__init__" (sI 10) f fd) (E : EC K mg 10 C f) (B : BsT K mg 0) : FnOk P w K mg base CX0 1 f fd ["self", "field"] (spI C "field") := by
  refine F.ok scI10 (fun vs H Q E h => ?_) (fun cdv A outer s H vs Q E' hr h => ?_)
  · obtain ⟨a, v, rfl, _⟩ := h
    rfl
  · obtain ⟨a, v, rfl, ha, k⟩ := h
    refine ⟨_, pss_cons (ps_expr (pe_binit (B := bN 0) (initId := bIni 0) (newId := bNew 0) (bmB := bBm 0) (Str.ofString (bN 0)) (by rfl) B.mB (bBoot 0) (bTy 0) (bStub 0) B.vV (bHand 0) (pa_cons (pv 0) (pa_cons (pv 1) pa_nil)) (by decide) (by decide)))
      (pss_one (ps_ostB (B := bN 0) (initId := bIni 0) (newId := bNew 0) (bmB := bBm 0) (pv 0) (pv 1))), ?_⟩
    refine ⟨_, rfl, _, rfl, a, C, _, rfl, (by show 1 ≤ 1000; decide), E.oex, ha, ?_⟩
    refine ⟨_, rfl, _, rfl, a, C, rfl, E.oex, E.no, .inl ⟨ha, fun dx hd ne => ?_⟩⟩
    exact k _ (fun b o e hb => by rw [upd_ne hb, upd_ne (ne_of_none e hd)]; exact e) ⟨dx, upd_same, by rw [upd_ne ne, upd_same]⟩
theorem scI11 : FnScope ["self", "house"] ["self", "house"] (defScope (sI 12)) := ⟨rfl, rfl, rfl, by decide +kernel, rfl, by decide +kernel, by decide +kernel⟩
theorem ok_I11 {f C : Addr} {fd : FuncData} (F : Fun K "__init__" "Uneven.__init__" (sI 12) f fd) (E : EC K mg 11 C f) (B : BsT K mg 0) : FnOk P w K mg base CX0 1 f fd ["self", "house"] (spI C "house") := by
  refine F.ok scI11 (fun vs H Q E h => ?_) (fun cdv A outer s H vs Q E' hr h => ?_)
  · obtain ⟨a, v, rfl, _⟩ := h
    rfl
  · obtain ⟨a, v, rfl, ha, k⟩ := h
    refine ⟨_, pss_cons (ps_expr (pe_binit (B := bN 0) (initId := bIni 0) (newId := bNew 0) (bmB := bBm 0) (Str.ofString (bN 0)) (by rfl) B.mB (bBoot 0) (bTy 0) (bStub 0) B.vV (bHand 0) (pa_cons (pv 0) (pa_cons (pv 1) pa_nil)) (by decide) (by decide)))
      (pss_one (ps_ostB (B := bN 0) (initId := bIni 0) (newId := bNew 0) (bmB := bBm 0) (pv 0) (pv 1))), ?_⟩
    refine ⟨_, rfl, _, rfl, a, C, _, rfl, (by show 1 ≤ 1000; decide), E.oex, ha, ?_⟩
    refine ⟨_, rfl, _, rfl, a, C, rfl, E.oex, E.no, .inl ⟨ha, fun dx hd ne => ?_⟩⟩
    exact k _ (fun b o e hb => by rw [upd_ne hb, upd_ne (ne_of_none e hd)]; exact e) ⟨dx, upd_same, by rw [upd_ne ne, upd_same]⟩
theorem scI12 : FnScope ["self", "place"] ["self", "place"] (defScope (sI 13)) := ⟨rfl, rfl, rfl, by decide +kernel, rfl, by decide +kernel, by decide +kernel⟩
theorem ok_I12 {f C : Addr} {fd : FuncData} (F : Fun K "__init__" "Stuck.__init__" (sI 13) f fd) (E : EC K mg 12 C f) (B : BsT K mg 0) : FnOk P w K mg base CX0 1 f fd ["self", "place"] (spI C "place") := by
  refine F.ok scI12 (fun vs H Q E h => ?_) (fun cdv A outer s H vs Q E' hr h => ?_)
  · obtain ⟨a, v, rfl, _⟩ := h
    rfl
  · obtain ⟨a, v, rfl, ha, k⟩ := h
    refine ⟨_, pss_cons (ps_expr (pe_binit (B := bN 0) (initId := bIni 0) (newId := bNew 0) (bmB := bBm 0) (Str.ofString (bN 0)) (by rfl) B.mB (bBoot 0) (bTy 0) (bStub 0) B.vV (bHand 0) (pa_cons (pv 0) (pa_cons (pv 1) pa_nil)) (by decide) (by decide)))
      (pss_one (ps_ostB (B := bN 0) (initId := bIni 0) (newId := bNew 0) (bmB := bBm 0) (pv 0) (pv 1))), ?_⟩
    refine ⟨_, rfl, _, rfl, a, C, _, rfl, (by show 1 ≤ 1000; decide), E.oex, ha, ?_⟩
    refine ⟨_, rfl, _, rfl, a, C, rfl, E.oex, E.no, .inl ⟨ha, fun dx hd ne => ?_⟩⟩
    exact k _ (fun b o e hb => by rw [upd_ne hb, upd_ne (ne_of_none e hd)]; exact e) ⟨dx, upd_same, by rw [upd_ne ne, upd_same]⟩
theorem scI13 : FnScope ["self", "number"] ["self", "number"] (defScope (sI 14)) := ⟨rfl, rfl, rfl, by decide +kernel, rfl, by decide +kernel, by decide +kernel⟩
theorem ok_I13 {f C : Addr} {fd : FuncData} (F : Fun K "__init__" "OtherPair.__init__" (sI 14) f fd) (E : EC K mg 13 C f) (B : BsT K mg 0) : FnOk P w K mg base CX0 1 f fd ["self", "number"] (spI C "number") := by
  refine F.ok scI13 (fun vs H Q E h => ?_) (fun cdv A outer s H vs Q E' hr h => ?_)
  · obtain ⟨a, v, rfl, _⟩ := h
    rfl
  · obtain ⟨a, v, rfl, ha, k⟩ := h
    refine ⟨_, pss_cons (ps_expr (pe_binit (B := bN 0) (initId := bIni 0) (newId := bNew 0) (bmB := bBm 0) (Str.ofString (bN 0)) (by rfl) B.mB (bBoot 0) (bTy 0) (bStub 0) B.vV (bHand 0) (pa_cons (pv 0) (pa_cons (pv 1) pa_nil)) (by decide) (by decide)))
      (pss_one (ps_ostB (B := bN 0) (initId := bIni 0) (newId := bNew 0) (bmB := bBm 0) (pv 0) (pv 1))), ?_⟩
    refine ⟨_, rfl, _, rfl, a, C, _, rfl, (by show 1 ≤ 1000; decide), E.oex, ha, ?_⟩
    refine ⟨_, rfl, _, rfl, a, C, rfl, E.oex, E.no, .inl ⟨ha, fun dx hd ne => ?_⟩⟩
    exact k _ (fun b o e hb => by rw [upd_ne hb, upd_ne (ne_of_none e hd)]; exact e) ⟨dx, upd_same, by rw [upd_ne ne, upd_same]⟩
theorem scI14 : FnScope ["self", "value"] ["self", "value"] (defScope (sI 15)) := ⟨rfl, rfl, rfl, by decide +kernel, rfl, by decide +kernel, by decide +kernel⟩
theorem ok_I14 {f C : Addr} {fd : FuncData} (F : Fun K "__init__" "NotASide.__init__" (sI 15) f fd) (E : EC K mg 14 C f) (B : BsT K mg 1) : FnOk P w K mg base CX0 1 f fd ["self", "value"] (spI C "value") := by
  refine F.ok scI14 (fun vs H Q E h => ?_) (fun cdv A outer s H vs Q E' hr h => ?_)
  · obtain ⟨a, v, rfl, _⟩ := h
    rfl
  · obtain ⟨a, v, rfl, ha, k⟩ := h
    refine ⟨_, pss_cons (ps_expr (pe_binit (B := bN 1) (initId := bIni 1) (newId := bNew 1) (bmB := bBm 1) (Str.ofString (bN 1)) (by rfl) B.mB (bBoot 1) (bTy 1) (bStub 1) B.vV (bHand 1) (pa_cons (pv 0) (pa_cons (pv 1) pa_nil)) (by decide) (by decide)))
      (pss_one (ps_ostB (B := bN 1) (initId := bIni 1) (newId := bNew 1) (bmB := bBm 1) (pv 0) (pv 1))), ?_⟩
    refine ⟨_, rfl, _, rfl, a, C, _, rfl, (by show 1 ≤ 1000; decide), E.oex, ha, ?_⟩
    refine ⟨_, rfl, _, rfl, a, C, rfl, E.oex, E.no, .inl ⟨ha, fun dx hd ne => ?_⟩⟩
    exact k _ (fun b o e hb => by rw [upd_ne hb, upd_ne (ne_of_none e hd)]; exact e) ⟨dx, upd_same, by rw [upd_ne ne, upd_same]⟩
theorem scI15 : FnScope ["self", "number"] ["self", "number"] (defScope (sI 16)) := ⟨rfl, rfl, rfl, by decide +kernel, rfl, by decide +kernel, by decide +kernel⟩
theorem ok_I15 {f C : Addr} {fd : FuncData} (F : Fun K "__init__" "NoNote.__init__" (sI 16) f fd) (E : EC K mg 15 C f) (B : BsT K mg 1) : FnOk P w K mg base CX0 1 f fd ["self", "number"] (spI C "number") := by
  refine F.ok scI15 (fun vs H Q E h => ?_) (fun cdv A outer s H vs Q E' hr h => ?_)
  · obtain ⟨a, v, rfl, _⟩ := h
    rfl
  · obtain ⟨a, v, rfl, ha, k⟩ := h
    refine ⟨_, pss_cons (ps_expr (pe_binit (B := bN 1) (initId := bIni 1) (newId := bNew 1) (bmB := bBm 1) (Str.ofString (bN 1)) (by rfl) B.mB (bBoot 1) (bTy 1) (bStub 1) B.vV (bHand 1) (pa_cons (pv 0) (pa_cons (pv 1) pa_nil)) (by decide) (by decide)))
      (pss_one (ps_ostB (B := bN 1) (initId := bIni 1) (newId := bNew 1) (bmB := bBm 1) (pv 0) (pv 1))), ?_⟩
    refine ⟨_, rfl, _, rfl, a, C, _, rfl, (by show 1 ≤ 1000; decide), E.oex, ha, ?_⟩
    refine ⟨_, rfl, _, rfl, a, C, rfl, E.oex, E.no, .inl ⟨ha, fun dx hd ne => ?_⟩⟩
    exact k _ (fun b o e hb => by rw [upd_ne hb, upd_ne (ne_of_none e hd)]; exact e) ⟨dx, upd_same, by rw [upd_ne ne, upd_same]⟩
theorem scI16 : FnScope ["self", "count"] ["self", "count"] (defScope (sI 17)) := ⟨rfl, rfl, rfl, by decide +kernel, rfl, by decide +kernel, by decide +kernel⟩
theorem ok_I16 {f C : Addr} {fd : FuncData} (F : Fun K "__init__" "OutOfRange.__init__" (sI 17) f fd) (E : EC K mg 16 C f) (B : BsT K mg 1) : FnOk P w K mg base CX0 1 f fd ["self", "count"] (spI C "count") := by
  refine F.ok scI16 (fun vs H Q E h => ?_) (fun cdv A outer s H vs Q E' hr h => ?_)
  · obtain ⟨a, v, rfl, _⟩ := h
    rfl
  · obtain ⟨a, v, rfl, ha, k⟩ := h
    refine ⟨_, pss_cons (ps_expr (pe_binit (B := bN 1) (initId := bIni 1) (newId := bNew 1) (bmB := bBm 1) (Str.ofString (bN 1)) (by rfl) B.mB (bBoot 1) (bTy 1) (bStub 1) B.vV (bHand 1) (pa_cons (pv 0) (pa_cons (pv 1) pa_nil)) (by decide) (by decide)))
      (pss_one (ps_ostB (B := bN 1) (initId := bIni 1) (newId := bNew 1) (bmB := bBm 1) (pv 0) (pv 1))), ?_⟩
    refine ⟨_, rfl, _, rfl, a, C, _, rfl, (by show 1 ≤ 1000; decide), E.oex, ha, ?_⟩
    refine ⟨_, rfl, _, rfl, a, C, rfl, E.oex, E.no, .inl ⟨ha, fun dx hd ne => ?_⟩⟩
    exact k _ (fun b o e hb => by rw [upd_ne hb, upd_ne (ne_of_none e hd)]; exact e) ⟨dx, upd_same, by rw [upd_ne ne, upd_same]⟩
theorem scI17 : FnScope ["self", "most"] ["self", "most"] (defScope (sI 18)) := ⟨rfl, rfl, rfl, by decide +kernel, rfl, by decide +kernel, by decide +kernel⟩
theorem ok_I17 {f C : Addr} {fd : FuncData} (F : Fun K "__init__" "TooMany.__init__" (sI 18) f fd) (E : EC K mg 17 C f) (B : BsT K mg 2) : FnOk P w K mg base CX0 1 f fd ["self", "most"] (spI C "most") := by
  refine F.ok scI17 (fun vs H Q E h => ?_) (fun cdv A outer s H vs Q E' hr h => ?_)
  · obtain ⟨a, v, rfl, _⟩ := h
    rfl
  · obtain ⟨a, v, rfl, ha, k⟩ := h
    refine ⟨_, pss_cons (ps_expr (pe_binit (B := bN 2) (initId := bIni 2) (newId := bNew 2) (bmB := bBm 2) (Str.ofString (bN 2)) (by rfl) B.mB (bBoot 2) (bTy 2) (bStub 2) B.vV (bHand 2) (pa_cons (pv 0) (pa_cons (pv 1) pa_nil)) (by decide) (by decide)))
      (pss_one (ps_ostB (B := bN 2) (initId := bIni 2) (newId := bNew 2) (bmB := bBm 2) (pv 0) (pv 1))), ?_⟩
    refine ⟨_, rfl, _, rfl, a, C, _, rfl, (by show 1 ≤ 1000; decide), E.oex, ha, ?_⟩
    refine ⟨_, rfl, _, rfl, a, C, rfl, E.oex, E.no, .inl ⟨ha, fun dx hd ne => ?_⟩⟩
    exact k _ (fun b o e hb => by rw [upd_ne hb, upd_ne (ne_of_none e hd)]; exact e) ⟨dx, upd_same, by rw [upd_ne ne, upd_same]⟩
theorem scI18 : FnScope ["self", "number"] ["self", "number"] (defScope (sI 19)) := ⟨rfl, rfl, rfl, by decide +kernel, rfl, by decide +kernel, by decide +kernel⟩
theorem ok_I18 {f C : Addr} {fd : FuncData} (F : Fun K "__init__" "Closed.__init__" (sI 19) f fd) (E : EC K mg 18 C f) (B : BsT K mg 3) : FnOk P w K mg base CX0 1 f fd ["self", "number"] (spI C "number") := by
  refine F.ok scI18 (fun vs H Q E h => ?_) (fun cdv A outer s H vs Q E' hr h => ?_)
  · obtain ⟨a, v, rfl, _⟩ := h
    rfl
  · obtain ⟨a, v, rfl, ha, k⟩ := h
    refine ⟨_, pss_cons (ps_expr (pe_binit (B := bN 3) (initId := bIni 3) (newId := bNew 3) (bmB := bBm 3) (Str.ofString (bN 3)) (by rfl) B.mB (bBoot 3) (bTy 3) (bStub 3) B.vV (bHand 3) (pa_cons (pv 0) (pa_cons (pv 1) pa_nil)) (by decide) (by decide)))
      (pss_one (ps_ostB (B := bN 3) (initId := bIni 3) (newId := bNew 3) (bmB := bBm 3) (pv 0) (pv 1))), ?_⟩
    refine ⟨_, rfl, _, rfl, a, C, _, rfl, (by show 1 ≤ 1000; decide), E.oex, ha, ?_⟩
    refine ⟨_, rfl, _, rfl, a, C, rfl, E.oex, E.no, .inl ⟨ha, fun dx hd ne => ?_⟩⟩
    exact k _ (fun b o e hb => by rw [upd_ne hb, upd_ne (ne_of_none e hd)]; exact e) ⟨dx, upd_same, by rw [upd_ne ne, upd_same]⟩
theorem scI19 : FnScope ["self", "one", "other"] ["self", "one", "other"] (defScope (sI 20)) := ⟨rfl, rfl, rfl, by decide +kernel, rfl, by decide +kernel, by decide +kernel⟩
theorem ok_I19 {f C : Addr} {fd : FuncData} (F : Fun K "__init__" "OverLimit.__init__" (sI 20) f fd) (E : EC K mg 19 C f) (no2 : PySem.W.findIn K (.ref C) "other" = some none) (B : BsT K mg 3) : FnOk P w K mg base CX0 1 f fd ["self", "one", "other"] (spI2 C) := by
  refine F.ok scI19 (fun vs H Q E h => ?_) (fun cdv A outer s H vs Q E' hr h => ?_)
  · obtain ⟨a, v, v2, rfl, _⟩ := h
    rfl
  · obtain ⟨a, v, v2, rfl, ha, k⟩ := h
    refine ⟨_, pss_cons (ps_expr (pe_binit (B := bN 3) (initId := bIni 3) (newId := bNew 3) (bmB := bBm 3) (Str.ofString (bN 3)) (by rfl) B.mB (bBoot 3) (bTy 3) (bStub 3) B.vV (bHand 3) (pa_cons (pv 0) (pa_cons (pv 1) (pa_cons (pv 2) pa_nil))) (by decide) (by decide)))
      (pss_cons (ps_ostB (B := bN 3) (initId := bIni 3) (newId := bNew 3) (bmB := bBm 3) (pv 0) (pv 1)) (pss_one (ps_ostB (B := bN 3) (initId := bIni 3) (newId := bNew 3) (bmB := bBm 3) (pv 0) (pv 2)))), ?_⟩
    refine ⟨_, rfl, _, rfl, _, rfl, a, C, _, rfl, (by show 2 ≤ 1000; decide), E.oex, ha, ?_⟩
    refine ⟨_, rfl, _, rfl, a, C, rfl, E.oex, E.no, .inl ⟨ha, fun dx hd ne => ?_⟩⟩
    refine ⟨_, rfl, _, rfl, a, C, rfl, E.oex, no2, .inr ⟨dx, _, upd_same, by rw [upd_ne ne, upd_same], by show 1 ≤ 900; decide, ?_⟩⟩
    exact k _ (fun b o e hb => by rw [upd_ne (ne_of_none e hd), upd_ne hb, upd_ne (ne_of_none e hd)]; exact e) ⟨dx, by rw [upd_ne ne.symm, upd_same], upd_same⟩
end



theorem pe_imp {X : Cx} {e : Expr} {t t' : TE} (h : PE X e t) (i : ∀ σ H Q, t' σ H Q → t σ H Q) : PE X e t' := ⟨fun pins s σ H Q I q => h.run pins s σ H Q I (i σ H Q q)⟩
/-- two errors of one class with one content in a tuple -/
def PairAt (H : Hp) (C : Addr) (fs : List (Str × V)) (t : Addr) : Prop := ∃ a b, H t = some (.tup [.ref a, .ref b]) ∧ ErrAt H C fs a ∧ ErrAt H C fs b
theorem PairAt.same {H H' : Hp} {C t : Addr} {fs : List (Str × V)} (e : PairAt H C fs t) (s : Same H H') : PairAt H' C fs t := by
  obtain ⟨a, b, h1, h2, h3⟩ := e
  exact ⟨a, b, s _ _ h1, h2.same s, h3.same s⟩
def tPr (C : Addr) (f : Str) (i : Nat) : TE := fun σ H Q => ∃ v, σ[i]? = some (some v) ∧ ∀ t H', Same H H' → PairAt H' C [(f, v)] t → Q (.ref t) H'
def tPrO (C : Addr) (i j : Nat) : TE := fun σ H Q => ∃ v w, σ[i]? = some (some v) ∧ σ[j]? = some (some w) ∧ ∀ t H', Same H H' → PairAt H' C [("other", w), ("one", v)] t → Q (.ref t) H'
/-- one keyword binds as one value does -/
def Kb1 (fd : FuncData) (f : Str) : Prop := ∀ (s' : Shared) (a : Addr) (ws : List Value), ws.length = 1 → BindsTo s' fd ⟨[.ref a], ([f] : List Str).zip ws⟩ ((["self", f] : List Str).zip (.ref a :: ws))
def swp {α : Type} : List α → List α
  | [x, y] => [y, x]
  | l => l
def Kb2 (fd : FuncData) : Prop := ∀ (s' : Shared) (a : Addr) (ws : List Value), ws.length = 2 → BindsTo s' fd ⟨[.ref a], (["other", "one"] : List Str).zip ws⟩ ((["self", "one", "other"] : List Str).zip (.ref a :: swp ws))
theorem swp_rel {zs : List V} {ws : List Value} (h : Vals zs ws) : Vals (swp zs) (swp ws) := by
  cases h with
  | nil => exact .nil
  | cons a h =>
    cases h with
    | nil => exact .cons a .nil
    | cons b h =>
      cases h with
      | nil => exact .cons b (.cons a .nil)
      | cons c h => exact .cons a (.cons b (.cons c h))
section
variable {X : Cx} {k : Nat} {C f : Addr} {fd : FuncData} {i j : Nat} {o o2 : Str} {p1 p2 p3 p4 p5 p6 p7 p8 q1 q2 q3 : Pos} {x1 : Nat}
theorem mk_step {H : Hp} {a C : Addr} (h : H a = none) : Same H (upd H a (exo a C none)) ∧ (upd H a (exo a C none)) a = some (exo a C none) := ⟨same_new h, upd_same⟩
theorem same_mk {H H' : Hp} {a C : Addr} (h : H a = none) (k : ∀ b o, (upd H a (exo a C none)) b = some o → b ≠ a → H' b = some o) : Same H H' := fun b o e =>
  k b o ((same_new h) b o e) (ne_of_none e h)
theorem pe_pair (E : EC X.K X.mg k C f) (G : FnOk X.prog X.w X.K X.mg X.base CX0 1 f fd ["self", fdE k] (spI C (fdE k))) (bG : Binds X.K fd ["self", fdE k] []) (kb : Kb1 fd (fdE k)) (hr : Room 2 X.A)
    (hN : X.N[i]? = some o) (hv : Vis X.env.scope o) (hg : Gl X (nmE k)) (hd : (o == ("__debug__" : Str)) = false) (hcd : (o == ("__classdict__" : Str)) = false) (hdb : (nmE k == ("__debug__" : Str)) = false) :
    PE X (.Tuple [.Call (.Name (nmE k) p1) [.Name o p2] [] p3, .Call (.Name (nmE k) p4) [] [⟨some (fdE k), .Name o p5, p6⟩] p7] x1 p8) (tPr C (fdE k) i) := by
  have h0 : PE X (.Tuple [.Call (.Name (nmE k) p1) [.Name o p2] [] p3, .Call (.Name (nmE k) p4) [] [⟨some (fdE k), .Name o p5, p6⟩] p7] x1 p8)
      (tTup (tCons (tMkV C (spI C (fdE k)) (tCons (tVar i) tNil)) (tCons (tMkVK C (spI C (fdE k)) 1 (fun l => l) (tCons (tVar i) tNil)) tNil))) :=
    pe_tup (pa_cons (pe_mkV E.oex E.iC E.tI G hr bG hg E.gC (pa_cons (pv i hN hv hd hcd) pa_nil) hdb)
      (pa_cons (pe_mkVK (ks := [fdE k]) (perm := fun l => l) (permV := fun l => l) E.oex E.iC E.tI G hr kb (fun h => h) hg E.gC (pk_cons (pv i hN hv hd hcd) pk_nil) (by rfl) (by rfl) hdb) pa_nil))
  refine pe_imp h0 fun σ H Q ⟨v, hv, q⟩ => ?_
  refine ⟨v, hv, by show 1 ≤ 1000; decide, fun a ha => ⟨a, v, rfl, upd_same, fun H1 k1 e1 => ⟨rfl, ?_⟩⟩⟩
  have s1 := same_mk ha k1
  refine ⟨v, hv, rfl, fun b hb => ⟨b, v, rfl, upd_same, fun H2 k2 e2 => ⟨rfl, ?_⟩⟩⟩
  have s2 := same_mk hb k2
  refine ⟨by show 2 ≤ sizeLine; decide, fun t ht => ?_⟩
  exact q t _ ((s1.trans s2).trans (same_new ht)) ⟨a, b, upd_same, (e1.same s2).same (same_new ht), e2.same (same_new ht)⟩
theorem pe_pairO (E : EC X.K X.mg 19 C f) (G : FnOk X.prog X.w X.K X.mg X.base CX0 1 f fd ["self", "one", "other"] (spI2 C)) (bG : Binds X.K fd ["self", "one", "other"] []) (kb : Kb2 fd) (hr : Room 2 X.A)
    (hN : X.N[i]? = some o) (hv : Vis X.env.scope o) (hN2 : X.N[j]? = some o2) (hv2 : Vis X.env.scope o2) (hg : Gl X (nmE 19)) (hd : (o == ("__debug__" : Str)) = false) (hcd : (o == ("__classdict__" : Str)) = false) (hd2 : (o2 == ("__debug__" : Str)) = false) (hcd2 : (o2 == ("__classdict__" : Str)) = false)
    (hdb : (nmE 19 == ("__debug__" : Str)) = false) :
    PE X (.Tuple [.Call (.Name (nmE 19) p1) [.Name o p2, .Name o2 q1] [] p3, .Call (.Name (nmE 19) p4) [] [⟨some "other", .Name o2 q2, q3⟩, ⟨some "one", .Name o p5, p6⟩] p7] x1 p8) (tPrO C i j) := by
  have h0 : PE X (.Tuple [.Call (.Name (nmE 19) p1) [.Name o p2, .Name o2 q1] [] p3, .Call (.Name (nmE 19) p4) [] [⟨some "other", .Name o2 q2, q3⟩, ⟨some "one", .Name o p5, p6⟩] p7] x1 p8)
      (tTup (tCons (tMkV C (spI2 C) (tCons (tVar i) (tCons (tVar j) tNil))) (tCons (tMkVK C (spI2 C) 2 swp (tCons (tVar j) (tCons (tVar i) tNil))) tNil))) :=
    pe_tup (pa_cons (pe_mkV E.oex E.iC E.tI G hr bG hg E.gC (pa_cons (pv i hN hv hd hcd) (pa_cons (pv j hN2 hv2 hd2 hcd2) pa_nil)) hdb)
      (pa_cons (pe_mkVK (ks := ["other", "one"]) (perm := swp) (permV := swp) E.oex E.iC E.tI G hr kb swp_rel hg E.gC (pk_cons (pv j hN2 hv2 hd2 hcd2) (pk_cons (pv i hN hv hd hcd) pk_nil)) (by rfl) (by rfl) hdb) pa_nil))
  refine pe_imp h0 fun σ H Q ⟨v, w, hv, hw, q⟩ => ?_
  refine ⟨v, hv, w, hw, by show 2 ≤ 1000; decide, fun a ha => ⟨a, v, w, rfl, upd_same, fun H1 k1 e1 => ⟨rfl, ?_⟩⟩⟩
  have s1 := same_mk ha k1
  refine ⟨w, hw, v, hv, rfl, fun b hb => ⟨b, v, w, rfl, upd_same, fun H2 k2 e2 => ⟨rfl, ?_⟩⟩⟩
  have s2 := same_mk hb k2
  refine ⟨by show 2 ≤ sizeLine; decide, fun t ht => ?_⟩
  exact q t _ ((s1.trans s2).trans (same_new ht)) ⟨a, b, upd_same, (e1.same s2).same (same_new ht), e2.same (same_new ht)⟩
end
/-! ### all errors at once -/
abbrev sErr : Stmt := top 26
theorem seq_step {t u : TS} {D : Ends} {σ : L2.St} {H : Hp} (Rp : L2.St → Hp → Prop) (h1 : ∀ R : L2.St → Hp → Prop, (∀ σ' H', Rp σ' H' → R σ' H') → t { D with nx := R } σ H) (h2 : ∀ σ' H', Rp σ' H' → u D σ' H') : tSeq t u D σ H := h1 (u D) h2
/-- the pairs from the class k on -/
def PairsAt (Cs : Nat → Addr) (H : Hp) (v w : V) : Nat → List Addr → Prop
  | _, [] => True
  | k, t :: r => PairAt H (Cs k) (flE k v w) t ∧ PairsAt Cs H v w (k + 1) r
theorem PairsAt.get {Cs : Nat → Addr} {H : Hp} {v w : V} : ∀ {ts : List Addr} {k i : Nat} {t : Addr}, PairsAt Cs H v w k ts → ts[i]? = some t → PairAt H (Cs (k + i)) (flE (k + i) v w) t
  | [], _, _, _, _, h => by simp at h
  | t :: r, k, 0, _, p, h => by
    have e : t = _ := Option.some.inj h
    subst e
    exact p.1
  | t :: r, k, i + 1, _, p, h => by
    have z := PairsAt.get p.2 (i := i) (by simpa using h)
    have e : k + (i + 1) = k + 1 + i := by omega
    rw [e]
    exact z
theorem PairsAt.same {Cs : Nat → Addr} {H H' : Hp} {v w : V} (s : Same H H') : ∀ {ts : List Addr} {k : Nat}, PairsAt Cs H v w k ts → PairsAt Cs H' v w k ts
  | [], _, _ => True.intro
  | _ :: _, _, p => ⟨p.1.same s, PairsAt.same s p.2⟩
theorem PairsAt.app {Cs : Nat → Addr} {H : Hp} {v w : V} {t : Addr} : ∀ {ts : List Addr} {k n : Nat}, PairsAt Cs H v w k ts → n = k + ts.length → PairAt H (Cs n) (flE n v w) t → PairsAt Cs H v w k (ts ++ [t])
  | [], k, n, _, e, h => by
    have e' : n = k := e
    subst e'
    exact ⟨h, True.intro⟩
  | _ :: r, k, n, p, e, h => ⟨p.1, PairsAt.app p.2 (by rw [e, List.length_cons]; omega) h⟩
def spErr (Cs : Nat → Addr) : Sp := fun vs H Q _ => ∃ (v w : V), vs = [v, w] ∧ ∀ (l : Addr) (ts : List Addr) (H' : Hp), Same H H' → H' l = some (.lst (ts.map V.ref)) → ts.length = 20 → PairsAt Cs H' v w 0 ts → Q (.ref l) H'
/-- the state behind the first n classes -/
def RE (Cs : Nat → Addr) (H : Hp) (v w : V) (n : Nat) : L2.St → Hp → Prop := fun σ' H' => ∃ (l : Addr) (ts : List Addr), σ' = [some v, some w, some (.ref l)] ∧ Same H H' ∧ H' l = some (.lst (ts.map V.ref)) ∧ ts.length = n ∧ PairsAt Cs H' v w 0 ts
theorem fl1 {k : Nat} (v w : V) (h : k < 19) : flE k v w = [(fdE k, v)] := by
  unfold flE
  rw [if_neg (by omega)]
theorem two_more {Cs : Nat → Addr} {H H' A B : Hp} {v w : V} {n : Nat} {l x ta tb : Addr} {ts : List Addr} (TH : Same H H') (gl : H' l = some (.lst (ts.map V.ref))) (hn : ts.length = n) (PP : PairsAt Cs H' v w 0 ts) (h20 : n + 2 ≤ 20) (sa : Same H' A) (ea : PairAt A (Cs n) (flE n v w) ta)
    (sb : Same A B) (eb : PairAt B (Cs (n + 1)) (flE (n + 1) v w) tb) (hx : B x = none) {Q : V → Hp → Prop}
    (q : ∀ (l2 : Addr) (H2 : Hp), Same H H2 → H2 l2 = some (.lst ((ts ++ [ta] ++ [tb]).map V.ref)) → (ts ++ [ta] ++ [tb]).length = n + 2 → PairsAt Cs H2 v w 0 (ts ++ [ta] ++ [tb]) → Q (.ref l2) H2) :
    rCat (.ref l) (.ref x) (upd B x (.lst [.ref ta, .ref tb])) Q := by
  have sx := same_new (o := .lst [.ref ta, .ref tb]) hx
  have s1 := (sa.trans sb).trans sx
  refine ⟨l, x, ts.map V.ref, [.ref ta, .ref tb], rfl, rfl, s1 _ _ gl, upd_same, ?_, fun l2 h2 => ?_⟩
  · rw [List.length_map, hn]
    exact Nat.le_trans h20 (by decide)
  · have s2 := same_new (o := .lst (ts.map V.ref ++ [.ref ta, .ref tb])) h2
    have S := s1.trans s2
    refine q l2 _ (TH.trans S) ?_ (by simp [hn]) ?_
    · rw [List.map_append, List.map_append, List.append_assoc]
      exact upd_same
    · refine PairsAt.app (n := n + 1) (PairsAt.app (n := n) (PP.same S) (by omega) (ea.same ((sb.trans sx).trans s2))) (by simp [hn]) (eb.same (sx.trans s2))
theorem err_step {Cs : Nat → Addr} {H H' : Hp} {v w : V} {n : Nat} {D : Ends} {σ' : L2.St} {R : L2.St → Hp → Prop} (hk : n + 2 ≤ 19) (h : RE Cs H v w n σ' H') (hR : ∀ σ2 H2, RE Cs H v w (n + 2) σ2 H2 → R σ2 H2) :
    tAsg (tOp rCat (tVar 2) (tLst (tCons (tPr (Cs n) (fdE n) 0) (tCons (tPr (Cs (n + 1)) (fdE (n + 1)) 0) tNil)))) (gName 2) { D with nx := R } σ' H' := by
  obtain ⟨l, ts, rfl, TH, gl, hn, PP⟩ := h
  refine ⟨_, rfl, v, rfl, fun ta A sa ea => ⟨v, rfl, fun tb B sb eb => ⟨by show 2 ≤ sizeLine; decide, fun x hx => ?_⟩⟩⟩
  refine two_more TH gl hn PP (by omega) sa (by rw [fl1 v w (by omega)]; exact ea) sb (by rw [fl1 v w (by omega)]; exact eb) hx fun l2 H2 t1 t2 t3 t4 => ?_
  exact hR _ _ ⟨l2, _, rfl, t1, t2, t3, t4⟩
/-- the inits, as the callers see them -/
structure InT (P : Program) (w : World) (K : PySem.W.Frag) (mg : Str → Option Value) (base : Heap) (Cs Fs : Nat → Addr) (fds : Nat → FuncData) : Prop where
  ok : ∀ k, k < 19 → FnOk P w K mg base CX0 1 (Fs k) (fds k) ["self", fdE k] (spI (Cs k) (fdE k))
  bd : ∀ k, k < 19 → Binds K (fds k) ["self", fdE k] []
  kb : ∀ k, k < 19 → Kb1 (fds k) (fdE k)
  ok2 : FnOk P w K mg base CX0 1 (Fs 19) (fds 19) ["self", "one", "other"] (spI2 (Cs 19))
  bd2 : Binds K (fds 19) ["self", "one", "other"] []
  kb2 : Kb2 (fds 19)
section
variable {P : Program} {w : World} {K : PySem.W.Frag} {mg : Str → Option Value} {base : Heap} {Cs Fs : Nat → Addr} {fds : Nat → FuncData}
theorem scErr : FnScope ["_law_odd", "_law_more", "_law_found"] ["_law_odd", "_law_more"] (defScope sErr) := ⟨rfl, rfl, rfl, by decide +kernel, rfl, by decide +kernel, by decide +kernel⟩
theorem ok_err {f : Addr} {fd : FuncData} (F : Fun K "_law_errors" "_law_errors" sErr f fd) (T : Fam K mg Cs Fs) (N : InT P w K mg base Cs Fs fds) : FnOk P w K mg base CX0 3 f fd ["_law_odd", "_law_more"] (spErr Cs) := by
  refine F.ok scErr (fun vs H Q E h => ?_) (fun cdv A outer s H vs Q E hr h => ?_)
  · obtain ⟨v, w, rfl, _⟩ := h
    rfl
  · obtain ⟨v, w, rfl, k⟩ := h
    refine ⟨_, pss_cons (ps_set (i := 2) scErr.nd rfl (Or.inl rfl) (pe_lst (pa_cons (pe_pair (k := 0) (i := 0) (T.ec 0 (by decide)) (N.ok 0 (by decide)) (N.bd 0 (by decide)) (N.kb 0 (by decide)) hr rfl (Or.inl rfl) (by rfl) (by decide) (by decide) (by decide)) (pa_cons (pe_pair (k := 1) (i := 0) (T.ec 1 (by decide)) (N.ok 1 (by decide)) (N.bd 1 (by decide)) (N.kb 1 (by decide)) hr rfl (Or.inl rfl) (by rfl) (by decide) (by decide) (by decide)) pa_nil))))
      (pss_cons (ps_set (i := 2) scErr.nd rfl (Or.inl rfl) (pe_op op_cat (pv 2) (pe_lst (pa_cons (pe_pair (k := 2) (i := 0) (T.ec 2 (by decide)) (N.ok 2 (by decide)) (N.bd 2 (by decide)) (N.kb 2 (by decide)) hr rfl (Or.inl rfl) (by rfl) (by decide) (by decide) (by decide)) (pa_cons (pe_pair (k := 3) (i := 0) (T.ec 3 (by decide)) (N.ok 3 (by decide)) (N.bd 3 (by decide)) (N.kb 3 (by decide)) hr rfl (Or.inl rfl) (by rfl) (by decide) (by decide) (by decide)) pa_nil)))))
      (pss_cons (ps_set (i := 2) scErr.nd rfl (Or.inl rfl) (pe_op op_cat (pv 2) (pe_lst (pa_cons (pe_pair (k := 4) (i := 0) (T.ec 4 (by decide)) (N.ok 4 (by decide)) (N.bd 4 (by decide)) (N.kb 4 (by decide)) hr rfl (Or.inl rfl) (by rfl) (by decide) (by decide) (by decide)) (pa_cons (pe_pair (k := 5) (i := 0) (T.ec 5 (by decide)) (N.ok 5 (by decide)) (N.bd 5 (by decide)) (N.kb 5 (by decide)) hr rfl (Or.inl rfl) (by rfl) (by decide) (by decide) (by decide)) pa_nil)))))
      (pss_cons (ps_set (i := 2) scErr.nd rfl (Or.inl rfl) (pe_op op_cat (pv 2) (pe_lst (pa_cons (pe_pair (k := 6) (i := 0) (T.ec 6 (by decide)) (N.ok 6 (by decide)) (N.bd 6 (by decide)) (N.kb 6 (by decide)) hr rfl (Or.inl rfl) (by rfl) (by decide) (by decide) (by decide)) (pa_cons (pe_pair (k := 7) (i := 0) (T.ec 7 (by decide)) (N.ok 7 (by decide)) (N.bd 7 (by decide)) (N.kb 7 (by decide)) hr rfl (Or.inl rfl) (by rfl) (by decide) (by decide) (by decide)) pa_nil)))))
      (pss_cons (ps_set (i := 2) scErr.nd rfl (Or.inl rfl) (pe_op op_cat (pv 2) (pe_lst (pa_cons (pe_pair (k := 8) (i := 0) (T.ec 8 (by decide)) (N.ok 8 (by decide)) (N.bd 8 (by decide)) (N.kb 8 (by decide)) hr rfl (Or.inl rfl) (by rfl) (by decide) (by decide) (by decide)) (pa_cons (pe_pair (k := 9) (i := 0) (T.ec 9 (by decide)) (N.ok 9 (by decide)) (N.bd 9 (by decide)) (N.kb 9 (by decide)) hr rfl (Or.inl rfl) (by rfl) (by decide) (by decide) (by decide)) pa_nil)))))
      (pss_cons (ps_set (i := 2) scErr.nd rfl (Or.inl rfl) (pe_op op_cat (pv 2) (pe_lst (pa_cons (pe_pair (k := 10) (i := 0) (T.ec 10 (by decide)) (N.ok 10 (by decide)) (N.bd 10 (by decide)) (N.kb 10 (by decide)) hr rfl (Or.inl rfl) (by rfl) (by decide) (by decide) (by decide)) (pa_cons (pe_pair (k := 11) (i := 0) (T.ec 11 (by decide)) (N.ok 11 (by decide)) (N.bd 11 (by decide)) (N.kb 11 (by decide)) hr rfl (Or.inl rfl) (by rfl) (by decide) (by decide) (by decide)) pa_nil)))))
      (pss_cons (ps_set (i := 2) scErr.nd rfl (Or.inl rfl) (pe_op op_cat (pv 2) (pe_lst (pa_cons (pe_pair (k := 12) (i := 0) (T.ec 12 (by decide)) (N.ok 12 (by decide)) (N.bd 12 (by decide)) (N.kb 12 (by decide)) hr rfl (Or.inl rfl) (by rfl) (by decide) (by decide) (by decide)) (pa_cons (pe_pair (k := 13) (i := 0) (T.ec 13 (by decide)) (N.ok 13 (by decide)) (N.bd 13 (by decide)) (N.kb 13 (by decide)) hr rfl (Or.inl rfl) (by rfl) (by decide) (by decide) (by decide)) pa_nil)))))
      (pss_cons (ps_set (i := 2) scErr.nd rfl (Or.inl rfl) (pe_op op_cat (pv 2) (pe_lst (pa_cons (pe_pair (k := 14) (i := 0) (T.ec 14 (by decide)) (N.ok 14 (by decide)) (N.bd 14 (by decide)) (N.kb 14 (by decide)) hr rfl (Or.inl rfl) (by rfl) (by decide) (by decide) (by decide)) (pa_cons (pe_pair (k := 15) (i := 0) (T.ec 15 (by decide)) (N.ok 15 (by decide)) (N.bd 15 (by decide)) (N.kb 15 (by decide)) hr rfl (Or.inl rfl) (by rfl) (by decide) (by decide) (by decide)) pa_nil)))))
      (pss_cons (ps_set (i := 2) scErr.nd rfl (Or.inl rfl) (pe_op op_cat (pv 2) (pe_lst (pa_cons (pe_pair (k := 16) (i := 0) (T.ec 16 (by decide)) (N.ok 16 (by decide)) (N.bd 16 (by decide)) (N.kb 16 (by decide)) hr rfl (Or.inl rfl) (by rfl) (by decide) (by decide) (by decide)) (pa_cons (pe_pair (k := 17) (i := 0) (T.ec 17 (by decide)) (N.ok 17 (by decide)) (N.bd 17 (by decide)) (N.kb 17 (by decide)) hr rfl (Or.inl rfl) (by rfl) (by decide) (by decide) (by decide)) pa_nil)))))
      (pss_one (ps_ret (pe_op op_cat (pv 2) (pe_lst (pa_cons (pe_pair (k := 18) (i := 0) (T.ec 18 (by decide)) (N.ok 18 (by decide)) (N.bd 18 (by decide)) (N.kb 18 (by decide)) hr rfl (Or.inl rfl) (by rfl) (by decide) (by decide) (by decide)) (pa_cons (pe_pairO (i := 0) (j := 1) (T.ec 19 (by decide)) N.ok2 N.bd2 N.kb2 hr rfl (Or.inl rfl) rfl (Or.inl rfl) (by rfl) (by decide) (by decide) (by decide) (by decide) (by decide)) pa_nil)))))))))))))), ?_⟩
    refine seq_step (RE Cs H v w 2) (fun R hR => ?_) (fun σ1 H1 h1 => ?_)
    · refine ⟨v, rfl, fun t0 G0 s0 e0 => ⟨v, rfl, fun t1 G1 s1 e1 => ⟨by show 2 ≤ sizeLine; decide, fun l h => ?_⟩⟩⟩
      have sl := same_new (o := .lst [.ref t0, .ref t1]) h
      exact hR _ _ ⟨l, [t0, t1], rfl, (s0.trans s1).trans sl, upd_same, rfl, (e0.same s1).same sl, e1.same sl, True.intro⟩
    refine seq_step (RE Cs H v w 4) (fun R hR => err_step (n := 2) (by decide) h1 hR) (fun σ2 H2 h2 => ?_)
    clear h1
    refine seq_step (RE Cs H v w 6) (fun R hR => err_step (n := 4) (by decide) h2 hR) (fun σ3 H3 h3 => ?_)
    clear h2
    refine seq_step (RE Cs H v w 8) (fun R hR => err_step (n := 6) (by decide) h3 hR) (fun σ4 H4 h4 => ?_)
    clear h3
    refine seq_step (RE Cs H v w 10) (fun R hR => err_step (n := 8) (by decide) h4 hR) (fun σ5 H5 h5 => ?_)
    clear h4
    refine seq_step (RE Cs H v w 12) (fun R hR => err_step (n := 10) (by decide) h5 hR) (fun σ6 H6 h6 => ?_)
    clear h5
    refine seq_step (RE Cs H v w 14) (fun R hR => err_step (n := 12) (by decide) h6 hR) (fun σ7 H7 h7 => ?_)
    clear h6
    refine seq_step (RE Cs H v w 16) (fun R hR => err_step (n := 14) (by decide) h7 hR) (fun σ8 H8 h8 => ?_)
    clear h7
    refine seq_step (RE Cs H v w 18) (fun R hR => err_step (n := 16) (by decide) h8 hR) (fun σ9 H9 h9 => ?_)
    clear h8
    obtain ⟨l, ts, rfl, TH, gl, hn, PP⟩ := h9
    refine ⟨_, rfl, v, rfl, fun ta A sa ea => ⟨v, w, rfl, rfl, fun tb B sb eb => ⟨by show 2 ≤ sizeLine; decide, fun x hx => ?_⟩⟩⟩
    exact two_more (n := 18) TH gl hn PP (by omega) sa ea sb eb hx fun l2 H2 t1 t2 t3 t4 => k l2 _ H2 t1 t2 t3 t4
end



abbrev sCls : Stmt := top 27
abbrev sFld : Stmt := top 28
abbrev sAbv : Stmt := top 29
abbrev sSame : Stmt := top 30
theorem bIsi : bootBuiltins "isinstance" = some (.builtin "isinstance") := by decide +kernel
theorem bRepr : bootBuiltins "repr" = some (.builtin "repr") := by decide +kernel
/-! ### above: which of the four built-in errors -/
def spAbv (Cs : Nat → Addr) : Sp := fun vs H Q _ => ∃ (a : Addr) (k : Nat) (fs : List (Str × V)), vs = [.ref a] ∧ k < 20 ∧ ErrAt H (Cs k) fs a ∧ ∀ (p : Addr) (H' : Hp), Same H H' → H' p = some (.lst ((List.range 4).map fun b => .bl (decide (b = bsE k)))) → Q (.ref p) H'
/-- classes: which of the twenty -/
def spCls (Cs : Nat → Addr) : Sp := fun vs H Q _ => ∃ (a : Addr) (k : Nat) (fs : List (Str × V)), vs = [.ref a] ∧ k < 20 ∧ ErrAt H (Cs k) fs a ∧ ∀ (p : Addr) (H' : Hp), Same H H' → H' p = some (.lst ((List.range 20).map fun j => .bl (decide (j = k)))) → Q (.ref p) H'
/-- field: the first field of the class k -/
def spFld (Cs : Nat → Addr) : Sp := fun vs H Q _ => ∃ (a : Addr) (k : Nat) (v w : V), vs = [.ref a, .int k] ∧ k < 20 ∧ ErrAt H (Cs k) (flE k v w) a ∧ ∀ (H' : Hp), Same H H' → Q v H'
def spSame (K : PySem.W.Frag) : Sp := fun vs H Q _ => ∃ (v : V), vs = [v, v] ∧ Odd K H v ∧ Q (.bl true) H
theorem isx {K : PySem.W.Frag} {mg : Str → Option Value} {Cs Fs : Nat → Addr} {H : Hp} {Q : VK} {a : Addr} {k : Nat} {fs : List (Str × V)} {c : V} {u : Value} {b : Bool} (T : Fam K mg Cs Fs) (hk : k < 20) (e : ErrAt H (Cs k) fs a) (cv : ClsV c u)
    (kt : PySem.W.kitOne K (.ref (Cs k)) u = some b) (q : Q (.bl b) H) : rIsX K [.ref a, c] H Q := by
  obtain ⟨d, h1, h2⟩ := e
  exact ⟨a, Cs k, d, fs, c, u, b, rfl, h1, h2, (T.ec k hk).ev, T.cd, cv, kt, q⟩
theorem fd_value {k : Nat} (hk : k < 20) (h : k < 5 ∨ k = 14) : fdE k = "value" := (by decide +kernel : ∀ a : Fin 20, a.val < 5 ∨ a.val = 14 → fdE a.val = "value") ⟨k, hk⟩ h
theorem fd_index {k : Nat} (hk : k < 20) (h : 5 ≤ k ∧ k < 9) : fdE k = "index" := (by decide +kernel : ∀ a : Fin 20, 5 ≤ a.val ∧ a.val < 9 → fdE a.val = "index") ⟨k, hk⟩ h
theorem fd_field {k : Nat} (hk : k < 20) (h : 9 ≤ k ∧ k < 11) : fdE k = "field" := (by decide +kernel : ∀ a : Fin 20, 9 ≤ a.val ∧ a.val < 11 → fdE a.val = "field") ⟨k, hk⟩ h
theorem fd_number {k : Nat} (hk : k < 20) (h : k = 13 ∨ k = 15 ∨ k = 18) : fdE k = "number" := (by decide +kernel : ∀ a : Fin 20, a.val = 13 ∨ a.val = 15 ∨ a.val = 18 → fdE a.val = "number") ⟨k, hk⟩ h
theorem fd_house {k : Nat} (hk : k < 20) (h : k = 11) : fdE k = "house" := by subst h; decide +kernel
theorem fd_place {k : Nat} (hk : k < 20) (h : k = 12) : fdE k = "place" := by subst h; decide +kernel
theorem fd_count {k : Nat} (hk : k < 20) (h : k = 16) : fdE k = "count" := by subst h; decide +kernel
theorem fd_most {k : Nat} (hk : k < 20) (h : k = 17) : fdE k = "most" := by subst h; decide +kernel
theorem fd_one {k : Nat} (hk : k < 20) (h : k = 19) : fdE k = "one" := by subst h; decide +kernel
theorem fl_look {k : Nat} (v w : V) (hk : k < 20) : (flE k v w).lookup (fdE k) = some v := by
  by_cases h : k = 19
  · subst h
    kernel_rfl
  · unfold flE
    rw [if_neg h]
    simp [List.lookup]
/-- e.f where f is the class's first field -/
theorem exf {K : PySem.W.Frag} {mg : Str → Option Value} {Cs Fs : Nat → Addr} {H : Hp} {Q : VK} {a : Addr} {k : Nat} {v w : V} {f : Str} {σ : L2.St} {i : Nat} (T : Fam K mg Cs Fs) (hk : k < 20) (e : ErrAt H (Cs k) (flE k v w) a) (hs : σ[i]? = some (some (.ref a))) (hf : fdE k = f) (q : Q v H) : tExF K f (tVar i) σ H Q := by
  subst hf
  obtain ⟨d, h1, h2⟩ := e
  exact ⟨_, hs, a, Cs k, d, flE k v w, v, rfl, h1, h2, (T.ec k hk).ev, (T.ec k hk).no, fl_look v w hk, q⟩
theorem eqI (a n : Int) : eqV (.int a) (.int n) = decide (n = a) := by
  by_cases h : n = a
  · subst h
    simp [eqV]
  · have h' : ¬ a = n := fun z => h z.symm
    simp [eqV, h, h']
theorem inV3 {n a b c : Int} : inV (.int n) [.int a, .int b, .int c] = decide (n = a ∨ n = b ∨ n = c) := by
  show (eqV (.int a) (.int n) || (eqV (.int b) (.int n) || (eqV (.int c) (.int n) || false))) = _
  rw [eqI, eqI, eqI, Bool.or_false, Bool.decide_or, Bool.decide_or]
theorem inV2 {n a b : Int} : inV (.int n) [.int a, .int b] = decide (n = a ∨ n = b) := by
  show (eqV (.int a) (.int n) || (eqV (.int b) (.int n) || false)) = _
  rw [eqI, eqI, Bool.or_false, Bool.decide_or]
theorem vint {a b : Int} : (V.int a = V.int b) ↔ a = b := ⟨fun h => V.int.inj h, fun h => by rw [h]⟩
section
variable {P : Program} {w : World} {K : PySem.W.Frag} {mg : Str → Option Value} {base : Heap} {Cs Fs : Nat → Addr}
theorem scAbv : FnScope ["_law_e", "_law_found"] ["_law_e"] (defScope sAbv) := ⟨rfl, rfl, rfl, by decide +kernel, rfl, by decide +kernel, by decide +kernel⟩
theorem ok_abv {f : Addr} {fd : FuncData} (F : Fun K "_law_above" "_law_above" sAbv f fd) (B : Blt mg) (T : Fam K mg Cs Fs) (B0 : BsT K mg 0) (B1 : BsT K mg 1) (B2 : BsT K mg 2) (B3 : BsT K mg 3) : FnOk P w K mg base CX0 1 f fd ["_law_e"] (spAbv Cs) := by
  refine F.ok scAbv (fun vs H Q E h => ?_) (fun cdv A outer s H vs Q E hr h => ?_)
  · obtain ⟨a, k, fs, rfl, _⟩ := h
    rfl
  · obtain ⟨a, k, fs, rfl, hk, ⟨d, ha, hd⟩, q⟩ := h
    refine ⟨_, pss_cons (ps_set (i := 1) scAbv.nd rfl (Or.inl rfl) (pe_lst (pa_cons (pe_callB call_isX (by rfl) B.isi bIsi (pa_cons (pv 0) (pa_cons (pe_bltn (v := .ty (bN 0)) (by rfl) B0.mB (bBoot 0) rfl (by decide) (by decide)) pa_nil))) (pa_cons (pe_callB call_isX (by rfl) B.isi bIsi (pa_cons (pv 0) (pa_cons (pe_bltn (v := .ty (bN 1)) (by rfl) B1.mB (bBoot 1) rfl (by decide) (by decide)) pa_nil))) (pa_cons (pe_callB call_isX (by rfl) B.isi bIsi (pa_cons (pv 0) (pa_cons (pe_bltn (v := .ty (bN 2)) (by rfl) B2.mB (bBoot 2) rfl (by decide) (by decide)) pa_nil))) pa_nil)))))
      (pss_one (ps_ret (pe_op op_cat (pv 1) (pe_lst (pa_cons (pe_callB call_isX (by rfl) B.isi bIsi (pa_cons (pv 0) (pa_cons (pe_bltn (v := .ty (bN 3)) (by rfl) B3.mB (bBoot 3) rfl (by decide) (by decide)) pa_nil))) pa_nil))))), ?_⟩
    refine ⟨_, rfl, a, Cs k, d, fs, _, _, _, rfl, ha, hd, (T.ec k hk).ev, T.cd, .ty _, (T.ec k hk).kitBase 0 (by decide), ?_⟩
    refine ⟨_, rfl, a, Cs k, d, fs, _, _, _, rfl, ha, hd, (T.ec k hk).ev, T.cd, .ty _, (T.ec k hk).kitBase 1 (by decide), ?_⟩
    refine ⟨_, rfl, a, Cs k, d, fs, _, _, _, rfl, ha, hd, (T.ec k hk).ev, T.cd, .ty _, (T.ec k hk).kitBase 2 (by decide), ?_⟩
    refine ⟨by show 3 ≤ sizeLine; decide, fun l1 h => ?_⟩
    have s1 := same_new (o := .lst [.bl (decide (0 = bsE k)), .bl (decide (1 = bsE k)), .bl (decide (2 = bsE k))]) h
    have g1 := upd_same (H := H) (a := l1) (o := .lst [.bl (decide (0 = bsE k)), .bl (decide (1 = bsE k)), .bl (decide (2 = bsE k))])
    generalize upd H l1 (.lst [.bl (decide (0 = bsE k)), .bl (decide (1 = bsE k)), .bl (decide (2 = bsE k))]) = H1 at s1 g1 ⊢
    clear h
    refine ⟨_, rfl, _, rfl, a, Cs k, d, fs, _, _, _, rfl, s1 _ _ ha, s1 _ _ hd, (T.ec k hk).ev, T.cd, .ty _, (T.ec k hk).kitBase 3 (by decide), ?_⟩
    refine ⟨by show 1 ≤ sizeLine; decide, fun l2 h => ?_⟩
    obtain ⟨H2, e2, s2, g2⟩ := new_at (o := .lst [.bl (decide (3 = bsE k))]) h
    rw [e2]
    clear e2 h
    refine ⟨l1, l2, _, _, rfl, rfl, s2 _ _ g1, g2, by show 4 ≤ sizeLine; decide, fun p hp => ?_⟩
    exact q p _ ((s1.trans s2).trans (same_new hp)) upd_same
/-- the state behind the first n classes -/
def RC (Cs : Nat → Addr) (H : Hp) (a : Addr) (fs : List (Str × V)) (k n : Nat) : L2.St → Hp → Prop := fun σ' H' => ∃ (l d : Addr), σ' = [some (.ref a), some (.ref l)] ∧ Same H H' ∧ H' l = some (.lst ((List.range n).map fun j => V.bl (decide (j = k)))) ∧ H' a = some (exo a (Cs k) (some d)) ∧ H' d = some (exd d fs)
theorem scCls : FnScope ["_law_e", "_law_found"] ["_law_e"] (defScope sCls) := ⟨rfl, rfl, rfl, by decide +kernel, rfl, by decide +kernel, by decide +kernel⟩
theorem ok_cls {f : Addr} {fd : FuncData} (F : Fun K "_law_classes" "_law_classes" sCls f fd) (B : Blt mg) (T : Fam K mg Cs Fs) : FnOk P w K mg base CX0 1 f fd ["_law_e"] (spCls Cs) := by
  refine F.ok scCls (fun vs H Q E h => ?_) (fun cdv A outer s H vs Q E hr h => ?_)
  · obtain ⟨a, k, fs, rfl, _⟩ := h
    rfl
  · obtain ⟨a, k, fs, rfl, hk, ⟨d, ha, hd⟩, q⟩ := h
    refine ⟨_, pss_cons (ps_set (i := 1) scCls.nd rfl (Or.inl rfl) (pe_lst (pa_cons (pe_callB call_isX (by rfl) B.isi bIsi (pa_cons (pv 0) (pa_cons (pe_glob (v := .ref (Cs 0)) (x := nmE 0) (by rfl) (T.ec 0 (by decide)).gC rfl (by decide)) pa_nil))) (pa_cons (pe_callB call_isX (by rfl) B.isi bIsi (pa_cons (pv 0) (pa_cons (pe_glob (v := .ref (Cs 1)) (x := nmE 1) (by rfl) (T.ec 1 (by decide)).gC rfl (by decide)) pa_nil))) (pa_cons (pe_callB call_isX (by rfl) B.isi bIsi (pa_cons (pv 0) (pa_cons (pe_glob (v := .ref (Cs 2)) (x := nmE 2) (by rfl) (T.ec 2 (by decide)).gC rfl (by decide)) pa_nil))) pa_nil)))))
      (pss_cons (ps_set (i := 1) scCls.nd rfl (Or.inl rfl) (pe_op op_cat (pv 1) (pe_lst (pa_cons (pe_callB call_isX (by rfl) B.isi bIsi (pa_cons (pv 0) (pa_cons (pe_glob (v := .ref (Cs 3)) (x := nmE 3) (by rfl) (T.ec 3 (by decide)).gC rfl (by decide)) pa_nil))) (pa_cons (pe_callB call_isX (by rfl) B.isi bIsi (pa_cons (pv 0) (pa_cons (pe_glob (v := .ref (Cs 4)) (x := nmE 4) (by rfl) (T.ec 4 (by decide)).gC rfl (by decide)) pa_nil))) (pa_cons (pe_callB call_isX (by rfl) B.isi bIsi (pa_cons (pv 0) (pa_cons (pe_glob (v := .ref (Cs 5)) (x := nmE 5) (by rfl) (T.ec 5 (by decide)).gC rfl (by decide)) pa_nil))) pa_nil))))))
      (pss_cons (ps_set (i := 1) scCls.nd rfl (Or.inl rfl) (pe_op op_cat (pv 1) (pe_lst (pa_cons (pe_callB call_isX (by rfl) B.isi bIsi (pa_cons (pv 0) (pa_cons (pe_glob (v := .ref (Cs 6)) (x := nmE 6) (by rfl) (T.ec 6 (by decide)).gC rfl (by decide)) pa_nil))) (pa_cons (pe_callB call_isX (by rfl) B.isi bIsi (pa_cons (pv 0) (pa_cons (pe_glob (v := .ref (Cs 7)) (x := nmE 7) (by rfl) (T.ec 7 (by decide)).gC rfl (by decide)) pa_nil))) (pa_cons (pe_callB call_isX (by rfl) B.isi bIsi (pa_cons (pv 0) (pa_cons (pe_glob (v := .ref (Cs 8)) (x := nmE 8) (by rfl) (T.ec 8 (by decide)).gC rfl (by decide)) pa_nil))) pa_nil))))))
      (pss_cons (ps_set (i := 1) scCls.nd rfl (Or.inl rfl) (pe_op op_cat (pv 1) (pe_lst (pa_cons (pe_callB call_isX (by rfl) B.isi bIsi (pa_cons (pv 0) (pa_cons (pe_glob (v := .ref (Cs 9)) (x := nmE 9) (by rfl) (T.ec 9 (by decide)).gC rfl (by decide)) pa_nil))) (pa_cons (pe_callB call_isX (by rfl) B.isi bIsi (pa_cons (pv 0) (pa_cons (pe_glob (v := .ref (Cs 10)) (x := nmE 10) (by rfl) (T.ec 10 (by decide)).gC rfl (by decide)) pa_nil))) (pa_cons (pe_callB call_isX (by rfl) B.isi bIsi (pa_cons (pv 0) (pa_cons (pe_glob (v := .ref (Cs 11)) (x := nmE 11) (by rfl) (T.ec 11 (by decide)).gC rfl (by decide)) pa_nil))) pa_nil))))))
      (pss_cons (ps_set (i := 1) scCls.nd rfl (Or.inl rfl) (pe_op op_cat (pv 1) (pe_lst (pa_cons (pe_callB call_isX (by rfl) B.isi bIsi (pa_cons (pv 0) (pa_cons (pe_glob (v := .ref (Cs 12)) (x := nmE 12) (by rfl) (T.ec 12 (by decide)).gC rfl (by decide)) pa_nil))) (pa_cons (pe_callB call_isX (by rfl) B.isi bIsi (pa_cons (pv 0) (pa_cons (pe_glob (v := .ref (Cs 13)) (x := nmE 13) (by rfl) (T.ec 13 (by decide)).gC rfl (by decide)) pa_nil))) (pa_cons (pe_callB call_isX (by rfl) B.isi bIsi (pa_cons (pv 0) (pa_cons (pe_glob (v := .ref (Cs 14)) (x := nmE 14) (by rfl) (T.ec 14 (by decide)).gC rfl (by decide)) pa_nil))) (pa_cons (pe_callB call_isX (by rfl) B.isi bIsi (pa_cons (pv 0) (pa_cons (pe_glob (v := .ref (Cs 15)) (x := nmE 15) (by rfl) (T.ec 15 (by decide)).gC rfl (by decide)) pa_nil))) pa_nil)))))))
      (pss_cons (ps_set (i := 1) scCls.nd rfl (Or.inl rfl) (pe_op op_cat (pv 1) (pe_lst (pa_cons (pe_callB call_isX (by rfl) B.isi bIsi (pa_cons (pv 0) (pa_cons (pe_glob (v := .ref (Cs 16)) (x := nmE 16) (by rfl) (T.ec 16 (by decide)).gC rfl (by decide)) pa_nil))) (pa_cons (pe_callB call_isX (by rfl) B.isi bIsi (pa_cons (pv 0) (pa_cons (pe_glob (v := .ref (Cs 17)) (x := nmE 17) (by rfl) (T.ec 17 (by decide)).gC rfl (by decide)) pa_nil))) (pa_cons (pe_callB call_isX (by rfl) B.isi bIsi (pa_cons (pv 0) (pa_cons (pe_glob (v := .ref (Cs 18)) (x := nmE 18) (by rfl) (T.ec 18 (by decide)).gC rfl (by decide)) pa_nil))) pa_nil))))))
      (pss_one (ps_ret (pe_op op_cat (pv 1) (pe_lst (pa_cons (pe_callB call_isX (by rfl) B.isi bIsi (pa_cons (pv 0) (pa_cons (pe_glob (v := .ref (Cs 19)) (x := nmE 19) (by rfl) (T.ec 19 (by decide)).gC rfl (by decide)) pa_nil))) pa_nil)))))))))), ?_⟩
    refine seq_step (RC Cs H a fs k 3) (fun R hR => ?_) (fun σ1 H1 h1 => ?_)
    · refine ⟨_, rfl, a, Cs k, d, fs, _, _, _, rfl, ha, hd, (T.ec k hk).ev, T.cd, .own _, T.own (j := 0) (by decide) hk, ?_⟩
      refine ⟨_, rfl, a, Cs k, d, fs, _, _, _, rfl, ha, hd, (T.ec k hk).ev, T.cd, .own _, T.own (j := 1) (by decide) hk, ?_⟩
      refine ⟨_, rfl, a, Cs k, d, fs, _, _, _, rfl, ha, hd, (T.ec k hk).ev, T.cd, .own _, T.own (j := 2) (by decide) hk, ?_⟩
      refine ⟨by show 3 ≤ sizeLine; decide, fun l h => hR _ _ ⟨l, d, rfl, same_new h, upd_same, same_new h _ _ ha, same_new h _ _ hd⟩⟩
    clear ha hd
    refine seq_step (RC Cs H a fs k 6) (fun R hR => ?_) (fun σ2 H2 h2 => ?_)
    · obtain ⟨l, d, rfl, TH, gl, ha, hd⟩ := h1
      refine ⟨_, rfl, ?_⟩
      refine ⟨_, rfl, a, Cs k, d, fs, _, _, _, rfl, ha, hd, (T.ec k hk).ev, T.cd, .own _, T.own (j := 3) (by decide) hk, ?_⟩
      refine ⟨_, rfl, a, Cs k, d, fs, _, _, _, rfl, ha, hd, (T.ec k hk).ev, T.cd, .own _, T.own (j := 4) (by decide) hk, ?_⟩
      refine ⟨_, rfl, a, Cs k, d, fs, _, _, _, rfl, ha, hd, (T.ec k hk).ev, T.cd, .own _, T.own (j := 5) (by decide) hk, ?_⟩
      refine ⟨by show 3 ≤ sizeLine; decide, fun x hx => ?_⟩
      have sx := same_new (o := .lst [.bl (decide (3 = k)), .bl (decide (4 = k)), .bl (decide (5 = k))]) hx
      refine ⟨l, x, _, [.bl (decide (3 = k)), .bl (decide (4 = k)), .bl (decide (5 = k))], rfl, rfl, sx _ _ gl, upd_same, by rw [List.length_map, List.length_range]; show 6 ≤ sizeLine; decide, fun y hy => ?_⟩
      have sy := sx.trans (same_new (o := .lst ((List.range 3).map (fun j => V.bl (decide (j = k))) ++ [.bl (decide (3 = k)), .bl (decide (4 = k)), .bl (decide (5 = k))])) hy)
      exact hR _ _ ⟨y, d, rfl, TH.trans sy, upd_same, sy _ _ ha, sy _ _ hd⟩
    clear h1
    refine seq_step (RC Cs H a fs k 9) (fun R hR => ?_) (fun σ3 H3 h3 => ?_)
    · obtain ⟨l, d, rfl, TH, gl, ha, hd⟩ := h2
      refine ⟨_, rfl, ?_⟩
      refine ⟨_, rfl, a, Cs k, d, fs, _, _, _, rfl, ha, hd, (T.ec k hk).ev, T.cd, .own _, T.own (j := 6) (by decide) hk, ?_⟩
      refine ⟨_, rfl, a, Cs k, d, fs, _, _, _, rfl, ha, hd, (T.ec k hk).ev, T.cd, .own _, T.own (j := 7) (by decide) hk, ?_⟩
      refine ⟨_, rfl, a, Cs k, d, fs, _, _, _, rfl, ha, hd, (T.ec k hk).ev, T.cd, .own _, T.own (j := 8) (by decide) hk, ?_⟩
      refine ⟨by show 3 ≤ sizeLine; decide, fun x hx => ?_⟩
      have sx := same_new (o := .lst [.bl (decide (6 = k)), .bl (decide (7 = k)), .bl (decide (8 = k))]) hx
      refine ⟨l, x, _, [.bl (decide (6 = k)), .bl (decide (7 = k)), .bl (decide (8 = k))], rfl, rfl, sx _ _ gl, upd_same, by rw [List.length_map, List.length_range]; show 9 ≤ sizeLine; decide, fun y hy => ?_⟩
      have sy := sx.trans (same_new (o := .lst ((List.range 6).map (fun j => V.bl (decide (j = k))) ++ [.bl (decide (6 = k)), .bl (decide (7 = k)), .bl (decide (8 = k))])) hy)
      exact hR _ _ ⟨y, d, rfl, TH.trans sy, upd_same, sy _ _ ha, sy _ _ hd⟩
    clear h2
    refine seq_step (RC Cs H a fs k 12) (fun R hR => ?_) (fun σ4 H4 h4 => ?_)
    · obtain ⟨l, d, rfl, TH, gl, ha, hd⟩ := h3
      refine ⟨_, rfl, ?_⟩
      refine ⟨_, rfl, a, Cs k, d, fs, _, _, _, rfl, ha, hd, (T.ec k hk).ev, T.cd, .own _, T.own (j := 9) (by decide) hk, ?_⟩
      refine ⟨_, rfl, a, Cs k, d, fs, _, _, _, rfl, ha, hd, (T.ec k hk).ev, T.cd, .own _, T.own (j := 10) (by decide) hk, ?_⟩
      refine ⟨_, rfl, a, Cs k, d, fs, _, _, _, rfl, ha, hd, (T.ec k hk).ev, T.cd, .own _, T.own (j := 11) (by decide) hk, ?_⟩
      refine ⟨by show 3 ≤ sizeLine; decide, fun x hx => ?_⟩
      have sx := same_new (o := .lst [.bl (decide (9 = k)), .bl (decide (10 = k)), .bl (decide (11 = k))]) hx
      refine ⟨l, x, _, [.bl (decide (9 = k)), .bl (decide (10 = k)), .bl (decide (11 = k))], rfl, rfl, sx _ _ gl, upd_same, by rw [List.length_map, List.length_range]; show 12 ≤ sizeLine; decide, fun y hy => ?_⟩
      have sy := sx.trans (same_new (o := .lst ((List.range 9).map (fun j => V.bl (decide (j = k))) ++ [.bl (decide (9 = k)), .bl (decide (10 = k)), .bl (decide (11 = k))])) hy)
      exact hR _ _ ⟨y, d, rfl, TH.trans sy, upd_same, sy _ _ ha, sy _ _ hd⟩
    clear h3
    refine seq_step (RC Cs H a fs k 16) (fun R hR => ?_) (fun σ5 H5 h5 => ?_)
    · obtain ⟨l, d, rfl, TH, gl, ha, hd⟩ := h4
      refine ⟨_, rfl, ?_⟩
      refine ⟨_, rfl, a, Cs k, d, fs, _, _, _, rfl, ha, hd, (T.ec k hk).ev, T.cd, .own _, T.own (j := 12) (by decide) hk, ?_⟩
      refine ⟨_, rfl, a, Cs k, d, fs, _, _, _, rfl, ha, hd, (T.ec k hk).ev, T.cd, .own _, T.own (j := 13) (by decide) hk, ?_⟩
      refine ⟨_, rfl, a, Cs k, d, fs, _, _, _, rfl, ha, hd, (T.ec k hk).ev, T.cd, .own _, T.own (j := 14) (by decide) hk, ?_⟩
      refine ⟨_, rfl, a, Cs k, d, fs, _, _, _, rfl, ha, hd, (T.ec k hk).ev, T.cd, .own _, T.own (j := 15) (by decide) hk, ?_⟩
      refine ⟨by show 4 ≤ sizeLine; decide, fun x hx => ?_⟩
      have sx := same_new (o := .lst [.bl (decide (12 = k)), .bl (decide (13 = k)), .bl (decide (14 = k)), .bl (decide (15 = k))]) hx
      refine ⟨l, x, _, [.bl (decide (12 = k)), .bl (decide (13 = k)), .bl (decide (14 = k)), .bl (decide (15 = k))], rfl, rfl, sx _ _ gl, upd_same, by rw [List.length_map, List.length_range]; show 16 ≤ sizeLine; decide, fun y hy => ?_⟩
      have sy := sx.trans (same_new (o := .lst ((List.range 12).map (fun j => V.bl (decide (j = k))) ++ [.bl (decide (12 = k)), .bl (decide (13 = k)), .bl (decide (14 = k)), .bl (decide (15 = k))])) hy)
      exact hR _ _ ⟨y, d, rfl, TH.trans sy, upd_same, sy _ _ ha, sy _ _ hd⟩
    clear h4
    refine seq_step (RC Cs H a fs k 19) (fun R hR => ?_) (fun σ6 H6 h6 => ?_)
    · obtain ⟨l, d, rfl, TH, gl, ha, hd⟩ := h5
      refine ⟨_, rfl, ?_⟩
      refine ⟨_, rfl, a, Cs k, d, fs, _, _, _, rfl, ha, hd, (T.ec k hk).ev, T.cd, .own _, T.own (j := 16) (by decide) hk, ?_⟩
      refine ⟨_, rfl, a, Cs k, d, fs, _, _, _, rfl, ha, hd, (T.ec k hk).ev, T.cd, .own _, T.own (j := 17) (by decide) hk, ?_⟩
      refine ⟨_, rfl, a, Cs k, d, fs, _, _, _, rfl, ha, hd, (T.ec k hk).ev, T.cd, .own _, T.own (j := 18) (by decide) hk, ?_⟩
      refine ⟨by show 3 ≤ sizeLine; decide, fun x hx => ?_⟩
      have sx := same_new (o := .lst [.bl (decide (16 = k)), .bl (decide (17 = k)), .bl (decide (18 = k))]) hx
      refine ⟨l, x, _, [.bl (decide (16 = k)), .bl (decide (17 = k)), .bl (decide (18 = k))], rfl, rfl, sx _ _ gl, upd_same, by rw [List.length_map, List.length_range]; show 19 ≤ sizeLine; decide, fun y hy => ?_⟩
      have sy := sx.trans (same_new (o := .lst ((List.range 16).map (fun j => V.bl (decide (j = k))) ++ [.bl (decide (16 = k)), .bl (decide (17 = k)), .bl (decide (18 = k))])) hy)
      exact hR _ _ ⟨y, d, rfl, TH.trans sy, upd_same, sy _ _ ha, sy _ _ hd⟩
    clear h5
    obtain ⟨l, d, rfl, TH, gl, ha, hd⟩ := h6
    refine ⟨_, rfl, ?_⟩
    refine ⟨_, rfl, a, Cs k, d, fs, _, _, _, rfl, ha, hd, (T.ec k hk).ev, T.cd, .own _, T.own (j := 19) (by decide) hk, ?_⟩
    refine ⟨by show 1 ≤ sizeLine; decide, fun x hx => ?_⟩
    have sx := same_new (o := .lst [.bl (decide (19 = k))]) hx
    refine ⟨l, x, _, [.bl (decide (19 = k))], rfl, rfl, sx _ _ gl, upd_same, by rw [List.length_map, List.length_range]; show 20 ≤ sizeLine; decide, fun y hy => ?_⟩
    exact q y _ (TH.trans (sx.trans (same_new hy))) upd_same
theorem scFld : FnScope ["_law_e", "_law_k"] ["_law_e", "_law_k"] (defScope sFld) := ⟨rfl, rfl, rfl, by decide +kernel, rfl, by decide +kernel, by decide +kernel⟩
theorem ok_fld {f : Addr} {fd : FuncData} (F : Fun K "_law_field" "_law_field" sFld f fd) (T : Fam K mg Cs Fs) : FnOk P w K mg base CX0 1 f fd ["_law_e", "_law_k"] (spFld Cs) := by
  refine F.ok scFld (fun vs H Q E h => ?_) (fun cdv A outer s H vs Q E hr h => ?_)
  · obtain ⟨a, k, v, w, rfl, _⟩ := h
    rfl
  · obtain ⟨a, k, v, w, rfl, hk, e, q⟩ := h
    refine ⟨_, pss_cons (ps_if (PW.pt (pw_or (pt_cmpR op_lt (pv 1) pe_int (nomark _)) (pw_or1 (pt_cmpR op_eq (pv 1) pe_int (nomark _))))) (pss_one (ps_ret (pe_exF (pv 0)))) pss_nil)
      (pss_cons (ps_if (pt_cmpR op_lt (pv 1) pe_int (nomark _)) (pss_one (ps_ret (pe_exF (pv 0)))) pss_nil)
      (pss_cons (ps_if (pt_cmpR op_lt (pv 1) pe_int (nomark _)) (pss_one (ps_ret (pe_exF (pv 0)))) pss_nil)
      (pss_cons (ps_if (pt_cmpR op_in_seq (pv 1) (pe_tup (pa_cons pe_int (pa_cons pe_int (pa_cons pe_int pa_nil)))) (by rfl)) (pss_one (ps_ret (pe_exF (pv 0)))) pss_nil)
      (pss_cons (ps_if (pt_cmpR op_in_seq (pv 1) (pe_tup (pa_cons pe_int (pa_cons pe_int pa_nil))) (by rfl)) (pss_one (ps_ret (pe_ifExp (pt_cmpR op_eq (pv 1) pe_int (nomark _)) (pe_exF (pv 0)) (pe_exF (pv 0))))) pss_nil)
      (pss_cons (ps_if (pt_cmpR op_in_seq (pv 1) (pe_tup (pa_cons pe_int (pa_cons pe_int pa_nil))) (by rfl)) (pss_one (ps_ret (pe_ifExp (pt_cmpR op_eq (pv 1) pe_int (nomark _)) (pe_exF (pv 0)) (pe_exF (pv 0))))) pss_nil)
      (pss_one (ps_ret (pe_exF (pv 0))))))))), ?_⟩
    -- k < 5 or k == 14
    refine ⟨_, rfl, _, _, rfl, rfl, _, rfl, ifd (fun c => iteT (exf T hk e rfl (fd_value hk (by omega)) (q H (Same.refl H)))) (fun c => ?_)⟩
    refine ⟨_, rfl, rfl, _, rfl, ifd (fun c2 => exf T hk e rfl (fd_value hk (by have := vint.mp c2; omega)) (q H (Same.refl H))) (fun c2 => ?_)⟩
    rw [vint] at c2
    refine ⟨_, rfl, _, _, rfl, rfl, _, rfl, ifd (fun c3 => exf T hk e rfl (fd_index hk (by omega)) (q H (Same.refl H))) (fun c3 => ?_)⟩
    refine ⟨_, rfl, _, _, rfl, rfl, _, rfl, ifd (fun c4 => exf T hk e rfl (fd_field hk (by omega)) (q H (Same.refl H))) (fun c4 => ?_)⟩
    refine ⟨_, rfl, by show 3 ≤ sizeLine; decide, fun p h => ?_⟩
    obtain ⟨H1, e0, s1, g1⟩ := new_at (o := .tup [.int 13, .int 15, .int 18]) h
    rw [e0]
    clear e0 h
    refine ⟨p, _, rfl, .inr (.inl (.inl g1)), rfl, rfl, _, rfl, ifb (fun c5 => ?_) (fun c5 => ?_)⟩
    · have c6 : inV (.int (k : Int)) [.int 13, .int 15, .int 18] = true := c5
      rw [inV3, decide_eq_true_eq] at c6
      exact exf T hk (e.same s1) rfl (fd_number hk (by omega)) (q _ s1)
    have c6 : inV (.int (k : Int)) [.int 13, .int 15, .int 18] = false := c5
    rw [inV3, decide_eq_false_iff_not] at c6
    clear c5 g1
    refine ⟨_, rfl, by show 2 ≤ sizeLine; decide, fun p2 h => ?_⟩
    obtain ⟨H2, e0, s2, g2⟩ := new_at (o := .tup [.int 11, .int 12]) h
    rw [e0]
    clear e0 h
    have S2 := s1.trans s2
    refine ⟨p2, _, rfl, .inr (.inl (.inl g2)), rfl, rfl, _, rfl, ifb (fun c5 => ?_) (fun c5 => ?_)⟩
    · have c7 : inV (.int (k : Int)) [.int 11, .int 12] = true := c5
      rw [inV2, decide_eq_true_eq] at c7
      refine ⟨_, rfl, rfl, _, rfl, ifd (fun c8 => exf T hk (e.same S2) rfl (fd_house hk (by have := vint.mp c8; omega)) (q _ S2)) (fun c8 => exf T hk (e.same S2) rfl (fd_place hk (by rw [vint] at c8; omega)) (q _ S2))⟩
    have c7 : inV (.int (k : Int)) [.int 11, .int 12] = false := c5
    rw [inV2, decide_eq_false_iff_not] at c7
    clear c5 g2
    refine ⟨_, rfl, by show 2 ≤ sizeLine; decide, fun p3 h => ?_⟩
    obtain ⟨H3, e0, s3, g3⟩ := new_at (o := .tup [.int 16, .int 17]) h
    rw [e0]
    clear e0 h
    have S3 := S2.trans s3
    refine ⟨p3, _, rfl, .inr (.inl (.inl g3)), rfl, rfl, _, rfl, ifb (fun c5 => ?_) (fun c5 => ?_)⟩
    · have c9 : inV (.int (k : Int)) [.int 16, .int 17] = true := c5
      rw [inV2, decide_eq_true_eq] at c9
      refine ⟨_, rfl, rfl, _, rfl, ifd (fun c8 => exf T hk (e.same S3) rfl (fd_count hk (by have := vint.mp c8; omega)) (q _ S3)) (fun c8 => exf T hk (e.same S3) rfl (fd_most hk (by rw [vint] at c8; omega)) (q _ S3))⟩
    have c9 : inV (.int (k : Int)) [.int 16, .int 17] = false := c5
    rw [inV2, decide_eq_false_iff_not] at c9
    exact exf T hk (e.same S3) rfl (fd_one hk (by omega)) (q _ S3)
theorem scSame : FnScope ["_law_first", "_law_second"] ["_law_first", "_law_second"] (defScope sSame) := ⟨rfl, rfl, rfl, by decide +kernel, rfl, by decide +kernel, by decide +kernel⟩
theorem ok_same {f : Addr} {fd : FuncData} (F : Fun K "_law_is_same" "_law_is_same" sSame f fd) (B : Blt mg) : FnG P w K mg base 1 f fd ["_law_first", "_law_second"] (spSame K) := by
  refine FnG.of F scSame (fun vs H Q E h => ?_) (fun cdv A outer s H vs Q hr hgd h => ?_)
  · obtain ⟨v, rfl, _⟩ := h
    rfl
  · obtain ⟨v, rfl, o, q⟩ := h
    have hu64 := hr.units
    refine ⟨_, pss_one (ps_ret (pe_and (pe_cmpR op_eq (pe_callB (call_repr hgd hu64) (by rfl) B.repr bRepr (pa_cons (pv 0) pa_nil)) (pe_callB (call_repr hgd hu64) (by rfl) B.repr bRepr (pa_cons (pv 1) pa_nil)) (nomark _))
      (pe_one (pe_cmpR (OpR.or (op_eqD hu64) (op_eq_dict hr.units0)) (pv 0) (pv 1) (nomark _))))), ?_⟩
    rcases o with ⟨d, h, h1, h2, h3, h4, h5⟩ | ⟨a, kvs, rfl, h, h1, h2, h3, h4, h5⟩
    · refine ⟨_, rfl, v, d, rfl, .inl h, h1, h2, h3, ?_⟩
      refine ⟨_, rfl, v, d, rfl, .inl h, h1, h2, h3, rfl, ?_⟩
      refine ⟨_, rfl, ifd (fun _ => ?_) (fun c => absurd rfl c)⟩
      refine ⟨_, rfl, _, rfl, .inl ⟨d, d, h, h, h4, h4, ?_⟩⟩
      rw [h5]
      exact q
    · refine ⟨_, rfl, .ref a, datD kvs, rfl, .inr ⟨a, kvs, rfl, h, fun p hp => (h1 p hp).1, rfl⟩, h3, h4, h5, ?_⟩
      refine ⟨_, rfl, .ref a, datD kvs, rfl, .inr ⟨a, kvs, rfl, h, fun p hp => (h1 p hp).1, rfl⟩, h3, h4, h5, rfl, ?_⟩
      refine ⟨_, rfl, ifd (fun _ => ?_) (fun c => absurd rfl c)⟩
      exact ⟨_, rfl, _, rfl, .inr ⟨a, a, kvs, rfl, rfl, h, h, h2, fun p hp => (h1 p hp).2, q⟩⟩
end

abbrev sLaw : Stmt := top 31
abbrev nLaw : List Str := ["_law_script", "_law_pen_here", "_law_turn", "_law_odd", "_law_more", "_law_told", "_law_k", "_law_e", "_law_base", "_law_j"]
theorem scLaw : FnScope nLaw ["_law_script"] (defScope sLaw) := ⟨rfl, rfl, rfl, by decide +kernel, rfl, by decide +kernel, by decide +kernel⟩
/-! ### odd values when only the pen changes -/
theorem dp_keep {K : PySem.W.Frag} {H H' : Hp} (s : ∀ a o, H a = some o → (∀ kvs, o ≠ .dK kvs) → H' a = some o) : ∀ (d : PyData) (v : V), Dp K H v d → Dp K H' v d := fun d =>
  PyData.rec (motive_1 := fun d => ∀ v, Dp K H v d → Dp K H' v d) (motive_2 := fun ds => ∀ vs, DpAll K H vs ds → DpAll K H' vs ds) (motive_3 := fun _ => True) (motive_4 := fun _ => True)
    (fun v h => by cases h; exact .non) (fun b v h => by cases h; exact .bl b) (fun i v h => by cases h; exact .int i) (fun x v h => by cases h; exact .str x)
    (fun xs ih v h => by
      cases h with
      | lst hs ha =>
        refine .lst ?_ (ih _ ha)
        rcases hs with (h | ⟨o, h⟩) | h
        · exact .inl (.inl (s _ _ h fun _ z => nomatch z))
        · exact .inl (.inr ⟨o, s _ _ h fun _ z => nomatch z⟩)
        · exact .inr h)
    (fun xs ih v h => by
      cases h with
      | tup hs ha =>
        refine .tup ?_ (ih _ ha)
        rcases hs with (h | ⟨o, h⟩) | h
        · exact .inl (.inl (s _ _ h fun _ z => nomatch z))
        · exact .inl (.inr ⟨o, s _ _ h fun _ z => nomatch z⟩)
        · exact .inr h)
    (fun kvs _ v h => by cases h)
    (fun vs h => by cases h; exact .nil) (fun d ds i1 i2 vs h => by cases h with | cons h1 h2 => exact .cons (i1 _ h1) (i2 _ h2))
    trivial (fun _ _ _ _ => trivial) (fun _ _ _ _ => trivial) d
theorem valV_mem {kvs : List (Key × V)} {k : Key} {v : V} (h : valV kvs k = some v) : ∃ p ∈ kvs, p.2 = v := by
  unfold valV at h
  obtain ⟨p, hp, e⟩ := Option.map_eq_some_iff.mp h
  exact ⟨p, List.mem_of_find?_eq_some hp, e⟩
theorem Odd.keep {K : PySem.W.Frag} {H H' : Hp} {v : V} {p c : Addr} {ns : List Int} {u r : Int} (o : Odd K H v) (P : PenAt H p c ns u r) (s : ∀ b o, H b = some o → b ≠ p → H' b = some o) : Odd K H' v := by
  obtain ⟨kvp, hp, _, v1, _⟩ := P.ob
  rcases o with ⟨d, h, k⟩ | ⟨a, kvs, rfl, h, k1, k⟩
  · refine .inl ⟨d, dp_keep (fun a o e n => s a o e fun z => ?_) d v h, k⟩
    rw [z, hp] at e
    exact n kvp (Option.some.inj e).symm
  · refine .inr ⟨a, kvs, rfl, s _ _ h fun z => ?_, k1, k⟩
    rw [z, hp] at h
    have e : kvp = kvs := HO.dK.inj (Option.some.inj h)
    subst e
    obtain ⟨q, hq, e⟩ := valV_mem v1
    have := (k1 q hq).1
    rw [e] at this
    cases this
/-! ### lists of truths as data -/
theorem dp_bls {K : PySem.W.Frag} {H : Hp} (F : Nat → Bool) : ∀ ns : List Nat, DpAll K H (ns.map fun j => V.bl (F j)) (ns.map fun j => PyData.bool (F j))
  | [] => .nil
  | n :: r => .cons (.bl _) (dp_bls F r)
theorem lay_bls (F : Nat → Bool) : ∀ ns : List Nat, PyData.canLayAll0 (ns.map fun j => PyData.bool (F j)) = true
  | [] => by simp [PyData.canLayAll0]
  | n :: r => by
    have ih := lay_bls F r
    simp only [List.map_cons, PyData.canLayAll0, PyData.canLay0, ih, Bool.and_self]
theorem dep_bls (F : Nat → Bool) : ∀ ns : List Nat, PyData.depthAll (ns.map fun j => PyData.bool (F j)) = 0
  | [] => by simp [PyData.depthAll]
  | n :: r => by
    have ih := dep_bls F r
    simp only [List.map_cons, PyData.depthAll, PyData.depth, ih]
    omega
theorem shaped_bls (F : Nat → Bool) (ns : List Nat) : SeqAt.shaped (.list (ns.map fun j => PyData.bool (F j))) = true := by
  unfold SeqAt.shaped
  rw [Bool.and_eq_true]
  refine ⟨?_, decide_eq_true ?_⟩
  · simp only [PyData.canLay0]
    exact lay_bls F ns
  · simp only [PyData.depth, dep_bls]
    omega
theorem eqvAll_bls (F : Nat → Bool) : ∀ ns : List Nat, PyData.eqvAll (ns.map fun j => PyData.bool (F j)) (ns.map fun j => PyData.bool (F j)) = true
  | [] => by simp [PyData.eqvAll]
  | n :: r => by
    have ih := eqvAll_bls F r
    simp only [List.map_cons, PyData.eqvAll, PyData.eqv, ih, beq_self_eq_true, Bool.and_self]
theorem eqv_bls (F : Nat → Bool) (ns : List Nat) : PyData.eqv (.list (ns.map fun j => PyData.bool (F j))) (.list (ns.map fun j => PyData.bool (F j))) = true := by
  simp only [PyData.eqv]
  exact eqvAll_bls F ns
/-- [j == b for j in range(n)], while it grows -/
def RJ (Ha : Hp) (D : Addr) (b : Nat) (m : Nat) (H' : Hp) : Prop := Same Ha H' ∧ H' D = some (.lst ((List.range m).map fun j => V.bl (decide (j = b))))
theorem rj_next {Ha H' : Hp} {D : Addr} {b m n : Nat} (hD : Ha D = none) (hn : m < n) (h20 : n ≤ 20) (h : RJ Ha D b m H') :
    ∃ acc, H' D = some (.lst acc) ∧ acc.length < sizeLine ∧ RJ Ha D b (m + 1) (upd H' D (.lst (acc ++ [.bl (decide (V.int (0 + (m : Int)) = V.int (b : Int)))]))) := by
  obtain ⟨s, g⟩ := h
  refine ⟨_, g, ?_, fun x o e => ?_, ?_⟩
  · rw [List.length_map, List.length_range]
    exact Nat.lt_of_lt_of_le (Nat.lt_of_lt_of_le hn h20) (by decide)
  · rw [upd_ne (ne_of_none e hD)]
    exact s x o e
  · rw [upd_same, List.range_succ, List.map_append]
    have e : (decide (V.int (0 + (m : Int)) = V.int (b : Int))) = decide (m = b) := by
      apply decide_eq_decide.mpr
      rw [vint]
      omega
    rw [e]
    rfl
/-! ### the law -/
def spLaw (K : PySem.W.Frag) : Sp := fun vs H Q _ => ∃ (a : Addr) (ns : List Int), vs = [.ref a] ∧ SqL K H a (ns.map V.int) ∧ ns.length ≤ 63 ∧ ∀ H', Q (.bl true) H'
/-- behind the told errors, in a turn -/
def RT (K : PySem.W.Frag) (Cs : Nat → Addr) (a p c : Addr) (ns : List Int) (v w : V) (l : Addr) (ts : List Addr) (top : Int) : L2.St → Hp → Prop := fun σ' H' => ∃ (x2 x6 x7 x8 x9 : Option V) (u r : Int),
  σ' = [some (.ref a), some (.ref p), x2, some v, some w, some (.ref l), x6, x7, x8, x9] ∧ Odd K H' v ∧ Odd K H' w ∧ PenAt H' p c ns u r ∧ u ≤ top ∧ H' l = some (.lst (ts.map V.ref)) ∧ ts.length = 20 ∧ PairsAt Cs H' v w 0 ts
/-- in the loop over the two errors of the class j -/
def RK (H1 : Hp) (a p : Addr) (x2 : Option V) (v w : V) (l : Addr) (j : Nat) : L2.St → Hp → Prop := fun σ' H' => ∃ (x7 x8 x9 : Option V), σ' = [some (.ref a), some (.ref p), x2, some v, some w, some (.ref l), some (.int (j : Int)), x7, x8, x9] ∧ Same H1 H'
def RB (H1 : Hp) (a p : Addr) (x2 : Option V) (v w : V) (l : Addr) (j : Nat) (e : Addr) : L2.St → Hp → Prop := fun σ' H' => ∃ (x9 : Option V), σ' = [some (.ref a), some (.ref p), x2, some v, some w, some (.ref l), some (.int (j : Int)), some (.ref e), some (.int (bsE j : Int)), x9] ∧ Same H1 H'
theorem atI_ref {ts : List Addr} {j : Nat} {t : Addr} (h : ts[j]? = some t) : atI (ts.map V.ref) (j : Int) = some (.ref t) := atI_nat (by rw [List.getElem?_map, h]; rfl)
section
variable {P : Program} {w : World} {K : PySem.W.Frag} {mg : Str → Option Value} {base : Heap} {Cs Fs : Nat → Addr}
/-- the defs that the law calls -/
structure LawT (P : Program) (w : World) (K : PySem.W.Frag) (mg : Str → Option Value) (base : Heap) (Cs : Nat → Addr) : Prop where
  pen : ∃ f fd, FnOk P w K mg base CX0 1 f fd ["_law_script"] (spPen K) ∧ Binds K fd ["_law_script"] [] ∧ mg "_law_pen" = some (.ref f) ∧ PySem.W.keepIn K (.ref f) = true
  odd : ∃ f fd, FnOk P w K mg base CX0 3 f fd ["_law_pen_here"] (spOdd K) ∧ Binds K fd ["_law_pen_here"] [] ∧ mg "_law_odd_value" = some (.ref f) ∧ PySem.W.keepIn K (.ref f) = true
  err : ∃ f fd, FnOk P w K mg base CX0 3 f fd ["_law_odd", "_law_more"] (spErr Cs) ∧ Binds K fd ["_law_odd", "_law_more"] [] ∧ mg "_law_errors" = some (.ref f) ∧ PySem.W.keepIn K (.ref f) = true
  cls : ∃ f fd, FnOk P w K mg base CX0 1 f fd ["_law_e"] (spCls Cs) ∧ Binds K fd ["_law_e"] [] ∧ mg "_law_classes" = some (.ref f) ∧ PySem.W.keepIn K (.ref f) = true
  fld : ∃ f fd, FnOk P w K mg base CX0 1 f fd ["_law_e", "_law_k"] (spFld Cs) ∧ Binds K fd ["_law_e", "_law_k"] [] ∧ mg "_law_field" = some (.ref f) ∧ PySem.W.keepIn K (.ref f) = true
  abv : ∃ f fd, FnOk P w K mg base CX0 1 f fd ["_law_e"] (spAbv Cs) ∧ Binds K fd ["_law_e"] [] ∧ mg "_law_above" = some (.ref f) ∧ PySem.W.keepIn K (.ref f) = true
  same : ∃ f fd, FnG P w K mg base 1 f fd ["_law_first", "_law_second"] (spSame K) ∧ Binds K fd ["_law_first", "_law_second"] [] ∧ mg "_law_is_same" = some (.ref f) ∧ PySem.W.keepIn K (.ref f) = true
theorem ok_law {f : Addr} {fd : FuncData} (F : Fun K "law" "law" sLaw f fd) (B : Blt mg) (T : Fam K mg Cs Fs) (no2 : PySem.W.findIn K (.ref (Cs 19)) "other" = some none) (L : LawT P w K mg base Cs) : FnG P w K mg base 4 f fd ["_law_script"] (spLaw K) := by
  obtain ⟨f1, d1, G1, b1, m1, k1⟩ := L.pen
  obtain ⟨f2, d2, G2, b2, m2, k2⟩ := L.odd
  obtain ⟨f3, d3, G3, b3, m3, k3⟩ := L.err
  obtain ⟨f4, d4, G4, b4, m4, k4⟩ := L.cls
  obtain ⟨f5, d5, G5, b5, m5, k5⟩ := L.fld
  obtain ⟨f6, d6, G6, b6, m6, k6⟩ := L.abv
  obtain ⟨f7, d7, G7, b7, m7, k7⟩ := L.same
  refine FnG.of F scLaw (fun vs H Q E h => ?_) (fun cdv A outer s H vs Q hr hgd h => ?_)
  · obtain ⟨a, ns, rfl, _⟩ := h
    rfl
  · obtain ⟨a, ns, rfl, hS, hl, q⟩ := h
    have nd := scLaw.nd
    have hu64 := hr.units
    have hr1 : Room 1 _ := hr.mono (by decide)
    refine ⟨_, pss_cons (ps_set (i := 1) nd rfl (Or.inl rfl) (pe_call G1 hr1 (by rfl) m1 k1 b1 .nil pass0 (pa_cons (pv 0) pa_nil)))
      (pss_cons (ps_for PassesOwn.never rfl (pi_range1 (by rfl) B.range (pa_cons pe_int pa_nil)) (pg_name (i := 2) nd rfl (Or.inl rfl))
        (pss_cons (ps_par (i := 3) (j := 4) rfl nd rfl rfl (by decide) rfl rfl (pa_cons (pe_call G2 hr (by rfl) m2 k2 b2 .nil pass0 (pa_cons (pv 1) pa_nil)) (pa_cons (pe_call G2 hr (by rfl) m2 k2 b2 .nil pass0 (pa_cons (pv 1) pa_nil)) pa_nil)) (by rfl))
        (pss_cons (ps_set (i := 5) nd rfl (Or.inl rfl) (pe_call G3 hr (by rfl) m3 k3 b3 .nil pass0 (pa_cons (pv 3) (pa_cons (pv 4) pa_nil))))
        (pss_cons (ps_for PassesOwn.never rfl (pi_range1 (by rfl) B.range (pa_cons pe_int pa_nil)) (pg_name (i := 6) nd rfl (Or.inr rfl))
          (pss_one (ps_for PassesOwn.never rfl (pi_tup (pe_ix ix_list (pv 5) (pv 6) (fun _ _ => rfl))) (pg_name (i := 7) nd rfl (Or.inl rfl))
            (pss_cons (ps_set (i := 8) nd rfl (Or.inr rfl) (pe_ifExp (pt_cmpR op_lt (pv 6) pe_int (nomark _)) pe_int (pe_ifExp (pt_cmpR op_lt (pv 6) pe_int (nomark _)) pe_int (pe_ifExp (pt_cmpR op_eq (pv 6) pe_int (nomark _)) pe_int pe_int))))
            (pss_cons (ps_if (PW.pt (pw_or
                (pt_cmpR (op_neD hu64) (pe_call G6 hr1 (by rfl) m6 k6 b6 .nil pass0 (pa_cons (pv 7) pa_nil))
                  (pe_lc (own := [("_law_j", 9)]) (g := gName 9) (tt := tYes) rfl nd (pi_range1 (by rfl) B.range (pa_cons pe_int pa_nil)) (blkOk_by (N := nLaw) (sc := defScope sLaw) (by decide +kernel)) (fun _ _ _ _ _ => pg_name (i := 9) nd rfl (Or.inl rfl)) (fun _ _ _ _ _ => pts_nil) (fun _ _ _ _ _ => pe_cmpR op_eq (pv 9) (pv 8) (nomark _))) (nomark _))
                (pw_or1 (pt_cmpR (op_neD hu64) (pe_call G4 hr1 (by rfl) m4 k4 b4 .nil pass0 (pa_cons (pv 7) pa_nil))
                  (pe_lc (own := [("_law_j", 9)]) (g := gName 9) (tt := tYes) rfl nd (pi_range1 (by rfl) B.range (pa_cons pe_int pa_nil)) (blkOk_by (N := nLaw) (sc := defScope sLaw) (by decide +kernel)) (fun _ _ _ _ _ => pg_name (i := 9) nd rfl (Or.inl rfl)) (fun _ _ _ _ _ => pts_nil) (fun _ _ _ _ _ => pe_cmpR op_eq (pv 9) (pv 6) (nomark _))) (nomark _)))))
              (pss_one (ps_ret pe_bl)) pss_nil)
            (pss_one (ps_if (pt_not (pt_val (pe_callG G7 hr1 hgd (by rfl) m7 k7 b7 (pa_cons (pe_call G5 hr1 (by rfl) m5 k5 b5 .nil pass0 (pa_cons (pv 7) (pa_cons (pv 6) pa_nil))) (pa_cons (pv 3) pa_nil))))) (pss_one (ps_ret pe_bl)) pss_nil)))))))
        (pss_one (ps_if (PW.pt (pw_or (pt_not (pt_val (pe_callG G7 hr1 hgd (by rfl) m7 k7 b7 (pa_cons (pe_exF (pe_ix ix_tup (pe_ix ix_list (pv 5) pe_int (fun _ _ => rfl)) pe_int (fun _ _ => rfl))) (pa_cons (pv 4) pa_nil)))))
            (pw_or1 (pt_not (pt_val (pe_callG G7 hr1 hgd (by rfl) m7 k7 b7 (pa_cons (pe_exF (pe_ix ix_tup (pe_ix ix_list (pv 5) pe_int (fun _ _ => rfl)) pe_int (fun _ _ => rfl))) (pa_cons (pv 4) pa_nil)))))))) (pss_one (ps_ret pe_bl)) pss_nil))))))
      (pss_one (ps_ret pe_bl))), ?_⟩
    -- pen
    refine seq_step (fun σ' H' => ∃ p c, σ' = [some (.ref a), some (.ref p), none, none, none, none, none, none, none, none] ∧ PenAt H' p c ns 0 0) (fun R hR => ?_) (fun σ1 H1 h1 => ?_)
    · exact ⟨_, rfl, a, ns, rfl, hS, hl, fun p c H' _ PA => hR _ _ ⟨p, c, rfl, PA⟩⟩
    obtain ⟨p, c, rfl, PA⟩ := h1
    -- for turn in range(4)
    refine seq_step (fun _ _ => True) (fun R hR => ?_) (fun σ2 H2 _ => q H2)
    refine ⟨4, rfl, by decide, by decide, for_range (n := 4) (fun i σ' H' => ∃ (x2 x3 x4 x5 x6 x7 x8 x9 : Option V) (u r : Int), σ' = [some (.ref a), some (.ref p), x2, x3, x4, x5, x6, x7, x8, x9] ∧ PenAt H' p c ns u r ∧ u ≤ 2 * (i : Int))
      ⟨none, none, none, none, none, none, none, none, 0, 0, rfl, PA, by omega⟩ ?_ (fun σ2 H2 _ => hR _ _ True.intro)⟩
    rintro i σ1 H1 hi ⟨x2, x3, x4, x5, x6, x7, x8, x9, u, r, rfl, PA1, hu⟩
    clear hR PA
    have hi' : (i : Int) < 4 := by omega
    -- odd, more = odd_value(pen), odd_value(pen)
    refine seq_step (fun σ' H' => ∃ (y2 : Option V) (v w : V) (u r : Int), σ' = [some (.ref a), some (.ref p), y2, some v, some w, x5, x6, x7, x8, x9] ∧ Odd K H' v ∧ Odd K H' w ∧ PenAt H' p c ns u r ∧ u ≤ 2 * (i : Int) + 2) (fun R hR => ?_) (fun σ2 H2 h2 => ?_)
    · refine ⟨_, rfl, p, c, ns, u, r, rfl, PA1, by omega, fun v u1 r1 Ha oa ha PAa keepa => ?_⟩
      refine ⟨_, rfl, p, c, ns, u1, r1, rfl, PAa, by omega, fun w u2 r2 Hb ob hb PAb keepb => ⟨v, w, rfl, ?_⟩⟩
      exact hR _ _ ⟨_, v, w, u2, r2, rfl, oa.keep PAa keepb, ob, PAb, by omega⟩
    obtain ⟨y2, v, w, u2, r2, rfl, ov, ow, PA2, hu2⟩ := h2
    clear PA1
    -- told = errors(odd, more)
    refine seq_step (fun σ' H' => ∃ l ts, RT K Cs a p c ns v w l ts (2 * (i : Int) + 2) σ' H') (fun R hR => ?_) (fun σ3 H3 h3 => ?_)
    · refine ⟨_, rfl, _, rfl, v, w, rfl, fun l ts H' s gl hn PP => ?_⟩
      exact hR _ _ ⟨l, ts, y2, x6, x7, x8, x9, u2, r2, rfl, ov.same s, ow.same s, PA2.same s, hu2, gl, hn, PP⟩
    obtain ⟨l, ts, h3⟩ := h3
    clear ov ow PA2 x6 x7 x8 x9
    -- for k in range(20)
    refine seq_step (RT K Cs a p c ns v w l ts (2 * (i : Int) + 2)) (fun R hR => ?_) (fun σ4 H4 h4 => ?_)
    · obtain ⟨z2, x6, x7, x8, x9, u, r, rfl, ov, ow, PA, hu, gl, hn, PP⟩ := h3
      refine ⟨20, rfl, by decide, by decide, for_range (n := 20) (fun _ => RT K Cs a p c ns v w l ts (2 * (i : Int) + 2)) ⟨z2, x6, x7, x8, x9, u, r, rfl, ov, ow, PA, hu, gl, hn, PP⟩ ?_ (fun σ5 H5 h5 => hR _ _ h5)⟩
      clear hR ov ow PA gl hn PP
      rintro j σ5 H5 hj ⟨z2, x6, x7, x8, x9, u, r, rfl, ov, ow, PA, hu, gl, hn, PP⟩
      rw [show (0 : Int) + (j : Int) = (j : Int) from Int.zero_add _]
      obtain ⟨t, ht⟩ : ∃ t, ts[j]? = some t := ⟨ts[j]'(by omega), List.getElem?_eq_getElem (by omega)⟩
      have PJ := PP.get ht
      rw [Nat.zero_add] at PJ
      obtain ⟨e1, e2, gt, E1, E2⟩ := PJ
      -- for e in told[k]
      refine ⟨_, rfl, _, rfl, l, _, _, .ref t, rfl, rfl, .inl (.inl gl), atI_ref ht, t, rfl, ⟨_, .inl (.inl gt)⟩, for_tup (K := K) (a := t) (xs := [.ref e1, .ref e2]) (fun _ => RK H5 a p z2 v w l j) ⟨x7, x8, x9, rfl, Same.refl H5⟩ ?_ ?_ ?_⟩
      · rintro m σ6 H6 _ ⟨_, _, _, _, s⟩
        exact .inl (.inl (s _ _ gt))
      · rintro m x σ6 H6 hx ⟨x7, x8, x9, rfl, s6⟩
        obtain ⟨e, rfl, EE⟩ : ∃ e, x = .ref e ∧ ErrAt H5 (Cs j) (flE j v w) e := by
          match m, hx with
          | 0, hx => exact ⟨e1, (Option.some.inj hx).symm, E1⟩
          | 1, hx => exact ⟨e2, (Option.some.inj hx).symm, E2⟩
          | m + 2, hx => simp at hx
        -- base = ..
        refine seq_step (RB H5 a p z2 v w l j e) (fun R hR => ?_) (fun σ7 H7 h7 => ?_)
        · have goal : ∀ b : Nat, b = bsE j → R [some (.ref a), some (.ref p), z2, some v, some w, some (.ref l), some (.int (j : Int)), some (.ref e), some (.int (b : Int)), x9] H6 := fun b hb => hR _ _ ⟨x9, by rw [hb], s6⟩
          refine ⟨_, rfl, _, _, rfl, rfl, _, rfl, ifd (fun c1 => goal 0 (by unfold bsE; rw [if_pos (by omega)])) (fun c1 => ?_)⟩
          refine ⟨_, rfl, _, _, rfl, rfl, _, rfl, ifd (fun c2 => goal 1 (by unfold bsE; rw [if_neg (by omega), if_pos (by omega)])) (fun c2 => ?_)⟩
          refine ⟨_, rfl, rfl, _, rfl, ifd (fun c3 => goal 2 (by have := vint.mp c3; unfold bsE; rw [if_neg (by omega), if_neg (by omega), if_pos (by omega)])) (fun c3 => goal 3 (by rw [vint] at c3; unfold bsE; rw [if_neg (by omega), if_neg (by omega), if_neg (by omega)]))⟩
        obtain ⟨x9, rfl, s7⟩ := h7
        clear s6
        -- above and classes
        refine seq_step (RB H5 a p z2 v w l j e) (fun R hR => ?_) (fun σ8 H8 h8 => ?_)
        · refine ⟨_, rfl, e, j, _, rfl, hj, EE.same s7, fun p1 Ha sa ga => ?_⟩
          refine ⟨4, rfl, by decide, by decide, fun D hD => ?_⟩
          refine lc_range (lo := 0) (n := 4) (RJ Ha D (bsE j)) ⟨same_new hD, upd_same⟩ (fun m H' hm h => ⟨rfl, _, rfl, _, rfl, rfl, rj_next hD hm (by decide) h⟩) (fun H' h => ?_)
          obtain ⟨sb, gb⟩ := h
          refine ⟨.list ((List.range 4).map fun b => PyData.bool (decide (b = bsE j))), .list ((List.range 4).map fun b => PyData.bool (decide (b = bsE j))), .lst (.inl (.inl (sb _ _ ga))) (dp_bls (fun b => decide (b = bsE j)) _), .lst (.inl (.inl gb)) (dp_bls (fun b => decide (b = bsE j)) _),
            shaped_bls (fun b => decide (b = bsE j)) _, shaped_bls (fun b => decide (b = bsE j)) _, _, rfl, ifb (fun cc => ?_) (fun _ => ?_)⟩
          · have z := eqv_bls (fun b => decide (b = bsE j)) (List.range 4)
            rw [z] at cc
            cases cc
          have s8 := (s7.trans sa).trans sb
          clear sa sb ga gb
          refine ⟨_, rfl, e, j, _, rfl, hj, EE.same s8, fun p2 Hb sa ga => ?_⟩
          refine ⟨20, rfl, by decide, by decide, fun D2 hD2 => ?_⟩
          refine lc_range (lo := 0) (n := 20) (RJ Hb D2 j) ⟨same_new hD2, upd_same⟩ (fun m H' hm h => ⟨rfl, _, rfl, _, rfl, rfl, rj_next hD2 hm (by decide) h⟩) (fun H'' h => ?_)
          obtain ⟨sb, gb⟩ := h
          refine ⟨.list ((List.range 20).map fun b => PyData.bool (decide (b = j))), .list ((List.range 20).map fun b => PyData.bool (decide (b = j))), .lst (.inl (.inl (sb _ _ ga))) (dp_bls (fun b => decide (b = j)) _), .lst (.inl (.inl gb)) (dp_bls (fun b => decide (b = j)) _),
            shaped_bls (fun b => decide (b = j)) _, shaped_bls (fun b => decide (b = j)) _, _, rfl, ifb (fun cc => ?_) (fun _ => ?_)⟩
          · have z := eqv_bls (fun b => decide (b = j)) (List.range 20)
            rw [z] at cc
            cases cc
          exact hR _ _ ⟨x9, rfl, (s8.trans sa).trans sb⟩
        obtain ⟨x9, rfl, s8⟩ := h8
        -- is_same(field(e, k), odd)
        refine ⟨_, rfl, _, rfl, e, j, v, w, rfl, hj, EE.same s8, fun Hc sc => ?_⟩
        refine ⟨_, rfl, v, rfl, (ov.same s8).same sc, true, rfl, iteF ?_⟩
        exact ⟨_, _, _, rfl, s8.trans sc⟩
      · rintro σ6 H6 ⟨x7, x8, x9, rfl, s⟩
        exact ⟨z2, _, x7, x8, x9, u, r, rfl, ov.same s, ow.same s, PA.same s, hu, s _ _ gl, hn, PP.same s⟩
    -- told[19]
    clear h3
    obtain ⟨z2, x6, x7, x8, x9, u, r, rfl, ov, ow, PA, hu, gl, hn, PP⟩ := h4
    obtain ⟨t, ht⟩ : ∃ t, ts[19]? = some t := ⟨ts[19]'(by omega), List.getElem?_eq_getElem (by omega)⟩
    have PJ := PP.get ht
    rw [Nat.zero_add] at PJ
    obtain ⟨e1, e2, gt, ⟨d1, ha1, hd1⟩, ⟨d2, ha2, hd2⟩⟩ := PJ
    have lk : (flE 19 v w).lookup ("other" : Str) = some w := by kernel_rfl
    have E19 := T.ec 19 (by decide)
    refine ⟨_, rfl, l, _, _, .ref t, rfl, rfl, .inl (.inl gl), atI_ref (j := 19) ht, t, _, _, .ref e1, rfl, rfl, .inl (.inl gt), atI_nat (j := 0) rfl, e1, Cs 19, d1, _, w, rfl, ha1, hd1, E19.ev, no2, lk, ?_⟩
    refine ⟨_, rfl, w, rfl, ow, true, rfl, iteF ?_⟩
    refine ⟨_, rfl, l, _, _, .ref t, rfl, rfl, .inl (.inl gl), atI_ref (j := 19) ht, t, _, _, .ref e2, rfl, rfl, .inl (.inl gt), atI_nat (j := 1) rfl, e2, Cs 19, d2, _, w, rfl, ha2, hd2, E19.ev, no2, lk, ?_⟩
    refine ⟨_, rfl, w, rfl, ow, true, rfl, iteF ?_⟩
    exact ⟨z2, _, _, _, x6, x7, x8, x9, u, r, rfl, PA, by omega⟩
end

/-- the class k, its __init__ the one in the p-th statement -/
def Has {K : PySem.W.Frag} {h : Heap} (_ : K.In h) (mg : Str → Option Value) (k p : Nat) (qual : Str) : Prop := ∃ C f fd, EC K mg k C f ∧ Fun K "__init__" qual (sI p) f fd
def Has19 {K : PySem.W.Frag} {h : Heap} (_ : K.In h) (mg : Str → Option Value) : Prop := ∃ C f fd, EC K mg 19 C f ∧ Fun K "__init__" "OverLimit.__init__" (sI 20) f fd ∧ PySem.W.findIn K (.ref C) "other" = some none
section
variable {K : PySem.W.Frag} {h : Heap} {mg : Str → Option Value} {C f N : Addr} {q : Str} {bs : List Value} {sn : List Str} {sub : List Value} {ab : Bool} {col : Option Bool} {dd : Option Addr} {m0 m1 m2 m3 m5 : Option Value} {od an : Option Addr} {sl : Array (Option Value)} {oc kV dc pm cd ct : Value}
theorem ec_mk (k p : Nat) (qual : Str) (X : K.In h) (G : h.Ns mainGlobals mg) (aC : PySem.W.nsIn K mainGlobals (nmE k) = some (some (.ref C)))
    (xL : K.lookup C = some (excClassObj (nmE k) q C N bs (bBm (bsE k)) true sn sub ab col dd m0 m1 m2 m3 m5 (bNew (bsE k))))
    (sa : PySem.W.findIn K (.ref C) "__setattr__" = some (some (.builtin "object.__setattr__"))) (kC : PySem.W.keepIn K (.ref C) = true) (ga : PySem.W.findIn K (.ref C) "__getattribute__" = some (some (.builtin "BaseException.__getattribute__")))
    (gg : PySem.W.findIn K (.ref C) "__getattr__" = some none) (ca : PySem.W.findIn K (.ref C) "__class__" = some (some (.builtin "object.__class__"))) (no : PySem.W.findIn K (.ref C) (fdE k) = some none)
    (iC : PySem.W.findIn K (.ref C) "__init__" = some (some (.ref f))) (tI : PySem.W.typeIn K (.ref f) = some (.type "function"))
    (l1 : K.lookup f = some ⟨oc, od, .func (PySem.W.fnOf "__init__" qual (defArgs (sI p)) (defBody (sI p)) (defScope (sI p)) .none kV dc pm an cd ct), sl⟩) (c1 : PySem.W.codeIn K cd qual = true) (k1 : PySem.W.keepIn K (.ref f) = true) : Has X mg k p qual :=
  ⟨C, f, _, ⟨⟨q, N, bs, sn, sub, ab, col, dd, m0, m1, m2, m3, m5, xL⟩, sa, kC, ga, gg, ca, no, PySem.W.mg_of X G aC, iC, tI⟩, fun_mk (st := sI p) l1 c1 k1⟩
theorem ec_mk19 (X : K.In h) (G : h.Ns mainGlobals mg) (aC : PySem.W.nsIn K mainGlobals (nmE 19) = some (some (.ref C)))
    (xL : K.lookup C = some (excClassObj (nmE 19) q C N bs (bBm (bsE 19)) true sn sub ab col dd m0 m1 m2 m3 m5 (bNew (bsE 19))))
    (sa : PySem.W.findIn K (.ref C) "__setattr__" = some (some (.builtin "object.__setattr__"))) (kC : PySem.W.keepIn K (.ref C) = true) (ga : PySem.W.findIn K (.ref C) "__getattribute__" = some (some (.builtin "BaseException.__getattribute__")))
    (gg : PySem.W.findIn K (.ref C) "__getattr__" = some none) (ca : PySem.W.findIn K (.ref C) "__class__" = some (some (.builtin "object.__class__"))) (no : PySem.W.findIn K (.ref C) (fdE 19) = some none) (no2 : PySem.W.findIn K (.ref C) "other" = some none)
    (iC : PySem.W.findIn K (.ref C) "__init__" = some (some (.ref f))) (tI : PySem.W.typeIn K (.ref f) = some (.type "function"))
    (l1 : K.lookup f = some ⟨oc, od, .func (PySem.W.fnOf "__init__" "OverLimit.__init__" (defArgs (sI 20)) (defBody (sI 20)) (defScope (sI 20)) .none kV dc pm an cd ct), sl⟩) (c1 : PySem.W.codeIn K cd "OverLimit.__init__" = true) (k1 : PySem.W.keepIn K (.ref f) = true) : Has19 X mg :=
  ⟨C, f, _, ⟨⟨q, N, bs, sn, sub, ab, col, dd, m0, m1, m2, m3, m5, xL⟩, sa, kC, ga, gg, ca, no, PySem.W.mg_of X G aC, iC, tI⟩, fun_mk (st := sI 20) l1 c1 k1, no2⟩
end
theorem kb1_of {K : PySem.W.Frag} {x qual fl : Str} {st : Stmt} {f : Addr} {fd : FuncData} (F : Fun K x qual st f fd)
    (h : ∀ (kV doc pm : Value) (an : Option Addr) (cdv ct : Value) (a : Addr) (w : Value), bindArgs (PySem.W.fnOf x qual (defArgs st) (defBody st) (defScope st) .none kV doc pm an cdv ct) ⟨[.ref a], [((fl : Str), w)]⟩ = pure [(("self" : Str), Value.ref a), ((fl : Str), w)]) : Kb1 fd fl := by
  obtain ⟨oc, od, kV, doc, pm, an, cdv, ct, osl, rfl, _⟩ := F.ex
  intro s' a ws hw
  match ws, hw with
  | [w], _ => exact .of_eq (h kV doc pm an cdv ct a w)
theorem kb2_of {K : PySem.W.Frag} {x qual : Str} {st : Stmt} {f : Addr} {fd : FuncData} (F : Fun K x qual st f fd)
    (h : ∀ (kV doc pm : Value) (an : Option Addr) (cdv ct : Value) (a : Addr) (w1 w2 : Value), bindArgs (PySem.W.fnOf x qual (defArgs st) (defBody st) (defScope st) .none kV doc pm an cdv ct) ⟨[.ref a], [(("other" : Str), w1), (("one" : Str), w2)]⟩ = pure [(("self" : Str), Value.ref a), (("one" : Str), w2), (("other" : Str), w1)]) : Kb2 fd := by
  obtain ⟨oc, od, kV, doc, pm, an, cdv, ct, osl, rfl, _⟩ := F.ex
  intro s' a ws hw
  match ws, hw with
  | [w1, w2], _ => exact .of_eq (h kV doc pm an cdv ct a w1 w2)
theorem fin_mk {l : PySem.W.OpenLaw} {w : World} {K : PySem.W.Frag} {h : Heap} {mg : Str → Option Value} {fa : Addr} (X : K.In h) (G : h.Ns mainGlobals mg) (hfa : mg "law" = some (.ref fa))
    {g22 g23 g24 g25 g26 g27 g28 g29 g30 g31 : Addr} {od22 an22 od23 an23 od24 an24 od25 an25 od26 an26 od27 an27 od28 an28 od29 an29 od30 an30 od31 an31 : Option Addr} {sl22 sl23 sl24 sl25 sl26 sl27 sl28 sl29 sl30 sl31 : Array (Option Value)} {oc22 kV22 dc22 pm22 cd22 ct22 oc23 kV23 dc23 pm23 cd23 ct23 oc24 kV24 dc24 pm24 cd24 ct24 oc25 kV25 dc25 pm25 cd25 ct25 oc26 kV26 dc26 pm26 cd26 ct26 oc27 kV27 dc27 pm27 cd27 ct27 oc28 kV28 dc28 pm28 cd28 ct28 oc29 kV29 dc29 pm29 cd29 ct29 oc30 kV30 dc30 pm30 cd30 ct30 oc31 kV31 dc31 pm31 cd31 ct31 : Value}
    (h0 : Has X mg 0 1 "InvalidLoad.__init__")
    (h1 : Has X mg 1 4 "InvalidWeighting.__init__")
    (h2 : Has X mg 2 6 "InvalidDay.__init__")
    (h3 : Has X mg 3 7 "InvalidSettling.__init__")
    (h4 : Has X mg 4 9 "InvalidLimit.__init__")
    (h5 : Has X mg 5 2 "InvalidText.__init__")
    (h6 : Has X mg 6 3 "InvalidPair.__init__")
    (h7 : Has X mg 7 8 "InvalidData.__init__")
    (h8 : Has X mg 8 11 "Unfair.__init__")
    (h9 : Has X mg 9 5 "InvalidNote.__init__")
    (h10 : Has X mg 10 10 "InvalidYard.__init__")
    (h11 : Has X mg 11 12 "Uneven.__init__")
    (h12 : Has X mg 12 13 "Stuck.__init__")
    (h13 : Has X mg 13 14 "OtherPair.__init__")
    (h14 : Has X mg 14 15 "NotASide.__init__")
    (h15 : Has X mg 15 16 "NoNote.__init__")
    (h16 : Has X mg 16 17 "OutOfRange.__init__")
    (h17 : Has X mg 17 18 "TooMany.__init__")
    (h18 : Has X mg 18 19 "Closed.__init__")
    (h19 : Has19 X mg)
    (a22 : PySem.W.nsIn K mainGlobals "_law_pen" = some (some (.ref g22))) (l22 : K.lookup g22 = some ⟨oc22, od22, .func (PySem.W.fnOf "_law_pen" "_law_pen" (defArgs (top 22)) (defBody (top 22)) (defScope (top 22)) .none kV22 dc22 pm22 an22 cd22 ct22), sl22⟩) (c22 : PySem.W.codeIn K cd22 "_law_pen" = true) (k22 : PySem.W.keepIn K (.ref g22) = true)
    (a23 : PySem.W.nsIn K mainGlobals "_law_draw" = some (some (.ref g23))) (l23 : K.lookup g23 = some ⟨oc23, od23, .func (PySem.W.fnOf "_law_draw" "_law_draw" (defArgs (top 23)) (defBody (top 23)) (defScope (top 23)) .none kV23 dc23 pm23 an23 cd23 ct23), sl23⟩) (c23 : PySem.W.codeIn K cd23 "_law_draw" = true) (k23 : PySem.W.keepIn K (.ref g23) = true)
    (a24 : PySem.W.nsIn K mainGlobals "_law_pick" = some (some (.ref g24))) (l24 : K.lookup g24 = some ⟨oc24, od24, .func (PySem.W.fnOf "_law_pick" "_law_pick" (defArgs (top 24)) (defBody (top 24)) (defScope (top 24)) .none kV24 dc24 pm24 an24 cd24 ct24), sl24⟩) (c24 : PySem.W.codeIn K cd24 "_law_pick" = true) (k24 : PySem.W.keepIn K (.ref g24) = true)
    (a25 : PySem.W.nsIn K mainGlobals "_law_odd_value" = some (some (.ref g25))) (l25 : K.lookup g25 = some ⟨oc25, od25, .func (PySem.W.fnOf "_law_odd_value" "_law_odd_value" (defArgs (top 25)) (defBody (top 25)) (defScope (top 25)) .none kV25 dc25 pm25 an25 cd25 ct25), sl25⟩) (c25 : PySem.W.codeIn K cd25 "_law_odd_value" = true) (k25 : PySem.W.keepIn K (.ref g25) = true)
    (a26 : PySem.W.nsIn K mainGlobals "_law_errors" = some (some (.ref g26))) (l26 : K.lookup g26 = some ⟨oc26, od26, .func (PySem.W.fnOf "_law_errors" "_law_errors" (defArgs (top 26)) (defBody (top 26)) (defScope (top 26)) .none kV26 dc26 pm26 an26 cd26 ct26), sl26⟩) (c26 : PySem.W.codeIn K cd26 "_law_errors" = true) (k26 : PySem.W.keepIn K (.ref g26) = true)
    (a27 : PySem.W.nsIn K mainGlobals "_law_classes" = some (some (.ref g27))) (l27 : K.lookup g27 = some ⟨oc27, od27, .func (PySem.W.fnOf "_law_classes" "_law_classes" (defArgs (top 27)) (defBody (top 27)) (defScope (top 27)) .none kV27 dc27 pm27 an27 cd27 ct27), sl27⟩) (c27 : PySem.W.codeIn K cd27 "_law_classes" = true) (k27 : PySem.W.keepIn K (.ref g27) = true)
    (a28 : PySem.W.nsIn K mainGlobals "_law_field" = some (some (.ref g28))) (l28 : K.lookup g28 = some ⟨oc28, od28, .func (PySem.W.fnOf "_law_field" "_law_field" (defArgs (top 28)) (defBody (top 28)) (defScope (top 28)) .none kV28 dc28 pm28 an28 cd28 ct28), sl28⟩) (c28 : PySem.W.codeIn K cd28 "_law_field" = true) (k28 : PySem.W.keepIn K (.ref g28) = true)
    (a29 : PySem.W.nsIn K mainGlobals "_law_above" = some (some (.ref g29))) (l29 : K.lookup g29 = some ⟨oc29, od29, .func (PySem.W.fnOf "_law_above" "_law_above" (defArgs (top 29)) (defBody (top 29)) (defScope (top 29)) .none kV29 dc29 pm29 an29 cd29 ct29), sl29⟩) (c29 : PySem.W.codeIn K cd29 "_law_above" = true) (k29 : PySem.W.keepIn K (.ref g29) = true)
    (a30 : PySem.W.nsIn K mainGlobals "_law_is_same" = some (some (.ref g30))) (l30 : K.lookup g30 = some ⟨oc30, od30, .func (PySem.W.fnOf "_law_is_same" "_law_is_same" (defArgs (top 30)) (defBody (top 30)) (defScope (top 30)) .none kV30 dc30 pm30 an30 cd30 ct30), sl30⟩) (c30 : PySem.W.codeIn K cd30 "_law_is_same" = true) (k30 : PySem.W.keepIn K (.ref g30) = true)
    (a31 : PySem.W.nsIn K mainGlobals "law" = some (some (.ref g31))) (l31 : K.lookup g31 = some ⟨oc31, od31, .func (PySem.W.fnOf "law" "law" (defArgs (top 31)) (defBody (top 31)) (defScope (top 31)) .none kV31 dc31 pm31 an31 cd31 ct31), sl31⟩) (c31 : PySem.W.codeIn K cd31 "law" = true) (k31 : PySem.W.keepIn K (.ref g31) = true)
    (zInt : PySem.W.nsIn K mainGlobals "int" = some none)    (zAbs : PySem.W.nsIn K mainGlobals "abs" = some none)    (zList : PySem.W.nsIn K mainGlobals "list" = some none)    (zLen : PySem.W.nsIn K mainGlobals "len" = some none)    (zRange : PySem.W.nsIn K mainGlobals "range" = some none)    (zIsi : PySem.W.nsIn K mainGlobals "isinstance" = some none)    (zRepr : PySem.W.nsIn K mainGlobals "repr" = some none)
    (zb0 : PySem.W.nsIn K mainGlobals "ValueError" = some none) (vb0 : PySem.W.findCls K (.type "ValueError") (.type "type") "__init__" = some (.val (.builtin "ValueError.__init__")))
    (zb1 : PySem.W.nsIn K mainGlobals "LookupError" = some none) (vb1 : PySem.W.findCls K (.type "LookupError") (.type "type") "__init__" = some (.val (.builtin "LookupError.__init__")))
    (zb2 : PySem.W.nsIn K mainGlobals "OverflowError" = some none) (vb2 : PySem.W.findCls K (.type "OverflowError") (.type "type") "__init__" = some (.val (.builtin "OverflowError.__init__")))
    (zb3 : PySem.W.nsIn K mainGlobals "RuntimeError" = some none) (vb3 : PySem.W.findCls K (.type "RuntimeError") (.type "type") "__init__" = some (.val (.builtin "RuntimeError.__init__")))
    (cs : PySem.W.specialIn K (.builtin "object.__class__") "__get__" = some (some (.builtin "getset_descriptor.__get__"))) (ctk : PySem.W.takesIn K (.builtin "object.__class__") = some true) :
    ∃ fd : FuncData, (∀ (s : Shared) (v : Value), BindsTo s fd ⟨[v], []⟩ [("_law_script", v)]) ∧ ∀ base : Heap, K.In base → base.Ns mainGlobals mg → FnG l.prog w K mg base 4 fa fd ["_law_script"] (spLaw K) := by
  have e := hfa.symm.trans (PySem.W.mg_of X G a31)
  cases e
  obtain ⟨C0, f0, fd0, E0, F0⟩ := h0
  obtain ⟨C1, f1, fd1, E1, F1⟩ := h1
  obtain ⟨C2, f2, fd2, E2, F2⟩ := h2
  obtain ⟨C3, f3, fd3, E3, F3⟩ := h3
  obtain ⟨C4, f4, fd4, E4, F4⟩ := h4
  obtain ⟨C5, f5, fd5, E5, F5⟩ := h5
  obtain ⟨C6, f6, fd6, E6, F6⟩ := h6
  obtain ⟨C7, f7, fd7, E7, F7⟩ := h7
  obtain ⟨C8, f8, fd8, E8, F8⟩ := h8
  obtain ⟨C9, f9, fd9, E9, F9⟩ := h9
  obtain ⟨C10, f10, fd10, E10, F10⟩ := h10
  obtain ⟨C11, f11, fd11, E11, F11⟩ := h11
  obtain ⟨C12, f12, fd12, E12, F12⟩ := h12
  obtain ⟨C13, f13, fd13, E13, F13⟩ := h13
  obtain ⟨C14, f14, fd14, E14, F14⟩ := h14
  obtain ⟨C15, f15, fd15, E15, F15⟩ := h15
  obtain ⟨C16, f16, fd16, E16, F16⟩ := h16
  obtain ⟨C17, f17, fd17, E17, F17⟩ := h17
  obtain ⟨C18, f18, fd18, E18, F18⟩ := h18
  obtain ⟨C19, f19, fd19, E19, F19, no2⟩ := h19
  have B : Blt mg := ⟨PySem.W.mg_none_of X G zInt, PySem.W.mg_none_of X G zAbs, PySem.W.mg_none_of X G zList, PySem.W.mg_none_of X G zLen, PySem.W.mg_none_of X G zRange, PySem.W.mg_none_of X G zIsi, PySem.W.mg_none_of X G zRepr⟩
  have B0 : BsT K mg 0 := ⟨PySem.W.mg_none_of X G zb0, vb0⟩
  have B1 : BsT K mg 1 := ⟨PySem.W.mg_none_of X G zb1, vb1⟩
  have B2 : BsT K mg 2 := ⟨PySem.W.mg_none_of X G zb2, vb2⟩
  have B3 : BsT K mg 3 := ⟨PySem.W.mg_none_of X G zb3, vb3⟩
  let Cs : Nat → Addr := fun k => match k with | 0 => C0 | 1 => C1 | 2 => C2 | 3 => C3 | 4 => C4 | 5 => C5 | 6 => C6 | 7 => C7 | 8 => C8 | 9 => C9 | 10 => C10 | 11 => C11 | 12 => C12 | 13 => C13 | 14 => C14 | 15 => C15 | 16 => C16 | 17 => C17 | 18 => C18 | _ => C19
  let Fs : Nat → Addr := fun k => match k with | 0 => f0 | 1 => f1 | 2 => f2 | 3 => f3 | 4 => f4 | 5 => f5 | 6 => f6 | 7 => f7 | 8 => f8 | 9 => f9 | 10 => f10 | 11 => f11 | 12 => f12 | 13 => f13 | 14 => f14 | 15 => f15 | 16 => f16 | 17 => f17 | 18 => f18 | _ => f19
  let fds : Nat → FuncData := fun k => match k with | 0 => fd0 | 1 => fd1 | 2 => fd2 | 3 => fd3 | 4 => fd4 | 5 => fd5 | 6 => fd6 | 7 => fd7 | 8 => fd8 | 9 => fd9 | 10 => fd10 | 11 => fd11 | 12 => fd12 | 13 => fd13 | 14 => fd14 | 15 => fd15 | 16 => fd16 | 17 => fd17 | 18 => fd18 | _ => fd19
  have T : Fam K mg Cs Fs := ⟨fun k hk => match k, hk with | 0, _ => E0 | 1, _ => E1 | 2, _ => E2 | 3, _ => E3 | 4, _ => E4 | 5, _ => E5 | 6, _ => E6 | 7, _ => E7 | 8, _ => E8 | 9, _ => E9 | 10, _ => E10 | 11, _ => E11 | 12, _ => E12 | 13, _ => E13 | 14, _ => E14 | 15, _ => E15 | 16, _ => E16 | 17, _ => E17 | 18, _ => E18 | 19, _ => E19 | n + 20, hk => absurd hk (by omega), ⟨cs, ctk⟩⟩
  have D22 := fun_mk (st := top 22) l22 c22 k22
  have b22 := D22.binds (ps := ["_law_script"]) fun _ _ _ _ _ _ us hl => match us, hl with | [_], _ => rfl
  have D23 := fun_mk (st := top 23) l23 c23 k23
  have b23 := D23.binds (ps := ["_law_pen_here", "_law_many"]) fun _ _ _ _ _ _ us hl => match us, hl with | [_, _], _ => rfl
  have D24 := fun_mk (st := top 24) l24 c24 k24
  have b24 := D24.binds (ps := ["_law_pen_here", "_law_items"]) fun _ _ _ _ _ _ us hl => match us, hl with | [_, _], _ => rfl
  have D25 := fun_mk (st := top 25) l25 c25 k25
  have b25 := D25.binds (ps := ["_law_pen_here"]) fun _ _ _ _ _ _ us hl => match us, hl with | [_], _ => rfl
  have D26 := fun_mk (st := top 26) l26 c26 k26
  have b26 := D26.binds (ps := ["_law_odd", "_law_more"]) fun _ _ _ _ _ _ us hl => match us, hl with | [_, _], _ => rfl
  have D27 := fun_mk (st := top 27) l27 c27 k27
  have b27 := D27.binds (ps := ["_law_e"]) fun _ _ _ _ _ _ us hl => match us, hl with | [_], _ => rfl
  have D28 := fun_mk (st := top 28) l28 c28 k28
  have b28 := D28.binds (ps := ["_law_e", "_law_k"]) fun _ _ _ _ _ _ us hl => match us, hl with | [_, _], _ => rfl
  have D29 := fun_mk (st := top 29) l29 c29 k29
  have b29 := D29.binds (ps := ["_law_e"]) fun _ _ _ _ _ _ us hl => match us, hl with | [_], _ => rfl
  have D30 := fun_mk (st := top 30) l30 c30 k30
  have b30 := D30.binds (ps := ["_law_first", "_law_second"]) fun _ _ _ _ _ _ us hl => match us, hl with | [_, _], _ => rfl
  have D31 := fun_mk (st := top 31) l31 c31 k31
  refine ⟨_, fun s v => ?_, fun base _ _ => ok_law D31 B T no2 ?_⟩
  · exact .of_eq rfl
  have N : InT l.prog w K mg base Cs Fs fds := {
    ok := fun k hk => match k, hk with | 0, _ => ok_I0 F0 E0 B0 | 1, _ => ok_I1 F1 E1 B0 | 2, _ => ok_I2 F2 E2 B0 | 3, _ => ok_I3 F3 E3 B0 | 4, _ => ok_I4 F4 E4 B0 | 5, _ => ok_I5 F5 E5 B0 | 6, _ => ok_I6 F6 E6 B0 | 7, _ => ok_I7 F7 E7 B0 | 8, _ => ok_I8 F8 E8 B0 | 9, _ => ok_I9 F9 E9 B0 | 10, _ => ok_I10 F10 E10 B0 | 11, _ => ok_I11 F11 E11 B0 | 12, _ => ok_I12 F12 E12 B0 | 13, _ => ok_I13 F13 E13 B0 | 14, _ => ok_I14 F14 E14 B1 | 15, _ => ok_I15 F15 E15 B1 | 16, _ => ok_I16 F16 E16 B1 | 17, _ => ok_I17 F17 E17 B2 | 18, _ => ok_I18 F18 E18 B3 | n + 19, hk => absurd hk (by omega)
    bd := fun k hk => match k, hk with | 0, _ => F0.binds (ps := ["self", "value"]) (fun _ _ _ _ _ _ us hl => match us, hl with | [_, _], _ => rfl) | 1, _ => F1.binds (ps := ["self", "value"]) (fun _ _ _ _ _ _ us hl => match us, hl with | [_, _], _ => rfl) | 2, _ => F2.binds (ps := ["self", "value"]) (fun _ _ _ _ _ _ us hl => match us, hl with | [_, _], _ => rfl) | 3, _ => F3.binds (ps := ["self", "value"]) (fun _ _ _ _ _ _ us hl => match us, hl with | [_, _], _ => rfl) | 4, _ => F4.binds (ps := ["self", "value"]) (fun _ _ _ _ _ _ us hl => match us, hl with | [_, _], _ => rfl) | 5, _ => F5.binds (ps := ["self", "index"]) (fun _ _ _ _ _ _ us hl => match us, hl with | [_, _], _ => rfl) | 6, _ => F6.binds (ps := ["self", "index"]) (fun _ _ _ _ _ _ us hl => match us, hl with | [_, _], _ => rfl) | 7, _ => F7.binds (ps := ["self", "index"]) (fun _ _ _ _ _ _ us hl => match us, hl with | [_, _], _ => rfl) | 8, _ => F8.binds (ps := ["self", "index"]) (fun _ _ _ _ _ _ us hl => match us, hl with | [_, _], _ => rfl) | 9, _ => F9.binds (ps := ["self", "field"]) (fun _ _ _ _ _ _ us hl => match us, hl with | [_, _], _ => rfl) | 10, _ => F10.binds (ps := ["self", "field"]) (fun _ _ _ _ _ _ us hl => match us, hl with | [_, _], _ => rfl) | 11, _ => F11.binds (ps := ["self", "house"]) (fun _ _ _ _ _ _ us hl => match us, hl with | [_, _], _ => rfl) | 12, _ => F12.binds (ps := ["self", "place"]) (fun _ _ _ _ _ _ us hl => match us, hl with | [_, _], _ => rfl) | 13, _ => F13.binds (ps := ["self", "number"]) (fun _ _ _ _ _ _ us hl => match us, hl with | [_, _], _ => rfl) | 14, _ => F14.binds (ps := ["self", "value"]) (fun _ _ _ _ _ _ us hl => match us, hl with | [_, _], _ => rfl) | 15, _ => F15.binds (ps := ["self", "number"]) (fun _ _ _ _ _ _ us hl => match us, hl with | [_, _], _ => rfl) | 16, _ => F16.binds (ps := ["self", "count"]) (fun _ _ _ _ _ _ us hl => match us, hl with | [_, _], _ => rfl) | 17, _ => F17.binds (ps := ["self", "most"]) (fun _ _ _ _ _ _ us hl => match us, hl with | [_, _], _ => rfl) | 18, _ => F18.binds (ps := ["self", "number"]) (fun _ _ _ _ _ _ us hl => match us, hl with | [_, _], _ => rfl) | n + 19, hk => absurd hk (by omega)
    kb := fun k hk => match k, hk with | 0, _ => kb1_of (fl := "value") F0 (fun _ _ _ _ _ _ _ _ => rfl) | 1, _ => kb1_of (fl := "value") F1 (fun _ _ _ _ _ _ _ _ => rfl) | 2, _ => kb1_of (fl := "value") F2 (fun _ _ _ _ _ _ _ _ => rfl) | 3, _ => kb1_of (fl := "value") F3 (fun _ _ _ _ _ _ _ _ => rfl) | 4, _ => kb1_of (fl := "value") F4 (fun _ _ _ _ _ _ _ _ => rfl) | 5, _ => kb1_of (fl := "index") F5 (fun _ _ _ _ _ _ _ _ => rfl) | 6, _ => kb1_of (fl := "index") F6 (fun _ _ _ _ _ _ _ _ => rfl) | 7, _ => kb1_of (fl := "index") F7 (fun _ _ _ _ _ _ _ _ => rfl) | 8, _ => kb1_of (fl := "index") F8 (fun _ _ _ _ _ _ _ _ => rfl) | 9, _ => kb1_of (fl := "field") F9 (fun _ _ _ _ _ _ _ _ => rfl) | 10, _ => kb1_of (fl := "field") F10 (fun _ _ _ _ _ _ _ _ => rfl) | 11, _ => kb1_of (fl := "house") F11 (fun _ _ _ _ _ _ _ _ => rfl) | 12, _ => kb1_of (fl := "place") F12 (fun _ _ _ _ _ _ _ _ => rfl) | 13, _ => kb1_of (fl := "number") F13 (fun _ _ _ _ _ _ _ _ => rfl) | 14, _ => kb1_of (fl := "value") F14 (fun _ _ _ _ _ _ _ _ => rfl) | 15, _ => kb1_of (fl := "number") F15 (fun _ _ _ _ _ _ _ _ => rfl) | 16, _ => kb1_of (fl := "count") F16 (fun _ _ _ _ _ _ _ _ => rfl) | 17, _ => kb1_of (fl := "most") F17 (fun _ _ _ _ _ _ _ _ => rfl) | 18, _ => kb1_of (fl := "number") F18 (fun _ _ _ _ _ _ _ _ => rfl) | n + 19, hk => absurd hk (by omega)
    ok2 := ok_I19 F19 E19 no2 B3
    bd2 := F19.binds (ps := ["self", "one", "other"]) fun _ _ _ _ _ _ us hl => match us, hl with | [_, _, _], _ => rfl
    kb2 := kb2_of F19 fun _ _ _ _ _ _ _ _ _ => rfl }
  have P1 : FnOk l.prog w K mg base CX0 1 g23 _ ["_law_pen_here", "_law_many"] spDraw := ok_draw D23 B
  have P2 : FnOk l.prog w K mg base CX0 2 g24 _ ["_law_pen_here", "_law_items"] (spPick K) := ok_pick D24 B P1 b23 (PySem.W.mg_of X G a23) k23
  exact {
    pen := ⟨g22, _, ok_pen D22 B, b22, PySem.W.mg_of X G a22, k22⟩
    odd := ⟨g25, _, ok_odd D25 P2 b24 (PySem.W.mg_of X G a24) k24, b25, PySem.W.mg_of X G a25, k25⟩
    err := ⟨g26, _, ok_err D26 T N, b26, PySem.W.mg_of X G a26, k26⟩
    cls := ⟨g27, _, ok_cls D27 B T, b27, PySem.W.mg_of X G a27, k27⟩
    fld := ⟨g28, _, ok_fld D28 T, b28, PySem.W.mg_of X G a28, k28⟩
    abv := ⟨g29, _, ok_abv D29 B T B0 B1 B2 B3, b29, PySem.W.mg_of X G a29, k29⟩
    same := ⟨g30, _, ok_same D30 B, b30, PySem.W.mg_of X G a30, k30⟩ }
theorem walk {l : PySem.W.OpenLaw} {q : Program} {loose : List Str} {XP : (Str → Option Value) → Heap → Prop} {YP : World → Heap → Prop} {d : DefRec} {K : Params → PySem.W.Frag} (hn : l.most = some 63) (hdf : d.params.defaults = [])
    (hY : ∀ (w : World) (h : Heap), YP w h → (K w.params).In h)
    (F : ∀ (w : World) (mg : Str → Option Value) (fa : Addr) (h : Heap), (K w.params).In h → h.Ns mainGlobals mg → mg d.name = some (.ref fa) →
      ∃ fd : FuncData, (∀ (s : Shared) (u : Value), BindsTo s fd ⟨[u], []⟩ [("_law_script", u)]) ∧ ∀ base : Heap, (K w.params).In base → base.Ns mainGlobals mg → FnG l.prog w (K w.params) mg base 4 fa fd ["_law_script"] (spLaw (K w.params))) :
    PySem.W.WalkO q loose XP YP l.row.toRowW d [] (fun f vs => PySem.call f vs) :=
  L2.walk_G (n := 63) (k := 4) (x := "_law_script") (sp := fun w => spLaw (K w.params)) hn (by decide) hdf ⟨rfl, by decide, by decide⟩ hY F (fun _ _ a ns hl _ hS => ⟨a, ns, rfl, hS, hl, fun _ => rfl⟩)
end Cr
open PySem PySem.W PyProof.Rows
set_option maxRecDepth 100000 in
set_option maxHeartbeats 0 in
theorem PySem.Challenge.cw_crateround_k00_errors_holds : PySem.Challenge.rw_crateround_k00_errors.Holds := by
  w_on; o_law; k_head; (case hw => w_witness2)
  k_fill
  refine Cr.walk (l := PySem.Challenge.rw_crateround_k00_errors) rfl rfl (fun w h Y => PySem.W.kIn_of Y) ?F
  case F =>
    intro w mg fa h KX G hmg
    refine' Cr.fin_mk KX G hmg ?h0 ?h1 ?h2 ?h3 ?h4 ?h5 ?h6 ?h7 ?h8 ?h9 ?h10 ?h11 ?h12 ?h13 ?h14 ?h15 ?h16 ?h17 ?h18 ?h19 ?a22 ?l22 ?c22 ?k22 ?a23 ?l23 ?c23 ?k23 ?a24 ?l24 ?c24 ?k24 ?a25 ?l25 ?c25 ?k25 ?a26 ?l26 ?c26 ?k26 ?a27 ?l27 ?c27 ?k27 ?a28 ?l28 ?c28 ?k28 ?a29 ?l29 ?c29 ?k29 ?a30 ?l30 ?c30 ?k30 ?a31 ?l31 ?c31 ?k31 ?zInt ?zAbs ?zList ?zLen ?zRange ?zIsi ?zRepr ?zb0 ?vb0 ?zb1 ?vb1 ?zb2 ?vb2 ?zb3 ?vb3 ?cs ?ctk
    (case h0 => (refine' Cr.ec_mk 0 1 "InvalidLoad.__init__" KX G ?aC ?xL ?sa ?kC ?ga ?gg ?ca ?no ?iC ?tI ?l1 ?c1 ?k1; (case aC => k_is); (case xL => k_is); (case sa => k_is); (case kC => k_is); (case ga => k_is); (case gg => k_is); (case ca => k_is); (case no => k_is); (case iC => k_is); (case tI => k_is); (case l1 => k_is); (case c1 => k_is); (case k1 => k_is)))
    (case h1 => (refine' Cr.ec_mk 1 4 "InvalidWeighting.__init__" KX G ?aC ?xL ?sa ?kC ?ga ?gg ?ca ?no ?iC ?tI ?l1 ?c1 ?k1; (case aC => k_is); (case xL => k_is); (case sa => k_is); (case kC => k_is); (case ga => k_is); (case gg => k_is); (case ca => k_is); (case no => k_is); (case iC => k_is); (case tI => k_is); (case l1 => k_is); (case c1 => k_is); (case k1 => k_is)))
    (case h2 => (refine' Cr.ec_mk 2 6 "InvalidDay.__init__" KX G ?aC ?xL ?sa ?kC ?ga ?gg ?ca ?no ?iC ?tI ?l1 ?c1 ?k1; (case aC => k_is); (case xL => k_is); (case sa => k_is); (case kC => k_is); (case ga => k_is); (case gg => k_is); (case ca => k_is); (case no => k_is); (case iC => k_is); (case tI => k_is); (case l1 => k_is); (case c1 => k_is); (case k1 => k_is)))
    (case h3 => (refine' Cr.ec_mk 3 7 "InvalidSettling.__init__" KX G ?aC ?xL ?sa ?kC ?ga ?gg ?ca ?no ?iC ?tI ?l1 ?c1 ?k1; (case aC => k_is); (case xL => k_is); (case sa => k_is); (case kC => k_is); (case ga => k_is); (case gg => k_is); (case ca => k_is); (case no => k_is); (case iC => k_is); (case tI => k_is); (case l1 => k_is); (case c1 => k_is); (case k1 => k_is)))
    (case h4 => (refine' Cr.ec_mk 4 9 "InvalidLimit.__init__" KX G ?aC ?xL ?sa ?kC ?ga ?gg ?ca ?no ?iC ?tI ?l1 ?c1 ?k1; (case aC => k_is); (case xL => k_is); (case sa => k_is); (case kC => k_is); (case ga => k_is); (case gg => k_is); (case ca => k_is); (case no => k_is); (case iC => k_is); (case tI => k_is); (case l1 => k_is); (case c1 => k_is); (case k1 => k_is)))
    (case h5 => (refine' Cr.ec_mk 5 2 "InvalidText.__init__" KX G ?aC ?xL ?sa ?kC ?ga ?gg ?ca ?no ?iC ?tI ?l1 ?c1 ?k1; (case aC => k_is); (case xL => k_is); (case sa => k_is); (case kC => k_is); (case ga => k_is); (case gg => k_is); (case ca => k_is); (case no => k_is); (case iC => k_is); (case tI => k_is); (case l1 => k_is); (case c1 => k_is); (case k1 => k_is)))
    (case h6 => (refine' Cr.ec_mk 6 3 "InvalidPair.__init__" KX G ?aC ?xL ?sa ?kC ?ga ?gg ?ca ?no ?iC ?tI ?l1 ?c1 ?k1; (case aC => k_is); (case xL => k_is); (case sa => k_is); (case kC => k_is); (case ga => k_is); (case gg => k_is); (case ca => k_is); (case no => k_is); (case iC => k_is); (case tI => k_is); (case l1 => k_is); (case c1 => k_is); (case k1 => k_is)))
    (case h7 => (refine' Cr.ec_mk 7 8 "InvalidData.__init__" KX G ?aC ?xL ?sa ?kC ?ga ?gg ?ca ?no ?iC ?tI ?l1 ?c1 ?k1; (case aC => k_is); (case xL => k_is); (case sa => k_is); (case kC => k_is); (case ga => k_is); (case gg => k_is); (case ca => k_is); (case no => k_is); (case iC => k_is); (case tI => k_is); (case l1 => k_is); (case c1 => k_is); (case k1 => k_is)))
    (case h8 => (refine' Cr.ec_mk 8 11 "Unfair.__init__" KX G ?aC ?xL ?sa ?kC ?ga ?gg ?ca ?no ?iC ?tI ?l1 ?c1 ?k1; (case aC => k_is); (case xL => k_is); (case sa => k_is); (case kC => k_is); (case ga => k_is); (case gg => k_is); (case ca => k_is); (case no => k_is); (case iC => k_is); (case tI => k_is); (case l1 => k_is); (case c1 => k_is); (case k1 => k_is)))
    (case h9 => (refine' Cr.ec_mk 9 5 "InvalidNote.__init__" KX G ?aC ?xL ?sa ?kC ?ga ?gg ?ca ?no ?iC ?tI ?l1 ?c1 ?k1; (case aC => k_is); (case xL => k_is); (case sa => k_is); (case kC => k_is); (case ga => k_is); (case gg => k_is); (case ca => k_is); (case no => k_is); (case iC => k_is); (case tI => k_is); (case l1 => k_is); (case c1 => k_is); (case k1 => k_is)))
    (case h10 => (refine' Cr.ec_mk 10 10 "InvalidYard.__init__" KX G ?aC ?xL ?sa ?kC ?ga ?gg ?ca ?no ?iC ?tI ?l1 ?c1 ?k1; (case aC => k_is); (case xL => k_is); (case sa => k_is); (case kC => k_is); (case ga => k_is); (case gg => k_is); (case ca => k_is); (case no => k_is); (case iC => k_is); (case tI => k_is); (case l1 => k_is); (case c1 => k_is); (case k1 => k_is)))
    (case h11 => (refine' Cr.ec_mk 11 12 "Uneven.__init__" KX G ?aC ?xL ?sa ?kC ?ga ?gg ?ca ?no ?iC ?tI ?l1 ?c1 ?k1; (case aC => k_is); (case xL => k_is); (case sa => k_is); (case kC => k_is); (case ga => k_is); (case gg => k_is); (case ca => k_is); (case no => k_is); (case iC => k_is); (case tI => k_is); (case l1 => k_is); (case c1 => k_is); (case k1 => k_is)))
    (case h12 => (refine' Cr.ec_mk 12 13 "Stuck.__init__" KX G ?aC ?xL ?sa ?kC ?ga ?gg ?ca ?no ?iC ?tI ?l1 ?c1 ?k1; (case aC => k_is); (case xL => k_is); (case sa => k_is); (case kC => k_is); (case ga => k_is); (case gg => k_is); (case ca => k_is); (case no => k_is); (case iC => k_is); (case tI => k_is); (case l1 => k_is); (case c1 => k_is); (case k1 => k_is)))
    (case h13 => (refine' Cr.ec_mk 13 14 "OtherPair.__init__" KX G ?aC ?xL ?sa ?kC ?ga ?gg ?ca ?no ?iC ?tI ?l1 ?c1 ?k1; (case aC => k_is); (case xL => k_is); (case sa => k_is); (case kC => k_is); (case ga => k_is); (case gg => k_is); (case ca => k_is); (case no => k_is); (case iC => k_is); (case tI => k_is); (case l1 => k_is); (case c1 => k_is); (case k1 => k_is)))
    (case h14 => (refine' Cr.ec_mk 14 15 "NotASide.__init__" KX G ?aC ?xL ?sa ?kC ?ga ?gg ?ca ?no ?iC ?tI ?l1 ?c1 ?k1; (case aC => k_is); (case xL => k_is); (case sa => k_is); (case kC => k_is); (case ga => k_is); (case gg => k_is); (case ca => k_is); (case no => k_is); (case iC => k_is); (case tI => k_is); (case l1 => k_is); (case c1 => k_is); (case k1 => k_is)))
    (case h15 => (refine' Cr.ec_mk 15 16 "NoNote.__init__" KX G ?aC ?xL ?sa ?kC ?ga ?gg ?ca ?no ?iC ?tI ?l1 ?c1 ?k1; (case aC => k_is); (case xL => k_is); (case sa => k_is); (case kC => k_is); (case ga => k_is); (case gg => k_is); (case ca => k_is); (case no => k_is); (case iC => k_is); (case tI => k_is); (case l1 => k_is); (case c1 => k_is); (case k1 => k_is)))
    (case h16 => (refine' Cr.ec_mk 16 17 "OutOfRange.__init__" KX G ?aC ?xL ?sa ?kC ?ga ?gg ?ca ?no ?iC ?tI ?l1 ?c1 ?k1; (case aC => k_is); (case xL => k_is); (case sa => k_is); (case kC => k_is); (case ga => k_is); (case gg => k_is); (case ca => k_is); (case no => k_is); (case iC => k_is); (case tI => k_is); (case l1 => k_is); (case c1 => k_is); (case k1 => k_is)))
    (case h17 => (refine' Cr.ec_mk 17 18 "TooMany.__init__" KX G ?aC ?xL ?sa ?kC ?ga ?gg ?ca ?no ?iC ?tI ?l1 ?c1 ?k1; (case aC => k_is); (case xL => k_is); (case sa => k_is); (case kC => k_is); (case ga => k_is); (case gg => k_is); (case ca => k_is); (case no => k_is); (case iC => k_is); (case tI => k_is); (case l1 => k_is); (case c1 => k_is); (case k1 => k_is)))
    (case h18 => (refine' Cr.ec_mk 18 19 "Closed.__init__" KX G ?aC ?xL ?sa ?kC ?ga ?gg ?ca ?no ?iC ?tI ?l1 ?c1 ?k1; (case aC => k_is); (case xL => k_is); (case sa => k_is); (case kC => k_is); (case ga => k_is); (case gg => k_is); (case ca => k_is); (case no => k_is); (case iC => k_is); (case tI => k_is); (case l1 => k_is); (case c1 => k_is); (case k1 => k_is)))
    (case h19 => (refine' Cr.ec_mk19 KX G ?aC ?xL ?sa ?kC ?ga ?gg ?ca ?no ?no2 ?iC ?tI ?l1 ?c1 ?k1; (case aC => k_is); (case xL => k_is); (case sa => k_is); (case kC => k_is); (case ga => k_is); (case gg => k_is); (case ca => k_is); (case no => k_is); (case no2 => k_is); (case iC => k_is); (case tI => k_is); (case l1 => k_is); (case c1 => k_is); (case k1 => k_is)))
    (case a22 => k_is); (case l22 => k_is); (case c22 => k_is); (case k22 => k_is)
    (case a23 => k_is); (case l23 => k_is); (case c23 => k_is); (case k23 => k_is)
    (case a24 => k_is); (case l24 => k_is); (case c24 => k_is); (case k24 => k_is)
    (case a25 => k_is); (case l25 => k_is); (case c25 => k_is); (case k25 => k_is)
    (case a26 => k_is); (case l26 => k_is); (case c26 => k_is); (case k26 => k_is)
    (case a27 => k_is); (case l27 => k_is); (case c27 => k_is); (case k27 => k_is)
    (case a28 => k_is); (case l28 => k_is); (case c28 => k_is); (case k28 => k_is)
    (case a29 => k_is); (case l29 => k_is); (case c29 => k_is); (case k29 => k_is)
    (case a30 => k_is); (case l30 => k_is); (case c30 => k_is); (case k30 => k_is)
    (case a31 => k_is); (case l31 => k_is); (case c31 => k_is); (case k31 => k_is)
    (case zInt => k_is); (case zAbs => k_is); (case zList => k_is); (case zLen => k_is); (case zRange => k_is); (case zIsi => k_is); (case zRepr => k_is)
    (case zb0 => k_is); (case vb0 => k_is)
    (case zb1 => k_is); (case vb1 => k_is)
    (case zb2 => k_is); (case vb2 => k_is)
    (case zb3 => k_is); (case vb3 => k_is)
    (case cs => k_is); (case ctk => k_is)
