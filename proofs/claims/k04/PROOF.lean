import PyProof.Rows.All
import Wide.All
import OpenK.AllK
import Wide.FinOn
import KE.KExcInit
import HandS.Base
import HandS.Call
import HandS.List
import HandS.Exc
import HandS.ExcInit
import KE.KIsAll
import HandS.Words
import PyProof.ReprRoads
import HandS.ForMost
import HandS.IsInst
import HandS.Conv
import HandS.More
import HandS.Style
import HandS.SortKw
import HandS.RaiseMore
import KE.KSortKey
import PyProof.Rows.SortShellAny
import HandS.DictComp
import HandS.Walk
import HandS.Flow
import KE.KParD
import HandS.Star
import HandS.MakeKw
import HandS.MakeKwOnly
import HandS.ClsMeth
import HandS.Property
import HandS.SlotsOwn
import PyProof.InstNe
import KE.KExcStr
import KE.KFmtOwn
import HandS.FStr
import PySem.Challenge.RW_crateround_k04_whole_order_of_loads
set_option Elab.async false
set_option linter.all false
set_option maxRecDepth 100000
set_option maxHeartbeats 4000000
/-! Loads are compared by the counts of all kinds, and are equal to no other value: law k04, by hand over the layer HandS. -/
/-! own exception classes over any built-in base, made with positions or keywords, held as values -/
namespace PySem
namespace CrX
open PySem.W PySem.Calls PyProof.Rows PySem.HandSPX
section
open Builtin Builtin.ObjectAttr
variable {M : Model} {prog : Program} {w : World} {A : Around} {E : Value → Shared → Prop} {R : Result → Shared → Prop} {h : Heap} {g : Array GenState} {d : Drawn} {t : Nat} {os : OsState}
variable {nm q : Str} {C N : Addr} {bs bm bmB : List Value} {hdct : Bool} {sn : List Str} {sub : List Value} {ab : Bool} {col : Option Bool} {dd : Option Addr} {k0 k1 k2 k3 k5 : Option Value} {B newId initId : String}

theorem check_new_kw (F : ExcBaseFacts B newId initId bmB) (hT : ∀ X : String, bm.contains (.type X) = bmB.contains (.type X)) {rest : List Value} {kw : List (Str × Value)} {Q : Unit → Shared → Prop}
    (hC : h.get? C = some (excClassObj nm q C N bs bm hdct sn sub ab col dd k0 k1 k2 k3 k5 newId)) (hq : Q () ⟨h, g, d, t, os⟩) : wpAny M A (checkBuiltinCall newId ⟨.ref C :: rest, kw⟩) Q E ⟨h, g, d, t, os⟩ := by
  have hcont : (Value.ref C :: bm).contains (.type B) = true := by rw [List.contains_cons, hT, F.hasB, Bool.or_true]
  have hstar := F.noStar
  simp only [checkBuiltinCall, F.newKind, F.newSplit, F.newRow]
  repeat (first | refine wpAny_loadPart_at hC ?_ | (refine wpAny_isSubtype_exc hC ?_; rw [hcont]) | refine wpAny_staticBase_exc hC ?_ | refine wpAny_madeBy_exc hC ?_ | simp only [bne_self_eq_false, Bool.false_eq_true, if_false] | wp_step)
  exact hq
theorem new_kw (F : ExcBaseFacts B newId initId bmB) (hT : ∀ X : String, bm.contains (.type X) = bmB.contains (.type X)) {rest : List Value} {kw : List (Str × Value)}
    (hC : h.get? C = some (excClassObj nm q C N bs bm hdct sn sub ab col dd k0 k1 k2 k3 k5 newId))
    (hq : R (.ok (.ret (.ref (h.objs.size + 1)))) ⟨(h.push { cls := .type "tuple", data := .seq rest.toArray }).push
      { cls := .ref C, data := .fields #[.ref h.objs.size, .none, .none, .none, .bool false, .none] }, g, d, t, os⟩) (hrest : rest.length ≤ sizeLine) :
    codeAny (model prog w) A (.builtin newId ⟨.ref C :: rest, kw⟩) R ⟨h, g, d, t, os⟩ := by
  have hends := F.ends
  have hcB : (Value.ref C :: bm).contains (.type B) = true := by rw [List.contains_cons, hT, F.hasB, Bool.or_true]
  have hcA : (Value.ref C :: bm).contains (.type "AttributeError") = false := by rw [List.contains_cons, hT, F.noAttr]; rfl
  have hcN : (Value.ref C :: bm).contains (.type "NameError") = false := by rw [List.contains_cons, hT, F.noName]; rfl
  refine codeAny_builtinAt F.entry ?_
  unfold Builtin.«BaseException.__new__»
  refine wpAt_bind ?_
  show wpAt _ _ _ (stack >>= _) _ _ _
  refine wpAt_bind (wpAt_stack fun p below => wpAt_of_wpAny ?_)
  wp_walk
  refine wpAt_of_wpAny ?_
  rw [F.owner]
  repeat (first | with_reducible refine wpAny_madeHere_exc F.canon hC ?_ | with_reducible refine wpAny_loadPart_at hC ?_ | (with_reducible refine wpAny_isSubtype_exc hC ?_; first | rw [hcB] | rw [hcA] | rw [hcN]) | wp_step)
  show R _ _
  rw [Heap.size_push]
  exact hq
theorem type_call_kw (F : ExcBaseFacts B newId initId bmB) (hT : ∀ X : String, bm.contains (.type X) = bmB.contains (.type X)) {rest : List Value} {kw : List (Str × Value)} {fI : Addr} {Q : Fin → Shared → Prop}
    (hC : h.get? C = some (excClassObj nm q C N bs bm hdct sn sub ab col dd k0 k1 k2 k3 k5 newId))
    (hi : W.Looks (model prog w) h (typeLookup (.ref C) "__init__") (some (.ref fI))) (hb : ∀ self, W.Looks (model prog w) h (bindSpecial (.ref fI) self) (.ref fI, [self])) (hrest : rest.length ≤ sizeLine)
    (hq : codeAny (model prog w) A (.call (.ref fI) ⟨.ref (h.objs.size + 1) :: rest, kw⟩)
      (fun r s' => match r with | .ok (.ret v) => v = .none ∧ Q (.done (.ret (.ref (h.objs.size + 1)))) s' | .ok _ => False | .error e => E e s')
      ⟨(h.push (W.kdv_tup rest)).push (excO C h.objs.size), g, d, t, os⟩) :
    wpAny (model prog w) A (Builtin.«type.__call__» ⟨.ref C :: rest, kw⟩) Q E ⟨h, g, d, t, os⟩ := by
  repeat (first | with_reducible refine wpAny_loadPart_at hC ?_ | with_reducible refine wpAny_madeBy_exc hC ?_ | wp_step)
  refine codeAny_call_builtin_code (Code.quiet_builtin _ F.quiet) (check_new_kw F hT hC ?_)
  refine new_kw F hT hC ?_ hrest
  show wpAny _ _ _ _ _ _
  have k : ∀ b o, h.get? b = some o → ((h.push (W.kdv_tup rest)).push (excO C h.objs.size)).get? b = some o := fun b o e => Heap.get?_push_of_some _ (Heap.get?_push_of_some _ e)
  have hC₁ := k _ _ hC
  have hget : ((h.push (W.kdv_tup rest)).push (excO C h.objs.size)).get? (h.objs.size + 1) = some (excO C h.objs.size) := by heap_get
  have hcC : (Value.ref C :: bm).contains (.ref C) = true := by simp
  have i1 := hi.keeps k
  have b1 := (hb (.ref (h.objs.size + 1))).keeps k
  unfold isInstance
  repeat (first | with_reducible refine wpAny_loadPart_at hget ?_ | (with_reducible refine wpAny_isSubtype_exc hC₁ ?_; rw [hcC]) | wp_step)
  show wpAny _ _ (typeLookup (.ref C) _) _ _ _
  refine i1.at ?_
  refine wpAny_holding (wpAny_bind (b1.at ?_))
  refine wpAny_bind (wpAny_call (codeAny_mono hq fun r s' z => ?_))
  rcases r with e | (v | _ | _ | _) <;> first | exact z | exact z.elim | skip
  obtain ⟨rfl, z⟩ := z
  first
    | exact wpAny_pure (wpAny_pure z)
    | (wp_walk; exact z)
theorem call_kw (F : ExcBaseFacts B newId initId bmB) (hT : ∀ X : String, bm.contains (.type X) = bmB.contains (.type X)) {rest : List Value} {kw : List (Str × Value)} {fI : Addr}
    (hC : h.get? C = some (excClassObj nm q C N bs bm hdct sn sub ab col dd k0 k1 k2 k3 k5 newId))
    (hi : W.Looks (model prog w) h (typeLookup (.ref C) "__init__") (some (.ref fI))) (hb : ∀ self, W.Looks (model prog w) h (bindSpecial (.ref fI) self) (.ref fI, [self])) (hrest : rest.length ≤ sizeLine)
    (hq : codeAny (model prog w) (A.under (.builtin "type.__call__" ⟨.ref C :: rest, kw⟩)) (.call (.ref fI) ⟨.ref (h.objs.size + 1) :: rest, kw⟩) (W.InitBack (h.objs.size + 1) R)
      ⟨(h.push (W.kdv_tup rest)).push (excO C h.objs.size), g, d, t, os⟩) :
    codeAny (model prog w) A (.call (.ref C) ⟨rest, kw⟩) R ⟨h, g, d, t, os⟩ := by
  have f1 := tc_lookup
  have f2 := tc_bind (.ref C)
  have hTy : (⟨h, g, d, t, os⟩ : Shared).TypeIs (.ref C) "type" := ⟨_, hC, rfl⟩
  refine codeAny_of_tree ?_
  show wpAny _ _ (callAny (.ref C) _) _ _ _
  repeat (any_goals (first | assumption | with_reducible refine wpAny_loadPart_at hC ?_ | wp_step))
  refine ⟨rfl, ?_⟩
  refine codeAny_call_builtin_at (Code.quiet_builtin _ (by decide +kernel)) entry_typeCall (wpAny_check_type_call_sub hC (type_call_kw F hT hC hi hb hrest ?_))
  refine codeAny_mono hq fun r s' z => ?_
  rcases r with e | (v | _ | _ | _) <;> exact z

/-- self.name = v, the first attribute -/
theorem osa_new (SF : StoreFacts B bmB "object.__setattr__" "object") {K : W.Frag} {name : Str} {tk : Tok} {v : Value} {x C : Addr} {fv : Array Value} {cd : ClassData}
    (X : K.In h) (hx : h.get? x = some { cls := .ref C, data := .fields fv }) (hcd : W.clsIn K C = some cd) (hm : cd.mro = .ref C :: bmB) (hob : bmB.contains (.type "object") = true) (hh : cd.hasDict = true) (ha : W.findIn K (.ref C) name = some none)
    (hq : ∀ h' tk' dx, (∀ b o, b ≠ x → h.get? b = some o → h'.get? b = some o) → h.objs.size ≤ dx → dx ≠ x → h'.get? x = some { cls := .ref C, dict := some dx, data := .fields fv } →
      h'.Ns1 dx (fun y => if y = name then some v else none) → R (.ok (.ret .none)) ⟨h', g, d, tk', os⟩) :
    codeAny (model prog w) A (.call (.builtin "object.__setattr__") ⟨[.ref x, .str name tk, v], []⟩) R ⟨h, g, d, t, os⟩ := by
  have I : W.InstAt h x { cls := .ref C, data := .fields fv } C none := ⟨hx, rfl, rfl, trivial⟩
  have SO := F.store_object
  have hob' : cd.mro.contains (.type "object") = true := by rw [hm, List.contains_cons, hob, Bool.or_true]
  have hxs : x ≠ h.objs.size := Nat.ne_of_lt (Heap.lt_size hx)
  have sub : W.Looks (model prog w) h (isInstance (.ref x) (.type "object")) true := I.type.andThen (W.looks_mroIn X (by unfold W.mroIn; rw [hcd, Option.bind_some, if_neg (by rw [hm]; exact Bool.false_ne_true), hob']))
  refine codeAny_call_builtin SO.slot.plain SO.entry (@W.check_slot (model prog w) _ _ ⟨h, g, d, t, os⟩ "object.__setattr__" "object" "__setattr__" (.ref x) [.str name tk, v] [] _ SO.kind SO.split sub (SO.args (.ref x) (.str name tk) v) ?_)
  have hmr : W.Looks (model prog w) h (mroOf (.ref C)) cd.mro := (W.looks_clsIn X hcd).andThen .now
  have L3 : W.Looks (model prog w) h (storeTaker? none) none := .now
  have hcls : W.Looks (model prog w) h (classData C) cd := W.looks_clsIn X hcd
  rw [W.osa_eq, refuse_eq]
  refine wpAny_bind (wpAny_bind (I.type.at (wpAny_bind (hmr.at ?_))))
  rw [hm, refuseLoop_ref, SF.passes]
  refine wpAny_pure (wpAny_bind (I.type.at (wpAny_bind ((W.looks_findIn X ha).at (wpAny_bind (L3.at ?_))))))
  show wpAny _ _ (storeInOwnDict (.ref x) (.ref C) (.str name tk) name v false) _ _ _
  obtain ⟨nm, bs, mro, ns, qn, hd, sn, sb, ab, col, del⟩ := cd
  dsimp only at hh
  subst hh
  unfold storeInOwnDict ownDictForStores
  repeat (first | with_reducible refine HandSPX.store_in_new ?_ ?_ | with_reducible refine wpAny_loadPart_at hx ?_ | with_reducible refine hcls.at ?_ | wp_step)
  · exact ⟨_, #[], _, (Heap.get?_update_ne _ _ _ _ hxs.symm).trans (Heap.get?_push_at rfl rfl), rfl, fun e he => absurd he (by simp), fun _ => rfl⟩
  · intro h' tk' hn' hs
    have hx₁ : (h.push { cls := .type "dict", data := .dict #[] }).get? x = some { cls := .ref C, data := .fields fv } := Heap.get?_push_of_some _ hx
    refine hq h' tk' h.objs.size (fun b o hb ho => ?_) (Nat.le_refl _) hxs.symm ?_ hn'
    · exact (hs.2 b (Nat.ne_of_lt (Heap.lt_size ho))).trans ((Heap.get?_update_ne _ _ _ _ hb).trans (Heap.get?_push_of_some _ ho))
    · exact (hs.2 x hxs).trans (Heap.get?_update_self _ hx₁ rfl)
theorem osa_old (SF : StoreFacts B bmB "object.__setattr__" "object") {K : W.Frag} {name : Str} {tk : Tok} {v : Value} {x C dx : Addr} {fv : Array Value} {cd : ClassData} {m0 : Str → Option Value} {nl : List Str}
    (X : K.In h) (hx : h.get? x = some { cls := .ref C, dict := some dx, data := .fields fv }) (hns : h.Ns1 dx m0) (hw : Within m0 nl) (hz : nl.length ≤ 1000) (hcd : W.clsIn K C = some cd) (hm : cd.mro = .ref C :: bmB) (hob : bmB.contains (.type "object") = true) (hh : cd.hasDict = true)
    (ha : W.findIn K (.ref C) name = some none)
    (hq : ∀ h' tk', (∀ b o, b ≠ dx → h.get? b = some o → h'.get? b = some o) → h'.Ns1 dx (fun y => if y = name then some v else m0 y) → R (.ok (.ret .none)) ⟨h', g, d, tk', os⟩) :
    codeAny (model prog w) A (.call (.builtin "object.__setattr__") ⟨[.ref x, .str name tk, v], []⟩) R ⟨h, g, d, t, os⟩ := by
  obtain ⟨oD, esD, epD, hoD, hdD, _⟩ := hns.count hw
  have I : W.InstAt h x { cls := .ref C, dict := some dx, data := .fields fv } C (some oD) := ⟨hx, rfl, rfl, hoD⟩
  have SO := F.store_object
  have hob' : cd.mro.contains (.type "object") = true := by rw [hm, List.contains_cons, hob, Bool.or_true]
  have sub : W.Looks (model prog w) h (isInstance (.ref x) (.type "object")) true := I.type.andThen (W.looks_mroIn X (by unfold W.mroIn; rw [hcd, Option.bind_some, if_neg (by rw [hm]; exact Bool.false_ne_true), hob']))
  refine codeAny_call_builtin SO.slot.plain SO.entry (@W.check_slot (model prog w) _ _ ⟨h, g, d, t, os⟩ "object.__setattr__" "object" "__setattr__" (.ref x) [.str name tk, v] [] _ SO.kind SO.split sub (SO.args (.ref x) (.str name tk) v) ?_)
  have hmr : W.Looks (model prog w) h (mroOf (.ref C)) cd.mro := (W.looks_clsIn X hcd).andThen .now
  have L3 : W.Looks (model prog w) h (storeTaker? none) none := .now
  have hcls : W.Looks (model prog w) h (classData C) cd := W.looks_clsIn X hcd
  rw [W.osa_eq, refuse_eq]
  refine wpAny_bind (wpAny_bind (I.type.at (wpAny_bind (hmr.at ?_))))
  rw [hm, refuseLoop_ref, SF.passes]
  refine wpAny_pure (wpAny_bind (I.type.at (wpAny_bind ((W.looks_findIn X ha).at (wpAny_bind (L3.at ?_))))))
  show wpAny _ _ (storeInOwnDict (.ref x) (.ref C) (.str name tk) name v false) _ _ _
  obtain ⟨nm, bs, mro, ns, qn, hd, sn, sb, ab, col, del⟩ := cd
  dsimp only at hh
  subst hh
  unfold storeInOwnDict ownDictForStores
  repeat (first | with_reducible refine OEX.store_in_old hns hw hz ?_ | with_reducible refine wpAny_loadPart_at hx ?_ | with_reducible refine hcls.at ?_ | wp_step)
  intro h' tk' hn' hs
  exact hq h' tk' (fun b o hb ho => (hs.2 b hb).trans ho) hn'
end
end CrX
end PySem
namespace PySem.CrX
open PySem PySem.Spec PySem.W PySem.Calls PyProof.Rows
section
variable {prog : Program} {w : World} {A : Around} {E : Value → Shared → Prop} {s : Shared} {K : Frag} {x D : Addr} {ox : Obj} {od : Option Obj}
theorem findObj_dataO {C : Addr} {name : Str} {a g : Value} (hc : (clsIn K C).isSome = true) (ha : findIn K (.ref C) name = some (some a)) (hg : specialIn K a "__get__" = some (some g)) (ht : takesIn K a = some true) : findObj K C od name = some (.bind g a) := by
  obtain ⟨cd, hc⟩ := Option.isSome_iff_exists.mp hc
  unfold findObj
  rw [hc, Option.bind_some, ha, Option.bind_some]
  simp [hg, ht]
theorem kin_classO {Q : Option Value → Shared → Prop} (hga : findIn K (.ref D) "__getattribute__" = some (some (.builtin "BaseException.__getattribute__"))) (hgt : findIn K (.ref D) "__getattr__" = some none) (hsub : subIn K (.ref D) (.type "BaseException") = some true)
    (hdct : hasDictIn K D = true) (ha : findIn K (.ref D) "__class__" = some (some (.builtin "object.__class__")))
    (hn : specialIn K (.builtin "object.__class__") "__get__" = some (some (.builtin "getset_descriptor.__get__"))) (htk : takesIn K (.builtin "object.__class__") = some true) (hm : mroIn K D (.type "object") = some true)
    (X : K.In s.heap) (I : InstAt s.heap x ox D od) (h : Q (some (.ref D)) { s with toks := s.toks + 1 }) : wpAny (model prog w) A (getAttr? (.ref x) "__class__") Q E s := by
  have hf : findObj K D od "__class__" = some (.bind (.builtin "getset_descriptor.__get__") (.builtin "object.__class__")) := findObj_dataO (by obtain ⟨cd, hc, _⟩ := any_some hdct; rw [hc]; rfl) ha hn htk
  obtain ⟨hp, g, d, t, os⟩ := s
  have L0 := I.type (M := model prog w)
  have L1 := looks_findIn (M := model prog w) X hga
  have L2 := looks_findIn (M := model prog w) X hgt
  have L3 := looks_find (M := model prog w) X I hf
  have sub : Looks (model prog w) hp (isInstance (.ref x) (.type "BaseException")) true := L0.andThen (looks_subIn X hsub)
  have hx0 : (false && onTheHeap (Value.builtin "BaseException.__getattribute__")) = false := rfl
  have hx2 : (Value.builtin "BaseException.__getattribute__" == Value.builtin "object.__getattribute__") = false := by decide +kernel
  have hx1 : (onTheHeap (Value.ref D) && Value.builtin "BaseException.__getattribute__" == Value.builtin "object.__getattribute__") = false := by rw [hx2]; rfl
  unfold getAttr? getAttrBy? getAttrBy
  refine wpAny_bind (wpAny_mkText (wpAny_bind (wpAny_attempt (wpAny_holding (wpAny_bind (L0.at (wpAny_bind (L1.at ?_))))))))
  show wpAny _ _ (if (onTheHeap (Value.ref D) && Value.builtin "BaseException.__getattribute__" == Value.builtin "object.__getattribute__") = true then _ else _) _ _ _
  rw [hx1, if_neg Bool.false_ne_true]
  unfold getAttrByItsOwn hookBefore
  refine wpAny_bind ?_
  rw [if_pos (show onTheHeap (Value.ref D) = true from rfl)]
  refine L2.at ?_
  refine wpAny_bind (wpAny_attempt (wpAny_holding ?_))
  unfold callGetattribute
  rw [hx0, if_neg Bool.false_ne_true]
  unfold boundAndCalled
  rw [PySem.F.excAttr_ValueError.ga.bind (.ref x)]
  refine wpAny_bind (wpAny_pure ?_)
  show wpAny _ _ (call (.builtin "BaseException.__getattribute__") [.ref x, .str "__class__" t]) _ _ _
  refine wpAny_call (codeAny_call_builtin PySem.F.excAttr_ValueError.ga.plain PySem.F.entry_bexc_ga ?_)
  refine @check_slot (model prog w) _ _ ⟨hp, g, d, t + 1, os⟩ "BaseException.__getattribute__" "BaseException" "__getattribute__" (.ref x) [.str "__class__" t] [] _ (by decide +kernel) (by decide +kernel) sub (PySem.F.args_bexc_ga (.ref x) (.str "__class__" t)) ?_
  unfold Builtin.«object.__getattribute__»
  refine wpAny_bind (wpAny_of_eq (a := ((Value.ref x : Value), [Value.str "__class__" t])) (by first | rfl | (simp only [slotArgs]; rfl)) ?_)
  refine wpAny_bind (wpAny_pure (wpAny_bind (L0.at (wpAny_bind (L3.at ?_)))))
  show wpAny _ _ (holding [Value.builtin "object.__class__"] (call (.builtin "getset_descriptor.__get__") [.builtin "object.__class__", .ref x, .ref D]) >>= ret) _ _ _
  refine wpAny_bind (wpAny_holding (wpAny_call (class_get (s := ⟨hp, g, d, t + 1, os⟩) (ox := ox) (od := od) X I hm ?_)))
  refine wpAny_pure ?_
  show wpAny _ _ (handedOut (.ref D)) _ _ _
  rw [handedOut_of (v := .ref D) rfl]
  first
    | exact wpAny_pure (wpAny_pure h)
    | exact wpAny_pure h
    | exact wpAny_pure (wpAny_bind (wpAny_pure (wpAny_pure h)))
theorem kitx_excO (hga : findIn K (.ref D) "__getattribute__" = some (some (.builtin "BaseException.__getattribute__"))) (hgt : findIn K (.ref D) "__getattr__" = some none) (hsub : subIn K (.ref D) (.type "BaseException") = some true) (hdct : hasDictIn K D = true) (ha : findIn K (.ref D) "__class__" = some (some (.builtin "object.__class__")))
    (hn : specialIn K (.builtin "object.__class__") "__get__" = some (some (.builtin "getset_descriptor.__get__"))) (htk : takesIn K (.builtin "object.__class__") = some true) (hm : mroIn K D (.type "object") = some true) :
    KitX K (.ref x) (.ref D) (fun h => InstAt h x ox D od) where
  ty := fun _ _ _ I => I.type
  it := fun _ _ X _ => by
    obtain ⟨cdD, hcD, _⟩ := any_some hdct
    unfold clsIn at hcD
    split at hcD
    · rename_i c' d' cd' sl' ho
      intro A' Q' E' s' k q
      unfold isType loadHead
      exact wpAny_bind (wpAny_loadPart (k _ _ (X _ _ ho)) (wpAny_pure q))
    · cases hcD
  ne := fun h tp dd its n sl X htp => by
    obtain ⟨cdD, hcD, _⟩ := any_some hdct
    refine Bool.eq_false_iff.mpr fun q => ?_
    have e : D = tp := Value.ref.inj (beq_iff_eq.mp q)
    subst e
    unfold clsIn at hcD
    split at hcD
    · rename_i c' d' cd' sl' ho
      have z := (X _ _ ho).symm.trans htp
      cases z
    · cases hcD
  ca := fun X I k => kin_classO hga hgt hsub hdct ha hn htk hm X I k
end
end PySem.CrX

namespace L2
open PySem PySem.Spec PyProof.Rows
/-- an own exception class at C directly over a built-in base, its own __init__ at fI; its objects have the attributes f only -/
structure OexB (K : PySem.W.Frag) (B newId initId : String) (bmB : List Value) (C : Addr) : Prop where
  F : ExcBaseFacts B newId initId bmB
  S : StoreFacts B bmB "object.__setattr__" "object"
  ob : bmB.contains (.type "object") = true
  cls : ∃ nm q N bs sn sub ab col dd k0 k1 k2 k3 k5, K.lookup C = some (excClassObj nm q C N bs bmB true sn sub ab col dd k0 k1 k2 k3 k5 newId)
  sa : PySem.W.findIn K (.ref C) "__setattr__" = some (some (.builtin "object.__setattr__"))
  kC : PySem.W.keepIn K (.ref C) = true
section
variable {X : Cx} {pins : List (Addr × Obj)} {σ : St} {H : Hp} {s : Shared} {a C dx : Addr} {f : Str} {y : V} {u : Value} {fs : List (Str × V)} {Q : Unit → Shared → Prop} {E : Value → Shared → Prop} {A : Around}
variable {B newId initId : String} {bmB : List Value}
theorem OexB.clsIs (T : OexB X.K B newId initId bmB C) : ∃ cd, PySem.W.clsIn X.K C = some cd ∧ cd.mro = .ref C :: bmB ∧ cd.hasDict = true := by
  obtain ⟨nm, q, N, bs, sn, sub, ab, col, dd, k0, k1, k2, k3, k5, hC⟩ := T.cls
  exact ⟨{ name := nm, bases := bs, mro := .ref C :: bmB, ns := N, qualname := q, hasDict := true, slotNames := sn, subclasses := sub, abstract := ab, collection := col, hasDel := false }, by unfold PySem.W.clsIn; rw [hC] <;> rfl, rfl, rfl⟩
/-- self.f = y, the first one -/
theorem ostB_new (T : OexB X.K B newId initId bmB C) (I : Inv X pins σ H s) (e : H a = some (exo a C none)) (hno : PySem.W.findIn X.K (.ref C) f = some none) (ry : RelV y u)
    (h : ∀ dx s', H dx = none → dx ≠ a → Inv X pins σ (upd (upd H dx (exd dx [(f, y)])) a (exo a C (some dx))) s' → Q () s') : wpAny (model X.prog X.w) A (setAttr (.ref a) f u) Q E s := by
  obtain ⟨cd, hcl, hmro, hhd⟩ := T.clsIs
  obtain ⟨t1, ho⟩ := exo_at I.hok e
  obtain ⟨hp, g, d, t, os⟩ := s
  refine PySem.W.set_plain I.kIn (ox := { cls := .ref C, dict := none, data := .fields #[.ref t1, .none, .none, .none, .bool false, .none] }) (od := none) ⟨ho, rfl, rfl, trivial⟩ T.sa ?_
  refine PySem.CrX.osa_new T.S I.kIn ho hcl hmro T.ob hhd hno (fun h' tk' dx k dn dne hx hn => ?_)
  have hnd : H dx = none := I.hok.fresh dn
  have nd : ∀ {b : Addr} {o : Obj}, hp.get? b = some o → b ≠ dx := fun {b o} q => Nat.ne_of_lt (Nat.lt_of_lt_of_le (Heap.lt_size q) dn)
  have na : ∀ {b : Addr}, H b = none → b ≠ a := fun {b} n z => by
    rw [z, e] at n
    cases n
  have Un1 : Un X.fs [] H (upd (upd H dx (exd dx [(f, y)])) a (exo a C (some dx))) hp h' := {
    keep := fun b o q n _ _ => k b o (na n) q
    slot := fun b o q n _ _ => ⟨o.slots, k b o (na n) q⟩
    free := fun b o q n _ => by rw [upd_ne (na n), upd_ne (nd q)]; exact n
    there := fun b o q _ => by
      by_cases hb : b = a
      · exact ⟨_, by rw [hb]; exact hx⟩
      · exact ⟨o, k b o hb q⟩
    tups := fun b xs q => by rw [upd_ne (at_ne e q exo_tup), upd_ne (ne_of_none q hnd)]; exact q
    frzs := fun b o v q => by rw [upd_ne (at_ne e q exo_frz), upd_ne (ne_of_none q hnd)]; exact q
    tbls := fun b ps q => ⟨#[], by rw [upd_ne (at_ne e q exo_tbl), upd_ne (ne_of_none q hnd), q]; simp⟩ }
  refine h dx _ hnd dne (I.un (t' := tk') Un1 fun b o q => ?_)
  by_cases hb : b = a
  · subst hb
    rw [upd_same] at q
    cases q
    exact exo_ok hx
  · rw [upd_ne hb] at q
    by_cases hd : b = dx
    · subst hd
      rw [upd_same] at q
      cases q
      exact exd_ok hn (relO_put (fs := []) ry fun g => True.intro)
    · rw [upd_ne hd] at q
      exact (I.hok b o q).stay (fun c v hc z => k c v (by
          rcases hc with hc | hc
          · rw [hc]
            exact hb
          · exact at_ne e hc exo_own) z)
        (fun c hc => by rw [upd_ne (at_ne e hc exo_own), upd_ne (ne_of_none hc hnd)]; exact hc) (fun c xs hc => by rw [upd_ne (at_ne e hc exo_tup), upd_ne (ne_of_none hc hnd)]; exact hc)
/-- self.f = y, a further one -/
theorem ostB_old (T : OexB X.K B newId initId bmB C) (I : Inv X pins σ H s) (e : H a = some (exo a C (some dx))) (ed : H dx = some (exd dx fs)) (hl : fs.length ≤ 900) (hno : PySem.W.findIn X.K (.ref C) f = some none) (ry : RelV y u)
    (h : ∀ s', Inv X pins σ (upd H dx (exd dx ((f, y) :: fs))) s' → Q () s') : wpAny (model X.prog X.w) A (setAttr (.ref a) f u) Q E s := by
  obtain ⟨cd, hcl, hmro, hhd⟩ := T.clsIs
  obtain ⟨t1, ho⟩ := exo_at I.hok e
  obtain ⟨mA, hns, rel⟩ := exd_at I.hok ed
  have hw := within_of rel
  obtain ⟨hp, g, d, t, os⟩ := s
  obtain ⟨oD, _, _, hoD, _, _⟩ := hns.count hw
  refine PySem.W.set_plain I.kIn (ox := { cls := .ref C, dict := some dx, data := .fields #[.ref t1, .none, .none, .none, .bool false, .none] }) (od := some oD) ⟨ho, rfl, rfl, hoD⟩ T.sa ?_
  refine PySem.CrX.osa_old T.S I.kIn ho hns hw (by rw [List.length_map]; omega) hcl hmro T.ob hhd hno (fun h' tk' k hn => ?_)
  have hd : ∃ o, h'.get? dx = some o := by
    obtain ⟨o, _, _, e', _⟩ := hn
    exact ⟨o, e'⟩
  exact h _ (I.write (t' := tk') (x := dx) (e := dx) (o := exd dx ((f, y) :: fs)) (by rw [ed]; exact True.intro) (.inl rfl) k hd (exd_ok hn (relO_put ry rel)))
/-- B.__init__(self, ..): nothing of it is told -/
theorem binit_ok {us : List Value} {Q : Value → Shared → Prop} (T : OexB X.K B newId initId bmB C) (I : Inv X pins σ H s) (e : H a = some (exo a C none)) (hl : us.length ≤ sizeLine) (h : ∀ s', Inv X pins σ H s' → Q .none s') :
    wpAny (model X.prog X.w) A (call (.builtin initId) (.ref a :: us)) Q E s := by
  obtain ⟨nm, q, N, bs, sn, sub, ab, col, dd, k0, k1, k2, k3, k5, hC⟩ := T.cls
  obtain ⟨t1, ho⟩ := exo_at I.hok e
  obtain ⟨hp, g, d, t, os⟩ := s
  refine wpAny_call (PySem.HandSPX.init_base T.F (fun Y => rfl) (I.kIn _ _ hC) ho hl fun h' t2 k hx => ?_)
  have J := I.write (t' := t) (x := a) (e := a) (o := exo a C none) (by rw [e]; exact True.intro) (.inl rfl) k ⟨_, hx⟩ (exo_ok hx)
  have eu : upd H a (exo a C none) = H := by
    funext b
    by_cases hb : b = a
    · rw [hb, upd_same, e]
    · rw [upd_ne hb]
  rw [eu] at J
  exact h _ J
end

/-- B.__init__(self, ..) -/
def tBi (K : PySem.W.Frag) (B newId initId : String) (bmB : List Value) (ta : TA) : TE := fun σ H Q => ta σ H fun vs H1 => ∃ (a C : Addr) (ws : List V), vs = .ref a :: ws ∧ ws.length ≤ 1000 ∧ OexB K B newId initId bmB C ∧ H1 a = some (exo a C none) ∧ Q .non H1
/-- self.f = e -/
def tOstB (K : PySem.W.Frag) (B newId initId : String) (bmB : List Value) (f : Str) (to te : TE) : TS := fun D σ H => te σ H fun y H1 => to σ H1 fun x H2 => ∃ a C : Addr, x = .ref a ∧ OexB K B newId initId bmB C ∧ PySem.W.findIn K (.ref C) f = some none ∧
  ((H2 a = some (exo a C none) ∧ ∀ dx, H2 dx = none → dx ≠ a → D.nx σ (upd (upd H2 dx (exd dx [(f, y)])) a (exo a C (some dx)))) ∨
    ∃ (dx : Addr) (fs : List (Str × V)), H2 a = some (exo a C (some dx)) ∧ H2 dx = some (exd dx fs) ∧ fs.length ≤ 900 ∧ D.nx σ (upd H2 dx (exd dx ((f, y) :: fs))))
/-- C(e, .., k = v, ..) as a value: a new exception object, then C's own __init__, which keeps sp -/
def tMkV (C : Addr) (sp : Sp) (ta : TA) : TE := fun σ H Q => ta σ H fun vs H1 => vs.length ≤ 1000 ∧ ∀ a, H1 a = none → sp (.ref a :: vs) (upd H1 a (exo a C none)) (fun v H2 => v = .non ∧ Q (.ref a) H2) (fun _ _ _ => False)
section
variable {X : Cx} {o e : Expr} {es : List Expr} {to te : TE} {ta tk : TA} {f : Str} {p p' p1 p2 pos : Pos} {B newId initId : String} {bmB : List Value} {kws : List Keyword} {ks : List Str}
theorem pe_binit {pl : Sem Bool} (x : Str) (hg : Gl X x) (hm : X.mg x = none) (hv : bootBuiltins x = some (.type B)) (ty : typeOf (.type B) = pure (.type "type")) (stub : Manifest.isStub B = false)
    (vV : PySem.W.findCls X.K (.type B) (.type "type") "__init__" = some (.val (.builtin initId))) (hh : PySem.W.handedIn (.builtin initId) = true) (ha : PA X (e :: es) ta)
    (hn : x ≠ "__name__" := by decide) (hdb : (x == ("__debug__" : Str)) = false := by decide)
    (hc : eval (.Call (.Attribute (.Name x p1) "__init__" p2) (e :: es) [] pos) X.env = (do
      let ov ← eval (.Name x p1) X.env
      standAt p2.atName
      let (f, first) ← holding [ov] (getMethod ov "__init__" pl)
      callWith pos f first (backTo pos (starEach (e :: es) X.env)) (backToKw pos (keywordEach [] X.env))) := by rfl)
    (he : starEach (e :: es) X.env = (false, eval e X.env) :: starEach es X.env := by rfl) (hpl : (backTo pos (starEach es X.env)).any (·.1) = false := by rfl) :
    PE X (.Call (.Attribute (.Name x p1) "__init__" p2) (e :: es) [] pos) (tBi X.K B newId initId bmB ta) := by
  refine ⟨fun pins s σ H Q I h => ?_⟩
  refine PySem.W.methodCall_KW (ld_blt I hg hm hv ?_ hn hdb) hc
  obtain ⟨m, fr⟩ := I.fr
  refine PySem.W.method_type fr I.ok.mod.kin ty stub vV hh ?_
  show wpAny _ _ (callWith pos (Value.builtin initId) [] (backTo pos (starEach (e :: es) X.env)) []) _ _ _
  refine PyProof.Rows.callWith_method1 (thn (ha.run pos pins _ σ H _ (I.tok _) h) fun us s1 ⟨vs, H1, I1, r1, a, C, ws, ev, hl, T, ea, q⟩ => ?_) he hpl
  subst ev
  cases r1 with
  | @cons _ u0 _ ur ra rw' =>
    obtain rfl : u0 = Value.ref a := ra
    have hlen : ur.length ≤ sizeLine := by
      rw [← Paired.length rw', sizeLine_eq]
      omega
    exact binit_ok T I1 ea hlen fun s' J => ⟨.non, H1, J, rfl, q⟩
theorem ps_ostB (ho : PE X o to) (he : PE X e te) (hs : swapsWith e (some (.Attribute o f p')) pos.line X.env = pure false := by rfl) : PS X (.Assign [.Attribute o f p'] e pos) (tOstB X.K B newId initId bmB f to te) := by
  refine ⟨fun pins s σ H D I h => ?_⟩
  refine plainObj_wpAny_Assign_Attribute (thn (he.run pins s σ H _ I h) fun v s1 ⟨y, H1, I1, r1, q1⟩ => thn (ho.run pins s1 σ H1 _ I1 q1) fun u s2 ⟨x, H2, I2, r2, a, C, ex, T, hno, q⟩ => ?_) hs
  subst ex
  obtain rfl : u = Value.ref a := r2
  rcases q with ⟨ea, q⟩ | ⟨dx, fs, ea, ed, hl, q⟩
  · exact ostB_new T I2 ea hno r1 fun dx s' n ne J => ⟨σ, _, J, q dx n ne⟩
  · exact ostB_old T I2 ea ed hl hno r1 fun s' J => ⟨σ, _, J, q⟩
/-- C's call: the object is laid, the __init__ runs -/
theorem run_mkV {pins : List (Addr × Obj)} {σ : St} {H : Hp} {s : Shared} {Q : VK} {C fI : Addr} {k : Nat} {fd : FuncData} {ps : List Str} {sp : Sp} {us : List Value} {kw : List (Str × Value)} {vs : List V} {ws : List Value}
    (T : OexB X.K B newId initId bmB C) (iC : PySem.W.findIn X.K (.ref C) "__init__" = some (some (.ref fI))) (tI : PySem.W.typeIn X.K (.ref fI) = some (.type "function"))
    (F1 : FnOk X.prog X.w X.K X.mg X.base CX0 k fI fd ps sp) (hr : Room (k + 1) X.A) (I : Inv X pins σ H s) (hus : us.length ≤ sizeLine)
    (hb : ∀ (s' : Shared) (a : Addr), X.K.In s'.heap → BindsTo s' fd ⟨.ref a :: us, kw⟩ (ps.zip (.ref a :: ws))) (r : Vals vs ws)
    (h : ∀ a, H a = none → sp (.ref a :: vs) (upd H a (exo a C none)) (fun v H2 => v = .non ∧ Q (.ref a) H2) (fun _ _ _ => False)) :
    wpAny (model X.prog X.w) X.A (call (.ref C) us kw) (EP X pins σ Q) X.xe s := by
  obtain ⟨nm, q, N, bs, sn, sub, ab, col, dd, k0, k1, k2, k3, k5, hC⟩ := T.cls
  obtain ⟨hp, g, dr, tk, os⟩ := s
  have hsz : hp.objs.size ≤ hp.objs.size + 1 := Nat.le_succ _
  have hn : H (hp.objs.size + 1) = none := I.hok.fresh hsz
  have hq := h (hp.objs.size + 1) hn
  have kk : ∀ b o, hp.get? b = some o → ((hp.push (PySem.W.kdv_tup us)).push (PySem.HandSPX.excO C hp.objs.size)).get? b = some o := fun b o e => Heap.get?_push_of_some _ (Heap.get?_push_of_some _ e)
  have hget : ((hp.push (PySem.W.kdv_tup us)).push (PySem.HandSPX.excO C hp.objs.size)).get? (hp.objs.size + 1) = some (PySem.HandSPX.excO C hp.objs.size) := by heap_get
  have I2 : Inv X pins σ (upd H (hp.objs.size + 1) (exo (hp.objs.size + 1) C none)) ⟨(hp.push (PySem.W.kdv_tup us)).push (PySem.HandSPX.excO C hp.objs.size), g, dr, tk, os⟩ :=
    I.laid (t' := tk) (a := hp.objs.size + 1) (o := exo (hp.objs.size + 1) C none) (h' := (hp.push (PySem.W.kdv_tup us)).push (PySem.HandSPX.excO C hp.objs.size)) kk hsz (exo_ok hget)
  have r2 : Vals (V.ref (hp.objs.size + 1) :: vs) (Value.ref (hp.objs.size + 1) :: ws) := .cons rfl r
  refine wpAny_call (PySem.CrX.call_kw T.F (fun Y => rfl) (I.kIn _ _ hC) (PySem.W.looks_findIn I.kIn iC) (fun self => PySem.W.bind_fn I.kIn self tI) hus
    (codeAny_mono (F1.run _ X.stack _ _ ⟨Value.ref (hp.objs.size + 1) :: us, kw⟩ (Value.ref (hp.objs.size + 1) :: ws) _ _ (fun _ _ _ => False) (hr.make C us kw) (I2.env0.make C us kw) (hb _ _ I2.kIn) r2 hq) fun rr s' hq' => ?_))
  cases rr with
  | error er => exact False.elim hq'
  | ok fl =>
    cases fl with
    | ret u =>
      obtain ⟨v, H2, I3, rv, ev, q2⟩ := I2.after hq'
      subst ev
      exact ⟨rv, V.ref (hp.objs.size + 1), H2, I3, rfl, q2⟩
    | next => exact False.elim hq'
    | brk => exact False.elim hq'
    | cont => exact False.elim hq'
end
end L2
namespace L2
open PySem PySem.Spec PyProof.Rows
section
variable {X : Cx} {e : Expr} {es : List Expr} {ta tk te : TA} {x : Str} {p pos : Pos} {B newId initId : String} {bmB : List Value} {kws : List Keyword} {ks : List Str} {C fI : Addr} {k : Nat} {fd : FuncData} {ps : List Str} {sp : Sp}
/-- C(e, ..) -/
theorem pe_mkV (T : OexB X.K B newId initId bmB C) (iC : PySem.W.findIn X.K (.ref C) "__init__" = some (some (.ref fI))) (tI : PySem.W.typeIn X.K (.ref fI) = some (.type "function"))
    (F1 : FnOk X.prog X.w X.K X.mg X.base CX0 k fI fd ps sp) (hr : Room (k + 1) X.A) (hb : Binds X.K fd ps []) (hg : Gl X x) (hm : X.mg x = some (.ref C)) (ha : PA X (e :: es) ta)
    (hdb : (x == ("__debug__" : Str)) = false := by decide) (he : starEach (e :: es) X.env = (false, eval e X.env) :: starEach es X.env := by rfl) (hpl : (backTo pos (starEach es X.env)).any (·.1) = false := by rfl) :
    PE X (.Call (.Name x p) (e :: es) [] pos) (tMkV C sp ta) := by
  refine ⟨fun pins s σ H Q I h => ?_⟩
  refine wpAny_Call_Name_kw (ld_glob I hg hm ?_ hdb)
  refine PySem.W.callWith_K (h₀ := X.base) I.ok.mod.kin T.kC (thn (ha.run pos pins s σ H _ I h) fun us s1 ⟨vs, H1, I1, r1, hz, q1⟩ => ⟨I1.kIn, ?_⟩) he hpl
  show wpAny _ _ (call (.ref C) us) _ _ _
  have hus : us.length ≤ sizeLine := by
    rw [← Paired.length r1, sizeLine_eq]
    omega
  have hlen : vs.length + 1 = ps.length := by
    have hq := q1 (s1.heap.objs.size + 1) (I1.hok.fresh (Nat.le_succ _))
    exact F1.len _ _ _ _ hq
  refine run_mkV (kw := []) (ws := us) T iC tI F1 hr I1 hus (fun s' a K1 => ?_) r1 q1
  have z := hb s' (.ref a :: us) K1 (by rw [List.append_nil, List.length_cons, ← Paired.length r1]; exact hlen)
  rwa [List.append_nil] at z
/-- C(k = v, ..): n keywords; permV puts the values in the order of the parameters -/
def tMkVK (C : Addr) (sp : Sp) (n : Nat) (permV : List V → List V) (tk : TA) : TE := fun σ H Q => tk σ H fun zs H1 => zs.length = n ∧ ∀ a, H1 a = none → sp (.ref a :: permV zs) (upd H1 a (exo a C none)) (fun v H2 => v = .non ∧ Q (.ref a) H2) (fun _ _ _ => False)
theorem pe_mkVK {perm : List Value → List Value} {permV : List V → List V} (T : OexB X.K B newId initId bmB C) (iC : PySem.W.findIn X.K (.ref C) "__init__" = some (some (.ref fI))) (tI : PySem.W.typeIn X.K (.ref fI) = some (.type "function"))
    (F1 : FnOk X.prog X.w X.K X.mg X.base CX0 k fI fd ps sp) (hr : Room (k + 1) X.A) (hb : ∀ (s' : Shared) (a : Addr) (ws : List Value), ws.length = ks.length → BindsTo s' fd ⟨[.ref a], ks.zip ws⟩ (ps.zip (.ref a :: perm ws)))
    (hrel : ∀ {zs : List V} {ws : List Value}, Vals zs ws → Vals (permV zs) (perm ws)) (hg : Gl X x) (hm : X.mg x = some (.ref C)) (hkw : PK X kws tk)
    (hall : (backToKw pos (keywordEach kws X.env)).all (·.1.isSome) = true := by rfl) (hks : (backToKw pos (keywordEach kws X.env)).filterMap (·.1) = ks := by rfl) (hdb : (x == ("__debug__" : Str)) = false := by decide)
    (hpl : ((backTo pos (starEach [] X.env)).any (·.1) || (backToKw pos (keywordEach kws X.env)).any (·.1.isNone)) = false := by rfl) :
    PE X (.Call (.Name x p) [] kws pos) (tMkVK C sp ks.length permV tk) := by
  refine ⟨fun pins s σ H Q I h => ?_⟩
  refine wpAny_Call_Name_kw (ld_glob I hg hm ?_ hdb)
  refine PySem.W.callWith_KW0 (h₀ := X.base) I.ok.mod.kin T.kC hall ?_ hpl
  refine thn (hkw.run pos pins s σ H _ I h) fun ws s2 ⟨zs, H2, I2, rz, l2, q2⟩ => ⟨I2.kIn, ?_⟩
  rw [hks]
  show wpAny _ _ (call (.ref C) [] (ks.zip ws)) _ _ _
  exact run_mkV (us := []) (kw := ks.zip ws) (ws := perm ws) T iC tI F1 hr I2 (Nat.zero_le _) (fun s' a _ => hb s' a ws (by rw [← Paired.length rz]; exact l2)) (hrel rz) q2
end

/-! ### an exception held as a value: its field, isinstance -/
/-- what the class at D says of its instances -/
structure ExcV (K : PySem.W.Frag) (D : Addr) : Prop where
  ga : PySem.W.findIn K (.ref D) "__getattribute__" = some (some (.builtin "BaseException.__getattribute__"))
  gg : PySem.W.findIn K (.ref D) "__getattr__" = some none
  sb : PySem.W.subIn K (.ref D) (.type "BaseException") = some true
  hd : PySem.W.hasDictIn K D = true
  ca : PySem.W.findIn K (.ref D) "__class__" = some (some (.builtin "object.__class__"))
  mo : PySem.W.mroIn K D (.type "object") = some true
/-- facts of object.__class__ itself -/
structure ClsD (K : PySem.W.Frag) : Prop where
  sp : PySem.W.specialIn K (.builtin "object.__class__") "__get__" = some (some (.builtin "getset_descriptor.__get__"))
  tk : PySem.W.takesIn K (.builtin "object.__class__") = some true
/-- e.f, e an exception that is held -/
def tExF (K : PySem.W.Frag) (f : Str) (te : TE) : TE := fun σ H Q => te σ H fun x H1 => ∃ (a C d : Addr) (fs : List (Str × V)) (v : V), x = .ref a ∧ H1 a = some (exo a C (some d)) ∧ H1 d = some (exd d fs) ∧ ExcV K C ∧ PySem.W.findIn K (.ref C) f = some none ∧ fs.lookup f = some v ∧ Q v H1
theorem pe_exF {X : Cx} {e : Expr} {f : Str} {te : TE} {pos : Pos} (he : PE X e te) (hb : attributeBase e f X.env (eval e X.env) = eval e X.env := by rfl) : PE X (.Attribute e f pos) (tExF X.K f te) := by
  refine ⟨fun pins s σ H Q I h => ?_⟩
  refine attr_of hb (thn (he.run pins s σ H _ I h) fun u s1 hh => ?_)
  obtain ⟨x, H1, I1, rx, a, C, d, fs, v, rfl, ea, ed, T, hno, l, q⟩ := hh
  obtain rfl : u = Value.ref a := rx
  obtain ⟨t1, ho⟩ := exo_at I1.hok ea
  obtain ⟨mA, hns, hr⟩ := exd_at I1.hok ed
  have hw := within_of hr
  obtain ⟨od, es, ep, hod, hrest⟩ := id hns
  obtain ⟨od', hod', hl⟩ := lookIn_ns hns
  obtain ⟨u, hu, ru⟩ := RelO.some_of (v := v) (o := mA f) (by rw [← l]; exact hr f)
  have J : PySem.W.InstAt s1.heap a { cls := .ref C, dict := some d, data := .fields #[.ref t1, .none, .none, .none, .bool false, .none] } C (some od') := ⟨ho, rfl, rfl, hod'⟩
  exact HandSPX.exc_get I1.kIn J T.ga T.gg T.sb (PySem.W.findObj_own T.hd hno rfl (by rw [hl, hu])) (handed_of ru) ⟨v, H1, I1.tok _, ru, q⟩
/-- isinstance(e, c), e an exception that is held -/
def rIsX (K : PySem.W.Frag) : List V → Hp → VK → Prop := fun xs H Q => ∃ (a C d : Addr) (fs : List (Str × V)) (c : V) (u : Value) (b : Bool), xs = [.ref a, c] ∧ H a = some (exo a C (some d)) ∧ H d = some (exd d fs) ∧ ExcV K C ∧ ClsD K ∧ ClsV c u ∧ PySem.W.kitOne K (.ref C) u = some b ∧ Q (.bl b) H
theorem call_isX {X : Cx} : CallR X (.builtin "isinstance") (rIsX X.K) := by
  intro pins s σ H xs us Q I r h
  obtain ⟨a, C, d, fs, c, u, b, rfl, ea, ed, T, D, k, e, q⟩ := h
  obtain ⟨u1, u2, rfl, r1, r2⟩ := vals2 r
  have e2 := k.eq r2
  subst e2
  obtain rfl : u1 = Value.ref a := r1
  obtain ⟨t1, ho⟩ := exo_at I.hok ea
  obtain ⟨mA, hns, hr⟩ := exd_at I.hok ed
  obtain ⟨od', hod', hl⟩ := lookIn_ns hns
  have J : PySem.W.InstAt s.heap a { cls := .ref C, dict := some d, data := .fields #[.ref t1, .none, .none, .none, .bool false, .none] } C (some od') := ⟨ho, rfl, rfl, hod'⟩
  exact PySem.W.kia_one (PySem.CrX.kitx_excO (od := some od') T.ga T.gg T.sb T.hd T.ca D.sp D.tk T.mo) I.kIn J e (fun z => nomatch z) fun tk => ⟨.bl b, H, I.tok tk, rfl, q⟩

/-! ### repr of data; data that holds dicts -/
/-- a value of None, bools, ints, texts, lists, tuples, dicts of such, as it stands in the heap -/
inductive Dq (K : PySem.W.Frag) (H : Hp) : V → PyData → Prop
  | base {v : V} {d : PyData} : Dp K H v d → Dq K H v d
  | dict {a : Addr} {kvs : List (Key × V)} {ds : List (PyData × PyData)} : H a = some (.dK kvs) → DpAll K H (kvs.map fun p => kV p.1) (ds.map (·.1)) → DpAll K H (kvs.map (·.2)) (ds.map (·.2)) → Dq K H (.ref a) (.dict ds)
end L2
namespace L2
open PySem PySem.Spec PyProof.Rows

/-! ### promises that may use that no container is being shown (guards) -/
/-- as FnOk, for calls made where no guard stands; nothing is raised -/
structure FnG (P : Program) (w : World) (K : PySem.W.Frag) (mg : Str → Option Value) (base : Heap) (k : Nat) (f : Addr) (fd : FuncData) (ps : List Str) (sp : Sp) : Prop where
  arity : ∀ vs H Q E, sp vs H Q E → vs.length = ps.length
  goes : ∀ (A : Around) (outer : List Env) (s : Shared) (H : Hp) (us : List Value) (vs : List V) (Q : VK), Room k A → A.guards = some [] → Env0 P w K mg base A outer s H → BindsTo s fd ⟨us, []⟩ (ps.zip us) → Vals vs us → sp vs H Q E0 →
    codeAny (model P w) A (.call (.ref f) ⟨us, []⟩) (CR CX0 outer P w H s Q E0) s
theorem FnG.of {P : Program} {w : World} {K : PySem.W.Frag} {mg : Str → Option Value} {base : Heap} {k : Nat} {f : Addr} {x qual : Str} {st : Stmt} {fd : FuncData} {N ps : List Str} {sp : Sp}
    (F : Fun K x qual st f fd) (S : FnScope N ps (defScope st)) (len : ∀ vs H Q E, sp vs H Q E → vs.length = ps.length)
    (hbody : ∀ (cdv : Value) (A : Around) (outer : List Env) (s : Shared) (H : Hp) (vs : List V) (Q : VK), Room k (A.deeper (envOfC qual (defScope st) s.heap.objs.size f cdv)) → (A.deeper (envOfC qual (defScope st) s.heap.objs.size f cdv)).guards = some [] → sp vs H Q E0 →
      ∃ t, PSs (cxOf CX0 P w K mg base N qual (defScope st) f cdv A outer s H E0).nox (defBody st) t ∧ t { nx := fun _ H' => Q .non H', rt := Q } (start N vs) H) : FnG P w K mg base (k + 1) f fd ps sp := by
  obtain ⟨oc, od, kV, doc, pm, an, cdv, ct, osl, rfl, lk, hcd⟩ := F.ex
  refine ⟨len, fun A outer s H us vs Q hr hgd e0 hb r hsp => ?_⟩
  have inS : ∀ b o, base.get? b = some o → s.heap.get? b = some o := fun b o e => (e0.bs b o e).1
  have hkind : ∀ y ∈ ps.zip us, (defScope st).names.lookup y.1 = some .local ∨ ((defScope st).names.lookup y.1 = some .cell ∧ ((cellsFrom (s.heap.objs.size + 1) (defScope st).names []).lookup y.1).isSome = true) := by
    rintro ⟨n, v⟩ hy
    rcases S.par n (List.of_mem_zip hy).1 with q | q
    · exact .inl q
    · exact .inr ⟨q, PySem.W.cellsFrom_some _ _ _ (.inl q)⟩
  refine codeAny_call_function hr.depth ((e0.mod.kin.keeps inS) _ _ lk) rfl S.co S.gen rfl (PySem.W.codeRec_of (e0.mod.kin.keeps inS) hcd) (hb _ _ _ _ (wpAny_newFunctionEnv_cells S.kind hkind fun env he s1 x => ?_))
  subst he
  refine ⟨(e0.mod.nolimit.keeps inS).keeps x.toInCall.keep, codeAny_func ?_⟩
  obtain ⟨t, ht, hq⟩ := hbody cdv A outer s H vs Q (hr.deeper _) hgd hsp
  refine wpAny_mono (ht.nox.run [] s1 (start N vs) H _ (inv_start S hr.hd e0 (len _ _ _ _ hsp) r x) hq) (fun fl s' hs => ?_) fun e s' hs => hs
  cases fl with
  | ret u =>
    obtain ⟨v, σ', H', J, rv, q⟩ := hs
    exact ⟨v, H', J.os, J.bare, J.base, J.hok, rv, q⟩
  | next =>
    obtain ⟨σ', H', J, q⟩ := hs
    exact ⟨V.non, H', J.os, J.bare, J.base, J.hok, rfl, q⟩
  | brk => exact hs.elim fun _ z => z.elim fun _ z => z.2.elim
  | cont => exact hs.elim fun _ z => z.elim fun _ z => z.2.elim
section
variable {X : Cx} {k : Nat} {f : Addr} {fd : FuncData} {ps : List Str} {sp : Sp} {x : Str} {p pos : Pos} {e : Expr} {es : List Expr} {t : TA}
/-- f(e, ..), f such a def -/
theorem pe_callG (F : FnG X.prog X.w X.K X.mg X.base k f fd ps sp) (hr : Room k X.A) (hgd : X.A.guards = some []) (hg : Gl X x) (hm : X.mg x = some (.ref f)) (hk : PySem.W.keepIn X.K (.ref f) = true) (hb : Binds X.K fd ps [])
    (ha : PA X (e :: es) t) (hdb : (x == ("__debug__" : Str)) = false := by decide) (he : starEach (e :: es) X.env = (false, eval e X.env) :: starEach es X.env := by rfl) (hpl : (backTo pos (starEach es X.env)).any (·.1) = false := by rfl) :
    PE X (.Call (.Name x p) (e :: es) [] pos) (tCall sp [] E0 t) := by
  refine ⟨fun pins s σ H Q I h => wpAny_Call_Name_kw (ld_glob I hg hm ?_ hdb)⟩
  refine PySem.W.callWith_K (h₀ := X.base) I.ok.mod.kin hk (thn (ha.run pos pins s σ H _ I h) fun us s1 ⟨vs, H1, I1, r, q⟩ => ⟨I1.kIn, ?_⟩) he hpl
  have q0 : sp (vs ++ []) H1 Q E0 := q
  have q' : sp vs H1 Q E0 := by rw [List.append_nil] at q0; exact q0
  have z := hb s1 us I1.kIn (by rw [List.append_nil, ← Paired.length r]; exact F.arity _ _ _ _ q')
  rw [List.append_nil] at z
  show wpAny _ _ (call (.ref f) us) _ _ _
  refine wpAny_call (codeAny_mono (F.goes X.A X.stack s1 H1 us vs Q hr hgd I1.env0 z r q') fun rr s' hq => ?_)
  cases rr with
  | error e => exact False.elim hq
  | ok fl =>
    cases fl with
    | ret u => exact I1.after hq
    | next => exact False.elim hq
    | brk => exact False.elim hq
    | cont => exact False.elim hq
end
/-- the law's own call, by such a promise -/
theorem law_callG {P : Program} {w : World} {K : PySem.W.Frag} {mg mb : Str → Option Value} {k : Nat} {fa a : Addr} {fd : FuncData} {x : Str} {sp : Sp} {s₁ : Shared} {vs : List Value} {ns : List Int}
    (KX : K.In s₁.heap) (hns : s₁.heap.Ns mainGlobals mg) (hb : s₁.heap.Ns builtinsNs mb) (hbb : ∀ x : Str, x ≠ "__name__" → mb x = bootBuiltins x) (hlim : s₁.heap.NoLimit) (hg : s₁.gens = #[])
    (ha : s₁.heap.get? a = some { cls := .type "list", data := .seq vs.toArray }) (hi : IntsAre vs ns) (hl : ns.length ≤ sizeLine) (hr : Room k callerA)
    (F : ∀ base : Heap, K.In base → base.Ns mainGlobals mg → FnG P w K mg base k fa fd [x] sp) (hbind : ∀ (s : Shared) (u : Value), BindsTo s fd ⟨[u], []⟩ [(x, u)])
    (hsp : ∀ H : Hp, Only H → SqL K H a (ns.map V.int) → sp [.ref a] H (fun v _ => v = .bl true) E0) :
    codeAny (model P w) callerA (.call (.ref fa) ⟨[.ref a], []⟩) (fun r s' => r = .ok (.ret (.bool true)) ∧ OldK s₁.heap s'.heap ∧ s'.os = s₁.os ∧ AllBare s'.gens) s₁ := by
  have rv := vals_ints hi
  have fsz : vs.length = ns.length := hi.length
  -- any abstract heap that tracks the script at most
  have core : ∀ H : Hp, Only H → SqL K H a (ns.map V.int) → HOk P w H s₁.heap → (∀ b u, H b = some u → b = a ∧ K.lookup a = none) →
      codeAny (model P w) callerA (.call (.ref fa) ⟨[.ref a], []⟩) (fun r s' => r = .ok (.ret (.bool true)) ∧ OldK s₁.heap s'.heap ∧ s'.os = s₁.os ∧ AllBare s'.gens) s₁ := by
    intro H hO hS hok hA
    have free : ∀ {b : Addr}, (∀ u, H b = some u → False) → H b = none := fun {b} z => by
      cases q : H b with
      | none => rfl
      | some u => exact (z u q).elim
    have dictFree : ∀ {b : Addr} {o : Obj} {es : Array DictEntry} {ep : Nat}, s₁.heap.get? b = some o → o.data = .dict es ep → H b = none := fun {b o es ep} e d => free fun u q => by
      obtain ⟨rfl, _⟩ := hA b u q
      rw [ha] at e
      cases e
      have d' : Data.seq vs.toArray _ = Data.dict es ep := d
      cases d'
    have under : ∀ {b : Addr} {m : Str → Option Value}, s₁.heap.Ns b m → (hidT s₁.heap H).Ns b m := fun {b m} ⟨o, es, ep, e, d, r⟩ => ⟨o, es, ep, hidT_get e (dictFree e d), d, r⟩
    have hKb : K.In (hidT s₁.heap H) := fun b o e => hidT_get (KX b o e) (free fun u q => by
      obtain ⟨rfl, z⟩ := hA b u q
      rw [z] at e
      cases e)
    have hM : Mod K mg (hidT s₁.heap H) := ⟨hKb, under hns, ⟨mb, under hb, hbb⟩, let ⟨mc, h1, h2⟩ := hlim; ⟨mc, under h1, h2⟩⟩
    have e0 : Env0 P w K mg (hidT s₁.heap H) callerA [] s₁ H := ⟨rfl, hM, fun b o e => of_hidT e, Nat.le_of_eq (hidT_size _ _), trivial, fun b hb => absurd (show b ∈ ([] : List Addr) from hb) (by simp), hok, .of_eq hg⟩
    refine codeAny_mono ((F _ hKb (under hns)).goes callerA [] s₁ H [.ref a] [.ref a] _ hr rfl e0 (hbind s₁ (.ref a)) (.cons rfl .nil) (hsp H hO hS)) fun r s' h => ?_
    cases r with
    | error e => exact False.elim h
    | ok fl =>
      cases fl with
      | next => exact False.elim h
      | brk => exact False.elim h
      | cont => exact False.elim h
      | ret u =>
        obtain ⟨v, H', os, bare, un, hok', r', q⟩ := h
        obtain rfl : v = .bl true := q
        obtain rfl : u = Value.bool true := r'
        refine ⟨rfl, OldK.of_keep fun b o e => ?_, os, bare⟩
        cases q : H b with
        | none => exact un.keep b o e q (by intro z; exact absurd (show b ∈ ([] : List Addr) from z) (by simp)) (by simp)
        | some u =>
          rcases hO b with z | ⟨ob, xs, z⟩
          · rw [q] at z
            cases z
          · obtain ⟨e1, _⟩ := hok b _ z
            obtain ⟨e2, _⟩ := hok' b _ (un.frzs b ob _ z)
            rw [e] at e1
            cases e1
            exact e2
  cases hk : K.lookup a with
  | some o =>
    have e := KX a o hk
    rw [ha] at e
    cases e
    exact core (fun _ => none) (fun _ => .inl rfl) (.inr ⟨_, vs.toArray, _, hk, rfl, rfl, rfl, by rw [List.size_toArray, fsz]; exact hl, by simpa using rv⟩) (fun b u z => nomatch z) fun b u z => nomatch z
  | none =>
    refine core (fun b => if b = a then some (.frz { cls := .type "list", data := .seq vs.toArray } (.lst (ns.map V.int))) else none) (fun b => ?_) (.inl (.inr ⟨{ cls := .type "list", data := .seq vs.toArray }, if_pos rfl⟩)) (fun b u z => ?_) fun b u z => ?_
    · by_cases hb : b = a
      · exact .inr ⟨_, _, if_pos hb⟩
      · exact .inl (if_neg hb)
    · by_cases hb : b = a
      · have z' := (if_pos hb).symm.trans z
        cases z'
        subst hb
        exact ⟨ha, by rw [List.length_map]; exact hl, vs, _, rv, ha⟩
      · have z' := (if_neg hb).symm.trans z
        cases z'
    · by_cases hb : b = a
      · exact ⟨hb, hk⟩
      · have z' := (if_neg hb).symm.trans z
        cases z'
theorem walk_G {l : PySem.W.OpenLaw} {n k : Nat} {q : Program} {loose : List Str} {XP : (Str → Option Value) → Heap → Prop} {YP : World → Heap → Prop} {d : DefRec} {K : Params → PySem.W.Frag} {sp : World → Sp} {x : Str}
    (hn : l.most = some n) (hn2 : n ≤ sizeLine) (hdf : d.params.defaults = []) (hr : Room k callerA) (hY : ∀ (w : World) (h : Heap), YP w h → (K w.params).In h)
    (F : ∀ (w : World) (mg : Str → Option Value) (fa : Addr) (h : Heap), (K w.params).In h → h.Ns mainGlobals mg → mg d.name = some (.ref fa) →
      ∃ fd : FuncData, (∀ (s : Shared) (u : Value), BindsTo s fd ⟨[u], []⟩ [(x, u)]) ∧ ∀ base : Heap, (K w.params).In base → base.Ns mainGlobals mg → FnG l.prog w (K w.params) mg base k fa fd [x] (sp w))
    (hsp : ∀ (w : World) (H : Hp) (a : Addr) (ns : List Int), ns.length ≤ n → Only H → SqL (K w.params) H a (ns.map V.int) → sp w [.ref a] H (fun v _ => v = .bl true) E0) :
    PySem.W.WalkO q loose XP YP l.row.toRowW d [] (fun f vs => PySem.call f vs) := by
  refine Att.attach_call hn hdf fun w s₀ s₁ mg mb fa o pm cd doc a vs ns G Y ho hd hcd hmg hobj hints hlen hg => ?_
  obtain ⟨fd, hb, hF⟩ := F w mg fa _ (hY w _ Y) G.T.g hmg
  exact law_callG (hY w _ Y) G.T.g G.T.b G.T.builtins G.T.nolimit hg hobj hints (Nat.le_trans hlen hn2) hr hF hb fun H hO hS => hsp w H a ns hlen hO hS

/-! ### repr of data -/
/-- a scalar as data -/
def datV : V → PyData
  | .bl b => .bool b
  | .int i => .int i
  | .str x => .str x
  | _ => .none
def scaV : V → Bool
  | .non | .bl _ | .int _ | .str _ => true
  | _ => false
theorem reads_sca {h : Heap} {v : V} {u : Value} (f : scaV v = true) (r : RelV v u) : Reads h u (datV v) [] := by
  cases v with
  | non => cases (show u = Value.none from r); exact .none
  | bl b => cases (show u = Value.bool b from r); exact .bool b
  | int i => obtain ⟨t, rfl⟩ := (show ∃ t, u = Value.int i t from r); exact .int i t
  | str x => obtain ⟨t, rfl⟩ := (show ∃ t, u = Value.str x t from r); exact .str x t
  | _ => cases f
theorem readsAll_sca {h : Heap} : ∀ {vs : List V} {us : List Value}, (∀ v ∈ vs, scaV v = true) → Vals vs us → ReadsAll h us (vs.map datV) []
  | _, _, _, .nil => .nil
  | _, _, f, .cons r t => .cons (as := []) (bs := []) (reads_sca (f _ List.mem_cons_self) r) (readsAll_sca (fun v hv => f v (List.mem_cons_of_mem _ hv)) t)
theorem pairs_vals {P : Program} {w : World} : ∀ {es : List DictEntry} {vs : List (Key × Value)} {kvs : List (Key × V)}, Pairs (mixKind P w) es vs → KV kvs vs → Vals (kvs.map fun p => kV p.1) (es.map (·.key)) ∧ Vals (kvs.map (·.2)) (es.map (·.val))
  | _, _, _, .nil, h => by
    unfold KV at h
    cases h
    exact ⟨.nil, .nil⟩
  | _, _, _, .cons h1 h2 hr, h => by
    unfold KV at h
    cases h with
    | @cons p q ps qs hp ht =>
      obtain ⟨k1, k2⟩ := pairs_vals hr ht
      obtain ⟨e1, e2⟩ := hp
      refine ⟨.cons ?_ k1, .cons ?_ k2⟩
      · have h1' := h1
        rw [mixKind_is, ← e1] at h1'
        rcases keyIs_shape h1' with ⟨i, t, ek, ev⟩ | ⟨x, t, ek, ev⟩
        · show RelV (kV p.1) _
          rw [ek]
          exact ⟨t, ev⟩
        · show RelV (kV p.1) _
          rw [ek]
          exact ⟨t, ev⟩
      · show RelV p.2 (DictEntry.val _)
        rw [h2]
        exact e2
/-- a dict of scalars as data -/
def datD (kvs : List (Key × V)) : PyData := .dict (kvs.map fun p => (datV (kV p.1), datV p.2))
theorem reads_dict {P : Program} {w : World} {H : Hp} {h : Heap} {a : Addr} {kvs : List (Key × V)} (ok : HOk P w H h) (e : H a = some (.dK kvs)) (f : ∀ p ∈ kvs, scaV p.2 = true) : Reads h (.ref a) (datD kvs) [a] ∧ sysModules ∉ [a] := by
  obtain ⟨_, ns, vs, hkv, o, es, ep, ho, ex, hd, _, hp, _⟩ := ok a _ e
  obtain ⟨k1, k2⟩ := pairs_vals hp hkv
  refine ⟨Reads.dict (as := []) (bs := []) ho ex.1 hd ?_ ?_, fun m => ?_⟩
  · have z := readsAll_sca (h := h) (fun v hv => by
      obtain ⟨p, _, rfl⟩ := List.mem_map.mp hv
      obtain ⟨k, x⟩ := p
      cases k <;> rfl) k1
    rw [List.map_map] at z
    rw [List.map_map]
    exact z
  · have z := readsAll_sca (h := h) (fun v hv => by
      obtain ⟨p, hp, rfl⟩ := List.mem_map.mp hv
      exact f p hp) k2
    rw [List.map_map] at z
    rw [List.map_map]
    exact z
  · have z := List.mem_singleton.mp m
    rw [← z] at ns
    exact absurd ns (by decide)
/-- repr(x): x a scalar, or data in the heap -/
def rRepr (K : PySem.W.Frag) : List V → Hp → VK → Prop := fun xs H Q => ∃ (x : V) (d : PyData), xs = [x] ∧ (Dp K H x d ∨ ∃ a kvs, x = .ref a ∧ H a = some (.dK kvs) ∧ (∀ p ∈ kvs, scaV p.2 = true) ∧ d = datD kvs) ∧ d.showable = true ∧ d.depth ≤ 60 ∧ d.shown.length ≤ sizeLine ∧ Q (.str d.shown) H
theorem noDict_of_dp {K : PySem.W.Frag} {H : Hp} : ∀ (d : PyData) (v : V), Dp K H v d → d.hasDict = false := by
  intro d
  exact (PyData.rec (motive_1 := fun d => ∀ v, Dp K H v d → d.hasDict = false) (motive_2 := fun ds => ∀ vs, DpAll K H vs ds → PyData.hasDictAll ds = false) (motive_3 := fun _ => True) (motive_4 := fun _ => True)
    (fun v _ => by simp only [PyData.hasDict]) (fun b v _ => by simp only [PyData.hasDict]) (fun i v _ => by simp only [PyData.hasDict]) (fun x v _ => by simp only [PyData.hasDict])
    (fun xs ih v h => by cases h with | lst hs ha => simp only [PyData.hasDict]; exact ih _ ha)
    (fun xs ih v h => by cases h with | tup hs ha => simp only [PyData.hasDict]; exact ih _ ha)
    (fun kvs _ v h => by cases h)
    (fun vs h => by simp only [PyData.hasDictAll]) (fun d ds i1 i2 vs h => by cases h with | cons h1 h2 => simp only [PyData.hasDictAll, i1 _ h1, i2 _ h2, Bool.or_self])
    trivial (fun _ _ _ _ => trivial) (fun _ _ _ _ => trivial) d)
theorem call_repr {X : Cx} (hgd : X.A.guards = some []) (hu : X.A.units + 64 < cLine) : CallR X (.builtin "repr") (rRepr X.K) := by
  intro pins s σ H xs us Q I r h
  obtain ⟨x, d, rfl, hd, hsh, hdp, hsz, q⟩ := h
  obtain ⟨u, rfl, ru⟩ := vals1 r
  have key : ∃ as, Reads s.heap u d as ∧ (d.hasDict = true → sysModules ∉ as) := by
    rcases hd with hd | ⟨a, kvs, rfl, e, f, rfl⟩
    · obtain ⟨as, hr⟩ := Dp.reads I d x u hd ru
      exact ⟨as, hr, PyData.noDict_hsm (noDict_of_dp d x hd)⟩
    · obtain ⟨hr, hm⟩ := reads_dict I.hok e f
      cases (show u = Value.ref a from ru)
      exact ⟨_, hr, fun _ => hm⟩
  obtain ⟨as, hr, hm⟩ := key
  cases hr with
  | none =>
    simp only [PyData.shown] at q
    exact PySem.P.repr_of_none ⟨.str _, H, I.tok _, ⟨_, rfl⟩, q⟩
  | bool b =>
    simp only [PyData.shown] at q
    exact PySem.P.repr_of_bool ⟨.str _, H, I.tok _, ⟨_, rfl⟩, q⟩
  | int i t =>
    simp only [PyData.shown] at q
    exact PySem.P.repr_of_int (by simpa [PyData.showable] using hsh) ⟨.str _, H, I.tok _, ⟨_, rfl⟩, q⟩
  | str y t =>
    simp only [PyData.shown] at q hsz
    exact PySem.P.repr_of_str ⟨.str _, H, I.tok _, ⟨_, rfl⟩, q⟩ hsz
  | list h1 h2 h3 h4 => exact repr_of_reads' (Reads.list h1 h2 h3 h4) hsh hm hgd (by omega) (fun _ _ e => e) (fun h' u tk hk => ⟨.str _, H, I.kept (t' := tk) hk, ⟨u, rfl⟩, q⟩) hsz
  | tuple h1 h2 h3 h4 => exact repr_of_reads' (Reads.tuple h1 h2 h3 h4) hsh hm hgd (by omega) (fun _ _ e => e) (fun h' u tk hk => ⟨.str _, H, I.kept (t' := tk) hk, ⟨u, rfl⟩, q⟩) hsz
  | dict h1 h2 h3 h4 h5 => exact repr_of_reads' (Reads.dict h1 h2 h3 h4 h5) hsh hm hgd (by omega) (fun _ _ e => e) (fun h' u tk hk => ⟨.str _, H, I.kept (t' := tk) hk, ⟨u, rfl⟩, q⟩) hsz
end L2
namespace Ld
open PySem PySem.Spec PyProof.Rows L2
def top (i : Nat) : Stmt := PySem.Challenge.pw_crateround_k04_whole_order_of_loads.main.body.getD i (.Pass ⟨0, 0, 0, 0⟩)
abbrev sPen : Stmt := top 21
abbrev sDraw : Stmt := top 22
abbrev sPick : Stmt := top 23
abbrev sWords : Stmt := top 24
abbrev sGreat : Stmt := top 25
abbrev sTimes : Stmt := top 26
abbrev sWhole : Stmt := top 27
theorem seq_step {t u : TS} {D : Ends} {σ : L2.St} {H : Hp} (Rp : L2.St → Hp → Prop) (h1 : ∀ R : L2.St → Hp → Prop, (∀ σ' H', Rp σ' H' → R σ' H') → t { D with nx := R } σ H) (h2 : ∀ σ' H', Rp σ' H' → u D σ' H') : tSeq t u D σ H := h1 (u D) h2
/-! ### the pen: the script's cells, how many were begun, what is left of a great one -/
structure PenAt (H : Hp) (p c : Addr) (ns : List Int) (u r : Int) : Prop where
  ob : ∃ kvs : List (Key × V), H p = some (.dK kvs) ∧ kvs.length ≤ 10 ∧ valV kvs (Sum.inr ("cells" : Str) : Key) = some (.ref c) ∧ valV kvs (Sum.inr ("begun" : Str) : Key) = some (.int u) ∧ valV kvs (Sum.inr ("left" : Str) : Key) = some (.int r)
  cl : H c = some (.lst (ns.map V.int))
  few : ns.length ≤ 63
  u0 : 0 ≤ u
  r0 : 0 ≤ r
theorem PenAt.ne {H : Hp} {p c : Addr} {ns : List Int} {u r : Int} (P : PenAt H p c ns u r) : c ≠ p := by
  obtain ⟨kvs, h, _⟩ := P.ob
  exact ne_of P.cl h (fun z => nomatch z)
theorem PenAt.same {H H' : Hp} {p c : Addr} {ns : List Int} {u r : Int} (P : PenAt H p c ns u r) (s : Same H H') : PenAt H' p c ns u r := by
  obtain ⟨kvs, h, k⟩ := P.ob
  exact ⟨⟨kvs, s _ _ h, k⟩, s _ _ P.cl, P.few, P.u0, P.r0⟩
/-- all but the pen stands -/
def SameP (p : Addr) (H H' : Hp) : Prop := ∀ b o, H b = some o → b ≠ p → H' b = some o
theorem SameP.trans {p : Addr} {H H1 H2 : Hp} (a : SameP p H H1) (b : SameP p H1 H2) : SameP p H H2 := fun x o h n => b x o (a x o h n) n
theorem SameP.of {p : Addr} {H H' : Hp} (s : Same H H') : SameP p H H' := fun b o h _ => s b o h
theorem putK_len {kvs : List (Key × V)} {k : Key} {v x : V} (h : valV kvs k = some x) : (putK kvs k v).length = kvs.length := by
  unfold putK
  rw [if_pos (by rw [valV_any, h]; rfl), List.length_map]
theorem kCU : ¬ (Sum.inr ("cells" : Str) : Key) = Sum.inr ("begun" : Str) := by decide +kernel
theorem kCR : ¬ (Sum.inr ("cells" : Str) : Key) = Sum.inr ("left" : Str) := by decide +kernel
theorem kUR : ¬ (Sum.inr ("begun" : Str) : Key) = Sum.inr ("left" : Str) := by decide +kernel
theorem kRU : ¬ (Sum.inr ("left" : Str) : Key) = Sum.inr ("begun" : Str) := by decide +kernel
theorem PenAt.setRest {H : Hp} {p c : Addr} {ns : List Int} {u r r' : Int} {kvs : List (Key × V)} (P : PenAt H p c ns u r) (h : H p = some (.dK kvs)) (hl : kvs.length ≤ 10)
    (v1 : valV kvs (Sum.inr ("cells" : Str) : Key) = some (.ref c)) (v2 : valV kvs (Sum.inr ("begun" : Str) : Key) = some (.int u)) (v3 : valV kvs (Sum.inr ("left" : Str) : Key) = some (.int r)) (h0 : 0 ≤ r') :
    PenAt (upd H p (.dK (putK kvs (Sum.inr ("left" : Str)) (.int r')))) p c ns u r' :=
  ⟨⟨_, upd_same, by rw [putK_len v3]; exact hl, by rw [valV_put, if_neg kCR]; exact v1, by rw [valV_put, if_neg kUR]; exact v2, by rw [valV_put, if_pos rfl]⟩, by rw [upd_ne P.ne]; exact P.cl, P.few, P.u0, h0⟩
theorem PenAt.setUsed {H : Hp} {p c : Addr} {ns : List Int} {u r u' : Int} {kvs : List (Key × V)} (P : PenAt H p c ns u r) (h : H p = some (.dK kvs)) (hl : kvs.length ≤ 10)
    (v1 : valV kvs (Sum.inr ("cells" : Str) : Key) = some (.ref c)) (v2 : valV kvs (Sum.inr ("begun" : Str) : Key) = some (.int u)) (v3 : valV kvs (Sum.inr ("left" : Str) : Key) = some (.int r)) (h0 : 0 ≤ u') :
    PenAt (upd H p (.dK (putK kvs (Sum.inr ("begun" : Str)) (.int u')))) p c ns u' r :=
  ⟨⟨_, upd_same, by rw [putK_len v2]; exact hl, by rw [valV_put, if_neg kCU]; exact v1, by rw [valV_put, if_pos rfl], by rw [valV_put, if_neg kRU]; exact v3⟩, by rw [upd_ne P.ne]; exact P.cl, P.few, h0, P.r0⟩
/-! ### lists of ints as data -/
theorem dp_ints {K : PySem.W.Frag} {H : Hp} : ∀ ns : List Int, DpAll K H (ns.map V.int) (ns.map PyData.int)
  | [] => .nil
  | n :: r => .cons (.int n) (dp_ints r)
theorem lay_ints : ∀ ns : List Int, PyData.canLayAll0 (ns.map PyData.int) = true
  | [] => by simp [PyData.canLayAll0]
  | n :: r => by simp [PyData.canLayAll0, PyData.canLay0, lay_ints r]
theorem dep_ints : ∀ ns : List Int, PyData.depthAll (ns.map PyData.int) = 0
  | [] => by simp [PyData.depthAll]
  | n :: r => by simp [PyData.depthAll, PyData.depth, dep_ints r]
theorem shaped_ints (ns : List Int) : SeqAt.shaped (.list (ns.map PyData.int)) = true := by
  unfold SeqAt.shaped
  rw [Bool.and_eq_true]
  refine ⟨?_, decide_eq_true ?_⟩
  · simp only [PyData.canLay0]
    exact lay_ints ns
  · simp only [PyData.depth, dep_ints]
    omega
theorem eqv_nil (ns : List Int) : PyData.eqv (.list (ns.map PyData.int)) (.list []) = ns.isEmpty := by
  cases ns with
  | nil => simp [PyData.eqv, PyData.eqvAll]
  | cons n r => simp [PyData.eqv, PyData.eqvAll]
theorem bInt : bootBuiltins "int" = some (.type "int") := by decide +kernel
theorem bAbs : bootBuiltins "abs" = some (.builtin "abs") := by decide +kernel
theorem bList : bootBuiltins "list" = some (.type "list") := by decide +kernel
theorem same_new {H : Hp} {p : Addr} {o : HO} (h : H p = none) : Same H (upd H p o) := fun b u e => by rw [upd_ne (ne_of_none e h)]; exact e
theorem new_at {H : Hp} {p : Addr} {o : HO} (h : H p = none) : ∃ H', upd H p o = H' ∧ Same H H' ∧ H' p = some o := ⟨_, rfl, same_new h, upd_same⟩
theorem new_dict {H : Hp} {p : Addr} {o u : HO} (h : H p = none) : ∃ H', upd (upd H p u) p o = H' ∧ Same H H' ∧ H' p = some o := ⟨_, rfl, by rw [upd_upd]; exact same_new h, upd_same⟩
theorem Same.tup {K : PySem.W.Frag} {H H' : Hp} {a : Addr} {xs : List V} (e : Same H H') (h : SqT K H a xs) : SqT K H' a xs := by
  rcases h with (h | ⟨o, h⟩) | h
  · exact .inl (.inl (e _ _ h))
  · exact .inl (.inr ⟨o, e _ _ h⟩)
  · exact .inr h
theorem dp_same {K : PySem.W.Frag} {H H' : Hp} (s : Same H H') : ∀ (d : PyData) (v : V), Dp K H v d → Dp K H' v d := fun d =>
  PyData.rec (motive_1 := fun d => ∀ v, Dp K H v d → Dp K H' v d) (motive_2 := fun ds => ∀ vs, DpAll K H vs ds → DpAll K H' vs ds) (motive_3 := fun _ => True) (motive_4 := fun _ => True)
    (fun v h => by cases h; exact .non) (fun b v h => by cases h; exact .bl b) (fun i v h => by cases h; exact .int i) (fun x v h => by cases h; exact .str x)
    (fun xs ih v h => by cases h with | lst hs ha => exact .lst (s.seq hs) (ih _ ha))
    (fun xs ih v h => by cases h with | tup hs ha => exact .tup (Same.tup s hs) (ih _ ha))
    (fun kvs _ v h => by cases h)
    (fun vs h => by cases h; exact .nil) (fun d ds i1 i2 vs h => by cases h with | cons h1 h2 => exact .cons (i1 _ h1) (i2 _ h2))
    trivial (fun _ _ _ _ => trivial) (fun _ _ _ _ => trivial) d

/-- names of the module that are the built-ins' own -/
structure Blt (mg : Str → Option Value) : Prop where
  int : mg "int" = none
  abs : mg "abs" = none
  list : mg "list" = none
  len : mg "len" = none
  range : mg "range" = none
theorem dget_s {H : Hp} {a : Addr} {kvs : List (Key × V)} {x : Str} {v : V} (e : H a = some (.dK kvs)) (h : valV kvs (Sum.inr x : Key) = some v) : DGet H a (.str x) (some v) := by
  have z := DGet.k (k := (Sum.inr x : Key)) e
  rw [h] at z
  exact z
theorem dput_s {H : Hp} {a : Addr} {kvs : List (Key × V)} {x : Str} {v : V} (e : H a = some (.dK kvs)) (hl : kvs.length ≤ 10) : DPut H a (.str x) v (upd H a (.dK (putK kvs (Sum.inr x : Key) v))) :=
  DPut.k (k := (Sum.inr x : Key)) e (Nat.lt_of_le_of_lt hl (by decide))
theorem ifd {c : Prop} [Decidable c] {A B : Prop} (h1 : c → A) (h2 : ¬ c → B) : if decide c = true then A else B := by
  by_cases h : c
  · rw [if_pos (decide_eq_true h)]
    exact h1 h
  · rw [if_neg (by rw [decide_eq_false h]; exact Bool.false_ne_true)]
    exact h2 h
theorem ifb {b : Bool} {A B : Prop} (h1 : b = true → A) (h2 : b = false → B) : if b = true then A else B := by
  cases b with
  | true => exact (if_pos rfl : (if true = true then A else B) = A) ▸ h1 rfl
  | false => exact (if_neg Bool.false_ne_true : (if false = true then A else B) = B) ▸ h2 rfl
theorem atI_in {xs : List V} {i : Int} {n : Int} (hn : n = (xs.length : Int)) (h0 : 0 ≤ i) (h1 : i < n) : ∃ v, atI xs i = some v ∧ v ∈ xs := by
  have hl : i.toNat < xs.length := by omega
  refine ⟨xs[i.toNat], ?_, List.getElem_mem hl⟩
  have e : i = ((i.toNat : Nat) : Int) := by omega
  have z : atI xs ((i.toNat : Nat) : Int) = some xs[i.toNat] := atI_nat (by simp [List.getElem?_eq_getElem hl])
  rwa [← e] at z
theorem em {x n : Int} (h0 : 0 < n) (h1 : n ≤ 18446744073709551616) : -(2 ^ 64) < x % n ∧ x % n < 2 ^ 64 := by
  have a := Int.emod_nonneg x (by omega : n ≠ 0)
  have b := Int.emod_lt_of_pos x h0
  omega
/-! ### the promises -/
def spDraw : Sp := fun vs H Q _ => ∃ (p c : Addr) (ns : List Int) (u r m : Int), vs = [.ref p, .int m] ∧ PenAt H p c ns u r ∧ u ≤ 1000000 ∧ 0 < m ∧ m ≤ 1000000 ∧
  ∀ (d u' r' : Int) (H' : Hp), 0 ≤ d → d < m → u' ≤ u + 1 → PenAt H' p c ns u' r' → SameP p H H' → Q (.int d) H'
local macro_rules | `(tactic| walk_at "pe") => `(tactic| first
  | exact pe_int
  | exact pe_bl
  | exact pe_non
  | exact pe_str
  | ((with_reducible show PE _ (Expr.Name _ _) _); first | exact pv 0 | exact pv 1 | exact pv 2 | exact pv 3 | exact pv 4 | exact pv 5 | exact pv 6 | exact pv 7 | exact pv 8 | exact pv 9 | exact pv 10 | exact pv 11)
  | ((with_reducible show PE _ (Expr.BinOp _ Operator.Add _ _) _); refine' pe_op op_add ?p1 ?p2; (case p1 => walk_at "pe"); (case p2 => walk_at "pe"))
  | ((with_reducible show PE _ (Expr.BinOp _ Operator.Sub _ _) _); refine' pe_op op_sub ?p1 ?p2; (case p1 => walk_at "pe"); (case p2 => walk_at "pe"))
  | ((with_reducible show PE _ (Expr.BinOp _ Operator.Mult _ _) _); refine' pe_op op_mul ?p1 ?p2; (case p1 => walk_at "pe"); (case p2 => walk_at "pe"))
  | ((with_reducible show PE _ (Expr.BinOp _ Operator.Mod _ _) _); refine' pe_op op_mod ?p1 ?p2; (case p1 => walk_at "pe"); (case p2 => walk_at "pe"))
  | ((with_reducible show PE _ (Expr.BinOp _ Operator.FloorDiv _ _) _); refine' pe_op op_fdiv ?p1 ?p2; (case p1 => walk_at "pe"); (case p2 => walk_at "pe"))
  | ((with_reducible show PE _ (Expr.BinOp _ Operator.Pow _ _) _); refine' pe_op op_pow ?p1 ?p2; (case p1 => walk_at "pe"); (case p2 => walk_at "pe"))
  | ((with_reducible show PE _ (Expr.UnaryOp UnaryOp.USub _ _) _); refine' pe_un un_neg ?p1; (case p1 => walk_at "pe"))
  | ((with_reducible show PE _ (Expr.Subscript _ (Expr.Constant (Const.str _) _ _) _) _); refine' pe_dget (by assumption) ?p1 pe_str (fun _ _ => rfl); (case p1 => walk_at "pe"))
  | ((with_reducible show PE _ (Expr.Subscript _ _ _) _); refine' pe_ix ix_list ?p1 ?p2 (fun _ _ => rfl); (case p1 => walk_at "pe"); (case p2 => walk_at "pe"))
  | ((with_reducible show PE _ (Expr.Call (Expr.Name "int" _) _ _ _) _); refine' pe_callTy call_int1 (by rfl) (by assumption) bInt (pa_cons ?p1 pa_nil); (case p1 => walk_at "pe"))
  | ((with_reducible show PE _ (Expr.Call (Expr.Name "abs" _) _ _ _) _); refine' pe_callB call_abs (by rfl) (by assumption) bAbs (pa_cons ?p1 pa_nil); (case p1 => walk_at "pe"))
  | ((with_reducible show PE _ (Expr.Call (Expr.Name "len" _) _ _ _) _); refine' pe_callB call_len_seq (by rfl) (by assumption) PySem.boot_len (pa_cons ?p1 pa_nil); (case p1 => walk_at "pe"))
  | ((with_reducible show PE _ (Expr.List _ _) _); refine' pe_lst ?p1; (case p1 => walk_at "pa"))
  | ((with_reducible show PE _ (Expr.Tuple _ _ _) _); refine' pe_tup ?p1; (case p1 => walk_at "pa")))
local macro_rules | `(tactic| walk_at "pa") => `(tactic| first | exact pa_nil | (refine' pa_cons ?p1 ?p2; (case p1 => walk_at "pe"); (case p2 => walk_at "pa")))
local macro_rules | `(tactic| walk_at "pt") => `(tactic| first
  | ((with_reducible show PT _ (Expr.Compare _ [CmpOp.Gt] [_] _) _); refine' pt_cmpR op_gt ?p1 ?p2 (nomark _); (case p1 => walk_at "pe"); (case p2 => walk_at "pe"))
  | ((with_reducible show PT _ (Expr.Compare _ [CmpOp.GtE] [_] _) _); refine' pt_cmpR op_ge ?p1 ?p2 (nomark _); (case p1 => walk_at "pe"); (case p2 => walk_at "pe"))
  | ((with_reducible show PT _ (Expr.Compare _ [CmpOp.Lt] [_] _) _); refine' pt_cmpR op_lt ?p1 ?p2 (nomark _); (case p1 => walk_at "pe"); (case p2 => walk_at "pe"))
  | ((with_reducible show PT _ (Expr.Compare _ [CmpOp.LtE] [_] _) _); refine' pt_cmpR op_le ?p1 ?p2 (nomark _); (case p1 => walk_at "pe"); (case p2 => walk_at "pe"))
  | ((with_reducible show PT _ (Expr.Compare _ [CmpOp.NotEq] [Expr.List [] _] _) _); refine' pt_cmpR (op_neD (by assumption)) ?p1 (pe_lst pa_nil) (nomark _); (case p1 => walk_at "pe"))
  | ((with_reducible show PT _ (Expr.BoolOp BoolOp.And [_, _] _) _); refine' PW.pt (pw_and ?p1 (pw_and1 ?p2)); (case p1 => walk_at "pt"); (case p2 => walk_at "pt")))
local macro_rules | `(tactic| walk_at "st") => `(tactic| first
  | ((with_reducible show PS _ (Stmt.Return (some _) _) _); refine' ps_ret ?p1; (case p1 => walk_at "pe"))
  | ((with_reducible show PS _ (Stmt.Assign [Expr.Subscript _ _ _] _ _) _); refine' ps_dput (by assumption) ?p1 ?p2 ?p3 rfl; (case p1 => walk_at "pe"); (case p2 => walk_at "pe"); (case p3 => walk_at "pe"))
  | ((with_reducible show PS _ (Stmt.Assign [Expr.Name _ _] _ _) _); (first | refine' ps_set (i := 1) (by assumption) rfl (Or.inl rfl) ?p1 | refine' ps_set (i := 2) (by assumption) rfl (Or.inl rfl) ?p1 | refine' ps_set (i := 3) (by assumption) rfl (Or.inl rfl) ?p1 | refine' ps_set (i := 4) (by assumption) rfl (Or.inl rfl) ?p1 | refine' ps_set (i := 5) (by assumption) rfl (Or.inl rfl) ?p1 | refine' ps_set (i := 6) (by assumption) rfl (Or.inl rfl) ?p1 | refine' ps_set (i := 7) (by assumption) rfl (Or.inl rfl) ?p1 | refine' ps_set (i := 8) (by assumption) rfl (Or.inl rfl) ?p1 | refine' ps_set (i := 9) (by assumption) rfl (Or.inl rfl) ?p1 | refine' ps_set (i := 10) (by assumption) rfl (Or.inl rfl) ?p1 | refine' ps_set (i := 11) (by assumption) rfl (Or.inl rfl) ?p1); (case p1 => walk_at "pe"))
  | ((with_reducible show PS _ (Stmt.If _ _ _ _) _); refine' ps_if ?p1 ?p2 ?p3; (case p1 => walk_at "pt"); (case p2 => walk_at "ps"); (case p3 => walk_at "ps")))
local macro_rules | `(tactic| walk_at "ps") => `(tactic| first
  | exact pss_nil | (refine' pss_one ?p1; (case p1 => walk_at "st")) | (refine' pss_cons ?p1 ?p2; (case p1 => walk_at "st"); (case p2 => walk_at "ps")))

section
variable {P : Program} {w : World} {K : PySem.W.Frag} {mg : Str → Option Value} {base : Heap}
abbrev nDraw : List Str := ["_law_pen_here", "_law_many", "_law_digit", "_law_place", "_law_size", "_law_told", "_law_blend"]
theorem scDraw : FnScope nDraw ["_law_pen_here", "_law_many"] (defScope sDraw) := ⟨rfl, rfl, rfl, by decide +kernel, rfl, by decide +kernel, by decide +kernel⟩
theorem ok_draw {f : Addr} {fd : FuncData} (F : Fun K "_law_draw" "_law_draw" sDraw f fd) (B : Blt mg) : FnOk P w K mg base CX0 1 f fd ["_law_pen_here", "_law_many"] spDraw := by
  refine F.ok scDraw (fun vs H Q E h => ?_) (fun cdv A outer s H vs Q E hr h => ?_)
  · obtain ⟨p, c, ns, u, r, m, rfl, _⟩ := h
    rfl
  · obtain ⟨p, c, ns, u, r, m, rfl, PA, hu6, hm0, hm1, k⟩ := h
    have hu := hu_of hr
    have hu64 := hr.units
    have m1 := B.int
    have m2 := B.abs
    have m3 := B.len
    have nd : nDraw.Nodup := scDraw.nd
    refine ⟨_, pss_cons (ps_if (by walk_at "pt") (by walk_at "ps") pss_nil)
      (pss_cons (ps_par (i := 3) (j := 4) rfl nd rfl rfl (by decide) rfl rfl (pa_cons (by walk_at "pe") (pa_cons (by walk_at "pe") pa_nil)) (by rfl))
      (pss_cons (ps_dput hu (by walk_at "pe") (by walk_at "pe") (by walk_at "pe") rfl)
      (pss_cons (ps_set (i := 5) nd rfl (Or.inl rfl) (pe_ifExp (by walk_at "pt") (by walk_at "pe") (by walk_at "pe")))
      (by walk_at "ps")))), ?_⟩
    obtain ⟨kvs, hp, hl, v1, v2, v3⟩ := PA.ob
    have hc := PA.cl
    have u0 := PA.u0
    refine seq_step (fun σ' H' => σ' = [some (.ref p), some (.int m), none, none, none, none, none] ∧ H' = H) (fun R hR => ?_) (fun σ1 H1 h1 => ?_)
    · -- if pen['left'] > 0
      refine ⟨_, rfl, _, _, rfl, dget_s hp v3, _, _, rfl, rfl, _, rfl, ifd (fun c0 => ?_) (fun c0 => hR _ _ ⟨rfl, rfl⟩)⟩
      refine ⟨_, rfl, _, _, rfl, dget_s hp v3, .inl ⟨_, rfl, ?_⟩⟩
      refine ⟨_, rfl, _, _, rfl, rfl, hm0, ?_⟩
      refine ⟨_, rfl, _, _, rfl, dget_s hp v3, _, rfl, _, _, rfl, rfl, ⟨hm0, by omega⟩, ?_⟩
      refine ⟨_, rfl, _, _, rfl, dput_s hp hl, ?_⟩
      refine ⟨_, rfl, ?_⟩
      exact k _ _ _ _ (Int.emod_nonneg _ (by omega)) (Int.emod_lt_of_pos _ hm0) (by omega) (PA.setRest hp hl v1 v2 v3 (Int.ediv_nonneg PA.r0 (by omega))) fun b o e hb => by rw [upd_ne hb]; exact e
    obtain ⟨rfl, rfl⟩ := h1
    have hlen : (ns.map V.int).length = ns.length := List.length_map ..
    -- place, size = pen['begun'], len(pen['cells']); pen['begun'] = place + 1
    refine seq_step (fun σ' H' => σ' = [some (.ref p), some (.int m), none, some (.int u), some (.int ((ns.map V.int).length : Nat)), none, none] ∧ H' = H1) (fun R hR => ?_) (fun σ2 H2 h2 => ?_)
    · exact ⟨_, rfl, _, _, rfl, dget_s hp v2, _, rfl, _, _, rfl, dget_s hp v1, _, _, rfl, .inl (.inl (.inl hc)), _, _, rfl, hR _ _ ⟨rfl, rfl⟩⟩
    obtain ⟨rfl, rfl⟩ := h2
    refine seq_step (fun σ' H' => σ' = [some (.ref p), some (.int m), none, some (.int u), some (.int ((ns.map V.int).length : Nat)), none, none] ∧ PenAt H' p c ns (u + 1) r ∧ SameP p H2 H') (fun R hR => ?_) (fun σ3 H3 h3 => ?_)
    · refine ⟨_, rfl, _, _, rfl, rfl, _, rfl, _, _, rfl, dput_s hp hl, ?_⟩
      exact hR _ _ ⟨rfl, PA.setUsed (u' := u + 1) hp hl v1 v2 v3 (by omega), fun b o e hb => by rw [upd_ne hb]; exact e⟩
    obtain ⟨rfl, PA1, keep⟩ := h3
    clear hp hl v1 v2 v3 hc kvs
    obtain ⟨kvs, hp, hl, v1, v2, v3⟩ := PA1.ob
    have hc := PA1.cl
    -- told = ..
    refine seq_step (fun σ' H' => ∃ z : Int, σ' = [some (.ref p), some (.int m), none, some (.int u), some (.int ((ns.map V.int).length : Nat)), some (.int z), none] ∧ H' = H3) (fun R hR => ?_) (fun σ4 H4 h4 => ?_)
    · refine ⟨_, rfl, _, _, rfl, rfl, _, rfl, ifd (fun c1 => ?_) (fun c1 => ?_)⟩
      · refine ⟨_, rfl, _, _, rfl, dget_s hp v1, _, rfl, .inl ⟨_, rfl, _, rfl, _, _, rfl, rfl, c1, ?_⟩⟩
        obtain ⟨v, hv, hm⟩ := atI_in (xs := ns.map V.int) (i := u % ((ns.map V.int).length : Int)) rfl (Int.emod_nonneg _ (by omega)) (Int.emod_lt_of_pos _ c1)
        obtain ⟨z, _, rfl⟩ := List.mem_map.mp hm
        exact ⟨_, _, _, _, rfl, rfl, .inl (.inl hc), hv, hR _ _ ⟨z, rfl, rfl⟩⟩
      · exact ⟨_, rfl, _, _, rfl, rfl, .inl ⟨by decide, by decide⟩, _, _, rfl, rfl, hR _ _ ⟨_, rfl, rfl⟩⟩
    obtain ⟨z, rfl, rfl⟩ := h4
    -- place < size and abs(told) >= 10 ** 18
    refine seq_step (fun σ' H' => σ' = [some (.ref p), some (.int m), none, some (.int u), some (.int ((ns.map V.int).length : Nat)), some (.int z), none] ∧ H' = H4) (fun R hR => ?_) (fun σ5 H5 h5 => ?_)
    · refine ⟨_, rfl, _, rfl, _, _, rfl, rfl, _, rfl, ifd (fun cl => ?_) (fun ncl => ?_)⟩
      · refine ⟨_, rfl, _, rfl, _, _, rfl, rfl, ⟨by decide, by decide, by decide⟩, _, _, rfl, rfl, _, rfl, ifd (fun big => ?_) (fun nbig => hR _ _ ⟨rfl, rfl⟩)⟩
        refine ⟨_, rfl, _, rfl, _, _, rfl, rfl, ⟨by decide, by decide, by decide⟩, _, _, rfl, rfl, _, rfl, _, _, rfl, rfl, ⟨hm0, by omega⟩, ?_⟩
        refine ⟨_, rfl, _, _, rfl, dput_s hp hl, ?_⟩
        refine ⟨_, rfl, _, rfl, _, _, rfl, rfl, ⟨by decide, by decide, by decide⟩, _, _, rfl, rfl, .inl ⟨_, rfl, ?_⟩⟩
        refine ⟨_, rfl, _, _, rfl, rfl, hm0, ?_⟩
        exact k _ _ _ _ (Int.emod_nonneg _ (by omega)) (Int.emod_lt_of_pos _ hm0) (by omega) (PA1.setRest hp hl v1 v2 v3 (Int.ediv_nonneg (by omega) (by omega))) fun b o e hb => by rw [upd_ne hb]; exact keep b o e hb
      · exact iteF (hR _ _ ⟨rfl, rfl⟩)
    obtain ⟨rfl, rfl⟩ := h5
    -- the mixings
    refine seq_step (fun σ' H' => ∃ b : Int, σ' = [some (.ref p), some (.int m), none, some (.int u), some (.int ((ns.map V.int).length : Nat)), some (.int z), some (.int (b % 4294967279))] ∧ H' = H5) (fun R hR => ?_) (fun σ6 H6 h6 => ?_)
    · refine ⟨_, rfl, .inl ⟨_, rfl, _, _, rfl, rfl, (by decide : (0 : Int) < 4294967231), _, _, rfl, rfl, .inr ⟨by decide, by decide⟩, ?_⟩⟩
      exact ⟨_, rfl, _, _, rfl, rfl, .inl ⟨by decide, by decide⟩, _, rfl, _, _, rfl, rfl, .inr ⟨by omega, by omega⟩, _, _, rfl, rfl, _, _, rfl, rfl, .inl ⟨_, rfl, _, _, rfl, rfl, (by decide : (0 : Int) < 4294967279), hR _ _ ⟨_, rfl, rfl⟩⟩⟩
    obtain ⟨b, rfl, rfl⟩ := h6
    refine seq_step (fun σ' H' => ∃ b : Int, σ' = [some (.ref p), some (.int m), none, some (.int u), some (.int ((ns.map V.int).length : Nat)), some (.int z), some (.int (b % 4294967291))] ∧ H' = H6) (fun R hR => ?_) (fun σ7 H7 h7 => ?_)
    · refine ⟨_, rfl, _, rfl, _, _, rfl, rfl, .inl (em (by decide) (by decide)), ?_⟩
      refine ⟨_, rfl, _, _, rfl, rfl, .inl ⟨by decide, by decide⟩, _, _, rfl, rfl, ?_⟩
      exact ⟨_, rfl, _, _, rfl, rfl, .inl ⟨by decide, by decide⟩, _, _, rfl, rfl, _, _, rfl, rfl, .inl ⟨_, rfl, _, _, rfl, rfl, (by decide : (0 : Int) < 4294967291), hR _ _ ⟨_, rfl, rfl⟩⟩⟩
    obtain ⟨b2, rfl, rfl⟩ := h7
    refine ⟨_, rfl, _, rfl, _, _, rfl, rfl, _, _, rfl, rfl, .inl (em (by decide) (by decide)), .inl ⟨_, rfl, ?_⟩⟩
    refine ⟨_, _, rfl, rfl, (by decide : (0 : Int) < 4294967197), _, _, rfl, rfl, ⟨by decide, by decide⟩, .inl ⟨_, rfl, ?_⟩⟩
    refine ⟨_, rfl, _, _, rfl, rfl, hm0, ?_⟩
    exact k _ _ _ _ (Int.emod_nonneg _ (by omega)) (Int.emod_lt_of_pos _ hm0) (by omega) PA1 keep
end
end Ld
namespace Ld
open PySem PySem.Spec PyProof.Rows L2
local macro_rules | `(tactic| walk_at "pe") => `(tactic| first
  | exact pe_int
  | exact pe_bl
  | exact pe_non
  | exact pe_str
  | ((with_reducible show PE _ (Expr.Name _ _) _); first | exact pv 0 | exact pv 1 | exact pv 2 | exact pv 3 | exact pv 4 | exact pv 5 | exact pv 6 | exact pv 7 | exact pv 8 | exact pv 9 | exact pv 10 | exact pv 11)
  | ((with_reducible show PE _ (Expr.BinOp _ Operator.Add _ _) _); refine' pe_op op_add ?p1 ?p2; (case p1 => walk_at "pe"); (case p2 => walk_at "pe"))
  | ((with_reducible show PE _ (Expr.BinOp _ Operator.Sub _ _) _); refine' pe_op op_sub ?p1 ?p2; (case p1 => walk_at "pe"); (case p2 => walk_at "pe"))
  | ((with_reducible show PE _ (Expr.BinOp _ Operator.Mult _ _) _); refine' pe_op op_mul ?p1 ?p2; (case p1 => walk_at "pe"); (case p2 => walk_at "pe"))
  | ((with_reducible show PE _ (Expr.BinOp _ Operator.Mod _ _) _); refine' pe_op op_mod ?p1 ?p2; (case p1 => walk_at "pe"); (case p2 => walk_at "pe"))
  | ((with_reducible show PE _ (Expr.BinOp _ Operator.FloorDiv _ _) _); refine' pe_op op_fdiv ?p1 ?p2; (case p1 => walk_at "pe"); (case p2 => walk_at "pe"))
  | ((with_reducible show PE _ (Expr.BinOp _ Operator.Pow _ _) _); refine' pe_op op_pow ?p1 ?p2; (case p1 => walk_at "pe"); (case p2 => walk_at "pe"))
  | ((with_reducible show PE _ (Expr.UnaryOp UnaryOp.USub _ _) _); refine' pe_un un_neg ?p1; (case p1 => walk_at "pe"))
  | ((with_reducible show PE _ (Expr.Subscript _ (Expr.Constant (Const.str _) _ _) _) _); refine' pe_dget (by assumption) ?p1 pe_str (fun _ _ => rfl); (case p1 => walk_at "pe"))
  | ((with_reducible show PE _ (Expr.Subscript _ _ _) _); refine' pe_ix ix_list ?p1 ?p2 (fun _ _ => rfl); (case p1 => walk_at "pe"); (case p2 => walk_at "pe"))
  | ((with_reducible show PE _ (Expr.Call (Expr.Name "int" _) _ _ _) _); refine' pe_callTy call_int1 (by rfl) (by assumption) bInt (pa_cons ?p1 pa_nil); (case p1 => walk_at "pe"))
  | ((with_reducible show PE _ (Expr.Call (Expr.Name "abs" _) _ _ _) _); refine' pe_callB call_abs (by rfl) (by assumption) bAbs (pa_cons ?p1 pa_nil); (case p1 => walk_at "pe"))
  | ((with_reducible show PE _ (Expr.Call (Expr.Name "len" _) _ _ _) _); refine' pe_callB call_len_seq (by rfl) (by assumption) PySem.boot_len (pa_cons ?p1 pa_nil); (case p1 => walk_at "pe"))
  | ((with_reducible show PE _ (Expr.List _ _) _); refine' pe_lst ?p1; (case p1 => walk_at "pa"))
  | ((with_reducible show PE _ (Expr.Tuple _ _ _) _); refine' pe_tup ?p1; (case p1 => walk_at "pa")))
local macro_rules | `(tactic| walk_at "pa") => `(tactic| first | exact pa_nil | (refine' pa_cons ?p1 ?p2; (case p1 => walk_at "pe"); (case p2 => walk_at "pa")))
local macro_rules | `(tactic| walk_at "pt") => `(tactic| first
  | ((with_reducible show PT _ (Expr.Compare _ [CmpOp.Gt] [_] _) _); refine' pt_cmpR op_gt ?p1 ?p2 (nomark _); (case p1 => walk_at "pe"); (case p2 => walk_at "pe"))
  | ((with_reducible show PT _ (Expr.Compare _ [CmpOp.GtE] [_] _) _); refine' pt_cmpR op_ge ?p1 ?p2 (nomark _); (case p1 => walk_at "pe"); (case p2 => walk_at "pe"))
  | ((with_reducible show PT _ (Expr.Compare _ [CmpOp.Lt] [_] _) _); refine' pt_cmpR op_lt ?p1 ?p2 (nomark _); (case p1 => walk_at "pe"); (case p2 => walk_at "pe"))
  | ((with_reducible show PT _ (Expr.Compare _ [CmpOp.LtE] [_] _) _); refine' pt_cmpR op_le ?p1 ?p2 (nomark _); (case p1 => walk_at "pe"); (case p2 => walk_at "pe"))
  | ((with_reducible show PT _ (Expr.Compare _ [CmpOp.NotEq] [Expr.List [] _] _) _); refine' pt_cmpR (op_neD (by assumption)) ?p1 (pe_lst pa_nil) (nomark _); (case p1 => walk_at "pe"))
  | ((with_reducible show PT _ (Expr.BoolOp BoolOp.And [_, _] _) _); refine' PW.pt (pw_and ?p1 (pw_and1 ?p2)); (case p1 => walk_at "pt"); (case p2 => walk_at "pt")))
local macro_rules | `(tactic| walk_at "st") => `(tactic| first
  | ((with_reducible show PS _ (Stmt.Return (some _) _) _); refine' ps_ret ?p1; (case p1 => walk_at "pe"))
  | ((with_reducible show PS _ (Stmt.Assign [Expr.Subscript _ _ _] _ _) _); refine' ps_dput (by assumption) ?p1 ?p2 ?p3 rfl; (case p1 => walk_at "pe"); (case p2 => walk_at "pe"); (case p3 => walk_at "pe"))
  | ((with_reducible show PS _ (Stmt.Assign [Expr.Name _ _] _ _) _); (first | refine' ps_set (i := 1) (by assumption) rfl (Or.inl rfl) ?p1 | refine' ps_set (i := 2) (by assumption) rfl (Or.inl rfl) ?p1 | refine' ps_set (i := 3) (by assumption) rfl (Or.inl rfl) ?p1 | refine' ps_set (i := 4) (by assumption) rfl (Or.inl rfl) ?p1 | refine' ps_set (i := 5) (by assumption) rfl (Or.inl rfl) ?p1 | refine' ps_set (i := 6) (by assumption) rfl (Or.inl rfl) ?p1 | refine' ps_set (i := 7) (by assumption) rfl (Or.inl rfl) ?p1 | refine' ps_set (i := 8) (by assumption) rfl (Or.inl rfl) ?p1 | refine' ps_set (i := 9) (by assumption) rfl (Or.inl rfl) ?p1 | refine' ps_set (i := 10) (by assumption) rfl (Or.inl rfl) ?p1 | refine' ps_set (i := 11) (by assumption) rfl (Or.inl rfl) ?p1); (case p1 => walk_at "pe"))
  | ((with_reducible show PS _ (Stmt.If _ _ _ _) _); refine' ps_if ?p1 ?p2 ?p3; (case p1 => walk_at "pt"); (case p2 => walk_at "ps"); (case p3 => walk_at "ps")))
local macro_rules | `(tactic| walk_at "ps") => `(tactic| first
  | exact pss_nil | (refine' pss_one ?p1; (case p1 => walk_at "st")) | (refine' pss_cons ?p1 ?p2; (case p1 => walk_at "st"); (case p2 => walk_at "ps")))

def spPen (K : PySem.W.Frag) : Sp := fun vs H Q _ => ∃ (a : Addr) (ns : List Int), vs = [.ref a] ∧ SqL K H a (ns.map V.int) ∧ ns.length ≤ 63 ∧ ∀ (p c : Addr) (H' : Hp), Same H H' → PenAt H' p c ns 0 0 → Q (.ref p) H'
/-- an item of a list, or a sign of a text, drawn -/
def spPick (K : PySem.W.Frag) : Sp := fun vs H Q _ => ∃ (p c : Addr) (x : V) (ns : List Int) (u r : Int), vs = [.ref p, x] ∧ PenAt H p c ns u r ∧ u ≤ 1000000 ∧
  ((∃ (l : Addr) (xs : List V), x = .ref l ∧ H l = some (.lst xs) ∧ 0 < xs.length ∧ xs.length ≤ 1000 ∧ ∀ (v : V) (u' r' : Int) (H' : Hp), v ∈ xs → u' ≤ u + 1 → PenAt H' p c ns u' r' → SameP p H H' → Q v H') ∨
   (∃ (z : Str), x = .str z ∧ 0 < z.length ∧ z.length ≤ 1000 ∧ ∀ (d : Nat) (u' r' : Int) (H' : Hp), d ∈ z.cps.toList → u' ≤ u + 1 → PenAt H' p c ns u' r' → SameP p H H' → Q (.str ⟨#[d]⟩) H'))
/-- a number of so many figures -/
def spGreat : Sp := fun vs H Q _ => ∃ (p c : Addr) (ns : List Int) (u r : Int) (n : Nat), vs = [.ref p, .int (n : Int)] ∧ PenAt H p c ns u r ∧ u + n ≤ 1000000 ∧ n ≤ 100 ∧
  ∀ (d u' r' : Int) (H' : Hp), 0 ≤ d → d < 10 ^ n → u' ≤ u + n → PenAt H' p c ns u' r' → SameP p H H' → Q (.int d) H'
def spTimes : Sp := fun vs H Q _ => ∃ (p c : Addr) (ns : List Int) (u r : Int), vs = [.ref p] ∧ PenAt H p c ns u r ∧ u + 7 ≤ 1000000 ∧
  ∀ (d u' r' : Int) (H' : Hp), 1 ≤ d → d ≤ 1000000 → u' ≤ u + 7 → PenAt H' p c ns u' r' → SameP p H H' → Q (.int d) H'
def spWhole : Sp := fun vs H Q _ => ∃ (p c : Addr) (ns : List Int) (u r : Int), vs = [.ref p] ∧ PenAt H p c ns u r ∧ u + 40 ≤ 1000000 ∧
  ∀ (d u' r' : Int) (H' : Hp), d.natAbs < 10 ^ 30 → u' ≤ u + 40 → PenAt H' p c ns u' r' → SameP p H H' → Q (.int d) H'
theorem merge3 (x y z : V) : mergeK [] [((Sum.inr ("cells" : Str) : Key), x), (Sum.inr ("begun" : Str), y), (Sum.inr ("left" : Str), z)] = [((Sum.inr ("cells" : Str) : Key), x), (Sum.inr ("begun" : Str), y), (Sum.inr ("left" : Str), z)] := by
  kernel_rfl
theorem val3a (x y z : V) : valV [((Sum.inr ("cells" : Str) : Key), x), (Sum.inr ("begun" : Str), y), (Sum.inr ("left" : Str), z)] (Sum.inr ("cells" : Str)) = some x := by kernel_rfl
theorem val3b (x y z : V) : valV [((Sum.inr ("cells" : Str) : Key), x), (Sum.inr ("begun" : Str), y), (Sum.inr ("left" : Str), z)] (Sum.inr ("begun" : Str)) = some y := by kernel_rfl
theorem val3c (x y z : V) : valV [((Sum.inr ("cells" : Str) : Key), x), (Sum.inr ("begun" : Str), y), (Sum.inr ("left" : Str), z)] (Sum.inr ("left" : Str)) = some z := by kernel_rfl
theorem cut_all {xs : List V} (h : xs.length ≤ 63) : cutV xs none (some 63) = xs := by
  unfold cutV
  have e1 : HT.sIx xs.length xs.length (some 63) = xs.length := by
    have z := HT.sIx_nat xs.length xs.length 63
    have z' : HT.sIx xs.length xs.length (some (63 : Int)) = min 63 xs.length := z
    rw [z']
    exact Nat.min_eq_right h
  rw [e1, HT.sIx_none, Nat.sub_zero, List.drop_zero, List.take_length]

section
variable {P : Program} {w : World} {K : PySem.W.Frag} {mg : Str → Option Value} {base : Heap}
/-- a def of the module that its callers may call -/
def Has (P : Program) (w : World) (K : PySem.W.Frag) (mg : Str → Option Value) (base : Heap) (k : Nat) (x : Str) (ps : List Str) (sp : Sp) : Prop := ∃ f fd, FnOk P w K mg base CX0 k f fd ps sp ∧ Binds K fd ps [] ∧ mg x = some (.ref f) ∧ PySem.W.keepIn K (.ref f) = true
theorem scPen : FnScope ["_law_script"] ["_law_script"] (defScope sPen) := ⟨rfl, rfl, rfl, by decide +kernel, rfl, by decide +kernel, by decide +kernel⟩
theorem ok_pen {f : Addr} {fd : FuncData} (F : Fun K "_law_pen" "_law_pen" sPen f fd) (B : Blt mg) : FnOk P w K mg base CX0 1 f fd ["_law_script"] (spPen K) := by
  refine F.ok scPen (fun vs H Q E h => ?_) (fun cdv A outer s H vs Q E hr h => ?_)
  · obtain ⟨a, ns, rfl, _⟩ := h
    rfl
  · obtain ⟨a, ns, rfl, hS, hl, k⟩ := h
    refine ⟨_, pss_one (ps_ret (pe_disp (pps_cons pe_str (pe_callTy call_list_of (by rfl) B.list bList (pa_cons (pe_slice sl_list (pv 0) po_none (po_some pe_int)) pa_nil)) (pps_cons pe_str pe_int (pps_cons pe_str pe_int pps_nil))) rfl rfl (by simp) (by decide))), ?_⟩
    intro p hp
    have s1 := same_new (o := .dK []) hp
    refine ⟨_, rfl, _, rfl, _, _, rfl, s1.seq hS, fun t ht => ?_⟩
    have s2 : Same H (upd (upd H p (.dK [])) t (.lst (cutV (ns.map V.int) none (some 63)))) := s1.trans (same_new ht)
    refine ⟨_, _, rfl, .inl (.inl (.inl upd_same)), fun l hl' => ?_⟩
    have npt : p ≠ t := ne_of_none (upd_same (H := H) (a := p) (o := .dK [])) ht
    have npl : p ≠ l := ne_of_none (show (upd (upd H p (.dK [])) t (.lst (cutV (ns.map V.int) none (some 63)))) p = some (.dK []) by rw [upd_ne npt, upd_same]) hl'
    refine ⟨by rw [upd_ne npl, upd_ne npt, upd_same], [(Sum.inr "cells", .ref l), (Sum.inr "begun", .int 0), (Sum.inr "left", .int 0)], rfl, by show 3 ≤ 15; decide, ?_⟩
    rw [merge3]
    refine k p l _ (fun b o e => ?_) ⟨⟨_, upd_same, by show 3 ≤ 10; decide, val3a _ _ _, val3b _ _ _, val3c _ _ _⟩, ?_, hl, Int.le_refl 0, Int.le_refl 0⟩
    · rw [upd_ne (ne_of_none e hp)]
      exact (s2.trans (same_new hl')) b o e
    · rw [upd_ne npl.symm, upd_same, cut_all (by rw [List.length_map]; exact hl)]
theorem scPick : FnScope ["_law_pen_here", "_law_options"] ["_law_pen_here", "_law_options"] (defScope sPick) := ⟨rfl, rfl, rfl, by decide +kernel, rfl, by decide +kernel, by decide +kernel⟩
theorem ok_pick {f : Addr} {fd : FuncData} (F : Fun K "_law_pick" "_law_pick" sPick f fd) (B : Blt mg) (HD : Has P w K mg base 1 "_law_draw" ["_law_pen_here", "_law_many"] spDraw) : FnOk P w K mg base CX0 2 f fd ["_law_pen_here", "_law_options"] (spPick K) := by
  obtain ⟨g, gd, G, bG, mG, kG⟩ := HD
  refine F.ok scPick (fun vs H Q E h => ?_) (fun cdv A outer s H vs Q E hr h => ?_)
  · obtain ⟨p, c, x, ns, u, r, rfl, _⟩ := h
    rfl
  · obtain ⟨p, c, x, ns, u, r, rfl, PA, hu6, hx⟩ := h
    refine ⟨_, pss_one (ps_ret (pe_ix ix_seq (pv 1) (pe_call G hr (by rfl) mG kG bG .nil pass0 (pa_cons (pv 0) (pa_cons (pe_callB (CallR.or call_len_seq call_len_str) (by rfl) B.len PySem.boot_len (pa_cons (pv 1) pa_nil)) pa_nil))) (fun _ _ => rfl))), ?_⟩
    rcases hx with ⟨l, xs, rfl, hL, h0, h1, k⟩ | ⟨z, rfl, h0, h1, k⟩
    · have nlp : l ≠ p := by
        obtain ⟨kvs, hp, _⟩ := PA.ob
        exact ne_of hL hp (fun z => nomatch z)
      refine ⟨_, rfl, _, rfl, _, rfl, .inl ⟨_, _, rfl, .inl (.inl (.inl hL)), p, c, ns, u, r, _, rfl, PA, hu6, by omega, by omega, fun d u' r' H' d0 d1 hu' PA' keep => ?_⟩⟩
      obtain ⟨v, hv, hm⟩ := atI_in (xs := xs) (i := d) rfl d0 d1
      exact .inl ⟨_, _, _, _, rfl, rfl, .inl (.inl (keep _ _ hL nlp)), hv, k v u' r' H' hm hu' PA' keep⟩
    · have hz : z.length ≤ sizeLine := Nat.le_trans h1 (by decide)
      refine ⟨_, rfl, _, rfl, _, rfl, .inr ⟨_, rfl, hz, p, c, ns, u, r, _, rfl, PA, hu6, by omega, by omega, fun d u' r' H' d0 d1 hu' PA' keep => ?_⟩⟩
      have hl : d.toNat < z.cps.toList.length := by
        rw [Array.length_toList]
        have : (z.length : Int) = (z.cps.size : Int) := rfl
        omega
      have e : d = ((d.toNat : Nat) : Int) := by omega
      have hv : atI z.cps.toList d = some z.cps.toList[d.toNat] := by
        have q : atI z.cps.toList ((d.toNat : Nat) : Int) = some z.cps.toList[d.toNat] := atI_nat (List.getElem?_eq_getElem hl)
        rwa [← e] at q
      exact .inr (.inr ⟨_, _, _, rfl, rfl, hz, hv, k _ u' r' H' (List.getElem_mem hl) hu' PA' keep⟩)
abbrev nGreat : List Str := ["_law_pen_here", "_law_figures", "_law_found", "_law_k"]
theorem scGreat : FnScope nGreat ["_law_pen_here", "_law_figures"] (defScope sGreat) := ⟨rfl, rfl, rfl, by decide +kernel, rfl, by decide +kernel, by decide +kernel⟩
theorem ok_great {f : Addr} {fd : FuncData} (F : Fun K "_law_great" "_law_great" sGreat f fd) (B : Blt mg) (HD : Has P w K mg base 1 "_law_draw" ["_law_pen_here", "_law_many"] spDraw) : FnOk P w K mg base CX0 2 f fd ["_law_pen_here", "_law_figures"] spGreat := by
  obtain ⟨g, gd, G, bG, mG, kG⟩ := HD
  refine F.ok scGreat (fun vs H Q E h => ?_) (fun cdv A outer s H vs Q E hr h => ?_)
  · obtain ⟨p, c, ns, u, r, n, rfl, _⟩ := h
    rfl
  · obtain ⟨p, c, ns, u, r, n, rfl, PA, hu6, hn, k⟩ := h
    have nd : nGreat.Nodup := scGreat.nd
    refine ⟨_, pss_cons (ps_set (i := 2) nd rfl (Or.inl rfl) pe_int)
      (pss_cons (ps_for PassesOwn.never rfl (pi_range1 (by rfl) B.range (pa_cons (pv 1) pa_nil)) (pg_name (i := 3) nd rfl (Or.inl rfl))
        (pss_one (ps_set (i := 2) nd rfl (Or.inl rfl) (pe_op op_add (pe_op op_mul pe_int (pv 2)) (pe_call G hr (by rfl) mG kG bG .nil pass0 (pa_cons (pv 0) (pa_cons pe_int pa_nil)))))))
      (pss_one (ps_ret (pv 2)))), ?_⟩
    refine ⟨_, rfl, _, rfl, by omega, by omega, for_range (n := n) (fun i σ' H' => ∃ (d u' r' : Int) (x : Option V), σ' = [some (.ref p), some (.int (n : Int)), some (.int d), x] ∧ 0 ≤ d ∧ d < 10 ^ i ∧ u' ≤ u + i ∧ PenAt H' p c ns u' r' ∧ SameP p H H')
      ⟨0, u, r, none, rfl, by omega, by decide, by omega, PA, fun b o e _ => e⟩ ?_ ?_⟩
    · rintro i σ' H' hi ⟨d, u', r', x, rfl, d0, d1, hu', PA', keep⟩
      refine ⟨_, rfl, _, _, rfl, rfl, .inl ⟨by decide, by decide⟩, _, rfl, p, c, ns, u', r', 10, rfl, PA', by omega, by decide, by decide, fun e u2 r2 H2 e0 e1 hu2 PA2 keep2 => ?_⟩
      refine ⟨_, _, rfl, rfl, _, u2, r2, _, rfl, by omega, ?_, by omega, PA2, keep.trans keep2⟩
      rw [Int.pow_succ]
      omega
    · rintro σ' H' ⟨d, u', r', x, rfl, d0, d1, hu', PA', keep⟩
      exact ⟨_, rfl, k d u' r' H' d0 d1 hu' PA' keep⟩
theorem scTimes : FnScope ["_law_pen_here", "_law_way"] ["_law_pen_here"] (defScope sTimes) := ⟨rfl, rfl, rfl, by decide +kernel, rfl, by decide +kernel, by decide +kernel⟩
theorem ok_times {f : Addr} {fd : FuncData} (F : Fun K "_law_times" "_law_times" sTimes f fd) (HD : Has P w K mg base 1 "_law_draw" ["_law_pen_here", "_law_many"] spDraw) (HG : Has P w K mg base 2 "_law_great" ["_law_pen_here", "_law_figures"] spGreat) : FnOk P w K mg base CX0 3 f fd ["_law_pen_here"] spTimes := by
  obtain ⟨g, gd, G, bG, mG, kG⟩ := HD
  obtain ⟨g2, gd2, G2, bG2, mG2, kG2⟩ := HG
  refine F.ok scTimes (fun vs H Q E h => ?_) (fun cdv A outer s H vs Q E hr h => ?_)
  · obtain ⟨p, c, ns, u, r, rfl, _⟩ := h
    rfl
  · obtain ⟨p, c, ns, u, r, rfl, PA, hu6, k⟩ := h
    have hr1 : Room 1 _ := hr.mono (by decide)
    have nd : (["_law_pen_here", "_law_way"] : List Str).Nodup := scTimes.nd
    refine ⟨_, pss_cons (ps_set (i := 1) nd rfl (Or.inl rfl) (pe_call G hr1 (by rfl) mG kG bG .nil pass0 (pa_cons (pv 0) (pa_cons pe_int pa_nil))))
      (pss_cons (ps_if (by walk_at "pt") (pss_one (ps_ret (pe_ix ix_list (by walk_at "pe") (pv 1) (fun _ _ => rfl)))) pss_nil)
      (pss_one (ps_ret (pe_ifExp (pt_cmpR op_eq (pv 1) pe_int (nomark _)) (pe_op op_add pe_int (pe_call G hr1 (by rfl) mG kG bG .nil pass0 (pa_cons (pv 0) (pa_cons pe_int pa_nil)))) (pe_op op_add pe_int (pe_call G2 hr (by rfl) mG2 kG2 bG2 .nil pass0 (pa_cons (pv 0) (pa_cons pe_int pa_nil)))))))), ?_⟩
    refine seq_step (fun σ' H' => ∃ (d u' r' : Int), σ' = [some (.ref p), some (.int d)] ∧ 0 ≤ d ∧ d < 8 ∧ u' ≤ u + 1 ∧ PenAt H' p c ns u' r' ∧ SameP p H H') (fun R hR => ?_) (fun σ1 H1 h1 => ?_)
    · exact ⟨_, rfl, p, c, ns, u, r, 8, rfl, PA, by omega, by decide, by decide, fun d u' r' H' d0 d1 hu' PA' keep => hR _ _ ⟨d, u', r', rfl, d0, d1, hu', PA', keep⟩⟩
    obtain ⟨d, u', r', rfl, d0, d1, hu', PA', keep⟩ := h1
    refine seq_step (fun σ' H' => σ' = [some (.ref p), some (.int d)] ∧ H' = H1) (fun R hR => ?_) (fun σ2 H2 h2 => ?_)
    · refine ⟨_, rfl, _, _, rfl, rfl, _, rfl, ifd (fun c1 => ?_) (fun c1 => hR _ _ ⟨rfl, rfl⟩)⟩
      refine ⟨by show 6 ≤ sizeLine; decide, fun l hl => ?_⟩
      have sl := same_new (o := .lst [.int 1, .int 1, .int 2, .int 2, .int 3, .int 4]) hl
      obtain ⟨v, hv, hm⟩ := atI_in (xs := [.int 1, .int 1, .int 2, .int 2, .int 3, .int 4]) (i := d) (n := 6) rfl d0 c1
      refine ⟨_, rfl, _, _, _, _, rfl, rfl, .inl (.inl upd_same), hv, ?_⟩
      simp only [List.mem_cons, List.not_mem_nil, or_false] at hm
      have fin : ∀ x : Int, 1 ≤ x → x ≤ 4 → Q (.int x) (upd H1 l (.lst [.int 1, .int 1, .int 2, .int 2, .int 3, .int 4])) := fun x x0 x1 => k x u' r' _ x0 (by omega) (by omega) (PA'.same sl) (keep.trans (.of sl))
      rcases hm with rfl | rfl | rfl | rfl | rfl | rfl <;> exact fin _ (by decide) (by decide)
    obtain ⟨rfl, rfl⟩ := h2
    refine ⟨_, rfl, rfl, _, rfl, ifd (fun c1 => ?_) (fun c1 => ?_)⟩
    · refine ⟨_, rfl, p, c, ns, u', r', 11, rfl, PA', by omega, by decide, by decide, fun e u2 r2 H3 e0 e1 hu2 PA2 keep2 => ?_⟩
      exact ⟨_, _, rfl, rfl, k _ u2 r2 _ (by omega) (by omega) (by omega) PA2 (keep.trans keep2)⟩
    · refine ⟨_, rfl, p, c, ns, u', r', 6, rfl, PA', by omega, by decide, fun e u2 r2 H3 e0 e1 hu2 PA2 keep2 => ?_⟩
      have e1' : e < 1000000 := e1
      exact ⟨_, _, rfl, rfl, k _ u2 r2 _ (by omega) (by omega) (by omega) PA2 (keep.trans keep2)⟩
end
end Ld
namespace Ld
open PySem PySem.Spec PyProof.Rows L2
local macro_rules | `(tactic| walk_at "pe") => `(tactic| first
  | exact pe_int
  | exact pe_bl
  | exact pe_non
  | exact pe_str
  | ((with_reducible show PE _ (Expr.Name _ _) _); first | exact pv 0 | exact pv 1 | exact pv 2 | exact pv 3 | exact pv 4 | exact pv 5 | exact pv 6 | exact pv 7 | exact pv 8 | exact pv 9 | exact pv 10 | exact pv 11)
  | ((with_reducible show PE _ (Expr.BinOp _ Operator.Add _ _) _); refine' pe_op op_add ?p1 ?p2; (case p1 => walk_at "pe"); (case p2 => walk_at "pe"))
  | ((with_reducible show PE _ (Expr.BinOp _ Operator.Sub _ _) _); refine' pe_op op_sub ?p1 ?p2; (case p1 => walk_at "pe"); (case p2 => walk_at "pe"))
  | ((with_reducible show PE _ (Expr.BinOp _ Operator.Mult _ _) _); refine' pe_op op_mul ?p1 ?p2; (case p1 => walk_at "pe"); (case p2 => walk_at "pe"))
  | ((with_reducible show PE _ (Expr.BinOp _ Operator.Mod _ _) _); refine' pe_op op_mod ?p1 ?p2; (case p1 => walk_at "pe"); (case p2 => walk_at "pe"))
  | ((with_reducible show PE _ (Expr.BinOp _ Operator.FloorDiv _ _) _); refine' pe_op op_fdiv ?p1 ?p2; (case p1 => walk_at "pe"); (case p2 => walk_at "pe"))
  | ((with_reducible show PE _ (Expr.BinOp _ Operator.Pow _ _) _); refine' pe_op op_pow ?p1 ?p2; (case p1 => walk_at "pe"); (case p2 => walk_at "pe"))
  | ((with_reducible show PE _ (Expr.UnaryOp UnaryOp.USub _ _) _); refine' pe_un un_neg ?p1; (case p1 => walk_at "pe"))
  | ((with_reducible show PE _ (Expr.Subscript _ (Expr.Constant (Const.str _) _ _) _) _); refine' pe_dget (by assumption) ?p1 pe_str (fun _ _ => rfl); (case p1 => walk_at "pe"))
  | ((with_reducible show PE _ (Expr.Subscript _ _ _) _); refine' pe_ix ix_list ?p1 ?p2 (fun _ _ => rfl); (case p1 => walk_at "pe"); (case p2 => walk_at "pe"))
  | ((with_reducible show PE _ (Expr.Call (Expr.Name "int" _) _ _ _) _); refine' pe_callTy call_int1 (by rfl) (by assumption) bInt (pa_cons ?p1 pa_nil); (case p1 => walk_at "pe"))
  | ((with_reducible show PE _ (Expr.Call (Expr.Name "abs" _) _ _ _) _); refine' pe_callB call_abs (by rfl) (by assumption) bAbs (pa_cons ?p1 pa_nil); (case p1 => walk_at "pe"))
  | ((with_reducible show PE _ (Expr.Call (Expr.Name "len" _) _ _ _) _); refine' pe_callB call_len_seq (by rfl) (by assumption) PySem.boot_len (pa_cons ?p1 pa_nil); (case p1 => walk_at "pe"))
  | ((with_reducible show PE _ (Expr.List _ _) _); refine' pe_lst ?p1; (case p1 => walk_at "pa"))
  | ((with_reducible show PE _ (Expr.Tuple _ _ _) _); refine' pe_tup ?p1; (case p1 => walk_at "pa")))
local macro_rules | `(tactic| walk_at "pa") => `(tactic| first | exact pa_nil | (refine' pa_cons ?p1 ?p2; (case p1 => walk_at "pe"); (case p2 => walk_at "pa")))
local macro_rules | `(tactic| walk_at "pt") => `(tactic| first
  | ((with_reducible show PT _ (Expr.Compare _ [CmpOp.Gt] [_] _) _); refine' pt_cmpR op_gt ?p1 ?p2 (nomark _); (case p1 => walk_at "pe"); (case p2 => walk_at "pe"))
  | ((with_reducible show PT _ (Expr.Compare _ [CmpOp.GtE] [_] _) _); refine' pt_cmpR op_ge ?p1 ?p2 (nomark _); (case p1 => walk_at "pe"); (case p2 => walk_at "pe"))
  | ((with_reducible show PT _ (Expr.Compare _ [CmpOp.Lt] [_] _) _); refine' pt_cmpR op_lt ?p1 ?p2 (nomark _); (case p1 => walk_at "pe"); (case p2 => walk_at "pe"))
  | ((with_reducible show PT _ (Expr.Compare _ [CmpOp.LtE] [_] _) _); refine' pt_cmpR op_le ?p1 ?p2 (nomark _); (case p1 => walk_at "pe"); (case p2 => walk_at "pe"))
  | ((with_reducible show PT _ (Expr.Compare _ [CmpOp.NotEq] [Expr.List [] _] _) _); refine' pt_cmpR (op_neD (by assumption)) ?p1 (pe_lst pa_nil) (nomark _); (case p1 => walk_at "pe"))
  | ((with_reducible show PT _ (Expr.BoolOp BoolOp.And [_, _] _) _); refine' PW.pt (pw_and ?p1 (pw_and1 ?p2)); (case p1 => walk_at "pt"); (case p2 => walk_at "pt")))
local macro_rules | `(tactic| walk_at "st") => `(tactic| first
  | ((with_reducible show PS _ (Stmt.Return (some _) _) _); refine' ps_ret ?p1; (case p1 => walk_at "pe"))
  | ((with_reducible show PS _ (Stmt.Assign [Expr.Subscript _ _ _] _ _) _); refine' ps_dput (by assumption) ?p1 ?p2 ?p3 rfl; (case p1 => walk_at "pe"); (case p2 => walk_at "pe"); (case p3 => walk_at "pe"))
  | ((with_reducible show PS _ (Stmt.Assign [Expr.Name _ _] _ _) _); (first | refine' ps_set (i := 1) (by assumption) rfl (Or.inl rfl) ?p1 | refine' ps_set (i := 2) (by assumption) rfl (Or.inl rfl) ?p1 | refine' ps_set (i := 3) (by assumption) rfl (Or.inl rfl) ?p1 | refine' ps_set (i := 4) (by assumption) rfl (Or.inl rfl) ?p1 | refine' ps_set (i := 5) (by assumption) rfl (Or.inl rfl) ?p1 | refine' ps_set (i := 6) (by assumption) rfl (Or.inl rfl) ?p1 | refine' ps_set (i := 7) (by assumption) rfl (Or.inl rfl) ?p1 | refine' ps_set (i := 8) (by assumption) rfl (Or.inl rfl) ?p1 | refine' ps_set (i := 9) (by assumption) rfl (Or.inl rfl) ?p1 | refine' ps_set (i := 10) (by assumption) rfl (Or.inl rfl) ?p1 | refine' ps_set (i := 11) (by assumption) rfl (Or.inl rfl) ?p1); (case p1 => walk_at "pe"))
  | ((with_reducible show PS _ (Stmt.If _ _ _ _) _); refine' ps_if ?p1 ?p2 ?p3; (case p1 => walk_at "pt"); (case p2 => walk_at "ps"); (case p3 => walk_at "ps")))
local macro_rules | `(tactic| walk_at "ps") => `(tactic| first
  | exact pss_nil | (refine' pss_one ?p1; (case p1 => walk_at "st")) | (refine' pss_cons ?p1 ?p2; (case p1 => walk_at "st"); (case p2 => walk_at "ps")))

theorem bStr0 : bootBuiltins "str" = some (.type "str") := by decide +kernel
/-- a text of lo to hi letters from a to z -/
structure Wd (lo hi : Nat) (z : Str) : Prop where
  l0 : lo ≤ z.length
  l1 : z.length ≤ hi
  az : ∀ c ∈ z.cps.toList, 97 ≤ c ∧ c ≤ 122
theorem wd_app {a b c d : Nat} {x y : Str} (h1 : Wd a b x) (h2 : Wd c d y) : Wd (a + c) (b + d) (x ++ y) := by
  have e : (x ++ y).length = x.length + y.length := by
    show (x ++ y).cps.size = _
    rw [Str.cps_append, Array.size_append]
    rfl
  refine ⟨by rw [e]; exact Nat.add_le_add h1.l0 h2.l0, by rw [e]; exact Nat.add_le_add h1.l1 h2.l1, fun q hq => ?_⟩
  rw [Str.cps_append, Array.toList_append] at hq
  rcases List.mem_append.mp hq with h | h
  · exact h1.az q h
  · exact h2.az q h
theorem wd_cut {a b : Nat} {x : Str} (h : Wd a b x) (lo hi : Option Int) : Wd 0 b (cutS x lo hi) := by
  refine ⟨Nat.zero_le _, Nat.le_trans (cutS_length x lo hi) h.l1, fun q hq => ?_⟩
  exact h.az q (List.mem_of_mem_drop (List.mem_of_mem_take hq))
theorem wd_sign {c : Nat} (h : 97 ≤ c ∧ c ≤ 122) : Wd 1 1 ⟨#[c]⟩ := ⟨Nat.le_refl _, Nat.le_refl _, fun q hq => by
  have e : q = c := by simpa using hq
  rw [e]
  exact h⟩
section
variable {P : Program} {w : World} {K : PySem.W.Frag} {mg : Str → Option Value} {base : Heap}
theorem scWhole : FnScope ["_law_pen_here", "_law_n"] ["_law_pen_here"] (defScope sWhole) := ⟨rfl, rfl, rfl, by decide +kernel, rfl, by decide +kernel, by decide +kernel⟩
theorem ok_whole {f : Addr} {fd : FuncData} (F : Fun K "_law_whole" "_law_whole" sWhole f fd) (HD : Has P w K mg base 1 "_law_draw" ["_law_pen_here", "_law_many"] spDraw) (HP : Has P w K mg base 2 "_law_pick" ["_law_pen_here", "_law_options"] (spPick K))
    (HG : Has P w K mg base 2 "_law_great" ["_law_pen_here", "_law_figures"] spGreat) (HT : Has P w K mg base 3 "_law_times" ["_law_pen_here"] spTimes) : FnOk P w K mg base CX0 4 f fd ["_law_pen_here"] spWhole := by
  obtain ⟨g1, gd1, G1, b1, m1, k1⟩ := HD
  obtain ⟨g2, gd2, G2, b2, m2, k2⟩ := HP
  obtain ⟨g3, gd3, G3, b3, m3, k3⟩ := HG
  obtain ⟨g4, gd4, G4, b4, m4, k4⟩ := HT
  refine F.ok scWhole (fun vs H Q E h => ?_) (fun cdv A outer s H vs Q E hr h => ?_)
  · obtain ⟨p, c, ns, u, r, rfl, _⟩ := h
    rfl
  · obtain ⟨p, c, ns, u, r, rfl, PA, hu6, k⟩ := h
    have hr1 : Room 1 _ := hr.mono (by decide)
    have hr2 : Room 2 _ := hr.mono (by decide)
    have nd : (["_law_pen_here", "_law_n"] : List Str).Nodup := scWhole.nd
    refine ⟨_, pss_cons (ps_set (i := 1) nd rfl (Or.inl rfl) (pe_call G2 hr2 (by rfl) m2 k2 b2 .nil pass0 (pa_cons (pv 0) (pa_cons (pe_lst (pa_cons pe_int (pa_cons pe_int (pa_cons pe_int (pa_cons pe_int (pa_cons pe_int (pa_cons pe_int (pa_cons pe_int
        (pa_cons (pe_call G4 hr (by rfl) m4 k4 b4 .nil pass0 (pa_cons (pv 0) pa_nil))
        (pa_cons (pe_call G3 hr2 (by rfl) m3 k3 b3 .nil pass0 (pa_cons (pv 0) (pa_cons (pe_op op_add pe_int (pe_call G1 hr1 (by rfl) m1 k1 b1 .nil pass0 (pa_cons (pv 0) (pa_cons pe_int pa_nil)))) pa_nil))) pa_nil)))))))))) pa_nil))))
      (pss_one (ps_ret (pe_ifExp (pt_cmpR op_eq (pe_call G1 hr1 (by rfl) m1 k1 b1 .nil pass0 (pa_cons (pv 0) (pa_cons pe_int pa_nil))) pe_int (nomark _)) (pv 1) (pe_un un_neg (pv 1))))), ?_⟩
    refine seq_step (fun σ' H' => ∃ (d u' r' : Int), σ' = [some (.ref p), some (.int d)] ∧ d.natAbs < 10 ^ 30 ∧ u' ≤ u + 39 ∧ PenAt H' p c ns u' r' ∧ SameP p H H') (fun R hR => ?_) (fun σ1 H1 h1 => ?_)
    · refine ⟨_, rfl, _, rfl, p, c, ns, u, r, rfl, PA, by omega, fun t u1 r1 H1 t0 t1 hu1 PA1 keep1 => ?_⟩
      refine ⟨_, rfl, _, rfl, p, c, ns, u1, r1, 30, rfl, PA1, by omega, by decide, by decide, fun e u2 r2 H2 e0 e1 hu2 PA2 keep2 => ?_⟩
      refine ⟨_, _, rfl, rfl, p, c, ns, u2, r2, (1 + e).toNat, ?_, PA2, by omega, by omega, fun g u3 r3 H3 q0 q1 hu3 PA3 keep3 => ?_⟩
      · show [V.ref p, V.int (1 + e)] = [V.ref p, V.int (((1 + e).toNat : Nat) : Int)]
        rw [Int.toNat_of_nonneg (by omega)]
      have g30 : g.natAbs < 10 ^ 30 := by
        have h30 : (10 : Int) ^ (1 + e).toNat ≤ 10 ^ 30 := by
          have z : (10 : Nat) ^ (1 + e).toNat ≤ 10 ^ 30 := Nat.pow_le_pow_right (by decide) (by omega)
          exact_mod_cast z
        have : g < 10 ^ 30 := Int.lt_of_lt_of_le q1 h30
        omega
      refine ⟨by show 9 ≤ sizeLine; decide, fun l hl => ?_⟩
      have sl := same_new (o := .lst [.int 0, .int 1, .int 2, .int 9, .int 10, .int 99, .int 100, .int t, .int g]) hl
      have keep := (keep1.trans keep2).trans (keep3.trans (.of sl))
      refine ⟨p, c, .ref l, ns, u3, r3, rfl, PA3.same sl, by omega, .inl ⟨l, _, rfl, upd_same, by show 0 < 9; decide, by show 9 ≤ 1000; decide, fun v u4 r4 H4 hm hu4 PA4 keep4 => ?_⟩⟩
      have fin : ∀ x : Int, v = .int x → x.natAbs < 10 ^ 30 → R (([some (.ref p), none] : L2.St).set 1 (some v)) H4 := fun x hx hb => by
        subst hx
        exact hR _ _ ⟨x, u4, r4, rfl, hb, by omega, PA4, keep.trans keep4⟩
      simp only [List.mem_cons, List.not_mem_nil, or_false] at hm
      rcases hm with h | h | h | h | h | h | h | h | h
      all_goals first
        | exact fin _ h (by decide)
        | exact fin _ h (by omega)
        | exact fin _ h g30
    obtain ⟨d, u', r', rfl, hd, hu', PA', keep⟩ := h1
    refine ⟨_, rfl, p, c, ns, u', r', 2, rfl, PA', by omega, by decide, by decide, fun e u2 r2 H2 e0 e1 hu2 PA2 keep2 => ?_⟩
    refine ⟨rfl, _, rfl, ifd (fun _ => ?_) (fun _ => ?_)⟩
    · exact ⟨_, rfl, k _ u2 r2 _ hd (by omega) PA2 (keep.trans keep2)⟩
    · exact ⟨_, rfl, _, rfl, k _ u2 r2 _ (by rw [Int.natAbs_neg]; exact hd) (by omega) PA2 (keep.trans keep2)⟩
end
end Ld
namespace Ld
open PySem PySem.Spec PyProof.Rows L2
open TL (tl joinL tl_join join_eq)
local macro_rules | `(tactic| walk_at "pe") => `(tactic| first
  | exact pe_int
  | exact pe_bl
  | exact pe_non
  | exact pe_str
  | ((with_reducible show PE _ (Expr.Name _ _) _); first | exact pv 0 | exact pv 1 | exact pv 2 | exact pv 3 | exact pv 4 | exact pv 5 | exact pv 6 | exact pv 7 | exact pv 8 | exact pv 9 | exact pv 10 | exact pv 11)
  | ((with_reducible show PE _ (Expr.BinOp _ Operator.Add _ _) _); refine' pe_op op_add ?p1 ?p2; (case p1 => walk_at "pe"); (case p2 => walk_at "pe"))
  | ((with_reducible show PE _ (Expr.BinOp _ Operator.Sub _ _) _); refine' pe_op op_sub ?p1 ?p2; (case p1 => walk_at "pe"); (case p2 => walk_at "pe"))
  | ((with_reducible show PE _ (Expr.BinOp _ Operator.Mult _ _) _); refine' pe_op op_mul ?p1 ?p2; (case p1 => walk_at "pe"); (case p2 => walk_at "pe"))
  | ((with_reducible show PE _ (Expr.BinOp _ Operator.Mod _ _) _); refine' pe_op op_mod ?p1 ?p2; (case p1 => walk_at "pe"); (case p2 => walk_at "pe"))
  | ((with_reducible show PE _ (Expr.BinOp _ Operator.FloorDiv _ _) _); refine' pe_op op_fdiv ?p1 ?p2; (case p1 => walk_at "pe"); (case p2 => walk_at "pe"))
  | ((with_reducible show PE _ (Expr.BinOp _ Operator.Pow _ _) _); refine' pe_op op_pow ?p1 ?p2; (case p1 => walk_at "pe"); (case p2 => walk_at "pe"))
  | ((with_reducible show PE _ (Expr.UnaryOp UnaryOp.USub _ _) _); refine' pe_un un_neg ?p1; (case p1 => walk_at "pe"))
  | ((with_reducible show PE _ (Expr.Subscript _ (Expr.Constant (Const.str _) _ _) _) _); refine' pe_dget (by assumption) ?p1 pe_str (fun _ _ => rfl); (case p1 => walk_at "pe"))
  | ((with_reducible show PE _ (Expr.Subscript _ _ _) _); refine' pe_ix ix_list ?p1 ?p2 (fun _ _ => rfl); (case p1 => walk_at "pe"); (case p2 => walk_at "pe"))
  | ((with_reducible show PE _ (Expr.Call (Expr.Name "int" _) _ _ _) _); refine' pe_callTy call_int1 (by rfl) (by assumption) bInt (pa_cons ?p1 pa_nil); (case p1 => walk_at "pe"))
  | ((with_reducible show PE _ (Expr.Call (Expr.Name "abs" _) _ _ _) _); refine' pe_callB call_abs (by rfl) (by assumption) bAbs (pa_cons ?p1 pa_nil); (case p1 => walk_at "pe"))
  | ((with_reducible show PE _ (Expr.Call (Expr.Name "len" _) _ _ _) _); refine' pe_callB call_len_seq (by rfl) (by assumption) PySem.boot_len (pa_cons ?p1 pa_nil); (case p1 => walk_at "pe"))
  | ((with_reducible show PE _ (Expr.List _ _) _); refine' pe_lst ?p1; (case p1 => walk_at "pa"))
  | ((with_reducible show PE _ (Expr.Tuple _ _ _) _); refine' pe_tup ?p1; (case p1 => walk_at "pa")))
local macro_rules | `(tactic| walk_at "pa") => `(tactic| first | exact pa_nil | (refine' pa_cons ?p1 ?p2; (case p1 => walk_at "pe"); (case p2 => walk_at "pa")))
local macro_rules | `(tactic| walk_at "pt") => `(tactic| first
  | ((with_reducible show PT _ (Expr.Compare _ [CmpOp.Gt] [_] _) _); refine' pt_cmpR op_gt ?p1 ?p2 (nomark _); (case p1 => walk_at "pe"); (case p2 => walk_at "pe"))
  | ((with_reducible show PT _ (Expr.Compare _ [CmpOp.GtE] [_] _) _); refine' pt_cmpR op_ge ?p1 ?p2 (nomark _); (case p1 => walk_at "pe"); (case p2 => walk_at "pe"))
  | ((with_reducible show PT _ (Expr.Compare _ [CmpOp.Lt] [_] _) _); refine' pt_cmpR op_lt ?p1 ?p2 (nomark _); (case p1 => walk_at "pe"); (case p2 => walk_at "pe"))
  | ((with_reducible show PT _ (Expr.Compare _ [CmpOp.LtE] [_] _) _); refine' pt_cmpR op_le ?p1 ?p2 (nomark _); (case p1 => walk_at "pe"); (case p2 => walk_at "pe"))
  | ((with_reducible show PT _ (Expr.Compare _ [CmpOp.NotEq] [Expr.List [] _] _) _); refine' pt_cmpR (op_neD (by assumption)) ?p1 (pe_lst pa_nil) (nomark _); (case p1 => walk_at "pe"))
  | ((with_reducible show PT _ (Expr.BoolOp BoolOp.And [_, _] _) _); refine' PW.pt (pw_and ?p1 (pw_and1 ?p2)); (case p1 => walk_at "pt"); (case p2 => walk_at "pt")))
local macro_rules | `(tactic| walk_at "st") => `(tactic| first
  | ((with_reducible show PS _ (Stmt.Return (some _) _) _); refine' ps_ret ?p1; (case p1 => walk_at "pe"))
  | ((with_reducible show PS _ (Stmt.Assign [Expr.Subscript _ _ _] _ _) _); refine' ps_dput (by assumption) ?p1 ?p2 ?p3 rfl; (case p1 => walk_at "pe"); (case p2 => walk_at "pe"); (case p3 => walk_at "pe"))
  | ((with_reducible show PS _ (Stmt.Assign [Expr.Name _ _] _ _) _); (first | refine' ps_set (i := 1) (by assumption) rfl (Or.inl rfl) ?p1 | refine' ps_set (i := 2) (by assumption) rfl (Or.inl rfl) ?p1 | refine' ps_set (i := 3) (by assumption) rfl (Or.inl rfl) ?p1 | refine' ps_set (i := 4) (by assumption) rfl (Or.inl rfl) ?p1 | refine' ps_set (i := 5) (by assumption) rfl (Or.inl rfl) ?p1 | refine' ps_set (i := 6) (by assumption) rfl (Or.inl rfl) ?p1 | refine' ps_set (i := 7) (by assumption) rfl (Or.inl rfl) ?p1 | refine' ps_set (i := 8) (by assumption) rfl (Or.inl rfl) ?p1 | refine' ps_set (i := 9) (by assumption) rfl (Or.inl rfl) ?p1 | refine' ps_set (i := 10) (by assumption) rfl (Or.inl rfl) ?p1 | refine' ps_set (i := 11) (by assumption) rfl (Or.inl rfl) ?p1); (case p1 => walk_at "pe"))
  | ((with_reducible show PS _ (Stmt.If _ _ _ _) _); refine' ps_if ?p1 ?p2 ?p3; (case p1 => walk_at "pt"); (case p2 => walk_at "ps"); (case p3 => walk_at "ps")))
local macro_rules | `(tactic| walk_at "ps") => `(tactic| first
  | exact pss_nil | (refine' pss_one ?p1; (case p1 => walk_at "st")) | (refine' pss_cons ?p1 ?p2; (case p1 => walk_at "st"); (case p2 => walk_at "ps")))

theorem joinL_all {q : Nat → Prop} : ∀ {parts : List (List Nat)}, (∀ p ∈ parts, ∀ c ∈ p, q c) → ∀ c ∈ joinL [] parts, q c
  | [], _, c, h => by simp [joinL] at h
  | [p], k, c, h => k p List.mem_cons_self c h
  | p :: r :: rs, k, c, h => by
    rcases List.mem_append.mp h with h | h
    · exact k p List.mem_cons_self c h
    · exact joinL_all (parts := r :: rs) (fun x hx => k x (List.mem_cons_of_mem _ hx)) c h
theorem joinL_ones : ∀ {parts : List (List Nat)}, (∀ p ∈ parts, p.length = 1) → (joinL [] parts).length = parts.length
  | [], _ => rfl
  | [p], k => k p List.mem_cons_self
  | p :: r :: rs, k => by
    show (p ++ ([] ++ joinL [] (r :: rs))).length = _
    rw [List.nil_append, List.length_append, joinL_ones (parts := r :: rs) (fun x hx => k x (List.mem_cons_of_mem _ hx)), k p List.mem_cons_self, List.length_cons (a := p)]
    omega
theorem wd_join {ys : List Str} (h : ∀ y ∈ ys, Wd 1 1 y) : Wd ys.length ys.length (Txt.join "" ys) := by
  rw [join_eq]
  have e : tl (Str.join "" ys) = joinL [] (ys.map tl) := by
    rw [tl_join]
    rfl
  have hl : (Str.join "" ys).length = ys.length := by
    have z : (tl (Str.join "" ys)).length = ys.length := by
      rw [e, joinL_ones (fun p hp => ?_), List.length_map]
      obtain ⟨y, hy, rfl⟩ := List.mem_map.mp hp
      have w := h y hy
      have e1 : (tl y).length = y.length := by
        show y.cps.toList.length = y.cps.size
        exact Array.length_toList
      rw [e1]
      exact Nat.le_antisymm w.l1 w.l0
    have e2 : (tl (Str.join "" ys)).length = (Str.join "" ys).length := by
      show (Str.join "" ys).cps.toList.length = (Str.join "" ys).cps.size
      exact Array.length_toList
    rw [← e2, z]
  refine ⟨Nat.le_of_eq hl.symm, Nat.le_of_eq hl, fun c hc => ?_⟩
  have hc' : c ∈ tl (Str.join "" ys) := hc
  rw [e] at hc'
  refine joinL_all (q := fun c => 97 ≤ c ∧ c ≤ 122) (fun p hp c hc => ?_) c hc'
  obtain ⟨y, hy, rfl⟩ := List.mem_map.mp hp
  exact (h y hy).az c hc
theorem sum_ones {ys : List Str} (h : ∀ y ∈ ys, Wd 1 1 y) : (ys.map (·.length)).sum = ys.length := by
  induction ys with
  | nil => rfl
  | cons y r ih =>
    have w := h y List.mem_cons_self
    rw [List.map_cons, List.sum_cons, ih (fun x hx => h x (List.mem_cons_of_mem _ hx)), List.length_cons]
    have := w.l0
    have := w.l1
    omega
theorem cut_head {z : Str} {a : Nat} (h : a ≤ z.length) : (cutS z none (some (a : Int))).length ≤ a := by
  show (((z.cps.toList.drop (HT.sIx z.length 0 none)).take (HT.sIx z.length z.length (some (a : Int)) - HT.sIx z.length 0 none)).toArray).size ≤ a
  rw [HT.sIx_nat, HT.sIx_none, List.size_toArray, List.length_take]
  omega
theorem cut_tail {z : Str} {a : Nat} (h : a ≤ z.length) : (cutS z (some (a : Int)) none).length ≤ z.length - a := by
  show (((z.cps.toList.drop (HT.sIx z.length 0 (some (a : Int)))).take (HT.sIx z.length z.length none - HT.sIx z.length 0 (some (a : Int)))).toArray).size ≤ z.length - a
  rw [HT.sIx_nat, HT.sIx_none, List.size_toArray, List.length_take, List.length_drop]
  omega
def spWords : Sp := fun vs H Q _ => ∃ (p c : Addr) (ns : List Int) (u r : Int) (m : Nat), vs = [.ref p, .int (m : Int)] ∧ PenAt H p c ns u r ∧ u + 11 ≤ 1000000 ∧ m ≤ 100 ∧
  ∀ (l : Addr) (ws : List Str) (u' r' : Int) (H' : Hp), H' l = some (.lst (ws.map V.str)) → ws.length = m → (∀ z ∈ ws, Wd 1 8 z) → u' ≤ u + 11 → PenAt H' p c ns u' r' → SameP p H H' → Q (.ref l) H'
theorem abc_az : ∀ c ∈ (("abcdefghijklmnopqrstuvwxyz" : Str)).cps.toList, 97 ≤ c ∧ c ≤ 122 := by decide +kernel
theorem abc_len : (("abcdefghijklmnopqrstuvwxyz" : Str)).length = 26 := by decide +kernel
theorem PenAt.upd {H : Hp} {p c : Addr} {ns : List Int} {u r : Int} (P : PenAt H p c ns u r) {l : Addr} {o : HO} (h1 : l ≠ p) (h2 : l ≠ c) : PenAt (L2.upd H l o) p c ns u r := by
  obtain ⟨kvs, hp, k2⟩ := P.ob
  exact ⟨⟨kvs, by rw [upd_ne h1.symm]; exact hp, k2⟩, by rw [upd_ne h2.symm]; exact P.cl, P.few, P.u0, P.r0⟩
theorem len_app (x y : Str) : (x ++ y).length = x.length + y.length := by
  show (x ++ y).cps.size = _
  rw [Str.cps_append, Array.size_append]
  rfl
theorem abc_at {i : Int} (h0 : 0 ≤ i) (h1 : i < 26) : ∃ c, c ∈ (("abcdefghijklmnopqrstuvwxyz" : Str)).cps.toList ∧ atI (("abcdefghijklmnopqrstuvwxyz" : Str)).cps.toList i = some c := by
  have hl : (("abcdefghijklmnopqrstuvwxyz" : Str)).cps.toList.length = 26 := by decide +kernel
  obtain ⟨n, rfl⟩ : ∃ n : Nat, i = (n : Int) := ⟨i.toNat, by omega⟩
  have hn : n < (("abcdefghijklmnopqrstuvwxyz" : Str)).cps.toList.length := by omega
  refine ⟨_, List.getElem_mem hn, ?_⟩
  exact atI_nat (List.getElem?_eq_getElem hn)
section
variable {P : Program} {w : World} {K : PySem.W.Frag} {mg : Str → Option Value} {base : Heap}
abbrev nWords : List Str := ["_law_pen_here", "_law_many", "_law_letters", "_law_k", "_law_stem", "_law_front", "_law_step", "_law_at", "_law_tail", "_law_found", "_law_sign"]
theorem scWords : FnScope nWords ["_law_pen_here", "_law_many"] (defScope sWords) := ⟨rfl, rfl, rfl, by decide +kernel, rfl, by decide +kernel, by decide +kernel⟩
theorem ok_words {f : Addr} {fd : FuncData} (F : Fun K "_law_words" "_law_words" sWords f fd) (B : Blt mg) (HD : Has P w K mg base 1 "_law_draw" ["_law_pen_here", "_law_many"] spDraw) (HP : Has P w K mg base 2 "_law_pick" ["_law_pen_here", "_law_options"] (spPick K)) :
    FnOk P w K mg base CX0 3 f fd ["_law_pen_here", "_law_many"] spWords := by
  obtain ⟨g1, gd1, G1, b1, m1, k1⟩ := HD
  obtain ⟨g2, gd2, G2, b2, m2, k2⟩ := HP
  refine F.ok scWords (fun vs H Q E h => ?_) (fun cdv A outer s H vs Q E hr h => ?_)
  · obtain ⟨p, c, ns, u, r, m, rfl, _⟩ := h
    rfl
  · obtain ⟨p, c, ns, u, r, m, rfl, PA, hu6, hm, k⟩ := h
    have hr1 : Room 1 _ := hr.mono (by decide)
    have nd : nWords.Nodup := scWords.nd
    have mI := B.int
    have mL := B.len
    refine ⟨_, pss_cons (ps_set (i := 2) nd rfl (Or.inr rfl) pe_str)
      (pss_cons (ps_set (i := 4) nd rfl (Or.inl rfl) (pe_bm PySem.F.plainAttrs_str PySem.F.slot_str_join PySem.F.type_str_join mt_join pe_str (pa_cons
        (pe_lc (own := [("_law_k", 3)]) (g := gName 3) (tt := tYes) rfl nd (pi_range1 (by rfl) B.range (pa_cons (pe_call G1 hr1 (by rfl) m1 k1 b1 .nil pass0 (pa_cons (pv 0) (pa_cons pe_int pa_nil))) pa_nil)) (blkOk_by (N := nWords) (sc := defScope sWords) (by decide +kernel))
          (fun _ _ _ _ _ => pg_name (i := 3) nd rfl (Or.inl rfl)) (fun _ _ _ _ _ => pts_nil) (fun _ _ _ _ _ => pe_call G2 hr (by rfl) m2 k2 b2 .nil pass0 (pa_cons (pv 0) (pa_cons (pv 2) pa_nil)))) pa_nil)))
      (pss_cons (ps_par3 (i := 5) (j := 6) (l := 7) rfl nd rfl rfl rfl (by decide) (by decide) (by decide) rfl rfl rfl
        (pa_cons (pe_call G1 hr1 (by rfl) m1 k1 b1 .nil pass0 (pa_cons (pv 0) (pa_cons pe_int pa_nil)))
        (pa_cons (pe_call G2 hr (by rfl) m2 k2 b2 .nil pass0 (pa_cons (pv 0) (pa_cons (by walk_at "pe") pa_nil)))
        (pa_cons (pe_call G1 hr1 (by rfl) m1 k1 b1 .nil pass0 (pa_cons (pv 0) (pa_cons (pe_op op_add (pe_callB call_len_str (by rfl) mL PySem.boot_len (pa_cons (pv 4) pa_nil)) pe_int) pa_nil))) pa_nil))) (by rfl))
      (pss_cons (ps_par (i := 8) (j := 9) rfl nd rfl rfl (by decide) rfl rfl (pa_cons (pe_slice sl_str (pv 4) (po_some (pv 7)) po_none) (pa_cons (pe_lst pa_nil) pa_nil)) (by rfl))
      (pss_cons (ps_for PassesOwn.never rfl (pi_range1 (by rfl) B.range (pa_cons (pv 1) pa_nil)) (pg_name (i := 3) nd rfl (Or.inl rfl))
        (pss_cons (ps_set (i := 10) nd rfl (Or.inl rfl) (pe_ix ix_str (pv 2) (by walk_at "pe") (fun _ _ => rfl)))
        (pss_one (ps_expr (pe_bm PySem.F.plainAttrs_list PySem.F.slot_list_append PySem.F.type_list_append mt_append (pv 9) (pa_cons
          (pe_op op_add_str (pe_op op_add_str (pe_slice sl_str (pv 4) po_none (po_some (pv 7))) (pv 10))
            (pe_slice sl_str (pv 8) po_none (po_some (pe_op op_sub (pe_callB call_len_str (by rfl) mL PySem.boot_len (pa_cons (pv 8) pa_nil)) (pe_op op_mul (pv 3) (pe_callTy call_int1 (by rfl) mI bInt (pa_cons (pe_cmpR op_lt (pv 3) pe_int (nomark _)) pa_nil))))))) pa_nil))))))
      (pss_one (ps_ret (pv 9))))))), ?_⟩
    -- letters
    refine seq_step (fun σ' H' => σ' = [some (.ref p), some (.int (m : Int)), some (.str "abcdefghijklmnopqrstuvwxyz"), none, none, none, none, none, none, none, none] ∧ H' = H) (fun R hR => hR _ _ ⟨rfl, rfl⟩) (fun σ1 H1 h1 => ?_)
    obtain ⟨rfl, rfl⟩ := h1
    -- stem
    refine seq_step (fun σ' H' => ∃ (z : Str) (x : Option V) (u' r' : Int), σ' = [some (.ref p), some (.int (m : Int)), some (.str "abcdefghijklmnopqrstuvwxyz"), x, some (.str z), none, none, none, none, none, none] ∧ Wd 0 7 z ∧ u' ≤ u + 8 ∧ PenAt H' p c ns u' r' ∧ SameP p H1 H') (fun R hR => ?_) (fun σ2 H2 h2 => ?_)
    · refine ⟨rfl, ?_⟩
      refine ⟨_, rfl, p, c, ns, u, r, 8, rfl, PA, by omega, by decide, by decide, fun d u1 r1 H2 d0 d1 hu1 PA1 keep1 => ?_⟩
      refine ⟨d, rfl, by omega, by omega, fun D hD => ?_⟩
      have nDp : D ≠ p := by
        obtain ⟨kvs, hp, _⟩ := PA1.ob
        exact (ne_of_none hp hD).symm
      refine lc_range (lo := 0) (n := d.toNat) (fun i H' => ∃ (u' r' : Int) (ys : List Str), PenAt H' p c ns u' r' ∧ u' ≤ u1 + i ∧ SameP p H2 H' ∧ H' D = some (.lst (ys.map V.str)) ∧ ys.length = i ∧ ∀ y ∈ ys, Wd 1 1 y)
        ⟨u1, r1, [], PA1.same (same_new hD), by omega, .of (same_new hD), upd_same, rfl, fun _ h => nomatch h⟩ ?_ ?_
      · rintro i H' hi ⟨u', r', ys, PA', hu', keep', gD, hy, hw⟩
        refine ⟨rfl, _, rfl, _, rfl, p, c, .str "abcdefghijklmnopqrstuvwxyz", ns, u', r', rfl, PA', by omega, .inr ⟨_, rfl, by rw [abc_len]; decide, by rw [abc_len]; decide, fun e u2 r2 H3 he hu2 PA2 keep2 => ?_⟩⟩
        have nC : c ≠ D := ne_of_none PA1.cl hD
        refine ⟨_, keep2 _ _ gD nDp, by rw [List.length_map, hy]; exact Nat.lt_of_lt_of_le hi (Nat.le_trans (by omega : d.toNat ≤ 8) (by decide)), u2, r2, ys ++ [⟨#[e]⟩], ?_, by omega, ?_, ?_, by simp [hy], ?_⟩
        · obtain ⟨kvs, hp, k2⟩ := PA2.ob
          exact ⟨⟨kvs, by rw [upd_ne nDp.symm]; exact hp, k2⟩, by rw [upd_ne nC]; exact PA2.cl, PA2.few, PA2.u0, PA2.r0⟩
        · intro b o eb nb
          rw [upd_ne (ne_of_none eb hD)]
          exact keep2 _ _ (keep' _ _ eb nb) nb
        · rw [upd_same, List.map_append]
          rfl
        · intro y hy'
          rcases List.mem_append.mp hy' with h | h
          · exact hw y h
          · rw [List.mem_singleton.mp h]
            exact wd_sign (abc_az e he)
      · rintro H' ⟨u', r', ys, PA', hu', keep', gD, hy, hw⟩
        have wj := wd_join hw
        refine ⟨_, D, ys, rfl, rfl, .inl (.inl (.inl gD)), ?_, hR _ _ ⟨_, none, u', r', rfl, ⟨Nat.zero_le _, Nat.le_trans wj.l1 (by omega), wj.az⟩, by omega, PA', keep1.trans keep'⟩⟩
        rw [sum_ones hw]
        have e0 : ("" : Str).length = 0 := by decide +kernel
        rw [e0]
        omega
    obtain ⟨z, x3, u2, r2, rfl, wz, hu2, PA2, keep2⟩ := h2
    have hz7 := wz.l1
    have hzs : z.length ≤ sizeLine := Nat.le_trans hz7 (by decide)
    -- front, step, at
    refine seq_step (fun σ' H' => ∃ (f s a : Int) (u' r' : Int), σ' = [some (.ref p), some (.int (m : Int)), some (.str "abcdefghijklmnopqrstuvwxyz"), x3, some (.str z), some (.int f), some (.int s), some (.int a), none, none, none] ∧ 0 ≤ f ∧ f < 26 ∧ 1 ≤ s ∧ s ≤ 17 ∧ 0 ≤ a ∧ a ≤ z.length ∧ u' ≤ u + 11 ∧ PenAt H' p c ns u' r' ∧ SameP p H1 H') (fun R hR => ?_) (fun σ3 H3 h3 => ?_)
    · refine ⟨_, rfl, p, c, ns, u2, r2, 26, rfl, PA2, by omega, by decide, by decide, fun f u3 r3 H3 f0 f1 hu3 PA3 keep3 => ?_⟩
      refine ⟨_, rfl, by show 8 ≤ sizeLine; decide, fun l hl => ?_⟩
      have sl := same_new (o := .lst [.int 1, .int 3, .int 5, .int 7, .int 9, .int 11, .int 15, .int 17]) hl
      refine ⟨p, c, .ref l, ns, u3, r3, rfl, PA3.same sl, by omega, .inl ⟨l, _, rfl, upd_same, by show 0 < 8; decide, by show 8 ≤ 1000; decide, fun v u4 r4 H4 hm4 hu4 PA4 keep4 => ?_⟩⟩
      obtain ⟨st, rfl, s0, s1⟩ : ∃ st : Int, v = .int st ∧ 1 ≤ st ∧ st ≤ 17 := by
        simp only [List.mem_cons, List.not_mem_nil, or_false] at hm4
        rcases hm4 with h | h | h | h | h | h | h | h <;> exact ⟨_, h, by decide, by decide⟩
      refine ⟨_, rfl, _, rfl, _, rfl, hzs, _, _, rfl, rfl, p, c, ns, u4, r4, _, rfl, PA4, by omega, by omega, by omega, fun a u5 r5 H5 a0 a1 hu5 PA5 keep5 => ?_⟩
      exact ⟨_, _, _, rfl, hR _ _ ⟨f, st, a, u5, r5, rfl, f0, f1, s0, s1, a0, by omega, by omega, PA5, (keep2.trans keep3).trans ((SameP.of sl).trans (keep4.trans keep5))⟩⟩
    obtain ⟨f0, st, a, u3, r3, rfl, q0, q1, q2, q3, q4, q5, hu3, PA3, keep3⟩ := h3
    clear keep2 PA2
    obtain ⟨an, rfl⟩ : ∃ n : Nat, a = (n : Int) := ⟨a.toNat, by omega⟩
    have han : an ≤ z.length := by omega
    have wt := wd_cut wz (some (an : Int)) none
    have lt := cut_tail (z := z) han
    -- tail, found
    refine seq_step (fun σ' H' => ∃ (l : Addr), σ' = [some (.ref p), some (.int (m : Int)), some (.str "abcdefghijklmnopqrstuvwxyz"), x3, some (.str z), some (.int f0), some (.int st), some (.int (an : Int)), some (.str (cutS z (some (an : Int)) none)), some (.ref l), none] ∧ l ≠ p ∧ l ≠ c ∧ H3 l = none ∧ H' l = some (.lst []) ∧ PenAt H' p c ns u3 r3 ∧ SameP p H1 H') (fun R hR => ?_) (fun σ4 H4 h4 => ?_)
    · refine ⟨_, rfl, _, rfl, _, rfl, _, rfl, hzs, Nat.zero_le _, fun l hl => ⟨_, _, rfl, ?_⟩⟩
      have nl : l ≠ p := by
        obtain ⟨kvs, hp, _⟩ := PA3.ob
        exact (ne_of_none hp hl).symm
      exact hR _ _ ⟨l, rfl, nl, (ne_of_none PA3.cl hl).symm, hl, upd_same, PA3.same (same_new hl), keep3.trans (.of (same_new hl))⟩
    obtain ⟨l, rfl, nlp, nlc, hl3, gl, PA4, keep4⟩ := h4
    -- for k in range(many)
    refine seq_step (fun σ' H' => ∃ (x y : Option V) (ws : List Str), σ' = [some (.ref p), some (.int (m : Int)), some (.str "abcdefghijklmnopqrstuvwxyz"), x, some (.str z), some (.int f0), some (.int st), some (.int (an : Int)), some (.str (cutS z (some (an : Int)) none)), some (.ref l), y] ∧ H' l = some (.lst (ws.map V.str)) ∧ ws.length = m ∧ (∀ z ∈ ws, Wd 1 8 z) ∧ PenAt H' p c ns u3 r3 ∧ SameP p H1 H') (fun R hR => ?_) (fun σ5 H5 h5 => ?_)
    · refine ⟨_, rfl, _, rfl, by omega, by omega, for_range (n := m) (fun i σ' H' => ∃ (x y : Option V) (ws : List Str), σ' = [some (.ref p), some (.int (m : Int)), some (.str "abcdefghijklmnopqrstuvwxyz"), x, some (.str z), some (.int f0), some (.int st), some (.int (an : Int)), some (.str (cutS z (some (an : Int)) none)), some (.ref l), y] ∧ H' l = some (.lst (ws.map V.str)) ∧ ws.length = i ∧ (∀ z ∈ ws, Wd 1 8 z) ∧ PenAt H' p c ns u3 r3 ∧ SameP p H1 H')
        ⟨x3, none, [], rfl, gl, rfl, (fun _ h => nomatch h), PA4, keep4⟩ ?_ (fun σ' H' h => hR _ _ h)⟩
      rintro i σ' H' hi ⟨x, y, ws, rfl, gw, hw, ww, PA', keep'⟩
      refine seq_step (fun σ' H'' => ∃ e : Nat, σ' = [some (.ref p), some (.int (m : Int)), some (.str "abcdefghijklmnopqrstuvwxyz"), some (.int (0 + (i : Int))), some (.str z), some (.int f0), some (.int st), some (.int (an : Int)), some (.str (cutS z (some (an : Int)) none)), some (.ref l), some (.str ⟨#[e]⟩)] ∧ (97 ≤ e ∧ e ≤ 122) ∧ H'' = H') (fun R hR => ?_) (fun σ6 H6 h6 => ?_)
      · have hx0 : 0 ≤ (f0 + st * (0 + (i : Int))) % 26 := Int.emod_nonneg _ (by decide)
        have hx1 : (f0 + st * (0 + (i : Int))) % 26 < 26 := Int.emod_lt_of_pos _ (by decide)
        obtain ⟨e, he, hae⟩ := abc_at hx0 hx1
        refine ⟨_, rfl, _, rfl, _, rfl, _, rfl, _, _, rfl, rfl, .inl ⟨by omega, by omega⟩, _, _, rfl, rfl, .inl ⟨_, rfl, _, _, rfl, rfl, by show (0 : Int) < 26; decide, _, _, e, rfl, rfl, by rw [abc_len]; decide, hae, ?_⟩⟩
        exact hR _ _ ⟨e, rfl, abc_az e he, rfl⟩
      obtain ⟨e, rfl, he, rfl⟩ := h6
      have wsg := wd_sign he
      have wf := wd_cut wz none (some (an : Int))
      have lf := cut_head (z := z) han
      refine ⟨_, rfl, .inl ⟨rfl, _, .inl (.inl gw)⟩, _, rfl, _, rfl, _, rfl, _, rfl, hzs, _, rfl, _, _, rfl, rfl, ?_, _, rfl, _, rfl, _, rfl, ?_, _, rfl, _, rfl, _, _, rfl, rfl, .inr ⟨_, rfl, _, _, rfl, rfl, ?_, _, _, rfl, rfl, _, rfl, _, rfl, ?_, _, _, rfl, rfl, ?_, l, _, _, rfl, rfl, gw, ?_, ?_⟩⟩
      · show _ + 1 ≤ sizeLine
        exact Nat.le_trans (by omega : _ ≤ 8) (by decide)
      · exact Nat.le_trans (by omega : _ ≤ 8) (by decide)
      · exact .inr ⟨by split <;> decide, by split <;> decide⟩
      · exact Nat.le_trans (by omega : _ ≤ 8) (by decide)
      · rw [len_app]
        exact Nat.le_trans (Nat.add_le_add_left (cutS_length _ _ _) _) (Nat.le_trans (by show _ + 1 + _ ≤ 8; omega) (by decide))
      · rw [List.length_map, hw]
        exact Nat.lt_of_lt_of_le hi (Nat.le_trans hm (by decide))
      · refine ⟨_, _, ws ++ [cutS z none (some (an : Int)) ++ ⟨#[e]⟩ ++ cutS (cutS z (some (an : Int)) none) none (some ((cutS z (some (an : Int)) none).length - (0 + (i : Int)) * (if decide (0 + (i : Int) < 2) = true then 1 else 0)))], rfl, ?_, ?_, ?_, ?_, ?_⟩
        · rw [upd_same, List.map_append]
          rfl
        · rw [List.length_append, hw]
          rfl
        · intro v hv
          rcases List.mem_append.mp hv with h | h
          · exact ww v h
          · rw [List.mem_singleton.mp h]
            have wall := wd_app (wd_app wf wsg) (wd_cut wt none (some ((cutS z (some (an : Int)) none).length - (0 + (i : Int)) * (if decide (0 + (i : Int) < 2) = true then 1 else 0))))
            refine ⟨wall.l0, ?_, wall.az⟩
            rw [len_app, len_app]
            exact Nat.le_trans (Nat.add_le_add_left (cutS_length _ _ _) _) (by show _ + 1 + _ ≤ 8; omega)
        · exact PA'.upd nlp nlc
        · intro b o eb nb
          rw [upd_ne (ne_of_none (keep3 _ _ eb nb) hl3)]
          exact keep' _ _ eb nb
    obtain ⟨x, y, ws, rfl, g5, hw5, ww, PA5, keep5⟩ := h5
    exact ⟨_, rfl, k l ws u3 r3 H5 g5 hw5 ww (by omega) PA5 keep5⟩
end
end Ld
/-! sorted(d, key=str), d a dict with texts as keys -/
namespace Ld
open PySem PyProof.Rows
theorem kss_t (a : Addr) : Builtin.«list.sort» ⟨[.ref a], [(Str.ofString "key", .type "str")]⟩ = ksk_tree a (.type "str") false := rfl
section
variable {prog : Program} {w : World} {A : Around} {E : Value → Shared → Prop} {s : Shared} {P : PySem.Fin → Shared → Prop}
theorem kss_tail {a kS : Addr} {keys vs : List Value} {ss : List Str} {e e1 : Nat} {st : SortSt} (hk : s.heap.get? kS = some (seqObj "list" vs.toArray e)) (ha : s.heap.get? a = some (seqObj "list" #[] e1)) (hka : kS ≠ a) (hz : vs.length ≤ sizeLine)
    (hp : (arrOf st).Perm (pairsOf vs)) (hfl : failedOf st = none)
    (h : ∀ h' c, (∀ b o, b ≠ a → b ≠ kS → s.heap.get? b = some o → h'.get? b = some o) → h'.get? a = some (seqObj "list" ((arrOf st).map (·.2)) c) → P (.done (.ret .none)) { s with heap := h' }) :
    wpAny (model prog w) A (ksk_tail a false e1 (.ref kS) st) P E s := by
  have hout : ((arrOf st).map (·.2)).size = vs.length := by rw [Array.size_map, hp.size_eq, pairsOf_size]
  have s1 := Heap.SameBut.update s.heap kS (Obj.mapSeq fun _ => (#[] : Array Value))
  have na1 : (s.heap.update kS (Obj.mapSeq fun _ => (#[] : Array Value))).get? a = some (seqObj "list" #[] e1) := (s1.2 a hka.symm).trans ha
  have s2 := Heap.SameBut.update (s.heap.update kS (Obj.mapSeq fun _ => (#[] : Array Value))) a (Obj.mapSeq fun _ => (arrOf st).map (·.2))
  obtain ⟨c2, hc2⟩ : ∃ c2, ((s.heap.update kS (Obj.mapSeq fun _ => (#[] : Array Value))).update a (Obj.mapSeq fun _ => (arrOf st).map (·.2))).get? a = some (seqObj "list" ((arrOf st).map (·.2)) c2) :=
    ⟨_, get?_update_seq na1 fun _ => (arrOf st).map (·.2)⟩
  unfold ksk_tail
  try dsimp only
  refine wpAny_bind (listUpdate_at hk rfl ?_ (by rw [List.size_toArray]; exact hz) (Nat.zero_le _))
  refine wpAny_bind (wpAny_letGo ?_)
  refine wpAny_bind (seqEpoch_at na1 rfl ?_)
  simp only [Bool.false_eq_true, if_false]
  refine wpAny_bind (listUpdate_at na1 rfl ?_ (Nat.zero_le _) (Nat.le_trans (Nat.le_of_eq hout) (Nat.le_trans hz (Nat.le_succ _))))
  rw [hfl]
  simp only [bne_self_eq_false, Bool.false_eq_true, if_false]
  exact wpAny_pure (h _ c2 (fun b o h1 h2 eb => (s2.2 b h1).trans ((s1.2 b h2).trans eb)) hc2)
theorem kss_end {a kS : Addr} {vs : List Value} {ss : List Str} {e e1 : Nat} (hS : StrsAre vs ss) (hk : s.heap.get? kS = some (seqObj "list" vs.toArray e)) (ha : s.heap.get? a = some (seqObj "list" #[] e1)) (hka : kS ≠ a) (hz : vs.length ≤ sizeLine)
    (h : ∀ h' out ss' c, (∀ b o, b ≠ a → b ≠ kS → s.heap.get? b = some o → h'.get? b = some o) → h'.get? a = some (seqObj "list" out c) → StrsAre out.toList ss' → ss'.Perm ss → sortedS ss' = true → P (.done (.ret .none)) { s with heap := h' }) :
    wpAny (model prog w) A (ksk_end a false vs.toArray e1 (.ref kS) vs.toArray) P E s := by
  have hsz : vs.toArray.size = vs.length := by simp
  have fin : ∀ st : SortSt, (arrOf st).Perm (pairsOf vs) → failedOf st = none → SortedToK strKind (arrOf st) (pairsOf vs).size → wpAny (model prog w) A (ksk_tail a false e1 (.ref kS) st) P E s := by
    intro st hp hf hs
    obtain ⟨ss', h1, h2, h3⟩ := sorted_out_str hS hp hs
    exact kss_tail (keys := vs) (ss := ss) hk ha hka hz hp hf fun h' c keep hc => h h' _ ss' c keep hc h1 h2 h3
  unfold ksk_end
  try dsimp only
  simp only [Bool.false_eq_true, if_false]
  by_cases h2 : vs.toArray.size < 2
  · rw [if_pos h2, if_pos h2]
    refine wpAny_bind (wpAny_pure ?_)
    rw [StateT.run_pure]
    refine wpAny_bind (wpAny_pure ?_)
    try dsimp only
    refine fin (SortSt.mk' general' (vs.toArray.zip vs.toArray) #[] 7 none) (Array.Perm.refl _) rfl ?_
    intro i j hij hj
    have : i = j := by rw [pairsOf_size] at hj; omega
    subst this; exact KeyOrd.kle_refl _
  · rw [if_neg h2, if_neg h2]
    obtain ⟨v₁, v₂, rest, rfl⟩ : ∃ v₁ v₂ rest, vs = v₁ :: v₂ :: rest := by
      match vs, hsz, h2 with
      | [], _, h2 => simp at h2
      | [_], _, h2 => simp at h2
      | v₁ :: v₂ :: rest, _, _ => exact ⟨v₁, v₂, rest, rfl⟩
    rw [keyKind_strs hS]
    refine wpAny_bind (wpAny_pure ?_)
    refine wpAny_bind (wpAny_mono (wpS_sortRunsAny (κ := strKind) (a₀ := pairsOf (v₁ :: v₂ :: rest)) (st := SortSt.mk' oneType' ((v₁ :: v₂ :: rest).toArray.zip (v₁ :: v₂ :: rest).toArray) #[] 7 none)
      (Q := fun _ st' => (arrOf st').Perm (pairsOf (v₁ :: v₂ :: rest)) ∧ failedOf st' = none ∧ SortedToK strKind (arrOf st') (pairsOf (v₁ :: v₂ :: rest)).size)
      strKind_oneLt hS.keysOf ⟨Array.Perm.refl _, rfl, rfl⟩ rfl (by rw [pairsOf_size]; simp) fun st' a1 a2 a3 => ⟨a1, a2, a3⟩) ?_ fun _ _ e => e)
    rintro ⟨⟨⟩, st'⟩ s' ⟨rfl, hp, hf, hs⟩
    try dsimp only
    exact fin st' hp hf hs
theorem kss_sort {a : Addr} {vs : List Value} {ss : List Str} {n : Nat} (ho : s.heap.get? a = some (seqObj "list" vs.toArray n)) (hS : StrsAre vs ss) (hz : vs.length < sizeLine)
    (h : ∀ h' out ss' c, (∀ b o, b ≠ a → s.heap.get? b = some o → h'.get? b = some o) → h'.get? a = some (seqObj "list" out c) → StrsAre out.toList ss' → ss'.Perm ss → sortedS ss' = true → P (.done (.ret .none)) { s with heap := h' }) :
    wpAny (model prog w) A (ksk_tree a (.type "str") false) P E s := by
  have hz' : vs.length ≤ sizeLine := Nat.le_of_lt hz
  have ha : a < s.heap.objs.size := Heap.lt_size ho
  have s1 := Heap.SameBut.update s.heap a (Obj.mapSeq fun _ => (#[] : Array Value))
  obtain ⟨e1, ho1⟩ : ∃ e1, (s.heap.update a (Obj.mapSeq fun _ => (#[] : Array Value))).get? a = some (seqObj "list" #[] e1) := ⟨_, get?_update_seq ho fun _ => #[]⟩
  have hkS : ((s.heap.update a (Obj.mapSeq fun _ => (#[] : Array Value))).push (seqObj "tuple" vs.toArray 0)).objs.size = s.heap.objs.size + 1 := by rw [size_push', Heap.size_update]
  unfold ksk_tree
  refine wpAny_bind (listItems_at ho rfl ?_)
  refine wpAny_bind (listUpdate_at ho rfl ?_ (by rw [List.size_toArray]; exact hz') (Nat.zero_le _))
  refine wpAny_bind (seqEpoch_at ho1 rfl ?_)
  refine wpAny_bind (wpAny_newTuple ?_ (by show vs.length ≤ _; exact hz'))
  refine wpAny_bind (wpAny_newList ?_ (Nat.zero_le _))
  refine wpAny_holding ?_
  obtain ⟨g, hg⟩ : ∃ g, ((s.heap.update a (Obj.mapSeq fun _ => (#[] : Array Value))).push (seqObj "tuple" vs.toArray 0)).push (seqObj "list" #[] 0) = g := ⟨_, rfl⟩
  obtain ⟨kS, ek⟩ : ∃ kS, ((s.heap.update a (Obj.mapSeq fun _ => (#[] : Array Value))).push (seqObj "tuple" vs.toArray 0)).objs.size = kS := ⟨_, rfl⟩
  have hkg : g.get? kS = some (seqObj "list" #[] 0) := by rw [← hg, ← ek]; exact Heap.get?_push_size _ rfl
  have hag : g.get? a = some (seqObj "list" #[] e1) := by rw [← hg]; exact Heap.get?_push_of_some _ (Heap.get?_push_of_some _ ho1)
  have hka : kS ≠ a := by rw [← ek, hkS]; exact Nat.ne_of_gt (Nat.lt_succ_of_lt ha)
  have keep0 : ∀ b o, b ≠ a → s.heap.get? b = some o → g.get? b = some o ∧ b ≠ kS := fun b o hb eb =>
    ⟨by rw [← hg]; exact Heap.get?_push_of_some _ (Heap.get?_push_of_some _ ((s1.2 b hb).trans eb)), by rw [← ek, hkS]; exact Nat.ne_of_lt (Nat.lt_succ_of_lt (Heap.lt_size eb))⟩
  show wpAny (model prog w) _ (ksk_rest a (.type "str") false vs.toArray e1 (.ref ((s.heap.update a (Obj.mapSeq fun _ => (#[] : Array Value))).push (seqObj "tuple" vs.toArray 0)).objs.size)) P E { s with heap := ((s.heap.update a (Obj.mapSeq fun _ => (#[] : Array Value))).push (seqObj "tuple" vs.toArray 0)).push (seqObj "list" #[] 0) }
  rw [hg, ek]
  unfold ksk_rest
  refine wpAny_bind (wpAny_rule ?_)
  first
    | rw [List.forIn_toArray]
    | (rw [← Array.forIn_toList]; simp only [List.toList_toArray])
    | rw [← Array.forIn_toList]
  refine wpAny_bind (ksk_fold (fun i s' => ∃ h' e, s' = { s with heap := h' } ∧ (∀ b o, b ≠ kS → g.get? b = some o → h'.get? b = some o) ∧ h'.get? kS = some (seqObj "list" (vs.take i).toArray e)) vs 0 _
    ⟨g, 0, rfl, fun b o _ eb => eb, hkg⟩ ?step ?done)
  case step =>
    rintro j x s' hx ⟨h', e, rfl, keep, hk⟩
    simp only [Nat.zero_add] at hk ⊢
    have hj : j < vs.length := (List.getElem?_eq_some_iff.mp hx).1
    obtain ⟨z, t, rfl⟩ := hS.all x (List.mem_of_getElem? hx)
    refine wpAny_bind (wpAny_attempt (PySem.P.str_of_str ?_))
    try dsimp only
    have s2 := Heap.SameBut.update h' kS (Obj.mapSeq (·.push (.str z t)))
    obtain ⟨c2, hc2⟩ : ∃ c2, (h'.update kS (Obj.mapSeq (·.push (.str z t)))).get? kS = some (seqObj "list" ((vs.take j).toArray.push (.str z t)) c2) := ⟨_, get?_update_seq hk (·.push (.str z t))⟩
    have et : ((vs.take j).toArray.push (Value.str z t)) = (vs.take (j + 1)).toArray := by
      rw [List.take_add_one, hx]
      simp
    have hl : (vs.take j).length ≤ j := by rw [List.length_take]; omega
    refine wpAny_bind (listUpdate_at hk rfl ?_ (by rw [List.size_toArray]; omega) (by rw [Array.size_push, List.size_toArray]; omega))
    refine wpAny_pure ⟨rfl, _, c2, rfl, fun b o hb eb => (s2.2 b hb).trans (keep b o hb eb), by rw [hc2, et]⟩
  case done =>
    rintro s' ⟨h', e, rfl, keep, hk⟩
    have e3 : vs.take (0 + vs.length) = vs := List.take_of_length_le (by omega)
    rw [e3] at hk
    try dsimp only
    refine wpAny_bind (listItems_at hk rfl ?_)
    refine kss_end (s := { s with heap := h' }) hS hk (keep a _ hka.symm hag) hka hz' fun h2 out ss' c keep2 h21 h22 h23 h24 => h h2 out ss' c (fun b o hb eb => ?_) h21 h22 h23 h24
    obtain ⟨k1, k2⟩ := keep0 b o hb eb
    exact keep2 b o hb k2 (keep b o k2 k1)
end
end Ld
namespace Ld
open PySem PySem.Spec PyProof.Rows L2
section
variable {X : Cx}
/-- sorted(d, key=str) -/
def rSortedDK : List V → List V → Hp → VK → Prop := fun xs zs H Q => ∃ (a : Addr) (kvs : List (Key × V)) (ks : List Str), xs = [.ref a] ∧ zs = [.ty "str"] ∧ Rd H a (.dK kvs) ∧ kvs.map (·.1) = ks.map Sum.inr ∧ ks.length < sizeLine ∧
    ∀ ys p, ys.Perm ks → sortedS ys = true → H p = none → Q (.ref p) (upd H p (.lst (ys.map V.str)))
theorem cr_sortedDK (hcalm : X.calm = true) : CallRK X (.builtin "sorted") ["key"] rSortedDK := by
  intro pins s σ H xs zs us ws Q I r rz q
  obtain ⟨a, kvs, ks, rfl, rfl, hd, hks, h64, q⟩ := q
  obtain ⟨u, rfl, rx⟩ := vals1 r
  obtain ⟨u2, rfl, ru⟩ := vals1 rz
  cases rx
  cases (show u2 = Value.type "str" from ru)
  obtain ⟨z, lo, vs, rel, dd⟩ := dk_rd I.hok hd
  obtain ⟨ep, hat⟩ := dd.dictAt
  have hkeys : vs.map (·.1) = ks.map Sum.inr := rel.keys.symm.trans hks
  have hl : vs.length = ks.length := by
    have e := congrArg List.length hkeys
    rw [List.length_map, List.length_map] at e
    exact e
  have h16 : vs.length ≤ sizeLine := by rw [hl]; exact Nat.le_of_lt h64
  show wpAny _ _ (call (.builtin "sorted") [.ref a] [(Str.ofString "key", .type "str")]) _ _ _
  refine call_function_entry_kw kind_sorted plain_sorted entry_sorted (ksk_s1 _ _) ?_
  unfold Builtin.«sorted»
  refine wpAny_bind (m := checkCount "sorted" 1 1 _) (wpAny_pure ?_)
  refine wpAny_bind (PySem.W.kdu_collect (A := X.A.in1) (PySem.W.kdl_dict (knd := mixKind X.prog X.w) (kvs := vs) (ep := ep) lo) (I.ok.hd hcalm) hat h16 fun h' tk acc hk hacc => ?_)
  have hal : acc.toList.length = ks.length := by rw [Array.length_toList, hacc.1, hl]
  have hS : StrsAre acc.toList ks := strs_at hal fun j v e => by
    obtain ⟨k, x, e1, e2⟩ := hacc.2 j v (by rw [← Array.getElem?_toList]; exact e)
    have e3 : (vs.map (·.1))[j]? = some k := by rw [List.getElem?_map, e1]; all_goals rfl
    rw [hkeys, List.getElem?_map] at e3
    cases e4 : ks[j]? with
    | none => rw [e4] at e3; cases e3
    | some y =>
      rw [e4] at e3
      have e5 : Sum.inr y = k := Option.some.inj e3
      subst e5
      obtain ⟨t, ev⟩ := Value.isStrOf_shape (x := y) (v := v) e2
      exact ⟨y, t, rfl, ev⟩
  have I1 : Inv X pins σ H { s with heap := h', toks := tk } := I.kept hk
  refine wpAny_bind (wpAny_newList ?_ (by rw [hal]; exact Nat.le_of_lt h64))
  have hoL : (h'.push (seqObj "list" acc.toList.toArray 0)).get? h'.objs.size = some (seqObj "list" acc.toList.toArray 0) := Heap.get?_push_size _ rfl
  show wpAny _ _ _ _ _ { s with heap := h'.push (seqObj "list" acc.toList.toArray 0), toks := tk }
  refine wpAny_bind (wpAny_holding (wpAny_call_entry_kw slot_list_sort ⟨_, hoL, rfl⟩ entry_list_sort ?_ (ksk_l1 _ _)))
  rw [kss_t]
  refine kss_sort (s := { s with heap := h'.push (seqObj "list" acc.toList.toArray 0), toks := tk }) hoL hS (by rw [hal]; exact h64) fun h2 out ys c keep hc g1 g2 g3 => ⟨_, rfl, ?_⟩
  have hlen : (ys.map V.str).length ≤ sizeLine := by
    rw [List.length_map, g2.length_eq]
    exact Nat.le_of_lt h64
  refine wpAny_pure ⟨_, rfl, .ref h'.objs.size, upd H h'.objs.size (.lst (ys.map V.str)), I1.laid (t' := tk) (fun b u e => ?_) (Nat.le_refl _)
    (show ObjOk X.prog X.w _ _ _ (.lst (ys.map V.str)) from ⟨hlen, out.toList, c, vals_of_strs g1, by rw [Array.toArray_toList]; exact hc⟩), rfl, q ys _ g2 g3 (I1.hok.fresh (Nat.le_refl _))⟩
  have hb : b < h'.objs.size := Heap.lt_size e
  exact keep b _ (Nat.ne_of_lt hb) (Heap.get?_push_of_some _ e)
end
end Ld
namespace Ld
open PySem PySem.Spec PyProof.Rows L2
section
variable {J : It} {n : Nat} {G : Hp → Prop} {Y : Nat → Hp → V → Hp → Prop}
/-- a dict comprehension over a walk -/
theorem dc_it (w : Walk J n G Y) {g : TG} {tt : TT} {tk tv : TE} {vs : List Nat} {σ : L2.St} {H1 : Hp} {D : Addr} {Qd : Hp → Prop} (Pv : Nat → Hp → Prop) (h0 : Pv 0 (upd H1 D (.dK []))) (hG : ∀ i H, i ≤ n → Pv i H → G H)
    (hs : ∀ i x H H', i < n → Pv i H → Y i H x H' → g x (wipe σ vs) H' fun σ2 H2 => wipe σ2 vs = wipe σ vs ∧ tt σ2 H2 fun b H3 =>
      if b = true then tk σ2 H3 fun y H4 => tv σ2 H4 fun z H5 => ∃ kvs k, y = kV k ∧ H5 D = some (.dK kvs) ∧ kvs.length < sizeLine ∧ Pv (i + 1) (upd H5 D (.dK (putK kvs k z))) else Pv (i + 1) H3) (hd : ∀ H, Pv n H → Qd H) :
    ∃ W : Nat → Nat → Hp → Prop, (∃ m, W 0 m (upd H1 D (.dK []))) ∧ ∀ i m H, W i m H →
      (J.stop i H ∧ Qd H) ∨ (J.go i H ∧ ∃ Nx : Hp → Prop, (∀ H', Nx H' → ∃ m', m' < m ∧ W (i + 1) m' H') ∧ ∀ x H', J.yld i H x H' → g x (wipe σ vs) H' fun σ2 H2 => wipe σ2 vs = wipe σ vs ∧ tt σ2 H2 fun b H3 =>
        if b = true then tk σ2 H3 fun y H4 => tv σ2 H4 fun z H5 => ∃ kvs k, y = kV k ∧ H5 D = some (.dK kvs) ∧ kvs.length < sizeLine ∧ Nx (upd H5 D (.dK (putK kvs k z))) else Nx H3) := by
  refine ⟨fun i m H => m = n - i ∧ i ≤ n ∧ Pv i H, ⟨n, by simp, Nat.zero_le _, h0⟩, ?_⟩
  rintro i m H ⟨rfl, hi, p⟩
  have q := hG i H hi p
  by_cases hlt : i < n
  · refine .inr ⟨w.goes i H hlt q, Pv (i + 1), fun H' p' => ⟨n - (i + 1), by omega, rfl, hlt, p'⟩, fun x H' y => hs i x H H' hlt p (w.yields i H x H' hlt q y)⟩
  · have e : i = n := by omega
    subst e
    exact .inl ⟨w.stops H q, hd H p⟩
end
section
variable {X : Cx}
/-- name = {.. for ..} on one line, the name a local -/
theorem ps_setDc {i : Nat} {y : Str} {py : Pos} {kx vx tg iter : Expr} {ifs : List Expr} {scope : Scope} {own : List (Str × Nat)} {pos spos : Pos} {wi : TI} {g : TG} {tt : TT} {tk tv : TE} (hc : X.calm = true) (hN : X.N.Nodup) (hy : X.N[i]? = some y) (hyl : X.env.scope.names.lookup y = some .local)
    (hsw : swapsWith (.DictComp kx vx [⟨tg, iter, ifs, 0⟩] scope pos) (some (.Name y py)) spos.line X.env = pure true) (hi : PI X tg iter wi) (ok : BlkOk X.N X.env.scope scope own)
    (hg : ∀ (s : Shared) (H : Hp) (C : Addr) (cl : List (Str × Addr)) (fp : List Addr), PG (X.blk s H scope (compEnvC scope cl C X.env) fp) tg g) (ht : ∀ (s : Shared) (H : Hp) (C : Addr) (cl : List (Str × Addr)) (fp : List Addr), PTs (X.blk s H scope (compEnvC scope cl C X.env) fp) ifs tt)
    (hk : ∀ (s : Shared) (H : Hp) (C : Addr) (cl : List (Str × Addr)) (fp : List Addr), PE (X.blk s H scope (compEnvC scope cl C X.env) fp) kx tk)
    (he : ∀ (s : Shared) (H : Hp) (C : Addr) (cl : List (Str × Addr)) (fp : List Addr), PE (X.blk s H scope (compEnvC scope cl C X.env) fp) vx tv) (hs : ∀ x, foldedSetIterable iter X.env x = pure x := by intro _; rfl) :
    PS X (.Assign [.Name y py] (.DictComp kx vx [⟨tg, iter, ifs, 0⟩] scope pos) spos) (tAsg (tDc wi g tt tk tv (own.map (·.2))) (gName i)) := by
  refine ⟨fun pins s σ H D I h => ?_⟩
  rw [exec_Assign_Name_used _ _ _ _ hsw]
  refine wpAny_bind (wpAny_standAt (wpAny_bind ?_))
  show wpAny _ X.A (do let _ ← comprehension (.DictComp kx vx [⟨tg, iter, ifs, 0⟩] scope pos) scope X.env (firstIterPos [⟨tg, iter, ifs, 0⟩] pos) newDict false (eval iter X.env) (some (assign (.Name y py) X.env))) _ _ s
  have h : tDc wi g tt tk tv (own.map (·.2)) σ H (fun x H1 => gName i x σ H1 D.nx) := h
  refine wpAny_bind (thn (dc_core (Qf := fun _ s' => SP X pins D .next s') hc hN I hi ok hg ht hk he hs h fun L C s' m H' I' q hn f => ?_) fun _ s' hq => wpAny_pure (wpAny_pure hq))
  show wpAny _ _ (assign (.Name y py) X.env (.ref L)) _ _ _
  refine wpAny_assign_Name (store_ok2 (v := V.ref L) I' hN hy (.inl hyl) rfl (fun s2 I2 ⟨a, sb, ha⟩ => ?_) (.inr hyl))
  obtain ⟨f0, f1, f2, f3, f4, f5⟩ := f
  have haC : C ≠ a := by
    rcases ha with z | z
    · rw [z]; exact f1
    · exact fun e => f4 y a z e.symm
  refine ⟨m, hn.sameBut sb haC, fun h3 sb3 => ?_⟩
  exact ⟨_, H', I2.turned (t' := s2.toks) (fun b o hb e => (sb3.2 b hb).trans e) f0 f1 f3 f4 f5, q⟩
theorem sw_trueD {kx vx : Expr} {gs : List Comprehension} {scope : Scope} {pos py : Pos} {y : Str} {l : Nat} {env : Env} (hk : env.scope.kind = .function) (hy : env.scope.names.lookup y = some .local) (hl : (py.line == pos.line) = true)
    (ha : (scope.names.any fun (n, k) => n == y && (k == .local || k == .cell)) = false) : swapsWith (.DictComp kx vx gs scope pos) (some (.Name y py)) l env = pure true := by
  have ky : env.kindOf y = some .local := hy
  have hb : env.blockKind = .function := by unfold Env.blockKind; rw [hk]; rfl
  unfold swapsWith
  simp only [hb, ky, ha, Expr.pos, hl]
  rfl
end
end Ld
namespace Ld
open PySem PySem.Spec PyProof.Rows L2
abbrev sIsInt : Stmt := top 3
abbrev sIsWord : Stmt := top 4
abbrev sAsc : Stmt := top 5
theorem bSorted : bootBuiltins "sorted" = some (.builtin "sorted") := by decide +kernel
theorem bIsi : bootBuiltins "isinstance" = some (.builtin "isinstance") := by decide +kernel
theorem bBool : bootBuiltins "bool" = some (.type "bool") := by decide +kernel
theorem bAll : bootBuiltins "all" = some (.builtin "all") := by decide +kernel
/-- more names that are the built-ins' own -/
structure Blt2 (mg : Str → Option Value) : Prop where
  str : mg "str" = none
  bool : mg "bool" = none
  sorted : mg "sorted" = none
  isi : mg "isinstance" = none
  all : mg "all" = none
  dict : mg "dict" = none
/-- the keys of a dict, all texts -/
def keysOf (kvs : List (Key × V)) (ks : List Str) : Prop := kvs.map (·.1) = ks.map Sum.inr ∧ ks.Nodup
theorem keysOf.len {kvs : List (Key × V)} {ks : List Str} (h : keysOf kvs ks) : kvs.length = ks.length := by
  have e := congrArg List.length h.1
  rw [List.length_map, List.length_map] at e
  exact e
theorem keysOf.at {kvs : List (Key × V)} {ks : List Str} (h : keysOf kvs ks) {i : Nat} {k : Key} {v : V} (e : kvs[i]? = some (k, v)) : ∃ z, k = Sum.inr z ∧ ks[i]? = some z := by
  have e2 : (kvs.map (·.1))[i]? = some k := by rw [List.getElem?_map, e]; rfl
  rw [h.1, List.getElem?_map] at e2
  cases e3 : ks[i]? with
  | none => rw [e3] at e2; cases e2
  | some z => rw [e3] at e2; exact ⟨z, (Option.some.inj e2).symm, rfl⟩
theorem valV_none {kvs : List (Key × V)} {k : Key} (h : k ∉ kvs.map (·.1)) : valV kvs k = none := by
  unfold valV
  rw [List.find?_eq_none.mpr (fun x hx => ?_)]
  · rfl
  · simp only [decide_eq_true_eq]
    exact fun e => h (List.mem_map.mpr ⟨x, hx, e⟩)
theorem not_in_take {ks : List Str} (nd : ks.Nodup) {i : Nat} {z : Str} (e : ks[i]? = some z) : z ∉ ks.take i := by
  intro h
  obtain ⟨j, hj, ej⟩ := List.getElem_of_mem h
  have hji : j < i := by rw [List.length_take] at hj; omega
  obtain ⟨hi, ei⟩ := List.getElem?_eq_some_iff.mp e
  rw [List.getElem_take] at ej
  have := (List.getElem_inj nd).mp (ej.trans ei.symm)
  omega
def spAsc : Sp := fun vs H Q _ => ∃ (a : Addr) (kvs : List (Key × V)) (ks : List Str), vs = [.ref a] ∧ H a = some (.dK kvs) ∧ keysOf kvs ks ∧ ks.length ≤ 1000 ∧
  ∀ H' p ys, Same H H' → H p = none → H' p = some (.lst (ys.map V.str)) → ys.Perm ks → sortedS ys = true → Q (.ref p) H'
section
variable {P : Program} {w : World} {K : PySem.W.Frag} {mg : Str → Option Value} {base : Heap}
abbrev nAsc : List Str := ["words", "found", "word"]
theorem scAsc : FnScope nAsc ["words"] (defScope sAsc) := ⟨rfl, rfl, rfl, by decide +kernel, rfl, by decide +kernel, by decide +kernel⟩
theorem ok_asc {f : Addr} {fd : FuncData} (F : Fun K "ascending" "ascending" sAsc f fd) (B : Blt2 mg) : FnOk P w K mg base CX0 1 f fd ["words"] spAsc := by
  refine F.ok scAsc (fun vs H Q E h => ?_) (fun cdv A outer s H vs Q E hr h => ?_)
  · obtain ⟨a, kvs, ks, rfl, _⟩ := h
    rfl
  · obtain ⟨a, kvs, ks, rfl, ha, hk, hl, k⟩ := h
    have nd : nAsc.Nodup := scAsc.nd
    refine ⟨_, pss_cons (ps_lock (ps_setDc (i := 1) (own := [("word", 2)]) (g := gName 2) (tt := tYes) rfl nd rfl rfl (sw_trueD rfl rfl rfl (by decide +kernel)) (pi_keys (pv 0)) (blkOk_by (N := nAsc) (sc := defScope sAsc) (by decide +kernel))
        (fun _ _ _ _ _ => pg_name (i := 2) nd rfl (Or.inl rfl)) (fun _ _ _ _ _ => pts_nil) (fun _ _ _ _ _ => pv 2) (fun _ _ _ _ _ => pe_bl)))
      (pss_one (ps_ret (pe_callBK (cr_sortedDK rfl) (by rfl) B.sorted bSorted (pa_cons (pv 1) pa_nil) (pk_cons (pe_bltn (v := .ty "str") (by rfl) B.str bStr0 rfl) pk_nil)))), ?_⟩
    refine seq_step (fun σ' H' => ∃ (D : Addr) (es : List (Key × V)), σ' = [some (.ref a), some (.ref D), none] ∧ H' D = some (.dK es) ∧ es.map (·.1) = ks.map Sum.inr ∧ Same H H' ∧ H D = none) (fun R hR => ?_) (fun σ1 H1 h1 => ?_)
    · refine ⟨a, _, ha, trivial, fun od => ⟨_, rfl, a, od, rfl, .inl ⟨kvs, upd_same, fun D hD => ?_⟩⟩⟩
      have nDa : D ≠ a := fun e => by rw [e, upd_same] at hD; cases hD
      have hD0 : H D = none := by rw [upd_ne nDa] at hD; exact hD
      refine dc_it (walk_keys (d := a) (o := od) (kvs := kvs)) (fun i H' => ∃ es : List (Key × V), H' D = some (.dK es) ∧ es.map (·.1) = (ks.take i).map Sum.inr ∧ H' a = some (.frz od (.dK kvs)) ∧ ∀ b o, H b = some o → b ≠ a → H' b = some o)
        ⟨[], upd_same, rfl, by rw [upd_ne nDa.symm, upd_same], fun b o eb nb => by rw [upd_ne (ne_of_none eb hD0), upd_ne nb]; exact eb⟩ (fun i H' _ ⟨es, _, _, e, _⟩ => e) ?_ ?_
      · rintro i x H2 H3 hi ⟨es, eD, ek, ea, keep⟩ ⟨rfl, key, v, hkv, rfl⟩
        obtain ⟨z, rfl, hz⟩ := hk.at hkv
        refine ⟨rfl, _, rfl, es, Sum.inr z, rfl, eD, ?_, _, upd_same, ?_, by rw [upd_ne nDa.symm]; exact ea, fun b o eb nb => by rw [upd_ne (ne_of_none eb hD0)]; exact keep b o eb nb⟩
        · have := congrArg List.length ek
          rw [List.length_map, List.length_map, List.length_take] at this
          exact Nat.lt_of_le_of_lt (by omega : es.length ≤ 1000) (by decide)
        · have hn : (Sum.inr z : Key) ∉ es.map (·.1) := by
            rw [ek]
            intro hm
            obtain ⟨y, hy, e⟩ := List.mem_map.mp hm
            exact not_in_take hk.2 hz (Sum.inr.inj e ▸ hy)
          rw [putK_new _ (valV_none hn), List.map_append, ek, List.take_add_one, hz]
          simp
      · rintro H2 ⟨es, eD, ek, ea, keep⟩
        refine ⟨ea, hR _ _ ⟨D, es, rfl, by rw [upd_ne nDa]; exact eD, ?_, fun b o eb => ?_, hD0⟩⟩
        · rw [ek, hk.len, List.take_of_length_le (Nat.le_refl _)]
        · by_cases e : b = a
          · rw [e, upd_same, ← ha, ← e, eb]
          · rw [upd_ne e]
            exact keep b o eb e
    obtain ⟨D, es, rfl, eD, ek, same, hD0⟩ := h1
    refine ⟨_, rfl, D, es, ks, rfl, rfl, .inl eD, ek, Nat.lt_of_le_of_lt hl (by decide), fun ys p perm srt hp => ?_⟩
    have hpH : H p = none := by
      cases e : H p with
      | none => rfl
      | some o => rw [same _ _ e] at hp; cases hp
    exact k _ p ys (fun b o eb => by rw [upd_ne (ne_of_none (same _ _ eb) hp)]; exact same _ _ eb) hpH upd_same perm srt
end
end Ld
namespace Ld
open PySem PySem.Spec PyProof.Rows L2
def spIsInt (K : PySem.W.Frag) : Sp := fun vs H Q _ => ∃ (x : V) (t : Value) (b1 b2 : Bool), vs = [x] ∧ TyX K H x t ∧ PySem.W.kitOne K t (.type "int") = some b1 ∧ PySem.W.kitOne K t (.type "bool") = some b2 ∧ Q (.bl (b1 && !b2)) H
theorem isInt_int {K : PySem.W.Frag} {E : Value → Option Addr → Hp → Prop} {i : Int} {H : Hp} {Q : VK} (q : Q (.bl true) H) : spIsInt K [.int i] H Q E :=
  ⟨.int i, .type "int", true, false, rfl, .base (.int i), kit_ty (by decide +kernel), kit_ty (by decide +kernel), q⟩
/-- a letter from a to z -/
def azB (c : Nat) : Bool := decide (97 ≤ c) && decide (c ≤ 122)
def wordB (z : Str) : Bool := decide (1 ≤ z.length) && decide (z.length ≤ 8) && z.cps.toList.all azB
theorem Wd.word {z : Str} (h : Wd 1 8 z) : wordB z = true := by
  unfold wordB
  rw [Bool.and_eq_true, Bool.and_eq_true, decide_eq_true_eq, decide_eq_true_eq, List.all_eq_true]
  refine ⟨⟨h.l0, h.l1⟩, fun c hc => ?_⟩
  have := h.az c hc
  unfold azB
  rw [Bool.and_eq_true, decide_eq_true_eq, decide_eq_true_eq]
  exact this
theorem wordB_len {z : Str} (h : wordB z = true) : 1 ≤ z.length ∧ z.length ≤ 8 := by
  unfold wordB at h
  rw [Bool.and_eq_true, Bool.and_eq_true, decide_eq_true_eq, decide_eq_true_eq] at h
  exact h.1
def spIsWord (K : PySem.W.Frag) : Sp := fun vs H Q _ => ∃ x, vs = [x] ∧ ((∃ z : Str, x = .str z ∧ z.length ≤ sizeLine ∧ ∀ H', Same H H' → Q (.bl (wordB z)) H') ∨
  ∃ t, TyX K H x t ∧ PySem.W.kitOne K t (.type "str") = some false ∧ Q (.bl false) H)
theorem lt_one (a c : Nat) : decide ([a] < [c]) = decide (a < c) := by
  apply decide_eq_decide.mpr
  constructor
  · intro h
    rcases List.cons_lt_cons_iff.mp h with h | ⟨_, h⟩
    · exact h
    · exact absurd h (by simp)
  · intro h
    exact List.cons_lt_cons_iff.mpr (.inl h)
theorem az_chain (c : Nat) : (if (!decide (c < 97)) = true then (!decide (122 < c)) else false) = azB c := by
  unfold azB
  by_cases h : 97 ≤ c
  · have h1 : ¬ c < 97 := by omega
    by_cases h2 : c ≤ 122
    · have h3 : ¬ 122 < c := by omega
      simp [h, h1, h2, h3]
    · have h3 : 122 < c := by omega
      simp [h, h1, h2, h3]
  · have h1 : c < 97 := by omega
    simp [h, h1]
section
variable {P : Program} {w : World} {K : PySem.W.Frag} {mg : Str → Option Value} {base : Heap}
theorem scIsInt : FnScope ["value"] ["value"] (defScope sIsInt) := ⟨rfl, rfl, rfl, by decide +kernel, rfl, by decide +kernel, by decide +kernel⟩
theorem ok_isInt {f : Addr} {fd : FuncData} (F : Fun K "is_integer" "is_integer" sIsInt f fd) (B : Blt2 mg) (mInt : mg "int" = none) : FnOk P w K mg base CX0 1 f fd ["value"] (spIsInt K) := by
  refine F.ok scIsInt (fun vs H Q E h => ?_) (fun cdv A outer s H vs Q E hr h => ?_)
  · obtain ⟨x, _, _, _, rfl, _⟩ := h
    rfl
  · obtain ⟨x, t, b1, b2, rfl, ty, k1, k2, q⟩ := h
    refine ⟨_, pss_one (ps_ret (pe_and (pe_callB call_isi (by rfl) B.isi bIsi (pa_cons (pv 0) (pa_cons (pe_bltn (v := .ty "int") (by rfl) mInt bInt rfl) pa_nil)))
      (pe_one (pe_not (pe_callB call_isi (by rfl) B.isi bIsi (pa_cons (pv 0) (pa_cons (pe_bltn (v := .ty "bool") (by rfl) B.bool bBool rfl) pa_nil))))))), ?_⟩
    refine ⟨_, rfl, x, _, t, _, b1, rfl, .ty _, ty, k1, b1, rfl, ifb (fun e => ?_) (fun e => ?_)⟩
    · subst e
      exact ⟨_, rfl, x, _, t, _, b2, rfl, .ty _, ty, k2, b2, rfl, q⟩
    · subst e
      exact q
abbrev nIsWord : List Str := ["value", "letter"]
theorem scIsWord : FnScope nIsWord ["value"] (defScope sIsWord) := ⟨rfl, rfl, rfl, by decide +kernel, rfl, by decide +kernel, by decide +kernel⟩
theorem ok_isWord {f : Addr} {fd : FuncData} (F : Fun K "is_word" "is_word" sIsWord f fd) (B : Blt2 mg) (mLen : mg "len" = none) (mMost : ∃ t, mg "MOST_LETTERS" = some (.int 8 t)) : FnOk P w K mg base CX0 1 f fd ["value"] (spIsWord K) := by
  obtain ⟨t8, mMost⟩ := mMost
  refine F.ok scIsWord (fun vs H Q E h => ?_) (fun cdv A outer s H vs Q E hr h => ?_)
  · obtain ⟨x, rfl, _⟩ := h
    rfl
  · obtain ⟨x, rfl, h⟩ := h
    have nd : nIsWord.Nodup := scIsWord.nd
    refine ⟨_, pss_cons (ps_if (PW.pt (pw_or (pt_not (pt_truth (pe_callB call_isi (by rfl) B.isi bIsi (pa_cons (pv 0) (pa_cons (pe_bltn (v := .ty "str") (by rfl) B.str bStr0 rfl) pa_nil))) (fun _ => rfl)))
        (pw_or1 (pt_not (pt_chain op_le op_le pe_int (pe_callB call_len_str (by rfl) mLen PySem.boot_len (pa_cons (pv 0) pa_nil)) (pe_glob (v := .int 8) (by rfl) mMost ⟨_, rfl⟩)))))) (pss_one (ps_ret pe_bl)) pss_nil)
      (pss_one (ps_ret (pe_callB (cr_all rfl) (by rfl) B.all bAll (pa_cons (pe_lc (own := [("letter", 1)]) (g := gName 1) (tt := tYes) rfl nd (pi_str (pv 0)) (blkOk_by (N := nIsWord) (sc := defScope sIsWord) (by decide +kernel))
        (fun _ _ _ _ _ => pg_name (i := 1) nd rfl (Or.inl rfl)) (fun _ _ _ _ _ => pts_nil) (fun _ _ _ _ _ => pe_chain op_le_str op_le_str pe_str (pv 1) pe_str)) pa_nil)))), ?_⟩
    rcases h with ⟨z, rfl, hz, k⟩ | ⟨t, ty, kt, q⟩
    · refine ⟨_, rfl, _, _, _, _, true, rfl, .ty _, .base (.str z), kit_ty (by decide +kernel), true, rfl, ?_⟩
      have qF : wordB z = false → Q (.bl false) H := fun e => by
        have := k H (fun _ _ e => e)
        rw [e] at this
        exact this
      refine ⟨_, rfl, _, rfl, hz, _, _, rfl, rfl, _, rfl, ifd (fun c1 => ?_) (fun c1 => ?_)⟩
      · refine ⟨_, _, rfl, rfl, _, rfl, ifb (fun c2 => ?_) (fun c2 => ?_)⟩
        · rw [Bool.not_eq_true', decide_eq_false_iff_not] at c2
          refine qF ?_
          cases e : wordB z with
          | false => rfl
          | true =>
            have := wordB_len e
            omega
        · rw [Bool.not_eq_false', decide_eq_true_eq] at c2
          refine ⟨_, rfl, z, rfl, fun D hD => ?_⟩
          refine lc_it walk_str (fun i H' => H' D = some (.lst ((z.cps.toList.take i).map fun c => V.bl (azB c))) ∧ Same H H') ⟨upd_same, same_new hD⟩ (fun _ _ _ _ => trivial) ?_ ?_
          · rintro i x H2 H3 hi ⟨eD, same⟩ ⟨rfl, ch, hch, rfl⟩
            have hch2 : z.cps.toList[i]? = some ch := by rw [Array.getElem?_toList]; exact hch
            have nx : ∀ b : Bool, b = azB ch → ∃ acc, H3 D = some (.lst acc) ∧ acc.length < sizeLine ∧ (upd H3 D (.lst (acc ++ [V.bl b]))) D = some (.lst ((z.cps.toList.take (i + 1)).map fun c => V.bl (azB c))) ∧ Same H (upd H3 D (.lst (acc ++ [V.bl b]))) := by
              rintro b rfl
              refine ⟨_, eD, ?_, ?_, fun b o eb => by rw [upd_ne (ne_of_none eb hD)]; exact same _ _ eb⟩
              · rw [List.length_map, List.length_take]
                have : z.cps.size = z.length := rfl
                exact Nat.lt_of_le_of_lt (by omega : _ ≤ 8) (by decide)
              · rw [upd_same, List.take_add_one, hch2]
                simp
            refine ⟨rfl, _, rfl, _, _, rfl, rfl, _, rfl, ?_⟩
            have e1 : decide ((⟨#[ch]⟩ : Str).cps.toList < (("a" : Str)).cps.toList) = decide (ch < 97) := lt_one ch 97
            have e2 : decide ((("z" : Str)).cps.toList < (⟨#[ch]⟩ : Str).cps.toList) = decide (122 < ch) := lt_one 122 ch
            have ech := az_chain ch
            refine ifb (fun c3 => ?_) (fun c3 => ?_)
            · rw [e1] at c3
              rw [if_pos c3] at ech
              exact ⟨_, _, rfl, rfl, nx _ (by rw [← ech, e2])⟩
            · rw [e1] at c3
              rw [if_neg (by rw [c3]; decide)] at ech
              exact nx _ ech
          · rintro H2 ⟨eD, same⟩
            have eA : (z.cps.toList.take z.cps.size).map (fun c => V.bl (azB c)) = (z.cps.toList.map azB).map V.bl := by
              have : z.cps.toList.length = z.cps.size := Array.length_toList
              rw [List.take_of_length_le (by omega), List.map_map]
              rfl
            rw [eA] at eD
            refine ⟨D, _, rfl, .inl (.inl eD), ?_⟩
            have e : (z.cps.toList.map azB).all id = wordB z := by
              unfold wordB
              have c0 : 1 ≤ z.length := by omega
              rw [decide_eq_true c0, decide_eq_true (by omega : z.length ≤ 8), List.all_map]
              rfl
            have := k H2 same
            rw [← e] at this
            exact this
      · refine ⟨_, rfl, ?_⟩
        refine qF ?_
        cases e : wordB z with
        | false => rfl
        | true =>
          have := wordB_len e
          omega
    · refine ⟨_, rfl, x, _, t, _, false, rfl, .ty _, ty, kt, false, rfl, ?_⟩
      exact q
end
end Ld
namespace Ld
open PySem PySem.Spec PyProof.Rows L2
/-! ### what is never reached -/
theorem ps_never {X : Cx} {st : Stmt} : PS X st (fun _ _ _ => False) := ⟨fun _ _ _ _ _ _ h => False.elim h⟩
/-! ### counts -/
def cD (ps : List (Str × Int)) : List (Key × V) := ps.map fun p => (Sum.inr p.1, V.int p.2)
def ctO (ps : List (Str × Int)) (z : Str) : Option Int := (ps.find? fun p => decide (p.1 = z)).map (·.2)
def ct (ps : List (Str × Int)) (z : Str) : Int := (ctO ps z).getD 0
theorem valV_cD (ps : List (Str × Int)) (z : Str) : valV (cD ps) (Sum.inr z : Key) = (ctO ps z).map V.int := by
  unfold valV ctO cD
  induction ps with
  | nil => rfl
  | cons p r ih =>
    rw [List.map_cons, List.find?_cons, List.find?_cons]
    by_cases h : p.1 = z
    · rw [decide_eq_true (by rw [h] : (Sum.inr p.1 : Key) = Sum.inr z), decide_eq_true h]
      rfl
    · rw [decide_eq_false (fun e => h (Sum.inr.inj e)), decide_eq_false h]
      exact ih
theorem ctO_some {ps : List (Str × Int)} {z : Str} (h : z ∈ ps.map (·.1)) : ctO ps z = some (ct ps z) := by
  unfold ct
  cases e : ctO ps z with
  | some i => rfl
  | none =>
    exfalso
    unfold ctO at e
    rw [Option.map_eq_none_iff, List.find?_eq_none] at e
    obtain ⟨p, hp, rfl⟩ := List.mem_map.mp h
    exact e p hp (decide_eq_true rfl)
theorem ctO_none {ps : List (Str × Int)} {z : Str} (h : z ∉ ps.map (·.1)) : ctO ps z = none := by
  unfold ctO
  rw [Option.map_eq_none_iff, List.find?_eq_none]
  intro p hp e
  exact h (List.mem_map.mpr ⟨p, hp, of_decide_eq_true e⟩)
theorem cD_keys (ps : List (Str × Int)) : (cD ps).map (·.1) = (ps.map (·.1)).map Sum.inr := by
  unfold cD
  rw [List.map_map, List.map_map]
  rfl
theorem cD_len (ps : List (Str × Int)) : (cD ps).length = ps.length := List.length_map ..
theorem cD_put {ps : List (Str × Int)} {z : Str} {i : Int} (h : z ∉ ps.map (·.1)) : putK (cD ps) (Sum.inr z : Key) (.int i) = cD (ps ++ [(z, i)]) := by
  rw [putK_new]
  · unfold cD
    rw [List.map_append]
    rfl
  · rw [valV_cD, ctO_none h]
    rfl
/-- the counts other than 0, in the order of ys -/
def tidy (ps : List (Str × Int)) (ys : List Str) : List (Str × Int) := (ys.map fun z => (z, ct ps z)).filter fun q => q.2 != 0
def spCheck : Sp := fun vs H Q _ => ∃ (a : Addr) (ps : List (Str × Int)), vs = [.ref a] ∧ H a = some (.dK (cD ps)) ∧ (ps.map (·.1)).Nodup ∧ ps.length ≤ 1000 ∧ (∀ p ∈ ps, wordB p.1 = true) ∧
  ∀ H', Same H H' → Q .non H'
def spTidy : Sp := fun vs H Q _ => ∃ (a : Addr) (ps : List (Str × Int)), vs = [.ref a] ∧ H a = some (.dK (cD ps)) ∧ (ps.map (·.1)).Nodup ∧ ps.length ≤ 1000 ∧
  ∀ H' p ys, Same H H' → H p = none → ys.Perm (ps.map (·.1)) → sortedS ys = true → H' p = some (.dK (cD (tidy ps ys))) → Q (.ref p) H'
abbrev sCheck : Stmt := top 15
abbrev sTidy : Stmt := top 16
section
variable {P : Program} {w : World} {K : PySem.W.Frag} {mg : Str → Option Value} {base : Heap}
abbrev nCheck : List Str := ["counts", "kind"]
theorem scCheck : FnScope nCheck ["counts"] (defScope sCheck) := ⟨rfl, rfl, rfl, by decide +kernel, rfl, by decide +kernel, by decide +kernel⟩
theorem scTidy : FnScope nCheck ["counts"] (defScope sTidy) := ⟨rfl, rfl, rfl, by decide +kernel, rfl, by decide +kernel, by decide +kernel⟩
theorem ok_check {f : Addr} {fd : FuncData} (F : Fun K "check_counts" "check_counts" sCheck f fd) (HA : Has P w K mg base 1 "ascending" ["words"] spAsc) (HW : Has P w K mg base 1 "is_word" ["value"] (spIsWord K)) (HI : Has P w K mg base 1 "is_integer" ["value"] (spIsInt K)) :
    FnOk P w K mg base CX0 2 f fd ["counts"] spCheck := by
  obtain ⟨g1, gd1, G1, b1, m1, k1⟩ := HA
  obtain ⟨g2, gd2, G2, b2, m2, k2⟩ := HW
  obtain ⟨g3, gd3, G3, b3, m3, k3⟩ := HI
  refine F.ok scCheck (fun vs H Q E h => ?_) (fun cdv A outer s H vs Q E hr h => ?_)
  · obtain ⟨a, ps, rfl, _⟩ := h
    rfl
  · obtain ⟨a, ps, rfl, ha, nk, hl, hw, k⟩ := h
    have nd : nCheck.Nodup := scCheck.nd
    refine ⟨_, pss_one (ps_for PassesOwn.never rfl (pi_list (pe_call G1 hr (by rfl) m1 k1 b1 .nil pass0 (pa_cons (pv 0) pa_nil))) (pg_name (i := 1) nd rfl (Or.inl rfl))
      (pss_one (ps_if (PW.pt (pw_or (pt_not (pt_truth (pe_call G2 hr (by rfl) m2 k2 b2 .nil pass0 (pa_cons (pv 1) pa_nil)) (fun _ => rfl)))
        (pw_or1 (pt_not (pt_truth (pe_call G3 hr (by rfl) m3 k3 b3 .nil pass0 (pa_cons (pe_dget (hu_of hr) (pv 0) (pv 1) (fun _ _ => rfl)) pa_nil)) (fun _ => rfl)))))) (pss_one ps_never) pss_nil))), ?_⟩
    refine ⟨_, rfl, a, cD ps, ps.map (·.1), rfl, ha, ⟨cD_keys ps, nk⟩, by rw [List.length_map]; exact hl, fun H1 p ys same1 hp0 hp perm srt => ?_⟩
    refine ⟨p, rfl, ⟨_, .inl (.inl hp)⟩, for_list (xs := ys.map V.str) (fun i σ H' => (∃ x, σ = [some (.ref a), x]) ∧ Same H1 H') ⟨⟨_, rfl⟩, fun _ _ e => e⟩ (fun i σ H' _ h => .inl (.inl (h.2 _ _ hp))) ?_ ?_⟩
    · rintro i x σ H2 hx ⟨⟨x0, rfl⟩, same2⟩
      obtain ⟨z, hz, rfl⟩ := List.mem_map.mp (List.mem_of_getElem? hx)
      have hz2 : z ∈ ps.map (·.1) := perm.mem_iff.mp hz
      obtain ⟨q, hq, eq⟩ := List.mem_map.mp hz2
      have hwz : wordB z = true := by rw [← eq]; exact hw q hq
      refine ⟨_, rfl, .str z, rfl, .inl ⟨z, rfl, Nat.le_trans (wordB_len hwz).2 (by decide), fun H3 same3 => ?_⟩⟩
      rw [hwz]
      have ha3 : H3 a = some (.dK (cD ps)) := same3 _ _ (same2 _ _ (same1 _ _ ha))
      refine ⟨true, rfl, ?_⟩
      refine ⟨_, rfl, _, rfl, a, .int (ct ps z), rfl, .inl ⟨cD ps, Sum.inr z, .inl ha3, rfl, ?_⟩, ?_⟩
      · rw [valV_cD, ctO_some hz2]
        rfl
      · exact ⟨.int (ct ps z), .type "int", true, false, rfl, .base (.int _), kit_ty (by decide +kernel), kit_ty (by decide +kernel), true, rfl, ⟨_, rfl⟩, fun b o e => same3 _ _ (same2 _ _ e)⟩
    · rintro σ H2 ⟨⟨x0, rfl⟩, same2⟩
      exact k _ fun b o e => same2 _ _ (same1 _ _ e)
theorem ok_tidy {f : Addr} {fd : FuncData} (F : Fun K "tidy_counts" "tidy_counts" sTidy f fd) (HA : Has P w K mg base 1 "ascending" ["words"] spAsc) :
    FnOk P w K mg base CX0 2 f fd ["counts"] spTidy := by
  obtain ⟨g1, gd1, G1, b1, m1, k1⟩ := HA
  refine F.ok scTidy (fun vs H Q E h => ?_) (fun cdv A outer s H vs Q E hr h => ?_)
  · obtain ⟨a, ps, rfl, _⟩ := h
    rfl
  · obtain ⟨a, ps, rfl, ha, nk, hl, k⟩ := h
    have nd : nCheck.Nodup := scTidy.nd
    refine ⟨_, pss_one (ps_ret (pe_dc (own := [("kind", 1)]) (g := gName 1) rfl nd (pi_list (pe_call G1 hr (by rfl) m1 k1 b1 .nil pass0 (pa_cons (pv 0) pa_nil))) (blkOk_by (N := nCheck) (sc := defScope sTidy) (by decide +kernel))
        (fun _ _ _ _ _ => pg_name (i := 1) nd rfl (Or.inl rfl)) (fun _ _ _ _ _ => pts_one (pt_cmpR op_ne (pe_dget (hu_of hr) (pv 0) (pv 1) (fun _ _ => rfl)) pe_int (nomark _))) (fun _ _ _ _ _ => pv 1) (fun _ _ _ _ _ => pe_dget (hu_of hr) (pv 0) (pv 1) (fun _ _ => rfl)))), ?_⟩
    refine ⟨_, rfl, a, cD ps, ps.map (·.1), rfl, ha, ⟨cD_keys ps, nk⟩, by rw [List.length_map]; exact hl, fun H1 p ys same1 hp0 hp perm srt => ?_⟩
    have ndy : ys.Nodup := perm.nodup_iff.mpr nk
    refine ⟨p, rfl, ⟨_, .inl (.inl hp)⟩, fun D hD => ?_⟩
    refine dc_it (walk_list (xs := ys.map V.str)) (fun i H' => H' D = some (.dK (cD (tidy ps (ys.take i)))) ∧ Same H1 H') ⟨upd_same, same_new hD⟩ (fun i H' _ h => .inl (.inl (h.2 _ _ hp))) ?_ ?_
    · rintro i x H2 H3 hi ⟨eD, same2⟩ ⟨rfl, hx⟩
      rw [List.getElem?_map] at hx
      obtain ⟨z, hz, rfl⟩ : ∃ z, ys[i]? = some z ∧ x = V.str z := by
        cases e : ys[i]? with
        | none => rw [e] at hx; cases hx
        | some z => rw [e] at hx; exact ⟨z, rfl, (Option.some.inj hx).symm⟩
      have hz2 : z ∈ ps.map (·.1) := perm.mem_iff.mp (List.mem_of_getElem? hz)
      have ha3 : H3 a = some (.dK (cD ps)) := same2 _ _ (same1 _ _ ha)
      have hget : DGet H3 a (.str z) (some (.int (ct ps z))) := .inl ⟨cD ps, Sum.inr z, .inl ha3, rfl, by rw [valV_cD, ctO_some hz2]; rfl⟩
      have et : tidy ps (ys.take (i + 1)) = tidy ps (ys.take i) ++ (if ct ps z != 0 then [(z, ct ps z)] else []) := by
        unfold tidy
        rw [List.take_add_one, hz, List.map_append, List.filter_append]
        congr 1
        show List.filter _ [(z, ct ps z)] = _
        rw [List.filter_cons]
        rfl
      refine ⟨rfl, _, rfl, _, rfl, a, _, rfl, hget, rfl, _, rfl, ifb (fun c => ?_) (fun c => ?_)⟩
      · have cz : (ct ps z != 0) = true := by
          rw [bne_iff_ne]
          intro e
          rw [e] at c
          revert c
          decide +kernel
        refine ⟨_, rfl, _, rfl, _, rfl, a, _, rfl, hget, _, Sum.inr z, rfl, eD, ?_, ?_, fun b o eb => by rw [upd_ne (ne_of_none eb hD)]; exact same2 _ _ eb⟩
        · rw [cD_len]
          have h1 : (tidy ps (ys.take i)).length ≤ ys.length := by
            unfold tidy
            refine Nat.le_trans (List.length_filter_le _ _) ?_
            rw [List.length_map, List.length_take]
            omega
          rw [perm.length_eq, List.length_map] at h1
          exact Nat.lt_of_le_of_lt (Nat.le_trans h1 hl) (by decide)
        · rw [upd_same, cD_put, et, if_pos cz]
          intro hm
          obtain ⟨q, hq, e⟩ := List.mem_map.mp hm
          obtain ⟨y, hy, e2⟩ := List.mem_map.mp (List.mem_filter.mp hq).1
          have : y = z := by rw [← e, ← e2]
          exact not_in_take ndy hz (this ▸ hy)
      · have cz : ¬ (ct ps z != 0) = true := by
          rw [Bool.not_eq_false', decide_eq_true_eq] at c
          rw [bne_iff_ne]
          exact fun e => e (V.int.inj c)
        refine ⟨?_, same2⟩
        rw [eD, et, if_neg cz, List.append_nil]
    · rintro H2 ⟨eD, same2⟩
      rw [List.take_of_length_le (by rw [List.length_map]; exact Nat.le_refl _)] at eD
      refine k H2 D ys (fun b o e => same2 _ _ (same1 _ _ e)) ?_ perm srt eD
      cases e : H D with
      | none => rfl
      | some o => rw [same1 _ _ e] at hD; cases hD
end
end Ld
/-! def f(self, **d): called with keywords -/
namespace Ld
open PySem PySem.Spec PyProof.Rows L2
section
variable {prog : Program} {w : World} {A : Around} {E : Value → Shared → Prop} {d : Addr}
theorem kw_nsSet {s : Shared} {es : List DictEntry} {n : Nat} {k : Str} {v : Value} {Q : Unit → Shared → Prop} (D : s.heap.get? d = some (PySem.W.dictOf es n))
    (hs : ∀ e ∈ es, e.key.isStr k = false) (hr : ∀ e ∈ es, e.refKey = false)
    (h : ∀ h', (∀ b o, b ≠ d → s.heap.get? b = some o → h'.get? b = some o) → h'.objs.size = s.heap.objs.size → h'.get? d = some (PySem.W.dictOf (es ++ [⟨PyData.keyHash w.params k, .str k s.toks, v⟩]) (n + 1)) → Q () { s with heap := h', toks := s.toks + 1 }) :
    wpAny (model prog w) A (nsSet d k v) Q E s := by
  have e1 : es.any (·.key.isStr k) = false := by
    cases q : es.any (·.key.isStr k) with
    | false => rfl
    | true => obtain ⟨e, he, z⟩ := List.any_eq_true.mp q; rw [hs e he] at z; cases z
  have e2 : es.any (·.refKey) = false := by
    cases q : es.any (·.refKey) with
    | false => rfl
    | true => obtain ⟨e, he, z⟩ := List.any_eq_true.mp q; rw [hr e he] at z; cases z
  have e : Obj.putName k (PyData.keyHash w.params k) (.str k s.toks) v (PySem.W.dictOf es n) = PySem.W.dictOf (es ++ [⟨PyData.keyHash w.params k, .str k s.toks, v⟩]) (n + 1) := by
    rw [PySem.W.putName_dict, PySem.W.putL_new hs]
    show PySem.W.dictOf _ (if es.any (·.key.isStr k) then n else n + 1) = _
    rw [e1, if_neg Bool.false_ne_true]
  have c : aRefKeyMayBeTheName k es.toArray = false := by
    rw [aRefKeyMayBeTheName_at, ← Array.any_toList, ← Array.any_toList]
    show (!es.any (·.key.isStr k) && es.any (·.refKey)) = false
    rw [e2, Bool.and_false]
  unfold nsSet
  refine wpAny_bind (wpAny_bind (wpAny_askSetting (wpAny_pure (wpAny_bind (wpAny_mkText (wpAny_bind (wpAny_loadPart D ?_)))))))
  dsimp only
  rw [c]
  refine wpAny_updatePart D (h _ (fun b o hb eb => (Heap.get?_update_ne _ _ _ _ hb).trans eb) (Heap.size_update _ _ _) ?_)
  rw [← e]
  exact Heap.get?_update_self _ D (show (Obj.putName k (PyData.keyHash w.params k) (.str k s.toks) v (PySem.W.dictOf es n)).isFreed = false by rw [e]; rfl)
theorem kw_fill {Q : PUnit → Shared → Prop} : ∀ (ex : List (Str × Value)) (s : Shared) (es : List DictEntry) (n : Nat), s.heap.get? d = some (PySem.W.dictOf es n) →
    (∀ e ∈ es, ∀ x ∈ ex, e.key.isStr x.1 = false) → (∀ e ∈ es, e.refKey = false) → (ex.map (·.1)).Nodup →
    (∀ h', (∀ b o, b ≠ d → s.heap.get? b = some o → h'.get? b = some o) → h'.objs.size = s.heap.objs.size → h'.get? d = some (PySem.W.dictOf (es ++ PySem.W.kwEs w.params s.toks ex) (n + ex.length)) → Q ⟨⟩ { s with heap := h', toks := s.toks + ex.length }) →
    wpAny (model prog w) A (forIn ex PUnit.unit fun x _ => (nsSet d x.1 x.2 >>= fun _ => pure (ForInStep.yield PUnit.unit))) Q E s
  | [], s, es, n, D, _, _, _, h => by
    rw [List.forIn_nil]
    refine wpAny_pure (h s.heap (fun _ _ _ e => e) rfl ?_)
    show s.heap.get? d = some (PySem.W.dictOf (es ++ []) n)
    rw [List.append_nil]
    exact D
  | x :: r, s, es, n, D, hs, hr, hn, h => by
    obtain ⟨hn1, hn2⟩ := List.nodup_cons.mp (show (x.1 :: r.map (·.1)).Nodup from hn)
    rw [List.forIn_cons]
    refine wpAny_bind (wpAny_bind (kw_nsSet D (fun e he => hs e he x (.head _)) hr fun h' k1 z1 D' => wpAny_pure ?_))
    show wpAny (model prog w) A (forIn r PUnit.unit fun x _ => (nsSet d x.1 x.2 >>= fun _ => pure (ForInStep.yield PUnit.unit))) Q E { s with heap := h', toks := s.toks + 1 }
    refine kw_fill r { s with heap := h', toks := s.toks + 1 } _ _ D' (fun e he y hy => ?_) (fun e he => ?_) hn2 fun h'' k2 z2 D'' => ?_
    · rcases List.mem_append.mp he with he | he
      · exact hs e he y (.tail _ hy)
      · obtain rfl := List.mem_singleton.mp he
        show (x.1 == y.1) = false
        exact beq_eq_false_iff_ne.mpr fun q => hn1 (by rw [q]; exact List.mem_map_of_mem hy)
    · rcases List.mem_append.mp he with he | he
      · exact hr e he
      · obtain rfl := List.mem_singleton.mp he
        rfl
    · have t1 : s.toks + 1 + r.length = s.toks + (r.length + 1) := by omega
      have t2 : n + 1 + r.length = n + (r.length + 1) := by omega
      show Q ⟨⟩ { s with heap := h'', toks := s.toks + 1 + r.length }
      rw [t1]
      refine h h'' (fun b o hb eb => k2 b o hb (k1 b o hb eb)) (z2.trans z1) ?_
      rw [t2, List.append_assoc] at D''
      exact D''
theorem kwEs_mix {P : Program} {w : World} : ∀ (ex : List (Str × Value)) (t : Tok), Pairs (mixKind P w) (PySem.W.kwEs w.params t ex) (ex.map fun x => ((Sum.inr x.1 : Key), x.2))
  | [], _ => Pairs.nil
  | x :: r, t => Pairs.cons (keyIs_str x.1 t) rfl (kwEs_mix r (t + 1))
theorem kw_isDict {P : Program} {w : World} {ex : List (Str × Value)} (t : Tok) (n : Nat) (hn : (ex.map (·.1)).Nodup) : (PySem.W.dictOf (PySem.W.kwEs w.params t ex) n).IsDictOf (mixKind P w) (ex.map fun x => ((Sum.inr x.1 : Key), x.2)) := by
  refine ⟨(PySem.W.kwEs w.params t ex).toArray, n, ⟨rfl, rfl, rfl⟩, rfl, fun e he => ?_, kwEs_mix ex t, ?_⟩
  · obtain ⟨k, u, hk, hh⟩ := PySem.W.kwEs_key ex t e (List.mem_toArray.mp he)
    exact ⟨Sum.inr k, by rw [hk]; exact keyIs_str k u, hh.trans rfl⟩
  · rw [List.map_map]
    have e : ((fun x : Key × Value => x.1) ∘ fun x : Str × Value => ((Sum.inr x.1 : Key), x.2)) = (fun x : Str × Value => (Sum.inr x.1 : Key)) := rfl
    rw [e]
    have q : ex.map (fun x : Str × Value => (Sum.inr x.1 : Key)) = (ex.map (·.1)).map Sum.inr := by rw [List.map_map]; rfl
    rw [q]
    exact List.Pairwise.map _ (fun a b hab e => hab (Sum.inr.inj e)) hn
end
/-- the dict of the keywords -/
def kwD (ks : List Str) (zs : List V) : List (Key × V) := (ks.zip zs).map fun p => (Sum.inr p.1, p.2)
theorem kwD_rel : ∀ {ks : List Str} {zs : List V} {ws : List Value}, Vals zs ws → KV (kwD ks zs) ((ks.zip ws).map fun x => ((Sum.inr x.1 : Key), x.2))
  | [], _, _, _ => .nil
  | _ :: _, _, _, .nil => .nil
  | k :: ks, _, _, .cons r t => .cons ⟨rfl, r⟩ (kwD_rel t)
theorem zip_fst {α β : Type} : ∀ {ks : List α} {ws : List β}, ws.length = ks.length → (ks.zip ws).map (·.1) = ks
  | [], [], _ => rfl
  | k :: ks, w :: ws, h => by
    show k :: (ks.zip ws).map (·.1) = k :: ks
    rw [zip_fst (by simpa using h)]
  | [], _ :: _, h => by simp at h
  | _ :: _, [], h => by simp at h
section
variable {CX : CXT} {P : Program} {w : World} {K : PySem.W.Frag} {mg : Str → Option Value} {base : Heap} {k : Nat} {f : Addr} {name qual : Str} {params : Arguments} {body : List Stmt} {scope : Scope} {dV kV doc pm cdv ct oc : Value} {an od : Option Addr}
  {osl : Array (Option Value)} {N : List Str} {p1 pd : Str} {ks : List Str} {sp : Sp}
theorem env0_laid' {A : Around} {outer : List Env} {s : Shared} {H : Hp} {u : HO} {h' : Heap} {t : Nat} (e0 : Env0 P w K mg base A outer s H) (kp : ∀ b x, s.heap.get? b = some x → h'.get? b = some x) (hz : s.heap.objs.size ≤ h'.objs.size)
    (new : ObjOk P w (upd H s.heap.objs.size u) h' s.heap.objs.size u) : Env0 P w K mg base A outer { s with heap := h', toks := t } (upd H s.heap.objs.size u) := by
  refine ⟨e0.frames, e0.mod, fun b x e => ⟨kp b x (e0.bs b x e).1, ?_⟩, Nat.le_trans e0.bsz hz, Heap.FunFrames.of_keeps (fun b x e _ => ⟨x, kp b x e, rfl⟩) e0.funs, fun b hb => ?_, e0.hok.laid kp (Nat.le_refl _) new, e0.bare⟩
  · rw [upd_ne (Nat.ne_of_lt (Heap.lt_size (e0.bs b x e).1))]
    exact (e0.bs b x e).2
  · obtain ⟨_, x, hx, _⟩ := e0.funs.mem hb
    rw [upd_ne (Nat.ne_of_lt (Heap.lt_size hx))]
    exact e0.frf b hb
/-- a call with these keywords -/
def FnK (P : Program) (w : World) (K : PySem.W.Frag) (mg : Str → Option Value) (base : Heap) (CX : CXT) (k : Nat) (f : Addr) (ks : List Str) (sp : Sp) : Prop :=
  ∀ (A : Around) (outer : List Env) (s : Shared) (H : Hp) (us ws : List Value) (vs zs : List V) (Q : VK) (E : XK), Room k A → Env0 P w K mg base A outer s H → Vals vs us → Vals zs ws → zs.length = ks.length → sp (vs ++ zs) H Q E →
    codeAny (model P w) A (.call (.ref f) ⟨us, ks.zip ws⟩) (CR CX outer P w H s Q E) s
/-- def f(self, **d) -/
theorem fn_kw (lk : K.lookup f = some ⟨oc, od, .func (PySem.W.fnOf name qual params body scope dV kV doc pm an cdv ct), osl⟩) (hcd : PySem.W.codeIn K cdv qual = true) (S : FnScope N [p1, pd] scope) (hCX : StX.CXUp CX) (nd : ks.Nodup) (hks : ks.length ≤ sizeLine)
    (hb : ∀ (u : Value) (ws : List Value), ws.length = ks.length → bindArgs (PySem.W.fnOf name qual params body scope dV kV doc pm an cdv ct) ⟨[u], ks.zip ws⟩ =
      ((alloc (PySem.W.dictOf [] 0) : Sem Addr) >>= fun d => (forIn (ks.zip ws) PUnit.unit fun x _ => (nsSet d x.1 x.2 >>= fun _ => pure (ForInStep.yield PUnit.unit))) >>= fun _ => pure [(p1, u), (pd, Value.ref d)]))
    (hbody : ∀ (A : Around) (outer : List Env) (s : Shared) (H : Hp) (vs : List V) (Q : VK) (E : XK), Room k (A.deeper (envOfC qual scope s.heap.objs.size f cdv)) → sp vs H Q E →
      ∃ t, PSs (cxOf CX P w K mg base N qual scope f cdv A outer s H E) body t ∧ t { nx := fun _ H' => Q .non H', rt := Q } (start N vs) H) :
    FnK P w K mg base CX (k + 1) f ks (fun vs H Q E => ∃ v zs, vs = v :: zs ∧ zs.length = ks.length ∧ ∀ d, H d = Option.none → sp [v, V.ref d] (upd H d (.dK (kwD ks zs))) Q E) := by
  intro A outer s H us ws vs zs Q E hr e0 r rz hz hsp
  obtain ⟨v, zs', ev, hl, hq⟩ := hsp
  have hn : H s.heap.objs.size = Option.none := e0.hok.fresh (Nat.le_refl _)
  obtain ⟨e1, e2⟩ : vs = [v] ∧ zs = zs' := by
    have q : zs.length = zs'.length := hz.trans hl.symm
    cases vs with
    | nil =>
      exfalso
      have := congrArg List.length ev
      simp at this
      omega
    | cons x r' =>
      have h1 : x = v := (List.cons.inj ev).1
      have h2 : r' ++ zs = zs' := (List.cons.inj ev).2
      have h3 := congrArg List.length h2
      rw [List.length_append] at h3
      have h4 : r' = [] := List.length_eq_zero_iff.mp (by omega)
      rw [h4] at h2 ⊢
      exact ⟨by rw [h1], h2⟩
  subst e1
  subst e2
  obtain ⟨u, rfl, ru⟩ := vals1 r
  have hl2 : ws.length = ks.length := by rw [← rz.length]; exact hz
  refine StX.run_bnd lk hcd S hr e0 (G := fun xs H2 => ∃ d, H d = Option.none ∧ xs = [v, V.ref d] ∧ H2 = upd H d (.dK (kwD ks zs))) (fun A' Ex Q' h => ?_) fun s2 H2 xs ⟨d, hd, ex, eH⟩ hr' => ?_
  · rw [hb u ws hl2]
    refine wpAny_bind (wpAny_alloc (wpAny_bind ?_))
    refine kw_fill (ks.zip ws) _ [] 0 (Heap.get?_push_size _ rfl) (fun _ he => nomatch he) (fun _ he => nomatch he) (by rw [zip_fst hl2]; exact nd) fun h' kp hz' D => wpAny_pure ?_
    have kp' : ∀ b x, s.heap.get? b = some x → h'.get? b = some x := fun b x e => kp b x (Nat.ne_of_lt (Heap.lt_size e)) (Heap.get?_push_of_some _ e)
    have hsz : s.heap.objs.size ≤ h'.objs.size := by rw [hz']; show _ ≤ (s.heap.push _).objs.size; rw [Heap.size_push]; exact Nat.le_succ _
    have hm : (s.heap.objs.size == sysModules) = false := beq_eq_false_iff_ne.mpr (Ne.symm (Nat.ne_of_lt (StX.env0_big e0)))
    have new : ObjOk P w (upd H s.heap.objs.size (.dK (kwD ks zs))) h' s.heap.objs.size (.dK (kwD ks zs)) := by
      refine ⟨?_, hm, _, kwD_rel rz, Heap.dictOf_iff.mpr ⟨_, D, kw_isDict s.toks _ (by rw [zip_fst hl2]; exact nd)⟩⟩
      unfold kwD
      rw [List.length_map, List.length_zip]
      omega
    exact h { s with heap := h', toks := s.toks + (ks.zip ws).length } (upd H s.heap.objs.size (.dK (kwD ks zs))) [v, V.ref s.heap.objs.size] [u, Value.ref s.heap.objs.size] (env0_laid' (s := s) e0 kp' hsz new) (Un.laid (h := s.heap) kp' (Nat.le_refl _) hn) rfl
      (fun e s' => hCX outer s H _ _ E e s' (Un.laid (h := s.heap) kp' (Nat.le_refl _) hn) kp' rfl) (.cons ru (.cons rfl .nil)) rfl ⟨_, hn, rfl, rfl⟩
  · subst ex eH
    exact hbody A outer s2 _ _ Q E hr' (hq d hd)
end
end Ld
namespace Ld
open PySem PySem.Spec PyProof.Rows L2
/-! ### C(k = v, ..) by a promise of keywords -/
def tMakeQ (C : Addr) (m : Nat) (sp : Sp) (E : XK) (tk : TA) : TE := fun σ H Q => tk σ H fun zs H2 => zs.length = m ∧ ∀ x dx, H2 x = Option.none → H2 dx = Option.none → dx ≠ x →
  sp (V.ref x :: zs) (upd (upd H2 dx (.own x)) x (.ins C dx [])) (fun v H3 => v = .non ∧ Q (.ref x) H3) E
section
variable {X : Cx} {CX : CXT} {k n : Nat} {f C : Addr} {ks : List Str} {sp : Sp} {E : XK} {x : Str} {p pos : Pos} {kws : List Keyword} {tk : TA}
theorem run_makeQ {pins : List (Addr × Obj)} {σ : L2.St} {H : Hp} {s : Shared} {Q : VK} {ws : List Value} {zs : List V} (M : Mk X.K C f) (F : FnK X.prog X.w X.K X.mg X.base CX k f ks sp) (hr : Room (k + 1) X.A) (hx : Passes CX X E)
    (I : Inv X pins σ H s) (rz : Vals zs ws) (l2 : zs.length = ks.length)
    (h : ∀ x dx, H x = Option.none → H dx = Option.none → dx ≠ x → sp (V.ref x :: zs) (upd (upd H dx (.own x)) x (.ins C dx [])) (fun v H2 => v = .non ∧ Q (.ref x) H2) E) :
    wpAny (model X.prog X.w) X.A (call (.ref C) [] (ks.zip ws)) (EP X pins σ Q) X.xe s := by
  have hq := h (s.heap.objs.size + 1) s.heap.objs.size (I.hok.fresh (Nat.le_succ _)) (I.hok.fresh (Nat.le_refl _)) (Nat.ne_of_lt (Nat.lt_succ_self _))
  have I2 := Inv.made (C := C) I
  refine wpAny_call (make_map (f := f) I.kIn M.makes M.init (beq_iff_eq.mp M.fn) (codeAny_mono (F _ X.stack _ _ [Value.ref (s.heap.objs.size + 1)] ws [V.ref (s.heap.objs.size + 1)] zs _ E (hr.make C [] (ks.zip ws))
    (I2.env0.make C [] (ks.zip ws)) (.cons rfl .nil) rz l2 hq) fun r s' hq' => ?_))
  cases r with
  | error e => exact hx pins σ _ _ e s' I2 hq'
  | ok fl =>
    cases fl with
    | ret u =>
      obtain ⟨v, H', I3, rv, ev, q3⟩ := I2.after hq'
      subst ev
      exact ⟨rv, ⟨V.ref (s.heap.objs.size + 1), H', I3, rfl, q3⟩⟩
    | next => exact False.elim hq'
    | brk => exact False.elim hq'
    | cont => exact False.elim hq'
theorem pe_makeQ0 (M : Mk X.K C f) (F : FnK X.prog X.w X.K X.mg X.base CX k f [] sp) (hr : Room (k + 1) X.A) (hg : Gl X x) (hm : X.mg x = some (.ref C)) (hx : Passes CX X E)
    (hdb : (x == ("__debug__" : Str)) = false := by decide) : PE X (.Call (.Name x p) [] [] pos) (tMakeQ C 0 sp E tNil) := by
  refine ⟨fun pins s σ H Q I h => ?_⟩
  refine wpAny_Call_Name_kw (ld_glob I hg hm ?_ hdb)
  exact PySem.W.callWith_K0 I.kIn M.kp (run_makeQ (ws := []) (zs := []) M F hr hx I .nil rfl h.2)
theorem pe_makeQ (M : Mk X.K C f) (F : FnK X.prog X.w X.K X.mg X.base CX k f ks sp) (hr : Room (k + 1) X.A) (hg : Gl X x) (hm : X.mg x = some (.ref C)) (hx : Passes CX X E) (hkw : PK X kws tk)
    (hall : (backToKw pos (keywordEach kws X.env)).all (·.1.isSome) = true := by rfl) (hks : (backToKw pos (keywordEach kws X.env)).filterMap (·.1) = ks := by rfl) (hdb : (x == ("__debug__" : Str)) = false := by decide)
    (hpl : ((backTo pos (starEach [] X.env)).any (·.1) || (backToKw pos (keywordEach kws X.env)).any (·.1.isNone)) = false := by rfl) :
    PE X (.Call (.Name x p) [] kws pos) (tMakeQ C ks.length sp E tk) := by
  refine ⟨fun pins s σ H Q I h => ?_⟩
  refine wpAny_Call_Name_kw (ld_glob I hg hm ?_ hdb)
  refine PySem.W.callWith_KW0 (h₀ := X.base) I.ok.mod.kin M.kp hall ?_ hpl
  refine thn (hkw.run pos pins s σ H _ I h) fun ws s2 ⟨zs, H2, I2, rz, l2, q2⟩ => ⟨I2.kIn, ?_⟩
  rw [hks]
  exact run_makeQ M F hr hx I2 rz l2 q2
end
theorem okK {P : Program} {w : World} {K : PySem.W.Frag} {mg : Str → Option Value} {base : Heap} {x qual : Str} {st : Stmt} {f : Addr} {fd : FuncData} {N : List Str} {p1 pd : Str} {k : Nat} {ks : List Str} {sp : Sp} (F : Fun K x qual st f fd) (S : FnScope N [p1, pd] (defScope st)) (nd : ks.Nodup) (hks : ks.length ≤ sizeLine)
    (hb : ∀ (kV doc pm : Value) (an : Option Addr) (cdv ct : Value) (u : Value) (ws : List Value), ws.length = ks.length → bindArgs (PySem.W.fnOf x qual (defArgs st) (defBody st) (defScope st) .none kV doc pm an cdv ct) ⟨[u], ks.zip ws⟩ =
      ((alloc (PySem.W.dictOf [] 0) : Sem Addr) >>= fun d => (forIn (ks.zip ws) PUnit.unit fun x _ => (nsSet d x.1 x.2 >>= fun _ => pure (ForInStep.yield PUnit.unit))) >>= fun _ => pure [(p1, u), (pd, Value.ref d)]))
    (hbody : ∀ (cdv : Value) (A : Around) (outer : List Env) (s : Shared) (H : Hp) (vs : List V) (Q : VK) (E : XK), Room k (A.deeper (envOfC qual (defScope st) s.heap.objs.size f cdv)) → sp vs H Q E →
      ∃ t, PSs (cxOf CX0 P w K mg base N qual (defScope st) f cdv A outer s H E).nox (defBody st) t ∧ t { nx := fun _ H' => Q .non H', rt := Q } (start N vs) H) :
    FnK P w K mg base CX0 (k + 1) f ks (fun vs H Q E => ∃ v zs, vs = v :: zs ∧ zs.length = ks.length ∧ ∀ d, H d = Option.none → sp [v, V.ref d] (upd H d (.dK (kwD ks zs))) Q E) := by
  obtain ⟨oc, od, kV, doc, pm, an, cdv, ct, osl, rfl, lk, hcd⟩ := F.ex
  refine fn_kw lk hcd S StX.cxUp_none nd hks (hb kV doc pm an cdv ct) fun A outer s H vs Q E hr hsp => ?_
  obtain ⟨t, h, q⟩ := hbody cdv A outer s H vs Q E hr hsp
  exact ⟨t, h.nox, q⟩
abbrev sInit : Stmt := inClass (top 14) 0
example (kV doc pm : Value) (an : Option Addr) (cdv ct : Value) (u : Value) : bindArgs (PySem.W.fnOf "__init__" "Load.__init__" (defArgs sInit) (defBody sInit) (defScope sInit) .none kV doc pm an cdv ct) ⟨[u], ([] : List Str).zip []⟩ =
      ((alloc (PySem.W.dictOf [] 0) : Sem Addr) >>= fun d => (forIn (([] : List Str).zip []) PUnit.unit fun x _ => (nsSet d x.1 x.2 >>= fun _ => pure (ForInStep.yield PUnit.unit))) >>= fun _ => pure [(("self" : Str), u), (("counts" : Str), Value.ref d)]) := rfl
example (kV doc pm : Value) (an : Option Addr) (cdv ct : Value) (u a : Value) : bindArgs (PySem.W.fnOf "__init__" "Load.__init__" (defArgs sInit) (defBody sInit) (defScope sInit) .none kV doc pm an cdv ct) ⟨[u], (["a"] : List Str).zip [a]⟩ =
      ((alloc (PySem.W.dictOf [] 0) : Sem Addr) >>= fun d => (forIn ((["a"] : List Str).zip [a]) PUnit.unit fun x _ => (nsSet d x.1 x.2 >>= fun _ => pure (ForInStep.yield PUnit.unit))) >>= fun _ => pure [(("self" : Str), u), (("counts" : Str), Value.ref d)]) := rfl
end Ld
namespace Ld
open PySem PySem.Spec PyProof.Rows L2
/-! ### texts in order -/
def leS (a b : Str) : Prop := a.cps.toList ≤ b.cps.toList
theorem rising_pw : ∀ {p : Str} {l : List Str}, risingS p l = true → (p :: l).Pairwise leS
  | p, [], _ => List.pairwise_singleton _ _
  | p, x :: r, h => by
    rw [risingS, Bool.and_eq_true, Bool.not_eq_true', ltCps_eq, decide_eq_false_iff_not] at h
    have ih := rising_pw h.2
    have h1 : leS p x := h.1
    refine List.pairwise_cons.mpr ⟨fun y hy => ?_, ih⟩
    rcases List.mem_cons.mp hy with e | hy
    · rw [e]
      exact h1
    · exact List.le_trans h1 ((List.pairwise_cons.mp ih).1 y hy)
theorem sorted_pw {l : List Str} (h : sortedS l = true) : l.Pairwise leS := by
  cases l with
  | nil => exact List.Pairwise.nil
  | cons x r => exact rising_pw h
theorem pw_sorted {l : List Str} (h : l.Pairwise leS) : sortedS l = true := by
  refine sortedS_of_pairwise l (h.imp fun {a b} q => ?_)
  rw [ltCps_eq, decide_eq_false_iff_not]
  exact q
theorem sorted_eq {l m : List Str} (p : l.Perm m) (h1 : sortedS l = true) (h2 : sortedS m = true) : l = m :=
  List.Perm.eq_of_pairwise (le := leS) (fun a b _ _ x y => by
    have e : a.cps.toList = b.cps.toList := List.le_antisymm x y
    cases a
    cases b
    have e2 := Array.toList_inj.mp e
    exact congrArg _ e2) (sorted_pw h1) (sorted_pw h2) p
/-! ### counts as a load holds them -/
structure Can (ps : List (Str × Int)) : Prop where
  nd : (ps.map (·.1)).Nodup
  srt : sortedS (ps.map (·.1)) = true
  nz : ∀ p ∈ ps, p.2 ≠ 0
  wd : ∀ p ∈ ps, wordB p.1 = true
  few : ps.length ≤ 1000
theorem ct_mem {ps : List (Str × Int)} (nd : (ps.map (·.1)).Nodup) {p : Str × Int} (hp : p ∈ ps) : ct ps p.1 = p.2 := by
  have h := ctO_some (List.mem_map.mpr ⟨p, hp, rfl⟩ : p.1 ∈ ps.map (·.1))
  unfold ctO at h
  rw [Option.map_eq_some_iff] at h
  obtain ⟨q, hq, e⟩ := h
  have q1 := List.find?_some hq
  rw [decide_eq_true_eq] at q1
  have q2 := List.mem_of_find?_eq_some hq
  rw [← e]
  obtain ⟨i, hi, ei⟩ := List.getElem_of_mem hp
  obtain ⟨j, hj, ej⟩ := List.getElem_of_mem q2
  have : j = i := by
    have h1 : (ps.map (·.1))[j]'(by rw [List.length_map]; exact hj) = (ps.map (·.1))[i]'(by rw [List.length_map]; exact hi) := by
      rw [List.getElem_map, List.getElem_map, ei, ej]
      exact q1
    exact (List.getElem_inj nd).mp h1
  subst this
  rw [← ei, ← ej]
theorem ct_out {ps : List (Str × Int)} {z : Str} (h : z ∉ ps.map (·.1)) : ct ps z = 0 := by
  unfold ct
  rw [ctO_none h]
  rfl
theorem ct_in {ps : List (Str × Int)} {z : Str} (h : ct ps z ≠ 0) : z ∈ ps.map (·.1) := Classical.byContradiction fun n => h (ct_out n)
theorem tidy_mem {ps : List (Str × Int)} {ys : List Str} {q : Str × Int} : q ∈ tidy ps ys ↔ q.1 ∈ ys ∧ q.2 = ct ps q.1 ∧ q.2 ≠ 0 := by
  unfold tidy
  rw [List.mem_filter, List.mem_map, bne_iff_ne]
  constructor
  · rintro ⟨⟨z, hz, rfl⟩, n⟩
    exact ⟨hz, rfl, n⟩
  · rintro ⟨h1, h2, h3⟩
    exact ⟨⟨q.1, h1, by rw [← h2]⟩, h3⟩
theorem tidy_keys (ps : List (Str × Int)) (ys : List Str) : (tidy ps ys).map (·.1) = ys.filter (fun z => ct ps z != 0) := by
  unfold tidy
  induction ys with
  | nil => rfl
  | cons y r ih =>
    rw [List.map_cons, List.filter_cons, List.filter_cons]
    cases e : (ct ps y != 0) with
    | true =>
      show ((y, ct ps y) :: _).map _ = _
      rw [List.map_cons, ih]
      rfl
    | false => exact ih
theorem tidy_can {ps : List (Str × Int)} {ys : List Str} (nd : (ps.map (·.1)).Nodup) (wd : ∀ p ∈ ps, wordB p.1 = true) (few : ps.length ≤ 1000) (perm : ys.Perm (ps.map (·.1))) (srt : sortedS ys = true) : Can (tidy ps ys) ∧ ∀ z, ct (tidy ps ys) z = ct ps z := by
  have ndy : ys.Nodup := perm.nodup_iff.mpr nd
  have ndt : ((tidy ps ys).map (·.1)).Nodup := by
    rw [tidy_keys]
    exact ndy.filter _
  refine ⟨⟨ndt, ?_, fun p hp => (tidy_mem.mp hp).2.2, fun p hp => ?_, ?_⟩, fun z => ?_⟩
  · rw [tidy_keys]
    exact pw_sorted ((sorted_pw srt).filter _)
  · have h := perm.mem_iff.mp (tidy_mem.mp hp).1
    obtain ⟨q, hq, e⟩ := List.mem_map.mp h
    rw [← e]
    exact wd q hq
  · have h1 : (tidy ps ys).length ≤ ys.length := by
      unfold tidy
      refine Nat.le_trans (List.length_filter_le _ _) ?_
      rw [List.length_map]
      exact Nat.le_refl _
    rw [perm.length_eq, List.length_map] at h1
    exact Nat.le_trans h1 few
  · by_cases h : ct ps z = 0
    · rw [h]
      refine ct_out fun hm => ?_
      obtain ⟨q, hq, e⟩ := List.mem_map.mp hm
      have := tidy_mem.mp hq
      rw [e, h] at this
      exact this.2.2 this.2.1
    · have hz := perm.mem_iff.mpr (ct_in h)
      exact ct_mem ndt (tidy_mem.mpr ⟨hz, rfl, h⟩ : (z, ct ps z) ∈ tidy ps ys)
/-- two loads with the same counts are the same -/
theorem can_eq {ps qs : List (Str × Int)} (a : Can ps) (b : Can qs) (h : ∀ z, ct ps z = ct qs z) : ps = qs := by
  have key : ∀ {ps qs : List (Str × Int)}, Can ps → Can qs → (∀ z, ct ps z = ct qs z) → ∀ z, z ∈ ps.map (·.1) → z ∈ qs.map (·.1) := fun a b h z hz => by
    obtain ⟨p, hp, e⟩ := List.mem_map.mp hz
    refine ct_in ?_
    rw [← h z, ← e, ct_mem a.nd hp]
    exact a.nz p hp
  have ek : ps.map (·.1) = qs.map (·.1) := by
    refine sorted_eq ?_ a.srt b.srt
    exact (List.perm_ext_iff_of_nodup a.nd b.nd).mpr fun z => ⟨key a b h z, key b a (fun z => (h z).symm) z⟩
  have val : ∀ {ps : List (Str × Int)}, Can ps → ps = (ps.map (·.1)).map fun z => (z, ct ps z) := fun {ps} a => by
    rw [List.map_map]
    conv => lhs; rw [← List.map_id ps]
    refine List.map_congr_left fun p hp => ?_
    show p = (p.1, ct ps p.1)
    rw [ct_mem a.nd hp]
  rw [val a, val b, ek]
  exact List.map_congr_left fun z _ => by rw [h z]
end Ld
namespace Ld
open PySem PySem.Spec PyProof.Rows L2
/-- a load with these counts -/
def LoadAt (C : Addr) (H : Hp) (x : Addr) (ps : List (Str × Int)) : Prop := ∃ dx t, H x = some (.ins C dx [("_counts", .ref t)]) ∧ H t = some (.dK (cD ps)) ∧ Can ps
theorem LoadAt.same {C : Addr} {H H' : Hp} {x : Addr} {ps : List (Str × Int)} (h : LoadAt C H x ps) (s : Same H H') : LoadAt C H' x ps := by
  obtain ⟨dx, t, h1, h2, c⟩ := h
  exact ⟨dx, t, s _ _ h1, s _ _ h2, c⟩
/-- what of the text the class must have -/
structure LoadC (K : PySem.W.Frag) (mg : Str → Option Value) (C fi : Addr) : Prop where
  c : Cls K C
  nc : NoAttr K C "_counts"
  mkC : Mk K C fi
  gC : mg "Load" = some (.ref C)
abbrev sOf : Stmt := inClass (top 14) 1
/-- counts that a load can be made of -/
structure Ok (H : Hp) (a : Addr) (ps : List (Str × Int)) : Prop where
  at_ : H a = some (.dK (cD ps))
  nd : (ps.map (·.1)).Nodup
  few : ps.length ≤ 1000
  wd : ∀ p ∈ ps, wordB p.1 = true
def spInitB (C : Addr) : Sp := fun vs H Q _ => ∃ (x dx d : Addr) (ps : List (Str × Int)) (fs : List (Str × V)), vs = [.ref x, .ref d] ∧ H x = some (.ins C dx fs) ∧ fs.length < 10 ∧ Ok H d ps ∧
  ∀ (H' : Hp) (t : Addr) (ps' : List (Str × Int)), (∀ b o, b ≠ x → H b = some o → H' b = some o) → H' x = some (.ins C dx (putF "_counts" (.ref t) fs)) → H' t = some (.dK (cD ps')) → Can ps' → (∀ z, ct ps' z = ct ps z) → Q .non H'
def spKw (ks : List Str) (sp : Sp) : Sp := fun vs H Q E => ∃ v zs, vs = v :: zs ∧ zs.length = ks.length ∧ ∀ d, H d = Option.none → sp [v, V.ref d] (upd H d (.dK (kwD ks zs))) Q E
def spOf (C : Addr) : Sp := fun vs H Q _ => ∃ (c : V) (a : Addr) (ps : List (Str × Int)), vs = [c, .ref a] ∧ Ok H a ps ∧
  ∀ (H' : Hp) (x : Addr) (ps' : List (Str × Int)), Same H H' → H x = none → LoadAt C H' x ps' → (∀ z, ct ps' z = ct ps z) → Q (.ref x) H'
section
variable {P : Program} {w : World} {K : PySem.W.Frag} {mg : Str → Option Value} {base : Heap} {C fi : Addr}
theorem scInit : FnScope ["self", "counts"] ["self", "counts"] (defScope sInit) := ⟨rfl, rfl, rfl, by decide +kernel, rfl, by decide +kernel, by decide +kernel⟩
theorem init_body {f : Addr} {cdv : Value} {A : Around} {outer : List Env} {s : Shared} {H : Hp} {vs : List V} {Q : VK} {E : XK} (T : LoadC K mg C fi) (HC : Has P w K mg base 2 "check_counts" ["counts"] spCheck) (HT : Has P w K mg base 2 "tidy_counts" ["counts"] spTidy)
    (hr : Room 2 (A.deeper (envOfC "Load.__init__" (defScope sInit) s.heap.objs.size f cdv))) (h : spInitB C vs H Q E) :
    ∃ t, PSs (cxOf CX0 P w K mg base ["self", "counts"] "Load.__init__" (defScope sInit) f cdv A outer s H E).nox (defBody sInit) t ∧ t { nx := fun _ H' => Q .non H', rt := Q } (L2.start ["self", "counts"] vs) H := by
  obtain ⟨g1, gd1, G1, b1, m1, k1⟩ := HC
  obtain ⟨g2, gd2, G2, b2, m2, k2⟩ := HT
  obtain ⟨x, dx, d, ps, fs, rfl, hx, hl, ok, k⟩ := h
  refine ⟨_, pss_cons (ps_expr (pe_call G1 hr (by rfl) m1 k1 b1 .nil pass0 (pa_cons (pv 1) pa_nil)))
    (pss_one (ps_fld (pv 0) (pe_call G2 hr (by rfl) m2 k2 b2 .nil pass0 (pa_cons (pv 1) pa_nil)) rfl)), ?_⟩
  refine ⟨_, rfl, d, ps, rfl, ok.at_, ok.nd, ok.few, ok.wd, fun H1 same1 => ?_⟩
  refine ⟨_, rfl, d, ps, rfl, same1 _ _ ok.at_, ok.nd, ok.few, fun H2 t ys same2 ht0 perm srt ht => ?_⟩
  have hx2 : H2 x = some (.ins C dx fs) := same2 _ _ (same1 _ _ hx)
  have ntx : t ≠ x := (ne_of_none (same1 _ _ hx) ht0).symm
  obtain ⟨can, cts⟩ := tidy_can ok.nd ok.wd ok.few perm srt
  refine ⟨_, rfl, x, C, dx, fs, rfl, hx2, T.c, T.nc, Nat.lt_trans hl (by decide), ?_⟩
  exact k _ t (tidy ps ys) (fun b o nb eb => by rw [upd_ne nb]; exact same2 _ _ (same1 _ _ eb)) upd_same (by rw [upd_ne ntx]; exact ht) can cts
theorem ok_init0 {f : Addr} {fd : FuncData} (F : Fun K "__init__" "Load.__init__" sInit f fd) (T : LoadC K mg C f) (HC : Has P w K mg base 2 "check_counts" ["counts"] spCheck) (HT : Has P w K mg base 2 "tidy_counts" ["counts"] spTidy) :
    FnK P w K mg base CX0 3 f [] (spKw [] (spInitB C)) :=
  okK F scInit (by decide) (Nat.zero_le _) (fun _ _ _ _ _ _ u ws hw => match ws, hw with | [], _ => rfl) fun cdv A outer s H vs Q E hr h => init_body T HC HT hr h
theorem ok_init1 {f : Addr} {fd : FuncData} {y : Str} (F : Fun K "__init__" "Load.__init__" sInit f fd) (T : LoadC K mg C f) (HC : Has P w K mg base 2 "check_counts" ["counts"] spCheck) (HT : Has P w K mg base 2 "tidy_counts" ["counts"] spTidy)
    (hy : ∀ (kV doc pm : Value) (an : Option Addr) (cdv ct : Value) (u a : Value), bindArgs (PySem.W.fnOf "__init__" "Load.__init__" (defArgs sInit) (defBody sInit) (defScope sInit) .none kV doc pm an cdv ct) ⟨[u], [y].zip [a]⟩ =
      ((alloc (PySem.W.dictOf [] 0) : Sem Addr) >>= fun d => (forIn ([y].zip [a]) PUnit.unit fun x _ => (nsSet d x.1 x.2 >>= fun _ => pure (ForInStep.yield PUnit.unit))) >>= fun _ => pure [(("self" : Str), u), (("counts" : Str), Value.ref d)])) :
    FnK P w K mg base CX0 3 f [y] (spKw [y] (spInitB C)) :=
  okK F scInit (List.pairwise_singleton _ _) (by show 1 ≤ sizeLine; decide) (fun _ _ _ _ _ _ u ws hw => match ws, hw with | [a], _ => hy _ _ _ _ _ _ u a) fun cdv A outer s H vs Q E hr h => init_body T HC HT hr h
abbrev nOf : List Str := ["cls", "counts", "load", "kind"]
theorem scOf : FnScope nOf ["cls", "counts"] (defScope sOf) := ⟨rfl, rfl, rfl, by decide +kernel, rfl, by decide +kernel, by decide +kernel⟩
theorem ok_of {f : Addr} {fd : FuncData} (F : Fun K "of" "Load.of" sOf f fd) (T : LoadC K mg C fi) (B : Blt2 mg) (FI : FnK P w K mg base CX0 3 fi [] (spKw [] (spInitB C)))
    (HC : Has P w K mg base 2 "check_counts" ["counts"] spCheck) (HT : Has P w K mg base 2 "tidy_counts" ["counts"] spTidy) : FnOk P w K mg base CX0 5 f fd ["cls", "counts"] (spOf C) := by
  obtain ⟨g1, gd1, G1, b1, m1, k1⟩ := HC
  obtain ⟨g2, gd2, G2, b2, m2, k2⟩ := HT
  refine F.ok scOf (fun vs H Q E h => ?_) (fun cdv A outer s H vs Q E hr h => ?_)
  · obtain ⟨c, a, ps, rfl, _⟩ := h
    rfl
  · obtain ⟨c, a, ps, rfl, ok, k⟩ := h
    have hr2 : Room 2 _ := hr.mono (by decide)
    have nd : nOf.Nodup := scOf.nd
    refine ⟨_, pss_cons (ps_if (PW.pt (pw_or (pt_not (pt_truth (pe_callB call_isi (by rfl) B.isi bIsi (pa_cons (pv 1) (pa_cons (pe_bltn (v := .ty "dict") (by rfl) B.dict (by decide +kernel) rfl) pa_nil))) (fun _ => rfl)))
        (pw_or1 (pt_not (pt_truth (pe_callB (cr_all rfl) (by rfl) B.all bAll (pa_cons (pe_lock (pe_lc (own := [("kind", 3)]) (g := gName 3) (tt := tYes) rfl nd (pi_keys (pv 1)) (blkOk_by (N := nOf) (sc := defScope sOf) (by decide +kernel))
          (fun _ _ _ _ _ => pg_name (i := 3) nd rfl (Or.inl rfl)) (fun _ _ _ _ _ => pts_nil) (fun _ _ _ _ _ => pe_callB (r := rIsi K) call_isi (by rfl) B.isi bIsi (pa_cons (pv 3) (pa_cons (pe_bltn (v := .ty "str") (by rfl) B.str bStr0 rfl) pa_nil))))) pa_nil)) (fun _ => rfl)))))) (pss_one ps_never) pss_nil)
      (pss_cons (ps_expr (pe_call G1 hr2 (by rfl) m1 k1 b1 .nil pass0 (pa_cons (pv 1) pa_nil)))
      (pss_cons (ps_set (i := 2) nd rfl (Or.inl rfl) (pe_makeQ0 T.mkC FI hr (by rfl) T.gC pass0))
      (pss_cons (ps_fld (pv 2) (pe_call G2 hr2 (by rfl) m2 k2 b2 .nil pass0 (pa_cons (pv 1) pa_nil)) rfl)
      (pss_one (ps_ret (pv 2)))))), ?_⟩
    -- the test
    refine seq_step (fun σ' H' => σ' = [some c, some (.ref a), none, none] ∧ Same H H') (fun R hR => ?_) (fun σ1 H1 h1 => ?_)
    · refine ⟨_, rfl, .ref a, _, _, _, true, rfl, .ty _, .base (.dK ok.at_), kit_ty (by decide +kernel), true, rfl, ?_⟩
      refine ⟨a, _, ok.at_, trivial, fun od => ⟨_, rfl, a, od, rfl, .inl ⟨cD ps, upd_same, fun D hD => ?_⟩⟩⟩
      have nDa : D ≠ a := fun e => by rw [e, upd_same] at hD; cases hD
      have hD0 : H D = none := by rw [upd_ne nDa] at hD; exact hD
      refine lc_it (walk_keys (d := a) (o := od) (kvs := cD ps)) (fun i H' => H' D = some (.lst ((List.replicate i true).map V.bl)) ∧ H' a = some (.frz od (.dK (cD ps))) ∧ ∀ b o, H b = some o → b ≠ a → H' b = some o)
        ⟨upd_same, by rw [upd_ne nDa.symm, upd_same], fun b o eb nb => by rw [upd_ne (ne_of_none eb hD0), upd_ne nb]; exact eb⟩ (fun i H' _ h => h.2.1) ?_ ?_
      · rintro i x H2 H3 hi ⟨eD, ea, keep⟩ ⟨rfl, key, v, hkv, rfl⟩
        obtain ⟨z, rfl, hz⟩ := keysOf.at (kvs := cD ps) (ks := ps.map (·.1)) ⟨cD_keys ps, ok.nd⟩ hkv
        refine ⟨rfl, _, rfl, .str z, _, _, _, true, rfl, .ty _, .base (.str z), kit_ty (by decide +kernel), _, eD, ?_, ?_, by rw [upd_ne nDa.symm]; exact ea, fun b o eb nb => by rw [upd_ne (ne_of_none eb hD0)]; exact keep b o eb nb⟩
        · rw [List.length_map, List.length_replicate]
          rw [cD_len] at hi
          exact Nat.lt_of_lt_of_le hi (Nat.le_trans ok.few (by decide))
        · rw [upd_same, List.replicate_succ', List.map_append]
          rfl
      · rintro H2 ⟨eD, ea, keep⟩
        refine ⟨ea, D, _, rfl, .inl (.inl (by rw [upd_ne nDa]; exact eD)), ?_⟩
        have e : (List.replicate (cD ps).length true).all id = true := by
          rw [List.all_eq_true]
          intro b hb
          exact List.eq_of_mem_replicate hb
        rw [e]
        refine ⟨true, rfl, ?_⟩
        refine hR _ _ ⟨rfl, fun b o eb => ?_⟩
        by_cases e : b = a
        · rw [e, upd_same, ← ok.at_, ← e, eb]
        · rw [upd_ne e]
          exact keep b o eb e
    obtain ⟨rfl, same1⟩ := h1
    refine seq_step (fun σ' H' => σ' = [some c, some (.ref a), none, none] ∧ Same H1 H') (fun R hR => ?_) (fun σ2 H2 h2 => ?_)
    · exact ⟨_, rfl, a, ps, rfl, same1 _ _ ok.at_, ok.nd, ok.few, ok.wd, fun H2 same2 => hR _ _ ⟨rfl, same2⟩⟩
    obtain ⟨rfl, same2⟩ := h2
    -- load = Load()
    refine seq_step (fun σ' H' => ∃ (x dx t : Addr), σ' = [some c, some (.ref a), some (.ref x), none] ∧ Same H H' ∧ H x = none ∧ H' x = some (.ins C dx [("_counts", .ref t)])) (fun R hR => ?_) (fun σ3 H3 h3 => ?_)
    · refine ⟨rfl, fun x dx hx hdx ne => ⟨.ref x, [], rfl, rfl, fun d hd => ?_⟩⟩
      have hx0 : H x = none := by
        cases e : H x with
        | none => rfl
        | some o => rw [same2 _ _ (same1 _ _ e)] at hx; cases hx
      have ndx : d ≠ x := fun e => by rw [e, upd_same] at hd; cases hd
      refine ⟨x, dx, d, [], [], rfl, by rw [upd_ne ndx.symm, upd_same], by decide, ⟨upd_same, List.nodup_nil, by decide, fun _ h => nomatch h⟩, fun H4 t ps' keep hx4 _ _ _ => ⟨rfl, ?_⟩⟩
      refine hR _ _ ⟨x, dx, t, rfl, fun b o eb => ?_, hx0, hx4⟩
      have e2 := same2 _ _ (same1 _ _ eb)
      have nb : b ≠ x := ne_of_none e2 hx
      have nb2 : b ≠ dx := ne_of_none e2 hdx
      refine keep b o nb ?_
      by_cases e : b = d
      · exfalso
        rw [upd_ne ndx] at hd
        rw [← e, upd_ne nb2, e2] at hd
        cases hd
      · rw [upd_ne e, upd_ne nb, upd_ne nb2]
        exact e2
    obtain ⟨x, dx, t0, rfl, same3, hx0, hx3⟩ := h3
    refine ⟨_, rfl, a, ps, rfl, same3 _ _ ok.at_, ok.nd, ok.few, fun H5 t ys same5 ht0 perm srt ht => ?_⟩
    obtain ⟨can, cts⟩ := tidy_can ok.nd ok.wd ok.few perm srt
    have ntx : t ≠ x := (ne_of_none hx3 ht0).symm
    refine ⟨_, rfl, x, C, dx, _, rfl, same5 _ _ hx3, T.c, T.nc, by show 1 < 1000; decide, ?_⟩
    refine ⟨_, rfl, k _ x (tidy ps ys) (fun b o eb => by rw [upd_ne (ne_of_none eb hx0)]; exact same5 _ _ (same3 _ _ eb)) hx0 ⟨dx, t, upd_same, by rw [upd_ne ntx]; exact ht, can⟩ cts⟩
end
end Ld
namespace Ld
open PySem PySem.Spec PyProof.Rows L2
section
variable {X : Cx} {CX : CXT} {pins : List (Addr × Obj)} {σ : L2.St} {H : Hp} {s : Shared} {C g : Addr} {n : Nat} {sp : Sp} {E : XK}
theorem cls_looks {M : Model} {h : Heap} {a : Addr} {o : Obj} {t : Value} (e : h.get? a = some o) (c : o.cls = t) : PySem.W.Looks M h (typeOf (.ref a)) t := c ▸ (PySem.W.Looks.ld e).andThen .now
theorem tyX_looks {x : V} {u t : Value} (I : Inv X pins σ H s) (rx : RelV x u) (ty : TyX X.K H x t) : PySem.W.Looks (model X.prog X.w) s.heap (typeOf u) t := by
  cases ty with
  | base b =>
    cases b with
    | non => cases (show u = Value.none from rx); exact .of_pure rfl
    | bl y => cases (show u = Value.bool y from rx); exact .of_pure rfl
    | int i => obtain ⟨t, q⟩ := (show ∃ t, u = Value.int i t from rx); cases q; exact .of_pure rfl
    | str y => obtain ⟨t, q⟩ := (show ∃ t, u = Value.str y t from rx); cases q; exact .of_pure rfl
    | flt y => obtain ⟨t, q⟩ := (show ∃ t, u = Value.float y t from rx); cases q; exact .of_pure rfl
    | @lst a xs ea =>
      cases (show u = Value.ref a from rx)
      obtain ⟨_, _, n, _, h1⟩ := (show ObjOk X.prog X.w H s.heap a (.lst xs) from I.hok a _ ea)
      exact cls_looks h1 rfl
    | @frz a ob xs ea =>
      cases (show u = Value.ref a from rx)
      obtain ⟨_, _, _, n, _, h1⟩ := (show ObjOk X.prog X.w H s.heap a (.frz ob (.lst xs)) from I.hok a _ ea)
      exact cls_looks h1 rfl
    | @tup a xs ea =>
      cases (show u = Value.ref a from rx)
      obtain ⟨_, _, _, o, h1, h2, _⟩ := (show ObjOk X.prog X.w H s.heap a (.tup xs) from I.hok a _ ea)
      exact cls_looks h1 h2
    | @dK a kvs ea =>
      cases (show u = Value.ref a from rx)
      obtain ⟨_, _, vs, _, o, es, ep, h1, h2, _⟩ := (show ObjOk X.prog X.w H s.heap a (.dK kvs) from I.hok a _ ea)
      exact cls_looks h1 h2.1
    | @dT a kvs ea =>
      cases (show u = Value.ref a from rx)
      obtain ⟨_, _, xs, _, o, es, ep, h1, h2, _⟩ := (show ObjOk X.prog X.w H s.heap a (.dT kvs) from I.hok a _ ea)
      exact cls_looks h1 h2.1
    | @ins a C dx fs ea cl ha hn htk hm =>
      cases (show u = Value.ref a from rx)
      obtain ⟨mA, O, _⟩ := ins_get I.hok ea
      obtain ⟨od, J, _⟩ := O.look
      exact J.type
  | byt y => obtain ⟨t, q⟩ := (show ∃ t, u = Value.bytes y t from rx); cases q; exact .of_pure rfl
  | @set a S n ea =>
    cases (show u = Value.ref a from rx)
    obtain ⟨o, _, _, _, e, ex, _⟩ := I.hok a _ ea
    exact cls_looks e ex.1
  | @kList a o e c =>
    cases (show u = Value.ref a from rx)
    exact cls_looks (I.kIn a o e) c
  | @kTuple a o e c =>
    cases (show u = Value.ref a from rx)
    exact cls_looks (I.kIn a o e) c
  | @kDict a o e c =>
    cases (show u = Value.ref a from rx)
    exact cls_looks (I.kIn a o e) c
  | @fTuple a ob xs ea =>
    cases (show u = Value.ref a from rx)
    obtain ⟨_, _, _, _, o, h1, h2, _⟩ := (show ObjOk X.prog X.w H s.heap a (.frz ob (.tup xs)) from I.hok a _ ea)
    exact cls_looks h1 h2
  | @fDict a ob kvs ea =>
    cases (show u = Value.ref a from rx)
    obtain ⟨_, _, _, vs, _, o, es, ep, h1, h2, _⟩ := (show ObjOk X.prog X.w H s.heap a (.frz ob (.dK kvs)) from I.hok a _ ea)
    exact cls_looks h1 h2.1
/-- x op y, x an instance of the class at C whose def for op is at g, y of another type, or of the same -/
def rCmp (K : PySem.W.Frag) (C : Addr) (sp : Sp) (E : XK) : R2 := fun x y H Q => ∃ a dx fs t, x = .ref a ∧ H a = some (.ins C dx fs) ∧ TyX K H y t ∧ PySem.W.notFirst K C t = true ∧ sp [x, y] H Q E
theorem op_cmp {op : CmpOp} (hop : ∀ a b, compareOp op a b = richCompare op a b) (hs : PySem.W.findIn X.K (.ref C) (cmpInfo op).2.1 = some (some (.ref g))) (hf : PySem.W.isFn X.K (.ref g) = true) (F : FnR X.prog X.w X.K X.mg X.base CX n g sp)
    (hr : Room n X.A) (hx : Passes CX X E) : OpR X (compareOp op) (rCmp X.K C sp E) := by
  intro pins s σ H x y v u Q I rx ry h
  obtain ⟨a, dx, fs, t, rfl, ha, ty, hn, q⟩ := h
  cases (show v = Value.ref a from rx)
  obtain ⟨mA, O, _⟩ := ins_get I.hok ha
  obtain ⟨od, J, _⟩ := O.look
  obtain ⟨m, hF⟩ := I.fr
  rw [hop]
  refine PySem.W.cmp_K (op := op) (tb := t) hr.units0 hF I.ok.mod.kin J (tyX_looks I ry ty) hn hs hf ?_
  refine wpAny_mono (wpAny_call (run_fnR (us := [.ref a, u]) (vs := [.ref a, y]) F hr hx I (.cons rfl (.cons ry .nil)) q)) (fun w s' z => ?_) fun _ _ x => x
  obtain ⟨z', H', I', rz, qz⟩ := z
  exact SlX.cmpback rz ⟨z', H', I', rz, qz⟩
end
end Ld
/-! x != y by the own __eq__ -/
namespace PySem.W
open PySem PySem.Spec PyProof.Rows PySem.Calls
section
variable {prog : Program} {w : World} {A : Around} {E : Value → Shared → Prop} {s : Shared} {K : Frag} {x C L f : Addr} {h₀ : Heap} {m : Str → Option Value} {ox : Obj} {od : Option Obj} {name : Str} {b tb : Value}
theorem ifBound_B {M : Model} {id : String} {args : List Value} {Q : Option Value → Shared → Prop} (X : K.In s.heap) (I : InstAt s.heap x ox C od) (hs : findIn K (.ref C) name = some (some (.builtin id))) (hb : ∀ self, bindSpecial (.builtin id) self = pure (.builtin id, [self]))
    (h : wpAny M A (call (.builtin id) (.ref x :: args)) (fun v => Q (some v)) E s) : wpAny M A (callSpecialIfBound? (.ref x) name args) Q E s := by
  simp only [callSpecialIfBound?, bindSpecialIfBound?]
  refine wpAny_holding (wpAny_bind (wpAny_bind (wpAny_bind (I.type.here ((looks_findIn X hs).here ?_)))))
  refine wpAny_bind (wpAny_askSetting (wpAny_ite ?_))
  have fin : wpAny M A (call (.builtin id) ([.ref x] ++ args) >>= fun v => pure (some v)) Q E s := wpAny_bind (wpAny_mono h (fun v s' h' => wpAny_pure h') fun _ _ h' => h')
  have hb' : Looks M s.heap (bindSpecial (.builtin id) (.ref x)) (.builtin id, [.ref x]) := Looks.of_pure (hb _)
  split
  · exact wpAny_bind (hb'.here (wpAny_pure (by exact fin)))
  · exact wpAny_tryCatch (wpAny_bind (hb'.here (wpAny_pure (by exact fin))))
theorem isInst_looks {M : Model} (X : K.In s.heap) (I : InstAt s.heap x ox C od) (e : mroIn K C (.type "object") = some true) : Looks M s.heap (isInstance (.ref x) (.type "object")) true := by
  unfold isInstance
  exact I.type.andThen (looks_mroIn X e)
theorem ne_entry {Q : PySem.Fin → Shared → Prop} (hu : A.units < cLine) (X : K.In s.heap) (I : InstAt s.heap x ox C od) (hs : findIn K (.ref C) "__eq__" = some (some (.ref f))) (hf : isFn K (.ref f) = true)
    (h : wpAny (model prog w) A (call (.ref f) [.ref x, b]) (fun v s' => ∃ r, v = .bool r ∧ Q (.done (.ret (.bool (!r)))) s') E s) :
    wpAny (model prog w) A (Builtin.«object.__ne__» ⟨[.ref x, b], []⟩) Q E s := by
  unfold Builtin.«object.__ne__»
  repeat (first
    | with_reducible refine wpAny_cRoomFor hu ?_
    | (refine wpAny_bind (m := callSpecialIfBound? (.ref x) (Str.ofString "__eq__") [b])
        (ifBound_K X I hs hf (wpAny_mono h (fun r s' hr => by
          obtain ⟨b, rfl, hq⟩ := hr
          repeat (first | exact hq | exact wpAny_pure hq | exact wpAny_truthy_bool hq | (refine wpAny_bind (m := truthy (.bool _)) (wpAny_truthy_bool ?_)) | wp_step)) fun _ _ e => e)))
    | wp_step)
theorem ne_K {Q : Value → Shared → Prop} (hu : A.units + 1 < cLine) (F : Fr h₀ L s.heap m) (X₀ : K.In h₀) (I : InstAt s.heap x ox C od) (hb : Looks (model prog w) s.heap (typeOf b) tb) (hn : notFirst K C tb = true)
    (hne : findIn K (.ref C) "__ne__" = some (some (.builtin "object.__ne__"))) (ho : mroIn K C (.type "object") = some true)
    (hs : findIn K (.ref C) "__eq__" = some (some (.ref f))) (hf : isFn K (.ref f) = true)
    (h : wpAny (model prog w) A.in1 (call (.ref f) [.ref x, b]) (fun v s' => ∃ r, v = .bool r ∧ Q (.bool (!r)) s') E s) : wpAny (model prog w) A (richCompare .NotEq (.ref x) b) Q E s := by
  have X := X₀.keeps F.keep
  have one : wpAny (model prog w) A (tryCompare (.ref x) (cmpInfo .NotEq).2.1 b) (fun r s' => ∃ v, r = some v ∧ Q v s') E s := by
    unfold tryCompare
    refine wpAny_bind (ifBound_B X I hne PySem.F.cmp_object.ne.bind (wpAny_call (codeAny_call_builtin PySem.F.cmp_object.ne.plain PySem.F.cmpEntry_ne
      (@PySem.W.check_slot (model prog w) _ _ s "object.__ne__" "object" "__ne__" (.ref x) [b] [] _ PySem.F.cmpKind_ne PySem.F.cmpSplit_ne (isInst_looks X I ho) (PySem.F.cmpArgs_ne _ _) (ne_entry (A := A.in1) hu X I hs hf (wpAny_mono h (fun v s' hv => ?_) fun _ _ e => e))))))
    obtain ⟨r, rfl, hq⟩ := hv
    exact ⟨r, rfl, wpAny_pure ⟨_, rfl, hq⟩⟩
  unfold richCompare
  simp only [oneThing_ref]
  refine wpAny_holding (wpAny_bind (wpAny_cRoomFor (Nat.lt_of_succ_lt hu) ?_))
  refine wpAny_bind (I.type.here (wpAny_bind (hb.here ?_)))
  split
  · rename_i q
    have e : subIn K tb (.ref C) = some false := by
      rcases Bool.or_eq_true_iff.mp hn with e | e
      · rw [beq_iff_eq.mp e] at q; simp at q
      · exact beq_iff_eq.mp e
    refine wpAny_bind ((looks_subIn X e).here ?_)
    simp only [Bool.false_eq_true, if_false]
    refine wpAny_bind (wpAny_mono one (fun r s' z => ?_) fun _ _ e => e)
    obtain ⟨v, rfl, hq⟩ := z
    exact wpAny_pure hq
  · refine wpAny_bind (wpAny_pure ?_)
    simp only [Bool.false_eq_true, if_false]
    refine wpAny_bind (wpAny_mono one (fun r s' z => ?_) fun _ _ e => e)
    obtain ⟨v, rfl, hq⟩ := z
    exact wpAny_pure hq
end
end PySem.W

namespace Ld
open PySem PySem.Spec PyProof.Rows L2
section
variable {X : Cx} {CX : CXT} {C g : Addr} {n : Nat} {sp : Sp} {E : XK}
/-- x != y, by the own __eq__ -/
def rCmpNe (K : PySem.W.Frag) (C : Addr) (sp : Sp) (E : XK) : R2 := fun x y H Q => ∃ a dx fs t, x = .ref a ∧ H a = some (.ins C dx fs) ∧ TyX K H y t ∧ PySem.W.notFirst K C t = true ∧ sp [x, y] H (fun v H' => ∃ b, v = .bl b ∧ Q (.bl (!b)) H') E
theorem op_cmpNe (hne : PySem.W.findIn X.K (.ref C) "__ne__" = some (some (.builtin "object.__ne__"))) (ho : PySem.W.mroIn X.K C (.type "object") = some true) (hs : PySem.W.findIn X.K (.ref C) "__eq__" = some (some (.ref g))) (hf : PySem.W.isFn X.K (.ref g) = true)
    (F : FnR X.prog X.w X.K X.mg X.base CX n g sp) (hr : Room (n + 1) X.A) (hx : Passes CX X E) : OpR X (compareOp .NotEq) (rCmpNe X.K C sp E) := by
  intro pins s σ H x y v u Q I rx ry h
  obtain ⟨a, dx, fs, t, rfl, ha, ty, hn, q⟩ := h
  cases (show v = Value.ref a from rx)
  obtain ⟨mA, O, _⟩ := ins_get I.hok ha
  obtain ⟨od, J, _⟩ := O.look
  obtain ⟨m, hF⟩ := I.fr
  show wpAny _ _ (richCompare .NotEq _ _) _ _ _
  have hr1 : Room n X.A.in1 := Room.in1 hr
  refine PySem.W.ne_K (tb := t) (hu_of hr) hF I.ok.mod.kin J (tyX_looks I ry ty) hn hne ho hs hf ?_
  refine wpAny_mono (wpAny_call (SlX.run_at (A := X.A.in1) (us := [.ref a, u]) (ws := [.ref a, y]) F hr1 I.env0.in1 hx I (.cons rfl (.cons ry .nil)) q)) (fun w' s' z => ?_) fun _ _ x => x
  obtain ⟨z', H', I', rz, b, rfl, qz⟩ := z
  cases rz
  exact ⟨b, rfl, .bl (!b), H', I', rfl, qz⟩
end
end Ld
namespace Ld
open PySem PySem.Spec PyProof.Rows L2
def hitB (qs : List (Str × Int)) (ps : List (Str × Int)) : Bool := ps.all fun p => decide (ctO qs p.1 = some p.2)
theorem hits_ct {A : Around} {s : Shared} {qs : List (Str × Int)} {vb : List (Key × Value)} (rb : KV (cD qs) vb) : ∀ {ps : List (Str × Int)} {va : List (Key × Value)}, KV (cD ps) va → PySem.W.KeqHits A s vb va (hitB qs ps)
  | [], _, .nil => .nil
  | p :: r, (k, v) :: t, .cons h ra => by
    have h1 : (Sum.inr p.1 : Key) = k := h.1
    obtain ⟨tk, ev⟩ := (show ∃ t, v = Value.int p.2 t from h.2)
    have rr : RelO (valV (cD qs) (Sum.inr p.1)) (valueAt vb (Sum.inr p.1)) := rb.val _
    rw [valV_cD] at rr
    rw [h1] at rr
    have ih := hits_ct (A := A) (s := s) rb ra
    show PySem.W.KeqHits A s vb ((k, v) :: t) (decide (ctO qs p.1 = some p.2) && hitB qs r)
    cases e : ctO qs p.1 with
    | none =>
      rw [e] at rr
      have hn : valueAt vb k = none := by
        cases e2 : valueAt vb k with
        | none => rfl
        | some y => rw [e2] at rr; exact absurd rr (by simp [RelO])
      have : (decide ((none : Option Int) = some p.2) && hitB qs r) = false := by simp
      rw [this]
      exact .miss hn
    | some j =>
      rw [e] at rr
      obtain ⟨y, hy, ry⟩ := rr.some_of
      obtain ⟨tj, ey⟩ := (show ∃ t, y = Value.int j t from ry)
      subst ev ey
      have q : decide (some j = some p.2) = (p.2 == j) := by
        rw [Bool.eq_iff_iff, decide_eq_true_eq, beq_iff_eq, Option.some.injEq]
        exact eq_comm
      rw [q]
      exact .hit hy (SeqAt.EqAt.int_int p.2 tk j tj) ih
theorem sub_back : ∀ {l m : List Str}, l.Nodup → (∀ x ∈ l, x ∈ m) → m.length ≤ l.length → ∀ x ∈ m, x ∈ l
  | [], m, _, _, hl, x, hx => by
    have : m = [] := List.length_eq_zero_iff.mp (by simpa using hl)
    rw [this] at hx
    exact hx
  | a :: l, m, nd, hs, hl, x, hx => by
    have ha := hs a List.mem_cons_self
    have nd2 := List.nodup_cons.mp nd
    by_cases e : x = a
    · rw [e]
      exact List.mem_cons_self
    · refine List.mem_cons_of_mem _ (sub_back (l := l) (m := m.erase a) nd2.2 (fun y hy => ?_) ?_ x ((List.mem_erase_of_ne e).mpr hx))
      · exact (List.mem_erase_of_ne (fun (q : y = a) => nd2.1 (by rw [← q]; exact hy))).mpr (hs y (List.mem_cons_of_mem _ hy))
      · rw [List.length_erase_of_mem ha]
        rw [List.length_cons] at hl
        omega
theorem can_beq {ps qs : List (Str × Int)} (a : Can ps) (b : Can qs) : (ps.length == qs.length && hitB qs ps) = decide (ps = qs) := by
  rw [Bool.eq_iff_iff, Bool.and_eq_true, beq_iff_eq, decide_eq_true_eq]
  constructor
  · rintro ⟨hl, hh⟩
    have hm : ∀ p ∈ ps, ctO qs p.1 = some p.2 := fun p hp => of_decide_eq_true (List.all_eq_true.mp hh p hp)
    have sub : ∀ z ∈ ps.map (·.1), z ∈ qs.map (·.1) := fun z hz => by
      obtain ⟨p, hp, e⟩ := List.mem_map.mp hz
      refine Classical.byContradiction fun n => ?_
      have h1 := hm p hp
      rw [e, ctO_none n] at h1
      cases h1
    have back := sub_back a.nd sub (by rw [List.length_map, List.length_map, hl]; exact Nat.le_refl _)
    refine can_eq a b fun z => ?_
    by_cases hz : z ∈ ps.map (·.1)
    · obtain ⟨p, hp, e⟩ := List.mem_map.mp hz
      rw [← e, ct_mem a.nd hp]
      unfold ct
      rw [hm p hp]
      rfl
    · rw [ct_out hz, ct_out fun h => hz (back z h)]
  · rintro rfl
    refine ⟨rfl, List.all_eq_true.mpr fun p hp => decide_eq_true ?_⟩
    rw [ctO_some (List.mem_map.mpr ⟨p, hp, rfl⟩), ct_mem a.nd hp]
section
variable {X : Cx}
def rEqCt : R2 := fun x y H Q => ∃ a b ps qs, x = .ref a ∧ y = .ref b ∧ H a = some (.dK (cD ps)) ∧ H b = some (.dK (cD qs)) ∧ Q (.bl (ps.length == qs.length && hitB qs ps)) H
theorem op_eqCt (hu : X.A.units < cLine) : OpR X (compareOp .Eq) rEqCt := by
  intro pins s σ H x y v u Q I rx ry h
  obtain ⟨a, b, ps, qs, rfl, rfl, ea, eb, q⟩ := h
  obtain rfl : v = Value.ref a := rx
  obtain rfl : u = Value.ref b := ry
  obtain ⟨_, ya, va, ra, da⟩ := (show ObjOk X.prog X.w H s.heap a (.dK (cD ps)) from I.hok a _ ea)
  obtain ⟨_, yb, vb, rb, db⟩ := (show ObjOk X.prog X.w H s.heap b (.dK (cD qs)) from I.hok b _ eb)
  have hl : (va.length == vb.length) = (ps.length == qs.length) := by rw [← ra.length, ← rb.length, cD_len, cD_len]
  refine PySem.W.keq_eq (knd := mixKind X.prog X.w) (r := hitB qs ps) ya yb da db hu (fun _ => hits_ct rb ra) ?_
  exact ⟨.bl (ps.length == qs.length && hitB qs ps), H, I, by rw [hl]; rfl, q⟩
end
end Ld
namespace Ld
open PySem PySem.Spec PyProof.Rows L2
theorem LoadAt.ty {K : PySem.W.Frag} {C : Addr} {H : Hp} {x : Addr} {ps : List (Str × Int)} (h : LoadAt C H x ps) (c : Cls K C) (i : SlX.SIsi K C) : TyX K H (.ref x) (.ref C) := by
  obtain ⟨dx, t, h1, _, _⟩ := h
  exact .base (.ins h1 c i.ca i.cn i.ct i.cm)
theorem kit_self {K : PySem.W.Frag} {C : Addr} : PySem.W.kitOne K (.ref C) (.ref C) = some true := by
  unfold PySem.W.kitOne
  rw [if_pos (beq_self_eq_true _)]
theorem nf_self {K : PySem.W.Frag} {C : Addr} : PySem.W.notFirst K C (.ref C) = true := by
  unfold PySem.W.notFirst
  rw [beq_self_eq_true]
  rfl
def spEqL (K : PySem.W.Frag) (C : Addr) : Sp := fun vs H Q _ => ∃ (x : Addr) (y : V) (ps : List (Str × Int)), vs = [.ref x, y] ∧ LoadAt C H x ps ∧
  ((∃ b qs, y = .ref b ∧ LoadAt C H b qs ∧ Q (.bl (decide (ps = qs))) H) ∨ ∃ t, TyX K H y t ∧ PySem.W.kitOne K t (.ref C) = some false ∧ Q (.bl false) H)
abbrev sEq : Stmt := inClass (top 14) 19
section
variable {P : Program} {w : World} {K : PySem.W.Frag} {mg : Str → Option Value} {base : Heap} {C fi : Addr}
theorem scEq : FnScope ["self", "other"] ["self", "other"] (defScope sEq) := ⟨rfl, rfl, rfl, by decide +kernel, rfl, by decide +kernel, by decide +kernel⟩
theorem ok_eqL {f : Addr} {fd : FuncData} (F : Fun K "__eq__" "Load.__eq__" sEq f fd) (T : LoadC K mg C fi) (S : SlX.SIsi K C) (B : Blt2 mg) : FnOk P w K mg base CX0 1 f fd ["self", "other"] (spEqL K C) := by
  refine F.ok scEq (fun vs H Q E h => ?_) (fun cdv A outer s H vs Q E hr h => ?_)
  · obtain ⟨x, y, ps, rfl, _⟩ := h
    rfl
  · obtain ⟨x, y, ps, rfl, hx, h⟩ := h
    refine ⟨_, pss_one (ps_ret (pe_and (pe_callB call_isi (by rfl) B.isi bIsi (pa_cons (pv 1) (pa_cons (pe_glob (v := .ref C) (by rfl) T.gC rfl) pa_nil)))
      (pe_one (pe_cmpR (op_eqCt hr.units0) (pe_fld (pv 0) rfl) (pe_fld (pv 1) rfl) (nomark _))))), ?_⟩
    rcases h with ⟨b, qs, rfl, hb, q⟩ | ⟨t, ty, kt, q⟩
    · refine ⟨_, rfl, .ref b, _, _, _, true, rfl, .own C, hb.ty T.c S, kit_self, true, rfl, ?_⟩
      obtain ⟨dx, tx, h1, h2, cx⟩ := hx
      obtain ⟨dy, ty, h3, h4, cy⟩ := hb
      refine ⟨_, rfl, x, C, dx, _, _, rfl, h1, T.c, T.nc, rfl, _, rfl, b, C, dy, _, _, rfl, h3, T.c, T.nc, rfl, tx, ty, ps, qs, rfl, rfl, h2, h4, ?_⟩
      rw [can_beq cx cy]
      exact q
    · exact ⟨_, rfl, y, _, t, _, false, rfl, .own C, ty, kt, false, rfl, q⟩
end
end Ld
namespace Ld
open PySem PySem.Spec PyProof.Rows L2
section
variable {X : Cx} {pins : List (Addr × Obj)} {σ : L2.St} {H : Hp} {s : Shared}
theorem star_dict (hcalm : X.calm = true) {a : Addr} {kvs : List (Key × V)} {E : Value → Shared → Prop} {Q : List Value → Shared → Prop} (I : Inv X pins σ H s) (hd : Rd H a (.dK kvs)) (hQ : ∀ us s', Inv X pins σ H s' → Vals (kvs.map fun kv => kV kv.1) us → Q us s') : PySem.W.StarOf (model X.prog X.w) X.A E (.ref a) Q s := by
  obtain ⟨z, lo, vs, rel, dd⟩ := dk_rd I.hok hd
  obtain ⟨ep, hat⟩ := dd.dictAt
  have ek : (kvs.map fun kv => kV kv.1) = vs.map fun p => kV p.1 := by
    have e := congrArg (List.map kV) rel.keys
    rw [List.map_map, List.map_map] at e
    exact e
  have h16 : vs.length ≤ sizeLine := by rw [← rel.length]; exact z
  unfold PySem.W.StarOf notIterableAtAll
  refine wpAny_bind (wpAny_specialOf dd.typeIs PySem.F.slot_dict_iter.lookup (wpAny_pure ⟨rfl, ?_⟩))
  refine PySem.W.kdu_collect (A := X.A) (PySem.W.kdl_dict (knd := mixKind X.prog X.w) (kvs := vs) (ep := ep) lo) (I.ok.hd hcalm) hat h16 fun h' tk acc hk hacc => ?_
  have hv : Vals (vs.map fun p => kV p.1) acc.toList := keys_at (by rw [Array.length_toList]; exact hacc.1) fun j v e => hacc.2 j v (by rw [← Array.getElem?_toList]; exact e)
  exact hQ acc.toList _ (I.kept hk) (by rw [ek]; exact hv)
end
def tStarD (te : TE) (t : TA) : TA := fun σ H Q => te σ H fun x H1 => ∃ p kvs, x = V.ref p ∧ Rd H1 p (.dK kvs) ∧ t σ H1 fun ys H2 => Q ((kvs.map fun kv => kV kv.1) ++ ys) H2
section
variable {X : Cx} {e : Expr} {es : List Expr} {te : TE} {t : TA} {p : Pos}
theorem pa_starD (hcalm : X.calm = true) (he : PE X e te) (hr : PA X es t) (hs : starEach (.Starred e p :: es) X.env = (true, eval e X.env) :: starEach es X.env := by rfl) : PA X (.Starred e p :: es) (tStarD te t) := by
  refine ⟨fun pos pins s σ H Q I h => ?_⟩
  refine PySem.W.items_star (thn (he.run pins s σ H _ I h) fun v s1 ⟨y, H1, I1, ry, a, kvs, ey, hx, q⟩ => ?_) hs
  subst ey
  obtain rfl : v = Value.ref a := ry
  refine star_dict hcalm I1 hx fun us s2 I2 rv => ?_
  exact thn (hr.run pos pins s2 σ H1 _ I2 q) fun ws s3 ⟨vs, H3, I3, r3, q3⟩ => ⟨_ ++ vs, H3, I3, rv.append r3, q3⟩
end
end Ld
namespace Ld
open PySem PySem.Spec PyProof.Rows L2
def tSubO (C : Addr) (sp : Sp) (E : XK) (to ti : TE) : TE := fun σ H Q => to σ H fun x H1 => ti σ H1 fun y H2 => ∃ a dx fs, x = V.ref a ∧ H2 a = some (.ins C dx fs) ∧ sp [x, y] H2 Q E
section
variable {X : Cx} {CX : CXT} {C g : Addr} {n : Nat} {sp : Sp} {E : XK} {o i : Expr} {to ti : TE} {pos : Pos}
/-- o[i], o an instance of the class at C whose __getitem__ is at g -/
theorem pe_subO (hs : PySem.W.findIn X.K (.ref C) "__getitem__" = some (some (.ref g))) (hf : PySem.W.fnIn X.K g = true) (hfn : PySem.W.isFn X.K (.ref g) = true) (F : FnR X.prog X.w X.K X.mg X.base CX n g sp) (hr : Room (n + 1) X.A) (hx : Passes CX X E)
    (ho : PE X o to) (hi : PE X i ti) (hsl : ∀ a v, subscripted i true (.ref a) v = runValue (.builtin "lifetime.subscript" ⟨[.ref a, v], []⟩) := by intro _ _; with_unfolding_all rfl) : PE X (.Subscript o i pos) (tSubO C sp E to ti) := by
  refine ⟨fun pins s σ H Q I h => ?_⟩
  refine Subscript_ (thn (ho.run pins s σ H _ I h) fun u s1 ⟨x, H1, I1, rx, q1⟩ => thn (hi.run pins s1 σ H1 _ I1 q1) fun v s2 ⟨y, H2, I2, ry, a, dx, fs, ex, ha, q2⟩ => ?_)
  subst ex
  obtain rfl : u = Value.ref a := rx
  obtain ⟨mA, O, _⟩ := ins_get I2.hok ha
  obtain ⟨od, J, _⟩ := O.look
  obtain ⟨m, hF⟩ := I2.fr
  have hr1 : Room n X.A.in1 := Room.in1 hr
  refine PySem.W.sub_K hF I2.ok.mod.kin J hs hf hfn ?_ (hsl a v)
  exact wpAny_call (SlX.run_at (A := X.A.in1) (us := [.ref a, v]) (ws := [.ref a, y]) F hr1 I2.env0.in1 hx I2 (.cons rfl (.cons ry .nil)) q2)
end
end Ld
namespace Ld
open PySem PySem.Spec PyProof.Rows L2
/-- C.name is a def that keeps sp -/
def HasM (P : Program) (w : World) (K : PySem.W.Frag) (mg : Str → Option Value) (base : Heap) (n : Nat) (C : Addr) (name : Str) (sp : Sp) : Prop :=
  ∃ g, PySem.W.findIn K (.ref C) name = some (some (.ref g)) ∧ PySem.W.fnIn K g = true ∧ PySem.W.isFn K (.ref g) = true ∧ FnR P w K mg base CX0 n g sp
theorem fnR_of {P : Program} {w : World} {K : PySem.W.Frag} {mg : Str → Option Value} {base : Heap} {n : Nat} {f : Addr} {fd : FuncData} {ps : List Str} {sp : Sp} (F : FnOk P w K mg base CX0 n f fd ps sp) (b : L2.Binds K fd ps []) : FnR P w K mg base CX0 n f sp :=
  (F.raw b .nil).imp fun vs H Q E h => by rw [List.append_nil]; exact h
def spGet (C : Addr) : Sp := fun vs H Q _ => ∃ (x : Addr) (ps : List (Str × Int)) (z : Str), vs = [.ref x, .str z] ∧ LoadAt C H x ps ∧ Q (.int (ct ps z)) H
theorem cD_kV (ps : List (Str × Int)) : ((cD ps).map fun kv : Key × V => kV kv.1) = (ps.map (·.1)).map V.str := by
  unfold cD
  rw [List.map_map, List.map_map]
  rfl
def leB (ps qs : List (Str × Int)) : Bool := (ps.map (·.1) ++ qs.map (·.1)).all fun z => decide (ct ps z ≤ ct qs z)
def spLe (C : Addr) : Sp := fun vs H Q _ => ∃ (x y : Addr) (ps qs : List (Str × Int)), vs = [.ref x, .ref y] ∧ LoadAt C H x ps ∧ LoadAt C H y qs ∧ ∀ H', Same H H' → Q (.bl (leB ps qs)) H'
def spLt (C : Addr) : Sp := fun vs H Q _ => ∃ (x y : Addr) (ps qs : List (Str × Int)), vs = [.ref x, .ref y] ∧ LoadAt C H x ps ∧ LoadAt C H y qs ∧ ∀ H', Same H H' → Q (.bl (leB ps qs && !decide (ps = qs))) H'
def spGe (C : Addr) : Sp := fun vs H Q _ => ∃ (x y : Addr) (ps qs : List (Str × Int)), vs = [.ref x, .ref y] ∧ LoadAt C H x ps ∧ LoadAt C H y qs ∧ ∀ H', Same H H' → Q (.bl (leB qs ps)) H'
def spGt (C : Addr) : Sp := fun vs H Q _ => ∃ (x y : Addr) (ps qs : List (Str × Int)), vs = [.ref x, .ref y] ∧ LoadAt C H x ps ∧ LoadAt C H y qs ∧ ∀ H', Same H H' → Q (.bl (leB qs ps && !decide (qs = ps))) H'
abbrev sGet : Stmt := inClass (top 14) 9
abbrev sLe : Stmt := inClass (top 14) 20
abbrev sLt : Stmt := inClass (top 14) 21
abbrev sGe : Stmt := inClass (top 14) 22
abbrev sGt : Stmt := inClass (top 14) 23
section
variable {P : Program} {w : World} {K : PySem.W.Frag} {mg : Str → Option Value} {base : Heap} {C fi : Addr}
theorem scGet : FnScope ["self", "at"] ["self", "at"] (defScope sGet) := ⟨rfl, rfl, rfl, by decide +kernel, rfl, by decide +kernel, by decide +kernel⟩
theorem ok_get {f : Addr} {fd : FuncData} (F : Fun K "__getitem__" "Load.__getitem__" sGet f fd) (T : LoadC K mg C fi) : FnOk P w K mg base CX0 1 f fd ["self", "at"] (spGet C) := by
  refine F.ok scGet (fun vs H Q E h => ?_) (fun cdv A outer s H vs Q E hr h => ?_)
  · obtain ⟨x, ps, z, rfl, _⟩ := h
    rfl
  · obtain ⟨x, ps, z, rfl, ⟨dx, t, h1, h2, can⟩, q⟩ := h
    refine ⟨_, pss_one (ps_ret (pe_dget2 (hu_of hr) (pe_fld (pv 0) rfl) (pv 1) pe_int ⟨rfl, rfl, rfl, rfl⟩)), ?_⟩
    refine ⟨_, rfl, x, C, dx, _, _, rfl, h1, T.c, T.nc, rfl, t, rfl, .inl ⟨_, .inl h2⟩, _, rfl, _, .inl ⟨cD ps, Sum.inr z, .inl h2, rfl, rfl⟩, ?_⟩
    rw [valV_cD]
    have e : ((ctO ps z).map V.int).getD (.int 0) = .int (ct ps z) := by
      unfold ct
      cases ctO ps z <;> rfl
    rw [e]
    exact q
abbrev nLe : List Str := ["self", "other", "kind"]
theorem scLe : FnScope nLe ["self", "other"] (defScope sLe) := ⟨rfl, rfl, rfl, by decide +kernel, rfl, by decide +kernel, by decide +kernel⟩
theorem ok_le {f : Addr} {fd : FuncData} (F : Fun K "__le__" "Load.__le__" sLe f fd) (T : LoadC K mg C fi) (S : SlX.SIsi K C) (B : Blt2 mg) (HG : HasM P w K mg base 1 C "__getitem__" (spGet C)) : FnOk P w K mg base CX0 3 f fd ["self", "other"] (spLe C) := by
  obtain ⟨g, a1, a2, a3, G⟩ := HG
  refine F.ok scLe (fun vs H Q E h => ?_) (fun cdv A outer s H vs Q E hr h => ?_)
  · obtain ⟨x, y, ps, qs, rfl, _⟩ := h
    rfl
  · obtain ⟨x, y, ps, qs, rfl, hx, hy, q⟩ := h
    have nd : nLe.Nodup := scLe.nd
    refine ⟨_, pss_cons (ps_if (pt_not (pt_truth (pe_callB call_isi (by rfl) B.isi bIsi (pa_cons (pv 1) (pa_cons (pe_glob (v := .ref C) (by rfl) T.gC rfl) pa_nil))) (fun _ => rfl))) (pss_one ps_never) pss_nil)
      (pss_one (ps_ret (pe_callB (cr_all rfl) (by rfl) B.all bAll (pa_cons (pe_lc (own := [("kind", 2)]) (g := gName 2) (tt := tYes) rfl nd (pi_list (pe_lst (pa_starD rfl (pe_fld (pv 0) rfl) (pa_starD rfl (pe_fld (pv 1) rfl) pa_nil)))) (blkOk_by (N := nLe) (sc := defScope sLe) (by decide +kernel))
        (fun _ _ _ _ _ => pg_name (i := 2) nd rfl (Or.inl rfl)) (fun _ _ _ _ _ => pts_nil) (fun _ _ _ _ _ => pe_cmpR op_le (pe_subO a1 a2 a3 G hr pass0 (pv 0) (pv 2)) (pe_subO a1 a2 a3 G hr pass0 (pv 1) (pv 2)) (nomark _))) pa_nil)))), ?_⟩
    refine ⟨_, rfl, .ref y, _, _, _, true, rfl, .own C, hy.ty T.c S, kit_self, true, rfl, ?_⟩
    have hx' := hx
    have hy' := hy
    obtain ⟨dx, tx, h1, h2, cx⟩ := hx
    obtain ⟨dy, ty, h3, h4, cy⟩ := hy
    refine ⟨_, rfl, x, C, dx, _, _, rfl, h1, T.c, T.nc, rfl, tx, cD ps, rfl, .inl h2, _, rfl, y, C, dy, _, _, rfl, h3, T.c, T.nc, rfl, ty, cD qs, rfl, .inl h4, ?_⟩
    have ek : ((cD ps).map fun kv : Key × V => kV kv.1) ++ (((cD qs).map fun kv : Key × V => kV kv.1) ++ []) = (ps.map (·.1) ++ qs.map (·.1)).map V.str := by
      rw [List.append_nil, List.map_append, cD_kV, cD_kV]
    have hn : (((cD ps).map fun kv : Key × V => kV kv.1) ++ (((cD qs).map fun kv : Key × V => kV kv.1) ++ [])).length ≤ 2000 := by
      rw [ek, List.length_map, List.length_append, List.length_map, List.length_map]
      have := cx.few
      have := cy.few
      omega
    refine ⟨Nat.le_trans hn (by decide : 2000 ≤ sizeLine), fun p hp => ⟨p, rfl, ⟨_, .inl (.inl upd_same)⟩, fun D hD => ?_⟩⟩
    have nDp : D ≠ p := fun e => by rw [e, upd_same] at hD; cases hD
    have hD0 : H D = none := by rw [upd_ne nDp] at hD; exact hD
    have sp1 := same_new (o := .lst (((cD ps).map fun kv : Key × V => kV kv.1) ++ (((cD qs).map fun kv : Key × V => kV kv.1) ++ []))) hp
    refine lc_it (walk_list (K := K) (a := p) (xs := ((cD ps).map fun kv : Key × V => kV kv.1) ++ (((cD qs).map fun kv : Key × V => kV kv.1) ++ []))) (fun i H' => H' D = some (.lst (((ps.map (·.1) ++ qs.map (·.1)).take i).map fun z => V.bl (decide (ct ps z ≤ ct qs z)))) ∧ H' p = some (.lst (((cD ps).map fun kv : Key × V => kV kv.1) ++ (((cD qs).map fun kv : Key × V => kV kv.1) ++ []))) ∧ Same H H')
      ⟨upd_same, by rw [upd_ne nDp.symm, upd_same], fun b o eb => by rw [upd_ne (ne_of_none eb hD0)]; exact sp1 _ _ eb⟩ (fun i H' _ h => .inl (.inl h.2.1)) ?_ ?_
    · rintro i v H2 H3 hi ⟨eD, ep, same⟩ ⟨rfl, hv⟩
      rw [ek, List.getElem?_map] at hv
      obtain ⟨z, hz, rfl⟩ : ∃ z, (ps.map (·.1) ++ qs.map (·.1))[i]? = some z ∧ v = V.str z := by
        cases e : (ps.map (·.1) ++ qs.map (·.1))[i]? with
        | none => rw [e] at hv; cases hv
        | some z => rw [e] at hv; exact ⟨z, rfl, (Option.some.inj hv).symm⟩
      refine ⟨rfl, _, rfl, _, rfl, x, dx, _, rfl, same _ _ h1, x, ps, z, rfl, hx'.same same, _, rfl, _, rfl, y, dy, _, rfl, same _ _ h3, y, qs, z, rfl, hy'.same same, _, _, rfl, rfl, _, eD, ?_, ?_, by rw [upd_ne nDp.symm]; exact ep, fun b o eb => by rw [upd_ne (ne_of_none eb hD0)]; exact same _ _ eb⟩
      · rw [List.length_map, List.length_take]
        exact Nat.lt_of_le_of_lt (by omega : _ ≤ 2000) (by decide)
      · rw [upd_same, List.take_add_one, hz, List.map_append]
        rfl
    · rintro H2 ⟨eD, ep, same⟩
      rw [ek, List.length_map, List.take_of_length_le (Nat.le_refl _)] at eD
      have eA : (ps.map (·.1) ++ qs.map (·.1)).map (fun z => V.bl (decide (ct ps z ≤ ct qs z))) = ((ps.map (·.1) ++ qs.map (·.1)).map fun z => decide (ct ps z ≤ ct qs z)).map V.bl := by
        rw [List.map_map]
        rfl
      rw [eA] at eD
      refine ⟨D, _, rfl, .inl (.inl eD), ?_⟩
      have e : ((ps.map (·.1) ++ qs.map (·.1)).map fun z => decide (ct ps z ≤ ct qs z)).all id = leB ps qs := by
        unfold leB
        rw [List.all_map]
        rfl
      rw [e]
      exact q H2 same
end
end Ld
namespace Ld
open PySem PySem.Spec PyProof.Rows L2
/-- what != asks of the class -/
structure NeC (K : PySem.W.Frag) (C : Addr) : Prop where
  ne : PySem.W.findIn K (.ref C) "__ne__" = some (some (.builtin "object.__ne__"))
abbrev sCounts : Stmt := inClass (top 14) 4
section
variable {P : Program} {w : World} {K : PySem.W.Frag} {mg : Str → Option Value} {base : Heap} {C fi : Addr}
theorem scLt : FnScope ["self", "other"] ["self", "other"] (defScope sLt) := ⟨rfl, rfl, rfl, by decide +kernel, rfl, by decide +kernel, by decide +kernel⟩
theorem scGe : FnScope ["self", "other"] ["self", "other"] (defScope sGe) := ⟨rfl, rfl, rfl, by decide +kernel, rfl, by decide +kernel, by decide +kernel⟩
theorem scGt : FnScope ["self", "other"] ["self", "other"] (defScope sGt) := ⟨rfl, rfl, rfl, by decide +kernel, rfl, by decide +kernel, by decide +kernel⟩
theorem ok_lt {f : Addr} {fd : FuncData} (F : Fun K "__lt__" "Load.__lt__" sLt f fd) (T : LoadC K mg C fi) (S : SlX.SIsi K C) (N : NeC K C) (B : Blt2 mg) (HE : HasM P w K mg base 1 C "__eq__" (spEqL K C)) (HL : HasM P w K mg base 3 C "__le__" (spLe C)) :
    FnOk P w K mg base CX0 4 f fd ["self", "other"] (spLt C) := by
  obtain ⟨g, a1, a2, a3, G⟩ := HE
  obtain ⟨g2, c1, c2, c3, G2⟩ := HL
  refine F.ok scLt (fun vs H Q E h => ?_) (fun cdv A outer s H vs Q E hr h => ?_)
  · obtain ⟨x, y, ps, qs, rfl, _⟩ := h
    rfl
  · obtain ⟨x, y, ps, qs, rfl, hx, hy, q⟩ := h
    refine ⟨_, pss_cons (ps_if (pt_not (pt_truth (pe_callB call_isi (by rfl) B.isi bIsi (pa_cons (pv 1) (pa_cons (pe_glob (v := .ref C) (by rfl) T.gC rfl) pa_nil))) (fun _ => rfl))) (pss_one ps_never) pss_nil)
      (pss_one (ps_ret (pe_and (pe_cmpR (op_cmp (op := .LtE) (fun _ _ => rfl) c1 c3 G2 hr pass0) (pv 0) (pv 1) (nomark _)) (pe_one (pe_cmpR (op_cmpNe N.ne S.cm a1 a3 G (hr.mono (by decide)) pass0) (pv 0) (pv 1) (nomark _)))))), ?_⟩
    refine ⟨_, rfl, .ref y, _, _, _, true, rfl, .own C, hy.ty T.c S, kit_self, true, rfl, ?_⟩
    have hx' := hx
    obtain ⟨dx, tx, h1, h2, cx⟩ := hx
    refine ⟨_, rfl, _, rfl, x, dx, _, _, rfl, h1, hy.ty T.c S, nf_self, x, y, ps, qs, rfl, hx', hy, fun H1 same1 => ⟨_, rfl, ifb (fun e => ?_) (fun e => ?_)⟩⟩
    · refine ⟨_, rfl, _, rfl, x, dx, _, _, rfl, same1 _ _ h1, (hy.same same1).ty T.c S, nf_self, x, .ref y, ps, rfl, hx'.same same1, .inl ⟨y, qs, rfl, hy.same same1, _, rfl, ?_⟩⟩
      have := q H1 same1
      rw [e] at this
      exact this
    · have := q H1 same1
      rw [e] at this
      exact this
theorem ok_ge {f : Addr} {fd : FuncData} (F : Fun K "__ge__" "Load.__ge__" sGe f fd) (T : LoadC K mg C fi) (S : SlX.SIsi K C) (B : Blt2 mg) (HL : HasM P w K mg base 3 C "__le__" (spLe C)) : FnOk P w K mg base CX0 4 f fd ["self", "other"] (spGe C) := by
  obtain ⟨g2, c1, c2, c3, G2⟩ := HL
  refine F.ok scGe (fun vs H Q E h => ?_) (fun cdv A outer s H vs Q E hr h => ?_)
  · obtain ⟨x, y, ps, qs, rfl, _⟩ := h
    rfl
  · obtain ⟨x, y, ps, qs, rfl, hx, hy, q⟩ := h
    refine ⟨_, pss_cons (ps_if (pt_not (pt_truth (pe_callB call_isi (by rfl) B.isi bIsi (pa_cons (pv 1) (pa_cons (pe_glob (v := .ref C) (by rfl) T.gC rfl) pa_nil))) (fun _ => rfl))) (pss_one ps_never) pss_nil)
      (pss_one (ps_ret (pe_cmpR (op_cmp (op := .LtE) (fun _ _ => rfl) c1 c3 G2 hr pass0) (pv 1) (pv 0) (nomark _)))), ?_⟩
    refine ⟨_, rfl, .ref y, _, _, _, true, rfl, .own C, hy.ty T.c S, kit_self, true, rfl, ?_⟩
    have hy' := hy
    obtain ⟨dy, ty, h1, h2, cy⟩ := hy
    exact ⟨_, rfl, _, rfl, y, dy, _, _, rfl, h1, hx.ty T.c S, nf_self, y, x, qs, ps, rfl, hy', hx, fun H1 same1 => q H1 same1⟩
theorem ok_gt {f : Addr} {fd : FuncData} (F : Fun K "__gt__" "Load.__gt__" sGt f fd) (T : LoadC K mg C fi) (S : SlX.SIsi K C) (B : Blt2 mg) (HL : HasM P w K mg base 4 C "__lt__" (spLt C)) : FnOk P w K mg base CX0 5 f fd ["self", "other"] (spGt C) := by
  obtain ⟨g2, c1, c2, c3, G2⟩ := HL
  refine F.ok scGt (fun vs H Q E h => ?_) (fun cdv A outer s H vs Q E hr h => ?_)
  · obtain ⟨x, y, ps, qs, rfl, _⟩ := h
    rfl
  · obtain ⟨x, y, ps, qs, rfl, hx, hy, q⟩ := h
    refine ⟨_, pss_cons (ps_if (pt_not (pt_truth (pe_callB call_isi (by rfl) B.isi bIsi (pa_cons (pv 1) (pa_cons (pe_glob (v := .ref C) (by rfl) T.gC rfl) pa_nil))) (fun _ => rfl))) (pss_one ps_never) pss_nil)
      (pss_one (ps_ret (pe_cmpR (op_cmp (op := .Lt) (fun _ _ => rfl) c1 c3 G2 hr pass0) (pv 1) (pv 0) (nomark _)))), ?_⟩
    refine ⟨_, rfl, .ref y, _, _, _, true, rfl, .own C, hy.ty T.c S, kit_self, true, rfl, ?_⟩
    have hy' := hy
    obtain ⟨dy, ty, h1, h2, cy⟩ := hy
    exact ⟨_, rfl, _, rfl, y, dy, _, _, rfl, h1, hx.ty T.c S, nf_self, y, x, qs, ps, rfl, hy', hx, fun H1 same1 => q H1 same1⟩
/-- the counts, a new dict -/
def spCounts (C : Addr) : Sp := fun vs H Q _ => ∃ (x : Addr) (ps : List (Str × Int)), vs = [.ref x] ∧ LoadAt C H x ps ∧ ∀ p, H p = none → Q (.ref p) (upd H p (.dK (cD ps)))
theorem scCounts : FnScope ["self"] ["self"] (defScope sCounts) := ⟨rfl, rfl, rfl, by decide +kernel, rfl, by decide +kernel, by decide +kernel⟩
theorem ok_counts {f : Addr} {fd : FuncData} (F : Fun K "counts" "Load.counts" sCounts f fd) (T : LoadC K mg C fi) (B : Blt2 mg) : FnOk P w K mg base CX0 1 f fd ["self"] (spCounts C) := by
  refine F.ok scCounts (fun vs H Q E h => ?_) (fun cdv A outer s H vs Q E hr h => ?_)
  · obtain ⟨x, ps, rfl, _⟩ := h
    rfl
  · obtain ⟨x, ps, rfl, ⟨dx, t, h1, h2, can⟩, q⟩ := h
    refine ⟨_, pss_one (ps_ret (pe_callTy call_dictD (by rfl) B.dict (by decide +kernel) (pa_cons (pe_fld (pv 0) rfl) pa_nil))), ?_⟩
    exact ⟨_, rfl, x, C, dx, _, _, rfl, h1, T.c, T.nc, rfl, t, cD ps, rfl, .inl h2, q⟩
end
end Ld
namespace Ld
open PySem PySem.Spec PyProof.Rows L2
/-- some text -/
def spText (C : Addr) : Sp := fun vs H Q _ => ∃ (x : Addr) (ps : List (Str × Int)), vs = [.ref x] ∧ LoadAt C H x ps ∧ (∀ p ∈ ps, p.2.natAbs < 10 ^ 60) ∧ ∀ (z : Str) (H' : Hp), Same H H' → Q (.str z) H'
abbrev sText : Stmt := inClass (top 14) 8
theorem log2_small {n : Nat} (h : n < 10 ^ 60) : n.log2 < 1920 := by
  by_cases h0 : n = 0
  · rw [h0]
    decide
  · refine (Nat.log2_lt h0).mpr (Nat.lt_of_lt_of_le h ?_)
    decide +kernel
theorem len_text {i : Int} (h : i.natAbs < 10 ^ 60) : (Str.ofString (toString i)).length ≤ 61 := by
  rw [PySem.ofString_length]
  exact int_text_length_le10 (k := 60) (by decide) h
section
variable {P : Program} {w : World} {K : PySem.W.Frag} {mg : Str → Option Value} {base : Heap} {C fi : Addr}
abbrev nText : List Str := ["self", "kind", "count"]
theorem scText : FnScope nText ["self"] (defScope sText) := ⟨rfl, rfl, rfl, by decide +kernel, rfl, by decide +kernel, by decide +kernel⟩
theorem ok_text {f : Addr} {fd : FuncData} (F : Fun K "text" "Load.text" sText f fd) (T : LoadC K mg C fi) (mN : ∃ t, mg "NOTHING" = some (.str "-" t)) : FnOk P w K mg base CX0 1 f fd ["self"] (spText C) := by
  obtain ⟨tN, mN⟩ := mN
  refine F.ok scText (fun vs H Q E h => ?_) (fun cdv A outer s H vs Q E hr h => ?_)
  · obtain ⟨x, ps, rfl, _⟩ := h
    rfl
  · obtain ⟨x, ps, rfl, ⟨dx, t, h1, h2, can⟩, hb, q⟩ := h
    have nd : nText.Nodup := scText.nd
    refine ⟨_, pss_cons (ps_if (pt_not (pt_truth (pe_fld (pv 0) rfl) (fun _ => rfl))) (pss_one (ps_ret (pe_glob (v := .str "-") (by rfl) mN ⟨_, rfl⟩))) pss_nil)
      (pss_one (ps_ret (pe_join pe_str (pe_lock (pe_lc (own := [("kind", 1), ("count", 2)]) (g := gTup K 2 (gCons (gName 1) (gCons (gName 2) gNil))) (tt := tYes) rfl nd (pi_items (pe_fld (pv 0) rfl)) (blkOk_by (N := nText) (sc := defScope sText) (by decide +kernel))
        (fun _ _ _ _ _ => pg_tup rfl (pgs_cons (pg_name (i := 1) nd rfl (Or.inl rfl)) (pgs_cons (pg_name (i := 2) nd rfl (Or.inl rfl)) pgs_nil))) (fun _ _ _ _ _ => pts_nil)
        (fun _ _ _ _ _ => pe_joined (.cons (pe_fmt (pv 1)) (.cons pe_str (.cons (pe_fmt (pv 2)) .nil))))))))), ?_⟩
    refine ⟨_, rfl, x, C, dx, _, _, rfl, h1, T.c, T.nc, rfl, _, .inr (.inr ⟨cD ps, h2, rfl⟩), ?_⟩
    refine ifb (fun e => ?_) (fun e => ?_)
    · exact q "-" H (fun _ _ e => e)
    have nxt : x ≠ t := ne_of h1 h2 (fun z => nomatch z)
    refine ⟨⟨_, rfl⟩, t, _, h2, trivial, fun od => ⟨_, rfl, x, C, dx, _, _, rfl, by rw [upd_ne nxt]; exact h1, T.c, T.nc, rfl, t, od, cD ps, rfl, upd_same, fun D hD => ?_⟩⟩
    have nDt : D ≠ t := fun e => by rw [e, upd_same] at hD; cases hD
    have hD0 : H D = none := by rw [upd_ne nDt] at hD; exact hD
    refine lc_it (te := fun σ H Q => tJs [tFmt (tVar 1), tC (V.str (Str.ofString " ")), tFmt (tVar 2)] Str.empty σ H fun out H1 => Q (V.str out) H1) (H1 := upd H t (.frz od (.dK (cD ps)))) (walk_items (d := t) (o := od) (kvs := cD ps)) (fun i H' => ∃ tx : List Str, H' D = some (.lst (tx.map V.str)) ∧ tx.length = i ∧ (∀ y ∈ tx, y.length ≤ 80) ∧ H' t = some (.frz od (.dK (cD ps))) ∧ ∀ b o, H b = some o → b ≠ t → H' b = some o)
      ⟨[], upd_same, rfl, (fun _ h => nomatch h), by rw [upd_ne nDt.symm, upd_same], fun b o eb nb => by rw [upd_ne (ne_of_none eb hD0), upd_ne nb]; exact eb⟩ (fun i H' _ ⟨_, _, _, _, e, _⟩ => e) ?_ ?_
    · rintro i v H2 H3 hi ⟨tx, eD, el, eb, et, keep⟩ ⟨T1, k1, v1, rfl, hT, rfl, ek, ev⟩
      rw [cD_len] at hi
      have hp : (cD ps)[i]? = some (Sum.inr ps[i].1, V.int ps[i].2) := by
        unfold cD
        rw [List.getElem?_map, List.getElem?_eq_getElem hi]
        rfl
      have ek : (cD ps)[i]?.map (fun kv : Key × V => kV kv.1) = some k1 := ek
      have ev : (cD ps)[i]?.map Prod.snd = some v1 := ev
      rw [hp] at ek ev
      cases ek
      cases ev
      have hmem : ps[i] ∈ ps := List.getElem_mem hi
      have hw := wordB_len (can.wd _ hmem)
      have hi60 := hb _ hmem
      have hl := len_text hi60
      have nTD : T1 ≠ D := (ne_of_none eD hT).symm
      have nTt : T1 ≠ t := (ne_of_none et hT).symm
      have l8 : (Str.empty ++ ps[i].1 ++ (" " : Str) ++ Str.ofString (toString ps[i].2)).length ≤ 80 := by
        rw [len_app, len_app, len_app]
        have e0 : Str.empty.length = 0 := rfl
        have e1 : ((" " : Str)).length = 1 := by decide +kernel
        omega
      have l1 : (Str.empty ++ ps[i].1).length ≤ 80 := by
        rw [len_app, len_app] at l8
        omega
      have l2 : (Str.empty ++ ps[i].1 ++ (" " : Str)).length ≤ 80 := by
        rw [len_app] at l8
        omega
      have big : 80 ≤ sizeLine := by decide
      refine ⟨T1, _, rfl, .inl (.inl upd_same), rfl, _, _, rfl, _, _, rfl, rfl, rfl, _, rfl, .inl ⟨_, rfl, Nat.le_trans hw.2 (by decide), _, rfl, Nat.le_trans l1 big, _, rfl, Nat.le_trans l2 big, _, rfl, .inr ⟨_, rfl, log2_small hi60, _, rfl, Nat.le_trans l8 big, _, by rw [upd_ne nTD.symm]; exact eD, ?_, tx ++ [Str.empty ++ ps[i].1 ++ (" " : Str) ++ Str.ofString (toString ps[i].2)], ?_, ?_, ?_, ?_, ?_⟩⟩⟩
      · rw [List.length_map, el]
        exact Nat.lt_of_lt_of_le hi (Nat.le_trans can.few (by decide))
      · rw [upd_same, List.map_append]
        rfl
      · rw [List.length_append, el]
        rfl
      · intro y hy
        rcases List.mem_append.mp hy with h | h
        · exact eb y h
        · rw [List.mem_singleton.mp h]
          exact l8
      · rw [upd_ne nDt.symm, upd_ne nTt.symm]
        exact et
      · intro b o eb nb
        have e2 := keep b o eb nb
        rw [upd_ne (ne_of_none eb hD0), upd_ne (ne_of_none e2 hT)]
        exact e2
    · rintro H2 ⟨tx, eD, el, eb, et, keep⟩
      refine ⟨et, _, D, tx, rfl, rfl, .inl (.inl (.inl (by rw [upd_ne nDt]; exact eD))), ?_, q _ _ fun b o eb => ?_⟩
      · have h1 : (tx.map (·.length)).sum ≤ tx.length * 80 := by
          clear eD el et keep
          induction tx with
          | nil => exact Nat.zero_le _
          | cons y r ih =>
            rw [List.map_cons, List.sum_cons, List.length_cons]
            have := ih (fun z hz => eb z (List.mem_cons_of_mem _ hz))
            have := eb y List.mem_cons_self
            omega
        have e1 : ((" " : Str)).length = 1 := by decide +kernel
        rw [e1]
        have := can.few
        rw [cD_len] at el
        omega
      · by_cases e : b = t
        · rw [e, upd_same, ← h2, ← e, eb]
        · rw [upd_ne e]
          exact keep b o eb e
end
end Ld
namespace Ld
open PySem PySem.Spec PyProof.Rows L2
/-! ### dicts of counts, filled -/
def putI (ps : List (Str × Int)) (z : Str) (i : Int) : List (Str × Int) := if z ∈ ps.map (·.1) then ps.map fun p => if p.1 = z then (p.1, i) else p else ps ++ [(z, i)]
theorem putI_keys_in {ps : List (Str × Int)} {z : Str} {i : Int} (h : z ∈ ps.map (·.1)) : (putI ps z i).map (·.1) = ps.map (·.1) := by
  unfold putI
  rw [if_pos h, List.map_map]
  refine List.map_congr_left fun p _ => ?_
  show (if p.1 = z then (p.1, i) else p).1 = p.1
  split <;> rfl
theorem putI_keys_out {ps : List (Str × Int)} {z : Str} {i : Int} (h : z ∉ ps.map (·.1)) : (putI ps z i).map (·.1) = ps.map (·.1) ++ [z] := by
  unfold putI
  rw [if_neg h, List.map_append]
  rfl
theorem putI_nd {ps : List (Str × Int)} {z : Str} {i : Int} (h : (ps.map (·.1)).Nodup) : ((putI ps z i).map (·.1)).Nodup := by
  by_cases e : z ∈ ps.map (·.1)
  · rw [putI_keys_in e]
    exact h
  · rw [putI_keys_out e, List.nodup_append]
    refine ⟨h, by simp, fun a ha b hb q => ?_⟩
    rw [List.mem_singleton.mp hb] at q
    exact e (q ▸ ha)
theorem putI_keys {ps : List (Str × Int)} {z : Str} {i : Int} {y : Str} : y ∈ (putI ps z i).map (·.1) → y = z ∨ y ∈ ps.map (·.1) := by
  intro h
  by_cases e : z ∈ ps.map (·.1)
  · rw [putI_keys_in e] at h
    exact .inr h
  · rw [putI_keys_out e] at h
    rcases List.mem_append.mp h with h | h
    · exact .inr h
    · exact .inl (List.mem_singleton.mp h)
theorem putI_key {ps : List (Str × Int)} {z : Str} {i : Int} : z ∈ (putI ps z i).map (·.1) := by
  by_cases e : z ∈ ps.map (·.1)
  · rw [putI_keys_in e]
    exact e
  · rw [putI_keys_out e]
    exact List.mem_append_right _ (List.mem_singleton.mpr rfl)
theorem putI_mem {ps : List (Str × Int)} {z : Str} {i : Int} {q : Str × Int} : q ∈ putI ps z i → q = (z, i) ∨ q ∈ ps := by
  intro h
  unfold putI at h
  split at h
  · obtain ⟨p, hp, e⟩ := List.mem_map.mp h
    split at e
    · rename_i e2
      exact .inl (by rw [← e, e2])
    · exact .inr (e ▸ hp)
  · rcases List.mem_append.mp h with h | h
    · exact .inr h
    · exact .inl (List.mem_singleton.mp h)
theorem putI_len {ps : List (Str × Int)} {z : Str} {i : Int} : (putI ps z i).length ≤ ps.length + 1 := by
  unfold putI
  split
  · rw [List.length_map]
    omega
  · rw [List.length_append]
    exact Nat.le_refl _
theorem putI_cD {ps : List (Str × Int)} {z : Str} {i : Int} : putK (cD ps) (Sum.inr z : Key) (.int i) = cD (putI ps z i) := by
  by_cases e : z ∈ ps.map (·.1)
  · unfold putI putK
    rw [if_pos e, valV_any, valV_cD, ctO_some e]
    show (cD ps).map _ = _
    unfold cD
    rw [List.map_map, List.map_map]
    refine List.map_congr_left fun p _ => ?_
    show (if (Sum.inr p.1 : Key) = Sum.inr z then ((Sum.inr p.1 : Key), V.int i) else (Sum.inr p.1, V.int p.2)) = _
    by_cases h : p.1 = z
    · rw [if_pos (by rw [h])]
      show _ = (Sum.inr (if p.1 = z then (p.1, i) else p).1, V.int (if p.1 = z then (p.1, i) else p).2)
      rw [if_pos h]
    · rw [if_neg fun q => h (Sum.inr.inj q)]
      show _ = (Sum.inr (if p.1 = z then (p.1, i) else p).1, V.int (if p.1 = z then (p.1, i) else p).2)
      rw [if_neg h]
  · rw [cD_put e]
    unfold putI
    rw [if_neg e]
theorem ctO_putI (ps : List (Str × Int)) (z y : Str) (i : Int) : ctO (putI ps z i) y = if y = z then some i else ctO ps y := by
  have h : (ctO (putI ps z i) y).map V.int = (if y = z then some i else ctO ps y).map V.int := by
    rw [← valV_cD, ← putI_cD, valV_put]
    by_cases e : y = z
    · rw [if_pos e, if_pos (by rw [e])]
      rfl
    · rw [if_neg e, if_neg fun q => e (Sum.inr.inj q), valV_cD]
  cases h1 : ctO (putI ps z i) y with
  | none =>
    rw [h1] at h
    cases h2 : (if y = z then some i else ctO ps y) with
    | none => rfl
    | some b => rw [h2] at h; cases h
  | some a =>
    rw [h1] at h
    cases h2 : (if y = z then some i else ctO ps y) with
    | none => rw [h2] at h; cases h
    | some b =>
      rw [h2] at h
      have : V.int a = V.int b := Option.some.inj h
      rw [V.int.inj this]
theorem ct_putI (ps : List (Str × Int)) (z y : Str) (i : Int) : ct (putI ps z i) y = if y = z then i else ct ps y := by
  unfold ct
  rw [ctO_putI]
  split <;> rfl
/-- dict(pairs) -/
def mrg (acc qs : List (Str × Int)) : List (Str × Int) := qs.foldl (fun a q => putI a q.1 q.2) acc
theorem mergeK_cD : ∀ (qs acc : List (Str × Int)), mergeK (cD acc) (cD qs) = cD (mrg acc qs)
  | [], acc => rfl
  | q :: r, acc => by
    show mergeK (putK (cD acc) (Sum.inr q.1) (.int q.2)) (cD r) = _
    rw [putI_cD, mergeK_cD r]
    rfl
theorem mrg_nd : ∀ {qs acc : List (Str × Int)}, (acc.map (·.1)).Nodup → ((mrg acc qs).map (·.1)).Nodup
  | [], _, h => h
  | q :: r, _, h => mrg_nd (qs := r) (putI_nd h)
theorem mrg_mem : ∀ {qs acc : List (Str × Int)} {q : Str × Int}, q ∈ mrg acc qs → q ∈ acc ∨ q ∈ qs
  | [], _, _, h => .inl h
  | p :: r, acc, q, h => by
    rcases mrg_mem (qs := r) h with h | h
    · rcases putI_mem h with h | h
      · exact .inr (by rw [h]; exact List.mem_cons_self)
      · exact .inl h
    · exact .inr (List.mem_cons_of_mem _ h)
theorem mrg_len : ∀ {qs acc : List (Str × Int)}, (mrg acc qs).length ≤ acc.length + qs.length
  | [], _ => Nat.le_refl _
  | q :: r, acc => by
    have h1 := mrg_len (qs := r) (acc := putI acc q.1 q.2)
    have h2 := putI_len (ps := acc) (z := q.1) (i := q.2)
    show (mrg (putI acc q.1 q.2) r).length ≤ _
    rw [List.length_cons]
    omega
theorem cD_nil : cD [] = [] := rfl
/-- a dict from words of a list to numbers below a bound -/
structure Ds (ws : List Str) (b : Nat) (ps : List (Str × Int)) : Prop where
  nd : (ps.map (·.1)).Nodup
  sub : ∀ z ∈ ps.map (·.1), z ∈ ws
  sm : ∀ p ∈ ps, p.2.natAbs < b
  few : ps.length ≤ 100
theorem Ds.mono {ws : List Str} {b c : Nat} {ps : List (Str × Int)} (h : Ds ws b ps) (k : b ≤ c) : Ds ws c ps := ⟨h.nd, h.sub, fun p hp => Nat.lt_of_lt_of_le (h.sm p hp) k, h.few⟩
theorem Ds.ct {ws : List Str} {b : Nat} {ps : List (Str × Int)} (h : Ds ws b ps) (hb : 0 < b) (z : Str) : (ct ps z).natAbs < b := by
  by_cases e : z ∈ ps.map (·.1)
  · obtain ⟨p, hp, e⟩ := List.mem_map.mp e
    rw [← e, ct_mem h.nd hp]
    exact h.sm p hp
  · rw [ct_out e]
    exact hb
theorem ds_mrg {ws : List Str} {b : Nat} {qs : List (Str × Int)} (h1 : ∀ q ∈ qs, q.1 ∈ ws ∧ q.2.natAbs < b) (h2 : qs.length ≤ 100) : Ds ws b (mrg [] qs) := by
  refine ⟨mrg_nd List.nodup_nil, fun z hz => ?_, fun p hp => ?_, ?_⟩
  · obtain ⟨p, hp, rfl⟩ := List.mem_map.mp hz
    rcases mrg_mem hp with h | h
    · cases h
    · exact (h1 p h).1
  · rcases mrg_mem hp with h | h
    · cases h
    · exact (h1 p h).2
  · have := mrg_len (qs := qs) (acc := [])
    rw [List.length_nil] at this
    omega
theorem nd_len {l m : List Str} (nd : l.Nodup) (h : ∀ x ∈ l, x ∈ m) : l.length ≤ m.length := by
  induction l generalizing m with
  | nil => exact Nat.zero_le _
  | cons a r ih =>
    obtain ⟨h1, h2⟩ := List.nodup_cons.mp nd
    have ha : a ∈ m := h a List.mem_cons_self
    have := ih (m := m.erase a) h2 fun x hx => (List.mem_erase_of_ne (fun (e : x = a) => h1 (e ▸ hx))).mpr (h x (List.mem_cons_of_mem _ hx))
    rw [List.length_erase_of_mem ha] at this
    have : 0 < m.length := List.length_pos_of_mem ha
    rw [List.length_cons]
    omega
theorem ds_put {ws : List Str} {b : Nat} {ps : List (Str × Int)} {z : Str} {i : Int} (h : Ds ws b ps) (hz : z ∈ ws) (hi : i.natAbs < b) (hw : ws.length ≤ 100) : Ds ws b (putI ps z i) := by
  have nd := putI_nd (z := z) (i := i) h.nd
  have sub : ∀ y ∈ (putI ps z i).map (·.1), y ∈ ws := fun y hy => by
    rcases putI_keys hy with e | e
    · rw [e]
      exact hz
    · exact h.sub y e
  refine ⟨nd, sub, fun p hp => ?_, ?_⟩
  · rcases putI_mem hp with e | e
    · rw [e]
      exact hi
    · exact h.sm p e
  · have := nd_len nd sub
    rw [List.length_map] at this
    omega
/-! ### the told comparisons, by the gaps -/
theorem leB_iff {ps qs : List (Str × Int)} : leB ps qs = true ↔ ∀ z, ct ps z ≤ ct qs z := by
  unfold leB
  rw [List.all_eq_true]
  constructor
  · intro h z
    by_cases e : z ∈ ps.map (·.1) ++ qs.map (·.1)
    · exact of_decide_eq_true (h z e)
    · rw [List.mem_append, not_or] at e
      rw [ct_out e.1, ct_out e.2]
      exact Int.le_refl _
  · intro h z _
    exact decide_eq_true (h z)
theorem leB_gaps {ps qs as bs : List (Str × Int)} {ws : List Str} {m : Int} (ha : ∀ z, ct as z = ct ps z) (hb : ∀ z, ct bs z = ct qs z) (k1 : ∀ z ∈ ps.map (·.1), z ∈ ws) (k2 : ∀ z ∈ qs.map (·.1), z ∈ ws)
    (hm : m ∈ (ws.map fun z => ct qs z - ct ps z) ++ [0]) (hle : ∀ y ∈ (ws.map fun z => ct qs z - ct ps z) ++ [0], m ≤ y) : leB as bs = decide (m = 0) := by
  rw [Bool.eq_iff_iff, leB_iff, decide_eq_true_eq]
  have h0 : m ≤ 0 := hle 0 (List.mem_append_right _ (List.mem_singleton.mpr rfl))
  constructor
  · intro h
    rcases List.mem_append.mp hm with e | e
    · obtain ⟨z, _, e⟩ := List.mem_map.mp e
      have := h z
      rw [ha, hb] at this
      omega
    · exact List.mem_singleton.mp e
  · intro h z
    rw [ha, hb]
    by_cases e : z ∈ ws
    · have := hle _ (List.mem_append_left _ (List.mem_map.mpr ⟨z, e, rfl⟩))
      omega
    · rw [ct_out fun q => e (k1 z q), ct_out fun q => e (k2 z q)]
      exact Int.le_refl _
theorem leB_gaps2 {ps qs as bs : List (Str × Int)} {ws : List Str} {m : Int} (ha : ∀ z, ct as z = ct ps z) (hb : ∀ z, ct bs z = ct qs z) (k1 : ∀ z ∈ ps.map (·.1), z ∈ ws) (k2 : ∀ z ∈ qs.map (·.1), z ∈ ws)
    (hm : m ∈ (ws.map fun z => ct qs z - ct ps z) ++ [0]) (hle : ∀ y ∈ (ws.map fun z => ct qs z - ct ps z) ++ [0], y ≤ m) : leB bs as = decide (m = 0) := by
  rw [Bool.eq_iff_iff, leB_iff, decide_eq_true_eq]
  have h0 : 0 ≤ m := hle 0 (List.mem_append_right _ (List.mem_singleton.mpr rfl))
  constructor
  · intro h
    rcases List.mem_append.mp hm with e | e
    · obtain ⟨z, _, e⟩ := List.mem_map.mp e
      have := h z
      rw [ha, hb] at this
      omega
    · exact List.mem_singleton.mp e
  · intro h z
    rw [ha, hb]
    by_cases e : z ∈ ws
    · have := hle _ (List.mem_append_left _ (List.mem_map.mpr ⟨z, e, rfl⟩))
      omega
    · rw [ct_out fun q => e (k1 z q), ct_out fun q => e (k2 z q)]
      exact Int.le_refl _
theorem eq_le {as bs : List (Str × Int)} (a : Can as) (b : Can bs) : decide (as = bs) = (leB as bs && leB bs as) := by
  rw [Bool.eq_iff_iff, Bool.and_eq_true, leB_iff, leB_iff, decide_eq_true_eq]
  constructor
  · rintro rfl
    exact ⟨fun _ => Int.le_refl _, fun _ => Int.le_refl _⟩
  · rintro ⟨h1, h2⟩
    exact can_eq a b fun z => Int.le_antisymm (h1 z) (h2 z)
end Ld
namespace Ld
open PySem PySem.Spec PyProof.Rows L2
/-! ### reading dicts of counts -/
theorem dget_ct {H : Hp} {a : Addr} {ps : List (Str × Int)} {z : Str} (e : H a = some (.dK (cD ps))) : DGet H a (.str z) ((ctO ps z).map V.int) := by
  have q := DGet.k (k := (Sum.inr z : Key)) e
  rw [valV_cD] at q
  exact q
theorem getD_ct {ps : List (Str × Int)} {z : Str} : ((ctO ps z).map V.int).getD (.int 0) = .int (ct ps z) := by
  unfold ct
  cases ctO ps z <;> rfl
theorem dput_ct {H : Hp} {a : Addr} {ps : List (Str × Int)} {z : Str} {i : Int} (e : H a = some (.dK (cD ps))) (hl : ps.length ≤ 1000) : DPut H a (.str z) (.int i) (upd H a (.dK (cD (putI ps z i)))) := by
  have q := DPut.k (k := (Sum.inr z : Key)) (v := .int i) e (by rw [cD_len]; exact Nat.lt_of_le_of_lt hl (by decide))
  rw [putI_cD] at q
  exact q
/-! ### pairs made one by one -/
def TupsAt (H : Hp) (ts : List Addr) (qs : List (Str × Int)) : Prop := Paired (fun t q => H t = some (.tup [V.str q.1, V.int q.2])) ts qs
theorem TupsAt.keep {H H' : Hp} {ts : List Addr} {qs : List (Str × Int)} (h : TupsAt H ts qs) (k : ∀ t xs, H t = some (.tup xs) → H' t = some (.tup xs)) : TupsAt H' ts qs := Paired.mono (fun _ _ e => k _ _ e) h
theorem TupsAt.cD {K : PySem.W.Frag} {H : Hp} : ∀ {ts : List Addr} {qs : List (Str × Int)}, TupsAt H ts qs → Paired (fun p kv => SqT K H p [kV kv.1, kv.2]) ts (cD qs)
  | _, _, .nil => .nil
  | _, _, .cons h t => .cons (.inl (.inl h)) (TupsAt.cD t)
theorem SameP.tup {p : Addr} {H H' : Hp} {c : Addr} {ns : List Int} {u r : Int} (s : SameP p H H') (P : PenAt H p c ns u r) (t : Addr) (xs : List V) (h : H t = some (.tup xs)) : H' t = some (.tup xs) := by
  obtain ⟨kvs, hp, _⟩ := P.ob
  exact s _ _ h (ne_of h hp fun z => nomatch z)
theorem PenAt.nd {H : Hp} {p c : Addr} {ns : List Int} {u r : Int} (P : PenAt H p c ns u r) {d : Addr} (h : H d = none) : d ≠ p := by
  obtain ⟨kvs, hp, _⟩ := P.ob
  exact (ne_of_none hp h).symm
theorem PenAt.nc {H : Hp} {p c : Addr} {ns : List Int} {u r : Int} (P : PenAt H p c ns u r) {d : Addr} (h : H d = none) : d ≠ c := (ne_of_none P.cl h).symm
theorem PenAt.nl {H : Hp} {p c : Addr} {ns : List Int} {u r : Int} (P : PenAt H p c ns u r) {d : Addr} {xs : List V} (h : H d = some (.lst xs)) : d ≠ p := by
  obtain ⟨kvs, hp, _⟩ := P.ob
  exact ne_of h hp fun z => nomatch z
/-- what is new to a heap is new to the one before -/
theorem SameP.none {p : Addr} {H H' : Hp} (s : SameP p H H') {d : Addr} (h : H' d = none) (n : d ≠ p) : H d = none := by
  cases e : H d with
  | none => rfl
  | some o => rw [s _ _ e n] at h; cases h
theorem Same.none {H H' : Hp} (s : Same H H') {d : Addr} (h : H' d = none) : H d = none := by
  cases e : H d with
  | none => rfl
  | some o => rw [s _ _ e] at h; cases h
/-! ### loads made by a call of the class -/
section
variable {C : Addr} {σ : L2.St} {H : Hp} {Q : Addr → Hp → Prop}
theorem made_load {y : List Str} {zs : List V} {ps : List (Str × Int)} (hz : zs.length = y.length) (hk : kwD y zs = cD ps) (nd : (ps.map (·.1)).Nodup) (few : ps.length ≤ 1000) (wd : ∀ p ∈ ps, wordB p.1 = true)
    (h : ∀ (H' : Hp) (x : Addr) (ps' : List (Str × Int)), Same H H' → H x = none → LoadAt C H' x ps' → (∀ z, ct ps' z = ct ps z) → Q x H') :
    ∀ x dx, H x = Option.none → H dx = Option.none → dx ≠ x → spKw y (spInitB C) (V.ref x :: zs) (upd (upd H dx (.own x)) x (.ins C dx [])) (fun v H3 => v = .non ∧ Q x H3) E0 := by
  intro x dx hx hdx ne
  refine ⟨.ref x, zs, rfl, hz, fun d hd => ?_⟩
  have ndx : d ≠ x := fun e => by rw [e, upd_same] at hd; cases hd
  refine ⟨x, dx, d, ps, [], rfl, by rw [upd_ne ndx.symm, upd_same], by decide, ⟨by rw [upd_same, hk], nd, few, wd⟩, fun H4 t ps' keep hx4 ht can cts => ⟨rfl, ?_⟩⟩
  refine h H4 x ps' (fun b o eb => ?_) hx ⟨dx, t, hx4, ht, can⟩ cts
  have nb : b ≠ x := ne_of_none eb hx
  have nb2 : b ≠ dx := ne_of_none eb hdx
  refine keep b o nb ?_
  by_cases e : b = d
  · exfalso
    rw [upd_ne ndx] at hd
    rw [← e, upd_ne nb2, eb] at hd
    cases hd
  · rw [upd_ne e, upd_ne nb, upd_ne nb2]
    exact eb
end
end Ld
namespace Ld
open PySem PySem.Spec PyProof.Rows L2
abbrev sLaw : Stmt := top 28
abbrev nLaw : List Str := ["_law_script", "_law_pen_here", "_law_turn", "_law_words_here", "_law_word", "_law_mine", "_law_yours", "_law_step", "_law_one", "_law_other", "_law_gaps", "_law_least", "_law_most", "_law_is_same", "_law_due", "_law_n"]
theorem scLaw : FnScope nLaw ["_law_script"] (defScope sLaw) := ⟨rfl, rfl, rfl, by decide +kernel, rfl, by decide +kernel, by decide +kernel⟩
structure Blt3 (mg : Str → Option Value) : Prop where
  min : mg "min" = none
  max : mg "max" = none
  repr : mg "repr" = none
theorem bMin : bootBuiltins "min" = some (.builtin "min") := by decide +kernel
theorem bMax : bootBuiltins "max" = some (.builtin "max") := by decide +kernel
theorem bRepr : bootBuiltins "repr" = some (.builtin "repr") := by decide +kernel
theorem bDict : bootBuiltins "dict" = some (.type "dict") := by decide +kernel
/-- the own class is one that isinstance takes, and no built-in type's first -/
structure OddC (K : PySem.W.Frag) (C : Addr) : Prop where
  own : ((PySem.W.clsIn K C).isSome && PySem.W.typeIn K (.ref C) == some (.type "type")) = true
theorem kit_no {K : PySem.W.Frag} {C : Addr} (h : OddC K C) {T : String} (e : (fastBuiltinMro T).map (·.contains (Value.ref C)) = some false) : PySem.W.kitOne K (.type T) (.ref C) = some false := by
  unfold PySem.W.kitOne PySem.W.kitCls
  rw [if_neg (by intro q; exact nomatch (show Value.type T = Value.ref C from beq_iff_eq.mp q))]
  show (if _ then PySem.W.subIn K (.type T) (.ref C) else none) = _
  rw [if_pos h.own]
  exact e
theorem nf_no {K : PySem.W.Frag} {C : Addr} {T : String} (e : (fastBuiltinMro T).map (·.contains (Value.ref C)) = some false) : PySem.W.notFirst K C (.type T) = true := by
  unfold PySem.W.notFirst
  have e2 : PySem.W.subIn K (.type T) (.ref C) = some false := e
  rw [e2]
  simp
theorem mroDict {C : Addr} : (fastBuiltinMro "dict").map (·.contains (Value.ref C)) = some false := by kernel_rfl
theorem mroStr {C : Addr} : (fastBuiltinMro "str").map (·.contains (Value.ref C)) = some false := by kernel_rfl
theorem mroNon {C : Addr} : (fastBuiltinMro "NoneType").map (·.contains (Value.ref C)) = some false := by kernel_rfl
theorem mroInt {C : Addr} : (fastBuiltinMro "int").map (·.contains (Value.ref C)) = some false := by kernel_rfl
theorem mroTup {C : Addr} : (fastBuiltinMro "tuple").map (·.contains (Value.ref C)) = some false := by kernel_rfl
theorem mroLst {C : Addr} : (fastBuiltinMro "list").map (·.contains (Value.ref C)) = some false := by kernel_rfl
section
variable {P : Program} {w : World} {K : PySem.W.Frag} {mg : Str → Option Value} {base : Heap} {C fi : Addr}
/-- a classmethod of the class that keeps sp -/
def HasC (P : Program) (w : World) (K : PySem.W.Frag) (mg : Str → Option Value) (base : Heap) (n : Nat) (C : Addr) (name : Str) (sp : Sp) : Prop :=
  ∃ mc p g, ClX.CRead K C mc ∧ ClX.CMet K C mc name p g ∧ FnR P w K mg base CX0 n g sp
/-- a property of the class -/
def HasP (P : Program) (w : World) (K : PySem.W.Frag) (mg : Str → Option Value) (base : Heap) (n : Nat) (C : Addr) (name : Str) (sp : Sp) : Prop :=
  ∃ p g fd, PropOf K C name p g ∧ FnOk P w K mg base CX0 n g fd ["self"] sp ∧ Binds K fd ["self"] []
/-- a method of the class -/
def HasT (P : Program) (w : World) (K : PySem.W.Frag) (mg : Str → Option Value) (base : Heap) (n : Nat) (C : Addr) (name : Str) (ps : List Str) (sp : Sp) : Prop :=
  ∃ g fd, Meth K C name g ∧ FnOk P w K mg base CX0 n g fd ps sp ∧ Binds K fd ps []
/-- Load as the law uses it -/
structure LoadT (P : Program) (w : World) (K : PySem.W.Frag) (mg : Str → Option Value) (base : Heap) (C fi : Addr) : Prop where
  T : LoadC K mg C fi
  S : SlX.SIsi K C
  N : NeC K C
  O : OddC K C
  of : HasC P w K mg base 5 C "of" (spOf C)
  mk0 : FnK P w K mg base CX0 3 fi [] (spKw [] (spInitB C))
  mkA : FnK P w K mg base CX0 3 fi ["a"] (spKw ["a"] (spInitB C))
  mkB : FnK P w K mg base CX0 3 fi ["b"] (spKw ["b"] (spInitB C))
  eq : HasM P w K mg base 1 C "__eq__" (spEqL K C)
  le : HasM P w K mg base 3 C "__le__" (spLe C)
  lt : HasM P w K mg base 4 C "__lt__" (spLt C)
  ge : HasM P w K mg base 4 C "__ge__" (spGe C)
  gt : HasM P w K mg base 5 C "__gt__" (spGt C)
  counts : HasP P w K mg base 1 C "counts" (spCounts C)
  text : HasT P w K mg base 1 C "text" ["self"] (spText C)
structure LawT (P : Program) (w : World) (K : PySem.W.Frag) (mg : Str → Option Value) (base : Heap) : Prop where
  pen : Has P w K mg base 1 "_law_pen" ["_law_script"] (spPen K)
  draw : Has P w K mg base 1 "_law_draw" ["_law_pen_here", "_law_many"] spDraw
  pick : Has P w K mg base 2 "_law_pick" ["_law_pen_here", "_law_options"] (spPick K)
  words : Has P w K mg base 3 "_law_words" ["_law_pen_here", "_law_many"] spWords
  whole : Has P w K mg base 4 "_law_whole" ["_law_pen_here"] spWhole
def spLaw (K : PySem.W.Frag) : Sp := fun vs H Q _ => ∃ (a : Addr) (ns : List Int), vs = [.ref a] ∧ SqL K H a (ns.map V.int) ∧ ns.length ≤ 63 ∧ ∀ H', Q (.bl true) H'
theorem ok_law {f : Addr} {fd : FuncData} (F : Fun K "law" "law" sLaw f fd) (B : Blt mg) (B2 : Blt2 mg) (B3 : Blt3 mg) (L : LoadT P w K mg base C fi) (W : LawT P w K mg base) : FnG P w K mg base 6 f fd ["_law_script"] (spLaw K) := by
  obtain ⟨f1, d1, G1, b1, m1, k1⟩ := W.pen
  obtain ⟨f2, d2, G2, b2, m2, k2⟩ := W.draw
  obtain ⟨f3, d3, G3, b3, m3, k3⟩ := W.pick
  obtain ⟨f4, d4, G4, b4, m4, k4⟩ := W.words
  obtain ⟨f5, d5, G5, b5, m5, k5⟩ := W.whole
  obtain ⟨mc, po, go, rO, cO, FO⟩ := L.of
  obtain ⟨ge, e1, e2, e3, FE⟩ := L.eq
  obtain ⟨gl, l1, l2, l3, FL⟩ := L.le
  obtain ⟨gt, t1, t2, t3, FT⟩ := L.lt
  obtain ⟨gg, g1, g2, g3, FG⟩ := L.ge
  obtain ⟨gu, u1, u2, u3, FU⟩ := L.gt
  obtain ⟨pc, gc, dc, pC, FC, bC⟩ := L.counts
  obtain ⟨gx, dx, mX, FX, bX⟩ := L.text
  have T := L.T
  have S := L.S
  refine FnG.of F scLaw (fun vs H Q E h => ?_) (fun cdv A outer s H vs Q hr hgd h => ?_)
  · obtain ⟨a, ns, rfl, _⟩ := h
    rfl
  · obtain ⟨a, ns, rfl, hS, hl, q⟩ := h
    have nd := scLaw.nd
    have hu := hu_of hr
    have hu64 := hr.units
    have hr1 : Room 1 _ := hr.mono (by decide : 1 ≤ 5)
    have hr2 : Room 2 _ := hr.mono (by decide : 2 ≤ 5)
    have hr3 : Room 3 _ := hr.mono (by decide : 3 ≤ 5)
    have hr4 : Room 4 _ := hr.mono (by decide : 4 ≤ 5)
    refine ⟨_, pss_cons (ps_set (i := 1) nd rfl (Or.inr rfl) (pe_call G1 hr1 (by rfl) m1 k1 b1 .nil pass0 (pa_cons (pv 0) pa_nil)))
      (pss_cons (ps_for PassesOwn.never rfl (pi_range1 (by rfl) B.range (pa_cons (pe_op op_add pe_int (pe_callB (call_min2 rfl) (by rfl) B3.min bMin (pa_cons pe_int (pa_cons (pe_callB call_len_seq (by rfl) B.len PySem.boot_len (pa_cons (pv 0) pa_nil)) pa_nil)))) pa_nil)) (pg_name (i := 2) nd rfl (Or.inl rfl))
        (pss_cons (ps_set (i := 3) nd rfl (Or.inl rfl) (pe_call G4 hr3 (by rfl) m4 k4 b4 .nil pass0 (pa_cons (pv 1) (pa_cons (pe_op op_add pe_int (pe_call G2 hr1 (by rfl) m2 k2 b2 .nil pass0 (pa_cons (pv 1) (pa_cons pe_int pa_nil)))) pa_nil))))
        (pss_cons (ps_set (i := 5) nd rfl (Or.inr rfl) (pe_callTy (call_dictP rfl) (by rfl) B2.dict bDict (pa_cons (pe_lc (own := [("_law_word", 4)]) (g := gName 4) rfl nd (pi_list (pv 3)) (blkOk_by (N := nLaw) (sc := defScope sLaw) (by decide +kernel)) (fun _ _ _ _ _ => pg_name (i := 4) nd rfl (Or.inl rfl)) (fun _ _ _ _ _ => (pts_one (pt_cmpR op_gt (pe_call G2 hr1 (by rfl) m2 k2 b2 .nil pass0 (pa_cons (pv 1) (pa_cons pe_int pa_nil))) pe_int (nomark _)))) (fun _ _ _ _ _ => (pe_tup (pa_cons (pv 4) (pa_cons (pe_call G5 hr4 (by rfl) m5 k5 b5 .nil pass0 (pa_cons (pv 1) pa_nil)) pa_nil))))) pa_nil)))
        (pss_cons (ps_set (i := 6) nd rfl (Or.inr rfl) (pe_callTy call_dictD (by rfl) B2.dict bDict (pa_cons (pv 5) pa_nil)))
        (pss_cons (ps_for PassesOwn.never rfl (pi_list (pv 3)) (pg_name (i := 4) nd rfl (Or.inl rfl))
          (pss_cons (ps_set (i := 7) nd rfl (Or.inl rfl) (pe_op op_mul (pe_call G3 hr2 (by rfl) m3 k3 b3 .nil pass0 (pa_cons (pv 1) (pa_cons (pe_lst (pa_cons pe_int (pa_cons pe_int (pa_cons pe_int (pa_cons pe_int (pa_cons (pe_un un_neg pe_int) (pa_cons (pe_op op_pow pe_int pe_int) pa_nil))))))) pa_nil))) (pe_call G2 hr1 (by rfl) m2 k2 b2 .nil pass0 (pa_cons (pv 1) (pa_cons pe_int pa_nil)))))
          (pss_one (ps_dput hu (pv 6) (pv 4) (pe_op op_add (pe_dget2 hu (pv 6) (pv 4) pe_int ⟨by rfl, by rfl, by rfl, by rfl⟩) (pv 7)) rfl))))
        (pss_cons (ps_if (pt_cmpR op_eq (pe_call G2 hr1 (by rfl) m2 k2 b2 .nil pass0 (pa_cons (pv 1) (pa_cons pe_int pa_nil))) pe_int (nomark _)) (pss_one (ps_set (i := 6) nd rfl (Or.inr rfl) (pe_callTy (call_dictP rfl) (by rfl) B2.dict bDict (pa_cons (pe_lc (own := [("_law_word", 4)]) (g := gName 4) (tt := tYes) rfl nd (pi_list (pv 3)) (blkOk_by (N := nLaw) (sc := defScope sLaw) (by decide +kernel)) (fun _ _ _ _ _ => pg_name (i := 4) nd rfl (Or.inl rfl)) (fun _ _ _ _ _ => pts_nil) (fun _ _ _ _ _ => (pe_tup (pa_cons (pv 4) (pa_cons (pe_call G5 hr4 (by rfl) m5 k5 b5 .nil pass0 (pa_cons (pv 1) pa_nil)) pa_nil))))) pa_nil)))) pss_nil)
        (pss_cons (ps_par (i := 8) (j := 9) rfl nd rfl rfl (by decide) rfl rfl (pa_cons (ClX.pe_cmeth (pe_glob (v := .ref C) (by rfl) T.gC rfl) rO cO FO hr pass0 (pa_cons (pv 5) pa_nil)) (pa_cons (ClX.pe_cmeth (pe_glob (v := .ref C) (by rfl) T.gC rfl) rO cO FO hr pass0 (pa_cons (pv 6) pa_nil)) pa_nil)) (by rfl))
        (pss_cons (ps_setLc (i := 10) (own := [("_law_word", 4)]) (g := gName 4) (tt := tYes) rfl nd rfl rfl (sw_true rfl rfl rfl (by decide +kernel)) (pi_list (pv 3)) (blkOk_by (N := nLaw) (sc := defScope sLaw) (by decide +kernel)) (fun _ _ _ _ _ => pg_name (i := 4) nd rfl (Or.inl rfl)) (fun _ _ _ _ _ => pts_nil) (fun _ _ _ _ _ => (pe_op op_sub (pe_dget2 hu (pv 6) (pv 4) pe_int ⟨by rfl, by rfl, by rfl, by rfl⟩) (pe_dget2 hu (pv 5) (pv 4) pe_int ⟨by rfl, by rfl, by rfl, by rfl⟩))))
        (pss_cons (ps_par (i := 11) (j := 12) rfl nd rfl rfl (by decide) rfl rfl (pa_cons (pe_callB (cr_min rfl) (by rfl) B3.min bMin (pa_cons (pe_lc (own := [("_law_n", 15)]) (g := gName 15) (tt := tYes) rfl nd (pi_list (pe_op op_cat (pv 10) (pe_lst (pa_cons pe_int pa_nil)))) (blkOk_by (N := nLaw) (sc := defScope sLaw) (by decide +kernel)) (fun _ _ _ _ _ => pg_name (i := 15) nd rfl (Or.inl rfl)) (fun _ _ _ _ _ => pts_nil) (fun _ _ _ _ _ => (pe_callTy call_int1 (by rfl) B.int bInt (pa_cons (pv 15) pa_nil)))) pa_nil)) (pa_cons (pe_callB (cr_max rfl) (by rfl) B3.max bMax (pa_cons (pe_lc (own := [("_law_n", 15)]) (g := gName 15) (tt := tYes) rfl nd (pi_list (pe_op op_cat (pv 10) (pe_lst (pa_cons pe_int pa_nil)))) (blkOk_by (N := nLaw) (sc := defScope sLaw) (by decide +kernel)) (fun _ _ _ _ _ => pg_name (i := 15) nd rfl (Or.inl rfl)) (fun _ _ _ _ _ => pts_nil) (fun _ _ _ _ _ => (pe_callTy call_int1 (by rfl) B.int bInt (pa_cons (pv 15) pa_nil)))) pa_nil)) pa_nil)) (by rfl))
        (pss_cons (ps_set (i := 13) nd rfl (Or.inl rfl) (pe_and (pe_cmpR op_eq (pv 11) pe_int (nomark _)) (pe_one (pe_cmpR op_eq (pv 12) pe_int (nomark _)))))
        (pss_cons (ps_set (i := 14) nd rfl (Or.inl rfl) (pe_lst (pa_cons (pv 13) (pa_cons (pe_not (pv 13)) (pa_cons (pe_cmpR op_eq (pv 11) pe_int (nomark _)) (pa_cons (pe_and (pe_cmpR op_eq (pv 11) pe_int (nomark _)) (pe_one (pe_not (pv 13)))) (pa_cons (pe_cmpR op_eq (pv 12) pe_int (nomark _)) (pa_cons (pe_and (pe_cmpR op_eq (pv 12) pe_int (nomark _)) (pe_one (pe_not (pv 13)))) pa_nil))))))))
        (pss_cons (ps_if (pt_cmpR op_ne (pe_callB (call_repr hgd hu64) (by rfl) B3.repr bRepr (pa_cons (pe_lst (pa_cons (pe_cmpR (op_cmp (op := .Eq) (fun _ _ => rfl) e1 e3 FE hr1 pass0) (pv 8) (pv 9) (nomark _)) (pa_cons (pe_cmpR (op_cmpNe L.N.ne S.cm e1 e3 FE hr2 pass0) (pv 8) (pv 9) (nomark _)) (pa_cons (pe_cmpR (op_cmp (op := .LtE) (fun _ _ => rfl) l1 l3 FL hr3 pass0) (pv 8) (pv 9) (nomark _)) (pa_cons (pe_cmpR (op_cmp (op := .Lt) (fun _ _ => rfl) t1 t3 FT hr4 pass0) (pv 8) (pv 9) (nomark _)) (pa_cons (pe_cmpR (op_cmp (op := .GtE) (fun _ _ => rfl) g1 g3 FG hr4 pass0) (pv 8) (pv 9) (nomark _)) (pa_cons (pe_cmpR (op_cmp (op := .Gt) (fun _ _ => rfl) u1 u3 FU hr pass0) (pv 8) (pv 9) (nomark _)) pa_nil))))))) pa_nil)) (pe_callB (call_repr hgd hu64) (by rfl) B3.repr bRepr (pa_cons (pv 14) pa_nil)) (nomark _)) (pss_one (ps_ret pe_bl)) pss_nil)
        (pss_cons (ps_if (PW.pt (pw_or (pt_cmpR (op_cmp (op := .Eq) (fun _ _ => rfl) e1 e3 FE hr1 pass0) (pv 8) (pe_prop (pv 8) T.c pC FC hr2 bC .nil pass0 rfl) (nomark _)) (pw_or (pt_cmpR (op_cmp (op := .Eq) (fun _ _ => rfl) e1 e3 FE hr1 pass0) (pv 8) (pe_meth0 (pv 8) T.c mX FX hr1 bX .nil pass0) (nomark _)) (pw_or (pt_cmpR (op_cmp (op := .Eq) (fun _ _ => rfl) e1 e3 FE hr1 pass0) (pv 8) pe_non (nomark _)) (pw_or (pt_cmpR (op_cmp (op := .Eq) (fun _ _ => rfl) e1 e3 FE hr1 pass0) (pv 8) pe_int (nomark _)) (pw_or (pt_cmpR (op_cmp (op := .Eq) (fun _ _ => rfl) e1 e3 FE hr1 pass0) (pv 8) (pe_tup (pa_cons (pv 8) pa_nil)) (nomark _)) (pw_or1 (pt_not (pt_cmpR (op_cmpNe L.N.ne S.cm e1 e3 FE hr2 pass0) (pv 8) (pe_lst (pa_cons (pv 8) pa_nil)) (nomark _)))))))))) (pss_one (ps_ret pe_bl)) pss_nil)
        (pss_one (ps_if (PW.pt (pw_or (pt_not (pt_cmpR (op_cmp (op := .Eq) (fun _ _ => rfl) e1 e3 FE hr1 pass0) (pv 8) (ClX.pe_cmeth (pe_glob (v := .ref C) (by rfl) T.gC rfl) rO cO FO hr pass0 (pa_cons (pv 5) pa_nil)) (nomark _))) (pw_or (pt_not (pt_cmpR (op_cmp (op := .LtE) (fun _ _ => rfl) l1 l3 FL hr3 pass0) (pv 8) (pv 8) (nomark _))) (pw_or1 (pt_cmpR (op_cmp (op := .Lt) (fun _ _ => rfl) t1 t3 FT hr4 pass0) (pv 8) (pv 8) (nomark _)))))) (pss_one (ps_ret pe_bl)) pss_nil)))))))))))))))
      (pss_one (ps_ret (pe_and (pe_cmpR (op_cmp (op := .Eq) (fun _ _ => rfl) e1 e3 FE hr1 pass0) (pe_makeQ0 T.mkC L.mk0 hr4 (by rfl) T.gC pass0) (ClX.pe_cmeth (pe_glob (v := .ref C) (by rfl) T.gC rfl) rO cO FO hr pass0 (pa_cons (pe_disp (pps_cons pe_str pe_int pps_nil) rfl rfl (by simp) (by decide)) pa_nil)) (nomark _)) (pe_and (pe_cmpR (op_cmp (op := .Lt) (fun _ _ => rfl) t1 t3 FT hr4 pass0) (pe_makeQ T.mkC L.mkA hr4 (by rfl) T.gC pass0 (pk_cons (pe_un un_neg pe_int) pk_nil)) (pe_makeQ0 T.mkC L.mk0 hr4 (by rfl) T.gC pass0) (nomark _)) (pe_one (pe_not (pe_cmpR (op_cmp (op := .LtE) (fun _ _ => rfl) l1 l3 FL hr3 pass0) (pe_makeQ T.mkC L.mkA hr4 (by rfl) T.gC pass0 (pk_cons (pe_un un_neg pe_int) pk_nil)) (pe_makeQ T.mkC L.mkB hr4 (by rfl) T.gC pass0 (pk_cons (pe_un un_neg pe_int) pk_nil)) (nomark _))))))))), ?_⟩
    -- the pen
    refine seq_step (fun σ' H' => ∃ p c, σ' = [some (.ref a), some (.ref p), none, none, none, none, none, none, none, none, none, none, none, none, none, none] ∧ Same H H' ∧ PenAt H' p c ns 0 0) (fun R hR => ?_) (fun σ1 H1 h1 => ?_)
    · exact ⟨_, rfl, a, ns, rfl, hS, hl, fun p c H' same PA => hR _ _ ⟨p, c, rfl, same, PA⟩⟩
    obtain ⟨p, c, rfl, same1, PA⟩ := h1
    have hN : (6 + (if ((ns.map V.int).length : Int) < 6 then ((ns.map V.int).length : Int) else 6)).toNat ≤ 12 := by split <;> omega
    -- the turns
    refine seq_step (fun σ' H' => ∃ x2 x3 x4 x5 x6 x7 x8 x9 x10 x11 x12 x13 x14 x15, σ' = [some (.ref a), some (.ref p), x2, x3, x4, x5, x6, x7, x8, x9, x10, x11, x12, x13, x14, x15]) (fun R hR => ?_) (fun σ2 H2 h2 => ?_)
    · refine ⟨_, rfl, _, _, rfl, .inl (same1.seq hS), _, _, rfl, _, _, rfl, rfl, _, rfl, by omega, by omega, for_range (n := (6 + (if ((ns.map V.int).length : Int) < 6 then ((ns.map V.int).length : Int) else 6)).toNat)
        (fun i σ' H' => (∃ x2 x3 x4 x5 x6 x7 x8 x9 x10 x11 x12 x13 x14 x15, σ' = [some (.ref a), some (.ref p), x2, x3, x4, x5, x6, x7, x8, x9, x10, x11, x12, x13, x14, x15]) ∧ ∃ u r, PenAt H' p c ns u r ∧ u ≤ 500 * i)
        ⟨⟨_, _, _, _, _, _, _, _, _, _, _, _, _, _, rfl⟩, 0, 0, PA, by omega⟩ ?_ (fun σ' H' h => hR _ _ h.1)⟩
      rintro i σ' H' hi ⟨⟨x2, x3, x4, x5, x6, x7, x8, x9, x10, x11, x12, x13, x14, x15, rfl⟩, u, r, PA, hu0⟩
      have hi12 : i < 12 := Nat.lt_of_lt_of_le hi hN
      have hu1 : u ≤ 6000 := by omega
      -- words
      refine seq_step (fun σ' H' => ∃ (l : Addr) (ws : List Str) (u' r' : Int), σ' = [some (.ref a), some (.ref p), some (.int (0 + (i : Int))), some (.ref l), x4, x5, x6, x7, x8, x9, x10, x11, x12, x13, x14, x15] ∧ H' l = some (.lst (ws.map V.str)) ∧ ws.length ≤ 5 ∧ (∀ z ∈ ws, Wd 1 8 z) ∧ u' ≤ u + 12 ∧ PenAt H' p c ns u' r') (fun R hR => ?_) (fun σ3 H3 h3 => ?_)
      · refine ⟨_, rfl, _, rfl, p, c, ns, u, r, 5, rfl, PA, by omega, by decide, by decide, fun d u1 r1 H1 d0 d1 hu1 PA1 keep1 => ?_⟩
        refine ⟨_, _, rfl, rfl, p, c, ns, u1, r1, (1 + d).toNat, ?_, PA1, by omega, by omega, fun l ws u2 r2 H2 hl hw hws hu2 PA2 keep2 => hR _ _ ⟨l, ws, u2, r2, rfl, hl, by omega, hws, by omega, PA2⟩⟩
        show [V.ref p, V.int (1 + d)] = [V.ref p, V.int (((1 + d).toNat : Nat) : Int)]
        rw [Int.toNat_of_nonneg (by omega)]
      obtain ⟨l, ws, u3, r3, rfl, hl3, hw5, hws, hu3, PA3⟩ := h3
      -- mine
      refine seq_step (fun σ' H' => ∃ (m0 : Addr) (ps : List (Str × Int)) (u' r' : Int), σ' = [some (.ref a), some (.ref p), some (.int (0 + (i : Int))), some (.ref l), x4, some (.ref m0), x6, x7, x8, x9, x10, x11, x12, x13, x14, x15] ∧ H' l = some (.lst (ws.map V.str)) ∧ H' m0 = some (.dK (cD ps)) ∧ m0 ≠ p ∧ Ds ws (10 ^ 30) ps ∧ u' ≤ u + 217 ∧ PenAt H' p c ns u' r') (fun R hR => ?_) (fun σ4 H4 h4 => ?_)
      · refine ⟨_, rfl, l, rfl, ⟨_, .inl (.inl hl3)⟩, fun D hD => ?_⟩
        have nDp := PA3.nd hD
        have nDc := PA3.nc hD
        have nlD : l ≠ D := ne_of_none hl3 hD
        have nlp := PA3.nl hl3
        refine lc_it (walk_list (xs := ws.map V.str)) (fun j H' => ∃ (ts : List Addr) (qs : List (Str × Int)) (u' r' : Int), PenAt H' p c ns u' r' ∧ u' ≤ u3 + 41 * j ∧ H' l = some (.lst (ws.map V.str)) ∧ H' D = some (.lst (ts.map V.ref)) ∧ TupsAt H' ts qs ∧ qs.length ≤ j ∧ ∀ q ∈ qs, q.1 ∈ ws ∧ q.2.natAbs < 10 ^ 30)
          ⟨[], [], u3, r3, PA3.upd nDp nDc, by omega, by rw [upd_ne nlD]; exact hl3, upd_same, .nil, Nat.le_refl _, fun _ h => nomatch h⟩ (fun j H' _ ⟨_, _, _, _, _, _, h, _⟩ => .inl (.inl h)) ?_ ?_
        · rintro j x H5 H6 hj ⟨ts, qs, u5, r5, PA5, hu5, hl5, eD, hts, hq1, hq2⟩ ⟨rfl, hx⟩
          rw [List.getElem?_map] at hx
          obtain ⟨z, hz, rfl⟩ : ∃ z, ws[j]? = some z ∧ x = V.str z := by
            cases e : ws[j]? with
            | none => rw [e] at hx; cases hx
            | some z => rw [e] at hx; exact ⟨z, rfl, (Option.some.inj hx).symm⟩
          have hzw : z ∈ ws := List.mem_of_getElem? hz
          rw [List.length_map] at hj
          refine ⟨rfl, _, rfl, p, c, ns, u5, r5, 3, rfl, PA5, by omega, by decide, by decide, fun d u6 r6 H6 d0 d1 hu6 PA6 keep6 => ?_⟩
          have hlen : ts.length = qs.length := hts.length
          refine ⟨_, _, rfl, rfl, _, rfl, ifd (fun c0 => ?_) (fun c0 => ?_)⟩
          · refine ⟨_, rfl, _, rfl, p, c, ns, u6, r6, rfl, PA6, by omega, fun e u7 r7 H7 he hu7 PA7 keep7 => ?_⟩
            refine ⟨by show 2 ≤ sizeLine; decide, fun T hT => ?_⟩
            have keep := keep6.trans keep7
            have eD7 : H7 D = some (.lst (ts.map V.ref)) := keep _ _ eD nDp
            have nTD : D ≠ T := ne_of_none eD7 hT
            have nTp := PA7.nd hT
            have nTc := PA7.nc hT
            have hl7 : H7 l = some (.lst (ws.map V.str)) := keep _ _ hl5 nlp
            have nlT : l ≠ T := ne_of_none hl7 hT
            refine ⟨_, by rw [upd_ne nTD]; exact eD7, ?_, ts ++ [T], qs ++ [(z, e)], u7, r7, (PA7.upd nTp nTc).upd nDp nDc, by omega, by rw [upd_ne nlD, upd_ne nlT]; exact hl7, ?_, ?_, ?_, ?_⟩
            · rw [List.length_map, hlen]
              exact Nat.lt_of_le_of_lt (by omega : _ ≤ 5) (by decide)
            · rw [upd_same, List.map_append]
              rfl
            · refine .snoc (TupsAt.keep hts fun t xs ht => ?_) ?_
              · have h1 := keep.tup PA5 t xs ht
                rw [upd_ne (ne_of h1 eD7 fun z => nomatch z), upd_ne (ne_of_none h1 hT)]
                exact h1
              · rw [upd_ne nTD.symm, upd_same]
            · rw [List.length_append]
              show _ + 1 ≤ _
              omega
            · intro q hq
              rcases List.mem_append.mp hq with h | h
              · exact hq2 q h
              · rw [List.mem_singleton.mp h]
                exact ⟨hzw, he⟩
          · exact ⟨ts, qs, u6, r6, PA6, by omega, keep6 _ _ hl5 nlp, keep6 _ _ eD nDp, TupsAt.keep hts (keep6.tup PA5), by omega, hq2⟩
        · rintro H5 ⟨ts, qs, u5, r5, PA5, hu5, hl5, eD, hts, hq1, hq2⟩
          rw [List.length_map] at hu5 hq1
          refine ⟨D, ts, cD qs, rfl, .inl (.inl eD), TupsAt.cD hts, fun m0 hm0 => ?_⟩
          have e0 : mergeK [] (cD qs) = cD (mrg [] qs) := mergeK_cD qs []
          rw [e0]
          exact hR _ _ ⟨m0, mrg [] qs, u5, r5, rfl, by rw [upd_ne (ne_of_none hl5 hm0)]; exact hl5, upd_same, PA5.nd hm0, ds_mrg hq2 (by omega), by omega, PA5.upd (PA5.nd hm0) (PA5.nc hm0)⟩
      obtain ⟨m0, ps, u4, r4, rfl, hl4, hm4, nmp, dps, hu4, PA4⟩ := h4
      -- yours
      refine seq_step (fun σ' H' => ∃ (y0 : Addr), σ' = [some (.ref a), some (.ref p), some (.int (0 + (i : Int))), some (.ref l), x4, some (.ref m0), some (.ref y0), x7, x8, x9, x10, x11, x12, x13, x14, x15] ∧ H' l = some (.lst (ws.map V.str)) ∧ H' m0 = some (.dK (cD ps)) ∧ H' y0 = some (.dK (cD ps)) ∧ y0 ≠ p ∧ y0 ≠ m0 ∧ PenAt H' p c ns u4 r4) (fun R hR => ?_) (fun σ5 H5 h5 => ?_)
      · refine ⟨_, rfl, m0, cD ps, rfl, .inl hm4, fun y0 hy0 => hR _ _ ⟨y0, rfl, ?_, ?_, upd_same, PA4.nd hy0, (ne_of_none hm4 hy0).symm, PA4.upd (PA4.nd hy0) (PA4.nc hy0)⟩⟩
        · rw [upd_ne (ne_of_none hl4 hy0)]
          exact hl4
        · rw [upd_ne (ne_of_none hm4 hy0)]
          exact hm4
      obtain ⟨y0, rfl, hl5, hm5, hy5, nyp, nym, PA5⟩ := h5
      have nlp := PA5.nl hl5
      have nly : l ≠ y0 := ne_of hl5 hy5 fun z => nomatch z
      -- the steps
      refine seq_step (fun σ' H' => ∃ (x4 x7 : Option V) (qs : List (Str × Int)) (u' r' : Int), σ' = [some (.ref a), some (.ref p), some (.int (0 + (i : Int))), some (.ref l), x4, some (.ref m0), some (.ref y0), x7, x8, x9, x10, x11, x12, x13, x14, x15] ∧ H' l = some (.lst (ws.map V.str)) ∧ H' m0 = some (.dK (cD ps)) ∧ H' y0 = some (.dK (cD qs)) ∧ Ds ws (10 ^ 31) qs ∧ u' ≤ u + 227 ∧ PenAt H' p c ns u' r') (fun R hR => ?_) (fun σ6 H6 h6 => ?_)
      · refine ⟨_, rfl, l, rfl, ⟨_, .inl (.inl hl5)⟩, for_list (xs := ws.map V.str) (fun j σ' H' => ∃ (x4 x7 : Option V) (qs : List (Str × Int)) (u' r' : Int), σ' = [some (.ref a), some (.ref p), some (.int (0 + (i : Int))), some (.ref l), x4, some (.ref m0), some (.ref y0), x7, x8, x9, x10, x11, x12, x13, x14, x15] ∧ H' l = some (.lst (ws.map V.str)) ∧ H' m0 = some (.dK (cD ps)) ∧ H' y0 = some (.dK (cD qs)) ∧ Ds ws (10 ^ 30 + j * 10 ^ 20) qs ∧ u' ≤ u4 + 2 * j ∧ PenAt H' p c ns u' r')
          ⟨x4, x7, ps, u4, r4, rfl, hl5, hm5, hy5, dps.mono (by omega), by omega, PA5⟩ (fun j σ H' _ ⟨_, _, _, _, _, _, h, _⟩ => .inl (.inl h)) ?_ ?_⟩
        · rintro j x σ H6 hx ⟨y4, y7, qs, u6, r6, rfl, hl6, hm6, hy6, dqs, hu6, PA6⟩
          rw [List.getElem?_map] at hx
          obtain ⟨z, hz, rfl⟩ : ∃ z, ws[j]? = some z ∧ x = V.str z := by
            cases e : ws[j]? with
            | none => rw [e] at hx; cases hx
            | some z => rw [e] at hx; exact ⟨z, rfl, (Option.some.inj hx).symm⟩
          have hzw : z ∈ ws := List.mem_of_getElem? hz
          have hj : j < ws.length := (List.getElem?_eq_some_iff.mp hz).1
          refine seq_step (fun σ' H' => ∃ (st u' r' : Int), σ' = [some (.ref a), some (.ref p), some (.int (0 + (i : Int))), some (.ref l), some (.str z), some (.ref m0), some (.ref y0), some (.int st), x8, x9, x10, x11, x12, x13, x14, x15] ∧ st.natAbs ≤ 10 ^ 20 ∧ H' l = some (.lst (ws.map V.str)) ∧ H' m0 = some (.dK (cD ps)) ∧ H' y0 = some (.dK (cD qs)) ∧ u' ≤ u6 + 2 ∧ PenAt H' p c ns u' r') (fun R hR => ?_) (fun σ7 H7 h7 => ?_)
          · refine ⟨_, rfl, _, rfl, _, _, rfl, rfl, ⟨by decide, by decide, by decide⟩, by show 6 ≤ sizeLine; decide, fun L hL => ?_⟩
            have sl := same_new (o := .lst [.int 0, .int 0, .int 1, .int 1, .int (-1), .int (10 ^ (20 : Int).toNat)]) hL
            refine ⟨p, c, .ref L, ns, u6, r6, rfl, PA6.same sl, by omega, .inl ⟨L, _, rfl, upd_same, by show 0 < 6; decide, by show 6 ≤ 1000; decide, fun v u7 r7 H7 hm hu7 PA7 keep7 => ?_⟩⟩
            obtain ⟨st, rfl, hst⟩ : ∃ st : Int, v = .int st ∧ st.natAbs ≤ 10 ^ 20 := by
              simp only [List.mem_cons, List.not_mem_nil, or_false] at hm
              rcases hm with h | h | h | h | h | h <;> exact ⟨_, h, by decide⟩
            refine ⟨_, rfl, p, c, ns, u7, r7, 2, rfl, PA7, by omega, by decide, by decide, fun d u8 r8 H8 d0 d1 hu8 PA8 keep8 => ?_⟩
            have keep : SameP p H6 H8 := (SameP.of sl).trans (keep7.trans keep8)
            refine ⟨_, _, rfl, rfl, .inr ⟨by omega, by omega⟩, hR _ _ ⟨st * d, u8, r8, rfl, ?_, keep _ _ hl6 nlp, keep _ _ hm6 nmp, keep _ _ hy6 nyp, by omega, PA8⟩⟩
            have : d = 0 ∨ d = 1 := by omega
            rcases this with rfl | rfl
            · rw [Int.mul_zero]
              decide
            · rw [Int.mul_one]
              exact hst
          obtain ⟨st, u7, r7, rfl, hst, hl7, hm7, hy7, hu7, PA7⟩ := h7
          have hctz := dqs.ct (by omega) z
          refine ⟨_, rfl, y0, rfl, .inl ⟨_, .inl hy7⟩, _, rfl, _, dget_ct hy7, _, rfl, _, _, getD_ct, rfl, _, rfl, _, rfl, _, _, rfl, dput_ct hy7 (Nat.le_trans dqs.few (by decide)), ?_⟩
          have hw100 : ws.length ≤ 100 := by omega
          refine ⟨_, _, putI qs z (ct qs z + st), u7, r7, rfl, by rw [upd_ne nly]; exact hl7, by rw [upd_ne nym.symm]; exact hm7, upd_same, ds_put (dqs.mono (by omega)) hzw (by omega) hw100, by omega, PA7.upd nyp ?_⟩
          exact (ne_of PA7.cl hy7 fun z => nomatch z).symm
        · rintro σ H6 ⟨y4, y7, qs, u6, r6, rfl, hl6, hm6, hy6, dqs, hu6, PA6⟩
          rw [List.length_map] at hu6 dqs
          exact hR _ _ ⟨y4, y7, qs, u6, r6, rfl, hl6, hm6, hy6, dqs.mono (by omega), by omega, PA6⟩
      obtain ⟨x4, x7, qs0, u6, r6, rfl, hl6, hm6, hy6, dqs0, hu6, PA6⟩ := h6
      -- yours anew
      refine seq_step (fun σ' H' => ∃ (y1 : Addr) (qs : List (Str × Int)) (u' r' : Int), σ' = [some (.ref a), some (.ref p), some (.int (0 + (i : Int))), some (.ref l), x4, some (.ref m0), some (.ref y1), x7, x8, x9, x10, x11, x12, x13, x14, x15] ∧ H' l = some (.lst (ws.map V.str)) ∧ H' m0 = some (.dK (cD ps)) ∧ H' y1 = some (.dK (cD qs)) ∧ Ds ws (10 ^ 31) qs ∧ u' ≤ u + 428 ∧ PenAt H' p c ns u' r') (fun R hR => ?_) (fun σ7 H7 h7 => ?_)
      · refine ⟨_, rfl, p, c, ns, u6, r6, 4, rfl, PA6, by omega, by decide, by decide, fun d u5 r5 H5 d0 d1 hu5 PA5 keep5 => ?_⟩
        have hl5 := keep5 _ _ hl6 nlp
        have hm5 := keep5 _ _ hm6 nmp
        refine ⟨rfl, _, rfl, ifd (fun _ => ?_) (fun _ => hR _ _ ⟨y0, qs0, u5, r5, rfl, hl5, hm5, keep5 _ _ hy6 nyp, dqs0, by omega, PA5⟩)⟩
        refine ⟨_, rfl, l, rfl, ⟨_, .inl (.inl hl5)⟩, fun D hD => ?_⟩
        have nDp := PA5.nd hD
        have nDc := PA5.nc hD
        have nlD : l ≠ D := ne_of_none hl5 hD
        have nmD : m0 ≠ D := ne_of_none hm5 hD
        refine lc_it (walk_list (xs := ws.map V.str)) (fun j H' => ∃ (ts : List Addr) (qs : List (Str × Int)) (u' r' : Int), PenAt H' p c ns u' r' ∧ u' ≤ u5 + 40 * j ∧ H' l = some (.lst (ws.map V.str)) ∧ H' m0 = some (.dK (cD ps)) ∧ H' D = some (.lst (ts.map V.ref)) ∧ TupsAt H' ts qs ∧ qs.length ≤ j ∧ ∀ q ∈ qs, q.1 ∈ ws ∧ q.2.natAbs < 10 ^ 30)
          ⟨[], [], u5, r5, PA5.upd nDp nDc, by omega, by rw [upd_ne nlD]; exact hl5, by rw [upd_ne nmD]; exact hm5, upd_same, .nil, Nat.le_refl _, fun _ h => nomatch h⟩ (fun j H' _ ⟨_, _, _, _, _, _, h, _⟩ => .inl (.inl h)) ?_ ?_
        · rintro j x H8 H9 hj ⟨ts, qs, u8, r8, PA8, hu8, hl8, hm8, eD, hts, hq1, hq2⟩ ⟨rfl, hx⟩
          rw [List.getElem?_map] at hx
          obtain ⟨z, hz, rfl⟩ : ∃ z, ws[j]? = some z ∧ x = V.str z := by
            cases e : ws[j]? with
            | none => rw [e] at hx; cases hx
            | some z => rw [e] at hx; exact ⟨z, rfl, (Option.some.inj hx).symm⟩
          have hzw : z ∈ ws := List.mem_of_getElem? hz
          rw [List.length_map] at hj
          have hlen : ts.length = qs.length := hts.length
          refine ⟨rfl, _, rfl, _, rfl, p, c, ns, u8, r8, rfl, PA8, by omega, fun e u9 r9 H9 he hu9 PA9 keep => ?_⟩
          refine ⟨by show 2 ≤ sizeLine; decide, fun T hT => ?_⟩
          have eD9 : H9 D = some (.lst (ts.map V.ref)) := keep _ _ eD nDp
          have nTD : D ≠ T := ne_of_none eD9 hT
          have nTp := PA9.nd hT
          have nTc := PA9.nc hT
          have hl9 : H9 l = some (.lst (ws.map V.str)) := keep _ _ hl8 nlp
          have hm9 := keep _ _ hm8 nmp
          have nlT : l ≠ T := ne_of_none hl9 hT
          have nmT : m0 ≠ T := ne_of_none hm9 hT
          refine ⟨_, by rw [upd_ne nTD]; exact eD9, ?_, ts ++ [T], qs ++ [(z, e)], u9, r9, (PA9.upd nTp nTc).upd nDp nDc, by omega, by rw [upd_ne nlD, upd_ne nlT]; exact hl9, by rw [upd_ne nmD, upd_ne nmT]; exact hm9, ?_, ?_, ?_, ?_⟩
          · rw [List.length_map, hlen]
            exact Nat.lt_of_le_of_lt (by omega : _ ≤ 5) (by decide)
          · rw [upd_same, List.map_append]
            rfl
          · refine .snoc (TupsAt.keep hts fun t xs ht => ?_) ?_
            · have h1 := keep.tup PA8 t xs ht
              rw [upd_ne (ne_of h1 eD9 fun z => nomatch z), upd_ne (ne_of_none h1 hT)]
              exact h1
            · rw [upd_ne nTD.symm, upd_same]
          · rw [List.length_append]
            show _ + 1 ≤ _
            omega
          · intro q hq
            rcases List.mem_append.mp hq with h | h
            · exact hq2 q h
            · rw [List.mem_singleton.mp h]
              exact ⟨hzw, he⟩
        · rintro H8 ⟨ts, qs, u8, r8, PA8, hu8, hl8, hm8, eD, hts, hq1, hq2⟩
          rw [List.length_map] at hu8 hq1
          refine ⟨D, ts, cD qs, rfl, .inl (.inl eD), TupsAt.cD hts, fun y1 hy1 => ?_⟩
          have e0 : mergeK [] (cD qs) = cD (mrg [] qs) := mergeK_cD qs []
          rw [e0]
          exact hR _ _ ⟨y1, mrg [] qs, u8, r8, rfl, by rw [upd_ne (ne_of_none hl8 hy1)]; exact hl8, by rw [upd_ne (ne_of_none hm8 hy1)]; exact hm8, upd_same, (ds_mrg hq2 (by omega)).mono (by omega), by omega, PA8.upd (PA8.nd hy1) (PA8.nc hy1)⟩
      obtain ⟨y1, qs, u7, r7, rfl, hl7, hm7, hy7, dqs, hu7, PA7⟩ := h7
      clear hl6 hm6 hy6 dqs0 PA6 hy5 hm5 hl5 PA5 hl4 hm4 PA4 hl3 PA3 nly
      have dwd : ∀ {b : Nat} {ks : List (Str × Int)}, Ds ws b ks → ∀ q ∈ ks, wordB q.1 = true := fun d q hq => (hws _ (d.sub _ (List.mem_map.mpr ⟨q, hq, rfl⟩))).word
      -- one, other
      refine seq_step (fun σ' H' => ∃ (o1 o2 : Addr) (as bs : List (Str × Int)), σ' = [some (.ref a), some (.ref p), some (.int (0 + (i : Int))), some (.ref l), x4, some (.ref m0), some (.ref y1), x7, some (.ref o1), some (.ref o2), x10, x11, x12, x13, x14, x15] ∧ Same H7 H' ∧ LoadAt C H' o1 as ∧ LoadAt C H' o2 bs ∧ (∀ z, ct as z = ct ps z) ∧ ∀ z, ct bs z = ct qs z) (fun R hR => ?_) (fun σ8 H8 h8 => ?_)
      · refine ⟨rfl, _, rfl, _, m0, ps, rfl, ⟨hm7, dps.nd, Nat.le_trans dps.few (by decide), dwd dps⟩, fun H8 o1 as same8 _ ha hca => ?_⟩
        refine ⟨rfl, _, rfl, _, y1, qs, rfl, ⟨same8 _ _ hy7, dqs.nd, Nat.le_trans dqs.few (by decide), dwd dqs⟩, fun H9 o2 bs same9 _ hb hcb => ?_⟩
        exact ⟨_, _, rfl, hR _ _ ⟨o1, o2, as, bs, rfl, same8.trans same9, ha.same same9, hb, hca, hcb⟩⟩
      obtain ⟨o1, o2, as, bs, rfl, same8, ha8, hb8, hca, hcb⟩ := h8
      have hl8 := same8 _ _ hl7
      have hm8 := same8 _ _ hm7
      have hy8 := same8 _ _ hy7
      -- gaps
      refine seq_step (fun σ' H' => ∃ (g : Addr), σ' = [some (.ref a), some (.ref p), some (.int (0 + (i : Int))), some (.ref l), x4, some (.ref m0), some (.ref y1), x7, some (.ref o1), some (.ref o2), some (.ref g), x11, x12, x13, x14, x15] ∧ Same H8 H' ∧ H' g = some (.lst ((ws.map fun z => ct qs z - ct ps z).map V.int))) (fun R hR => ?_) (fun σ9 H9 h9 => ?_)
      · refine ⟨_, rfl, l, rfl, ⟨_, .inl (.inl hl8)⟩, fun D hD => ?_⟩
        refine lc_it (walk_list (xs := ws.map V.str)) (fun j H' => Same H8 H' ∧ H' D = some (.lst (((ws.take j).map fun z => ct qs z - ct ps z).map V.int)))
          ⟨same_new hD, upd_same⟩ (fun j H' _ h => .inl (.inl (h.1 _ _ hl8))) ?_ ?_
        · rintro j x H5 H6 hj ⟨same, eD⟩ ⟨rfl, hx⟩
          rw [List.getElem?_map] at hx
          obtain ⟨z, hz, rfl⟩ : ∃ z, ws[j]? = some z ∧ x = V.str z := by
            cases e : ws[j]? with
            | none => rw [e] at hx; cases hx
            | some z => rw [e] at hx; exact ⟨z, rfl, (Option.some.inj hx).symm⟩
          have hy6 := same _ _ hy8
          have hm6 := same _ _ hm8
          refine ⟨rfl, _, rfl, y1, rfl, .inl ⟨_, .inl hy6⟩, _, rfl, _, dget_ct hy6, _, rfl, m0, rfl, .inl ⟨_, .inl hm6⟩, _, rfl, _, dget_ct hm6, _, _, getD_ct, getD_ct, _, eD, ?_, ?_, ?_⟩
          · rw [List.length_map, List.length_map, List.length_take]
            exact Nat.lt_of_le_of_lt (by omega : _ ≤ 5) (by decide)
          · intro b o eb
            rw [upd_ne (ne_of_none eb hD)]
            exact same _ _ eb
          · rw [upd_same, List.take_add_one, hz, List.map_append, List.map_append]
            rfl
        · rintro H5 ⟨same, eD⟩
          rw [List.length_map, List.take_of_length_le (Nat.le_refl _)] at eD
          exact hR _ _ ⟨D, rfl, same, eD⟩
      obtain ⟨g, rfl, same9, hg9⟩ := h9
      have ha9 := ha8.same same9
      have hb9 := hb8.same same9
      have hm9 := same9 _ _ hm8
      have hz5 : ((ws.map fun z => ct qs z - ct ps z).map V.int).length ≤ 5 := by rw [List.length_map, List.length_map]; exact hw5
      -- least, most
      refine seq_step (fun σ' H' => ∃ (n1 n2 : Int), σ' = [some (.ref a), some (.ref p), some (.int (0 + (i : Int))), some (.ref l), x4, some (.ref m0), some (.ref y1), x7, some (.ref o1), some (.ref o2), some (.ref g), some (.int n1), some (.int n2), x13, x14, x15] ∧ Same H9 H' ∧ n1 ∈ (ws.map fun z => ct qs z - ct ps z) ++ [0] ∧ (∀ y ∈ (ws.map fun z => ct qs z - ct ps z) ++ [0], n1 ≤ y) ∧ n2 ∈ (ws.map fun z => ct qs z - ct ps z) ++ [0] ∧ ∀ y ∈ (ws.map fun z => ct qs z - ct ps z) ++ [0], y ≤ n2) (fun R hR => ?_) (fun σ10 H10 h10 => ?_)
      · skip
        refine ⟨_, rfl, by show 1 ≤ sizeLine; decide, fun b hb => ⟨g, b, _, _, rfl, rfl, by rw [upd_ne (ne_of_none ((Same.refl H9) _ _ hg9) hb)]; exact (Same.refl H9) _ _ hg9, upd_same, Nat.le_trans (Nat.add_le_add_right hz5 1) (by decide : 5 + 1 ≤ sizeLine), fun q' hq' => ⟨q', rfl, ⟨_, .inl (.inl upd_same)⟩, fun D hD => ?_⟩⟩⟩
        have sb := (Same.refl H9).trans ((same_new (o := .lst [.int 0]) hb).trans (same_new (o := .lst ((ws.map fun z => ct qs z - ct ps z).map V.int ++ [.int 0])) hq'))
        have nqD : q' ≠ D := ne_of_none upd_same hD
        refine lc_it (walk_list (xs := (ws.map fun z => ct qs z - ct ps z).map V.int ++ [.int 0])) (fun j H' => Same H9 H' ∧ H' q' = some (.lst ((ws.map fun z => ct qs z - ct ps z).map V.int ++ [.int 0])) ∧ H' D = some (.lst ((((ws.map fun z => ct qs z - ct ps z) ++ [0]).take j).map V.int)))
          ⟨sb.trans (same_new hD), by rw [upd_ne nqD]; exact upd_same, upd_same⟩ (fun j H' _ h => .inl (.inl h.2.1)) ?_ ?_
        · rintro j x H5 H6 hj ⟨same, eq, eD⟩ ⟨rfl, hx⟩
          have eL : (ws.map fun z => ct qs z - ct ps z).map V.int ++ [.int 0] = ((ws.map fun z => ct qs z - ct ps z) ++ [0]).map V.int := by
            rw [List.map_append]
            rfl
          rw [eL, List.getElem?_map] at hx
          obtain ⟨z, hz, rfl⟩ : ∃ z, ((ws.map fun z => ct qs z - ct ps z) ++ [0])[j]? = some z ∧ x = V.int z := by
            cases e : ((ws.map fun z => ct qs z - ct ps z) ++ [0])[j]? with
            | none => rw [e] at hx; cases hx
            | some z => rw [e] at hx; exact ⟨z, rfl, (Option.some.inj hx).symm⟩
          refine ⟨rfl, _, rfl, .inl ⟨_, rfl, _, eD, ?_, ?_, ?_, ?_⟩⟩
          · rw [List.length_map, List.length_take]
            rw [List.length_append, List.length_singleton] at hj
            exact Nat.lt_of_le_of_lt (by omega : _ ≤ 6) (by decide)
          · intro b o eb
            rw [upd_ne (ne_of_none (sb _ _ eb) hD)]
            exact same _ _ eb
          · rw [upd_ne nqD]
            exact eq
          · rw [upd_same, List.take_add_one, hz, List.map_append]
            rfl
        · rintro H5 ⟨same, eq, eD⟩
          rw [List.take_of_length_le (by simp)] at eD
          refine ⟨D, _, rfl, .inl (.inl eD), by rw [List.length_append]; exact Nat.succ_pos _, fun n1 k1 k2 => ?_⟩
          refine ⟨_, rfl, by show 1 ≤ sizeLine; decide, fun b hb2 => ⟨g, b, _, _, rfl, rfl, by rw [upd_ne (ne_of_none (same _ _ hg9) hb2)]; exact same _ _ hg9, upd_same, Nat.le_trans (Nat.add_le_add_right hz5 1) (by decide : 5 + 1 ≤ sizeLine), fun q2 hq2 => ⟨q2, rfl, ⟨_, .inl (.inl upd_same)⟩, fun D2 hD2 => ?_⟩⟩⟩
          have sb := same.trans ((same_new (o := .lst [.int 0]) hb2).trans (same_new (o := .lst ((ws.map fun z => ct qs z - ct ps z).map V.int ++ [.int 0])) hq2))
          have nqE : q2 ≠ D2 := ne_of_none upd_same hD2
          refine lc_it (walk_list (xs := (ws.map fun z => ct qs z - ct ps z).map V.int ++ [.int 0])) (fun j H' => Same H9 H' ∧ H' q2 = some (.lst ((ws.map fun z => ct qs z - ct ps z).map V.int ++ [.int 0])) ∧ H' D2 = some (.lst ((((ws.map fun z => ct qs z - ct ps z) ++ [0]).take j).map V.int)))
            ⟨sb.trans (same_new hD2), by rw [upd_ne nqE]; exact upd_same, upd_same⟩ (fun j H' _ h => .inl (.inl h.2.1)) ?_ ?_
          · rintro j x H5b H6 hj ⟨same, eq, eD⟩ ⟨rfl, hx⟩
            have eL : (ws.map fun z => ct qs z - ct ps z).map V.int ++ [.int 0] = ((ws.map fun z => ct qs z - ct ps z) ++ [0]).map V.int := by
              rw [List.map_append]
              rfl
            rw [eL, List.getElem?_map] at hx
            obtain ⟨z, hz, rfl⟩ : ∃ z, ((ws.map fun z => ct qs z - ct ps z) ++ [0])[j]? = some z ∧ x = V.int z := by
              cases e : ((ws.map fun z => ct qs z - ct ps z) ++ [0])[j]? with
              | none => rw [e] at hx; cases hx
              | some z => rw [e] at hx; exact ⟨z, rfl, (Option.some.inj hx).symm⟩
            refine ⟨rfl, _, rfl, .inl ⟨_, rfl, _, eD, ?_, ?_, ?_, ?_⟩⟩
            · rw [List.length_map, List.length_take]
              rw [List.length_append, List.length_singleton] at hj
              exact Nat.lt_of_le_of_lt (by omega : _ ≤ 6) (by decide)
            · intro b o eb
              rw [upd_ne (ne_of_none (sb _ _ eb) hD2)]
              exact same _ _ eb
            · rw [upd_ne nqE]
              exact eq
            · rw [upd_same, List.take_add_one, hz, List.map_append]
              rfl
          · rintro H5b ⟨same, eq, eD⟩
            rw [List.take_of_length_le (by simp)] at eD
            refine ⟨D2, _, rfl, .inl (.inl eD), by rw [List.length_append]; exact Nat.succ_pos _, fun n2 k3 k4 => ?_⟩
            exact ⟨_, _, rfl, hR _ _ ⟨n1, n2, rfl, same, k1, k2, k3, k4⟩⟩
      obtain ⟨n1, n2, rfl, same10, k1, k2, k3, k4⟩ := h10
      have ha10 := ha9.same same10
      have hb10 := hb9.same same10
      have hm10 := same10 _ _ hm9
      have cA : Can as := by obtain ⟨_, _, _, _, c⟩ := ha10; exact c
      have cB : Can bs := by obtain ⟨_, _, _, _, c⟩ := hb10; exact c
      have eL : leB as bs = decide (n1 = 0) := leB_gaps hca hcb dps.sub dqs.sub k1 k2
      have eM : leB bs as = decide (n2 = 0) := leB_gaps2 hca hcb dps.sub dqs.sub k3 k4
      have eE : decide (as = bs) = (decide (n1 = 0) && decide (n2 = 0)) := by rw [eq_le cA cB, eL, eM]
      have eF : decide (bs = as) = (decide (n1 = 0) && decide (n2 = 0)) := by rw [eq_le cB cA, eL, eM, Bool.and_comm]
      have v1 : decide (V.int n1 = V.int 0) = decide (n1 = 0) := decide_eq_decide.mpr ⟨V.int.inj, fun e => by rw [e]⟩
      have v2 : decide (V.int n2 = V.int 0) = decide (n2 = 0) := decide_eq_decide.mpr ⟨V.int.inj, fun e => by rw [e]⟩
      generalize decide (n1 = 0) = bl at eL eE eF v1
      generalize decide (n2 = 0) = bm at eM eE eF v2
      -- is_same
      refine seq_step (fun σ' H' => σ' = [some (.ref a), some (.ref p), some (.int (0 + (i : Int))), some (.ref l), x4, some (.ref m0), some (.ref y1), x7, some (.ref o1), some (.ref o2), some (.ref g), some (.int n1), some (.int n2), some (.bl (bl && bm)), x14, x15] ∧ H' = H10) (fun R hR => ?_) (fun σ11 H11 h11 => ?_)
      · refine ⟨_, rfl, rfl, _, rfl, ?_⟩
        rw [v1]
        cases bl with
        | true => exact iteT ⟨_, rfl, rfl, by rw [v2]; exact hR _ _ ⟨rfl, rfl⟩⟩
        | false => exact iteF (hR _ _ ⟨rfl, rfl⟩)
      obtain ⟨rfl, rfl⟩ := h11
      -- due
      refine seq_step (fun σ' H' => ∃ (d : Addr), σ' = [some (.ref a), some (.ref p), some (.int (0 + (i : Int))), some (.ref l), x4, some (.ref m0), some (.ref y1), x7, some (.ref o1), some (.ref o2), some (.ref g), some (.int n1), some (.int n2), some (.bl (bl && bm)), some (.ref d), x15] ∧ Same H11 H' ∧ H' d = some (.lst [.bl (bl && bm), .bl (!(bl && bm)), .bl bl, .bl (bl && !(bl && bm)), .bl bm, .bl (bm && !(bl && bm))])) (fun R hR => ?_) (fun σ12 H12 h12 => ?_)
      · refine ⟨_, rfl, _, rfl, _, rfl, _, rfl, rfl, _, rfl, rfl, _, rfl, ?_⟩
        rw [v1]
        have fin : ∀ d, H11 d = none → R [some (.ref a), some (.ref p), some (.int (0 + (i : Int))), some (.ref l), x4, some (.ref m0), some (.ref y1), x7, some (.ref o1), some (.ref o2), some (.ref g), some (.int n1), some (.int n2), some (.bl (bl && bm)), some (.ref d), x15] (upd H11 d (.lst [.bl (bl && bm), .bl (!(bl && bm)), .bl bl, .bl (bl && !(bl && bm)), .bl bm, .bl (bm && !(bl && bm))])) := fun d hd => hR _ _ ⟨d, rfl, same_new hd, upd_same⟩
        cases bl with
        | true =>
          refine iteT ⟨_, rfl, _, rfl, _, rfl, rfl, _, rfl, rfl, _, rfl, ?_⟩
          rw [v2]
          cases bm with
          | true => exact iteT ⟨_, rfl, _, rfl, by show 6 ≤ sizeLine; decide, fun d hd => fin d hd⟩
          | false => exact iteF ⟨by show 6 ≤ sizeLine; decide, fun d hd => fin d hd⟩
        | false =>
          refine iteF ⟨_, rfl, rfl, _, rfl, rfl, _, rfl, ?_⟩
          rw [v2]
          cases bm with
          | true => exact iteT ⟨_, rfl, _, rfl, by show 6 ≤ sizeLine; decide, fun d hd => fin d hd⟩
          | false => exact iteF ⟨by show 6 ≤ sizeLine; decide, fun d hd => fin d hd⟩
      obtain ⟨d, rfl, same12, hd12⟩ := h12
      have ha12 := ha10.same same12
      have hb12 := hb10.same same12
      have hm12 := same12 _ _ hm10
      have LA : ∀ {H' : Hp}, Same H12 H' → ∃ dx fs, H' o1 = some (.ins C dx fs) ∧ fs.lookup ("text" : Str) = none := fun s => by
        obtain ⟨dx, tx, h1, _, _⟩ := ha12.same s
        exact ⟨dx, _, h1, rfl⟩
      have no : ∀ b : Bool, !(b && b) = !b := fun b => by cases b <;> rfl
      -- the six answers
      refine seq_step (fun σ' H' => σ' = [some (.ref a), some (.ref p), some (.int (0 + (i : Int))), some (.ref l), x4, some (.ref m0), some (.ref y1), x7, some (.ref o1), some (.ref o2), some (.ref g), some (.int n1), some (.int n2), some (.bl (bl && bm)), some (.ref d), x15] ∧ Same H12 H') (fun R hR => ?_) (fun σ13 H13 h13 => ?_)
      · have dp : ∀ {Hx : Hp} {q : Addr} (bs : List Bool), Hx q = some (.lst (bs.map V.bl)) → Dp K Hx (.ref q) (.list (bs.map PyData.bool)) := fun bs e => .lst (.inl (.inl e)) (by
          clear e
          induction bs with
          | nil => exact .nil
          | cons b r ih => exact .cons (.bl b) ih)
        obtain ⟨dx, fs, h1, _⟩ := LA (Same.refl H12)
        refine ⟨_, rfl, _, rfl, o1, dx, fs, _, rfl, h1, hb12.ty T.c S, nf_self, o1, .ref o2, as, rfl, ha12, .inl ⟨o2, bs, rfl, hb12, ?_⟩⟩
        refine ⟨_, rfl, _, rfl, o1, dx, fs, _, rfl, h1, hb12.ty T.c S, nf_self, o1, .ref o2, as, rfl, ha12, .inl ⟨o2, bs, rfl, hb12, _, rfl, ?_⟩⟩
        refine ⟨_, rfl, _, rfl, o1, dx, fs, _, rfl, h1, hb12.ty T.c S, nf_self, o1, o2, as, bs, rfl, ha12, hb12, fun H1 s1 => ?_⟩
        obtain ⟨dx, fs, h1, _⟩ := LA s1
        refine ⟨_, rfl, _, rfl, o1, dx, fs, _, rfl, h1, (hb12.same s1).ty T.c S, nf_self, o1, o2, as, bs, rfl, ha12.same s1, hb12.same s1, fun H2 s2 => ?_⟩
        obtain ⟨dx, fs, h1, _⟩ := LA (s1.trans s2)
        refine ⟨_, rfl, _, rfl, o1, dx, fs, _, rfl, h1, (hb12.same (s1.trans s2)).ty T.c S, nf_self, o1, o2, as, bs, rfl, ha12.same (s1.trans s2), hb12.same (s1.trans s2), fun H3 s3 => ?_⟩
        obtain ⟨dx, fs, h1, _⟩ := LA ((s1.trans s2).trans s3)
        refine ⟨_, rfl, _, rfl, o1, dx, fs, _, rfl, h1, (hb12.same ((s1.trans s2).trans s3)).ty T.c S, nf_self, o1, o2, as, bs, rfl, ha12.same ((s1.trans s2).trans s3), hb12.same ((s1.trans s2).trans s3), fun H4 s4 => ?_⟩
        rw [eE, eF, eL, eM]
        refine ⟨by show 6 ≤ sizeLine; decide, fun q hq => ?_⟩
        have sq := ((s1.trans s2).trans s3).trans (s4.trans (same_new (o := .lst [.bl (bl && bm), .bl (!(bl && bm)), .bl bl, .bl (bl && !(bl && bm)), .bl bm, .bl (bm && !(bl && bm))]) hq))
        have k6 : ∀ x y : Bool, (PyData.list ([x && y, !(x && y), x, x && !(x && y), y, y && !(x && y)].map PyData.bool)).showable = true ∧ (PyData.list ([x && y, !(x && y), x, x && !(x && y), y, y && !(x && y)].map PyData.bool)).depth ≤ 60 ∧ (PyData.list ([x && y, !(x && y), x, x && !(x && y), y, y && !(x && y)].map PyData.bool)).shown.length ≤ sizeLine := by
          intro x y
          cases x <;> cases y <;> exact ⟨by decide +kernel, by decide +kernel, by decide +kernel⟩
        obtain ⟨k61, k62, k63⟩ := k6 bl bm
        refine ⟨_, _, rfl, .inl (dp [bl && bm, !(bl && bm), bl, bl && !(bl && bm), bm, bm && !(bl && bm)] upd_same), k61, k62, k63, _, rfl, _, _, rfl, .inl (dp [bl && bm, !(bl && bm), bl, bl && !(bl && bm), bm, bm && !(bl && bm)] (sq _ _ hd12)), k61, k62, k63, rfl, _, rfl, ?_⟩
        rw [decide_eq_true rfl]
        exact iteF (hR _ _ ⟨rfl, sq⟩)
      obtain ⟨rfl, same13⟩ := h13
      have ha13 := ha12.same same13
      have hm13 := same13 _ _ hm12
      have LB : ∀ {H' : Hp}, Same H13 H' → ∃ dx fs, H' o1 = some (.ins C dx fs) ∧ fs.lookup ("text" : Str) = none := fun s => LA (same13.trans s)
      -- other values
      refine seq_step (fun σ' H' => σ' = [some (.ref a), some (.ref p), some (.int (0 + (i : Int))), some (.ref l), x4, some (.ref m0), some (.ref y1), x7, some (.ref o1), some (.ref o2), some (.ref g), some (.int n1), some (.int n2), some (.bl (bl && bm)), some (.ref d), x15] ∧ Same H13 H') (fun R hR => ?_) (fun σ14 H14 h14 => ?_)
      · obtain ⟨dx, fs, h1, _⟩ := LB (Same.refl H13)
        refine ⟨_, rfl, _, rfl, o1, dx, fs, rfl, h1, o1, as, rfl, ha13, fun p1 hp1 => ?_⟩
        have s1 := same_new (o := .dK (cD as)) hp1
        refine ⟨o1, dx, fs, _, rfl, s1 _ _ h1, .base (.dK upd_same), nf_no mroDict, o1, .ref p1, as, rfl, ha13.same s1, .inr ⟨_, .base (.dK upd_same), kit_no L.O mroDict, _, rfl, iteF ?_⟩⟩
        generalize upd H13 p1 (.dK (cD as)) = H5 at s1
        obtain ⟨dx, fs, h1, hx1⟩ := LB s1
        have ha5 := ha13.same s1
        refine ⟨_, rfl, _, rfl, o1, dx, fs, rfl, h1, hx1, o1, as, rfl, ha5, ?_, fun z H6 s2 => ?_⟩
        · intro q hq
          have h1 : ct as q.1 = q.2 := ct_mem cA.nd hq
          have h2 := dps.ct (by decide) q.1
          rw [← h1, hca]
          exact Nat.lt_trans h2 (by decide)
        have s12 := s1.trans s2
        obtain ⟨dx, fs, h1, _⟩ := LB s12
        have ha6 := ha13.same s12
        refine ⟨o1, dx, fs, _, rfl, h1, .base (.str z), nf_no mroStr, o1, .str z, as, rfl, ha6, .inr ⟨_, .base (.str z), kit_no L.O mroStr, _, rfl, iteF ?_⟩⟩
        refine ⟨_, rfl, o1, dx, fs, _, rfl, h1, .base .non, nf_no mroNon, o1, .non, as, rfl, ha6, .inr ⟨_, .base .non, kit_no L.O mroNon, _, rfl, iteF ?_⟩⟩
        refine ⟨_, rfl, o1, dx, fs, _, rfl, h1, .base (.int 0), nf_no mroInt, o1, .int 0, as, rfl, ha6, .inr ⟨_, .base (.int 0), kit_no L.O mroInt, _, rfl, iteF ?_⟩⟩
        refine ⟨_, rfl, _, rfl, by show 1 ≤ sizeLine; decide, fun p2 hp2 => ?_⟩
        have s3 := s12.trans (same_new (o := .tup [.ref o1]) hp2)
        obtain ⟨dx, fs, h1, _⟩ := LB s3
        refine ⟨o1, dx, fs, _, rfl, h1, .base (.tup upd_same), nf_no mroTup, o1, .ref p2, as, rfl, ha13.same s3, .inr ⟨_, .base (.tup upd_same), kit_no L.O mroTup, _, rfl, iteF ?_⟩⟩
        generalize upd H6 p2 (.tup [.ref o1]) = H7' at s3
        refine ⟨_, rfl, _, rfl, by show 1 ≤ sizeLine; decide, fun p3 hp3 => ?_⟩
        have s4 := s3.trans (same_new (o := .lst [.ref o1]) hp3)
        obtain ⟨dx, fs, h1, _⟩ := LB s4
        refine ⟨o1, dx, fs, _, rfl, h1, .base (.lst upd_same), nf_no mroLst, o1, .ref p3, as, rfl, ha13.same s4, .inr ⟨_, .base (.lst upd_same), kit_no L.O mroLst, _, rfl, _, rfl, iteF (hR _ _ ⟨rfl, s4⟩)⟩⟩
      obtain ⟨rfl, same14⟩ := h14
      have ha14 := ha13.same same14
      have hm14 := same14 _ _ hm13
      have LC : ∀ {H' : Hp}, Same H14 H' → ∃ dx fs, H' o1 = some (.ins C dx fs) := fun s => by
        obtain ⟨dx, fs, h, _⟩ := LB (same14.trans s)
        exact ⟨dx, fs, h⟩
      have PA14 : PenAt H14 p c ns u7 r7 := PA7.same ((((((same8.trans same9).trans same10).trans same12).trans same13)).trans same14)
      refine ⟨_, rfl, rfl, _, rfl, _, m0, ps, rfl, ⟨hm14, dps.nd, Nat.le_trans dps.few (by decide), dwd dps⟩, fun H15 o3 cs same15 _ hc15 hcc => ?_⟩
      obtain ⟨dx, fs, h1⟩ := LC same15
      have ha15 := ha14.same same15
      have cC : Can cs := by obtain ⟨_, _, _, _, c⟩ := hc15; exact c
      have eAC : decide (as = cs) = true := decide_eq_true (can_eq cA cC fun z => by rw [hca, hcc])
      refine ⟨o1, dx, fs, _, rfl, h1, hc15.ty T.c S, nf_self, o1, .ref o3, as, rfl, ha15, .inl ⟨o3, cs, rfl, hc15, _, rfl, ?_⟩⟩
      rw [eAC]
      have lAA : leB as as = true := leB_iff.mpr fun z => Int.le_refl _
      refine iteF ⟨_, rfl, _, rfl, o1, dx, fs, _, rfl, h1, ha15.ty T.c S, nf_self, o1, o1, as, as, rfl, ha15, ha15, fun H16 s16 => ?_⟩
      rw [lAA]
      obtain ⟨dx, fs, h1⟩ := LC (same15.trans s16)
      have ha16 := ha15.same s16
      refine ⟨_, rfl, iteF ⟨_, rfl, _, rfl, o1, dx, fs, _, rfl, h1, ha16.ty T.c S, nf_self, o1, o1, as, as, rfl, ha16, ha16, fun H17 s17 => ?_⟩⟩
      rw [lAA, decide_eq_true rfl]
      exact ⟨_, rfl, iteF ⟨⟨_, _, _, _, _, _, _, _, _, _, _, _, _, _, rfl⟩, u7, r7, PA14.same ((same15.trans s16).trans s17), by omega⟩⟩
    obtain ⟨x2, x3, x4, x5, x6, x7, x8, x9, x10, x11, x12, x13, x14, x15, rfl⟩ := h2
    -- the return
    have wA : wordB ("a" : Str) = true := by decide +kernel
    have wB : wordB ("b" : Str) = true := by decide +kernel
    have nAB : ¬ ("b" : Str) = "a" := by decide +kernel
    refine ⟨rfl, made_load (y := []) (zs := []) (ps := []) rfl rfl List.nodup_nil (by decide) (fun _ h => nomatch h) fun H3 o1 as same3 _ h1 hc1 => ?_⟩
    refine ⟨rfl, fun p1 hp1 => ⟨upd_same, cD [("a", 0)], rfl, by show 1 ≤ 15; decide, ?_⟩⟩
    have e0 : mergeK [] (cD [("a", 0)]) = cD [("a", 0)] := mergeK_cD [("a", 0)] []
    rw [e0, upd_upd]
    have s1 := same_new (o := .dK (cD [("a", 0)])) hp1
    refine ⟨_, p1, [("a", 0)], rfl, ⟨upd_same, by simp, by decide, fun q hq => by rw [List.mem_singleton.mp hq]; exact wA⟩, fun H4 o2 bs same4 _ h2 hc2 => ?_⟩
    have s14 := s1.trans same4
    have h1' := h1.same s14
    obtain ⟨dx, tx, hx, _, cA⟩ := id h1'
    obtain ⟨_, _, _, _, cB⟩ := id h2
    have e12 : decide (as = bs) = true := decide_eq_true (can_eq cA cB fun z => by
      rw [hc1, hc2]
      by_cases e : z = "a"
      · subst e
        rfl
      · rw [ct_out (by simp), ct_out (by simpa using e)])
    refine ⟨o1, dx, _, _, rfl, hx, h2.ty T.c S, nf_self, o1, .ref o2, as, rfl, h1', .inl ⟨o2, bs, rfl, h2, _, rfl, ?_⟩⟩
    rw [e12]
    refine iteT ?_
    -- Load(a=-1) < Load()
    have ctA : ∀ z, ct [(("a" : Str), (-1 : Int))] z = if z = "a" then -1 else 0 := fun z => by
      by_cases e : z = "a"
      · rw [if_pos e, e]
        rfl
      · rw [if_neg e, ct_out (by simpa using e)]
    have ctB : ∀ z, ct [(("b" : Str), (-1 : Int))] z = if z = "b" then -1 else 0 := fun z => by
      by_cases e : z = "b"
      · rw [if_pos e, e]
        rfl
      · rw [if_neg e, ct_out (by simpa using e)]
    refine ⟨_, rfl, rfl, made_load (y := ["a"]) (zs := [.int (-1)]) (ps := [("a", -1)]) rfl rfl (by simp) (by decide) (fun q hq => by rw [List.mem_singleton.mp hq]; exact wA) fun H5 o3 cs same5 _ h3 hc3 => ?_⟩
    refine ⟨rfl, made_load (y := []) (zs := []) (ps := []) rfl rfl List.nodup_nil (by decide) (fun _ h => nomatch h) fun H6 o4 ds same6 _ h4 hc4 => ?_⟩
    have h3' := h3.same same6
    obtain ⟨dx, tx, hx, _, cC⟩ := id h3'
    have l34 : leB cs ds = true := leB_iff.mpr fun z => by
      rw [hc3, hc4, ctA, ct_out (by simp)]
      split <;> decide
    have n34 : decide (cs = ds) = false := decide_eq_false fun e => by
      have := hc3 "a"
      rw [e, hc4, ctA, if_pos rfl, ct_out (by simp)] at this
      exact absurd this (by decide)
    refine ⟨o3, dx, _, _, rfl, hx, h4.ty T.c S, nf_self, o3, o4, cs, ds, rfl, h3', h4, fun H7 s7 => ⟨_, rfl, ?_⟩⟩
    rw [l34, n34]
    refine iteT ?_
    -- not Load(a=-1) <= Load(b=-1)
    refine ⟨_, rfl, rfl, made_load (y := ["a"]) (zs := [.int (-1)]) (ps := [("a", -1)]) rfl rfl (by simp) (by decide) (fun q hq => by rw [List.mem_singleton.mp hq]; exact wA) fun H8 o5 es same8 _ h5 hc5 => ?_⟩
    refine ⟨_, rfl, rfl, made_load (y := ["b"]) (zs := [.int (-1)]) (ps := [("b", -1)]) rfl rfl (by simp) (by decide) (fun q hq => by rw [List.mem_singleton.mp hq]; exact wB) fun H9 o6 fs same9 _ h6 hc6 => ?_⟩
    have h5' := h5.same same9
    obtain ⟨dx, tx, hx, _, cE⟩ := id h5'
    have l56 : leB es fs = false := by
      cases e : leB es fs with
      | false => rfl
      | true =>
        have := leB_iff.mp e "b"
        rw [hc5, hc6, ctA, ctB, if_neg nAB, if_pos rfl] at this
        exact absurd this (by decide)
    refine ⟨o5, dx, _, _, rfl, hx, h6.ty T.c S, nf_self, o5, o6, es, fs, rfl, h5', h6, fun H7 s7 => ⟨_, rfl, ?_⟩⟩
    rw [l56]
    exact q _
end
end Ld
namespace Ld
open PySem PySem.Spec PyProof.Rows L2
theorem fin_mk {l : PySem.W.OpenLaw} {w : World} {K : PySem.W.Frag} {h : Heap} {mg : Str → Option Value} {fa : Addr} (X : K.In h) (G : h.Ns mainGlobals mg) (hfa : mg "law" = some (.ref fa))
    {g3 g4 g5 g15 g16 g21 g22 g23 g24 g25 g26 g27 g28 C gm0 pO gm1 pP gm4 gm8 gm9 gm19 gm20 gm21 gm22 gm23 : Addr} {od3 an3 od4 an4 od5 an5 od15 an15 od16 an16 od21 an21 od22 an22 od23 an23 od24 an24 od25 an25 od26 an26 od27 an27 od28 an28 odm0 anm0 odm1 anm1 odm4 anm4 odm8 anm8 odm9 anm9 odm19 anm19 odm20 anm20 odm21 anm21 odm22 anm22 odm23 anm23 : Option Addr} {sl3 sl4 sl5 sl15 sl16 sl21 sl22 sl23 sl24 sl25 sl26 sl27 sl28 slm0 slm1 slm4 slm8 slm9 slm19 slm20 slm21 slm22 slm23 : Array (Option Value)} {oc3 kV3 dc3 pm3 cd3 ct3 oc4 kV4 dc4 pm4 cd4 ct4 oc5 kV5 dc5 pm5 cd5 ct5 oc15 kV15 dc15 pm15 cd15 ct15 oc16 kV16 dc16 pm16 cd16 ct16 oc21 kV21 dc21 pm21 cd21 ct21 oc22 kV22 dc22 pm22 cd22 ct22 oc23 kV23 dc23 pm23 cd23 ct23 oc24 kV24 dc24 pm24 cd24 ct24 oc25 kV25 dc25 pm25 cd25 ct25 oc26 kV26 dc26 pm26 cd26 ct26 oc27 kV27 dc27 pm27 cd27 ct27 oc28 kV28 dc28 pm28 cd28 ct28 ocm0 kVm0 dcm0 pmm0 cdm0 ctm0 ocm1 kVm1 dcm1 pmm1 cdm1 ctm1 ocm4 kVm4 dcm4 pmm4 cdm4 ctm4 ocm8 kVm8 dcm8 pmm8 cdm8 ctm8 ocm9 kVm9 dcm9 pmm9 cdm9 ctm9 ocm19 kVm19 dcm19 pmm19 cdm19 ctm19 ocm20 kVm20 dcm20 pmm20 cdm20 ctm20 ocm21 kVm21 dcm21 pmm21 cdm21 ctm21 ocm22 kVm22 dcm22 pmm22 cdm22 ctm22 ocm23 kVm23 dcm23 pmm23 cdm23 ctm23 : Value} {tM tN : Tok} {rO rP : List Value}
    (a3 : PySem.W.nsIn K mainGlobals "is_integer" = some (some (.ref g3)))
    (l3 : K.lookup g3 = some ⟨oc3, od3, .func (PySem.W.fnOf "is_integer" "is_integer" (defArgs (top 3)) (defBody (top 3)) (defScope (top 3)) .none kV3 dc3 pm3 an3 cd3 ct3), sl3⟩)
    (c3 : PySem.W.codeIn K cd3 "is_integer" = true)
    (k3 : PySem.W.keepIn K (.ref g3) = true)
    (a4 : PySem.W.nsIn K mainGlobals "is_word" = some (some (.ref g4)))
    (l4 : K.lookup g4 = some ⟨oc4, od4, .func (PySem.W.fnOf "is_word" "is_word" (defArgs (top 4)) (defBody (top 4)) (defScope (top 4)) .none kV4 dc4 pm4 an4 cd4 ct4), sl4⟩)
    (c4 : PySem.W.codeIn K cd4 "is_word" = true)
    (k4 : PySem.W.keepIn K (.ref g4) = true)
    (a5 : PySem.W.nsIn K mainGlobals "ascending" = some (some (.ref g5)))
    (l5 : K.lookup g5 = some ⟨oc5, od5, .func (PySem.W.fnOf "ascending" "ascending" (defArgs (top 5)) (defBody (top 5)) (defScope (top 5)) .none kV5 dc5 pm5 an5 cd5 ct5), sl5⟩)
    (c5 : PySem.W.codeIn K cd5 "ascending" = true)
    (k5 : PySem.W.keepIn K (.ref g5) = true)
    (a15 : PySem.W.nsIn K mainGlobals "check_counts" = some (some (.ref g15)))
    (l15 : K.lookup g15 = some ⟨oc15, od15, .func (PySem.W.fnOf "check_counts" "check_counts" (defArgs (top 15)) (defBody (top 15)) (defScope (top 15)) .none kV15 dc15 pm15 an15 cd15 ct15), sl15⟩)
    (c15 : PySem.W.codeIn K cd15 "check_counts" = true)
    (k15 : PySem.W.keepIn K (.ref g15) = true)
    (a16 : PySem.W.nsIn K mainGlobals "tidy_counts" = some (some (.ref g16)))
    (l16 : K.lookup g16 = some ⟨oc16, od16, .func (PySem.W.fnOf "tidy_counts" "tidy_counts" (defArgs (top 16)) (defBody (top 16)) (defScope (top 16)) .none kV16 dc16 pm16 an16 cd16 ct16), sl16⟩)
    (c16 : PySem.W.codeIn K cd16 "tidy_counts" = true)
    (k16 : PySem.W.keepIn K (.ref g16) = true)
    (a21 : PySem.W.nsIn K mainGlobals "_law_pen" = some (some (.ref g21)))
    (l21 : K.lookup g21 = some ⟨oc21, od21, .func (PySem.W.fnOf "_law_pen" "_law_pen" (defArgs (top 21)) (defBody (top 21)) (defScope (top 21)) .none kV21 dc21 pm21 an21 cd21 ct21), sl21⟩)
    (c21 : PySem.W.codeIn K cd21 "_law_pen" = true)
    (k21 : PySem.W.keepIn K (.ref g21) = true)
    (a22 : PySem.W.nsIn K mainGlobals "_law_draw" = some (some (.ref g22)))
    (l22 : K.lookup g22 = some ⟨oc22, od22, .func (PySem.W.fnOf "_law_draw" "_law_draw" (defArgs (top 22)) (defBody (top 22)) (defScope (top 22)) .none kV22 dc22 pm22 an22 cd22 ct22), sl22⟩)
    (c22 : PySem.W.codeIn K cd22 "_law_draw" = true)
    (k22 : PySem.W.keepIn K (.ref g22) = true)
    (a23 : PySem.W.nsIn K mainGlobals "_law_pick" = some (some (.ref g23)))
    (l23 : K.lookup g23 = some ⟨oc23, od23, .func (PySem.W.fnOf "_law_pick" "_law_pick" (defArgs (top 23)) (defBody (top 23)) (defScope (top 23)) .none kV23 dc23 pm23 an23 cd23 ct23), sl23⟩)
    (c23 : PySem.W.codeIn K cd23 "_law_pick" = true)
    (k23 : PySem.W.keepIn K (.ref g23) = true)
    (a24 : PySem.W.nsIn K mainGlobals "_law_words" = some (some (.ref g24)))
    (l24 : K.lookup g24 = some ⟨oc24, od24, .func (PySem.W.fnOf "_law_words" "_law_words" (defArgs (top 24)) (defBody (top 24)) (defScope (top 24)) .none kV24 dc24 pm24 an24 cd24 ct24), sl24⟩)
    (c24 : PySem.W.codeIn K cd24 "_law_words" = true)
    (k24 : PySem.W.keepIn K (.ref g24) = true)
    (a25 : PySem.W.nsIn K mainGlobals "_law_great" = some (some (.ref g25)))
    (l25 : K.lookup g25 = some ⟨oc25, od25, .func (PySem.W.fnOf "_law_great" "_law_great" (defArgs (top 25)) (defBody (top 25)) (defScope (top 25)) .none kV25 dc25 pm25 an25 cd25 ct25), sl25⟩)
    (c25 : PySem.W.codeIn K cd25 "_law_great" = true)
    (k25 : PySem.W.keepIn K (.ref g25) = true)
    (a26 : PySem.W.nsIn K mainGlobals "_law_times" = some (some (.ref g26)))
    (l26 : K.lookup g26 = some ⟨oc26, od26, .func (PySem.W.fnOf "_law_times" "_law_times" (defArgs (top 26)) (defBody (top 26)) (defScope (top 26)) .none kV26 dc26 pm26 an26 cd26 ct26), sl26⟩)
    (c26 : PySem.W.codeIn K cd26 "_law_times" = true)
    (k26 : PySem.W.keepIn K (.ref g26) = true)
    (a27 : PySem.W.nsIn K mainGlobals "_law_whole" = some (some (.ref g27)))
    (l27 : K.lookup g27 = some ⟨oc27, od27, .func (PySem.W.fnOf "_law_whole" "_law_whole" (defArgs (top 27)) (defBody (top 27)) (defScope (top 27)) .none kV27 dc27 pm27 an27 cd27 ct27), sl27⟩)
    (c27 : PySem.W.codeIn K cd27 "_law_whole" = true)
    (k27 : PySem.W.keepIn K (.ref g27) = true)
    (a28 : PySem.W.nsIn K mainGlobals "law" = some (some (.ref g28)))
    (l28 : K.lookup g28 = some ⟨oc28, od28, .func (PySem.W.fnOf "law" "law" (defArgs (top 28)) (defBody (top 28)) (defScope (top 28)) .none kV28 dc28 pm28 an28 cd28 ct28), sl28⟩)
    (c28 : PySem.W.codeIn K cd28 "law" = true)
    (k28 : PySem.W.keepIn K (.ref g28) = true)
    (z_int : PySem.W.nsIn K mainGlobals "int" = some none)
    (z_abs : PySem.W.nsIn K mainGlobals "abs" = some none)
    (z_list : PySem.W.nsIn K mainGlobals "list" = some none)
    (z_len : PySem.W.nsIn K mainGlobals "len" = some none)
    (z_range : PySem.W.nsIn K mainGlobals "range" = some none)
    (z_str : PySem.W.nsIn K mainGlobals "str" = some none)
    (z_bool : PySem.W.nsIn K mainGlobals "bool" = some none)
    (z_sorted : PySem.W.nsIn K mainGlobals "sorted" = some none)
    (z_isinstance : PySem.W.nsIn K mainGlobals "isinstance" = some none)
    (z_all : PySem.W.nsIn K mainGlobals "all" = some none)
    (z_dict : PySem.W.nsIn K mainGlobals "dict" = some none)
    (z_min : PySem.W.nsIn K mainGlobals "min" = some none)
    (z_max : PySem.W.nsIn K mainGlobals "max" = some none)
    (z_repr : PySem.W.nsIn K mainGlobals "repr" = some none)
    (aC : PySem.W.nsIn K mainGlobals "Load" = some (some (.ref C)))
    (pgC : PySem.W.plainGet K C Str.empty = true)
    (hdC : PySem.W.hasDictIn K C = true)
    (poC : PySem.W.plainOver K C = true)
    (saC : PySem.W.findIn K (.ref C) "__setattr__" = some (some (.builtin "object.__setattr__")))
    (ncC : PySem.W.findIn K (.ref C) "_counts" = some none)
    (mkC : PySem.W.makesIn K C = true)
    (kpC : PySem.W.keepIn K (.ref C) = true)
    (caC : PySem.W.findIn K (.ref C) "__class__" = some (some (.builtin "object.__class__")))
    (cnC : PySem.W.specialIn K (.builtin "object.__class__") "__get__" = some (some (.builtin "getset_descriptor.__get__")))
    (ctC : PySem.W.takesIn K (.builtin "object.__class__") = some true)
    (cmC : PySem.W.mroIn K C (.type "object") = some true)
    (neC : PySem.W.findIn K (.ref C) "__ne__" = some (some (.builtin "object.__ne__")))
    (icC : PySem.W.isClsIn K C = true)
    (tyC : PySem.W.typeIn K (.ref C) = some (.type "type"))
    (rdC : PySem.W.readsIn K C (.type "type") = true)
    (gaC : PySem.W.specialIn K (.ref C) "__getattribute__" = some (some (.builtin "type.__getattribute__")))
    (am0 : PySem.W.findIn K (.ref C) "__init__" = some (some (.ref gm0)))
    (lm0 : K.lookup gm0 = some ⟨ocm0, odm0, .func (PySem.W.fnOf "__init__" "Load.__init__" (defArgs (inClass (top 14) 0)) (defBody (inClass (top 14) 0)) (defScope (inClass (top 14) 0)) .none kVm0 dcm0 pmm0 anm0 cdm0 ctm0), slm0⟩)
    (cm0 : PySem.W.codeIn K cdm0 "Load.__init__" = true)
    (km0 : PySem.W.keepIn K (.ref gm0) = true)
    (fm0 : PySem.W.fnIn K gm0 = true)
    (im0 : PySem.W.isFn K (.ref gm0) = true)
    (am1 : PySem.W.findCls K (.ref C) (.type "type") "of" = some (.get (.builtin "classmethod.__get__") (.ref pO) .none (.ref C)))
    (rcO : PySem.W.recIn K pO "classmethod" = some (.ref gm1 :: rO))
    (lm1 : K.lookup gm1 = some ⟨ocm1, odm1, .func (PySem.W.fnOf "of" "Load.of" (defArgs (inClass (top 14) 1)) (defBody (inClass (top 14) 1)) (defScope (inClass (top 14) 1)) .none kVm1 dcm1 pmm1 anm1 cdm1 ctm1), slm1⟩)
    (cm1 : PySem.W.codeIn K cdm1 "Load.of" = true)
    (km1 : PySem.W.keepIn K (.ref gm1) = true)
    (fm1 : PySem.W.fnIn K gm1 = true)
    (am4 : PySem.W.findIn K (.ref C) "counts" = some (some (.ref pP)))
    (rcP : PySem.W.recIn K pP "property" = some (.ref gm4 :: rP))
    (lm4 : K.lookup gm4 = some ⟨ocm4, odm4, .func (PySem.W.fnOf "counts" "Load.counts" (defArgs (inClass (top 14) 4)) (defBody (inClass (top 14) 4)) (defScope (inClass (top 14) 4)) .none kVm4 dcm4 pmm4 anm4 cdm4 ctm4), slm4⟩)
    (cm4 : PySem.W.codeIn K cdm4 "Load.counts" = true)
    (km4 : PySem.W.keepIn K (.ref gm4) = true)
    (geP : PySem.W.specialIn K (.ref pP) "__get__" = some (some (.builtin "property.__get__")))
    (tkP : PySem.W.takesIn K (.ref pP) = some true)
    (am8 : PySem.W.findIn K (.ref C) "text" = some (some (.ref gm8)))
    (lm8 : K.lookup gm8 = some ⟨ocm8, odm8, .func (PySem.W.fnOf "text" "Load.text" (defArgs (inClass (top 14) 8)) (defBody (inClass (top 14) 8)) (defScope (inClass (top 14) 8)) .none kVm8 dcm8 pmm8 anm8 cdm8 ctm8), slm8⟩)
    (cm8 : PySem.W.codeIn K cdm8 "Load.text" = true)
    (km8 : PySem.W.keepIn K (.ref gm8) = true)
    (fm8 : PySem.W.fnIn K gm8 = true)
    (im8 : PySem.W.isFn K (.ref gm8) = true)
    (am9 : PySem.W.findIn K (.ref C) "__getitem__" = some (some (.ref gm9)))
    (lm9 : K.lookup gm9 = some ⟨ocm9, odm9, .func (PySem.W.fnOf "__getitem__" "Load.__getitem__" (defArgs (inClass (top 14) 9)) (defBody (inClass (top 14) 9)) (defScope (inClass (top 14) 9)) .none kVm9 dcm9 pmm9 anm9 cdm9 ctm9), slm9⟩)
    (cm9 : PySem.W.codeIn K cdm9 "Load.__getitem__" = true)
    (km9 : PySem.W.keepIn K (.ref gm9) = true)
    (fm9 : PySem.W.fnIn K gm9 = true)
    (im9 : PySem.W.isFn K (.ref gm9) = true)
    (am19 : PySem.W.findIn K (.ref C) "__eq__" = some (some (.ref gm19)))
    (lm19 : K.lookup gm19 = some ⟨ocm19, odm19, .func (PySem.W.fnOf "__eq__" "Load.__eq__" (defArgs (inClass (top 14) 19)) (defBody (inClass (top 14) 19)) (defScope (inClass (top 14) 19)) .none kVm19 dcm19 pmm19 anm19 cdm19 ctm19), slm19⟩)
    (cm19 : PySem.W.codeIn K cdm19 "Load.__eq__" = true)
    (km19 : PySem.W.keepIn K (.ref gm19) = true)
    (fm19 : PySem.W.fnIn K gm19 = true)
    (im19 : PySem.W.isFn K (.ref gm19) = true)
    (am20 : PySem.W.findIn K (.ref C) "__le__" = some (some (.ref gm20)))
    (lm20 : K.lookup gm20 = some ⟨ocm20, odm20, .func (PySem.W.fnOf "__le__" "Load.__le__" (defArgs (inClass (top 14) 20)) (defBody (inClass (top 14) 20)) (defScope (inClass (top 14) 20)) .none kVm20 dcm20 pmm20 anm20 cdm20 ctm20), slm20⟩)
    (cm20 : PySem.W.codeIn K cdm20 "Load.__le__" = true)
    (km20 : PySem.W.keepIn K (.ref gm20) = true)
    (fm20 : PySem.W.fnIn K gm20 = true)
    (im20 : PySem.W.isFn K (.ref gm20) = true)
    (am21 : PySem.W.findIn K (.ref C) "__lt__" = some (some (.ref gm21)))
    (lm21 : K.lookup gm21 = some ⟨ocm21, odm21, .func (PySem.W.fnOf "__lt__" "Load.__lt__" (defArgs (inClass (top 14) 21)) (defBody (inClass (top 14) 21)) (defScope (inClass (top 14) 21)) .none kVm21 dcm21 pmm21 anm21 cdm21 ctm21), slm21⟩)
    (cm21 : PySem.W.codeIn K cdm21 "Load.__lt__" = true)
    (km21 : PySem.W.keepIn K (.ref gm21) = true)
    (fm21 : PySem.W.fnIn K gm21 = true)
    (im21 : PySem.W.isFn K (.ref gm21) = true)
    (am22 : PySem.W.findIn K (.ref C) "__ge__" = some (some (.ref gm22)))
    (lm22 : K.lookup gm22 = some ⟨ocm22, odm22, .func (PySem.W.fnOf "__ge__" "Load.__ge__" (defArgs (inClass (top 14) 22)) (defBody (inClass (top 14) 22)) (defScope (inClass (top 14) 22)) .none kVm22 dcm22 pmm22 anm22 cdm22 ctm22), slm22⟩)
    (cm22 : PySem.W.codeIn K cdm22 "Load.__ge__" = true)
    (km22 : PySem.W.keepIn K (.ref gm22) = true)
    (fm22 : PySem.W.fnIn K gm22 = true)
    (im22 : PySem.W.isFn K (.ref gm22) = true)
    (am23 : PySem.W.findIn K (.ref C) "__gt__" = some (some (.ref gm23)))
    (lm23 : K.lookup gm23 = some ⟨ocm23, odm23, .func (PySem.W.fnOf "__gt__" "Load.__gt__" (defArgs (inClass (top 14) 23)) (defBody (inClass (top 14) 23)) (defScope (inClass (top 14) 23)) .none kVm23 dcm23 pmm23 anm23 cdm23 ctm23), slm23⟩)
    (cm23 : PySem.W.codeIn K cdm23 "Load.__gt__" = true)
    (km23 : PySem.W.keepIn K (.ref gm23) = true)
    (fm23 : PySem.W.fnIn K gm23 = true)
    (im23 : PySem.W.isFn K (.ref gm23) = true)
    (cM : PySem.W.nsIn K mainGlobals "MOST_LETTERS" = some (some (.int 8 tM)))
    (cN : PySem.W.nsIn K mainGlobals "NOTHING" = some (some (.str "-" tN)))
    : ∃ fd : FuncData, (∀ (s : Shared) (v : Value), BindsTo s fd ⟨[v], []⟩ [("_law_script", v)]) ∧ ∀ base : Heap, K.In base → base.Ns mainGlobals mg → FnG l.prog w K mg base 6 fa fd ["_law_script"] (spLaw K) := by
  have D3 := fun_mk (st := top 3) l3 c3 k3
  have b3 := D3.binds (ps := ["value"]) fun _ _ _ _ _ _ us hl => match us, hl with | [_], _ => rfl
  have D4 := fun_mk (st := top 4) l4 c4 k4
  have b4 := D4.binds (ps := ["value"]) fun _ _ _ _ _ _ us hl => match us, hl with | [_], _ => rfl
  have D5 := fun_mk (st := top 5) l5 c5 k5
  have b5 := D5.binds (ps := ["words"]) fun _ _ _ _ _ _ us hl => match us, hl with | [_], _ => rfl
  have D15 := fun_mk (st := top 15) l15 c15 k15
  have b15 := D15.binds (ps := ["counts"]) fun _ _ _ _ _ _ us hl => match us, hl with | [_], _ => rfl
  have D16 := fun_mk (st := top 16) l16 c16 k16
  have b16 := D16.binds (ps := ["counts"]) fun _ _ _ _ _ _ us hl => match us, hl with | [_], _ => rfl
  have D21 := fun_mk (st := top 21) l21 c21 k21
  have b21 := D21.binds (ps := ["_law_script"]) fun _ _ _ _ _ _ us hl => match us, hl with | [_], _ => rfl
  have D22 := fun_mk (st := top 22) l22 c22 k22
  have b22 := D22.binds (ps := ["_law_pen_here", "_law_many"]) fun _ _ _ _ _ _ us hl => match us, hl with | [_, _], _ => rfl
  have D23 := fun_mk (st := top 23) l23 c23 k23
  have b23 := D23.binds (ps := ["_law_pen_here", "_law_options"]) fun _ _ _ _ _ _ us hl => match us, hl with | [_, _], _ => rfl
  have D24 := fun_mk (st := top 24) l24 c24 k24
  have b24 := D24.binds (ps := ["_law_pen_here", "_law_many"]) fun _ _ _ _ _ _ us hl => match us, hl with | [_, _], _ => rfl
  have D25 := fun_mk (st := top 25) l25 c25 k25
  have b25 := D25.binds (ps := ["_law_pen_here", "_law_figures"]) fun _ _ _ _ _ _ us hl => match us, hl with | [_, _], _ => rfl
  have D26 := fun_mk (st := top 26) l26 c26 k26
  have b26 := D26.binds (ps := ["_law_pen_here"]) fun _ _ _ _ _ _ us hl => match us, hl with | [_], _ => rfl
  have D27 := fun_mk (st := top 27) l27 c27 k27
  have b27 := D27.binds (ps := ["_law_pen_here"]) fun _ _ _ _ _ _ us hl => match us, hl with | [_], _ => rfl
  have D28 := fun_mk (st := top 28) l28 c28 k28
  have b28 := D28.binds (ps := ["_law_script"]) fun _ _ _ _ _ _ us hl => match us, hl with | [_], _ => rfl
  have Dm0 := fun_mk (st := inClass (top 14) 0) lm0 cm0 km0
  have Dm1 := fun_mk (st := inClass (top 14) 1) lm1 cm1 km1
  have bm1 := Dm1.binds (ps := ["cls", "counts"]) fun _ _ _ _ _ _ us hl => match us, hl with | [_, _], _ => rfl
  have Dm4 := fun_mk (st := inClass (top 14) 4) lm4 cm4 km4
  have bm4 := Dm4.binds (ps := ["self"]) fun _ _ _ _ _ _ us hl => match us, hl with | [_], _ => rfl
  have Dm8 := fun_mk (st := inClass (top 14) 8) lm8 cm8 km8
  have bm8 := Dm8.binds (ps := ["self"]) fun _ _ _ _ _ _ us hl => match us, hl with | [_], _ => rfl
  have Dm9 := fun_mk (st := inClass (top 14) 9) lm9 cm9 km9
  have bm9 := Dm9.binds (ps := ["self", "at"]) fun _ _ _ _ _ _ us hl => match us, hl with | [_, _], _ => rfl
  have Dm19 := fun_mk (st := inClass (top 14) 19) lm19 cm19 km19
  have bm19 := Dm19.binds (ps := ["self", "other"]) fun _ _ _ _ _ _ us hl => match us, hl with | [_, _], _ => rfl
  have Dm20 := fun_mk (st := inClass (top 14) 20) lm20 cm20 km20
  have bm20 := Dm20.binds (ps := ["self", "other"]) fun _ _ _ _ _ _ us hl => match us, hl with | [_, _], _ => rfl
  have Dm21 := fun_mk (st := inClass (top 14) 21) lm21 cm21 km21
  have bm21 := Dm21.binds (ps := ["self", "other"]) fun _ _ _ _ _ _ us hl => match us, hl with | [_, _], _ => rfl
  have Dm22 := fun_mk (st := inClass (top 14) 22) lm22 cm22 km22
  have bm22 := Dm22.binds (ps := ["self", "other"]) fun _ _ _ _ _ _ us hl => match us, hl with | [_, _], _ => rfl
  have Dm23 := fun_mk (st := inClass (top 14) 23) lm23 cm23 km23
  have bm23 := Dm23.binds (ps := ["self", "other"]) fun _ _ _ _ _ _ us hl => match us, hl with | [_, _], _ => rfl
  have e := hfa.symm.trans (PySem.W.mg_of X G a28)
  cases e
  have N := fun {x : Str} (z : PySem.W.nsIn K mainGlobals x = some none) => PySem.W.mg_none_of X G z
  have B : Blt mg := ⟨N z_int, N z_abs, N z_list, N z_len, N z_range⟩
  have B2 : Blt2 mg := ⟨N z_str, N z_bool, N z_sorted, N z_isinstance, N z_all, N z_dict⟩
  have B3 : Blt3 mg := ⟨N z_min, N z_max, N z_repr⟩
  refine ⟨PySem.W.fnOf "law" "law" (defArgs (top 28)) (defBody (top 28)) (defScope (top 28)) .none kV28 dc28 pm28 an28 cd28 ct28, fun s v => .of_eq rfl, fun base _ _ => ?_⟩
  have H5 : Has l.prog w K mg base 1 "ascending" ["words"] spAsc := ⟨g5, _, ok_asc D5 B2, b5, PySem.W.mg_of X G a5, k5⟩
  have H4 : Has l.prog w K mg base 1 "is_word" ["value"] (spIsWord K) := ⟨g4, _, ok_isWord D4 B2 B.len ⟨_, PySem.W.mg_of X G cM⟩, b4, PySem.W.mg_of X G a4, k4⟩
  have H3 : Has l.prog w K mg base 1 "is_integer" ["value"] (spIsInt K) := ⟨g3, _, ok_isInt D3 B2 B.int, b3, PySem.W.mg_of X G a3, k3⟩
  have H15 : Has l.prog w K mg base 2 "check_counts" ["counts"] spCheck := ⟨g15, _, ok_check D15 H5 H4 H3, b15, PySem.W.mg_of X G a15, k15⟩
  have H16 : Has l.prog w K mg base 2 "tidy_counts" ["counts"] spTidy := ⟨g16, _, ok_tidy D16 H5, b16, PySem.W.mg_of X G a16, k16⟩
  have T : LoadC K mg C gm0 := ⟨⟨pgC, hdC, poC, saC⟩, ncC, ⟨mkC, am0, im0, kpC⟩, PySem.W.mg_of X G aC⟩
  have S : SlX.SIsi K C := ⟨caC, cnC, ctC, cmC⟩
  have I0 := ok_init0 (P := l.prog) (w := w) (base := base) Dm0 T H15 H16
  have HG : HasM l.prog w K mg base 1 C "__getitem__" (spGet C) := ⟨_, am9, fm9, im9, fnR_of (ok_get Dm9 T) bm9⟩
  have HE : HasM l.prog w K mg base 1 C "__eq__" (spEqL K C) := ⟨_, am19, fm19, im19, fnR_of (ok_eqL Dm19 T S B2) bm19⟩
  have HL : HasM l.prog w K mg base 3 C "__le__" (spLe C) := ⟨_, am20, fm20, im20, fnR_of (ok_le Dm20 T S B2 HG) bm20⟩
  have HT : HasM l.prog w K mg base 4 C "__lt__" (spLt C) := ⟨_, am21, fm21, im21, fnR_of (ok_lt Dm21 T S ⟨neC⟩ B2 HE HL) bm21⟩
  have L : LoadT l.prog w K mg base C gm0 := {
    T := T
    S := S
    N := ⟨neC⟩
    O := ⟨by rw [Bool.and_eq_true]; exact ⟨icC, beq_iff_eq.mpr tyC⟩⟩
    of := ⟨.type "type", pO, gm1, ⟨rdC, gaC⟩, ⟨am1, ⟨_, rcO⟩, fm1⟩, fnR_of (ok_of Dm1 T B2 I0 H15 H16) bm1⟩
    mk0 := I0
    mkA := ok_init1 Dm0 T H15 H16 fun _ _ _ _ _ _ _ _ => rfl
    mkB := ok_init1 Dm0 T H15 H16 fun _ _ _ _ _ _ _ _ => rfl
    eq := HE
    le := HL
    lt := HT
    ge := ⟨_, am22, fm22, im22, fnR_of (ok_ge Dm22 T S B2 HL) bm22⟩
    gt := ⟨_, am23, fm23, im23, fnR_of (ok_gt Dm23 T S B2 HT) bm23⟩
    counts := ⟨pP, gm4, _, ⟨am4, geP, tkP, ⟨_, rcP⟩⟩, ok_counts Dm4 T B2, bm4⟩
    text := ⟨gm8, _, ⟨am8, im8, km8⟩, ok_text Dm8 T ⟨_, PySem.W.mg_of X G cN⟩, bm8⟩ }
  have H22 : Has l.prog w K mg base 1 "_law_draw" ["_law_pen_here", "_law_many"] spDraw := ⟨g22, _, ok_draw D22 B, b22, PySem.W.mg_of X G a22, k22⟩
  have H23 : Has l.prog w K mg base 2 "_law_pick" ["_law_pen_here", "_law_options"] (spPick K) := ⟨g23, _, ok_pick D23 B H22, b23, PySem.W.mg_of X G a23, k23⟩
  have H25 : Has l.prog w K mg base 2 "_law_great" ["_law_pen_here", "_law_figures"] spGreat := ⟨g25, _, ok_great D25 B H22, b25, PySem.W.mg_of X G a25, k25⟩
  have H26 : Has l.prog w K mg base 3 "_law_times" ["_law_pen_here"] spTimes := ⟨g26, _, ok_times D26 H22 H25, b26, PySem.W.mg_of X G a26, k26⟩
  exact ok_law D28 B B2 B3 L {
    pen := ⟨g21, _, ok_pen D21 B, b21, PySem.W.mg_of X G a21, k21⟩
    draw := H22
    pick := H23
    words := ⟨g24, _, ok_words D24 B H22 H23, b24, PySem.W.mg_of X G a24, k24⟩
    whole := ⟨g27, _, ok_whole D27 H22 H23 H25 H26, b27, PySem.W.mg_of X G a27, k27⟩ }
theorem walk {l : PySem.W.OpenLaw} {q : Program} {loose : List Str} {XP : (Str → Option Value) → Heap → Prop} {YP : World → Heap → Prop} {d : DefRec} {K : Params → PySem.W.Frag} (hn : l.most = some 63) (hdf : d.params.defaults = [])
    (hY : ∀ (w : World) (h : Heap), YP w h → (K w.params).In h)
    (F : ∀ (w : World) (mg : Str → Option Value) (fa : Addr) (h : Heap), (K w.params).In h → h.Ns mainGlobals mg → mg d.name = some (.ref fa) →
      ∃ fd : FuncData, (∀ (s : Shared) (u : Value), BindsTo s fd ⟨[u], []⟩ [("_law_script", u)]) ∧ ∀ base : Heap, (K w.params).In base → base.Ns mainGlobals mg → FnG l.prog w (K w.params) mg base 6 fa fd ["_law_script"] (spLaw (K w.params))) :
    PySem.W.WalkO q loose XP YP l.row.toRowW d [] (fun f vs => PySem.call f vs) :=
  L2.walk_G (n := 63) (k := 6) (x := "_law_script") (sp := fun w => spLaw (K w.params)) hn (by decide) hdf ⟨rfl, by decide, by decide⟩ hY F (fun _ _ a ns hl _ hS => ⟨a, ns, rfl, hS, hl, fun _ => rfl⟩)
end Ld
open PySem PySem.W PyProof.Rows
set_option maxRecDepth 100000 in
set_option maxHeartbeats 0 in
theorem PySem.Challenge.cw_crateround_k04_whole_order_of_loads_holds : PySem.Challenge.rw_crateround_k04_whole_order_of_loads.Holds := by
  w_on; o_law; k_head; (case hw => w_witness2)
  k_fill
  refine Ld.walk (l := PySem.Challenge.rw_crateround_k04_whole_order_of_loads) rfl rfl (fun w h Y => PySem.W.kIn_of Y) ?F
  case F =>
    intro w mg fa h KX G hmg
    refine' Ld.fin_mk KX G hmg ?a3 ?l3 ?c3 ?k3 ?a4 ?l4 ?c4 ?k4 ?a5 ?l5 ?c5 ?k5 ?a15 ?l15 ?c15 ?k15 ?a16 ?l16 ?c16 ?k16 ?a21 ?l21 ?c21 ?k21 ?a22 ?l22 ?c22 ?k22 ?a23 ?l23 ?c23 ?k23 ?a24 ?l24 ?c24 ?k24 ?a25 ?l25 ?c25 ?k25 ?a26 ?l26 ?c26 ?k26 ?a27 ?l27 ?c27 ?k27 ?a28 ?l28 ?c28 ?k28 ?z_int ?z_abs ?z_list ?z_len ?z_range ?z_str ?z_bool ?z_sorted ?z_isinstance ?z_all ?z_dict ?z_min ?z_max ?z_repr ?aC ?pgC ?hdC ?poC ?saC ?ncC ?mkC ?kpC ?caC ?cnC ?ctC ?cmC ?neC ?icC ?tyC ?rdC ?gaC ?am0 ?lm0 ?cm0 ?km0 ?fm0 ?im0 ?am1 ?rcO ?lm1 ?cm1 ?km1 ?fm1 ?am4 ?rcP ?lm4 ?cm4 ?km4 ?geP ?tkP ?am8 ?lm8 ?cm8 ?km8 ?fm8 ?im8 ?am9 ?lm9 ?cm9 ?km9 ?fm9 ?im9 ?am19 ?lm19 ?cm19 ?km19 ?fm19 ?im19 ?am20 ?lm20 ?cm20 ?km20 ?fm20 ?im20 ?am21 ?lm21 ?cm21 ?km21 ?fm21 ?im21 ?am22 ?lm22 ?cm22 ?km22 ?fm22 ?im22 ?am23 ?lm23 ?cm23 ?km23 ?fm23 ?im23 ?cM ?cN
    (case a3 => k_is)
    (case l3 => k_is)
    (case c3 => k_is)
    (case k3 => k_is)
    (case a4 => k_is)
    (case l4 => k_is)
    (case c4 => k_is)
    (case k4 => k_is)
    (case a5 => k_is)
    (case l5 => k_is)
    (case c5 => k_is)
    (case k5 => k_is)
    (case a15 => k_is)
    (case l15 => k_is)
    (case c15 => k_is)
    (case k15 => k_is)
    (case a16 => k_is)
    (case l16 => k_is)
    (case c16 => k_is)
    (case k16 => k_is)
    (case a21 => k_is)
    (case l21 => k_is)
    (case c21 => k_is)
    (case k21 => k_is)
    (case a22 => k_is)
    (case l22 => k_is)
    (case c22 => k_is)
    (case k22 => k_is)
    (case a23 => k_is)
    (case l23 => k_is)
    (case c23 => k_is)
    (case k23 => k_is)
    (case a24 => k_is)
    (case l24 => k_is)
    (case c24 => k_is)
    (case k24 => k_is)
    (case a25 => k_is)
    (case l25 => k_is)
    (case c25 => k_is)
    (case k25 => k_is)
    (case a26 => k_is)
    (case l26 => k_is)
    (case c26 => k_is)
    (case k26 => k_is)
    (case a27 => k_is)
    (case l27 => k_is)
    (case c27 => k_is)
    (case k27 => k_is)
    (case a28 => k_is)
    (case l28 => k_is)
    (case c28 => k_is)
    (case k28 => k_is)
    (case z_int => k_is)
    (case z_abs => k_is)
    (case z_list => k_is)
    (case z_len => k_is)
    (case z_range => k_is)
    (case z_str => k_is)
    (case z_bool => k_is)
    (case z_sorted => k_is)
    (case z_isinstance => k_is)
    (case z_all => k_is)
    (case z_dict => k_is)
    (case z_min => k_is)
    (case z_max => k_is)
    (case z_repr => k_is)
    (case aC => k_is)
    (case pgC => k_is)
    (case hdC => k_is)
    (case poC => k_is)
    (case saC => k_is)
    (case ncC => k_is)
    (case mkC => k_is)
    (case kpC => k_is)
    (case caC => k_is)
    (case cnC => k_is)
    (case ctC => k_is)
    (case cmC => k_is)
    (case neC => k_is)
    (case icC => k_is)
    (case tyC => k_is)
    (case rdC => k_is)
    (case gaC => k_is)
    (case am0 => k_is)
    (case lm0 => k_is)
    (case cm0 => k_is)
    (case km0 => k_is)
    (case fm0 => k_is)
    (case im0 => k_is)
    (case am1 => k_is)
    (case rcO => k_is)
    (case lm1 => k_is)
    (case cm1 => k_is)
    (case km1 => k_is)
    (case fm1 => k_is)
    (case am4 => k_is)
    (case rcP => k_is)
    (case lm4 => k_is)
    (case cm4 => k_is)
    (case km4 => k_is)
    (case geP => k_is)
    (case tkP => k_is)
    (case am8 => k_is)
    (case lm8 => k_is)
    (case cm8 => k_is)
    (case km8 => k_is)
    (case fm8 => k_is)
    (case im8 => k_is)
    (case am9 => k_is)
    (case lm9 => k_is)
    (case cm9 => k_is)
    (case km9 => k_is)
    (case fm9 => k_is)
    (case im9 => k_is)
    (case am19 => k_is)
    (case lm19 => k_is)
    (case cm19 => k_is)
    (case km19 => k_is)
    (case fm19 => k_is)
    (case im19 => k_is)
    (case am20 => k_is)
    (case lm20 => k_is)
    (case cm20 => k_is)
    (case km20 => k_is)
    (case fm20 => k_is)
    (case im20 => k_is)
    (case am21 => k_is)
    (case lm21 => k_is)
    (case cm21 => k_is)
    (case km21 => k_is)
    (case fm21 => k_is)
    (case im21 => k_is)
    (case am22 => k_is)
    (case lm22 => k_is)
    (case cm22 => k_is)
    (case km22 => k_is)
    (case fm22 => k_is)
    (case im22 => k_is)
    (case am23 => k_is)
    (case lm23 => k_is)
    (case cm23 => k_is)
    (case km23 => k_is)
    (case fm23 => k_is)
    (case im23 => k_is)
    (case cM => k_is)
    (case cN => k_is)
