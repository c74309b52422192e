import PyProof.Rows.All
import Wide.All
import OpenK.AllK
import Wide.FinOn
import HandS.ForMost
import HandS.Exc
import HandS.ExcInit
import KE.KExcIs
import PySem.Challenge.RW_heldhints_k04_refusals_apart
set_option Elab.async false
set_option linter.all false
set_option maxRecDepth 100000
set_option maxHeartbeats 4000000
namespace PySem
namespace XK
open Builtin
abbrev tKey : List Value := [.type "KeyError", .type "LookupError", .type "Exception", .type "BaseException", .type "object"]
abbrev tVal : List Value := [.type "ValueError", .type "Exception", .type "BaseException", .type "object"]
abbrev tLook : List Value := [.type "LookupError", .type "Exception", .type "BaseException", .type "object"]
abbrev tRun : List Value := [.type "RuntimeError", .type "Exception", .type "BaseException", .type "object"]
abbrev tOver : List Value := [.type "OverflowError", .type "ArithmeticError", .type "Exception", .type "BaseException", .type "object"]
theorem xpKey (z : Value) : refuseLoop z "__setattr__" tKey = pure () := by kernel_rfl
theorem xpVal (z : Value) : refuseLoop z "__setattr__" tVal = pure () := by kernel_rfl
theorem xpLook (z : Value) : refuseLoop z "__setattr__" tLook = pure () := by kernel_rfl
theorem xpRun (z : Value) : refuseLoop z "__setattr__" tRun = pure () := by kernel_rfl
theorem xpOver (z : Value) : refuseLoop z "__setattr__" tOver = pure () := by kernel_rfl
/-- what is asked of an exception's own __init__ of the built-in class B -/
structure Ini (B initId : String) : Prop where
  slot : Slot B "__init__" initId
  entry : entryFor table initId = some Builtin.«BaseException.__init__»
  split : splitId initId = some (B, "__init__")
  kind : builtinKind initId = some .slot
  row : Manifest.signature? initId = some ⟨.positional, "*", B, .self, [⟨"args", .varPos, false⟩]⟩
  star : (B != "*") = true
theorem Ini.of {B newId initId : String} {bm : List Value} (F : ExcBaseFacts B newId initId bm) : Ini B initId := ⟨F.init, F.initEntry, F.initSplit, F.initKind, F.initRow, F.noStar⟩
theorem iniKey : Ini "KeyError" "KeyError.__init__" where
  slot := .of (owner := "KeyError") (n := "__init__") (by rw [typeLookup_type, builtinLookup_eq_fast]; kernel_rfl) (by decide +kernel) (by decide +kernel) (by decide +kernel) (by first | exact .inl (by decide +kernel) | exact .inr (by decide +kernel)) (by rw [isSubtype_type]; kernel_rfl)
  entry := (entryFor_alias (id' := "BaseException.__init__") (by rw [fastTable_eq_tree]; kernel_rfl) (by first | rfl | decide +kernel) (by decide +kernel) (by rw [fastTable_eq_tree]; kernel_rfl))
  split := (by kernel_rfl)
  kind := (by kernel_rfl)
  row := (by kernel_rfl)
  star := (by decide +kernel)
/-- what is asked of a class's mro, so that it is made by B's __new__ -/
structure Mro (B : String) (m : List Value) : Prop where
  hasB : m.contains (.type B) = true
  noA : m.contains (.type "AttributeError") = false
  noN : m.contains (.type "NameError") = false
section
variable {M : Model} {A : Around} {E : Value → Shared → Prop} {h : Heap} {g : Array GenState} {d : Drawn} {t : Nat} {os : OsState}
variable {nm q : Str} {C N : Addr} {bs bm bmB : List Value} {hdct : Bool} {sn : List Str} {sub : List Value} {ab : Bool} {col : Option Bool} {dd : Option Addr} {k0 k1 k2 k3 k5 : Option Value} {B B' newId initId initId' : String}
theorem newChk (F : ExcBaseFacts B newId initId bmB) (m : Mro B bm) {us : List Value} {kw : List (Str × Value)} {Q : Unit → Shared → Prop}
    (oC : h.get? C = some (excClassObj nm q C N bs bm hdct sn sub ab col dd k0 k1 k2 k3 k5 newId)) (hq : Q () ⟨h, g, d, t, os⟩) : wpAny M A (checkBuiltinCall newId ⟨.ref C :: us, kw⟩) Q E ⟨h, g, d, t, os⟩ := by
  have c1 : (Value.ref C :: bm).contains (.type B) = true := by rw [List.contains_cons, m.hasB, Bool.or_true]
  have c2 := F.noStar
  simp only [checkBuiltinCall, F.newKind, F.newSplit, F.newRow]
  repeat (first | refine wpAny_loadPart_at oC ?_ | (refine wpAny_isSubtype_exc oC ?_; rw [c1]) | refine wpAny_staticBase_exc oC ?_ | refine wpAny_madeBy_exc oC ?_ | simp only [bne_self_eq_false, Bool.false_eq_true, if_false] | wp_step)
  exact hq
theorem iniChk (F : Ini B' initId') (m : bm.contains (.type B') = true) {e : Addr} {oe : Obj} {us : List Value} {Q : Unit → Shared → Prop}
    (oC : h.get? C = some (excClassObj nm q C N bs bm hdct sn sub ab col dd k0 k1 k2 k3 k5 newId)) (he : h.get? e = some oe) (hcls : oe.cls = .ref C) (hq : Q () ⟨h, g, d, t, os⟩) :
    wpAny M A (checkBuiltinCall initId' ⟨.ref e :: us, []⟩) Q E ⟨h, g, d, t, os⟩ := by
  have c1 : (Value.ref C :: bm).contains (.type B') = true := by rw [List.contains_cons, m, Bool.or_true]
  have c2 := F.star
  simp only [checkBuiltinCall, F.kind, F.split, F.row]
  repeat (first | (with_reducible refine wpAny_loadPart_at he ?_; rw [hcls]) | with_reducible refine wpAny_loadPart_at oC ?_ | (with_reducible refine wpAny_isSubtype_exc oC ?_; rw [c1]) | wp_step)
  refine wpAny_onRaise ?_
  rw [show ∀ (a b : String) (n : Nat), Bind.check ⟨.positional, "*", B', .self, [⟨"args", .varPos, false⟩]⟩ a b n (List.map (fun x => x.fst) ({ pos := Value.ref e :: us } : Args).kw) = pure () from fun a b n => check_star_args _ _ _ _ _ _]
  exact wpAny_pure hq
end
section
variable {prog : Program} {w : World} {A : Around} {E : Value → Shared → Prop} {R : Result → Shared → Prop} {h : Heap} {g : Array GenState} {d : Drawn} {t : Nat} {os : OsState}
variable {nm q : Str} {C N : Addr} {bs bm bmB : List Value} {hdct : Bool} {sn : List Str} {sub : List Value} {ab : Bool} {col : Option Bool} {dd : Option Addr} {k0 k1 k2 k3 k5 : Option Value} {B B' newId initId initId' : String}
open HandSPX (excO)
theorem newRun (F : ExcBaseFacts B newId initId bmB) (m : Mro B bm) {us : List Value} {kw : List (Str × Value)}
    (oC : h.get? C = some (excClassObj nm q C N bs bm hdct sn sub ab col dd k0 k1 k2 k3 k5 newId)) (hus : us.length ≤ sizeLine)
    (hq : R (.ok (.ret (.ref (h.objs.size + 1)))) ⟨(h.push (W.kdv_tup us)).push (excO C h.objs.size), g, d, t, os⟩) :
    codeAny (model prog w) A (.builtin newId ⟨.ref C :: us, kw⟩) R ⟨h, g, d, t, os⟩ := by
  have c0 := F.ends
  have c1 : (Value.ref C :: bm).contains (.type B) = true := by rw [List.contains_cons, m.hasB, Bool.or_true]
  have c2 : (Value.ref C :: bm).contains (.type "AttributeError") = false := by rw [List.contains_cons, m.noA]; rfl
  have c3 : (Value.ref C :: bm).contains (.type "NameError") = false := by rw [List.contains_cons, m.noN]; rfl
  refine codeAny_builtinAt F.entry ?_
  unfold Builtin.«BaseException.__new__»
  refine wpAt_bind ?_
  show wpAt _ _ _ (stack >>= _) _ _ _
  refine wpAt_bind (wpAt_stack fun p below => wpAt_of_wpAny ?_)
  wp_walk
  refine wpAt_of_wpAny ?_
  rw [F.owner]
  repeat (first | with_reducible refine wpAny_madeHere_exc F.canon oC ?_ | with_reducible refine wpAny_loadPart_at oC ?_ | (with_reducible refine wpAny_isSubtype_exc oC ?_; first | rw [c1] | rw [c2] | rw [c3]) | wp_step)
  show R _ _
  rw [Heap.size_push]
  exact hq
theorem typeCall (F : ExcBaseFacts B newId initId bmB) (m : Mro B bm) {us : List Value} {kw : List (Str × Value)} {fI : Addr} {Q : Fin → Shared → Prop}
    (oC : h.get? C = some (excClassObj nm q C N bs bm hdct sn sub ab col dd k0 k1 k2 k3 k5 newId))
    (hi : W.Looks (model prog w) h (typeLookup (.ref C) "__init__") (some (.ref fI))) (hb : ∀ z, W.Looks (model prog w) h (bindSpecial (.ref fI) z) (.ref fI, [z])) (hus : us.length ≤ sizeLine)
    (hq : codeAny (model prog w) A (.call (.ref fI) ⟨.ref (h.objs.size + 1) :: us, kw⟩)
      (fun r s' => match r with | .ok (.ret v) => v = .none ∧ Q (.done (.ret (.ref (h.objs.size + 1)))) s' | .ok _ => False | .error e => E e s')
      ⟨(h.push (W.kdv_tup us)).push (excO C h.objs.size), g, d, t, os⟩) :
    wpAny (model prog w) A (Builtin.«type.__call__» ⟨.ref C :: us, kw⟩) Q E ⟨h, g, d, t, os⟩ := by
  repeat (first | with_reducible refine wpAny_loadPart_at oC ?_ | with_reducible refine wpAny_madeBy_exc oC ?_ | wp_step)
  refine codeAny_call_builtin_code (Code.quiet_builtin _ F.quiet) (newChk F m oC ?_)
  refine newRun F m oC hus ?_
  show wpAny _ _ _ _ _ _
  have kk : ∀ b o, h.get? b = some o → ((h.push (W.kdv_tup us)).push (excO C h.objs.size)).get? b = some o := fun b o z => Heap.get?_push_of_some _ (Heap.get?_push_of_some _ z)
  have oC1 := kk _ _ oC
  have oE : ((h.push (W.kdv_tup us)).push (excO C h.objs.size)).get? (h.objs.size + 1) = some (excO C h.objs.size) := by heap_get
  have cC : (Value.ref C :: bm).contains (.ref C) = true := by simp
  have i1 := hi.keeps kk
  have b1 := (hb (.ref (h.objs.size + 1))).keeps kk
  unfold isInstance
  repeat (first | with_reducible refine wpAny_loadPart_at oE ?_ | (with_reducible refine wpAny_isSubtype_exc oC1 ?_; rw [cC]) | wp_step)
  show wpAny _ _ (typeLookup (.ref C) _) _ _ _
  refine i1.at ?_
  refine wpAny_holding (wpAny_bind (b1.at ?_))
  refine wpAny_bind (wpAny_call (codeAny_mono hq fun r s' z => ?_))
  rcases r with e | (v | _ | _ | _) <;> first | exact z | exact z.elim | skip
  obtain ⟨rfl, z⟩ := z
  first | exact wpAny_pure (wpAny_pure z) | (wp_walk; exact z)
theorem tcChk {us : List Value} {kw : List (Str × Value)} {Q : Unit → Shared → Prop} (oC : h.get? C = some (excClassObj nm q C N bs bm hdct sn sub ab col dd k0 k1 k2 k3 k5 newId))
    (hq : Q () ⟨h, g, d, t, os⟩) : wpAny (model prog w) A (checkBuiltinCall "type.__call__" ⟨.ref C :: us, kw⟩) Q E ⟨h, g, d, t, os⟩ := by
  have f3 := tc_sub
  have y : (⟨h, g, d, t, os⟩ : Shared).TypeIs (.ref C) "type" := ⟨_, oC, rfl⟩
  simp only [checkBuiltinCall, tc_kind, tc_split]
  repeat (any_goals (first | assumption | with_reducible refine wpAny_loadPart_at oC ?_ | with_reducible refine wpAny_onRaise ?_ | with_reducible refine wpAny_map ?_ | wp_step))
theorem callCls (F : ExcBaseFacts B newId initId bmB) (m : Mro B bm) {us : List Value} {kw : List (Str × Value)} {fI : Addr}
    (oC : h.get? C = some (excClassObj nm q C N bs bm hdct sn sub ab col dd k0 k1 k2 k3 k5 newId))
    (hi : W.Looks (model prog w) h (typeLookup (.ref C) "__init__") (some (.ref fI))) (hb : ∀ z, W.Looks (model prog w) h (bindSpecial (.ref fI) z) (.ref fI, [z])) (hus : us.length ≤ sizeLine)
    (hq : codeAny (model prog w) (A.under (.builtin "type.__call__" ⟨.ref C :: us, kw⟩)) (.call (.ref fI) ⟨.ref (h.objs.size + 1) :: us, kw⟩) (W.InitBack (h.objs.size + 1) R)
      ⟨(h.push (W.kdv_tup us)).push (excO C h.objs.size), g, d, t, os⟩) :
    codeAny (model prog w) A (.call (.ref C) ⟨us, kw⟩) R ⟨h, g, d, t, os⟩ := by
  have f1 := tc_lookup
  have f2 := tc_bind (.ref C)
  have y : (⟨h, g, d, t, os⟩ : Shared).TypeIs (.ref C) "type" := ⟨_, oC, rfl⟩
  refine codeAny_of_tree ?_
  show wpAny _ _ (callAny (.ref C) _) _ _ _
  repeat (any_goals (first | assumption | with_reducible refine wpAny_loadPart_at oC ?_ | wp_step))
  refine ⟨rfl, ?_⟩
  refine codeAny_call_builtin_at (Code.quiet_builtin _ (by decide +kernel)) entry_typeCall (tcChk oC (typeCall F m oC hi hb hus ?_))
  refine codeAny_mono hq fun r s' z => ?_
  rcases r with e | (v | _ | _ | _) <;> exact z
/-- B.__init__(e, ..) -/
theorem iniRun (F : Ini B' initId') (m : bm.contains (.type B') = true) {e t0 : Addr} {us : List Value}
    (oC : h.get? C = some (excClassObj nm q C N bs bm hdct sn sub ab col dd k0 k1 k2 k3 k5 newId)) (he : h.get? e = some (excO C t0)) (hus : us.length ≤ sizeLine)
    (hq : ∀ h' t1, (∀ b o, b ≠ e → h.get? b = some o → h'.get? b = some o) → h'.get? e = some (excO C t1) → R (.ok (.ret .none)) ⟨h', g, d, t, os⟩) :
    codeAny (model prog w) A (.call (.builtin initId') ⟨.ref e :: us, []⟩) R ⟨h, g, d, t, os⟩ := by
  refine codeAny_call_builtin F.slot.plain F.entry (iniChk F m oC he rfl ?_)
  wp_walk
  refine hq _ h.objs.size (fun b o hb ho => ?_) ?_
  · rw [Heap.get?_update_other _ _ (Ne.symm hb)]
    exact Heap.get?_push_of_some _ ho
  · rw [Heap.get?_update_self _ (Heap.get?_push_of_some _ he) rfl]
    rfl
end
section
open Builtin.ObjectAttr
variable {prog : Program} {w : World} {A : Around} {E : Value → Shared → Prop} {R : Result → Shared → Prop} {hp : Heap} {g : Array GenState} {d : Drawn} {t : Nat} {os : OsState}
/-- self.name = v, the first one -/
theorem setNew {K : W.Frag} {name : Str} {tk : Tok} {v : Value} {x C : Addr} {fv : Array Value} {cd : ClassData}
    (X : K.In hp) (hx : hp.get? x = some { cls := .ref C, data := .fields fv }) (hcd : W.clsIn K C = some cd) (ps : refuseLoop (.ref x) "__setattr__" cd.mro = pure ()) (hob : W.mroIn K C (.type "object") = some true) (hh : cd.hasDict = true) (ha : W.findIn K (.ref C) name = some none)
    (hq : ∀ h' tk' dx, (∀ b o, b ≠ x → hp.get? b = some o → h'.get? b = some o) → hp.objs.size ≤ dx → dx ≠ x → h'.get? x = some { cls := .ref C, dict := some dx, data := .fields fv } →
      h'.Ns1 dx (fun y => if y = name then some v else none) → R (.ok (.ret .none)) ⟨h', g, d, tk', os⟩) :
    codeAny (model prog w) A (.call (.builtin "object.__setattr__") ⟨[.ref x, .str name tk, v], []⟩) R ⟨hp, g, d, t, os⟩ := by
  have J : W.InstAt hp x { cls := .ref C, data := .fields fv } C none := ⟨hx, rfl, rfl, trivial⟩
  have Z := F.store_object
  have xs : x ≠ hp.objs.size := Nat.ne_of_lt (Heap.lt_size hx)
  have s1 : W.Looks (model prog w) hp (isInstance (.ref x) (.type "object")) true := J.type.andThen (W.looks_mroIn X hob)
  refine codeAny_call_builtin Z.slot.plain Z.entry (@W.check_slot (model prog w) _ _ ⟨hp, g, d, t, os⟩ "object.__setattr__" "object" "__setattr__" (.ref x) [.str name tk, v] [] _ Z.kind Z.split s1 (Z.args (.ref x) (.str name tk) v) ?_)
  have l1 : W.Looks (model prog w) hp (mroOf (.ref C)) cd.mro := (W.looks_clsIn X hcd).andThen .now
  have l2 : W.Looks (model prog w) hp (storeTaker? none) none := .now
  have l3 : W.Looks (model prog w) hp (classData C) cd := W.looks_clsIn X hcd
  rw [W.osa_eq, refuse_eq]
  refine wpAny_bind (wpAny_bind (J.type.at (wpAny_bind (l1.at ?_))))
  rw [ps]
  refine wpAny_pure (wpAny_bind (J.type.at (wpAny_bind ((W.looks_findIn X ha).at (wpAny_bind (l2.at ?_))))))
  show wpAny _ _ (storeInOwnDict (.ref x) (.ref C) (.str name tk) name v false) _ _ _
  obtain ⟨nm, bs, mro, ns, qn, hd, sn, sb, ab, col, del⟩ := cd
  dsimp only at hh
  subst hh
  unfold storeInOwnDict ownDictForStores
  repeat (first | with_reducible refine HandSPX.store_in_new ?_ ?_ | with_reducible refine wpAny_loadPart_at hx ?_ | with_reducible refine l3.at ?_ | wp_step)
  · exact ⟨_, #[], _, (Heap.get?_update_ne _ _ _ _ xs.symm).trans (Heap.get?_push_at rfl rfl), rfl, fun e he => absurd he (by simp), fun _ => rfl⟩
  · intro h' tk' hn' hs
    have hx₁ : (hp.push { cls := .type "dict", data := .dict #[] }).get? x = some { cls := .ref C, data := .fields fv } := Heap.get?_push_of_some _ hx
    refine hq h' tk' hp.objs.size (fun b o hb ho => ?_) (Nat.le_refl _) xs.symm ?_ hn'
    · exact (hs.2 b (Nat.ne_of_lt (Heap.lt_size ho))).trans ((Heap.get?_update_ne _ _ _ _ hb).trans (Heap.get?_push_of_some _ ho))
    · exact (hs.2 x xs).trans (Heap.get?_update_self _ hx₁ rfl)
end
end XK
end PySem

set_option Elab.async false
set_option linter.all false
set_option maxRecDepth 100000
set_option maxHeartbeats 4000000
namespace L2
open PySem PySem.Spec PyProof.Rows
/-- what the written part says of an own exception class at C, bm its mro behind it -/
structure ExK (K : PySem.W.Frag) (C : Addr) (bm : List Value) : Prop where
  ex : ∃ (B newId initId : String) (bmB : List Value) (nm q : Str) (N : Addr) (bs : List Value) (sn : List Str) (sub : List Value) (ab : Bool) (col : Option Bool) (dd : Option Addr) (k0 k1 k2 k3 k5 : Option Value),
    ExcBaseFacts B newId initId bmB ∧ XK.Mro B bm ∧ K.lookup C = some (excClassObj nm q C N bs bm true sn sub ab col dd k0 k1 k2 k3 k5 newId)
  ps : ∀ z, refuseLoop z "__setattr__" bm = pure ()
  ob : bm.contains (.type "object") = true
  be : bm.contains (.type "BaseException") = true
  sa : PySem.W.findIn K (.ref C) "__setattr__" = some (some (.builtin "object.__setattr__"))
  ga : PySem.W.findIn K (.ref C) "__getattribute__" = some (some (.builtin "BaseException.__getattribute__"))
  gt : PySem.W.findIn K (.ref C) "__getattr__" = some none
  ca : PySem.W.findIn K (.ref C) "__class__" = some (some (.builtin "object.__class__"))
  kC : PySem.W.keepIn K (.ref C) = true
section
variable {K : PySem.W.Frag} {C : Addr} {bm : List Value}
theorem ExK.cls (T : ExK K C bm) : ∃ cd : ClassData, PySem.W.clsIn K C = some cd ∧ cd.mro = .ref C :: bm ∧ cd.hasDict = true := by
  obtain ⟨B, n, i, bmB, nm, q, N, bs, sn, sub, ab, col, dd, k0, k1, k2, k3, k5, _, _, hC⟩ := T.ex
  refine ⟨{ name := nm, bases := bs, mro := .ref C :: bm, ns := N, qualname := q, hasDict := true, slotNames := sn, subclasses := sub, abstract := ab, collection := col, hasDel := false }, ?_, rfl, rfl⟩
  unfold PySem.W.clsIn
  rw [hC]
theorem ExK.mroIn (T : ExK K C bm) (v : Value) : PySem.W.mroIn K C v = some ((Value.ref C :: bm).contains v) := by
  obtain ⟨cd, h1, h2, _⟩ := T.cls
  unfold PySem.W.mroIn
  rw [h1, Option.bind_some, h2]
  rfl
theorem ExK.ty (T : ExK K C bm) : PySem.W.typeIn K (.ref C) = some (.type "type") := by
  obtain ⟨B, n, i, bmB, nm, q, N, bs, sn, sub, ab, col, dd, k0, k1, k2, k3, k5, _, _, hC⟩ := T.ex
  show (K.lookup C).map (·.cls) = _
  rw [hC]
  rfl
theorem ExK.sub (T : ExK K C bm) : PySem.W.subIn K (.ref C) (.type "BaseException") = some true := by
  show PySem.W.mroIn K C (.type "BaseException") = some true
  rw [T.mroIn, List.contains_cons, T.be, Bool.or_true]
theorem ExK.obj (T : ExK K C bm) : PySem.W.mroIn K C (.type "object") = some true := by
  rw [T.mroIn, List.contains_cons, T.ob, Bool.or_true]
theorem ExK.dct (T : ExK K C bm) : PySem.W.hasDictIn K C = true := by
  obtain ⟨cd, h1, _, h3⟩ := T.cls
  unfold PySem.W.hasDictIn
  rw [h1]
  exact h3
theorem ExK.some (T : ExK K C bm) : (PySem.W.clsIn K C).isSome = true := by
  obtain ⟨cd, h1, _, _⟩ := T.cls
  rw [h1]
  rfl
/-- a class that isinstance may be asked of -/
def IsCl (K : PySem.W.Frag) (v : Value) : Prop := (∃ D bm', v = .ref D ∧ ExK K D bm') ∨ ∃ T, v = .type T ∧ PySem.W.kitMeta T = true
theorem ExK.kit (T : ExK K C bm) {v : Value} (hv : IsCl K v) : PySem.W.kitOne K (.ref C) v = Option.some ((Value.ref C :: bm).contains v) := by
  unfold PySem.W.kitOne
  by_cases e : (Value.ref C == v) = true
  · rw [if_pos e]
    have e' : Value.ref C = v := beq_iff_eq.mp e
    subst e'
    rw [List.contains_cons]
    simp
  · rw [if_neg e]
    rcases hv with ⟨D, bm', rfl, T'⟩ | ⟨t, rfl, hm⟩
    · unfold PySem.W.kitCls
      dsimp only
      rw [T'.some, T'.ty]
      rw [if_pos (by decide)]
      exact T.mroIn _
    · unfold PySem.W.kitCls
      dsimp only
      rw [if_pos hm]
      exact T.mroIn _
end
/-- the exception at a stands, its dict too -/
def XAt (H : Hp) (a C : Addr) : Prop := H a = some (exo a C none) ∨ ∃ dx fs, H a = some (exo a C (some dx)) ∧ H dx = some (exd dx fs)
/-- isinstance(e, c) -/
def rIsX (K : PySem.W.Frag) : List V → Hp → VK → Prop := fun xs H Q => ∃ (a C : Addr) (bm : List Value) (cv : Value) (c : V), xs = [.ref a, c] ∧ XAt H a C ∧ ExK K C bm ∧ (∀ u, RelV c u → u = cv) ∧ IsCl K cv ∧ Q (.bl ((Value.ref C :: bm).contains cv)) H
/-- what of the built-in object.__class__ is asked -/
structure ClsG (K : PySem.W.Frag) : Prop where
  hn : PySem.W.specialIn K (.builtin "object.__class__") "__get__" = some (some (.builtin "getset_descriptor.__get__"))
  ht : PySem.W.takesIn K (.builtin "object.__class__") = some true
section
variable {X : Cx} {pins : List (Addr × Obj)} {σ : St} {H : Hp} {s : Shared} {a C : Addr} {bm : List Value}
theorem XAt.inst (I : Inv X pins σ H s) (h : XAt H a C) : ∃ (ox : Obj) (od : Option Obj), PySem.W.InstAt s.heap a ox C od := by
  rcases h with h | ⟨dx, fs, h, hd⟩
  · obtain ⟨t1, ho⟩ := exo_at I.hok h
    exact ⟨_, none, ho, rfl, rfl, trivial⟩
  · obtain ⟨t1, ho⟩ := exo_at I.hok h
    obtain ⟨mA, ⟨o, es, ep, h1, h2⟩, _⟩ := exd_at I.hok hd
    exact ⟨_, some o, ho, rfl, rfl, h1⟩
theorem call_isX (G : ClsG X.K) : CallR X (.builtin "isinstance") (rIsX X.K) := by
  intro pins s σ H xs us Q I r h
  obtain ⟨a, C, bm, cv, c, rfl, hx, T, hcv, hC, q⟩ := h
  cases r with
  | cons rx rr =>
    cases rr with
    | cons rt rr =>
      cases rr
      cases rx
      have ec := hcv _ rt
      subst ec
      obtain ⟨ox, od, J⟩ := hx.inst I
      exact PySem.W.kia_one (PySem.W.kitx_exc (gt := none) T.some T.ga T.gt T.sub T.ca G.hn G.ht T.obj) I.kIn J (T.kit hC) (fun z => nomatch z) fun tk => ⟨.bl _, H, I.kept (t' := tk) fun _ _ z => z, rfl, q⟩
end
/-- e.f -/
def tXg (K : PySem.W.Frag) (f : Str) (te : TE) : TE := fun σ H Q => te σ H fun x H1 => ∃ (a C dx : Addr) (fs : List (Str × V)) (v : V) (bm : List Value), x = .ref a ∧ H1 a = some (exo a C (some dx)) ∧ H1 dx = some (exd dx fs) ∧ fs.lookup f = some v ∧ ExK K C bm ∧ PySem.W.findIn K (.ref C) f = some none ∧ Q v H1
theorem pe_xg {X : Cx} {e : Expr} {te : TE} {pos : Pos} {n : Str} (he : PE X e te) (hb : attributeBase e n X.env (eval e X.env) = eval e X.env := by rfl) : PE X (.Attribute e n pos) (tXg X.K n te) := by
  refine ⟨fun pins s σ H Q I h => ?_⟩
  refine attr_of hb (thn (he.run pins s σ H _ I h) fun u s1 hh => ?_)
  obtain ⟨x, H1, I1, rx, a, C, dx, fs, v, bm, rfl, ha, hd, hl, T, hno, q⟩ := hh
  obtain rfl : u = Value.ref a := rx
  obtain ⟨t1, ho⟩ := exo_at I1.hok ha
  obtain ⟨mA, hns, hr⟩ := exd_at I1.hok hd
  obtain ⟨od, hod, hlk⟩ := lookIn_ns hns
  obtain ⟨y, hy, ry⟩ := RelO.some_of (v := v) (o := mA n) (by rw [← hl]; exact hr n)
  have J : PySem.W.InstAt s1.heap a _ C (some od) := ⟨ho, rfl, rfl, hod⟩
  exact HandSPX.exc_get I1.kIn J T.ga T.gt T.sub (PySem.W.findObj_own T.dct hno rfl (by rw [hlk, hy])) (handed_of ry) ⟨v, H1, I1.tok _, ry, q⟩
/-- self.f = e, the first one -/
def tXs (K : PySem.W.Frag) (f : Str) (to te : TE) : TS := fun D σ H => te σ H fun y H1 => to σ H1 fun x H2 => ∃ (a C : Addr) (bm : List Value), x = .ref a ∧ ExK K C bm ∧ PySem.W.findIn K (.ref C) f = some none ∧ H2 a = some (exo a C none) ∧
  ∀ dx, H2 dx = none → dx ≠ a → D.nx σ (upd (upd H2 dx (exd dx [(f, y)])) a (exo a C (some dx)))
section
variable {X : Cx} {pins : List (Addr × Obj)} {σ : St} {H : Hp} {s : Shared} {a C : Addr} {bm : List Value} {f : Str} {y : V} {u : Value} {Q : Unit → Shared → Prop} {E : Value → Shared → Prop} {A : Around}
theorem xs_new (T : ExK X.K C bm) (I : Inv X pins σ H s) (e : H a = some (exo a C none)) (hno : PySem.W.findIn X.K (.ref C) f = some none) (ry : RelV y u)
    (h : ∀ dx s', H dx = none → dx ≠ a → Inv X pins σ (upd (upd H dx (exd dx [(f, y)])) a (exo a C (some dx))) s' → Q () s') : wpAny (model X.prog X.w) A (setAttr (.ref a) f u) Q E s := by
  obtain ⟨cd, hcl, hmro, hhd⟩ := T.cls
  obtain ⟨t1, ho⟩ := exo_at I.hok e
  obtain ⟨hp, g, d, t, os⟩ := s
  have hps : refuseLoop (.ref a) "__setattr__" cd.mro = pure () := by
    rw [hmro, refuseLoop_ref]
    exact T.ps _
  refine PySem.W.set_plain I.kIn (od := none) ⟨ho, rfl, rfl, trivial⟩ T.sa ?_
  refine XK.setNew I.kIn ho hcl hps T.obj hhd hno (fun h' tk' dx k dn dne hx hn => ?_)
  have fd : H dx = none := I.hok.fresh dn
  have n1 : ∀ {b : Addr} {o : Obj}, hp.get? b = some o → b ≠ dx := fun {b o} z => Nat.ne_of_lt (Nat.lt_of_lt_of_le (Heap.lt_size z) dn)
  have n2 : ∀ {b : Addr}, H b = none → b ≠ a := fun {b} n z => by
    rw [z, e] at n
    cases n
  have U : Un X.fs [] H (upd (upd H dx (exd dx [(f, y)])) a (exo a C (some dx))) hp h' := {
    keep := fun b o z n _ _ => k b o (n2 n) z
    slot := fun b o z n _ _ => ⟨o.slots, k b o (n2 n) z⟩
    free := fun b o z n _ => by rw [upd_ne (n2 n), upd_ne (n1 z)]; exact n
    there := fun b o z _ => by
      by_cases hb : b = a
      · exact ⟨_, by rw [hb]; exact hx⟩
      · exact ⟨o, k b o hb z⟩
    tups := fun b xs z => by rw [upd_ne (at_ne e z exo_tup), upd_ne (ne_of_none z fd)]; exact z
    frzs := fun b o v z => by rw [upd_ne (at_ne e z exo_frz), upd_ne (ne_of_none z fd)]; exact z
    tbls := fun b ps z => ⟨#[], by rw [upd_ne (at_ne e z exo_tbl), upd_ne (ne_of_none z fd), z]; simp⟩ }
  refine h dx _ fd dne (I.un (t' := tk') U fun b o z => ?_)
  by_cases hb : b = a
  · subst hb
    rw [upd_same] at z
    cases z
    exact exo_ok hx
  · rw [upd_ne hb] at z
    by_cases hd : b = dx
    · subst hd
      rw [upd_same] at z
      cases z
      exact exd_ok hn (relO_put (fs := []) ry fun g => True.intro)
    · rw [upd_ne hd] at z
      refine (I.hok b o z).stay (fun c v hc z2 => k c v ?_ z2) (fun c hc => ?_) (fun c xs hc => ?_)
      · rcases hc with hc | hc
        · rw [hc]
          exact hb
        · exact at_ne e hc exo_own
      · rw [upd_ne (at_ne e hc exo_own), upd_ne (ne_of_none hc fd)]
        exact hc
      · rw [upd_ne (at_ne e hc exo_tup), upd_ne (ne_of_none hc fd)]
        exact hc
theorem xi_ok {us : List Value} {Q : Value → Shared → Prop} {B id : String} (F : XK.Ini B id) (T : ExK X.K C bm) (hB : bm.contains (.type B) = true) (I : Inv X pins σ H s) (e : H a = some (exo a C none)) (hl : us.length ≤ sizeLine) (h : ∀ s', Inv X pins σ H s' → Q .none s') :
    wpAny (model X.prog X.w) A (call (.builtin id) (.ref a :: us)) Q E s := by
  obtain ⟨B', n, i, bmB, nm, q, N, bs, sn, sub, ab, col, dd, k0, k1, k2, k3, k5, _, _, hC⟩ := T.ex
  obtain ⟨t1, ho⟩ := exo_at I.hok e
  obtain ⟨hp, g, d, t, os⟩ := s
  refine wpAny_call (XK.iniRun F hB (I.kIn _ _ hC) ho hl fun h' t2 k hx => ?_)
  have J := I.write (t' := t) (x := a) (e := a) (o := exo a C none) (by rw [e]; exact True.intro) (.inl rfl) k ⟨_, hx⟩ (exo_ok hx)
  have eu : upd H a (exo a C none) = H := by
    funext b
    by_cases hb : b = a
    · rw [hb, upd_same, e]
    · rw [upd_ne hb]
  rw [eu] at J
  exact h _ J
end
theorem ps_xs {X : Cx} {o e : Expr} {to te : TE} {f : Str} {p' pos : Pos} (ho : PE X o to) (he : PE X e te) (hs : swapsWith e (some (.Attribute o f p')) pos.line X.env = pure false := by rfl) : PS X (.Assign [.Attribute o f p'] e pos) (tXs X.K f to te) := by
  refine ⟨fun pins s σ H D I h => ?_⟩
  refine plainObj_wpAny_Assign_Attribute (thn (he.run pins s σ H _ I h) fun v s1 ⟨y, H1, I1, r1, q1⟩ => thn (ho.run pins s1 σ H1 _ I1 q1) fun u s2 hz => ?_) hs
  obtain ⟨x, H2, I2, r2, a, C, bm, ex, T, hno, ea, q⟩ := hz
  subst ex
  obtain rfl : u = Value.ref a := r2
  exact xs_new T I2 ea hno r1 fun dx s' n ne J => ⟨σ, _, J, q dx n ne⟩
/-- B.__init__(self, ..) -/
def tXi (K : PySem.W.Frag) (B : String) (ta : TA) : TE := fun σ H Q => ta σ H fun vs H1 => ∃ (a C : Addr) (ws : List V) (bm : List Value), vs = .ref a :: ws ∧ ws.length ≤ 1000 ∧ ExK K C bm ∧ bm.contains (.type B) = true ∧ H1 a = some (exo a C none) ∧ Q .non H1
section
variable {X : Cx} {e : Expr} {es : List Expr} {ta : TA} {p1 p2 pos : Pos} {x : Str} {B id : String} {D : Addr}
theorem xi_end {pins : List (Addr × Obj)} {σ : St} {H : Hp} {s : Shared} {Q : VK} (F : XK.Ini B id) (I : Inv X pins σ H s) (ha : PA X (e :: es) ta) (h : tXi X.K B ta σ H Q)
    (he : starEach (e :: es) X.env = (false, eval e X.env) :: starEach es X.env) (hpl : (backTo pos (starEach es X.env)).any (·.1) = false) :
    wpAny (model X.prog X.w) X.A (callWith pos (Value.builtin id) [] (backTo pos (starEach (e :: es) X.env)) []) (EP X pins σ Q) X.xe s := by
  refine PyProof.Rows.callWith_method1 (thn (ha.run pos pins s σ H _ I h) fun us s1 hz => ?_) he hpl
  obtain ⟨vs, H1, I1, r1, a, C, ws, bm, ev, hl, T, hB, ea, q⟩ := hz
  subst ev
  cases r1 with
  | @cons _ u0 _ ur ra rr =>
    obtain rfl : u0 = Value.ref a := ra
    have hlen : ur.length ≤ sizeLine := by
      rw [← Paired.length rr, sizeLine_eq]
      omega
    exact xi_ok F T hB I1 ea hlen fun s' J => ⟨.non, H1, J, rfl, q⟩
theorem pe_bi {pl : Sem Bool} (F : XK.Ini B id) (hg : Gl X x) (hm : X.mg x = none) (bt : bootBuiltins x = some (.type B)) (ty : typeOf (.type B) = pure (.type "type")) (st : Manifest.isStub B = false) (hh : PySem.W.handedIn (.builtin id) = true)
    (vV : PySem.W.findCls X.K (.type B) (.type "type") "__init__" = some (.val (.builtin id))) (ha : PA X (e :: es) ta)
    (hc : eval (.Call (.Attribute (.Name x p1) "__init__" p2) (e :: es) [] pos) X.env = (do
      let ov ← eval (.Name x p1) X.env
      standAt p2.atName
      let (f, first) ← holding [ov] (getMethod ov "__init__" pl)
      callWith pos f first (backTo pos (starEach (e :: es) X.env)) (backToKw pos (keywordEach [] X.env))) := by rfl)
    (he : starEach (e :: es) X.env = (false, eval e X.env) :: starEach es X.env := by rfl) (hpl : (backTo pos (starEach es X.env)).any (·.1) = false := by rfl) (hn : x ≠ "__name__" := by decide) (hdb : (x == ("__debug__" : Str)) = false := by decide) :
    PE X (.Call (.Attribute (.Name x p1) "__init__" p2) (e :: es) [] pos) (tXi X.K B ta) := by
  refine ⟨fun pins s σ H Q I h => ?_⟩
  refine PySem.W.methodCall_KW (ld_blt I hg hm bt ?_ hn hdb) hc
  obtain ⟨m, fr⟩ := I.fr
  refine PySem.W.method_type fr I.ok.mod.kin ty st vV hh ?_
  show wpAny _ _ (callWith pos (Value.builtin id) [] (backTo pos (starEach (e :: es) X.env)) []) _ _ _
  exact xi_end F (I.tok _) ha h he hpl
theorem pe_hi {pl : Sem Bool} (F : XK.Ini B id) (hg : Gl X x) (hm : X.mg x = some (.ref D)) (sg : PySem.W.specialIn X.K (.ref D) "__getattribute__" = some (some (.builtin "type.__getattribute__"))) (rd : PySem.W.readsIn X.K D (.type "type") = true) (hh : PySem.W.handedIn (.builtin id) = true)
    (vV : PySem.W.findCls X.K (.ref D) (.type "type") "__init__" = some (.val (.builtin id))) (ha : PA X (e :: es) ta)
    (hc : eval (.Call (.Attribute (.Name x p1) "__init__" p2) (e :: es) [] pos) X.env = (do
      let ov ← eval (.Name x p1) X.env
      standAt p2.atName
      let (f, first) ← holding [ov] (getMethod ov "__init__" pl)
      callWith pos f first (backTo pos (starEach (e :: es) X.env)) (backToKw pos (keywordEach [] X.env))) := by rfl)
    (he : starEach (e :: es) X.env = (false, eval e X.env) :: starEach es X.env := by rfl) (hpl : (backTo pos (starEach es X.env)).any (·.1) = false := by rfl) (hdb : (x == ("__debug__" : Str)) = false := by decide) :
    PE X (.Call (.Attribute (.Name x p1) "__init__" p2) (e :: es) [] pos) (tXi X.K B ta) := by
  refine ⟨fun pins s σ H Q I h => ?_⟩
  refine PySem.W.methodCall_KW (ld_glob I hg hm ?_ hdb) hc
  refine PySem.W.method_cls I.kIn sg (PySem.W.cls_value I.kIn rd vV hh ?_)
  show wpAny _ _ (callWith pos (Value.builtin id) [] (backTo pos (starEach (e :: es) X.env)) []) _ _ _
  exact xi_end F (I.tok _) ha h he hpl
end
/-! ### C(..) -/
def spI0 (C : Addr) : Sp := fun vs H Q _ => ∃ a, vs = [.ref a] ∧ H a = some (exo a C none) ∧ Q .non H
def spI1 (C : Addr) (f : Str) : Sp := fun vs H Q _ => ∃ a v, vs = [.ref a, v] ∧ H a = some (exo a C none) ∧ ∀ d, H d = none → d ≠ a → Q .non (upd (upd H d (exd d [(f, v)])) a (exo a C (some d)))
def tMk0 (C : Addr) : TE := fun σ H Q => ∀ a, H a = none → Q (.ref a) (upd H a (exo a C none))
def tMk1 (C : Addr) (f : Str) (te : TE) : TE := fun σ H Q => te σ H fun v H1 => ∀ a d, H1 a = none → H1 d = none → d ≠ a → Q (.ref a) (upd (upd H1 d (exd d [(f, v)])) a (exo a C (some d)))
/-- the class makes, its __init__ stands at fI -/
structure XMk (K : PySem.W.Frag) (C fI : Addr) : Prop where
  kx : ∃ bm, ExK K C bm
  iC : PySem.W.findIn K (.ref C) "__init__" = some (some (.ref fI))
  tI : PySem.W.typeIn K (.ref fI) = some (.type "function")
section
variable {X : Cx} {CX : CXT} {k : Nat} {fI C : Addr} {fd : FuncData} {ps : List Str} {sp : Sp} {E : XK} {x f : Str} {p pos kpos : Pos} {e : Expr} {te : TE}
theorem run_mkX {pins : List (Addr × Obj)} {σ : St} {H : Hp} {s : Shared} {Q : VK} {us : List Value} {kw : List (Str × Value)} {fu : Value → List Value} {fv : V → List V} (M : XMk X.K C fI) (F1 : FnOk X.prog X.w X.K X.mg X.base CX k fI fd ps sp) (hr : Room (k + 1) X.A) (hx : Passes CX X E)
    (hb : ∀ (s' : Shared) (b : Addr), BindsTo s' fd ⟨.ref b :: us, kw⟩ (ps.zip (fu (.ref b)))) (hv : ∀ b : Addr, Vals (fv (.ref b)) (fu (.ref b))) (hus : us.length ≤ sizeLine) (I : Inv X pins σ H s)
    (h : ∀ a, H a = none → sp (fv (.ref a)) (upd H a (exo a C none)) (fun v H2 => v = .non ∧ Q (.ref a) H2) E) : wpAny (model X.prog X.w) X.A (call (.ref C) us kw) (EP X pins σ Q) X.xe s := by
  obtain ⟨bm, T⟩ := M.kx
  obtain ⟨B, nid, iid, bmB, nm, q, N, bs, sn, sub, ab, col, dd, k0, k1, k2, k3, k5, F, m, hC⟩ := T.ex
  obtain ⟨hp, g, dr, tk, os⟩ := s
  have hsz : hp.objs.size ≤ hp.objs.size + 1 := Nat.le_succ _
  have fa : H (hp.objs.size + 1) = none := I.hok.fresh hsz
  have hq := h (hp.objs.size + 1) fa
  have kk : ∀ b o, hp.get? b = some o → ((hp.push (PySem.W.kdv_tup us)).push (PySem.HandSPX.excO C hp.objs.size)).get? b = some o := fun b o z => Heap.get?_push_of_some _ (Heap.get?_push_of_some _ z)
  have oE : ((hp.push (PySem.W.kdv_tup us)).push (PySem.HandSPX.excO C hp.objs.size)).get? (hp.objs.size + 1) = some (PySem.HandSPX.excO C hp.objs.size) := by heap_get
  have I2 : Inv X pins σ (upd H (hp.objs.size + 1) (exo (hp.objs.size + 1) C none)) ⟨(hp.push (PySem.W.kdv_tup us)).push (PySem.HandSPX.excO C hp.objs.size), g, dr, tk, os⟩ :=
    I.laid (t' := tk) (a := hp.objs.size + 1) (o := exo (hp.objs.size + 1) C none) (h' := (hp.push (PySem.W.kdv_tup us)).push (PySem.HandSPX.excO C hp.objs.size)) kk hsz (exo_ok oE)
  refine wpAny_call (XK.callCls F m (I.kIn _ _ hC) (PySem.W.looks_findIn I.kIn M.iC) (fun z => PySem.W.bind_fn I.kIn z M.tI) hus
    (codeAny_mono (F1.run _ X.stack _ _ ⟨Value.ref (hp.objs.size + 1) :: us, kw⟩ (fu (.ref (hp.objs.size + 1))) _ _ E (hr.make C us kw) (I2.env0.make C us kw) (hb _ _) (hv _) hq) fun r s' hq' => ?_))
  cases r with
  | error er => exact hx pins σ _ _ er s' I2 hq'
  | ok fl =>
    cases fl with
    | ret u =>
      obtain ⟨v, H', I3, rv, ev, q3⟩ := I2.after hq'
      subst ev
      exact ⟨rv, ⟨V.ref (hp.objs.size + 1), H', I3, rfl, q3⟩⟩
    | next => exact False.elim hq'
    | brk => exact False.elim hq'
    | cont => exact False.elim hq'
theorem mk1_heap {H : Hp} {a d : Addr} {o1 o2 o3 : HO} (n : d ≠ a) : upd (upd (upd H a o1) d o2) a o3 = upd (upd H d o2) a o3 := by
  funext b
  by_cases hb : b = a
  · rw [hb, upd_same, upd_same]
  · rw [upd_ne hb, upd_ne hb]
    by_cases hd : b = d
    · rw [hd, upd_same, upd_same]
    · rw [upd_ne hd, upd_ne hd, upd_ne hb]
/-- one value: what follows C(v) -/
def mk1Q (C : Addr) (f : Str) (Q : VK) : List V → Hp → Prop := fun xs H1 => match xs with
  | [v] => ∀ a d, H1 a = none → H1 d = none → d ≠ a → Q (.ref a) (upd (upd H1 d (exd d [(f, v)])) a (exo a C (some d)))
  | _ => False
theorem pe_mk0 {sf : Str} (M : XMk X.K C fI) (F1 : FnOk X.prog X.w X.K X.mg X.base CX k fI fd [sf] (spI0 C)) (hr : Room (k + 1) X.A) (hx : Passes CX X E) (hb : ∀ (s' : Shared) (b : Value), BindsTo s' fd ⟨[b], []⟩ [(sf, b)])
    (hg : Gl X x) (hm : X.mg x = some (.ref C)) (hdb : (x == ("__debug__" : Str)) = false := by decide) : PE X (.Call (.Name x p) [] [] pos) (tMk0 C) := by
  obtain ⟨bm, T⟩ := M.kx
  refine ⟨fun pins s σ H Q I h => ?_⟩
  refine wpAny_Call_Name_kw (ld_glob I hg hm ?_ hdb)
  refine PySem.W.callWith_K0 I.kIn T.kC ?_
  exact run_mkX (E := E) (us := []) (kw := []) (fu := fun b => [b]) (fv := fun b => [b]) M F1 hr hx (fun s' b => hb s' _) (fun b => .cons rfl .nil) (Nat.zero_le _) I fun a fa => ⟨a, rfl, upd_same, rfl, h a fa⟩
theorem pe_mk1 {sf nf : Str} (M : XMk X.K C fI) (F1 : FnOk X.prog X.w X.K X.mg X.base CX k fI fd [sf, nf] (spI1 C f)) (hr : Room (k + 1) X.A) (hx : Passes CX X E) (hb : ∀ (s' : Shared) (b v : Value), BindsTo s' fd ⟨[b, v], []⟩ [(sf, b), (nf, v)])
    (hg : Gl X x) (hm : X.mg x = some (.ref C)) (he : PE X e te) (hdb : (x == ("__debug__" : Str)) = false := by decide) (hs : starEach [e] X.env = (false, eval e X.env) :: starEach [] X.env := by rfl) : PE X (.Call (.Name x p) [e] [] pos) (tMk1 C f te) := by
  obtain ⟨bm, T⟩ := M.kx
  refine ⟨fun pins s σ H Q I h => ?_⟩
  refine wpAny_Call_Name_kw (ld_glob I hg hm ?_ hdb)
  refine PySem.W.callWith_K (h₀ := X.base) I.ok.mod.kin T.kC (thn ((pa_cons he pa_nil hs).run pos pins s σ H (mk1Q C f Q) I h) fun us s1 hz => ?_) hs rfl
  obtain ⟨vs, H1, I1, r1, q⟩ := hz
  match vs, r1, q with
  | [v], .cons ru .nil, q =>
      rename_i u
      refine ⟨I1.kIn, ?_⟩
      refine run_mkX (E := E) (us := [u]) (kw := []) (fu := fun b => [b, u]) (fv := fun b => [b, v]) M F1 hr hx (fun s' b => hb s' _ _) (fun b => .cons rfl (.cons ru .nil)) (by show 1 ≤ sizeLine; rw [sizeLine_eq]; decide) I1 fun a fa => ⟨a, v, rfl, upd_same, fun d nd ne => ⟨rfl, ?_⟩⟩
      rw [mk1_heap ne]
      rw [upd_ne ne] at nd
      exact q a d fa nd ne
theorem pe_mk1k {sf nf : Str} (M : XMk X.K C fI) (F1 : FnOk X.prog X.w X.K X.mg X.base CX k fI fd [sf, nf] (spI1 C f)) (hr : Room (k + 1) X.A) (hx : Passes CX X E) (hb : ∀ (s' : Shared) (b v : Value), BindsTo s' fd ⟨[b], [(nf, v)]⟩ [(sf, b), (nf, v)])
    (hg : Gl X x) (hm : X.mg x = some (.ref C)) (he : PE X e te) (hdb : (x == ("__debug__" : Str)) = false := by decide)
    (hall : (backToKw pos (keywordEach [⟨some nf, e, kpos⟩] X.env)).all (·.1.isSome) = true := by rfl) (hks : (backToKw pos (keywordEach [⟨some nf, e, kpos⟩] X.env)).filterMap (·.1) = [nf] := by rfl)
    (hpl : ((backTo pos (starEach [] X.env)).any (·.1) || (backToKw pos (keywordEach [⟨some nf, e, kpos⟩] X.env)).any (·.1.isNone)) = false := by rfl) : PE X (.Call (.Name x p) [] [⟨some nf, e, kpos⟩] pos) (tMk1 C f te) := by
  obtain ⟨bm, T⟩ := M.kx
  refine ⟨fun pins s σ H Q I h => ?_⟩
  refine wpAny_Call_Name_kw (ld_glob I hg hm ?_ hdb)
  refine PySem.W.callWith_KW0 (h₀ := X.base) I.ok.mod.kin T.kC hall ?_ hpl
  refine thn ((pk_cons he pk_nil).run pos pins s σ H (mk1Q C f Q) I h) fun ws s1 hz => ?_
  obtain ⟨vs, H1, I1, r1, q⟩ := hz
  match vs, r1, q with
  | [v], .cons ru .nil, q =>
      rename_i u
      refine ⟨I1.kIn, ?_⟩
      rw [hks]
      refine run_mkX (E := E) (us := []) (kw := [(nf, u)]) (fu := fun b => [b, u]) (fv := fun b => [b, v]) M F1 hr hx (fun s' b => hb s' _ _) (fun b => .cons rfl (.cons ru .nil)) (Nat.zero_le _) I1 fun a fa => ⟨a, v, rfl, upd_same, fun d nd ne => ⟨rfl, ?_⟩⟩
      rw [mk1_heap ne]
      rw [upd_ne ne] at nd
      exact q a d fa nd ne
end
end L2

set_option Elab.async false
set_option linter.all false
set_option maxRecDepth 100000
set_option maxHeartbeats 4000000
namespace L2
open PySem PySem.Spec PyProof.Rows
/-! ### repr of a list of one thing, so many times -/
def RdV (K : PySem.W.Frag) (H : Hp) (v : V) (d : PyData) : Prop := Dp K H v d ∨ ∃ p, v = .ref p ∧ H p = some (.dK []) ∧ d = .dict []
def rRepL (K : PySem.W.Frag) : List V → Hp → VK → Prop := fun xs H Q => ∃ (a : Addr) (n : Nat) (v : V) (d : PyData), xs = [.ref a] ∧ SqL K H a (List.replicate (n + 1) v) ∧ RdV K H v d ∧ d.showable = true ∧
  (listText (List.replicate (n + 1) d.shown)).length ≤ sizeLine ∧ d.depth ≤ 40 ∧ Q (.str (listText (List.replicate (n + 1) d.shown))) H
theorem vals_rep {v : V} : ∀ {m : Nat} {its : List Value}, Vals (List.replicate m v) its → its.length = m ∧ ∀ (i : Nat) (y : Value), its[i]? = some y → i < m ∧ RelV v y
  | 0, _, r => by
    cases r
    exact ⟨rfl, fun i y z => by simp at z⟩
  | m + 1, _, r => by
    cases r with
    | cons r1 r2 =>
      obtain ⟨e, ih⟩ := vals_rep r2
      refine ⟨by rw [List.length_cons, e], fun i y z => ?_⟩
      cases i with
      | zero =>
        simp at z
        subst z
        exact ⟨Nat.succ_pos _, r1⟩
      | succ i =>
        obtain ⟨h1, h2⟩ := ih i y (by simpa using z)
        exact ⟨Nat.succ_lt_succ h1, h2⟩
theorem dp_rep {K : PySem.W.Frag} {H : Hp} {v : V} {d : PyData} (h : Dp K H v d) : ∀ m : Nat, DpAll K H (List.replicate m v) (List.replicate m d)
  | 0 => .nil
  | m + 1 => .cons h (dp_rep h m)
theorem depth_rep (d : PyData) (m : Nat) : d.depth ≤ PyData.depthAll (List.replicate (m + 1) d) := by
  show d.depth ≤ PyData.depthAll (d :: List.replicate m d)
  simp only [PyData.depthAll]
  exact Nat.le_max_left _ _
theorem listText_in {ts : List Str} {t : Str} (h : t ∈ ts) (hz : (listText ts).length ≤ sizeLine) : t.length ≤ sizeLine := Nat.le_trans (listText_mem_le h) hz
section
variable {X : Cx} {pins : List (Addr × Obj)} {σ : St} {H : Hp} {s : Shared}
theorem noDict_dp {K : PySem.W.Frag} : ∀ {d : PyData} {v : V}, Dp K H v d → d.hasDict = false := by
  have key : ∀ (n : Nat), (∀ (d : PyData) (v : V), d.depth ≤ n → Dp K H v d → d.hasDict = false) := by
    intro n
    induction n with
    | zero =>
      intro d v hd h
      cases h with
      | non => simp [PyData.hasDict]
      | bl b => simp [PyData.hasDict]
      | int i => simp [PyData.hasDict]
      | str x => simp [PyData.hasDict]
      | lst h1 h2 => simp [PyData.depth] at hd
      | tup h1 h2 => simp [PyData.depth] at hd
    | succ n ih =>
      have all : ∀ (ds : List PyData) (vs : List V), PyData.depthAll ds ≤ n → DpAll K H vs ds → PyData.hasDictAll ds = false := by
        intro ds
        induction ds with
        | nil => intro vs _ _; simp [PyData.hasDictAll]
        | cons d ds ih2 =>
          intro vs hd h
          cases h with
          | cons h1 h2 =>
            simp only [PyData.depthAll] at hd
            rw [PyData.hasDictAll, ih d _ (Nat.le_trans (Nat.le_max_left _ _) hd) h1, ih2 _ (Nat.le_trans (Nat.le_max_right _ _) hd) h2]
            rfl
      intro d v hd h
      cases h with
      | non => simp [PyData.hasDict]
      | bl b => simp [PyData.hasDict]
      | int i => simp [PyData.hasDict]
      | str x => simp [PyData.hasDict]
      | lst h1 h2 =>
        rw [PyData.hasDict]
        refine all _ _ ?_ h2
        simp only [PyData.depth] at hd
        omega
      | tup h1 h2 =>
        rw [PyData.hasDict]
        refine all _ _ ?_ h2
        simp only [PyData.depth] at hd
        omega
  intro d v h
  exact key d.depth d v (Nat.le_refl _) h
theorem rep_items {a : Addr} {n : Nat} {v : V} {d : PyData} (I : Inv X pins σ H s) (hS : SqL X.K H a (List.replicate (n + 1) v)) (hR : RdV X.K H v d) (hsh : d.showable = true) (hz : d.shown.length ≤ sizeLine) :
    ∃ bs : List Addr, a ∉ bs ∧ ∀ y, RelV v y → ReprK X.prog X.w bs s.heap (d.depth + 1) y d.shown := by
  rcases hR with hD | ⟨p, rfl, hp, rfl⟩
  · cases v with
    | ref p =>
      obtain ⟨as, rd⟩ := Dp.reads I d (.ref p) (.ref p) hD rfl
      obtain ⟨bs, hb, hk⟩ := ReprK.of_reads (prog := X.prog) (w := X.w) rd hsh (PyData.noDict_hsm (noDict_dp hD)) hz
      obtain ⟨as2, rl⟩ := Dp.reads I (.list (List.replicate (n + 1) d)) (.ref a) (.ref a) (.lst hS (dp_rep hD (n + 1))) rfl
      have hna : a ∉ bs := not_mem_of_deeper rl (by
        simp only [PyData.depth]
        have := depth_rep d n
        omega) hb
      refine ⟨bs, hna, fun y ry => ?_⟩
      obtain rfl : y = Value.ref p := ry
      exact hk.level_le (Nat.le_succ _)
    | _ =>
      refine ⟨[], by simp, fun y ry => ?_⟩
      obtain ⟨as, rd⟩ := Dp.reads I d _ y hD ry
      cases rd with
      | list h1 h2 h3 h4 => cases hD <;> cases ry
      | tuple h1 h2 h3 h4 => cases hD <;> cases ry
      | dict h1 h2 h3 h4 h5 => cases hD
      | none => simp only [PyData.shown]; exact .of_is ReprIs.none _ _ _
      | bool b => simp only [PyData.shown]; exact .of_is (ReprIs.bool b) _ _ _
      | int i t => simp only [PyData.shown]; exact .of_is (ReprIs.int t (by simpa [PyData.showable] using hsh)) _ _ _
      | str x t => simp only [PyData.shown]; exact .of_is (ReprIs.str x t (by simpa only [PyData.shown] using hz)) _ _ _
  · obtain ⟨_, hsys, vs, kv, o, es, ep, h1, h2, h3, _, h5, _⟩ := (show ObjOk X.prog X.w H s.heap p (.dK []) from I.hok p _ hp)
    cases kv
    have he : es.toList = [] := by
      cases hl : es.toList with
      | nil => rfl
      | cons e r =>
        rw [hl] at h5
        cases h5
    obtain ⟨its, rv, ⟨oa, nn, ho, hc, _, hd⟩, _⟩ := I.list hS
    have hap : a ≠ p := fun z => by
      subst z
      rw [h1] at ho
      cases ho
      rw [h3] at hd
      cases hd
    refine ⟨[p], by simpa using hap, fun y ry => ?_⟩
    obtain rfl : y = Value.ref p := ry
    have q := ReprK.dict (prog := X.prog) (w := X.w) (as := []) (d := 0) h1 h2.1 h3 hsys (by simp) (by rw [he]; exact .nil)
    exact q.level_le (by simp [PyData.depth, PyData.depthKv])
theorem call_repL {k : Nat} (hr : Room k X.A) (hG : X.A.guards = some []) : CallR X (.builtin "repr") (rRepL X.K) := by
  intro pins s σ H xs us Q I r h
  obtain ⟨a, n, v, d, rfl, hS, hR, hsh, hz, hdp, q⟩ := h
  cases r with
  | cons rx rr =>
    cases rr
    cases rx
    have hin : d.shown ∈ List.replicate (n + 1) d.shown := by simp
    obtain ⟨bs, hna, hk⟩ := rep_items I hS hR hsh (listText_in hin hz)
    obtain ⟨its, rv, ⟨oa, nn, ho, hc, _, hd⟩, _⟩ := I.list hS
    obtain ⟨hlen, hit⟩ := vals_rep rv
    have hu := hr.units
    cases hits : its with
    | nil =>
      rw [hits] at hlen
      cases hlen
    | cons y0 l =>
      rw [hits] at hd hlen hit
      refine call_repr_slot (by omega) ⟨oa, ho, hc⟩ F.slot_list_repr.toG ?_
      refine call_list_reprK (ts := List.replicate (n + 1) d.shown) (d := d.depth + 1) ho hc hd hna (by simpa using hlen.symm) (fun i y z => ?_) hG (fun b _ => Clear.nil b) (by show X.A.units + 1 + (d.depth + 1 + 1) < cLine; omega) (fun b o z => z) (fun h' u tk hkp => ?_) hz
      · obtain ⟨h1, h2⟩ := hit i y (by simpa using z)
        refine ⟨d.shown, ?_, hk y h2⟩
        rw [List.getElem?_replicate, if_pos h1]
      · exact ⟨_, _, rfl, ⟨.str _, H, I.kept (t' := tk) hkp, ⟨u, rfl⟩, q⟩⟩
end
end L2

set_option Elab.async false
set_option linter.all false
set_option maxRecDepth 100000
set_option maxHeartbeats 4000000
namespace L2
open PySem PySem.Spec PyProof.Rows
/-- a def's promise at one place alone -/
def RunAt (P : Program) (w : World) (K : PySem.W.Frag) (mg : Str → Option Value) (base : Heap) (CX : CXT) (A : Around) (f : Addr) (fd : FuncData) (ps : List Str) (sp : Sp) : Prop :=
  ∀ (outer : List Env) (s : Shared) (H : Hp) (args : Args) (us : List Value) (vs : List V) (Q : VK) (E : XK), Env0 P w K mg base A outer s H → BindsTo s fd args (ps.zip us) → Vals vs us → sp vs H Q E → codeAny (model P w) A (.call (.ref f) args) (CR CX outer P w H s Q E) s
theorem run_at {CX : CXT} {P : Program} {w : World} {K : PySem.W.Frag} {mg : Str → Option Value} {base : Heap} {k : Nat} {f : Addr} {name qual : Str} {params : Arguments} {body : List Stmt} {sc : Scope} {dV kV doc pm cdv ct oc : Value} {an od : Option Addr}
    {osl : Array (Option Value)} {N ps : List Str} {sp : Sp} {A : Around} (lk : K.lookup f = some ⟨oc, od, .func (PySem.W.fnOf name qual params body sc dV kV doc pm an cdv ct), osl⟩) (hcd : PySem.W.codeIn K cdv qual = true) (S : FnScope N ps sc)
    (len : ∀ vs H Q E, sp vs H Q E → vs.length = ps.length) (hr : Room (k + 1) A)
    (bd : ∀ (outer : List Env) (s : Shared) (H : Hp) (vs : List V) (Q : VK) (E : XK), sp vs H Q E → ∃ t, PSs (cxOf CX P w K mg base N qual sc f cdv A outer s H E) body t ∧ t { nx := fun _ H' => Q .non H', rt := Q } (start N vs) H) :
    RunAt P w K mg base CX A f (PySem.W.fnOf name qual params body sc dV kV doc pm an cdv ct) ps sp := by
  intro outer s H args us vs Q E e0 hb r hsp
  have l0 := len _ _ _ _ hsp
  have kx : K.In s.heap := e0.mod.kin.keeps fun b o z => (e0.bs b o z).1
  have nl : s.heap.NoLimit := e0.mod.nolimit.keeps fun b o z => (e0.bs b o z).1
  have kd : ∀ y ∈ ps.zip us, sc.names.lookup y.1 = some .local ∨ (sc.names.lookup y.1 = some .cell ∧ ((cellsFrom (s.heap.objs.size + 1) sc.names []).lookup y.1).isSome = true) := fun ⟨n, v⟩ hy => by
    rcases S.par n (List.of_mem_zip hy).1 with z | z
    · exact .inl z
    · exact .inr ⟨z, PySem.W.cellsFrom_some _ _ _ (.inl z)⟩
  refine codeAny_call_function hr.depth (kx _ _ lk) rfl S.co S.gen rfl (PySem.W.codeRec_of kx hcd) (hb _ _ _ _ ?_)
  refine wpAny_newFunctionEnv_cells S.kind kd fun env he s1 x => ?_
  subst he
  refine ⟨nl.keeps x.toInCall.keep, codeAny_func ?_⟩
  obtain ⟨t, ht, hq⟩ := bd outer s H vs Q E hsp
  have J : Inv (cxOf CX P w K mg base N qual sc f cdv A outer s H E) [] (start N vs) H s1 := inv_start S hr.hd e0 l0 r x
  refine wpAny_mono (ht.run [] s1 (start N vs) H _ J hq) (fun fl s' hs => ?_) fun e s' hs => hs
  cases fl with
  | ret u =>
    obtain ⟨v, σ', H', J, rv, q⟩ := hs
    exact ⟨v, H', J.os, J.bare, J.base, J.hok, rv, q⟩
  | next =>
    obtain ⟨σ', H', J, q⟩ := hs
    exact ⟨V.non, H', J.os, J.bare, J.base, J.hok, rfl, q⟩
  | brk =>
    obtain ⟨_, _, _, q⟩ := hs
    exact False.elim q
  | cont =>
    obtain ⟨_, _, _, q⟩ := hs
    exact False.elim q
theorem Fun.at {P : Program} {w : World} {K : PySem.W.Frag} {mg : Str → Option Value} {base : Heap} {x qual : Str} {st : Stmt} {f : Addr} {fd : FuncData} {N ps : List Str} {k : Nat} {sp : Sp} {A : Around} (F : Fun K x qual st f fd) (S : FnScope N ps (defScope st)) (len : ∀ vs H Q E, sp vs H Q E → vs.length = ps.length) (hr : Room (k + 1) A)
    (bd : ∀ (cdv : Value) (outer : List Env) (s : Shared) (H : Hp) (vs : List V) (Q : VK) (E : XK), sp vs H Q E →
      ∃ t, PSs (cxOf CX0 P w K mg base N qual (defScope st) f cdv A outer s H E).nox (defBody st) t ∧ t { nx := fun _ H' => Q .non H', rt := Q } (start N vs) H) : RunAt P w K mg base CX0 A f fd ps sp := by
  obtain ⟨oc, od, kV, doc, pm, an, cdv, ct, osl, rfl, lk, hcd⟩ := F.ex
  refine run_at lk hcd S len hr fun outer s H vs Q E hsp => ?_
  obtain ⟨t, h, q⟩ := bd cdv outer s H vs Q E hsp
  exact ⟨t, h.nox, q⟩
theorem law_at {P : Program} {w : World} {K : PySem.W.Frag} {mg mb : Str → Option Value} {CX : CXT} {fa a : Addr} {fd : FuncData} {x : Str} {sp : Sp} {s₁ : Shared} {vs : List Value} {ns : List Int}
    (kX : K.In s₁.heap) (gN : s₁.heap.Ns mainGlobals mg) (bN : s₁.heap.Ns builtinsNs mb) (bB : ∀ x : Str, x ≠ "__name__" → mb x = bootBuiltins x) (nL : s₁.heap.NoLimit) (g0 : s₁.gens = #[])
    (oa : s₁.heap.get? a = some { cls := .type "list", data := .seq vs.toArray }) (ia : IntsAre vs ns) (la : ns.length ≤ sizeLine)
    (F : ∀ base : Heap, K.In base → base.Ns mainGlobals mg → RunAt P w K mg base CX callerA fa fd [x] sp) (bi : ∀ (s : Shared) (u : Value), BindsTo s fd ⟨[u], []⟩ [(x, u)])
    (pr : ∀ H : Hp, Only H → SqL K H a (ns.map V.int) → sp [.ref a] H (fun v _ => v = .bl true) fun _ _ _ => False)
    (cx : ∀ H e s', CX [] H s₁ (fun _ _ _ => False) e s' → False) :
    codeAny (model P w) callerA (.call (.ref fa) ⟨[.ref a], []⟩) (fun r s' => r = .ok (.ret (.bool true)) ∧ OldK s₁.heap s'.heap ∧ s'.os = s₁.os ∧ AllBare s'.gens) s₁ := by
  have rv := vals_ints ia
  have lv := ia.length
  have kern : ∀ H : Hp, Only H → SqL K H a (ns.map V.int) → HOk P w H s₁.heap → (∀ b, H b ≠ none → b = a) → (H a ≠ none → K.lookup a = none) →
      codeAny (model P w) callerA (.call (.ref fa) ⟨[.ref a], []⟩) (fun r s' => r = .ok (.ret (.bool true)) ∧ OldK s₁.heap s'.heap ∧ s'.os = s₁.os ∧ AllBare s'.gens) s₁ := by
    intro H yO yS yok yA yK
    have up : ∀ {b : Addr} {o : Obj}, s₁.heap.get? b = some o → H b = none → (hidT s₁.heap H).get? b = some o := fun z n => hidT_get z n
    have off : ∀ {b : Addr} {o : Obj} {es : Array DictEntry} {ep : Nat}, s₁.heap.get? b = some o → o.data = .dict es ep → H b = none := fun {b o es ep} z d => by
      cases q : H b with
      | none => rfl
      | some u =>
        have z' : b = a := yA b (by rw [q]; simp)
        subst z'
        rw [oa] at z; cases z
        have d' : Data.seq vs.toArray _ = Data.dict es ep := d
        cases d'
    have nk : ∀ {b : Addr} {m : Str → Option Value}, s₁.heap.Ns b m → (hidT s₁.heap H).Ns b m := fun {b m} ⟨o, es, ep, z, d, r⟩ => ⟨o, es, ep, up z (off z d), d, r⟩
    have kb : K.In (hidT s₁.heap H) := fun b o z => up (kX b o z) (by
      cases q : H b with
      | none => rfl
      | some u =>
        have z' : b = a := yA b (by rw [q]; simp)
        subst z'
        rw [yK (by rw [q]; simp)] at z; cases z)
    have mo : Mod K mg (hidT s₁.heap H) := ⟨kb, nk gN, ⟨mb, nk bN, bB⟩, let ⟨mc, h1, h2⟩ := nL; ⟨mc, nk h1, h2⟩⟩
    have e0 : Env0 P w K mg (hidT s₁.heap H) callerA [] s₁ H := ⟨rfl, mo, fun b o z => of_hidT z, Nat.le_of_eq (hidT_size _ _), trivial, fun b z => absurd (show b ∈ ([] : List Addr) from z) (by simp), yok, .of_eq g0⟩
    refine codeAny_mono (F _ kb (nk gN) [] s₁ H ⟨[.ref a], []⟩ [.ref a] [.ref a] _ _ e0 (bi s₁ (.ref a)) (.cons rfl .nil) (pr H yO yS)) fun r s' h => ?_
    cases r with
    | error e => exact (cx H e s' h).elim
    | ok fl =>
      cases fl with
      | next => exact False.elim h
      | brk => exact False.elim h
      | cont => exact False.elim h
      | ret u =>
        obtain ⟨v, H', os, bare, un, hok', r', q⟩ := h
        have q' : v = .bl true := q
        subst q'
        obtain rfl : u = Value.bool true := r'
        refine ⟨rfl, OldK.of_keep fun b o z => ?_, os, bare⟩
        cases q : H b with
        | none => exact un.keep b o z q (by intro y; exact absurd (show b ∈ ([] : List Addr) from y) (by simp)) (by simp)
        | some u =>
          rcases yO b with y | ⟨ob, xs, y⟩
          · rw [q] at y; cases y
          · have y2 := un.frzs b ob _ y
            obtain ⟨e1, _⟩ := yok b _ y
            obtain ⟨e2, _⟩ := hok' b _ y2
            rw [z] at e1; cases e1
            exact e2
  cases hk : K.lookup a with
  | some o =>
    have z := kX a o hk
    rw [oa] at z
    cases z
    refine kern (fun _ => none) (fun _ => .inl rfl) (.inr ⟨_, vs.toArray, _, hk, rfl, rfl, rfl, by rw [List.size_toArray, lv]; exact la, by simpa using rv⟩) (fun b u y => by have y' : (none : Option HO) = some u := y; cases y') (fun b y => absurd rfl y) fun y => absurd rfl y
  | none =>
    refine kern (fun b => if b = a then some (.frz { cls := .type "list", data := .seq vs.toArray } (.lst (ns.map V.int))) else none) (fun b => ?_) (.inl (.inr ⟨{ cls := .type "list", data := .seq vs.toArray }, if_pos rfl⟩)) (fun b u y => ?_) (fun b y => ?_) fun _ => hk
    · by_cases hb : b = a
      · exact .inr ⟨_, _, if_pos hb⟩
      · exact .inl (if_neg hb)
    · by_cases hb : b = a
      · have y' := (if_pos hb).symm.trans y
        cases y'
        subst hb
        exact ⟨oa, by rw [List.length_map]; exact la, vs, _, rv, oa⟩
      · have y' := (if_neg hb).symm.trans y
        cases y'
    · by_cases hb : b = a
      · exact hb
      · exact absurd (if_neg hb) y
theorem walk_at {l : PySem.W.OpenLaw} {n : Nat} {q : Program} {loose : List Str} {XP : (Str → Option Value) → Heap → Prop} {YP : World → Heap → Prop} {d : DefRec} {K : Params → PySem.W.Frag} {CX : World → CXT} {sp : World → Sp} {x : Str}
    (hn : l.most = some n) (hn2 : n ≤ sizeLine) (hdf : d.params.defaults = [])
    (hY : ∀ (w : World) (h : Heap), YP w h → (K w.params).In h)
    (F : ∀ (w : World) (mg : Str → Option Value) (fa : Addr) (h : Heap), (K w.params).In h → h.Ns mainGlobals mg → mg d.name = some (.ref fa) →
      ∃ fd : FuncData, (∀ (s : Shared) (u : Value), BindsTo s fd ⟨[u], []⟩ [(x, u)]) ∧
        ∀ base : Heap, (K w.params).In base → base.Ns mainGlobals mg → RunAt l.prog w (K w.params) mg base (CX w) callerA fa fd [x] (sp w))
    (hsp : ∀ (w : World) (H : Hp) (a : Addr) (ns : List Int), ns.length ≤ n → Only H → SqL (K w.params) H a (ns.map V.int) → sp w [.ref a] H (fun v _ => v = .bl true) fun _ _ _ => False)
    (hCX : ∀ (w : World) (H : Hp) (s : Shared) (e : Value) (s' : Shared), CX w [] H s (fun _ _ _ => False) e s' → False) :
    PySem.W.WalkO q loose XP YP l.row.toRowW d [] (fun f vs => PySem.call f vs) := by
  refine Att.attach_call hn hdf fun w s₀ s₁ mg mb fa o pm cd doc a vs ns G Y ho hd hcd hmg hobj hints hlen hg => ?_
  have kX := hY w _ Y
  obtain ⟨fd, hb, hF⟩ := F w mg fa _ kX G.T.g hmg
  exact law_at kX G.T.g G.T.b G.T.builtins G.T.nolimit hg hobj hints (Nat.le_trans hlen hn2) hF hb (fun H hO hS => hsp w H a ns hlen hO hS) fun H e s' => hCX w H s₁ e s'
end L2

set_option Elab.async false
set_option linter.all false
set_option maxRecDepth 100000
set_option maxHeartbeats 4000000
namespace K04
open PySem PySem.Spec PyProof.Rows L2
/-! ### the text -/
def topS (i : Nat) : Stmt := PySem.Challenge.pw_heldhints_k04_refusals_apart.main.body.getD i (.Pass ⟨0, 0, 0, 0⟩)
def ini (i : Nat) : Stmt := inClass (topS i) 0
theorem iVal : XK.Ini "ValueError" "ValueError.__init__" := .of F.excBase_ValueError
theorem iLook : XK.Ini "LookupError" "LookupError.__init__" := .of F.excBase_LookupError
theorem iRun : XK.Ini "RuntimeError" "RuntimeError.__init__" := .of F.excBase_RuntimeError
theorem iOver : XK.Ini "OverflowError" "OverflowError.__init__" := .of F.excBase_OverflowError
theorem hVal : PySem.W.handedIn (.builtin "ValueError.__init__") = true := by decide +kernel
theorem hKey : PySem.W.handedIn (.builtin "KeyError.__init__") = true := by decide +kernel
theorem hLook : PySem.W.handedIn (.builtin "LookupError.__init__") = true := by decide +kernel
theorem hRun : PySem.W.handedIn (.builtin "RuntimeError.__init__") = true := by decide +kernel
theorem hOver : PySem.W.handedIn (.builtin "OverflowError.__init__") = true := by decide +kernel
theorem yKey : typeOf (.type "KeyError") = pure (.type "type") := by kernel_rfl
theorem yLook : typeOf (.type "LookupError") = pure (.type "type") := by kernel_rfl
theorem yRun : typeOf (.type "RuntimeError") = pure (.type "type") := by kernel_rfl
theorem yOver : typeOf (.type "OverflowError") = pure (.type "type") := by kernel_rfl
/-- HintError, at D -/
structure Hn (K : PySem.W.Frag) (mg : Str → Option Value) (D : Addr) : Prop where
  g : mg "HintError" = some (.ref D)
  kx : ExK K D XK.tVal
  sg : PySem.W.specialIn K (.ref D) "__getattribute__" = some (some (.builtin "type.__getattribute__"))
  rd : PySem.W.readsIn K D (.type "type") = true
  vV : PySem.W.findCls K (.ref D) (.type "type") "__init__" = some (.val (.builtin "ValueError.__init__"))
/-- a built-in class that the text leaves alone -/
structure Bn (K : PySem.W.Frag) (mg : Str → Option Value) (B : String) (id : String) : Prop where
  g : mg (Str.ofString B) = none
  vV : PySem.W.findCls K (.type B) (.type "type") "__init__" = some (.val (.builtin id))
section
variable {P : Program} {w : World} {K : PySem.W.Frag} {mg : Str → Option Value} {base : Heap} {fI C D : Addr} {fd : FuncData} {k : Nat}

theorem sc_NoVersion : FnScope ["self"] ["self"] (defScope (ini 2)) := ⟨rfl, rfl, rfl, by decide +kernel, rfl, by decide +kernel, by decide +kernel⟩
theorem ok_NoVersion (F : Fun K "__init__" "NoVersion.__init__" (ini 2) fI fd) (T : ExK K C (.ref D :: XK.tVal)) (N : Hn K mg D) : FnOk P w K mg base CX0 (k + 1) fI fd ["self"] (spI0 C) := by
  refine F.ok sc_NoVersion (fun vs H Q E h => ?_) (fun cdv A outer s H vs Q E hr h => ?_)
  · obtain ⟨a, rfl, _⟩ := h; rfl
  · obtain ⟨a, rfl, ea, q⟩ := h
    refine ⟨_, pss_one (ps_expr (pe_hi iVal rfl N.g N.sg N.rd hVal N.vV (pa_cons (pv 0) pa_nil))), ?_⟩
    exact ⟨.ref a, rfl, a, C, [], _, rfl, (by decide), T, (by rfl), ea, q⟩
theorem sc_NoCell : FnScope ["self"] ["self"] (defScope (ini 3)) := ⟨rfl, rfl, rfl, by decide +kernel, rfl, by decide +kernel, by decide +kernel⟩
theorem ok_NoCell (F : Fun K "__init__" "NoCell.__init__" (ini 3) fI fd) (T : ExK K C (.ref D :: XK.tVal)) (N : Hn K mg D) : FnOk P w K mg base CX0 (k + 1) fI fd ["self"] (spI0 C) := by
  refine F.ok sc_NoCell (fun vs H Q E h => ?_) (fun cdv A outer s H vs Q E hr h => ?_)
  · obtain ⟨a, rfl, _⟩ := h; rfl
  · obtain ⟨a, rfl, ea, q⟩ := h
    refine ⟨_, pss_one (ps_expr (pe_hi iVal rfl N.g N.sg N.rd hVal N.vV (pa_cons (pv 0) pa_nil))), ?_⟩
    exact ⟨.ref a, rfl, a, C, [], _, rfl, (by decide), T, (by rfl), ea, q⟩
theorem sc_NoRing : FnScope ["self", "number"] ["self", "number"] (defScope (ini 4)) := ⟨rfl, rfl, rfl, by decide +kernel, rfl, by decide +kernel, by decide +kernel⟩
theorem ok_NoRing (F : Fun K "__init__" "NoRing.__init__" (ini 4) fI fd) (T : ExK K C (.ref D :: XK.tVal)) (no : PySem.W.findIn K (.ref C) "number" = some none) (N : Hn K mg D) : FnOk P w K mg base CX0 (k + 1) fI fd ["self", "number"] (spI1 C "number") := by
  refine F.ok sc_NoRing (fun vs H Q E h => ?_) (fun cdv A outer s H vs Q E hr h => ?_)
  · obtain ⟨a, v, rfl, _⟩ := h; rfl
  · obtain ⟨a, v, rfl, ea, q⟩ := h
    refine ⟨_, pss_cons (ps_expr (pe_hi iVal rfl N.g N.sg N.rd hVal N.vV (pa_cons (pv 0) (pa_cons pe_str pa_nil)))) (pss_one (ps_xs (pv 0) (pv 1))), ?_⟩
    refine ⟨.ref a, rfl, a, C, [_], _, rfl, (by show 1 ≤ 1000; decide), T, (by rfl), ea, ?_⟩
    exact ⟨v, rfl, .ref a, rfl, a, C, _, rfl, T, no, ea, fun dx n ne => q dx n ne⟩
theorem sc_NoKey : FnScope ["self"] ["self"] (defScope (ini 5)) := ⟨rfl, rfl, rfl, by decide +kernel, rfl, by decide +kernel, by decide +kernel⟩
theorem ok_NoKey (F : Fun K "__init__" "NoKey.__init__" (ini 5) fI fd) (T : ExK K C (.ref D :: XK.tVal)) (N : Hn K mg D) : FnOk P w K mg base CX0 (k + 1) fI fd ["self"] (spI0 C) := by
  refine F.ok sc_NoKey (fun vs H Q E h => ?_) (fun cdv A outer s H vs Q E hr h => ?_)
  · obtain ⟨a, rfl, _⟩ := h; rfl
  · obtain ⟨a, rfl, ea, q⟩ := h
    refine ⟨_, pss_one (ps_expr (pe_hi iVal rfl N.g N.sg N.rd hVal N.vV (pa_cons (pv 0) pa_nil))), ?_⟩
    exact ⟨.ref a, rfl, a, C, [], _, rfl, (by decide), T, (by rfl), ea, q⟩
theorem sc_NoShape : FnScope ["self", "what"] ["self", "what"] (defScope (ini 6)) := ⟨rfl, rfl, rfl, by decide +kernel, rfl, by decide +kernel, by decide +kernel⟩
theorem ok_NoShape (F : Fun K "__init__" "NoShape.__init__" (ini 6) fI fd) (T : ExK K C (.ref D :: XK.tVal)) (no : PySem.W.findIn K (.ref C) "what" = some none) (N : Hn K mg D) : FnOk P w K mg base CX0 (k + 1) fI fd ["self", "what"] (spI1 C "what") := by
  refine F.ok sc_NoShape (fun vs H Q E h => ?_) (fun cdv A outer s H vs Q E hr h => ?_)
  · obtain ⟨a, v, rfl, _⟩ := h; rfl
  · obtain ⟨a, v, rfl, ea, q⟩ := h
    refine ⟨_, pss_cons (ps_expr (pe_hi iVal rfl N.g N.sg N.rd hVal N.vV (pa_cons (pv 0) (pa_cons pe_str pa_nil)))) (pss_one (ps_xs (pv 0) (pv 1))), ?_⟩
    refine ⟨.ref a, rfl, a, C, [_], _, rfl, (by show 1 ≤ 1000; decide), T, (by rfl), ea, ?_⟩
    exact ⟨v, rfl, .ref a, rfl, a, C, _, rfl, T, no, ea, fun dx n ne => q dx n ne⟩
theorem sc_NoKnown : FnScope ["self"] ["self"] (defScope (ini 7)) := ⟨rfl, rfl, rfl, by decide +kernel, rfl, by decide +kernel, by decide +kernel⟩
theorem ok_NoKnown (F : Fun K "__init__" "NoKnown.__init__" (ini 7) fI fd) (T : ExK K C (.ref D :: XK.tVal)) (N : Hn K mg D) : FnOk P w K mg base CX0 (k + 1) fI fd ["self"] (spI0 C) := by
  refine F.ok sc_NoKnown (fun vs H Q E h => ?_) (fun cdv A outer s H vs Q E hr h => ?_)
  · obtain ⟨a, rfl, _⟩ := h; rfl
  · obtain ⟨a, rfl, ea, q⟩ := h
    refine ⟨_, pss_one (ps_expr (pe_hi iVal rfl N.g N.sg N.rd hVal N.vV (pa_cons (pv 0) pa_nil))), ?_⟩
    exact ⟨.ref a, rfl, a, C, [], _, rfl, (by decide), T, (by rfl), ea, q⟩
theorem sc_NoDeed : FnScope ["self", "number"] ["self", "number"] (defScope (ini 8)) := ⟨rfl, rfl, rfl, by decide +kernel, rfl, by decide +kernel, by decide +kernel⟩
theorem ok_NoDeed (F : Fun K "__init__" "NoDeed.__init__" (ini 8) fI fd) (T : ExK K C (.ref D :: XK.tVal)) (no : PySem.W.findIn K (.ref C) "number" = some none) (N : Hn K mg D) : FnOk P w K mg base CX0 (k + 1) fI fd ["self", "number"] (spI1 C "number") := by
  refine F.ok sc_NoDeed (fun vs H Q E h => ?_) (fun cdv A outer s H vs Q E hr h => ?_)
  · obtain ⟨a, v, rfl, _⟩ := h; rfl
  · obtain ⟨a, v, rfl, ea, q⟩ := h
    refine ⟨_, pss_cons (ps_expr (pe_hi iVal rfl N.g N.sg N.rd hVal N.vV (pa_cons (pv 0) (pa_cons pe_str pa_nil)))) (pss_one (ps_xs (pv 0) (pv 1))), ?_⟩
    refine ⟨.ref a, rfl, a, C, [_], _, rfl, (by show 1 ≤ 1000; decide), T, (by rfl), ea, ?_⟩
    exact ⟨v, rfl, .ref a, rfl, a, C, _, rfl, T, no, ea, fun dx n ne => q dx n ne⟩
theorem sc_NoNews : FnScope ["self", "house"] ["self", "house"] (defScope (ini 9)) := ⟨rfl, rfl, rfl, by decide +kernel, rfl, by decide +kernel, by decide +kernel⟩
theorem ok_NoNews (F : Fun K "__init__" "NoNews.__init__" (ini 9) fI fd) (T : ExK K C (.ref D :: XK.tVal)) (no : PySem.W.findIn K (.ref C) "house" = some none) (N : Hn K mg D) : FnOk P w K mg base CX0 (k + 1) fI fd ["self", "house"] (spI1 C "house") := by
  refine F.ok sc_NoNews (fun vs H Q E h => ?_) (fun cdv A outer s H vs Q E hr h => ?_)
  · obtain ⟨a, v, rfl, _⟩ := h; rfl
  · obtain ⟨a, v, rfl, ea, q⟩ := h
    refine ⟨_, pss_cons (ps_expr (pe_hi iVal rfl N.g N.sg N.rd hVal N.vV (pa_cons (pv 0) (pa_cons pe_str pa_nil)))) (pss_one (ps_xs (pv 0) (pv 1))), ?_⟩
    refine ⟨.ref a, rfl, a, C, [_], _, rfl, (by show 1 ≤ 1000; decide), T, (by rfl), ea, ?_⟩
    exact ⟨v, rfl, .ref a, rfl, a, C, _, rfl, T, no, ea, fun dx n ne => q dx n ne⟩
theorem sc_NoText : FnScope ["self", "row"] ["self", "row"] (defScope (ini 10)) := ⟨rfl, rfl, rfl, by decide +kernel, rfl, by decide +kernel, by decide +kernel⟩
theorem ok_NoText (F : Fun K "__init__" "NoText.__init__" (ini 10) fI fd) (T : ExK K C (.ref D :: XK.tVal)) (no : PySem.W.findIn K (.ref C) "row" = some none) (N : Hn K mg D) : FnOk P w K mg base CX0 (k + 1) fI fd ["self", "row"] (spI1 C "row") := by
  refine F.ok sc_NoText (fun vs H Q E h => ?_) (fun cdv A outer s H vs Q E hr h => ?_)
  · obtain ⟨a, v, rfl, _⟩ := h; rfl
  · obtain ⟨a, v, rfl, ea, q⟩ := h
    refine ⟨_, pss_cons (ps_expr (pe_hi iVal rfl N.g N.sg N.rd hVal N.vV (pa_cons (pv 0) (pa_cons pe_str pa_nil)))) (pss_one (ps_xs (pv 0) (pv 1))), ?_⟩
    refine ⟨.ref a, rfl, a, C, [_], _, rfl, (by show 1 ≤ 1000; decide), T, (by rfl), ea, ?_⟩
    exact ⟨v, rfl, .ref a, rfl, a, C, _, rfl, T, no, ea, fun dx n ne => q dx n ne⟩
theorem sc_NoRow : FnScope ["self"] ["self"] (defScope (ini 11)) := ⟨rfl, rfl, rfl, by decide +kernel, rfl, by decide +kernel, by decide +kernel⟩
theorem ok_NoRow (F : Fun K "__init__" "NoRow.__init__" (ini 11) fI fd) (T : ExK K C (.ref D :: XK.tVal)) (N : Hn K mg D) : FnOk P w K mg base CX0 (k + 1) fI fd ["self"] (spI0 C) := by
  refine F.ok sc_NoRow (fun vs H Q E h => ?_) (fun cdv A outer s H vs Q E hr h => ?_)
  · obtain ⟨a, rfl, _⟩ := h; rfl
  · obtain ⟨a, rfl, ea, q⟩ := h
    refine ⟨_, pss_one (ps_expr (pe_hi iVal rfl N.g N.sg N.rd hVal N.vV (pa_cons (pv 0) pa_nil))), ?_⟩
    exact ⟨.ref a, rfl, a, C, [], _, rfl, (by decide), T, (by rfl), ea, q⟩
theorem sc_NoSteps : FnScope ["self"] ["self"] (defScope (ini 12)) := ⟨rfl, rfl, rfl, by decide +kernel, rfl, by decide +kernel, by decide +kernel⟩
theorem ok_NoSteps (F : Fun K "__init__" "NoSteps.__init__" (ini 12) fI fd) (T : ExK K C (.ref D :: XK.tVal)) (N : Hn K mg D) : FnOk P w K mg base CX0 (k + 1) fI fd ["self"] (spI0 C) := by
  refine F.ok sc_NoSteps (fun vs H Q E h => ?_) (fun cdv A outer s H vs Q E hr h => ?_)
  · obtain ⟨a, rfl, _⟩ := h; rfl
  · obtain ⟨a, rfl, ea, q⟩ := h
    refine ⟨_, pss_one (ps_expr (pe_hi iVal rfl N.g N.sg N.rd hVal N.vV (pa_cons (pv 0) pa_nil))), ?_⟩
    exact ⟨.ref a, rfl, a, C, [], _, rfl, (by decide), T, (by rfl), ea, q⟩
theorem sc_NoHouse : FnScope ["self", "house"] ["self", "house"] (defScope (ini 13)) := ⟨rfl, rfl, rfl, by decide +kernel, rfl, by decide +kernel, by decide +kernel⟩
theorem ok_NoHouse (F : Fun K "__init__" "NoHouse.__init__" (ini 13) fI fd) (T : ExK K C XK.tKey) (no : PySem.W.findIn K (.ref C) "house" = some none) (N : Bn K mg "KeyError" "KeyError.__init__") : FnOk P w K mg base CX0 (k + 1) fI fd ["self", "house"] (spI1 C "house") := by
  refine F.ok sc_NoHouse (fun vs H Q E h => ?_) (fun cdv A outer s H vs Q E hr h => ?_)
  · obtain ⟨a, v, rfl, _⟩ := h; rfl
  · obtain ⟨a, v, rfl, ea, q⟩ := h
    refine ⟨_, pss_cons (ps_expr (pe_bi XK.iniKey rfl N.g (by decide +kernel) yKey (by decide +kernel) hKey N.vV (pa_cons (pv 0) (pa_cons pe_str pa_nil)))) (pss_one (ps_xs (pv 0) (pv 1))), ?_⟩
    refine ⟨.ref a, rfl, a, C, [_], _, rfl, (by show 1 ≤ 1000; decide), T, (by rfl), ea, ?_⟩
    exact ⟨v, rfl, .ref a, rfl, a, C, _, rfl, T, no, ea, fun dx n ne => q dx n ne⟩
theorem sc_NoAsker : FnScope ["self", "asker"] ["self", "asker"] (defScope (ini 14)) := ⟨rfl, rfl, rfl, by decide +kernel, rfl, by decide +kernel, by decide +kernel⟩
theorem ok_NoAsker (F : Fun K "__init__" "NoAsker.__init__" (ini 14) fI fd) (T : ExK K C XK.tKey) (no : PySem.W.findIn K (.ref C) "asker" = some none) (N : Bn K mg "KeyError" "KeyError.__init__") : FnOk P w K mg base CX0 (k + 1) fI fd ["self", "asker"] (spI1 C "asker") := by
  refine F.ok sc_NoAsker (fun vs H Q E h => ?_) (fun cdv A outer s H vs Q E hr h => ?_)
  · obtain ⟨a, v, rfl, _⟩ := h; rfl
  · obtain ⟨a, v, rfl, ea, q⟩ := h
    refine ⟨_, pss_cons (ps_expr (pe_bi XK.iniKey rfl N.g (by decide +kernel) yKey (by decide +kernel) hKey N.vV (pa_cons (pv 0) (pa_cons pe_str pa_nil)))) (pss_one (ps_xs (pv 0) (pv 1))), ?_⟩
    refine ⟨.ref a, rfl, a, C, [_], _, rfl, (by show 1 ≤ 1000; decide), T, (by rfl), ea, ?_⟩
    exact ⟨v, rfl, .ref a, rfl, a, C, _, rfl, T, no, ea, fun dx n ne => q dx n ne⟩
theorem sc_NoAsk : FnScope ["self", "number"] ["self", "number"] (defScope (ini 15)) := ⟨rfl, rfl, rfl, by decide +kernel, rfl, by decide +kernel, by decide +kernel⟩
theorem ok_NoAsk (F : Fun K "__init__" "NoAsk.__init__" (ini 15) fI fd) (T : ExK K C XK.tLook) (no : PySem.W.findIn K (.ref C) "number" = some none) (N : Bn K mg "LookupError" "LookupError.__init__") : FnOk P w K mg base CX0 (k + 1) fI fd ["self", "number"] (spI1 C "number") := by
  refine F.ok sc_NoAsk (fun vs H Q E h => ?_) (fun cdv A outer s H vs Q E hr h => ?_)
  · obtain ⟨a, v, rfl, _⟩ := h; rfl
  · obtain ⟨a, v, rfl, ea, q⟩ := h
    refine ⟨_, pss_cons (ps_expr (pe_bi iLook rfl N.g (by decide +kernel) yLook (by decide +kernel) hLook N.vV (pa_cons (pv 0) (pa_cons pe_str pa_nil)))) (pss_one (ps_xs (pv 0) (pv 1))), ?_⟩
    refine ⟨.ref a, rfl, a, C, [_], _, rfl, (by show 1 ≤ 1000; decide), T, (by rfl), ea, ?_⟩
    exact ⟨v, rfl, .ref a, rfl, a, C, _, rfl, T, no, ea, fun dx n ne => q dx n ne⟩
theorem sc_NoLetter : FnScope ["self", "number"] ["self", "number"] (defScope (ini 16)) := ⟨rfl, rfl, rfl, by decide +kernel, rfl, by decide +kernel, by decide +kernel⟩
theorem ok_NoLetter (F : Fun K "__init__" "NoLetter.__init__" (ini 16) fI fd) (T : ExK K C XK.tLook) (no : PySem.W.findIn K (.ref C) "number" = some none) (N : Bn K mg "LookupError" "LookupError.__init__") : FnOk P w K mg base CX0 (k + 1) fI fd ["self", "number"] (spI1 C "number") := by
  refine F.ok sc_NoLetter (fun vs H Q E h => ?_) (fun cdv A outer s H vs Q E hr h => ?_)
  · obtain ⟨a, v, rfl, _⟩ := h; rfl
  · obtain ⟨a, v, rfl, ea, q⟩ := h
    refine ⟨_, pss_cons (ps_expr (pe_bi iLook rfl N.g (by decide +kernel) yLook (by decide +kernel) hLook N.vV (pa_cons (pv 0) (pa_cons pe_str pa_nil)))) (pss_one (ps_xs (pv 0) (pv 1))), ?_⟩
    refine ⟨.ref a, rfl, a, C, [_], _, rfl, (by show 1 ≤ 1000; decide), T, (by rfl), ea, ?_⟩
    exact ⟨v, rfl, .ref a, rfl, a, C, _, rfl, T, no, ea, fun dx n ne => q dx n ne⟩
theorem sc_Busy : FnScope ["self", "what"] ["self", "what"] (defScope (ini 17)) := ⟨rfl, rfl, rfl, by decide +kernel, rfl, by decide +kernel, by decide +kernel⟩
theorem ok_Busy (F : Fun K "__init__" "Busy.__init__" (ini 17) fI fd) (T : ExK K C XK.tRun) (no : PySem.W.findIn K (.ref C) "what" = some none) (N : Bn K mg "RuntimeError" "RuntimeError.__init__") : FnOk P w K mg base CX0 (k + 1) fI fd ["self", "what"] (spI1 C "what") := by
  refine F.ok sc_Busy (fun vs H Q E h => ?_) (fun cdv A outer s H vs Q E hr h => ?_)
  · obtain ⟨a, v, rfl, _⟩ := h; rfl
  · obtain ⟨a, v, rfl, ea, q⟩ := h
    refine ⟨_, pss_cons (ps_expr (pe_bi iRun rfl N.g (by decide +kernel) yRun (by decide +kernel) hRun N.vV (pa_cons (pv 0) (pa_cons pe_str pa_nil)))) (pss_one (ps_xs (pv 0) (pv 1))), ?_⟩
    refine ⟨.ref a, rfl, a, C, [_], _, rfl, (by show 1 ≤ 1000; decide), T, (by rfl), ea, ?_⟩
    exact ⟨v, rfl, .ref a, rfl, a, C, _, rfl, T, no, ea, fun dx n ne => q dx n ne⟩
theorem sc_Away : FnScope ["self", "house"] ["self", "house"] (defScope (ini 18)) := ⟨rfl, rfl, rfl, by decide +kernel, rfl, by decide +kernel, by decide +kernel⟩
theorem ok_Away (F : Fun K "__init__" "Away.__init__" (ini 18) fI fd) (T : ExK K C XK.tRun) (no : PySem.W.findIn K (.ref C) "house" = some none) (N : Bn K mg "RuntimeError" "RuntimeError.__init__") : FnOk P w K mg base CX0 (k + 1) fI fd ["self", "house"] (spI1 C "house") := by
  refine F.ok sc_Away (fun vs H Q E h => ?_) (fun cdv A outer s H vs Q E hr h => ?_)
  · obtain ⟨a, v, rfl, _⟩ := h; rfl
  · obtain ⟨a, v, rfl, ea, q⟩ := h
    refine ⟨_, pss_cons (ps_expr (pe_bi iRun rfl N.g (by decide +kernel) yRun (by decide +kernel) hRun N.vV (pa_cons (pv 0) (pa_cons pe_str pa_nil)))) (pss_one (ps_xs (pv 0) (pv 1))), ?_⟩
    refine ⟨.ref a, rfl, a, C, [_], _, rfl, (by show 1 ≤ 1000; decide), T, (by rfl), ea, ?_⟩
    exact ⟨v, rfl, .ref a, rfl, a, C, _, rfl, T, no, ea, fun dx n ne => q dx n ne⟩
theorem sc_TooMany : FnScope ["self", "many"] ["self", "many"] (defScope (ini 19)) := ⟨rfl, rfl, rfl, by decide +kernel, rfl, by decide +kernel, by decide +kernel⟩
theorem ok_TooMany (F : Fun K "__init__" "TooMany.__init__" (ini 19) fI fd) (T : ExK K C XK.tOver) (no : PySem.W.findIn K (.ref C) "many" = some none) (N : Bn K mg "OverflowError" "OverflowError.__init__") : FnOk P w K mg base CX0 (k + 1) fI fd ["self", "many"] (spI1 C "many") := by
  refine F.ok sc_TooMany (fun vs H Q E h => ?_) (fun cdv A outer s H vs Q E hr h => ?_)
  · obtain ⟨a, v, rfl, _⟩ := h; rfl
  · obtain ⟨a, v, rfl, ea, q⟩ := h
    refine ⟨_, pss_cons (ps_expr (pe_bi iOver rfl N.g (by decide +kernel) yOver (by decide +kernel) hOver N.vV (pa_cons (pv 0) (pa_cons pe_str pa_nil)))) (pss_one (ps_xs (pv 0) (pv 1))), ?_⟩
    refine ⟨.ref a, rfl, a, C, [_], _, rfl, (by show 1 ≤ 1000; decide), T, (by rfl), ea, ?_⟩
    exact ⟨v, rfl, .ref a, rfl, a, C, _, rfl, T, no, ea, fun dx n ne => q dx n ne⟩
theorem sc_NoWorld : FnScope ["self"] ["self"] (defScope (ini 20)) := ⟨rfl, rfl, rfl, by decide +kernel, rfl, by decide +kernel, by decide +kernel⟩
theorem ok_NoWorld (F : Fun K "__init__" "NoWorld.__init__" (ini 20) fI fd) (T : ExK K C XK.tLook) (N : Bn K mg "LookupError" "LookupError.__init__") : FnOk P w K mg base CX0 (k + 1) fI fd ["self"] (spI0 C) := by
  refine F.ok sc_NoWorld (fun vs H Q E h => ?_) (fun cdv A outer s H vs Q E hr h => ?_)
  · obtain ⟨a, rfl, _⟩ := h; rfl
  · obtain ⟨a, rfl, ea, q⟩ := h
    refine ⟨_, pss_one (ps_expr (pe_bi iLook rfl N.g (by decide +kernel) yLook (by decide +kernel) hLook N.vV (pa_cons (pv 0) pa_nil))), ?_⟩
    exact ⟨.ref a, rfl, a, C, [], _, rfl, (by decide), T, (by rfl), ea, q⟩
end
end K04

set_option Elab.async false
set_option linter.all false
set_option maxRecDepth 100000
set_option maxHeartbeats 4000000
namespace K04
open PySem PySem.Spec PyProof.Rows L2
/-! ### a class that makes -/
def M0 (P : Program) (w : World) (K : PySem.W.Frag) (mg : Str → Option Value) (base : Heap) (x : Str) (C : Addr) : Prop :=
  ∃ fI fd bm, ExK K C bm ∧ XMk K C fI ∧ FnOk P w K mg base CX0 1 fI fd ["self"] (spI0 C) ∧ (∀ (s' : Shared) (b : Value), BindsTo s' fd ⟨[b], []⟩ [("self", b)]) ∧ mg x = some (.ref C)
def M1 (P : Program) (w : World) (K : PySem.W.Frag) (mg : Str → Option Value) (base : Heap) (x f : Str) (C : Addr) : Prop :=
  ∃ fI fd bm, ExK K C bm ∧ XMk K C fI ∧ FnOk P w K mg base CX0 1 fI fd ["self", f] (spI1 C f) ∧ (∀ (s' : Shared) (b v : Value), BindsTo s' fd ⟨[b, v], []⟩ [("self", b), (f, v)]) ∧
    (∀ (s' : Shared) (b v : Value), BindsTo s' fd ⟨[b], [(f, v)]⟩ [("self", b), (f, v)]) ∧ PySem.W.findIn K (.ref C) f = some none ∧ mg x = some (.ref C)
section
variable {X : Cx} {x f : Str} {C : Addr} {p pos kpos : Pos} {e : Expr} {te : TE}
theorem pe_m0 (m : M0 X.prog X.w X.K X.mg X.base x C) (hr : Room 2 X.A) (hx : Passes CX0 X E0) (hg : Gl X x) (hdb : (x == ("__debug__" : Str)) = false := by decide) : PE X (.Call (.Name x p) [] [] pos) (tMk0 C) := by
  obtain ⟨fI, fd, bm, T, M, F1, b, g⟩ := m
  exact pe_mk0 M F1 hr hx b hg g hdb
theorem pe_m1 (m : M1 X.prog X.w X.K X.mg X.base x f C) (hr : Room 2 X.A) (hx : Passes CX0 X E0) (hg : Gl X x) (he : PE X e te) (hdb : (x == ("__debug__" : Str)) = false := by decide) (hs : starEach [e] X.env = (false, eval e X.env) :: starEach [] X.env := by rfl) : PE X (.Call (.Name x p) [e] [] pos) (tMk1 C f te) := by
  obtain ⟨fI, fd, bm, T, M, F1, b, bk, no, g⟩ := m
  exact pe_mk1 M F1 hr hx b hg g he hdb hs
theorem pe_m1k (m : M1 X.prog X.w X.K X.mg X.base x f C) (hr : Room 2 X.A) (hx : Passes CX0 X E0) (hg : Gl X x) (he : PE X e te) (hdb : (x == ("__debug__" : Str)) = false := by decide)
    (hall : (backToKw pos (keywordEach [⟨some f, e, kpos⟩] X.env)).all (·.1.isSome) = true := by rfl) (hks : (backToKw pos (keywordEach [⟨some f, e, kpos⟩] X.env)).filterMap (·.1) = [f] := by rfl)
    (hpl : ((backTo pos (starEach [] X.env)).any (·.1) || (backToKw pos (keywordEach [⟨some f, e, kpos⟩] X.env)).any (·.1.isNone)) = false := by rfl) : PE X (.Call (.Name x p) [] [⟨some f, e, kpos⟩] pos) (tMk1 C f te) := by
  obtain ⟨fI, fd, bm, T, M, F1, b, bk, no, g⟩ := m
  exact pe_mk1k M F1 hr hx bk hg g he hdb hall hks hpl
end
/-! ### heaps -/
theorem same_upd {H : Hp} {p : Addr} {o : HO} (h : H p = none) : Same H (upd H p o) := fun b x e => by
  rw [upd_ne (ne_of_none e h)]
  exact e
def FAt (H : Hp) (a C : Addr) (f : Str) (v : V) : Prop := ∃ dx, H a = some (exo a C (some dx)) ∧ H dx = some (exd dx [(f, v)])
theorem FAt.x {H : Hp} {a C : Addr} {f : Str} {v : V} (h : FAt H a C f v) : XAt H a C := by
  obtain ⟨dx, h1, h2⟩ := h
  exact .inr ⟨dx, _, h1, h2⟩
theorem FAt.same {H H' : Hp} {a C : Addr} {f : Str} {v : V} (s : Same H H') (h : FAt H a C f v) : FAt H' a C f v := by
  obtain ⟨dx, h1, h2⟩ := h
  exact ⟨dx, s _ _ h1, s _ _ h2⟩
theorem xat_same {H H' : Hp} {a C : Addr} (s : Same H H') (h : XAt H a C) : XAt H' a C := by
  rcases h with h | ⟨dx, fs, h1, h2⟩
  · exact .inl (s _ _ h)
  · exact .inr ⟨dx, fs, s _ _ h1, s _ _ h2⟩
theorem new0 {H : Hp} {a C : Addr} (n : H a = none) : Same H (upd H a (exo a C none)) ∧ XAt (upd H a (exo a C none)) a C := ⟨same_upd n, .inl upd_same⟩
theorem new1 {H : Hp} {a d C : Addr} {f : Str} {v : V} (n : H a = none) (m : H d = none) (e : d ≠ a) : Same H (upd (upd H d (exd d [(f, v)])) a (exo a C (some d))) ∧ FAt (upd (upd H d (exd d [(f, v)])) a (exo a C (some d))) a C f v := by
  have n' : (upd H d (exd d [(f, v)])) a = none := by
    rw [upd_ne e.symm]
    exact n
  refine ⟨(same_upd m).trans (same_upd n'), d, upd_same, ?_⟩
  rw [upd_ne e, upd_same]
theorem newl {H : Hp} {p : Addr} {xs : List V} (n : H p = none) : Same H (upd H p (.lst xs)) ∧ (upd H p (.lst xs)) p = some (.lst xs) := ⟨same_upd n, upd_same⟩
/-! ### promises -/
def spPl (CL : List Addr) : Sp := fun vs H Q _ => vs = [] ∧ ∀ (H' : Hp) (p : Addr) (as : List Addr), Same H H' → H' p = some (.lst (as.map V.ref)) → Paired (fun a C => XAt H' a C) as CL → Q (.ref p) H'
def spOn (CF : List (Addr × Str)) : Sp := fun vs H Q _ => ∃ v, vs = [v] ∧ ∀ (H' : Hp) (p : Addr) (as : List Addr), Same H H' → H' p = some (.lst (as.map V.ref)) → Paired (fun a c => FAt H' a c.1 c.2 v) as CF → Q (.ref p) H'
def spFi (K : PySem.W.Frag) (CF : List (Addr × Str)) : Sp := fun vs H Q _ => ∃ (l : Addr) (as : List Addr) (v : V), vs = [.ref l] ∧ SqL K H l (as.map V.ref) ∧ Paired (fun a c => FAt H a c.1 c.2 v) as CF ∧ ∀ (H' : Hp) (p : Addr), Same H H' → H' p = some (.lst (List.replicate 12 v)) → Q (.ref p) H'
def kindsV (C : Addr) (bm : List Value) (CC : List Addr) : List V := CC.map fun D => V.bl ((Value.ref C :: bm).contains (.ref D))
def underV (C : Addr) (bm : List Value) (D : Addr) : List V := [V.bl ((Value.ref C :: bm).contains (.ref D)), V.bl ((Value.ref C :: bm).contains (.type "ValueError")), V.bl ((Value.ref C :: bm).contains (.type "KeyError")), V.bl ((Value.ref C :: bm).contains (.type "LookupError")), V.bl ((Value.ref C :: bm).contains (.type "RuntimeError")), V.bl ((Value.ref C :: bm).contains (.type "OverflowError"))]
def spKi (K : PySem.W.Frag) (CC : List Addr) : Sp := fun vs H Q _ => ∃ (a C : Addr) (bm : List Value), vs = [.ref a] ∧ XAt H a C ∧ ExK K C bm ∧ ∀ (H' : Hp) (p : Addr), Same H H' → H' p = some (.lst (kindsV C bm CC)) → Q (.ref p) H'
def spUn (K : PySem.W.Frag) (D : Addr) : Sp := fun vs H Q _ => ∃ (a C : Addr) (bm : List Value), vs = [.ref a] ∧ XAt H a C ∧ ExK K C bm ∧ ∀ (H' : Hp) (p : Addr), Same H H' → H' p = some (.lst (underV C bm D)) → Q (.ref p) H'
def dueB (n : Int) : List Bool := if n < 11 then [true, true, false, false, false, false] else if n < 13 then [false, false, true, true, false, false] else if n < 15 ∨ n = 18 then [false, false, false, true, false, false] else if n < 17 then [false, false, false, false, true, false] else [false, false, false, false, false, true]
def spDu : Sp := fun vs H Q _ => ∃ n : Int, vs = [.int n] ∧ ∀ (H' : Hp) (p : Addr), Same H H' → H' p = some (.lst ((dueB n).map V.bl)) → Q (.ref p) H'

section
variable {P : Program} {w : World} {K : PySem.W.Frag} {mg : Str → Option Value} {base : Heap} {f D : Addr} {fd : FuncData} {cNoVersion cNoCell cNoKey cNoKnown cNoRow cNoSteps cNoRing cNoShape cNoDeed cNoNews cNoText cNoHouse cNoAsker cNoAsk cNoLetter cBusy cAway cTooMany cNoWorld : Addr}
theorem sc_plain : FnScope [] [] (defScope (topS 22)) := ⟨rfl, rfl, rfl, by decide +kernel, rfl, by decide +kernel, by decide +kernel⟩
theorem ok_plain (F : Fun K "_law_plain" "_law_plain" (topS 22) f fd) (mNoVersion : M0 P w K mg base "NoVersion" cNoVersion) (mNoCell : M0 P w K mg base "NoCell" cNoCell) (mNoKey : M0 P w K mg base "NoKey" cNoKey) (mNoKnown : M0 P w K mg base "NoKnown" cNoKnown) (mNoRow : M0 P w K mg base "NoRow" cNoRow) (mNoSteps : M0 P w K mg base "NoSteps" cNoSteps) : FnOk P w K mg base CX0 3 f fd [] (spPl [cNoVersion, cNoCell, cNoKey, cNoKnown, cNoRow, cNoSteps]) := by
  refine F.ok sc_plain (fun vs H Q E h => ?_) (fun cdv A outer s H vs Q E hr h => ?_)
  · obtain ⟨rfl, _⟩ := h; rfl
  · obtain ⟨rfl, q⟩ := h
    refine ⟨_, pss_one (ps_ret (pe_lst (pa_cons (pe_m0 mNoVersion hr pass0 rfl) (pa_cons (pe_m0 mNoCell hr pass0 rfl) (pa_cons (pe_m0 mNoKey hr pass0 rfl) (pa_cons (pe_m0 mNoKnown hr pass0 rfl) (pa_cons (pe_m0 mNoRow hr pass0 rfl) (pa_cons (pe_m0 mNoSteps hr pass0 rfl) pa_nil)))))))), ?_⟩
    intro a0 n0
    obtain ⟨s0, x0⟩ := new0 (C := cNoVersion) n0
    generalize upd H a0 (exo a0 cNoVersion none) = H0 at s0 x0 ⊢
    intro a1 n1
    obtain ⟨s1, x1⟩ := new0 (C := cNoCell) n1
    generalize upd H0 a1 (exo a1 cNoCell none) = H1 at s1 x1 ⊢
    replace x0 := xat_same s1 x0
    intro a2 n2
    obtain ⟨s2, x2⟩ := new0 (C := cNoKey) n2
    generalize upd H1 a2 (exo a2 cNoKey none) = H2 at s2 x2 ⊢
    replace x0 := xat_same s2 x0
    replace x1 := xat_same s2 x1
    intro a3 n3
    obtain ⟨s3, x3⟩ := new0 (C := cNoKnown) n3
    generalize upd H2 a3 (exo a3 cNoKnown none) = H3 at s3 x3 ⊢
    replace x0 := xat_same s3 x0
    replace x1 := xat_same s3 x1
    replace x2 := xat_same s3 x2
    intro a4 n4
    obtain ⟨s4, x4⟩ := new0 (C := cNoRow) n4
    generalize upd H3 a4 (exo a4 cNoRow none) = H4 at s4 x4 ⊢
    replace x0 := xat_same s4 x0
    replace x1 := xat_same s4 x1
    replace x2 := xat_same s4 x2
    replace x3 := xat_same s4 x3
    intro a5 n5
    obtain ⟨s5, x5⟩ := new0 (C := cNoSteps) n5
    generalize upd H4 a5 (exo a5 cNoSteps none) = H5 at s5 x5 ⊢
    replace x0 := xat_same s5 x0
    replace x1 := xat_same s5 x1
    replace x2 := xat_same s5 x2
    replace x3 := xat_same s5 x3
    replace x4 := xat_same s5 x4
    refine ⟨(by show 6 ≤ sizeLine; decide), fun p np => ?_⟩
    obtain ⟨sp, ep⟩ := newl (xs := [V.ref a0, V.ref a1, V.ref a2, V.ref a3, V.ref a4, V.ref a5]) np
    refine q _ p [a0, a1, a2, a3, a4, a5] (Same.trans s0 (Same.trans s1 (Same.trans s2 (Same.trans s3 (Same.trans s4 (Same.trans s5 sp)))))) ep ?_
    exact .cons (xat_same sp x0) (.cons (xat_same sp x1) (.cons (xat_same sp x2) (.cons (xat_same sp x3) (.cons (xat_same sp x4) (.cons (xat_same sp x5) (.nil))))))
theorem sc_ones : FnScope ["_law_thing", "_law_found"] ["_law_thing"] (defScope (topS 23)) := ⟨rfl, rfl, rfl, by decide +kernel, rfl, by decide +kernel, by decide +kernel⟩
theorem ok_ones (F : Fun K "_law_ones" "_law_ones" (topS 23) f fd) (mNoRing : M1 P w K mg base "NoRing" "number" cNoRing) (mNoShape : M1 P w K mg base "NoShape" "what" cNoShape) (mNoDeed : M1 P w K mg base "NoDeed" "number" cNoDeed) (mNoNews : M1 P w K mg base "NoNews" "house" cNoNews) (mNoText : M1 P w K mg base "NoText" "row" cNoText) (mNoHouse : M1 P w K mg base "NoHouse" "house" cNoHouse) (mNoAsker : M1 P w K mg base "NoAsker" "asker" cNoAsker) (mNoAsk : M1 P w K mg base "NoAsk" "number" cNoAsk) (mNoLetter : M1 P w K mg base "NoLetter" "number" cNoLetter) (mBusy : M1 P w K mg base "Busy" "what" cBusy) (mAway : M1 P w K mg base "Away" "house" cAway) (mTooMany : M1 P w K mg base "TooMany" "many" cTooMany) : FnOk P w K mg base CX0 3 f fd ["_law_thing"] (spOn [(cNoRing, "number"), (cNoShape, "what"), (cNoDeed, "number"), (cNoNews, "house"), (cNoText, "row"), (cNoHouse, "house"), (cNoAsker, "asker"), (cNoAsk, "number"), (cNoLetter, "number"), (cBusy, "what"), (cAway, "house"), (cTooMany, "many")]) := by
  refine F.ok sc_ones (fun vs H Q E h => ?_) (fun cdv A outer s H vs Q E hr h => ?_)
  · obtain ⟨v, rfl, _⟩ := h; rfl
  · obtain ⟨v, rfl, q⟩ := h
    refine ⟨_, pss_cons (ps_set (i := 1) sc_ones.nd rfl (.inl rfl) (pe_lst (pa_cons (pe_m1 mNoRing hr pass0 rfl (pv 0)) (pa_cons (pe_m1 mNoShape hr pass0 rfl (pv 0)) (pa_cons (pe_m1 mNoDeed hr pass0 rfl (pv 0)) (pa_cons (pe_m1 mNoNews hr pass0 rfl (pv 0)) (pa_cons (pe_m1 mNoText hr pass0 rfl (pv 0)) (pa_cons (pe_m1 mNoHouse hr pass0 rfl (pv 0)) (pa_cons (pe_m1 mNoAsker hr pass0 rfl (pv 0)) pa_nil))))))))) (pss_one (ps_ret (pe_op op_cat (pv 1) (pe_lst (pa_cons (pe_m1 mNoAsk hr pass0 rfl (pv 0)) (pa_cons (pe_m1 mNoLetter hr pass0 rfl (pv 0)) (pa_cons (pe_m1 mBusy hr pass0 rfl (pv 0)) (pa_cons (pe_m1 mAway hr pass0 rfl (pv 0)) (pa_cons (pe_m1 mTooMany hr pass0 rfl (pv 0)) pa_nil))))))))), ?_⟩
    refine ⟨v, rfl, ?_⟩
    intro a0 d0 n0 o0 e0
    obtain ⟨s0, x0⟩ := new1 (C := cNoRing) (f := "number") (v := v) n0 o0 e0
    generalize upd (upd H d0 (exd d0 [("number", v)])) a0 (exo a0 cNoRing (some d0)) = H0 at s0 x0 ⊢
    refine ⟨v, rfl, ?_⟩
    intro a1 d1 n1 o1 e1
    obtain ⟨s1, x1⟩ := new1 (C := cNoShape) (f := "what") (v := v) n1 o1 e1
    generalize upd (upd H0 d1 (exd d1 [("what", v)])) a1 (exo a1 cNoShape (some d1)) = H1 at s1 x1 ⊢
    replace x0 := FAt.same s1 x0
    refine ⟨v, rfl, ?_⟩
    intro a2 d2 n2 o2 e2
    obtain ⟨s2, x2⟩ := new1 (C := cNoDeed) (f := "number") (v := v) n2 o2 e2
    generalize upd (upd H1 d2 (exd d2 [("number", v)])) a2 (exo a2 cNoDeed (some d2)) = H2 at s2 x2 ⊢
    replace x0 := FAt.same s2 x0
    replace x1 := FAt.same s2 x1
    refine ⟨v, rfl, ?_⟩
    intro a3 d3 n3 o3 e3
    obtain ⟨s3, x3⟩ := new1 (C := cNoNews) (f := "house") (v := v) n3 o3 e3
    generalize upd (upd H2 d3 (exd d3 [("house", v)])) a3 (exo a3 cNoNews (some d3)) = H3 at s3 x3 ⊢
    replace x0 := FAt.same s3 x0
    replace x1 := FAt.same s3 x1
    replace x2 := FAt.same s3 x2
    refine ⟨v, rfl, ?_⟩
    intro a4 d4 n4 o4 e4
    obtain ⟨s4, x4⟩ := new1 (C := cNoText) (f := "row") (v := v) n4 o4 e4
    generalize upd (upd H3 d4 (exd d4 [("row", v)])) a4 (exo a4 cNoText (some d4)) = H4 at s4 x4 ⊢
    replace x0 := FAt.same s4 x0
    replace x1 := FAt.same s4 x1
    replace x2 := FAt.same s4 x2
    replace x3 := FAt.same s4 x3
    refine ⟨v, rfl, ?_⟩
    intro a5 d5 n5 o5 e5
    obtain ⟨s5, x5⟩ := new1 (C := cNoHouse) (f := "house") (v := v) n5 o5 e5
    generalize upd (upd H4 d5 (exd d5 [("house", v)])) a5 (exo a5 cNoHouse (some d5)) = H5 at s5 x5 ⊢
    replace x0 := FAt.same s5 x0
    replace x1 := FAt.same s5 x1
    replace x2 := FAt.same s5 x2
    replace x3 := FAt.same s5 x3
    replace x4 := FAt.same s5 x4
    refine ⟨v, rfl, ?_⟩
    intro a6 d6 n6 o6 e6
    obtain ⟨s6, x6⟩ := new1 (C := cNoAsker) (f := "asker") (v := v) n6 o6 e6
    generalize upd (upd H5 d6 (exd d6 [("asker", v)])) a6 (exo a6 cNoAsker (some d6)) = H6 at s6 x6 ⊢
    replace x0 := FAt.same s6 x0
    replace x1 := FAt.same s6 x1
    replace x2 := FAt.same s6 x2
    replace x3 := FAt.same s6 x3
    replace x4 := FAt.same s6 x4
    replace x5 := FAt.same s6 x5
    refine ⟨(by show 7 ≤ sizeLine; decide), fun l0 nl0 => ?_⟩
    obtain ⟨sl0, el0⟩ := newl (xs := [V.ref a0, V.ref a1, V.ref a2, V.ref a3, V.ref a4, V.ref a5, V.ref a6]) nl0
    generalize upd H6 l0 (.lst [V.ref a0, V.ref a1, V.ref a2, V.ref a3, V.ref a4, V.ref a5, V.ref a6]) = G0 at sl0 el0 ⊢
    replace x0 := FAt.same sl0 x0
    replace x1 := FAt.same sl0 x1
    replace x2 := FAt.same sl0 x2
    replace x3 := FAt.same sl0 x3
    replace x4 := FAt.same sl0 x4
    replace x5 := FAt.same sl0 x5
    replace x6 := FAt.same sl0 x6
    have ep0 := el0
    refine ⟨_, rfl, ?_⟩
    refine ⟨v, rfl, ?_⟩
    intro a7 d7 n7 o7 e7
    obtain ⟨s7, x7⟩ := new1 (C := cNoAsk) (f := "number") (v := v) n7 o7 e7
    generalize upd (upd G0 d7 (exd d7 [("number", v)])) a7 (exo a7 cNoAsk (some d7)) = H7 at s7 x7 ⊢
    replace x0 := FAt.same s7 x0
    replace x1 := FAt.same s7 x1
    replace x2 := FAt.same s7 x2
    replace x3 := FAt.same s7 x3
    replace x4 := FAt.same s7 x4
    replace x5 := FAt.same s7 x5
    replace x6 := FAt.same s7 x6
    replace ep0 := s7 _ _ ep0
    refine ⟨v, rfl, ?_⟩
    intro a8 d8 n8 o8 e8
    obtain ⟨s8, x8⟩ := new1 (C := cNoLetter) (f := "number") (v := v) n8 o8 e8
    generalize upd (upd H7 d8 (exd d8 [("number", v)])) a8 (exo a8 cNoLetter (some d8)) = H8 at s8 x8 ⊢
    replace x0 := FAt.same s8 x0
    replace x1 := FAt.same s8 x1
    replace x2 := FAt.same s8 x2
    replace x3 := FAt.same s8 x3
    replace x4 := FAt.same s8 x4
    replace x5 := FAt.same s8 x5
    replace x6 := FAt.same s8 x6
    replace x7 := FAt.same s8 x7
    replace ep0 := s8 _ _ ep0
    refine ⟨v, rfl, ?_⟩
    intro a9 d9 n9 o9 e9
    obtain ⟨s9, x9⟩ := new1 (C := cBusy) (f := "what") (v := v) n9 o9 e9
    generalize upd (upd H8 d9 (exd d9 [("what", v)])) a9 (exo a9 cBusy (some d9)) = H9 at s9 x9 ⊢
    replace x0 := FAt.same s9 x0
    replace x1 := FAt.same s9 x1
    replace x2 := FAt.same s9 x2
    replace x3 := FAt.same s9 x3
    replace x4 := FAt.same s9 x4
    replace x5 := FAt.same s9 x5
    replace x6 := FAt.same s9 x6
    replace x7 := FAt.same s9 x7
    replace x8 := FAt.same s9 x8
    replace ep0 := s9 _ _ ep0
    refine ⟨v, rfl, ?_⟩
    intro a10 d10 n10 o10 e10
    obtain ⟨s10, x10⟩ := new1 (C := cAway) (f := "house") (v := v) n10 o10 e10
    generalize upd (upd H9 d10 (exd d10 [("house", v)])) a10 (exo a10 cAway (some d10)) = H10 at s10 x10 ⊢
    replace x0 := FAt.same s10 x0
    replace x1 := FAt.same s10 x1
    replace x2 := FAt.same s10 x2
    replace x3 := FAt.same s10 x3
    replace x4 := FAt.same s10 x4
    replace x5 := FAt.same s10 x5
    replace x6 := FAt.same s10 x6
    replace x7 := FAt.same s10 x7
    replace x8 := FAt.same s10 x8
    replace x9 := FAt.same s10 x9
    replace ep0 := s10 _ _ ep0
    refine ⟨v, rfl, ?_⟩
    intro a11 d11 n11 o11 e11
    obtain ⟨s11, x11⟩ := new1 (C := cTooMany) (f := "many") (v := v) n11 o11 e11
    generalize upd (upd H10 d11 (exd d11 [("many", v)])) a11 (exo a11 cTooMany (some d11)) = H11 at s11 x11 ⊢
    replace x0 := FAt.same s11 x0
    replace x1 := FAt.same s11 x1
    replace x2 := FAt.same s11 x2
    replace x3 := FAt.same s11 x3
    replace x4 := FAt.same s11 x4
    replace x5 := FAt.same s11 x5
    replace x6 := FAt.same s11 x6
    replace x7 := FAt.same s11 x7
    replace x8 := FAt.same s11 x8
    replace x9 := FAt.same s11 x9
    replace x10 := FAt.same s11 x10
    replace ep0 := s11 _ _ ep0
    refine ⟨(by show 5 ≤ sizeLine; decide), fun l1 nl1 => ?_⟩
    obtain ⟨sl1, el1⟩ := newl (xs := [V.ref a7, V.ref a8, V.ref a9, V.ref a10, V.ref a11]) nl1
    generalize upd H11 l1 (.lst [V.ref a7, V.ref a8, V.ref a9, V.ref a10, V.ref a11]) = G1 at sl1 el1 ⊢
    replace x0 := FAt.same sl1 x0
    replace x1 := FAt.same sl1 x1
    replace x2 := FAt.same sl1 x2
    replace x3 := FAt.same sl1 x3
    replace x4 := FAt.same sl1 x4
    replace x5 := FAt.same sl1 x5
    replace x6 := FAt.same sl1 x6
    replace x7 := FAt.same sl1 x7
    replace x8 := FAt.same sl1 x8
    replace x9 := FAt.same sl1 x9
    replace x10 := FAt.same sl1 x10
    replace x11 := FAt.same sl1 x11
    replace ep0 := sl1 _ _ ep0
    refine ⟨_, _, _, _, rfl, rfl, ep0, el1, (by show 12 ≤ sizeLine; decide), fun p1 np1 => ?_⟩
    obtain ⟨sp1, ep1⟩ := newl (xs := [V.ref a0, V.ref a1, V.ref a2, V.ref a3, V.ref a4, V.ref a5, V.ref a6] ++ [V.ref a7, V.ref a8, V.ref a9, V.ref a10, V.ref a11]) np1
    generalize upd G1 p1 (.lst ([V.ref a0, V.ref a1, V.ref a2, V.ref a3, V.ref a4, V.ref a5, V.ref a6] ++ [V.ref a7, V.ref a8, V.ref a9, V.ref a10, V.ref a11])) = J1 at sp1 ep1 ⊢
    replace ep1 : J1 p1 = some (.lst [V.ref a0, V.ref a1, V.ref a2, V.ref a3, V.ref a4, V.ref a5, V.ref a6, V.ref a7, V.ref a8, V.ref a9, V.ref a10, V.ref a11]) := ep1
    replace x0 := FAt.same sp1 x0
    replace x1 := FAt.same sp1 x1
    replace x2 := FAt.same sp1 x2
    replace x3 := FAt.same sp1 x3
    replace x4 := FAt.same sp1 x4
    replace x5 := FAt.same sp1 x5
    replace x6 := FAt.same sp1 x6
    replace x7 := FAt.same sp1 x7
    replace x8 := FAt.same sp1 x8
    replace x9 := FAt.same sp1 x9
    replace x10 := FAt.same sp1 x10
    replace x11 := FAt.same sp1 x11
    refine q _ p1 [a0, a1, a2, a3, a4, a5, a6, a7, a8, a9, a10, a11] (Same.trans s0 (Same.trans s1 (Same.trans s2 (Same.trans s3 (Same.trans s4 (Same.trans s5 (Same.trans s6 (Same.trans sl0 (Same.trans s7 (Same.trans s8 (Same.trans s9 (Same.trans s10 (Same.trans s11 (Same.trans sl1 (sp1))))))))))))))) ep1 ?_
    exact .cons x0 (.cons x1 (.cons x2 (.cons x3 (.cons x4 (.cons x5 (.cons x6 (.cons x7 (.cons x8 (.cons x9 (.cons x10 (.cons x11 (.nil))))))))))))
theorem sc_named : FnScope ["_law_thing", "_law_found"] ["_law_thing"] (defScope (topS 24)) := ⟨rfl, rfl, rfl, by decide +kernel, rfl, by decide +kernel, by decide +kernel⟩
theorem ok_named (F : Fun K "_law_named" "_law_named" (topS 24) f fd) (mNoRing : M1 P w K mg base "NoRing" "number" cNoRing) (mNoShape : M1 P w K mg base "NoShape" "what" cNoShape) (mNoDeed : M1 P w K mg base "NoDeed" "number" cNoDeed) (mNoNews : M1 P w K mg base "NoNews" "house" cNoNews) (mNoText : M1 P w K mg base "NoText" "row" cNoText) (mNoHouse : M1 P w K mg base "NoHouse" "house" cNoHouse) (mNoAsker : M1 P w K mg base "NoAsker" "asker" cNoAsker) (mNoAsk : M1 P w K mg base "NoAsk" "number" cNoAsk) (mNoLetter : M1 P w K mg base "NoLetter" "number" cNoLetter) (mBusy : M1 P w K mg base "Busy" "what" cBusy) (mAway : M1 P w K mg base "Away" "house" cAway) (mTooMany : M1 P w K mg base "TooMany" "many" cTooMany) : FnOk P w K mg base CX0 3 f fd ["_law_thing"] (spOn [(cNoRing, "number"), (cNoShape, "what"), (cNoDeed, "number"), (cNoNews, "house"), (cNoText, "row"), (cNoHouse, "house"), (cNoAsker, "asker"), (cNoAsk, "number"), (cNoLetter, "number"), (cBusy, "what"), (cAway, "house"), (cTooMany, "many")]) := by
  refine F.ok sc_named (fun vs H Q E h => ?_) (fun cdv A outer s H vs Q E hr h => ?_)
  · obtain ⟨v, rfl, _⟩ := h; rfl
  · obtain ⟨v, rfl, q⟩ := h
    refine ⟨_, pss_cons (ps_set (i := 1) sc_named.nd rfl (.inl rfl) (pe_lst (pa_cons (pe_m1k mNoRing hr pass0 rfl (pv 0)) (pa_cons (pe_m1k mNoShape hr pass0 rfl (pv 0)) (pa_cons (pe_m1k mNoDeed hr pass0 rfl (pv 0)) (pa_cons (pe_m1k mNoNews hr pass0 rfl (pv 0)) (pa_cons (pe_m1k mNoText hr pass0 rfl (pv 0)) pa_nil))))))) (pss_cons (ps_set (i := 1) sc_named.nd rfl (.inl rfl) (pe_op op_cat (pv 1) (pe_lst (pa_cons (pe_m1k mNoHouse hr pass0 rfl (pv 0)) (pa_cons (pe_m1k mNoAsker hr pass0 rfl (pv 0)) (pa_cons (pe_m1k mNoAsk hr pass0 rfl (pv 0)) (pa_cons (pe_m1k mNoLetter hr pass0 rfl (pv 0)) pa_nil))))))) (pss_one (ps_ret (pe_op op_cat (pv 1) (pe_lst (pa_cons (pe_m1k mBusy hr pass0 rfl (pv 0)) (pa_cons (pe_m1k mAway hr pass0 rfl (pv 0)) (pa_cons (pe_m1k mTooMany hr pass0 rfl (pv 0)) pa_nil)))))))), ?_⟩
    refine ⟨v, rfl, ?_⟩
    intro a0 d0 n0 o0 e0
    obtain ⟨s0, x0⟩ := new1 (C := cNoRing) (f := "number") (v := v) n0 o0 e0
    generalize upd (upd H d0 (exd d0 [("number", v)])) a0 (exo a0 cNoRing (some d0)) = H0 at s0 x0 ⊢
    refine ⟨v, rfl, ?_⟩
    intro a1 d1 n1 o1 e1
    obtain ⟨s1, x1⟩ := new1 (C := cNoShape) (f := "what") (v := v) n1 o1 e1
    generalize upd (upd H0 d1 (exd d1 [("what", v)])) a1 (exo a1 cNoShape (some d1)) = H1 at s1 x1 ⊢
    replace x0 := FAt.same s1 x0
    refine ⟨v, rfl, ?_⟩
    intro a2 d2 n2 o2 e2
    obtain ⟨s2, x2⟩ := new1 (C := cNoDeed) (f := "number") (v := v) n2 o2 e2
    generalize upd (upd H1 d2 (exd d2 [("number", v)])) a2 (exo a2 cNoDeed (some d2)) = H2 at s2 x2 ⊢
    replace x0 := FAt.same s2 x0
    replace x1 := FAt.same s2 x1
    refine ⟨v, rfl, ?_⟩
    intro a3 d3 n3 o3 e3
    obtain ⟨s3, x3⟩ := new1 (C := cNoNews) (f := "house") (v := v) n3 o3 e3
    generalize upd (upd H2 d3 (exd d3 [("house", v)])) a3 (exo a3 cNoNews (some d3)) = H3 at s3 x3 ⊢
    replace x0 := FAt.same s3 x0
    replace x1 := FAt.same s3 x1
    replace x2 := FAt.same s3 x2
    refine ⟨v, rfl, ?_⟩
    intro a4 d4 n4 o4 e4
    obtain ⟨s4, x4⟩ := new1 (C := cNoText) (f := "row") (v := v) n4 o4 e4
    generalize upd (upd H3 d4 (exd d4 [("row", v)])) a4 (exo a4 cNoText (some d4)) = H4 at s4 x4 ⊢
    replace x0 := FAt.same s4 x0
    replace x1 := FAt.same s4 x1
    replace x2 := FAt.same s4 x2
    replace x3 := FAt.same s4 x3
    refine ⟨(by show 5 ≤ sizeLine; decide), fun l0 nl0 => ?_⟩
    obtain ⟨sl0, el0⟩ := newl (xs := [V.ref a0, V.ref a1, V.ref a2, V.ref a3, V.ref a4]) nl0
    generalize upd H4 l0 (.lst [V.ref a0, V.ref a1, V.ref a2, V.ref a3, V.ref a4]) = G0 at sl0 el0 ⊢
    replace x0 := FAt.same sl0 x0
    replace x1 := FAt.same sl0 x1
    replace x2 := FAt.same sl0 x2
    replace x3 := FAt.same sl0 x3
    replace x4 := FAt.same sl0 x4
    have ep0 := el0
    refine ⟨_, rfl, ?_⟩
    refine ⟨v, rfl, ?_⟩
    intro a5 d5 n5 o5 e5
    obtain ⟨s5, x5⟩ := new1 (C := cNoHouse) (f := "house") (v := v) n5 o5 e5
    generalize upd (upd G0 d5 (exd d5 [("house", v)])) a5 (exo a5 cNoHouse (some d5)) = H5 at s5 x5 ⊢
    replace x0 := FAt.same s5 x0
    replace x1 := FAt.same s5 x1
    replace x2 := FAt.same s5 x2
    replace x3 := FAt.same s5 x3
    replace x4 := FAt.same s5 x4
    replace ep0 := s5 _ _ ep0
    refine ⟨v, rfl, ?_⟩
    intro a6 d6 n6 o6 e6
    obtain ⟨s6, x6⟩ := new1 (C := cNoAsker) (f := "asker") (v := v) n6 o6 e6
    generalize upd (upd H5 d6 (exd d6 [("asker", v)])) a6 (exo a6 cNoAsker (some d6)) = H6 at s6 x6 ⊢
    replace x0 := FAt.same s6 x0
    replace x1 := FAt.same s6 x1
    replace x2 := FAt.same s6 x2
    replace x3 := FAt.same s6 x3
    replace x4 := FAt.same s6 x4
    replace x5 := FAt.same s6 x5
    replace ep0 := s6 _ _ ep0
    refine ⟨v, rfl, ?_⟩
    intro a7 d7 n7 o7 e7
    obtain ⟨s7, x7⟩ := new1 (C := cNoAsk) (f := "number") (v := v) n7 o7 e7
    generalize upd (upd H6 d7 (exd d7 [("number", v)])) a7 (exo a7 cNoAsk (some d7)) = H7 at s7 x7 ⊢
    replace x0 := FAt.same s7 x0
    replace x1 := FAt.same s7 x1
    replace x2 := FAt.same s7 x2
    replace x3 := FAt.same s7 x3
    replace x4 := FAt.same s7 x4
    replace x5 := FAt.same s7 x5
    replace x6 := FAt.same s7 x6
    replace ep0 := s7 _ _ ep0
    refine ⟨v, rfl, ?_⟩
    intro a8 d8 n8 o8 e8
    obtain ⟨s8, x8⟩ := new1 (C := cNoLetter) (f := "number") (v := v) n8 o8 e8
    generalize upd (upd H7 d8 (exd d8 [("number", v)])) a8 (exo a8 cNoLetter (some d8)) = H8 at s8 x8 ⊢
    replace x0 := FAt.same s8 x0
    replace x1 := FAt.same s8 x1
    replace x2 := FAt.same s8 x2
    replace x3 := FAt.same s8 x3
    replace x4 := FAt.same s8 x4
    replace x5 := FAt.same s8 x5
    replace x6 := FAt.same s8 x6
    replace x7 := FAt.same s8 x7
    replace ep0 := s8 _ _ ep0
    refine ⟨(by show 4 ≤ sizeLine; decide), fun l1 nl1 => ?_⟩
    obtain ⟨sl1, el1⟩ := newl (xs := [V.ref a5, V.ref a6, V.ref a7, V.ref a8]) nl1
    generalize upd H8 l1 (.lst [V.ref a5, V.ref a6, V.ref a7, V.ref a8]) = G1 at sl1 el1 ⊢
    replace x0 := FAt.same sl1 x0
    replace x1 := FAt.same sl1 x1
    replace x2 := FAt.same sl1 x2
    replace x3 := FAt.same sl1 x3
    replace x4 := FAt.same sl1 x4
    replace x5 := FAt.same sl1 x5
    replace x6 := FAt.same sl1 x6
    replace x7 := FAt.same sl1 x7
    replace x8 := FAt.same sl1 x8
    replace ep0 := sl1 _ _ ep0
    refine ⟨_, _, _, _, rfl, rfl, ep0, el1, (by show 9 ≤ sizeLine; decide), fun p1 np1 => ?_⟩
    obtain ⟨sp1, ep1⟩ := newl (xs := [V.ref a0, V.ref a1, V.ref a2, V.ref a3, V.ref a4] ++ [V.ref a5, V.ref a6, V.ref a7, V.ref a8]) np1
    generalize upd G1 p1 (.lst ([V.ref a0, V.ref a1, V.ref a2, V.ref a3, V.ref a4] ++ [V.ref a5, V.ref a6, V.ref a7, V.ref a8])) = J1 at sp1 ep1 ⊢
    replace ep1 : J1 p1 = some (.lst [V.ref a0, V.ref a1, V.ref a2, V.ref a3, V.ref a4, V.ref a5, V.ref a6, V.ref a7, V.ref a8]) := ep1
    replace x0 := FAt.same sp1 x0
    replace x1 := FAt.same sp1 x1
    replace x2 := FAt.same sp1 x2
    replace x3 := FAt.same sp1 x3
    replace x4 := FAt.same sp1 x4
    replace x5 := FAt.same sp1 x5
    replace x6 := FAt.same sp1 x6
    replace x7 := FAt.same sp1 x7
    replace x8 := FAt.same sp1 x8
    refine ⟨_, rfl, ?_⟩
    refine ⟨v, rfl, ?_⟩
    intro a9 d9 n9 o9 e9
    obtain ⟨s9, x9⟩ := new1 (C := cBusy) (f := "what") (v := v) n9 o9 e9
    generalize upd (upd J1 d9 (exd d9 [("what", v)])) a9 (exo a9 cBusy (some d9)) = H9 at s9 x9 ⊢
    replace x0 := FAt.same s9 x0
    replace x1 := FAt.same s9 x1
    replace x2 := FAt.same s9 x2
    replace x3 := FAt.same s9 x3
    replace x4 := FAt.same s9 x4
    replace x5 := FAt.same s9 x5
    replace x6 := FAt.same s9 x6
    replace x7 := FAt.same s9 x7
    replace x8 := FAt.same s9 x8
    replace ep1 := s9 _ _ ep1
    refine ⟨v, rfl, ?_⟩
    intro a10 d10 n10 o10 e10
    obtain ⟨s10, x10⟩ := new1 (C := cAway) (f := "house") (v := v) n10 o10 e10
    generalize upd (upd H9 d10 (exd d10 [("house", v)])) a10 (exo a10 cAway (some d10)) = H10 at s10 x10 ⊢
    replace x0 := FAt.same s10 x0
    replace x1 := FAt.same s10 x1
    replace x2 := FAt.same s10 x2
    replace x3 := FAt.same s10 x3
    replace x4 := FAt.same s10 x4
    replace x5 := FAt.same s10 x5
    replace x6 := FAt.same s10 x6
    replace x7 := FAt.same s10 x7
    replace x8 := FAt.same s10 x8
    replace x9 := FAt.same s10 x9
    replace ep1 := s10 _ _ ep1
    refine ⟨v, rfl, ?_⟩
    intro a11 d11 n11 o11 e11
    obtain ⟨s11, x11⟩ := new1 (C := cTooMany) (f := "many") (v := v) n11 o11 e11
    generalize upd (upd H10 d11 (exd d11 [("many", v)])) a11 (exo a11 cTooMany (some d11)) = H11 at s11 x11 ⊢
    replace x0 := FAt.same s11 x0
    replace x1 := FAt.same s11 x1
    replace x2 := FAt.same s11 x2
    replace x3 := FAt.same s11 x3
    replace x4 := FAt.same s11 x4
    replace x5 := FAt.same s11 x5
    replace x6 := FAt.same s11 x6
    replace x7 := FAt.same s11 x7
    replace x8 := FAt.same s11 x8
    replace x9 := FAt.same s11 x9
    replace x10 := FAt.same s11 x10
    replace ep1 := s11 _ _ ep1
    refine ⟨(by show 3 ≤ sizeLine; decide), fun l2 nl2 => ?_⟩
    obtain ⟨sl2, el2⟩ := newl (xs := [V.ref a9, V.ref a10, V.ref a11]) nl2
    generalize upd H11 l2 (.lst [V.ref a9, V.ref a10, V.ref a11]) = G2 at sl2 el2 ⊢
    replace x0 := FAt.same sl2 x0
    replace x1 := FAt.same sl2 x1
    replace x2 := FAt.same sl2 x2
    replace x3 := FAt.same sl2 x3
    replace x4 := FAt.same sl2 x4
    replace x5 := FAt.same sl2 x5
    replace x6 := FAt.same sl2 x6
    replace x7 := FAt.same sl2 x7
    replace x8 := FAt.same sl2 x8
    replace x9 := FAt.same sl2 x9
    replace x10 := FAt.same sl2 x10
    replace x11 := FAt.same sl2 x11
    replace ep1 := sl2 _ _ ep1
    refine ⟨_, _, _, _, rfl, rfl, ep1, el2, (by show 12 ≤ sizeLine; decide), fun p2 np2 => ?_⟩
    obtain ⟨sp2, ep2⟩ := newl (xs := [V.ref a0, V.ref a1, V.ref a2, V.ref a3, V.ref a4, V.ref a5, V.ref a6, V.ref a7, V.ref a8] ++ [V.ref a9, V.ref a10, V.ref a11]) np2
    generalize upd G2 p2 (.lst ([V.ref a0, V.ref a1, V.ref a2, V.ref a3, V.ref a4, V.ref a5, V.ref a6, V.ref a7, V.ref a8] ++ [V.ref a9, V.ref a10, V.ref a11])) = J2 at sp2 ep2 ⊢
    replace ep2 : J2 p2 = some (.lst [V.ref a0, V.ref a1, V.ref a2, V.ref a3, V.ref a4, V.ref a5, V.ref a6, V.ref a7, V.ref a8, V.ref a9, V.ref a10, V.ref a11]) := ep2
    replace x0 := FAt.same sp2 x0
    replace x1 := FAt.same sp2 x1
    replace x2 := FAt.same sp2 x2
    replace x3 := FAt.same sp2 x3
    replace x4 := FAt.same sp2 x4
    replace x5 := FAt.same sp2 x5
    replace x6 := FAt.same sp2 x6
    replace x7 := FAt.same sp2 x7
    replace x8 := FAt.same sp2 x8
    replace x9 := FAt.same sp2 x9
    replace x10 := FAt.same sp2 x10
    replace x11 := FAt.same sp2 x11
    refine q _ p2 [a0, a1, a2, a3, a4, a5, a6, a7, a8, a9, a10, a11] (Same.trans s0 (Same.trans s1 (Same.trans s2 (Same.trans s3 (Same.trans s4 (Same.trans sl0 (Same.trans s5 (Same.trans s6 (Same.trans s7 (Same.trans s8 (Same.trans sl1 (Same.trans sp1 (Same.trans s9 (Same.trans s10 (Same.trans s11 (Same.trans sl2 (sp2))))))))))))))))) ep2 ?_
    exact .cons x0 (.cons x1 (.cons x2 (.cons x3 (.cons x4 (.cons x5 (.cons x6 (.cons x7 (.cons x8 (.cons x9 (.cons x10 (.cons x11 (.nil))))))))))))
theorem sc_fields : FnScope ["_law_some", "_law_found"] ["_law_some"] (defScope (topS 25)) := ⟨rfl, rfl, rfl, by decide +kernel, rfl, by decide +kernel, by decide +kernel⟩
theorem ok_fields (F : Fun K "_law_fields" "_law_fields" (topS 25) f fd) (mNoRing : M1 P w K mg base "NoRing" "number" cNoRing) (mNoShape : M1 P w K mg base "NoShape" "what" cNoShape) (mNoDeed : M1 P w K mg base "NoDeed" "number" cNoDeed) (mNoNews : M1 P w K mg base "NoNews" "house" cNoNews) (mNoText : M1 P w K mg base "NoText" "row" cNoText) (mNoHouse : M1 P w K mg base "NoHouse" "house" cNoHouse) (mNoAsker : M1 P w K mg base "NoAsker" "asker" cNoAsker) (mNoAsk : M1 P w K mg base "NoAsk" "number" cNoAsk) (mNoLetter : M1 P w K mg base "NoLetter" "number" cNoLetter) (mBusy : M1 P w K mg base "Busy" "what" cBusy) (mAway : M1 P w K mg base "Away" "house" cAway) (mTooMany : M1 P w K mg base "TooMany" "many" cTooMany) : FnOk P w K mg base CX0 3 f fd ["_law_some"] (spFi K [(cNoRing, "number"), (cNoShape, "what"), (cNoDeed, "number"), (cNoNews, "house"), (cNoText, "row"), (cNoHouse, "house"), (cNoAsker, "asker"), (cNoAsk, "number"), (cNoLetter, "number"), (cBusy, "what"), (cAway, "house"), (cTooMany, "many")]) := by
  refine F.ok sc_fields (fun vs H Q E h => ?_) (fun cdv A outer s H vs Q E hr h => ?_)
  · obtain ⟨l, as, v, rfl, _⟩ := h; rfl
  · obtain ⟨l, as, v, rfl, hS, hP, q⟩ := h
    cases hP with
    | @cons a0 _ _ _ x0 hP =>
    cases hP with
    | @cons a1 _ _ _ x1 hP =>
    cases hP with
    | @cons a2 _ _ _ x2 hP =>
    cases hP with
    | @cons a3 _ _ _ x3 hP =>
    cases hP with
    | @cons a4 _ _ _ x4 hP =>
    cases hP with
    | @cons a5 _ _ _ x5 hP =>
    cases hP with
    | @cons a6 _ _ _ x6 hP =>
    cases hP with
    | @cons a7 _ _ _ x7 hP =>
    cases hP with
    | @cons a8 _ _ _ x8 hP =>
    cases hP with
    | @cons a9 _ _ _ x9 hP =>
    cases hP with
    | @cons a10 _ _ _ x10 hP =>
    cases hP with
    | @cons a11 _ _ _ x11 hP =>
    cases hP
    obtain ⟨_, _, bm0, T0, _, _, _, _, no0, _⟩ := mNoRing
    obtain ⟨d0, y0, z0⟩ := x0
    obtain ⟨_, _, bm1, T1, _, _, _, _, no1, _⟩ := mNoShape
    obtain ⟨d1, y1, z1⟩ := x1
    obtain ⟨_, _, bm2, T2, _, _, _, _, no2, _⟩ := mNoDeed
    obtain ⟨d2, y2, z2⟩ := x2
    obtain ⟨_, _, bm3, T3, _, _, _, _, no3, _⟩ := mNoNews
    obtain ⟨d3, y3, z3⟩ := x3
    obtain ⟨_, _, bm4, T4, _, _, _, _, no4, _⟩ := mNoText
    obtain ⟨d4, y4, z4⟩ := x4
    obtain ⟨_, _, bm5, T5, _, _, _, _, no5, _⟩ := mNoHouse
    obtain ⟨d5, y5, z5⟩ := x5
    obtain ⟨_, _, bm6, T6, _, _, _, _, no6, _⟩ := mNoAsker
    obtain ⟨d6, y6, z6⟩ := x6
    obtain ⟨_, _, bm7, T7, _, _, _, _, no7, _⟩ := mNoAsk
    obtain ⟨d7, y7, z7⟩ := x7
    obtain ⟨_, _, bm8, T8, _, _, _, _, no8, _⟩ := mNoLetter
    obtain ⟨d8, y8, z8⟩ := x8
    obtain ⟨_, _, bm9, T9, _, _, _, _, no9, _⟩ := mBusy
    obtain ⟨d9, y9, z9⟩ := x9
    obtain ⟨_, _, bm10, T10, _, _, _, _, no10, _⟩ := mAway
    obtain ⟨d10, y10, z10⟩ := x10
    obtain ⟨_, _, bm11, T11, _, _, _, _, no11, _⟩ := mTooMany
    obtain ⟨d11, y11, z11⟩ := x11
    refine ⟨_, pss_cons (ps_set (i := 1) sc_fields.nd rfl (.inl rfl) (pe_lst (pa_cons (pe_xg (pe_ix ix_list (pv 0) pe_int (fun _ _ => rfl))) (pa_cons (pe_xg (pe_ix ix_list (pv 0) pe_int (fun _ _ => rfl))) (pa_cons (pe_xg (pe_ix ix_list (pv 0) pe_int (fun _ _ => rfl))) (pa_cons (pe_xg (pe_ix ix_list (pv 0) pe_int (fun _ _ => rfl))) (pa_cons (pe_xg (pe_ix ix_list (pv 0) pe_int (fun _ _ => rfl))) (pa_cons (pe_xg (pe_ix ix_list (pv 0) pe_int (fun _ _ => rfl))) (pa_cons (pe_xg (pe_ix ix_list (pv 0) pe_int (fun _ _ => rfl))) pa_nil))))))))) (pss_one (ps_ret (pe_op op_cat (pv 1) (pe_lst (pa_cons (pe_xg (pe_ix ix_list (pv 0) pe_int (fun _ _ => rfl))) (pa_cons (pe_xg (pe_ix ix_list (pv 0) pe_int (fun _ _ => rfl))) (pa_cons (pe_xg (pe_ix ix_list (pv 0) pe_int (fun _ _ => rfl))) (pa_cons (pe_xg (pe_ix ix_list (pv 0) pe_int (fun _ _ => rfl))) (pa_cons (pe_xg (pe_ix ix_list (pv 0) pe_int (fun _ _ => rfl))) pa_nil))))))))), ?_⟩
    refine ⟨_, rfl, l, _, 0, _, rfl, rfl, hS, rfl, a0, cNoRing, d0, _, v, bm0, rfl, y0, z0, rfl, T0, no0, ?_⟩
    refine ⟨_, rfl, l, _, 1, _, rfl, rfl, hS, rfl, a1, cNoShape, d1, _, v, bm1, rfl, y1, z1, rfl, T1, no1, ?_⟩
    refine ⟨_, rfl, l, _, 2, _, rfl, rfl, hS, rfl, a2, cNoDeed, d2, _, v, bm2, rfl, y2, z2, rfl, T2, no2, ?_⟩
    refine ⟨_, rfl, l, _, 3, _, rfl, rfl, hS, rfl, a3, cNoNews, d3, _, v, bm3, rfl, y3, z3, rfl, T3, no3, ?_⟩
    refine ⟨_, rfl, l, _, 4, _, rfl, rfl, hS, rfl, a4, cNoText, d4, _, v, bm4, rfl, y4, z4, rfl, T4, no4, ?_⟩
    refine ⟨_, rfl, l, _, 5, _, rfl, rfl, hS, rfl, a5, cNoHouse, d5, _, v, bm5, rfl, y5, z5, rfl, T5, no5, ?_⟩
    refine ⟨_, rfl, l, _, 6, _, rfl, rfl, hS, rfl, a6, cNoAsker, d6, _, v, bm6, rfl, y6, z6, rfl, T6, no6, ?_⟩
    refine ⟨(by show 7 ≤ sizeLine; decide), fun l0 nl0 => ?_⟩
    obtain ⟨sl0, el0⟩ := newl (xs := [v, v, v, v, v, v, v]) nl0
    generalize upd H l0 (.lst [v, v, v, v, v, v, v]) = G0 at sl0 el0 ⊢
    replace hS := sl0.seq hS
    refine ⟨_, rfl, ?_⟩
    refine ⟨_, rfl, l, _, 7, _, rfl, rfl, hS, rfl, a7, cNoAsk, d7, _, v, bm7, rfl, sl0 _ _ y7, sl0 _ _ z7, rfl, T7, no7, ?_⟩
    refine ⟨_, rfl, l, _, 8, _, rfl, rfl, hS, rfl, a8, cNoLetter, d8, _, v, bm8, rfl, sl0 _ _ y8, sl0 _ _ z8, rfl, T8, no8, ?_⟩
    refine ⟨_, rfl, l, _, 9, _, rfl, rfl, hS, rfl, a9, cBusy, d9, _, v, bm9, rfl, sl0 _ _ y9, sl0 _ _ z9, rfl, T9, no9, ?_⟩
    refine ⟨_, rfl, l, _, 10, _, rfl, rfl, hS, rfl, a10, cAway, d10, _, v, bm10, rfl, sl0 _ _ y10, sl0 _ _ z10, rfl, T10, no10, ?_⟩
    refine ⟨_, rfl, l, _, 11, _, rfl, rfl, hS, rfl, a11, cTooMany, d11, _, v, bm11, rfl, sl0 _ _ y11, sl0 _ _ z11, rfl, T11, no11, ?_⟩
    refine ⟨(by show 5 ≤ sizeLine; decide), fun l1 nl1 => ?_⟩
    obtain ⟨sl1, el1⟩ := newl (xs := [v, v, v, v, v]) nl1
    refine ⟨_, _, _, _, rfl, rfl, sl1 _ _ el0, el1, (by show 12 ≤ sizeLine; decide), fun p np => ?_⟩
    obtain ⟨sp, ep⟩ := newl (xs := [v, v, v, v, v, v, v] ++ [v, v, v, v, v]) np
    exact q _ p (sl0.trans (sl1.trans sp)) ep
theorem sc_kinds : FnScope ["_law_e", "_law_found"] ["_law_e"] (defScope (topS 26)) := ⟨rfl, rfl, rfl, by decide +kernel, rfl, by decide +kernel, by decide +kernel⟩
theorem ok_kinds (F : Fun K "_law_kinds" "_law_kinds" (topS 26) f fd) (G : ClsG K) (mi : mg "isinstance" = none) (gNoVersion : mg "NoVersion" = some (.ref cNoVersion)) (kNoVersion : ∃ bm, ExK K cNoVersion bm) (gNoCell : mg "NoCell" = some (.ref cNoCell)) (kNoCell : ∃ bm, ExK K cNoCell bm) (gNoKey : mg "NoKey" = some (.ref cNoKey)) (kNoKey : ∃ bm, ExK K cNoKey bm) (gNoKnown : mg "NoKnown" = some (.ref cNoKnown)) (kNoKnown : ∃ bm, ExK K cNoKnown bm) (gNoRow : mg "NoRow" = some (.ref cNoRow)) (kNoRow : ∃ bm, ExK K cNoRow bm) (gNoSteps : mg "NoSteps" = some (.ref cNoSteps)) (kNoSteps : ∃ bm, ExK K cNoSteps bm) (gNoRing : mg "NoRing" = some (.ref cNoRing)) (kNoRing : ∃ bm, ExK K cNoRing bm) (gNoShape : mg "NoShape" = some (.ref cNoShape)) (kNoShape : ∃ bm, ExK K cNoShape bm) (gNoDeed : mg "NoDeed" = some (.ref cNoDeed)) (kNoDeed : ∃ bm, ExK K cNoDeed bm) (gNoNews : mg "NoNews" = some (.ref cNoNews)) (kNoNews : ∃ bm, ExK K cNoNews bm) (gNoText : mg "NoText" = some (.ref cNoText)) (kNoText : ∃ bm, ExK K cNoText bm) (gNoHouse : mg "NoHouse" = some (.ref cNoHouse)) (kNoHouse : ∃ bm, ExK K cNoHouse bm) (gNoAsker : mg "NoAsker" = some (.ref cNoAsker)) (kNoAsker : ∃ bm, ExK K cNoAsker bm) (gNoAsk : mg "NoAsk" = some (.ref cNoAsk)) (kNoAsk : ∃ bm, ExK K cNoAsk bm) (gNoLetter : mg "NoLetter" = some (.ref cNoLetter)) (kNoLetter : ∃ bm, ExK K cNoLetter bm) (gBusy : mg "Busy" = some (.ref cBusy)) (kBusy : ∃ bm, ExK K cBusy bm) (gAway : mg "Away" = some (.ref cAway)) (kAway : ∃ bm, ExK K cAway bm) (gTooMany : mg "TooMany" = some (.ref cTooMany)) (kTooMany : ∃ bm, ExK K cTooMany bm) (gNoWorld : mg "NoWorld" = some (.ref cNoWorld)) (kNoWorld : ∃ bm, ExK K cNoWorld bm) : FnOk P w K mg base CX0 1 f fd ["_law_e"] (spKi K [cNoVersion, cNoCell, cNoKey, cNoKnown, cNoRow, cNoSteps, cNoRing, cNoShape, cNoDeed, cNoNews, cNoText, cNoHouse, cNoAsker, cNoAsk, cNoLetter, cBusy, cAway, cTooMany, cNoWorld]) := by
  refine F.ok sc_kinds (fun vs H Q E h => ?_) (fun cdv A outer s H vs Q E hr h => ?_)
  · obtain ⟨a, C, bm, rfl, _⟩ := h; rfl
  · obtain ⟨a, C, bm, rfl, hx, T, q⟩ := h
    obtain ⟨bNoVersion, tNoVersion⟩ := kNoVersion
    obtain ⟨bNoCell, tNoCell⟩ := kNoCell
    obtain ⟨bNoKey, tNoKey⟩ := kNoKey
    obtain ⟨bNoKnown, tNoKnown⟩ := kNoKnown
    obtain ⟨bNoRow, tNoRow⟩ := kNoRow
    obtain ⟨bNoSteps, tNoSteps⟩ := kNoSteps
    obtain ⟨bNoRing, tNoRing⟩ := kNoRing
    obtain ⟨bNoShape, tNoShape⟩ := kNoShape
    obtain ⟨bNoDeed, tNoDeed⟩ := kNoDeed
    obtain ⟨bNoNews, tNoNews⟩ := kNoNews
    obtain ⟨bNoText, tNoText⟩ := kNoText
    obtain ⟨bNoHouse, tNoHouse⟩ := kNoHouse
    obtain ⟨bNoAsker, tNoAsker⟩ := kNoAsker
    obtain ⟨bNoAsk, tNoAsk⟩ := kNoAsk
    obtain ⟨bNoLetter, tNoLetter⟩ := kNoLetter
    obtain ⟨bBusy, tBusy⟩ := kBusy
    obtain ⟨bAway, tAway⟩ := kAway
    obtain ⟨bTooMany, tTooMany⟩ := kTooMany
    obtain ⟨bNoWorld, tNoWorld⟩ := kNoWorld
    refine ⟨_, pss_cons (ps_set (i := 1) sc_kinds.nd rfl (.inl rfl) (pe_lst (pa_cons (pe_callB (call_isX G) rfl mi boot_isinstance (pa_cons (pv 0) (pa_cons (pe_glob (v := .ref cNoVersion) rfl gNoVersion rfl) pa_nil))) (pa_cons (pe_callB (call_isX G) rfl mi boot_isinstance (pa_cons (pv 0) (pa_cons (pe_glob (v := .ref cNoCell) rfl gNoCell rfl) pa_nil))) (pa_cons (pe_callB (call_isX G) rfl mi boot_isinstance (pa_cons (pv 0) (pa_cons (pe_glob (v := .ref cNoKey) rfl gNoKey rfl) pa_nil))) (pa_cons (pe_callB (call_isX G) rfl mi boot_isinstance (pa_cons (pv 0) (pa_cons (pe_glob (v := .ref cNoKnown) rfl gNoKnown rfl) pa_nil))) pa_nil)))))) (pss_cons (ps_set (i := 1) sc_kinds.nd rfl (.inl rfl) (pe_op op_cat (pv 1) (pe_lst (pa_cons (pe_callB (call_isX G) rfl mi boot_isinstance (pa_cons (pv 0) (pa_cons (pe_glob (v := .ref cNoRow) rfl gNoRow rfl) pa_nil))) (pa_cons (pe_callB (call_isX G) rfl mi boot_isinstance (pa_cons (pv 0) (pa_cons (pe_glob (v := .ref cNoSteps) rfl gNoSteps rfl) pa_nil))) (pa_cons (pe_callB (call_isX G) rfl mi boot_isinstance (pa_cons (pv 0) (pa_cons (pe_glob (v := .ref cNoRing) rfl gNoRing rfl) pa_nil))) (pa_cons (pe_callB (call_isX G) rfl mi boot_isinstance (pa_cons (pv 0) (pa_cons (pe_glob (v := .ref cNoShape) rfl gNoShape rfl) pa_nil))) pa_nil))))))) (pss_cons (ps_set (i := 1) sc_kinds.nd rfl (.inl rfl) (pe_op op_cat (pv 1) (pe_lst (pa_cons (pe_callB (call_isX G) rfl mi boot_isinstance (pa_cons (pv 0) (pa_cons (pe_glob (v := .ref cNoDeed) rfl gNoDeed rfl) pa_nil))) (pa_cons (pe_callB (call_isX G) rfl mi boot_isinstance (pa_cons (pv 0) (pa_cons (pe_glob (v := .ref cNoNews) rfl gNoNews rfl) pa_nil))) (pa_cons (pe_callB (call_isX G) rfl mi boot_isinstance (pa_cons (pv 0) (pa_cons (pe_glob (v := .ref cNoText) rfl gNoText rfl) pa_nil))) (pa_cons (pe_callB (call_isX G) rfl mi boot_isinstance (pa_cons (pv 0) (pa_cons (pe_glob (v := .ref cNoHouse) rfl gNoHouse rfl) pa_nil))) pa_nil))))))) (pss_cons (ps_set (i := 1) sc_kinds.nd rfl (.inl rfl) (pe_op op_cat (pv 1) (pe_lst (pa_cons (pe_callB (call_isX G) rfl mi boot_isinstance (pa_cons (pv 0) (pa_cons (pe_glob (v := .ref cNoAsker) rfl gNoAsker rfl) pa_nil))) (pa_cons (pe_callB (call_isX G) rfl mi boot_isinstance (pa_cons (pv 0) (pa_cons (pe_glob (v := .ref cNoAsk) rfl gNoAsk rfl) pa_nil))) (pa_cons (pe_callB (call_isX G) rfl mi boot_isinstance (pa_cons (pv 0) (pa_cons (pe_glob (v := .ref cNoLetter) rfl gNoLetter rfl) pa_nil))) (pa_cons (pe_callB (call_isX G) rfl mi boot_isinstance (pa_cons (pv 0) (pa_cons (pe_glob (v := .ref cBusy) rfl gBusy rfl) pa_nil))) pa_nil))))))) (pss_one (ps_ret (pe_op op_cat (pv 1) (pe_lst (pa_cons (pe_callB (call_isX G) rfl mi boot_isinstance (pa_cons (pv 0) (pa_cons (pe_glob (v := .ref cAway) rfl gAway rfl) pa_nil))) (pa_cons (pe_callB (call_isX G) rfl mi boot_isinstance (pa_cons (pv 0) (pa_cons (pe_glob (v := .ref cTooMany) rfl gTooMany rfl) pa_nil))) (pa_cons (pe_callB (call_isX G) rfl mi boot_isinstance (pa_cons (pv 0) (pa_cons (pe_glob (v := .ref cNoWorld) rfl gNoWorld rfl) pa_nil))) pa_nil)))))))))), ?_⟩
    refine ⟨_, rfl, a, C, bm, .ref cNoVersion, .ref cNoVersion, rfl, hx, T, (fun u r => r), .inl ⟨cNoVersion, bNoVersion, rfl, tNoVersion⟩, ?_⟩
    refine ⟨_, rfl, a, C, bm, .ref cNoCell, .ref cNoCell, rfl, hx, T, (fun u r => r), .inl ⟨cNoCell, bNoCell, rfl, tNoCell⟩, ?_⟩
    refine ⟨_, rfl, a, C, bm, .ref cNoKey, .ref cNoKey, rfl, hx, T, (fun u r => r), .inl ⟨cNoKey, bNoKey, rfl, tNoKey⟩, ?_⟩
    refine ⟨_, rfl, a, C, bm, .ref cNoKnown, .ref cNoKnown, rfl, hx, T, (fun u r => r), .inl ⟨cNoKnown, bNoKnown, rfl, tNoKnown⟩, ?_⟩
    refine ⟨(by show 4 ≤ sizeLine; decide), fun l0 nl0 => ?_⟩
    obtain ⟨sl0, el0⟩ := newl (xs := [V.bl ((Value.ref C :: bm).contains (.ref cNoVersion)), V.bl ((Value.ref C :: bm).contains (.ref cNoCell)), V.bl ((Value.ref C :: bm).contains (.ref cNoKey)), V.bl ((Value.ref C :: bm).contains (.ref cNoKnown))]) nl0
    generalize upd H l0 (.lst [V.bl ((Value.ref C :: bm).contains (.ref cNoVersion)), V.bl ((Value.ref C :: bm).contains (.ref cNoCell)), V.bl ((Value.ref C :: bm).contains (.ref cNoKey)), V.bl ((Value.ref C :: bm).contains (.ref cNoKnown))]) = G0 at sl0 el0 ⊢
    replace hx := xat_same sl0 hx
    have ep0 := el0
    refine ⟨_, rfl, ?_⟩
    refine ⟨_, rfl, a, C, bm, .ref cNoRow, .ref cNoRow, rfl, hx, T, (fun u r => r), .inl ⟨cNoRow, bNoRow, rfl, tNoRow⟩, ?_⟩
    refine ⟨_, rfl, a, C, bm, .ref cNoSteps, .ref cNoSteps, rfl, hx, T, (fun u r => r), .inl ⟨cNoSteps, bNoSteps, rfl, tNoSteps⟩, ?_⟩
    refine ⟨_, rfl, a, C, bm, .ref cNoRing, .ref cNoRing, rfl, hx, T, (fun u r => r), .inl ⟨cNoRing, bNoRing, rfl, tNoRing⟩, ?_⟩
    refine ⟨_, rfl, a, C, bm, .ref cNoShape, .ref cNoShape, rfl, hx, T, (fun u r => r), .inl ⟨cNoShape, bNoShape, rfl, tNoShape⟩, ?_⟩
    refine ⟨(by show 4 ≤ sizeLine; decide), fun l1 nl1 => ?_⟩
    obtain ⟨sl1, el1⟩ := newl (xs := [V.bl ((Value.ref C :: bm).contains (.ref cNoRow)), V.bl ((Value.ref C :: bm).contains (.ref cNoSteps)), V.bl ((Value.ref C :: bm).contains (.ref cNoRing)), V.bl ((Value.ref C :: bm).contains (.ref cNoShape))]) nl1
    generalize upd G0 l1 (.lst [V.bl ((Value.ref C :: bm).contains (.ref cNoRow)), V.bl ((Value.ref C :: bm).contains (.ref cNoSteps)), V.bl ((Value.ref C :: bm).contains (.ref cNoRing)), V.bl ((Value.ref C :: bm).contains (.ref cNoShape))]) = G1 at sl1 el1 ⊢
    replace hx := xat_same sl1 hx
    replace ep0 := sl1 _ _ ep0
    refine ⟨_, _, _, _, rfl, rfl, ep0, el1, (by show 8 ≤ sizeLine; decide), fun p1 np1 => ?_⟩
    obtain ⟨sp1, ep1⟩ := newl (xs := ([V.bl ((Value.ref C :: bm).contains (.ref cNoVersion)), V.bl ((Value.ref C :: bm).contains (.ref cNoCell)), V.bl ((Value.ref C :: bm).contains (.ref cNoKey)), V.bl ((Value.ref C :: bm).contains (.ref cNoKnown))] ++ [V.bl ((Value.ref C :: bm).contains (.ref cNoRow)), V.bl ((Value.ref C :: bm).contains (.ref cNoSteps)), V.bl ((Value.ref C :: bm).contains (.ref cNoRing)), V.bl ((Value.ref C :: bm).contains (.ref cNoShape))])) np1
    generalize upd G1 p1 (.lst ([V.bl ((Value.ref C :: bm).contains (.ref cNoVersion)), V.bl ((Value.ref C :: bm).contains (.ref cNoCell)), V.bl ((Value.ref C :: bm).contains (.ref cNoKey)), V.bl ((Value.ref C :: bm).contains (.ref cNoKnown))] ++ [V.bl ((Value.ref C :: bm).contains (.ref cNoRow)), V.bl ((Value.ref C :: bm).contains (.ref cNoSteps)), V.bl ((Value.ref C :: bm).contains (.ref cNoRing)), V.bl ((Value.ref C :: bm).contains (.ref cNoShape))])) = J1 at sp1 ep1 ⊢
    replace hx := xat_same sp1 hx
    replace ep1 : J1 p1 = some (.lst [V.bl ((Value.ref C :: bm).contains (.ref cNoVersion)), V.bl ((Value.ref C :: bm).contains (.ref cNoCell)), V.bl ((Value.ref C :: bm).contains (.ref cNoKey)), V.bl ((Value.ref C :: bm).contains (.ref cNoKnown)), V.bl ((Value.ref C :: bm).contains (.ref cNoRow)), V.bl ((Value.ref C :: bm).contains (.ref cNoSteps)), V.bl ((Value.ref C :: bm).contains (.ref cNoRing)), V.bl ((Value.ref C :: bm).contains (.ref cNoShape))]) := ep1
    refine ⟨_, rfl, ?_⟩
    refine ⟨_, rfl, a, C, bm, .ref cNoDeed, .ref cNoDeed, rfl, hx, T, (fun u r => r), .inl ⟨cNoDeed, bNoDeed, rfl, tNoDeed⟩, ?_⟩
    refine ⟨_, rfl, a, C, bm, .ref cNoNews, .ref cNoNews, rfl, hx, T, (fun u r => r), .inl ⟨cNoNews, bNoNews, rfl, tNoNews⟩, ?_⟩
    refine ⟨_, rfl, a, C, bm, .ref cNoText, .ref cNoText, rfl, hx, T, (fun u r => r), .inl ⟨cNoText, bNoText, rfl, tNoText⟩, ?_⟩
    refine ⟨_, rfl, a, C, bm, .ref cNoHouse, .ref cNoHouse, rfl, hx, T, (fun u r => r), .inl ⟨cNoHouse, bNoHouse, rfl, tNoHouse⟩, ?_⟩
    refine ⟨(by show 4 ≤ sizeLine; decide), fun l2 nl2 => ?_⟩
    obtain ⟨sl2, el2⟩ := newl (xs := [V.bl ((Value.ref C :: bm).contains (.ref cNoDeed)), V.bl ((Value.ref C :: bm).contains (.ref cNoNews)), V.bl ((Value.ref C :: bm).contains (.ref cNoText)), V.bl ((Value.ref C :: bm).contains (.ref cNoHouse))]) nl2
    generalize upd J1 l2 (.lst [V.bl ((Value.ref C :: bm).contains (.ref cNoDeed)), V.bl ((Value.ref C :: bm).contains (.ref cNoNews)), V.bl ((Value.ref C :: bm).contains (.ref cNoText)), V.bl ((Value.ref C :: bm).contains (.ref cNoHouse))]) = G2 at sl2 el2 ⊢
    replace hx := xat_same sl2 hx
    replace ep1 := sl2 _ _ ep1
    refine ⟨_, _, _, _, rfl, rfl, ep1, el2, (by show 12 ≤ sizeLine; decide), fun p2 np2 => ?_⟩
    obtain ⟨sp2, ep2⟩ := newl (xs := ([V.bl ((Value.ref C :: bm).contains (.ref cNoVersion)), V.bl ((Value.ref C :: bm).contains (.ref cNoCell)), V.bl ((Value.ref C :: bm).contains (.ref cNoKey)), V.bl ((Value.ref C :: bm).contains (.ref cNoKnown)), V.bl ((Value.ref C :: bm).contains (.ref cNoRow)), V.bl ((Value.ref C :: bm).contains (.ref cNoSteps)), V.bl ((Value.ref C :: bm).contains (.ref cNoRing)), V.bl ((Value.ref C :: bm).contains (.ref cNoShape))] ++ [V.bl ((Value.ref C :: bm).contains (.ref cNoDeed)), V.bl ((Value.ref C :: bm).contains (.ref cNoNews)), V.bl ((Value.ref C :: bm).contains (.ref cNoText)), V.bl ((Value.ref C :: bm).contains (.ref cNoHouse))])) np2
    generalize upd G2 p2 (.lst ([V.bl ((Value.ref C :: bm).contains (.ref cNoVersion)), V.bl ((Value.ref C :: bm).contains (.ref cNoCell)), V.bl ((Value.ref C :: bm).contains (.ref cNoKey)), V.bl ((Value.ref C :: bm).contains (.ref cNoKnown)), V.bl ((Value.ref C :: bm).contains (.ref cNoRow)), V.bl ((Value.ref C :: bm).contains (.ref cNoSteps)), V.bl ((Value.ref C :: bm).contains (.ref cNoRing)), V.bl ((Value.ref C :: bm).contains (.ref cNoShape))] ++ [V.bl ((Value.ref C :: bm).contains (.ref cNoDeed)), V.bl ((Value.ref C :: bm).contains (.ref cNoNews)), V.bl ((Value.ref C :: bm).contains (.ref cNoText)), V.bl ((Value.ref C :: bm).contains (.ref cNoHouse))])) = J2 at sp2 ep2 ⊢
    replace hx := xat_same sp2 hx
    replace ep2 : J2 p2 = some (.lst [V.bl ((Value.ref C :: bm).contains (.ref cNoVersion)), V.bl ((Value.ref C :: bm).contains (.ref cNoCell)), V.bl ((Value.ref C :: bm).contains (.ref cNoKey)), V.bl ((Value.ref C :: bm).contains (.ref cNoKnown)), V.bl ((Value.ref C :: bm).contains (.ref cNoRow)), V.bl ((Value.ref C :: bm).contains (.ref cNoSteps)), V.bl ((Value.ref C :: bm).contains (.ref cNoRing)), V.bl ((Value.ref C :: bm).contains (.ref cNoShape)), V.bl ((Value.ref C :: bm).contains (.ref cNoDeed)), V.bl ((Value.ref C :: bm).contains (.ref cNoNews)), V.bl ((Value.ref C :: bm).contains (.ref cNoText)), V.bl ((Value.ref C :: bm).contains (.ref cNoHouse))]) := ep2
    refine ⟨_, rfl, ?_⟩
    refine ⟨_, rfl, a, C, bm, .ref cNoAsker, .ref cNoAsker, rfl, hx, T, (fun u r => r), .inl ⟨cNoAsker, bNoAsker, rfl, tNoAsker⟩, ?_⟩
    refine ⟨_, rfl, a, C, bm, .ref cNoAsk, .ref cNoAsk, rfl, hx, T, (fun u r => r), .inl ⟨cNoAsk, bNoAsk, rfl, tNoAsk⟩, ?_⟩
    refine ⟨_, rfl, a, C, bm, .ref cNoLetter, .ref cNoLetter, rfl, hx, T, (fun u r => r), .inl ⟨cNoLetter, bNoLetter, rfl, tNoLetter⟩, ?_⟩
    refine ⟨_, rfl, a, C, bm, .ref cBusy, .ref cBusy, rfl, hx, T, (fun u r => r), .inl ⟨cBusy, bBusy, rfl, tBusy⟩, ?_⟩
    refine ⟨(by show 4 ≤ sizeLine; decide), fun l3 nl3 => ?_⟩
    obtain ⟨sl3, el3⟩ := newl (xs := [V.bl ((Value.ref C :: bm).contains (.ref cNoAsker)), V.bl ((Value.ref C :: bm).contains (.ref cNoAsk)), V.bl ((Value.ref C :: bm).contains (.ref cNoLetter)), V.bl ((Value.ref C :: bm).contains (.ref cBusy))]) nl3
    generalize upd J2 l3 (.lst [V.bl ((Value.ref C :: bm).contains (.ref cNoAsker)), V.bl ((Value.ref C :: bm).contains (.ref cNoAsk)), V.bl ((Value.ref C :: bm).contains (.ref cNoLetter)), V.bl ((Value.ref C :: bm).contains (.ref cBusy))]) = G3 at sl3 el3 ⊢
    replace hx := xat_same sl3 hx
    replace ep2 := sl3 _ _ ep2
    refine ⟨_, _, _, _, rfl, rfl, ep2, el3, (by show 16 ≤ sizeLine; decide), fun p3 np3 => ?_⟩
    obtain ⟨sp3, ep3⟩ := newl (xs := ([V.bl ((Value.ref C :: bm).contains (.ref cNoVersion)), V.bl ((Value.ref C :: bm).contains (.ref cNoCell)), V.bl ((Value.ref C :: bm).contains (.ref cNoKey)), V.bl ((Value.ref C :: bm).contains (.ref cNoKnown)), V.bl ((Value.ref C :: bm).contains (.ref cNoRow)), V.bl ((Value.ref C :: bm).contains (.ref cNoSteps)), V.bl ((Value.ref C :: bm).contains (.ref cNoRing)), V.bl ((Value.ref C :: bm).contains (.ref cNoShape)), V.bl ((Value.ref C :: bm).contains (.ref cNoDeed)), V.bl ((Value.ref C :: bm).contains (.ref cNoNews)), V.bl ((Value.ref C :: bm).contains (.ref cNoText)), V.bl ((Value.ref C :: bm).contains (.ref cNoHouse))] ++ [V.bl ((Value.ref C :: bm).contains (.ref cNoAsker)), V.bl ((Value.ref C :: bm).contains (.ref cNoAsk)), V.bl ((Value.ref C :: bm).contains (.ref cNoLetter)), V.bl ((Value.ref C :: bm).contains (.ref cBusy))])) np3
    generalize upd G3 p3 (.lst ([V.bl ((Value.ref C :: bm).contains (.ref cNoVersion)), V.bl ((Value.ref C :: bm).contains (.ref cNoCell)), V.bl ((Value.ref C :: bm).contains (.ref cNoKey)), V.bl ((Value.ref C :: bm).contains (.ref cNoKnown)), V.bl ((Value.ref C :: bm).contains (.ref cNoRow)), V.bl ((Value.ref C :: bm).contains (.ref cNoSteps)), V.bl ((Value.ref C :: bm).contains (.ref cNoRing)), V.bl ((Value.ref C :: bm).contains (.ref cNoShape)), V.bl ((Value.ref C :: bm).contains (.ref cNoDeed)), V.bl ((Value.ref C :: bm).contains (.ref cNoNews)), V.bl ((Value.ref C :: bm).contains (.ref cNoText)), V.bl ((Value.ref C :: bm).contains (.ref cNoHouse))] ++ [V.bl ((Value.ref C :: bm).contains (.ref cNoAsker)), V.bl ((Value.ref C :: bm).contains (.ref cNoAsk)), V.bl ((Value.ref C :: bm).contains (.ref cNoLetter)), V.bl ((Value.ref C :: bm).contains (.ref cBusy))])) = J3 at sp3 ep3 ⊢
    replace hx := xat_same sp3 hx
    replace ep3 : J3 p3 = some (.lst [V.bl ((Value.ref C :: bm).contains (.ref cNoVersion)), V.bl ((Value.ref C :: bm).contains (.ref cNoCell)), V.bl ((Value.ref C :: bm).contains (.ref cNoKey)), V.bl ((Value.ref C :: bm).contains (.ref cNoKnown)), V.bl ((Value.ref C :: bm).contains (.ref cNoRow)), V.bl ((Value.ref C :: bm).contains (.ref cNoSteps)), V.bl ((Value.ref C :: bm).contains (.ref cNoRing)), V.bl ((Value.ref C :: bm).contains (.ref cNoShape)), V.bl ((Value.ref C :: bm).contains (.ref cNoDeed)), V.bl ((Value.ref C :: bm).contains (.ref cNoNews)), V.bl ((Value.ref C :: bm).contains (.ref cNoText)), V.bl ((Value.ref C :: bm).contains (.ref cNoHouse)), V.bl ((Value.ref C :: bm).contains (.ref cNoAsker)), V.bl ((Value.ref C :: bm).contains (.ref cNoAsk)), V.bl ((Value.ref C :: bm).contains (.ref cNoLetter)), V.bl ((Value.ref C :: bm).contains (.ref cBusy))]) := ep3
    refine ⟨_, rfl, ?_⟩
    refine ⟨_, rfl, a, C, bm, .ref cAway, .ref cAway, rfl, hx, T, (fun u r => r), .inl ⟨cAway, bAway, rfl, tAway⟩, ?_⟩
    refine ⟨_, rfl, a, C, bm, .ref cTooMany, .ref cTooMany, rfl, hx, T, (fun u r => r), .inl ⟨cTooMany, bTooMany, rfl, tTooMany⟩, ?_⟩
    refine ⟨_, rfl, a, C, bm, .ref cNoWorld, .ref cNoWorld, rfl, hx, T, (fun u r => r), .inl ⟨cNoWorld, bNoWorld, rfl, tNoWorld⟩, ?_⟩
    refine ⟨(by show 3 ≤ sizeLine; decide), fun l4 nl4 => ?_⟩
    obtain ⟨sl4, el4⟩ := newl (xs := [V.bl ((Value.ref C :: bm).contains (.ref cAway)), V.bl ((Value.ref C :: bm).contains (.ref cTooMany)), V.bl ((Value.ref C :: bm).contains (.ref cNoWorld))]) nl4
    generalize upd J3 l4 (.lst [V.bl ((Value.ref C :: bm).contains (.ref cAway)), V.bl ((Value.ref C :: bm).contains (.ref cTooMany)), V.bl ((Value.ref C :: bm).contains (.ref cNoWorld))]) = G4 at sl4 el4 ⊢
    replace hx := xat_same sl4 hx
    replace ep3 := sl4 _ _ ep3
    refine ⟨_, _, _, _, rfl, rfl, ep3, el4, (by show 19 ≤ sizeLine; decide), fun p4 np4 => ?_⟩
    obtain ⟨sp4, ep4⟩ := newl (xs := ([V.bl ((Value.ref C :: bm).contains (.ref cNoVersion)), V.bl ((Value.ref C :: bm).contains (.ref cNoCell)), V.bl ((Value.ref C :: bm).contains (.ref cNoKey)), V.bl ((Value.ref C :: bm).contains (.ref cNoKnown)), V.bl ((Value.ref C :: bm).contains (.ref cNoRow)), V.bl ((Value.ref C :: bm).contains (.ref cNoSteps)), V.bl ((Value.ref C :: bm).contains (.ref cNoRing)), V.bl ((Value.ref C :: bm).contains (.ref cNoShape)), V.bl ((Value.ref C :: bm).contains (.ref cNoDeed)), V.bl ((Value.ref C :: bm).contains (.ref cNoNews)), V.bl ((Value.ref C :: bm).contains (.ref cNoText)), V.bl ((Value.ref C :: bm).contains (.ref cNoHouse)), V.bl ((Value.ref C :: bm).contains (.ref cNoAsker)), V.bl ((Value.ref C :: bm).contains (.ref cNoAsk)), V.bl ((Value.ref C :: bm).contains (.ref cNoLetter)), V.bl ((Value.ref C :: bm).contains (.ref cBusy))] ++ [V.bl ((Value.ref C :: bm).contains (.ref cAway)), V.bl ((Value.ref C :: bm).contains (.ref cTooMany)), V.bl ((Value.ref C :: bm).contains (.ref cNoWorld))])) np4
    generalize upd G4 p4 (.lst ([V.bl ((Value.ref C :: bm).contains (.ref cNoVersion)), V.bl ((Value.ref C :: bm).contains (.ref cNoCell)), V.bl ((Value.ref C :: bm).contains (.ref cNoKey)), V.bl ((Value.ref C :: bm).contains (.ref cNoKnown)), V.bl ((Value.ref C :: bm).contains (.ref cNoRow)), V.bl ((Value.ref C :: bm).contains (.ref cNoSteps)), V.bl ((Value.ref C :: bm).contains (.ref cNoRing)), V.bl ((Value.ref C :: bm).contains (.ref cNoShape)), V.bl ((Value.ref C :: bm).contains (.ref cNoDeed)), V.bl ((Value.ref C :: bm).contains (.ref cNoNews)), V.bl ((Value.ref C :: bm).contains (.ref cNoText)), V.bl ((Value.ref C :: bm).contains (.ref cNoHouse)), V.bl ((Value.ref C :: bm).contains (.ref cNoAsker)), V.bl ((Value.ref C :: bm).contains (.ref cNoAsk)), V.bl ((Value.ref C :: bm).contains (.ref cNoLetter)), V.bl ((Value.ref C :: bm).contains (.ref cBusy))] ++ [V.bl ((Value.ref C :: bm).contains (.ref cAway)), V.bl ((Value.ref C :: bm).contains (.ref cTooMany)), V.bl ((Value.ref C :: bm).contains (.ref cNoWorld))])) = J4 at sp4 ep4 ⊢
    replace hx := xat_same sp4 hx
    replace ep4 : J4 p4 = some (.lst [V.bl ((Value.ref C :: bm).contains (.ref cNoVersion)), V.bl ((Value.ref C :: bm).contains (.ref cNoCell)), V.bl ((Value.ref C :: bm).contains (.ref cNoKey)), V.bl ((Value.ref C :: bm).contains (.ref cNoKnown)), V.bl ((Value.ref C :: bm).contains (.ref cNoRow)), V.bl ((Value.ref C :: bm).contains (.ref cNoSteps)), V.bl ((Value.ref C :: bm).contains (.ref cNoRing)), V.bl ((Value.ref C :: bm).contains (.ref cNoShape)), V.bl ((Value.ref C :: bm).contains (.ref cNoDeed)), V.bl ((Value.ref C :: bm).contains (.ref cNoNews)), V.bl ((Value.ref C :: bm).contains (.ref cNoText)), V.bl ((Value.ref C :: bm).contains (.ref cNoHouse)), V.bl ((Value.ref C :: bm).contains (.ref cNoAsker)), V.bl ((Value.ref C :: bm).contains (.ref cNoAsk)), V.bl ((Value.ref C :: bm).contains (.ref cNoLetter)), V.bl ((Value.ref C :: bm).contains (.ref cBusy)), V.bl ((Value.ref C :: bm).contains (.ref cAway)), V.bl ((Value.ref C :: bm).contains (.ref cTooMany)), V.bl ((Value.ref C :: bm).contains (.ref cNoWorld))]) := ep4
    exact q _ p4 (Same.trans sl0 (Same.trans sl1 (Same.trans sp1 (Same.trans sl2 (Same.trans sp2 (Same.trans sl3 (Same.trans sp3 (Same.trans sl4 (sp4))))))))) ep4
theorem sc_under : FnScope ["_law_e", "_law_found"] ["_law_e"] (defScope (topS 27)) := ⟨rfl, rfl, rfl, by decide +kernel, rfl, by decide +kernel, by decide +kernel⟩
theorem ok_under (F : Fun K "_law_under" "_law_under" (topS 27) f fd) (G : ClsG K) (mi : mg "isinstance" = none) (gH : mg "HintError" = some (.ref D)) (kH : ∃ bm, ExK K D bm) (fValueError : mg "ValueError" = none) (fKeyError : mg "KeyError" = none) (fLookupError : mg "LookupError" = none) (fRuntimeError : mg "RuntimeError" = none) (fOverflowError : mg "OverflowError" = none) : FnOk P w K mg base CX0 1 f fd ["_law_e"] (spUn K D) := by
  refine F.ok sc_under (fun vs H Q E h => ?_) (fun cdv A outer s H vs Q E hr h => ?_)
  · obtain ⟨a, C, bm, rfl, _⟩ := h; rfl
  · obtain ⟨a, C, bm, rfl, hx, T, q⟩ := h
    obtain ⟨bD, tD⟩ := kH
    refine ⟨_, pss_cons (ps_set (i := 1) sc_under.nd rfl (.inl rfl) (pe_lst (pa_cons (pe_callB (call_isX G) rfl mi boot_isinstance (pa_cons (pv 0) (pa_cons (pe_glob (v := .ref D) rfl gH rfl) pa_nil))) (pa_cons (pe_callB (call_isX G) rfl mi boot_isinstance (pa_cons (pv 0) (pa_cons (pe_bltn (v := .ty "ValueError") rfl fValueError (by decide +kernel) rfl) pa_nil))) (pa_cons (pe_callB (call_isX G) rfl mi boot_isinstance (pa_cons (pv 0) (pa_cons (pe_bltn (v := .ty "KeyError") rfl fKeyError (by decide +kernel) rfl) pa_nil))) (pa_cons (pe_callB (call_isX G) rfl mi boot_isinstance (pa_cons (pv 0) (pa_cons (pe_bltn (v := .ty "LookupError") rfl fLookupError (by decide +kernel) rfl) pa_nil))) pa_nil)))))) (pss_one (ps_ret (pe_op op_cat (pv 1) (pe_lst (pa_cons (pe_callB (call_isX G) rfl mi boot_isinstance (pa_cons (pv 0) (pa_cons (pe_bltn (v := .ty "RuntimeError") rfl fRuntimeError (by decide +kernel) rfl) pa_nil))) (pa_cons (pe_callB (call_isX G) rfl mi boot_isinstance (pa_cons (pv 0) (pa_cons (pe_bltn (v := .ty "OverflowError") rfl fOverflowError (by decide +kernel) rfl) pa_nil))) pa_nil)))))), ?_⟩
    refine ⟨_, rfl, a, C, bm, .ref D, .ref D, rfl, hx, T, (fun u r => r), .inl ⟨D, bD, rfl, tD⟩, ?_⟩
    refine ⟨_, rfl, a, C, bm, .type "ValueError", .ty "ValueError", rfl, hx, T, (fun u r => r), .inr ⟨"ValueError", rfl, (by decide +kernel)⟩, ?_⟩
    refine ⟨_, rfl, a, C, bm, .type "KeyError", .ty "KeyError", rfl, hx, T, (fun u r => r), .inr ⟨"KeyError", rfl, (by decide +kernel)⟩, ?_⟩
    refine ⟨_, rfl, a, C, bm, .type "LookupError", .ty "LookupError", rfl, hx, T, (fun u r => r), .inr ⟨"LookupError", rfl, (by decide +kernel)⟩, ?_⟩
    refine ⟨(by show 4 ≤ sizeLine; decide), fun l0 nl0 => ?_⟩
    obtain ⟨sl0, el0⟩ := newl (xs := [V.bl ((Value.ref C :: bm).contains (.ref D)), V.bl ((Value.ref C :: bm).contains (.type "ValueError")), V.bl ((Value.ref C :: bm).contains (.type "KeyError")), V.bl ((Value.ref C :: bm).contains (.type "LookupError"))]) nl0
    generalize upd H l0 (.lst [V.bl ((Value.ref C :: bm).contains (.ref D)), V.bl ((Value.ref C :: bm).contains (.type "ValueError")), V.bl ((Value.ref C :: bm).contains (.type "KeyError")), V.bl ((Value.ref C :: bm).contains (.type "LookupError"))]) = G0 at sl0 el0 ⊢
    replace hx := xat_same sl0 hx
    refine ⟨_, rfl, ?_⟩
    refine ⟨_, rfl, a, C, bm, .type "RuntimeError", .ty "RuntimeError", rfl, hx, T, (fun u r => r), .inr ⟨"RuntimeError", rfl, (by decide +kernel)⟩, ?_⟩
    refine ⟨_, rfl, a, C, bm, .type "OverflowError", .ty "OverflowError", rfl, hx, T, (fun u r => r), .inr ⟨"OverflowError", rfl, (by decide +kernel)⟩, ?_⟩
    refine ⟨(by show 2 ≤ sizeLine; decide), fun l1 nl1 => ?_⟩
    obtain ⟨sl1, el1⟩ := newl (xs := [V.bl ((Value.ref C :: bm).contains (.type "RuntimeError")), V.bl ((Value.ref C :: bm).contains (.type "OverflowError"))]) nl1
    refine ⟨_, _, _, _, rfl, rfl, sl1 _ _ el0, el1, (by show 6 ≤ sizeLine; decide), fun p np => ?_⟩
    obtain ⟨sp, ep⟩ := newl (xs := [V.bl ((Value.ref C :: bm).contains (.ref D)), V.bl ((Value.ref C :: bm).contains (.type "ValueError")), V.bl ((Value.ref C :: bm).contains (.type "KeyError")), V.bl ((Value.ref C :: bm).contains (.type "LookupError"))] ++ [V.bl ((Value.ref C :: bm).contains (.type "RuntimeError")), V.bl ((Value.ref C :: bm).contains (.type "OverflowError"))]) np
    exact q _ p (sl0.trans (sl1.trans sp)) ep
theorem sc_due : FnScope ["_law_at", "_law_due_here"] ["_law_at"] (defScope (topS 28)) := ⟨rfl, rfl, rfl, by decide +kernel, rfl, by decide +kernel, by decide +kernel⟩
theorem ok_due (F : Fun K "_law_due" "_law_due" (topS 28) f fd) : FnOk P w K mg base CX0 1 f fd ["_law_at"] spDu := by
  refine F.ok sc_due (fun vs H Q E h => ?_) (fun cdv A outer s H vs Q E hr h => ?_)
  · obtain ⟨n, rfl, _⟩ := h; rfl
  · obtain ⟨n, rfl, q⟩ := h
    refine ⟨_, pss_cons (ps_set (i := 1) sc_due.nd rfl (.inl rfl) (pe_op op_rep (pe_lst (pa_cons pe_bl pa_nil)) pe_int))
      (pss_cons (ps_if (pt_cmpR op_lt (pv 0) pe_int (nomark _)) (pss_cons (ps_asg pe_bl (pg_sub (pv 1) pe_int set_list)) (pss_one (ps_asg pe_bl (pg_sub (pv 1) pe_int set_list))))
        (pss_one (ps_if (pt_cmpR op_lt (pv 0) pe_int (nomark _)) (pss_cons (ps_asg pe_bl (pg_sub (pv 1) pe_int set_list)) (pss_one (ps_asg pe_bl (pg_sub (pv 1) pe_int set_list))))
        (pss_one (ps_if (PW.pt (pw_or (pt_cmpR op_lt (pv 0) pe_int (nomark _)) (pw_or1 (pt_cmpR op_eq (pv 0) pe_int (nomark _))))) (pss_one (ps_asg pe_bl (pg_sub (pv 1) pe_int set_list)))
        (pss_one (ps_if (pt_cmpR op_lt (pv 0) pe_int (nomark _)) (pss_one (ps_asg pe_bl (pg_sub (pv 1) pe_int set_list))) (pss_one (ps_asg pe_bl (pg_sub (pv 1) pe_int set_list))))))))))
      (pss_one (ps_ret (pv 1)))), ?_⟩
    refine ⟨(by show 1 ≤ sizeLine; decide), fun l nl => ?_⟩
    obtain ⟨s1, e1⟩ := newl (xs := [V.bl false]) nl
    generalize upd H l (.lst [V.bl false]) = H1 at s1 e1 ⊢
    refine ⟨l, 6, _, rfl, rfl, e1, (by decide), (by decide), (by show 6 ≤ sizeLine; decide), fun p np => ?_⟩
    obtain ⟨s2, e2⟩ := newl (xs := [V.bl false, V.bl false, V.bl false, V.bl false, V.bl false, V.bl false]) np
    change gName 1 (V.ref p) _ (upd H1 p (.lst [V.bl false, V.bl false, V.bl false, V.bl false, V.bl false, V.bl false])) _
    have fresh : ∀ (xs : List V), Same H (upd (upd H1 p (.lst [V.bl false, V.bl false, V.bl false, V.bl false, V.bl false, V.bl false])) p (.lst xs)) := fun xs b o e => by
      rw [upd_ne (ne_of_none (s1 _ _ e) np), upd_ne (ne_of_none (s1 _ _ e) np)]
      exact s1 _ _ e
    have fresh2 : ∀ (xs ys : List V), Same H (upd (upd (upd H1 p (.lst [V.bl false, V.bl false, V.bl false, V.bl false, V.bl false, V.bl false])) p (.lst xs)) p (.lst ys)) := fun xs ys b o e => by
      rw [upd_ne (ne_of_none (s1 _ _ e) np)]
      exact fresh xs b o e
    refine ⟨.int n, rfl, n, 11, rfl, rfl, _, rfl, ite2 (fun e => ?_) (fun e => ?_)⟩
    · have e' : n < 11 := of_decide_eq_true e
      refine ⟨.ref p, rfl, p, _, 0, 0, rfl, rfl, e2, rfl, ?_⟩
      refine ⟨.ref p, rfl, p, _, 1, 1, rfl, rfl, upd_same, rfl, ?_⟩
      refine ⟨.ref p, rfl, q _ p (fresh2 _ _) ?_⟩
      rw [upd_same, dueB, if_pos e']
      rfl
    · have e' : ¬ n < 11 := fun z => e (decide_eq_true z)
      refine ⟨.int n, rfl, n, 13, rfl, rfl, _, rfl, ite2 (fun e => ?_) (fun e => ?_)⟩
      · have e2' : n < 13 := of_decide_eq_true e
        refine ⟨.ref p, rfl, p, _, 2, 2, rfl, rfl, e2, rfl, ?_⟩
        refine ⟨.ref p, rfl, p, _, 3, 3, rfl, rfl, upd_same, rfl, ?_⟩
        refine ⟨.ref p, rfl, q _ p (fresh2 _ _) ?_⟩
        rw [upd_same, dueB, if_neg e', if_pos e2']
        rfl
      · have e2' : ¬ n < 13 := fun z => e (decide_eq_true z)
        have last4 : ¬ (n < 15 ∨ n = 18) → tIfS (tTest (tOp (rI0 fun i j => V.bl (decide (i < j))) (tVar 0) (tC (.int 17)))) (tAsg (tC (.bl true)) (gSub (tVar 1) (tC (.int 4)) rSetL)) (tAsg (tC (.bl true)) (gSub (tVar 1) (tC (.int 5)) rSetL)) { nx := tRet (tVar 1) { nx := fun _ H' => Q .non H', rt := Q }, rt := Q } [some (.int n), some (.ref p)] (upd H1 p (.lst [V.bl false, V.bl false, V.bl false, V.bl false, V.bl false, V.bl false])) := fun e3 => by
          refine ⟨.int n, rfl, n, 17, rfl, rfl, _, rfl, ite2 (fun e => ?_) (fun e => ?_)⟩
          · have e4 : n < 17 := of_decide_eq_true e
            refine ⟨.ref p, rfl, p, _, 4, 4, rfl, rfl, e2, rfl, ?_⟩
            refine ⟨.ref p, rfl, q _ p (fresh _) ?_⟩
            rw [upd_same, dueB, if_neg e', if_neg e2', if_neg e3, if_pos e4]
            rfl
          · have e4 : ¬ n < 17 := fun z => e (decide_eq_true z)
            refine ⟨.ref p, rfl, p, _, 5, 5, rfl, rfl, e2, rfl, ?_⟩
            refine ⟨.ref p, rfl, q _ p (fresh _) ?_⟩
            rw [upd_same, dueB, if_neg e', if_neg e2', if_neg e3, if_neg e4]
            rfl
        have put3 : (n < 15 ∨ n = 18) → tAsg (tC (.bl true)) (gSub (tVar 1) (tC (.int 3)) rSetL) { nx := tRet (tVar 1) { nx := fun _ H' => Q .non H', rt := Q }, rt := Q } [some (.int n), some (.ref p)] (upd H1 p (.lst [V.bl false, V.bl false, V.bl false, V.bl false, V.bl false, V.bl false])) := fun e3 => by
          refine ⟨.ref p, rfl, p, _, 3, 3, rfl, rfl, e2, rfl, ?_⟩
          refine ⟨.ref p, rfl, q _ p (fresh _) ?_⟩
          rw [upd_same, dueB, if_neg e', if_neg e2', if_pos e3]
          rfl
        refine ⟨.int n, rfl, n, 15, rfl, rfl, _, rfl, ite2 (fun e => ?_) (fun e => ?_)⟩
        · exact put3 (.inl (of_decide_eq_true e))
        · have e3 : ¬ n < 15 := fun z => e (decide_eq_true z)
          refine ⟨.int n, rfl, rfl, _, rfl, ite2 (fun e => ?_) (fun e => ?_)⟩
          · exact put3 (.inr (V.int.inj (of_decide_eq_true e)))
          · exact last4 fun z => z.elim e3 fun z => e (decide_eq_true (by rw [z]))
end
end K04

set_option Elab.async false
set_option linter.all false
set_option maxRecDepth 100000
set_option maxHeartbeats 4000000
namespace K04
open PySem PySem.Spec PyProof.Rows L2
/-! ### further rules -/
def rCatS (K : PySem.W.Frag) : R2 := fun x y H Q => ∃ l b xs zs, x = .ref l ∧ y = .ref b ∧ SqL K H l xs ∧ SqL K H b zs ∧ xs.length + zs.length ≤ sizeLine ∧ ∀ p, H p = none → Q (.ref p) (upd H p (.lst (xs ++ zs)))
theorem op_catS {X : Cx} : OpR X (binaryOp .Add) (rCatS X.K) := by
  intro pins s σ H x y v u Q I rx ry h
  obtain ⟨l, b, xs, zs, rfl, rfl, hH, hB, hz, q⟩ := h
  cases rx
  cases ry
  obtain ⟨its, r, ⟨⟨c1, d1, da1, sl1⟩, n, e, hc, _, hd⟩, _⟩ := I.list hH
  obtain ⟨its2, r2, ⟨⟨c2, d2, da2, sl2⟩, n2, e2, hc2, _, hd2⟩, _⟩ := I.list hB
  simp only at hc hd hc2 hd2
  subst hc hd hc2 hd2
  have l1 := r.length
  have l2 := r2.length
  refine concat_meets ⟨_, e, rfl⟩ ⟨_, e2, rfl⟩ noFill_list_add seq_list_add PySem.F.slot_list_add PySem.F.entry_list_add (PySem.F.args_list_add_2 _ _) (PyProof.Rows.list_addW l b its.toArray its2.toArray n n2 d1 d2 sl1 sl2 (by rw [List.size_toArray, List.size_toArray]; omega)) ⟨e, e2, ?_⟩
  have ea : its.toArray ++ its2.toArray = (its ++ its2).toArray := by simp
  rw [ea]
  exact ⟨.ref _, _, I.lnew (t' := s.toks) (r.append r2) (by rw [List.length_append]; omega), rfl, q _ I.fresh⟩
theorem for_enm {K : PySem.W.Frag} {a : Addr} {xs : List V} {g : TG} {tb : TS} {D : Ends} {σ : L2.St} {H : Hp} (Pv : Nat → L2.St → Hp → Prop) (h0 : Pv 0 σ H) (hl : ∀ i σ H, i ≤ xs.length → Pv i σ H → SqL K H a xs)
    (hs : ∀ i x T σ H, xs[i]? = some x → Pv i σ H → H T = none → g (.ref T) σ (upd H T (.tup [.int (i : Nat), x])) fun σ2 H2 => tb { D with nx := Pv (i + 1), ct := Pv (i + 1), bk := D.nx } σ2 H2) (hd : ∀ σ H, Pv xs.length σ H → D.nx σ H) :
    ∃ W : Nat → Nat → L2.St → Hp → Prop, (∃ m, W 0 m σ H) ∧ ∀ i m σ H, W i m σ H →
      ((Ite K a).stop i H ∧ D.nx σ H) ∨ ((Ite K a).go i H ∧ ∃ N : L2.St → Hp → Prop, (∀ σ' H', N σ' H' → ∃ m', m' < m ∧ W (i + 1) m' σ' H') ∧ ∀ x H', (Ite K a).yld i H x H' → g x σ H' fun σ2 H2 => tb { D with nx := N, ct := N, bk := D.nx } σ2 H2) := by
  refine ⟨fun i m σ H => m = xs.length - i ∧ i ≤ xs.length ∧ Pv i σ H, ⟨xs.length, by simp, Nat.zero_le _, h0⟩, ?_⟩
  rintro i m σ H ⟨rfl, hi, p⟩
  have z := hl i σ H hi p
  by_cases hlt : i < xs.length
  · refine .inr ⟨⟨xs, xs[i], z, List.getElem?_eq_getElem hlt⟩, Pv (i + 1), fun σ' H' h' => ⟨xs.length - (i + 1), by omega, rfl, by omega, h'⟩, fun v H' hy => ?_⟩
    obtain ⟨T, x, rfl, nT, rfl, fx⟩ := hy
    exact hs i x T σ H (fx xs z) p nT
  · have e : i = xs.length := by omega
    subst e
    exact .inl ⟨⟨xs, z, Nat.le_refl _⟩, hd σ H p⟩
theorem pget {α β : Type} {F : α → β → Prop} : ∀ {l1 : List α} {l2 : List β}, Paired F l1 l2 → ∀ {i : Nat} {a : α}, l1[i]? = some a → ∃ b, l2[i]? = some b ∧ F a b
  | _, _, .nil, i, a, h => by simp at h
  | _, _, .cons r t, 0, a, h => by
    simp at h
    subst h
    exact ⟨_, rfl, r⟩
  | _, _, .cons r t, i + 1, a, h => by
    obtain ⟨b, h1, h2⟩ := pget t (i := i) (a := a) (by simpa using h)
    exact ⟨b, by simpa using h1, h2⟩
theorem papp {α β : Type} {F : α → β → Prop} : ∀ {l1 l3 : List α} {l2 l4 : List β}, Paired F l1 l2 → Paired F l3 l4 → Paired F (l1 ++ l3) (l2 ++ l4)
  | _, _, _, _, .nil, h => h
  | _, _, _, _, .cons r t, h => .cons r (papp t h)
theorem pmap {α β γ : Type} {F : α → β → Prop} {G : α → γ → Prop} {f : β → γ} (hf : ∀ a b, F a b → G a (f b)) : ∀ {l1 : List α} {l2 : List β}, Paired F l1 l2 → Paired G l1 (l2.map f)
  | _, _, .nil => .nil
  | _, _, .cons r t => .cons (hf _ _ r) (pmap hf t)
theorem plen {α β : Type} {F : α → β → Prop} : ∀ {l1 : List α} {l2 : List β}, Paired F l1 l2 → l1.length = l2.length
  | _, _, .nil => rfl
  | _, _, .cons _ t => by rw [List.length_cons, List.length_cons, plen t]
theorem same_sqT {K : PySem.W.Frag} {H H' : Hp} {a : Addr} {xs : List V} (s : Same H H') (h : SqT K H a xs) : SqT K H' a xs := by
  rcases h with (h | ⟨o, h⟩) | h
  · exact .inl (.inl (s _ _ h))
  · exact .inl (.inr ⟨o, s _ _ h⟩)
  · exact .inr h
mutual
theorem dp_same {K : PySem.W.Frag} {H H' : Hp} (s : Same H H') : ∀ (d : PyData) (v : V), Dp K H v d → Dp K H' v d
  | .none, _, h => by cases h; exact .non
  | .bool b, _, h => by cases h; exact .bl b
  | .int i, _, h => by cases h; exact .int i
  | .str x, _, h => by cases h; exact .str x
  | .list ds, _, h => by
    cases h with
    | lst h1 h2 => exact .lst (s.seq h1) (dpAll_same s ds _ h2)
  | .tuple ds, _, h => by
    cases h with
    | tup h1 h2 => exact .tup (same_sqT s h1) (dpAll_same s ds _ h2)
  | .dict _, _, h => by cases h
theorem dpAll_same {K : PySem.W.Frag} {H H' : Hp} (s : Same H H') : ∀ (ds : List PyData) (vs : List V), DpAll K H vs ds → DpAll K H' vs ds
  | [], _, h => by cases h; exact .nil
  | d :: ds, _, h => by
    cases h with
    | cons h1 h2 => exact .cons (dp_same s d _ h1) (dpAll_same s ds _ h2)
end
theorem rd_same {K : PySem.W.Frag} {H H' : Hp} {v : V} {d : PyData} (s : Same H H') (h : RdV K H v d) : RdV K H' v d := by
  rcases h with h | ⟨p, h1, h2, h3⟩
  · exact .inl (dp_same s d v h)
  · exact .inr ⟨p, h1, s _ _ h2, h3⟩
/-! ### lists of truths -/
theorem eqv_bools : ∀ bs : List Bool, PyData.eqvAll (bs.map PyData.bool) (bs.map PyData.bool) = true
  | [] => by simp [PyData.eqvAll]
  | b :: bs => by simp [PyData.eqvAll, PyData.eqv, eqv_bools bs]
theorem lay_bools : ∀ bs : List Bool, PyData.canLayAll0 (bs.map PyData.bool) = true
  | [] => by simp [PyData.canLayAll0]
  | b :: bs => by simp [PyData.canLayAll0, PyData.canLay0, lay_bools bs]
theorem dep_bools : ∀ bs : List Bool, PyData.depthAll (bs.map PyData.bool) = 0
  | [] => by simp [PyData.depthAll]
  | b :: bs => by simp [PyData.depthAll, PyData.depth, dep_bools bs]
theorem shaped_bools (bs : List Bool) : SeqAt.shaped (.list (bs.map PyData.bool)) = true := by
  unfold SeqAt.shaped
  rw [PyData.canLay0, lay_bools, PyData.depth, dep_bools]
  rfl
theorem dp_bools {K : PySem.W.Frag} {H : Hp} : ∀ bs : List Bool, DpAll K H (bs.map V.bl) (bs.map PyData.bool)
  | [] => .nil
  | b :: bs => .cons (.bl b) (dp_bools bs)
/-! ### the things -/
def dT : List PyData := [.none, .int 0, .bool true, .str "", .str "a", .tuple [], .tuple [.int 1, .str "b"], .list [], .list [.int 3], .dict [], .int (-5), .int (10 ^ 20)]
def dOk (d : PyData) : Bool := d.showable && (decide ((listText (List.replicate 12 d.shown)).length ≤ 100000) && decide (d.depth ≤ 40))
theorem dT_ok : dT.all dOk = true := by decide +kernel
theorem dOk_of {d : PyData} (h : d ∈ dT) : d.showable = true ∧ (listText (List.replicate 12 d.shown)).length ≤ sizeLine ∧ d.depth ≤ 40 := by
  have z := List.all_eq_true.mp dT_ok d h
  obtain ⟨z1, z⟩ := Bool.and_eq_true_iff.mp z
  obtain ⟨z2, z3⟩ := Bool.and_eq_true_iff.mp z
  exact ⟨z1, Nat.le_trans (of_decide_eq_true z2) (by rw [sizeLine_eq]; decide), of_decide_eq_true z3⟩
end K04

set_option Elab.async false
set_option linter.all false
set_option maxRecDepth 100000
set_option maxHeartbeats 4000000
namespace K04
open PySem PySem.Spec PyProof.Rows L2
abbrev NL : List Str := ["_law_script", "_law_things", "_law_at", "_law_thing", "_law_some", "_law_every", "_law_spot", "_law_one", "_law_other"]
theorem sc_law : FnScope NL ["_law_script"] (defScope (topS 29)) := ⟨rfl, rfl, rfl, by decide +kernel, rfl, by decide +kernel, by decide +kernel⟩
def spLaw (K : PySem.W.Frag) : Sp := fun vs H Q _ => ∃ (a : Addr) (ns : List Int), vs = [.ref a] ∧ SqL K H a (ns.map V.int) ∧ ns.length ≤ 63 ∧ ∀ H', Q (.bl true) H'
/-- the i-th class is told apart -/
def Good (K : PySem.W.Frag) (CC : List Addr) (D : Addr) (i : Nat) (C : Addr) : Prop :=
  ∃ bm, ExK K C bm ∧ kindsV C bm CC = ((List.range 19).map fun j : Nat => decide ((j : Int) = (i : Int))).map V.bl ∧ underV C bm D = (dueB (i : Int)).map V.bl
theorem newo {H : Hp} {p : Addr} {o : HO} (n : H p = none) : Same H (upd H p o) ∧ (upd H p o) p = some o := ⟨same_upd n, upd_same⟩
theorem iteEqv {d e : PyData} {A B : Prop} (h : PyData.eqv d e = true) (b : B) : if (!PyData.eqv d e) = true then A else B := by
  rw [h]
  exact iteF b
theorem eqv_lb (bs : List Bool) : PyData.eqv (.list (bs.map PyData.bool)) (.list (bs.map PyData.bool)) = true := by
  rw [PyData.eqv]
  exact eqv_bools bs
theorem first_int (ns : List Int) : ∃ m : Int, atI (ns.map V.int ++ [V.int 0]) 0 = some (V.int m) := by
  cases ns with
  | nil => exact ⟨0, atI_nat (j := 0) rfl⟩
  | cons n r => exact ⟨n, atI_nat (j := 0) rfl⟩
/-- a callee: where it stands, what it keeps -/
structure Ca (P : Program) (w : World) (K : PySem.W.Frag) (mg : Str → Option Value) (base : Heap) (k : Nat) (x : Str) (ps : List Str) (sp : Sp) : Prop where
  ex : ∃ f fd, FnOk P w K mg base CX0 k f fd ps sp ∧ mg x = some (.ref f) ∧ PySem.W.keepIn K (.ref f) = true ∧ Binds K fd ps []
theorem pe_ca {X : Cx} {x : Str} {ps : List Str} {sp : Sp} {k : Nat} {e : Expr} {es : List Expr} {t : TA} {p pos : Pos} (c : Ca X.prog X.w X.K X.mg X.base k x ps sp) (hr : Room k X.A) (hg : Gl X x) (hx : Passes CX0 X E0) (ha : PA X (e :: es) t)
    (hdb : (x == ("__debug__" : Str)) = false := by decide) (he : starEach (e :: es) X.env = (false, eval e X.env) :: starEach es X.env := by rfl) (hpl : (backTo pos (starEach es X.env)).any (·.1) = false := by rfl) : PE X (.Call (.Name x p) (e :: es) [] pos) (tCall sp [] E0 t) := by
  obtain ⟨f, fd, F, g, kp, b⟩ := c.ex
  exact pe_call F hr hg g kp b .nil hx ha hdb he hpl
theorem pe_ca0 {X : Cx} {x : Str} {ps : List Str} {sp : Sp} {k : Nat} {p pos : Pos} (c : Ca X.prog X.w X.K X.mg X.base k x ps sp) (hr : Room k X.A) (hg : Gl X x) (hx : Passes CX0 X E0)
    (hdb : (x == ("__debug__" : Str)) = false := by decide) : PE X (.Call (.Name x p) [] [] pos) (tCall sp [] E0 tNil) := by
  obtain ⟨f, fd, F, g, kp, b⟩ := c.ex
  exact pe_call0 F hr hg g kp b .nil hx hdb
section
variable {P : Program} {w : World} {K : PySem.W.Frag} {mg : Str → Option Value} {base : Heap} {f D cW : Addr} {fd : FuncData} {CL CC : List Addr} {CF : List (Addr × Str)}
theorem ok_law (hCC : CC = CL ++ CF.map (·.1) ++ [cW]) (hn : CC.length = 19) (good : ∀ i C, CC[i]? = some C → Good K CC D i C) (F : Fun K "law" "law" (topS 29) f fd)
    (cP : Ca P w K mg base 3 "_law_plain" [] (spPl CL)) (cO : Ca P w K mg base 3 "_law_ones" ["_law_thing"] (spOn CF)) (cN : Ca P w K mg base 3 "_law_named" ["_law_thing"] (spOn CF)) (cF : Ca P w K mg base 3 "_law_fields" ["_law_some"] (spFi K CF))
    (cK : Ca P w K mg base 1 "_law_kinds" ["_law_e"] (spKi K CC)) (cU : Ca P w K mg base 1 "_law_under" ["_law_e"] (spUn K D)) (cD : Ca P w K mg base 1 "_law_due" ["_law_at"] spDu) (mW : M0 P w K mg base "NoWorld" cW)
    (fa : mg "abs" = none) (fr : mg "repr" = none) (fe : mg "enumerate" = none) (fg : mg "range" = none) : RunAt P w K mg base CX0 callerA f fd ["_law_script"] (spLaw K) := by
  have hr4 : Room 4 callerA := ⟨rfl, by decide, by decide⟩
  refine F.at (k := 3) sc_law (fun vs H Q E h => ?_) hr4 (fun cdv outer s H vs Q E h => ?_)
  · obtain ⟨a, ns, rfl, _⟩ := h; rfl
  · obtain ⟨a, ns, rfl, hS, h63, q⟩ := h
    have hr : Room 3 (callerA.deeper (envOfC "law" (defScope (topS 29)) s.heap.objs.size f cdv)) := hr4.deeper _
    have hr1 : Room 1 (callerA.deeper (envOfC "law" (defScope (topS 29)) s.heap.objs.size f cdv)) := hr.mono (by decide)
    have hr2 : Room 2 (callerA.deeper (envOfC "law" (defScope (topS 29)) s.heap.objs.size f cdv)) := hr.mono (by decide)
    refine ⟨_, pss_cons (ps_set (i := 1) sc_law.nd rfl (.inl rfl) (pe_lst (pa_cons pe_non (pa_cons pe_int (pa_cons pe_bl (pa_cons pe_str (pa_cons pe_str (pa_cons (pe_tup pa_nil) (pa_cons (pe_tup (pa_cons pe_int (pa_cons pe_str pa_nil))) (pa_cons (pe_lst pa_nil) (pa_cons (pe_lst (pa_cons pe_int pa_nil)) (pa_cons pe_dnewK (pa_cons (pe_un un_neg pe_int) (pa_cons (pe_op op_pow pe_int pe_int) pa_nil))))))))))))))
      (pss_cons (ps_set (i := 2) sc_law.nd rfl (.inl rfl) (pe_op op_mod (pe_callB call_abs (by rfl) fa boot_abs (pa_cons (pe_ix ix_list (pe_op op_catS (pv 0) (pe_lst (pa_cons pe_int pa_nil))) pe_int (fun _ _ => rfl)) pa_nil)) pe_int))
      (pss_cons (ps_for PassesOwn.never rfl (pi_list (pe_lst (pa_cons (pe_ix ix_list (pv 1) (pv 2) (fun _ _ => rfl)) (pa_cons (pe_ix ix_list (pv 1) (pe_op op_mod (pe_op op_add (pv 2) pe_int) pe_int) (fun _ _ => rfl)) (pa_cons (pe_ix ix_list (pv 1) (pe_op op_mod (pe_op op_add (pv 2) pe_int) pe_int) (fun _ _ => rfl)) pa_nil))))) (pg_name (i := 3) sc_law.nd rfl (.inl rfl))
        (pss_one (ps_for PassesOwn.never rfl (pi_list (pe_lst (pa_cons (pe_ca cO hr (by rfl) pass0 (pa_cons (pv 3) pa_nil)) (pa_cons (pe_ca cN hr (by rfl) pass0 (pa_cons (pv 3) pa_nil)) pa_nil)))) (pg_name (i := 4) sc_law.nd rfl (.inl rfl))
          (pss_cons (ps_if (pt_cmpR op_ne (pe_callB (call_repL hr rfl) (by rfl) fr boot_repr (pa_cons (pe_ca cF hr (by rfl) pass0 (pa_cons (pv 4) pa_nil)) pa_nil)) (pe_callB (call_repL hr rfl) (by rfl) fr boot_repr (pa_cons (pe_op op_rep (pe_lst (pa_cons (pv 3) pa_nil)) pe_int) pa_nil)) (nomark _)) (pss_one (ps_ret pe_bl)) pss_nil)
          (pss_cons (ps_set (i := 5) sc_law.nd rfl (.inl rfl) (pe_op op_cat (pe_op op_cat (pe_ca0 cP hr (by rfl) pass0) (pv 4)) (pe_lst (pa_cons (pe_m0 mW hr2 pass0 (by rfl)) pa_nil))))
          (pss_one (ps_for PassesOwn.never rfl (pi_enum (by rfl) fe (pa_cons (pv 5) pa_nil)) (pg_tup rfl (pgs_cons (pg_name (i := 6) sc_law.nd rfl (.inr rfl)) (pgs_cons (pg_name (i := 7) sc_law.nd rfl (.inl rfl)) pgs_nil)))
            (pss_one (ps_if (PW.pt (pw_or (pt_cmpR (op_neD hr.units) (pe_ca cK hr1 (by rfl) pass0 (pa_cons (pv 7) pa_nil))
                (pe_lc (own := [("_law_other", 8)]) (g := gName 8) (tt := tYes) (by rfl) sc_law.nd (pi_range1 (by rfl) fg (pa_cons pe_int pa_nil)) (blkOk_by (own := [("_law_other", 8)]) (N := NL) (sc := defScope (topS 29)) (by decide +kernel)) (fun _ _ _ _ _ => pg_name (i := 8) sc_law.nd rfl (Or.inl rfl)) (fun _ _ _ _ _ => pts_nil) (fun _ _ _ _ _ => pe_cmpR op_eq (pv 8) (pv 6) (nomark _))) (nomark _))
              (pw_or1 (pt_cmpR (op_neD hr.units) (pe_ca cU hr1 (by rfl) pass0 (pa_cons (pv 7) pa_nil)) (pe_ca cD hr1 (by rfl) pass0 (pa_cons (pv 6) pa_nil)) (nomark _))))) (pss_one (ps_ret pe_bl)) pss_nil)))))))))
      (pss_one (ps_ret pe_bl)))), ?_⟩
    -- the things
    refine ⟨Nat.zero_le _, fun t5 n5 => ?_⟩
    obtain ⟨s5, e5⟩ := newo (o := .tup []) n5
    generalize upd H t5 (.tup []) = H5 at s5 e5 ⊢
    refine ⟨(by show 2 ≤ sizeLine; decide), fun t6 n6 => ?_⟩
    obtain ⟨s6, e6⟩ := newo (o := .tup [V.int 1, V.str "b"]) n6
    generalize upd H5 t6 (.tup [V.int 1, V.str "b"]) = H6 at s6 e6 ⊢
    refine ⟨Nat.zero_le _, fun t7 n7 => ?_⟩
    obtain ⟨s7, e7⟩ := newo (o := .lst []) n7
    generalize upd H6 t7 (.lst []) = H7 at s7 e7 ⊢
    refine ⟨(by show 1 ≤ sizeLine; decide), fun t8 n8 => ?_⟩
    obtain ⟨s8, e8⟩ := newo (o := .lst [V.int 3]) n8
    generalize upd H7 t8 (.lst [V.int 3]) = H8 at s8 e8 ⊢
    intro t9 n9
    obtain ⟨s9, e9⟩ := newo (o := .dK []) n9
    generalize upd H8 t9 (.dK []) = H9 at s9 e9 ⊢
    refine ⟨5, rfl, 10, 20, rfl, rfl, ⟨by decide, by decide, by decide⟩, (by show 12 ≤ sizeLine; decide), fun pT nT => ?_⟩
    have s59 : Same H5 H9 := s6.trans (s7.trans (s8.trans s9))
    obtain ⟨th, hth⟩ : ∃ th : List V, th = [V.non, V.int 0, V.bl true, V.str "", V.str "a", V.ref t5, V.ref t6, V.ref t7, V.ref t8, V.ref t9, V.int (-5), V.int (10 ^ (20 : Int).toNat)] := ⟨_, rfl⟩
    obtain ⟨sT, eT⟩ := newo (o := .lst th) nT
    rw [hth] at sT eT
    generalize upd H9 pT (.lst [V.non, V.int 0, V.bl true, V.str "", V.str "a", V.ref t5, V.ref t6, V.ref t7, V.ref t8, V.ref t9, V.int (-5), V.int (10 ^ (20 : Int).toNat)]) = HT at sT eT ⊢
    rw [← hth] at eT
    have hRd : Paired (RdV K HT) th dT := by
      rw [hth]
      exact .cons (.inl .non) (.cons (.inl (.int 0)) (.cons (.inl (.bl true)) (.cons (.inl (.str "")) (.cons (.inl (.str "a")) (.cons (.inl (.tup (.inl (.inl (sT _ _ (s59 _ _ e5)))) .nil)) (.cons (.inl (.tup (.inl (.inl (sT _ _ (s9 _ _ (s8 _ _ (s7 _ _ e6)))))) (.cons (.int 1) (.cons (.str "b") .nil)))) (.cons (.inl (.lst (.inl (.inl (sT _ _ (s9 _ _ (s8 _ _ e7))))) .nil)) (.cons (.inl (.lst (.inl (.inl (sT _ _ (s9 _ _ e8)))) (.cons (.int 3) .nil))) (.cons (.inr ⟨t9, rfl, sT _ _ e9, rfl⟩) (.cons (.inl (.int (-5))) (.cons (.inl (.int _)) .nil)))))))))))
    have hS1 : SqL K HT a (ns.map V.int) := (s5.trans (s59.trans sT)).seq hS
    have hl12 : th.length = 12 := by rw [hth]; rfl
    clear hth
    -- which
    refine ⟨.ref a, rfl, (by show 1 ≤ sizeLine; decide), fun l nl => ?_⟩
    obtain ⟨sl, el⟩ := newo (o := .lst [V.int 0]) nl
    generalize upd HT l (.lst [V.int 0]) = HL at sl el ⊢
    refine ⟨a, l, _, _, rfl, rfl, sl.seq hS1, .inl (.inl el), (by rw [List.length_map]; show ns.length + 1 ≤ sizeLine; rw [sizeLine_eq]; omega), fun c nc => ?_⟩
    obtain ⟨sc, ec⟩ := newo (o := .lst (ns.map V.int ++ [V.int 0])) nc
    generalize upd HL c (.lst (ns.map V.int ++ [V.int 0])) = HC at sc ec ⊢
    obtain ⟨m, hm⟩ := first_int ns
    refine ⟨c, _, 0, _, rfl, rfl, .inl (.inl ec), hm, m, rfl, _, 12, rfl, rfl, (show (0 : Int) < 12 by decide), ?_⟩
    obtain ⟨k, hk, hk12⟩ : ∃ k : Nat, (if m < 0 then -m else m) % 12 = (k : Int) ∧ k < 12 := ⟨((if m < 0 then -m else m) % 12).toNat, by omega, by omega⟩
    change gName 2 (V.int ((if m < 0 then -m else m) % 12)) _ _ _
    rw [hk]
    replace eT := sc _ _ (sl _ _ eT)
    have hRd2 : ∀ (i : Nat) (v : V), th[i]? = some v → ∃ d, d ∈ dT ∧ RdV K HC v d := fun i v z => by
      obtain ⟨d, h1, h2⟩ := pget hRd z
      exact ⟨d, List.mem_of_getElem? h1, rd_same (sl.trans sc) h2⟩
    have hix : ∀ i : Nat, i < 12 → ∃ v, th[i]? = some v := fun i z => ⟨th[i], List.getElem?_eq_getElem (by omega)⟩
    obtain ⟨x0, g0⟩ := hix k hk12
    obtain ⟨x1, g1⟩ := hix ((k + 5) % 12) (Nat.mod_lt _ (by decide))
    obtain ⟨x2, g2⟩ := hix ((k + 7) % 12) (Nat.mod_lt _ (by decide))
    have hST : SqL K HC pT th := .inl (.inl eT)
    have a1 : atI th (((k : Int) + 5) % 12) = some x1 := by
      rw [show ((k : Int) + 5) % 12 = (((k + 5) % 12 : Nat) : Int) by omega]
      exact atI_nat g1
    have a2 : atI th (((k : Int) + 7) % 12) = some x2 := by
      rw [show ((k : Int) + 7) % 12 = (((k + 7) % 12 : Nat) : Int) by omega]
      exact atI_nat g2
    refine ⟨.ref pT, rfl, .int k, rfl, pT, th, k, x0, rfl, rfl, hST, atI_nat g0, ?_⟩
    refine ⟨.ref pT, rfl, .int k, rfl, k, 5, rfl, rfl, _, 12, rfl, rfl, (show (0 : Int) < 12 by decide), pT, th, _, x1, rfl, rfl, hST, a1, ?_⟩
    refine ⟨.ref pT, rfl, .int k, rfl, k, 7, rfl, rfl, _, 12, rfl, rfl, (show (0 : Int) < 12 by decide), pT, th, _, x2, rfl, rfl, hST, a2, ?_⟩
    refine ⟨(by show 3 ≤ sizeLine; decide), fun p3 n3 => ?_⟩
    obtain ⟨s3, e3⟩ := newo (o := .lst [x0, x1, x2]) n3
    generalize upd HC p3 (.lst [x0, x1, x2]) = H3 at s3 e3 ⊢
    have hX : ∀ (i : Nat) (x : V), [x0, x1, x2][i]? = some x → ∃ d, d ∈ dT ∧ RdV K H3 x d := fun i x z => by
      have key : ∀ (j : Nat) (v : V), th[j]? = some v → ∃ d, d ∈ dT ∧ RdV K H3 v d := fun j v z => by
        obtain ⟨d, h1, h2⟩ := hRd2 j v z
        exact ⟨d, h1, rd_same s3 h2⟩
      match i, z with
      | 0, z => exact key k x ((Option.some.inj z) ▸ g0)
      | 1, z => exact key _ x ((Option.some.inj z) ▸ g1)
      | 2, z => exact key _ x ((Option.some.inj z) ▸ g2)
      | i + 3, z => simp at z
    refine ⟨p3, rfl, ⟨_, .inl (.inl e3)⟩, for_list (xs := [x0, x1, x2]) (fun i σ H' => ∃ y3 y4 y5 y6 y7 y8, σ = [some (.ref a), some (.ref pT), some (.int k), y3, y4, y5, y6, y7, y8] ∧ Same H3 H') ⟨none, none, none, none, none, none, rfl, Same.refl _⟩ (fun i σ H' _ hP => ?_) (fun i x σ H' hx hP => ?_) (fun σ H' hP => q _)⟩
    · obtain ⟨y3, y4, y5, y6, y7, y8, rfl, sm⟩ := hP
      exact .inl (.inl (sm _ _ e3))
    · obtain ⟨y3, y4, y5, y6, y7, y8, rfl, sm⟩ := hP
      obtain ⟨d, hd, hrd⟩ := hX i x hx
      obtain ⟨ok1, ok2, ok3⟩ := dOk_of hd
      replace hrd := rd_same sm hrd
      -- both ways of making
      refine ⟨x, rfl, x, rfl, fun G1 p1 as1 sg1 eg1 pr1 => ?_⟩
      refine ⟨x, rfl, x, rfl, fun G2 p2 as2 sg2 eg2 pr2 => ?_⟩
      refine ⟨(by show 2 ≤ sizeLine; decide), fun l2 nl2 => ?_⟩
      obtain ⟨sl2, el2⟩ := newo (o := .lst [V.ref p1, V.ref p2]) nl2
      generalize upd G2 l2 (.lst [V.ref p1, V.ref p2]) = G at sl2 el2 ⊢
      have hY : ∀ (j : Nat) (y : V), [V.ref p1, V.ref p2][j]? = some y → ∃ p as, y = .ref p ∧ G p = some (.lst (as.map V.ref)) ∧ Paired (fun a c => FAt G a c.1 c.2 x) as CF := fun j y z => by
        match j, z with
        | 0, z => exact ⟨p1, as1, (Option.some.inj z).symm, sl2 _ _ (sg2 _ _ eg1), L2.Paired.mapP pr1 fun _ _ h => FAt.same sl2 (FAt.same sg2 h)⟩
        | 1, z => exact ⟨p2, as2, (Option.some.inj z).symm, sl2 _ _ eg2, L2.Paired.mapP pr2 fun _ _ h => FAt.same sl2 h⟩
        | j + 2, z => simp at z
      refine ⟨l2, rfl, ⟨_, .inl (.inl el2)⟩, for_list (xs := [V.ref p1, V.ref p2]) (fun j σ H'' => ∃ y4 y5 y6 y7 y8, σ = [some (.ref a), some (.ref pT), some (.int k), some x, y4, y5, y6, y7, y8] ∧ Same G H'') ⟨y4, y5, y6, y7, y8, rfl, Same.refl _⟩ (fun j σ H'' _ hP => ?_) (fun j y σ H'' hy hP => ?_) (fun σ H'' hP => ?_)⟩
      · obtain ⟨y4, y5, y6, y7, y8, rfl, sm2⟩ := hP
        exact .inl (.inl (sm2 _ _ el2))
      · obtain ⟨y4, y5, y6, y7, y8, rfl, sm2⟩ := hP
        obtain ⟨p, as, rfl, ep, hPr⟩ := hY j y hy
        replace ep := sm2 _ _ ep
        replace hPr := L2.Paired.mapP hPr fun _ _ h => FAt.same sm2 h
        have rd0 := rd_same (sg1.trans (sg2.trans (sl2.trans sm2))) hrd
        -- repr(..) != repr(..)
        refine ⟨.ref p, rfl, p, as, x, rfl, .inl (.inl ep), hPr, fun Hf pf sf ef => ?_⟩
        refine ⟨pf, 11, x, d, rfl, .inl (.inl ef), rd_same sf rd0, ok1, ok2, ok3, ?_⟩
        refine ⟨x, rfl, (by show 1 ≤ sizeLine; decide), fun lx nlx => ?_⟩
        obtain ⟨slx, elx⟩ := newo (o := .lst [x]) nlx
        generalize upd Hf lx (.lst [x]) = HX at slx elx ⊢
        refine ⟨lx, 12, [x], rfl, rfl, elx, (by decide), (by decide), (by show 12 ≤ sizeLine; decide), fun r nr => ?_⟩
        obtain ⟨sr, er⟩ := newo (o := .lst (List.replicate (11 + 1) x)) nr
        change tNil _ (upd HX r (.lst (List.replicate (11 + 1) x))) _
        generalize upd HX r (.lst (List.replicate (11 + 1) x)) = HR at sr er ⊢
        refine ⟨r, 11, x, d, rfl, .inl (.inl er), rd_same (sf.trans (slx.trans sr)) rd0, ok1, ok2, ok3, ?_⟩
        have sR : Same H'' HR := sf.trans (slx.trans sr)
        refine ⟨rfl, _, rfl, iteNS rfl ?_⟩
        -- every one of them
        refine ⟨rfl, fun Hp pp asP sP eP prP => ?_⟩
        have lP := plen prP
        have lA := plen hPr
        have l19 : CL.length + CF.length + 1 = 19 := by
          rw [hCC, List.length_append, List.length_append, List.length_map] at hn
          exact hn
        refine ⟨.ref p, rfl, pp, p, _, _, rfl, rfl, eP, sP _ _ (sR _ _ ep), (by rw [List.length_map, List.length_map, sizeLine_eq]; omega), fun c1 nc1 => ?_⟩
        obtain ⟨sc1, ec1⟩ := newo (o := .lst (asP.map V.ref ++ as.map V.ref)) nc1
        generalize upd Hp c1 (.lst (asP.map V.ref ++ as.map V.ref)) = HC1 at sc1 ec1 ⊢
        intro aW nW
        obtain ⟨sW, xW⟩ := new0 (C := cW) nW
        generalize upd HC1 aW (exo aW cW none) = HW at sW xW ⊢
        refine ⟨(by show 1 ≤ sizeLine; decide), fun lW nlW => ?_⟩
        obtain ⟨slW, elW⟩ := newo (o := .lst [V.ref aW]) nlW
        generalize upd HW lW (.lst [V.ref aW]) = HV at slW elW ⊢
        refine ⟨c1, lW, _, _, rfl, rfl, slW _ _ (sW _ _ ec1), elW, (by rw [List.length_append, List.length_map, List.length_map, sizeLine_eq]; show asP.length + as.length + 1 ≤ 16777216; omega), fun e ne => ?_⟩
        obtain ⟨se, ee⟩ := newo (o := .lst (asP.map V.ref ++ as.map V.ref ++ [V.ref aW])) ne
        generalize upd HV e (.lst (asP.map V.ref ++ as.map V.ref ++ [V.ref aW])) = HE at se ee ⊢
        have sPE : Same Hp HE := sc1.trans (sW.trans (slW.trans se))
        have hAll : Paired (fun a C => XAt HE a C) (asP ++ as ++ [aW]) CC := by
          rw [hCC]
          refine papp (papp (L2.Paired.mapP prP fun _ _ h => xat_same sPE h) (pmap (F := fun a (c : Addr × Str) => XAt HE a c.1) (G := fun a C => XAt HE a C) (f := fun c : Addr × Str => c.1) (fun _ _ h => h) (L2.Paired.mapP hPr fun _ _ h => xat_same (sR.trans (sP.trans sPE)) (FAt.x h)))) (.cons (xat_same (slW.trans se) xW) .nil)
        have hEV : asP.map V.ref ++ as.map V.ref ++ [V.ref aW] = (asP ++ as ++ [aW]).map V.ref := by simp
        rw [hEV] at ee
        have sTot : Same H'' HE := sR.trans (sP.trans sPE)
        refine ⟨.ref e, rfl, e, _, rfl, .inl (.inl ee), for_enm (xs := (asP ++ as ++ [aW]).map V.ref) (fun i3 σ H3' => ∃ y6 y7 y8, σ = [some (.ref a), some (.ref pT), some (.int k), some x, some (.ref p), some (.ref e), y6, y7, y8] ∧ Same HE H3') ⟨y6, y7, y8, rfl, Same.refl _⟩ (fun i3 σ H3' _ hP => ?_) (fun i3 z T σ H3' hz hP nT3 => ?_) (fun σ H3' hP => ?_)⟩
        · obtain ⟨y6, y7, y8, rfl, sm3⟩ := hP
          exact .inl (.inl (sm3 _ _ ee))
        · obtain ⟨y6, y7, y8, rfl, sm3⟩ := hP
          obtain ⟨ai, hai, rfl⟩ : ∃ ai, (asP ++ as ++ [aW])[i3]? = some ai ∧ V.ref ai = z := by
            rw [List.getElem?_map] at hz
            obtain ⟨ai, h1, h2⟩ := Option.map_eq_some_iff.mp hz
            exact ⟨ai, h1, h2⟩
          obtain ⟨Ci, hCi, hxi⟩ := pget hAll hai
          obtain ⟨bm, TC, hkd, hun⟩ := good i3 Ci hCi
          obtain ⟨sT3, eT3⟩ := newo (o := .tup [V.int (i3 : Nat), V.ref ai]) nT3
          generalize upd H3' T (.tup [V.int (i3 : Nat), V.ref ai]) = HQ at sT3 eT3 ⊢
          replace hxi := xat_same (sm3.trans sT3) hxi
          refine ⟨T, [V.int (i3 : Nat), V.ref ai], rfl, .inl (.inl eT3), rfl, V.int (i3 : Nat), [V.ref ai], rfl, V.ref ai, [], rfl, rfl, ?_⟩
          refine ⟨V.ref ai, rfl, ai, Ci, bm, rfl, hxi, TC, fun Hk pk sk ek => ?_⟩
          rw [hkd] at ek
          refine ⟨19, rfl, (by decide), (by decide), fun Dd nD => lc_range (lo := 0) (n := 19) (fun j H4 => Same Hk H4 ∧ H4 Dd = some (.lst (((List.range j).map fun j : Nat => decide ((j : Int) = (i3 : Int))).map V.bl))) ⟨same_upd nD, upd_same⟩ (fun j H4 hj hP4 => ?_) (fun H4 hP4 => ?_)⟩
          · obtain ⟨q1, q2⟩ := hP4
            refine ⟨rfl, ?_⟩
            dsimp only [tYes]
            rw [if_pos rfl]
            refine ⟨V.int (0 + (j : Int)), rfl, V.int (i3 : Nat), rfl, rfl, _, q2, (by rw [List.length_map, List.length_map, List.length_range, sizeLine_eq]; omega), fun b o z => ?_, ?_⟩
            · rw [upd_ne (ne_of_none z nD)]
              exact q1 b o z
            · rw [upd_same, List.range_succ, List.map_append, List.map_append]
              have hde : decide (V.int (0 + (j : Int)) = V.int (i3 : Nat)) = decide ((j : Int) = (i3 : Int)) := decide_eq_decide.mpr ⟨fun z => by have := V.int.inj z; omega, fun z => by rw [z]; simp⟩
              rw [hde]
              rfl
          · obtain ⟨q1, q2⟩ := hP4
            refine ⟨_, _, .lst (.inl (.inl (q1 _ _ ek))) (dp_bools _), .lst (.inl (.inl q2)) (dp_bools _), shaped_bools _, shaped_bools _, _, rfl, iteEqv (eqv_lb _) ?_⟩
            refine ⟨V.ref ai, rfl, ai, Ci, bm, rfl, xat_same (sk.trans q1) hxi, TC, fun Hu pu su eu => ?_⟩
            rw [hun] at eu
            refine ⟨V.int (i3 : Nat), rfl, (i3 : Nat), rfl, fun Hd pd sd ed => ?_⟩
            refine ⟨_, _, .lst (.inl (.inl (sd _ _ eu))) (dp_bools _), .lst (.inl (.inl ed)) (dp_bools _), shaped_bools _, shaped_bools _, _, rfl, iteEqv (eqv_lb _) ?_⟩
            exact ⟨some (V.int (i3 : Nat)), some (V.ref ai), y8, rfl, sm3.trans (sT3.trans (sk.trans (q1.trans (su.trans sd))))⟩
        · obtain ⟨y6, y7, y8, rfl, sm3⟩ := hP
          exact ⟨some (.ref p), some (.ref e), y6, y7, y8, rfl, sm2.trans (sTot.trans sm3)⟩
      · obtain ⟨y4, y5, y6, y7, y8, rfl, sm2⟩ := hP
        exact ⟨some x, y4, y5, y6, y7, y8, rfl, sm.trans (sg1.trans (sg2.trans (sl2.trans sm2)))⟩
end
end K04

set_option Elab.async false
set_option linter.all false
set_option maxRecDepth 100000
set_option maxHeartbeats 4000000
namespace K04
open PySem PySem.Spec PyProof.Rows L2
section
variable {K : PySem.W.Frag} {C D N : Addr} {nm q : Str} {bs sub : List Value} {sn : List Str} {ab : Bool} {col : Option Bool} {dd : Option Addr} {k0 k1 k2 k3 k5 : Option Value}
theorem exV (l : K.lookup C = some (excClassObj nm q C N bs XK.tVal true sn sub ab col dd k0 k1 k2 k3 k5 "ValueError.__new__")) (sa : PySem.W.findIn K (.ref C) "__setattr__" = some (some (.builtin "object.__setattr__"))) (ga : PySem.W.findIn K (.ref C) "__getattribute__" = some (some (.builtin "BaseException.__getattribute__")))
    (gt : PySem.W.findIn K (.ref C) "__getattr__" = some none) (ca : PySem.W.findIn K (.ref C) "__class__" = some (some (.builtin "object.__class__"))) (kC : PySem.W.keepIn K (.ref C) = true) : ExK K C XK.tVal :=
  ⟨⟨_, _, _, _, _, _, _, _, _, _, _, _, _, _, _, _, _, _, F.excBase_ValueError, ⟨by rfl, by rfl, by rfl⟩, l⟩, XK.xpVal, by rfl, by rfl, sa, ga, gt, ca, kC⟩
theorem exH (l : K.lookup C = some (excClassObj nm q C N bs (.ref D :: XK.tVal) true sn sub ab col dd k0 k1 k2 k3 k5 "ValueError.__new__")) (sa : PySem.W.findIn K (.ref C) "__setattr__" = some (some (.builtin "object.__setattr__"))) (ga : PySem.W.findIn K (.ref C) "__getattribute__" = some (some (.builtin "BaseException.__getattribute__")))
    (gt : PySem.W.findIn K (.ref C) "__getattr__" = some none) (ca : PySem.W.findIn K (.ref C) "__class__" = some (some (.builtin "object.__class__"))) (kC : PySem.W.keepIn K (.ref C) = true) : ExK K C (.ref D :: XK.tVal) :=
  ⟨⟨_, _, _, _, _, _, _, _, _, _, _, _, _, _, _, _, _, _, F.excBase_ValueError, ⟨by rfl, by rfl, by rfl⟩, l⟩, (fun z => by rw [refuseLoop_ref]; exact XK.xpVal z), by rfl, by rfl, sa, ga, gt, ca, kC⟩
theorem exKe (l : K.lookup C = some (excClassObj nm q C N bs XK.tKey true sn sub ab col dd k0 k1 k2 k3 k5 "LookupError.__new__")) (sa : PySem.W.findIn K (.ref C) "__setattr__" = some (some (.builtin "object.__setattr__"))) (ga : PySem.W.findIn K (.ref C) "__getattribute__" = some (some (.builtin "BaseException.__getattribute__")))
    (gt : PySem.W.findIn K (.ref C) "__getattr__" = some none) (ca : PySem.W.findIn K (.ref C) "__class__" = some (some (.builtin "object.__class__"))) (kC : PySem.W.keepIn K (.ref C) = true) : ExK K C XK.tKey :=
  ⟨⟨_, _, _, _, _, _, _, _, _, _, _, _, _, _, _, _, _, _, F.excBase_LookupError, ⟨by rfl, by rfl, by rfl⟩, l⟩, XK.xpKey, by rfl, by rfl, sa, ga, gt, ca, kC⟩
theorem exL (l : K.lookup C = some (excClassObj nm q C N bs XK.tLook true sn sub ab col dd k0 k1 k2 k3 k5 "LookupError.__new__")) (sa : PySem.W.findIn K (.ref C) "__setattr__" = some (some (.builtin "object.__setattr__"))) (ga : PySem.W.findIn K (.ref C) "__getattribute__" = some (some (.builtin "BaseException.__getattribute__")))
    (gt : PySem.W.findIn K (.ref C) "__getattr__" = some none) (ca : PySem.W.findIn K (.ref C) "__class__" = some (some (.builtin "object.__class__"))) (kC : PySem.W.keepIn K (.ref C) = true) : ExK K C XK.tLook :=
  ⟨⟨_, _, _, _, _, _, _, _, _, _, _, _, _, _, _, _, _, _, F.excBase_LookupError, ⟨by rfl, by rfl, by rfl⟩, l⟩, XK.xpLook, by rfl, by rfl, sa, ga, gt, ca, kC⟩
theorem exR (l : K.lookup C = some (excClassObj nm q C N bs XK.tRun true sn sub ab col dd k0 k1 k2 k3 k5 "RuntimeError.__new__")) (sa : PySem.W.findIn K (.ref C) "__setattr__" = some (some (.builtin "object.__setattr__"))) (ga : PySem.W.findIn K (.ref C) "__getattribute__" = some (some (.builtin "BaseException.__getattribute__")))
    (gt : PySem.W.findIn K (.ref C) "__getattr__" = some none) (ca : PySem.W.findIn K (.ref C) "__class__" = some (some (.builtin "object.__class__"))) (kC : PySem.W.keepIn K (.ref C) = true) : ExK K C XK.tRun :=
  ⟨⟨_, _, _, _, _, _, _, _, _, _, _, _, _, _, _, _, _, _, F.excBase_RuntimeError, ⟨by rfl, by rfl, by rfl⟩, l⟩, XK.xpRun, by rfl, by rfl, sa, ga, gt, ca, kC⟩
theorem exO (l : K.lookup C = some (excClassObj nm q C N bs XK.tOver true sn sub ab col dd k0 k1 k2 k3 k5 "OverflowError.__new__")) (sa : PySem.W.findIn K (.ref C) "__setattr__" = some (some (.builtin "object.__setattr__"))) (ga : PySem.W.findIn K (.ref C) "__getattribute__" = some (some (.builtin "BaseException.__getattribute__")))
    (gt : PySem.W.findIn K (.ref C) "__getattr__" = some none) (ca : PySem.W.findIn K (.ref C) "__class__" = some (some (.builtin "object.__class__"))) (kC : PySem.W.keepIn K (.ref C) = true) : ExK K C XK.tOver :=
  ⟨⟨_, _, _, _, _, _, _, _, _, _, _, _, _, _, _, _, _, _, F.excBase_OverflowError, ⟨by rfl, by rfl, by rfl⟩, l⟩, XK.xpOver, by rfl, by rfl, sa, ga, gt, ca, kC⟩
end
/-- a class's own __init__ -/
structure IF (K : PySem.W.Frag) (C fI : Addr) (fd : FuncData) (qual : Str) (st : Stmt) : Prop where
  iC : PySem.W.findIn K (.ref C) "__init__" = some (some (.ref fI))
  tI : PySem.W.typeIn K (.ref fI) = some (.type "function")
  fn : Fun K "__init__" qual st fI fd
def HF (K : PySem.W.Frag) (x : Str) (st : Stmt) : Prop := ∃ f fd, PySem.W.nsIn K mainGlobals x = some (some (.ref f)) ∧ Fun K x x st f fd
section
variable {P : Program} {w : World} {K : PySem.W.Frag} {h : Heap} {mg : Str → Option Value} {base : Heap} {C D fI : Addr} {fd : FuncData}
theorem mk_NoVersion (g : mg "NoVersion" = some (.ref C)) (T : ExK K C (.ref D :: XK.tVal)) (I : ∃ fI fd, IF K C fI fd "NoVersion.__init__" (ini 2)) (N : Hn K mg D) : M0 P w K mg base "NoVersion" C := by
  obtain ⟨fI, fd, I⟩ := I
  refine ⟨fI, fd, _, T, ⟨⟨_, T⟩, I.iC, I.tI⟩, ok_NoVersion I.fn T N, ?_, g⟩
  obtain ⟨oc, od, kV, doc, pm, an, cdv, ct, osl, rfl, lk, hcd⟩ := I.fn.ex
  exact fun s' b => .of_eq rfl
theorem mk_NoCell (g : mg "NoCell" = some (.ref C)) (T : ExK K C (.ref D :: XK.tVal)) (I : ∃ fI fd, IF K C fI fd "NoCell.__init__" (ini 3)) (N : Hn K mg D) : M0 P w K mg base "NoCell" C := by
  obtain ⟨fI, fd, I⟩ := I
  refine ⟨fI, fd, _, T, ⟨⟨_, T⟩, I.iC, I.tI⟩, ok_NoCell I.fn T N, ?_, g⟩
  obtain ⟨oc, od, kV, doc, pm, an, cdv, ct, osl, rfl, lk, hcd⟩ := I.fn.ex
  exact fun s' b => .of_eq rfl
theorem mk_NoKey (g : mg "NoKey" = some (.ref C)) (T : ExK K C (.ref D :: XK.tVal)) (I : ∃ fI fd, IF K C fI fd "NoKey.__init__" (ini 5)) (N : Hn K mg D) : M0 P w K mg base "NoKey" C := by
  obtain ⟨fI, fd, I⟩ := I
  refine ⟨fI, fd, _, T, ⟨⟨_, T⟩, I.iC, I.tI⟩, ok_NoKey I.fn T N, ?_, g⟩
  obtain ⟨oc, od, kV, doc, pm, an, cdv, ct, osl, rfl, lk, hcd⟩ := I.fn.ex
  exact fun s' b => .of_eq rfl
theorem mk_NoKnown (g : mg "NoKnown" = some (.ref C)) (T : ExK K C (.ref D :: XK.tVal)) (I : ∃ fI fd, IF K C fI fd "NoKnown.__init__" (ini 7)) (N : Hn K mg D) : M0 P w K mg base "NoKnown" C := by
  obtain ⟨fI, fd, I⟩ := I
  refine ⟨fI, fd, _, T, ⟨⟨_, T⟩, I.iC, I.tI⟩, ok_NoKnown I.fn T N, ?_, g⟩
  obtain ⟨oc, od, kV, doc, pm, an, cdv, ct, osl, rfl, lk, hcd⟩ := I.fn.ex
  exact fun s' b => .of_eq rfl
theorem mk_NoRow (g : mg "NoRow" = some (.ref C)) (T : ExK K C (.ref D :: XK.tVal)) (I : ∃ fI fd, IF K C fI fd "NoRow.__init__" (ini 11)) (N : Hn K mg D) : M0 P w K mg base "NoRow" C := by
  obtain ⟨fI, fd, I⟩ := I
  refine ⟨fI, fd, _, T, ⟨⟨_, T⟩, I.iC, I.tI⟩, ok_NoRow I.fn T N, ?_, g⟩
  obtain ⟨oc, od, kV, doc, pm, an, cdv, ct, osl, rfl, lk, hcd⟩ := I.fn.ex
  exact fun s' b => .of_eq rfl
theorem mk_NoSteps (g : mg "NoSteps" = some (.ref C)) (T : ExK K C (.ref D :: XK.tVal)) (I : ∃ fI fd, IF K C fI fd "NoSteps.__init__" (ini 12)) (N : Hn K mg D) : M0 P w K mg base "NoSteps" C := by
  obtain ⟨fI, fd, I⟩ := I
  refine ⟨fI, fd, _, T, ⟨⟨_, T⟩, I.iC, I.tI⟩, ok_NoSteps I.fn T N, ?_, g⟩
  obtain ⟨oc, od, kV, doc, pm, an, cdv, ct, osl, rfl, lk, hcd⟩ := I.fn.ex
  exact fun s' b => .of_eq rfl
theorem mk_NoRing (g : mg "NoRing" = some (.ref C)) (T : ExK K C (.ref D :: XK.tVal)) (I : ∃ fI fd, IF K C fI fd "NoRing.__init__" (ini 4)) (no : PySem.W.findIn K (.ref C) "number" = some none) (N : Hn K mg D) : M1 P w K mg base "NoRing" "number" C := by
  obtain ⟨fI, fd, I⟩ := I
  refine ⟨fI, fd, _, T, ⟨⟨_, T⟩, I.iC, I.tI⟩, ok_NoRing I.fn T no N, ?_, ?_, no, g⟩
  · obtain ⟨oc, od, kV, doc, pm, an, cdv, ct, osl, rfl, lk, hcd⟩ := I.fn.ex
    exact fun s' b v => .of_eq rfl
  · obtain ⟨oc, od, kV, doc, pm, an, cdv, ct, osl, rfl, lk, hcd⟩ := I.fn.ex
    exact fun s' b v => .of_eq rfl
theorem mk_NoShape (g : mg "NoShape" = some (.ref C)) (T : ExK K C (.ref D :: XK.tVal)) (I : ∃ fI fd, IF K C fI fd "NoShape.__init__" (ini 6)) (no : PySem.W.findIn K (.ref C) "what" = some none) (N : Hn K mg D) : M1 P w K mg base "NoShape" "what" C := by
  obtain ⟨fI, fd, I⟩ := I
  refine ⟨fI, fd, _, T, ⟨⟨_, T⟩, I.iC, I.tI⟩, ok_NoShape I.fn T no N, ?_, ?_, no, g⟩
  · obtain ⟨oc, od, kV, doc, pm, an, cdv, ct, osl, rfl, lk, hcd⟩ := I.fn.ex
    exact fun s' b v => .of_eq rfl
  · obtain ⟨oc, od, kV, doc, pm, an, cdv, ct, osl, rfl, lk, hcd⟩ := I.fn.ex
    exact fun s' b v => .of_eq rfl
theorem mk_NoDeed (g : mg "NoDeed" = some (.ref C)) (T : ExK K C (.ref D :: XK.tVal)) (I : ∃ fI fd, IF K C fI fd "NoDeed.__init__" (ini 8)) (no : PySem.W.findIn K (.ref C) "number" = some none) (N : Hn K mg D) : M1 P w K mg base "NoDeed" "number" C := by
  obtain ⟨fI, fd, I⟩ := I
  refine ⟨fI, fd, _, T, ⟨⟨_, T⟩, I.iC, I.tI⟩, ok_NoDeed I.fn T no N, ?_, ?_, no, g⟩
  · obtain ⟨oc, od, kV, doc, pm, an, cdv, ct, osl, rfl, lk, hcd⟩ := I.fn.ex
    exact fun s' b v => .of_eq rfl
  · obtain ⟨oc, od, kV, doc, pm, an, cdv, ct, osl, rfl, lk, hcd⟩ := I.fn.ex
    exact fun s' b v => .of_eq rfl
theorem mk_NoNews (g : mg "NoNews" = some (.ref C)) (T : ExK K C (.ref D :: XK.tVal)) (I : ∃ fI fd, IF K C fI fd "NoNews.__init__" (ini 9)) (no : PySem.W.findIn K (.ref C) "house" = some none) (N : Hn K mg D) : M1 P w K mg base "NoNews" "house" C := by
  obtain ⟨fI, fd, I⟩ := I
  refine ⟨fI, fd, _, T, ⟨⟨_, T⟩, I.iC, I.tI⟩, ok_NoNews I.fn T no N, ?_, ?_, no, g⟩
  · obtain ⟨oc, od, kV, doc, pm, an, cdv, ct, osl, rfl, lk, hcd⟩ := I.fn.ex
    exact fun s' b v => .of_eq rfl
  · obtain ⟨oc, od, kV, doc, pm, an, cdv, ct, osl, rfl, lk, hcd⟩ := I.fn.ex
    exact fun s' b v => .of_eq rfl
theorem mk_NoText (g : mg "NoText" = some (.ref C)) (T : ExK K C (.ref D :: XK.tVal)) (I : ∃ fI fd, IF K C fI fd "NoText.__init__" (ini 10)) (no : PySem.W.findIn K (.ref C) "row" = some none) (N : Hn K mg D) : M1 P w K mg base "NoText" "row" C := by
  obtain ⟨fI, fd, I⟩ := I
  refine ⟨fI, fd, _, T, ⟨⟨_, T⟩, I.iC, I.tI⟩, ok_NoText I.fn T no N, ?_, ?_, no, g⟩
  · obtain ⟨oc, od, kV, doc, pm, an, cdv, ct, osl, rfl, lk, hcd⟩ := I.fn.ex
    exact fun s' b v => .of_eq rfl
  · obtain ⟨oc, od, kV, doc, pm, an, cdv, ct, osl, rfl, lk, hcd⟩ := I.fn.ex
    exact fun s' b v => .of_eq rfl
theorem mk_NoHouse (g : mg "NoHouse" = some (.ref C)) (T : ExK K C XK.tKey) (I : ∃ fI fd, IF K C fI fd "NoHouse.__init__" (ini 13)) (no : PySem.W.findIn K (.ref C) "house" = some none) (N : Bn K mg "KeyError" "KeyError.__init__") : M1 P w K mg base "NoHouse" "house" C := by
  obtain ⟨fI, fd, I⟩ := I
  refine ⟨fI, fd, _, T, ⟨⟨_, T⟩, I.iC, I.tI⟩, ok_NoHouse I.fn T no N, ?_, ?_, no, g⟩
  · obtain ⟨oc, od, kV, doc, pm, an, cdv, ct, osl, rfl, lk, hcd⟩ := I.fn.ex
    exact fun s' b v => .of_eq rfl
  · obtain ⟨oc, od, kV, doc, pm, an, cdv, ct, osl, rfl, lk, hcd⟩ := I.fn.ex
    exact fun s' b v => .of_eq rfl
theorem mk_NoAsker (g : mg "NoAsker" = some (.ref C)) (T : ExK K C XK.tKey) (I : ∃ fI fd, IF K C fI fd "NoAsker.__init__" (ini 14)) (no : PySem.W.findIn K (.ref C) "asker" = some none) (N : Bn K mg "KeyError" "KeyError.__init__") : M1 P w K mg base "NoAsker" "asker" C := by
  obtain ⟨fI, fd, I⟩ := I
  refine ⟨fI, fd, _, T, ⟨⟨_, T⟩, I.iC, I.tI⟩, ok_NoAsker I.fn T no N, ?_, ?_, no, g⟩
  · obtain ⟨oc, od, kV, doc, pm, an, cdv, ct, osl, rfl, lk, hcd⟩ := I.fn.ex
    exact fun s' b v => .of_eq rfl
  · obtain ⟨oc, od, kV, doc, pm, an, cdv, ct, osl, rfl, lk, hcd⟩ := I.fn.ex
    exact fun s' b v => .of_eq rfl
theorem mk_NoAsk (g : mg "NoAsk" = some (.ref C)) (T : ExK K C XK.tLook) (I : ∃ fI fd, IF K C fI fd "NoAsk.__init__" (ini 15)) (no : PySem.W.findIn K (.ref C) "number" = some none) (N : Bn K mg "LookupError" "LookupError.__init__") : M1 P w K mg base "NoAsk" "number" C := by
  obtain ⟨fI, fd, I⟩ := I
  refine ⟨fI, fd, _, T, ⟨⟨_, T⟩, I.iC, I.tI⟩, ok_NoAsk I.fn T no N, ?_, ?_, no, g⟩
  · obtain ⟨oc, od, kV, doc, pm, an, cdv, ct, osl, rfl, lk, hcd⟩ := I.fn.ex
    exact fun s' b v => .of_eq rfl
  · obtain ⟨oc, od, kV, doc, pm, an, cdv, ct, osl, rfl, lk, hcd⟩ := I.fn.ex
    exact fun s' b v => .of_eq rfl
theorem mk_NoLetter (g : mg "NoLetter" = some (.ref C)) (T : ExK K C XK.tLook) (I : ∃ fI fd, IF K C fI fd "NoLetter.__init__" (ini 16)) (no : PySem.W.findIn K (.ref C) "number" = some none) (N : Bn K mg "LookupError" "LookupError.__init__") : M1 P w K mg base "NoLetter" "number" C := by
  obtain ⟨fI, fd, I⟩ := I
  refine ⟨fI, fd, _, T, ⟨⟨_, T⟩, I.iC, I.tI⟩, ok_NoLetter I.fn T no N, ?_, ?_, no, g⟩
  · obtain ⟨oc, od, kV, doc, pm, an, cdv, ct, osl, rfl, lk, hcd⟩ := I.fn.ex
    exact fun s' b v => .of_eq rfl
  · obtain ⟨oc, od, kV, doc, pm, an, cdv, ct, osl, rfl, lk, hcd⟩ := I.fn.ex
    exact fun s' b v => .of_eq rfl
theorem mk_Busy (g : mg "Busy" = some (.ref C)) (T : ExK K C XK.tRun) (I : ∃ fI fd, IF K C fI fd "Busy.__init__" (ini 17)) (no : PySem.W.findIn K (.ref C) "what" = some none) (N : Bn K mg "RuntimeError" "RuntimeError.__init__") : M1 P w K mg base "Busy" "what" C := by
  obtain ⟨fI, fd, I⟩ := I
  refine ⟨fI, fd, _, T, ⟨⟨_, T⟩, I.iC, I.tI⟩, ok_Busy I.fn T no N, ?_, ?_, no, g⟩
  · obtain ⟨oc, od, kV, doc, pm, an, cdv, ct, osl, rfl, lk, hcd⟩ := I.fn.ex
    exact fun s' b v => .of_eq rfl
  · obtain ⟨oc, od, kV, doc, pm, an, cdv, ct, osl, rfl, lk, hcd⟩ := I.fn.ex
    exact fun s' b v => .of_eq rfl
theorem mk_Away (g : mg "Away" = some (.ref C)) (T : ExK K C XK.tRun) (I : ∃ fI fd, IF K C fI fd "Away.__init__" (ini 18)) (no : PySem.W.findIn K (.ref C) "house" = some none) (N : Bn K mg "RuntimeError" "RuntimeError.__init__") : M1 P w K mg base "Away" "house" C := by
  obtain ⟨fI, fd, I⟩ := I
  refine ⟨fI, fd, _, T, ⟨⟨_, T⟩, I.iC, I.tI⟩, ok_Away I.fn T no N, ?_, ?_, no, g⟩
  · obtain ⟨oc, od, kV, doc, pm, an, cdv, ct, osl, rfl, lk, hcd⟩ := I.fn.ex
    exact fun s' b v => .of_eq rfl
  · obtain ⟨oc, od, kV, doc, pm, an, cdv, ct, osl, rfl, lk, hcd⟩ := I.fn.ex
    exact fun s' b v => .of_eq rfl
theorem mk_TooMany (g : mg "TooMany" = some (.ref C)) (T : ExK K C XK.tOver) (I : ∃ fI fd, IF K C fI fd "TooMany.__init__" (ini 19)) (no : PySem.W.findIn K (.ref C) "many" = some none) (N : Bn K mg "OverflowError" "OverflowError.__init__") : M1 P w K mg base "TooMany" "many" C := by
  obtain ⟨fI, fd, I⟩ := I
  refine ⟨fI, fd, _, T, ⟨⟨_, T⟩, I.iC, I.tI⟩, ok_TooMany I.fn T no N, ?_, ?_, no, g⟩
  · obtain ⟨oc, od, kV, doc, pm, an, cdv, ct, osl, rfl, lk, hcd⟩ := I.fn.ex
    exact fun s' b v => .of_eq rfl
  · obtain ⟨oc, od, kV, doc, pm, an, cdv, ct, osl, rfl, lk, hcd⟩ := I.fn.ex
    exact fun s' b v => .of_eq rfl
theorem mk_NoWorld (g : mg "NoWorld" = some (.ref C)) (T : ExK K C XK.tLook) (I : ∃ fI fd, IF K C fI fd "NoWorld.__init__" (ini 20)) (N : Bn K mg "LookupError" "LookupError.__init__") : M0 P w K mg base "NoWorld" C := by
  obtain ⟨fI, fd, I⟩ := I
  refine ⟨fI, fd, _, T, ⟨⟨_, T⟩, I.iC, I.tI⟩, ok_NoWorld I.fn T N, ?_, g⟩
  obtain ⟨oc, od, kV, doc, pm, an, cdv, ct, osl, rfl, lk, hcd⟩ := I.fn.ex
  exact fun s' b => .of_eq rfl
end
theorem all_mk {l : PySem.W.OpenLaw} {w : World} {K : PySem.W.Frag} {h : Heap} {mg : Str → Option Value} {fa fL D cNoVersion cNoCell cNoKey cNoKnown cNoRow cNoSteps cNoRing cNoShape cNoDeed cNoNews cNoText cNoHouse cNoAsker cNoAsk cNoLetter cBusy cAway cTooMany cNoWorld : Addr} (X : K.In h) (G : h.Ns mainGlobals mg) (hfa : mg "law" = some (.ref fa))
    (gH : PySem.W.nsIn K mainGlobals "HintError" = some (some (.ref D))) (xH : ExK K D XK.tVal) (sgH : PySem.W.specialIn K (.ref D) "__getattribute__" = some (some (.builtin "type.__getattribute__"))) (rdH : PySem.W.readsIn K D (.type "type") = true) (vH : PySem.W.findCls K (.ref D) (.type "type") "__init__" = some (.val (.builtin "ValueError.__init__")))
    (fKeyError : PySem.W.nsIn K mainGlobals "KeyError" = some none) (vKeyError : PySem.W.findCls K (.type "KeyError") (.type "type") "__init__" = some (.val (.builtin "KeyError.__init__")))
    (fLookupError : PySem.W.nsIn K mainGlobals "LookupError" = some none) (vLookupError : PySem.W.findCls K (.type "LookupError") (.type "type") "__init__" = some (.val (.builtin "LookupError.__init__")))
    (fRuntimeError : PySem.W.nsIn K mainGlobals "RuntimeError" = some none) (vRuntimeError : PySem.W.findCls K (.type "RuntimeError") (.type "type") "__init__" = some (.val (.builtin "RuntimeError.__init__")))
    (fOverflowError : PySem.W.nsIn K mainGlobals "OverflowError" = some none) (vOverflowError : PySem.W.findCls K (.type "OverflowError") (.type "type") "__init__" = some (.val (.builtin "OverflowError.__init__")))
    (fValueError : PySem.W.nsIn K mainGlobals "ValueError" = some none)
    (fisinstance : PySem.W.nsIn K mainGlobals "isinstance" = some none)
    (fabs : PySem.W.nsIn K mainGlobals "abs" = some none)
    (frepr : PySem.W.nsIn K mainGlobals "repr" = some none)
    (fenumerate : PySem.W.nsIn K mainGlobals "enumerate" = some none)
    (frange : PySem.W.nsIn K mainGlobals "range" = some none)
    (w1 : PySem.W.specialIn K (.builtin "object.__class__") "__get__" = some (some (.builtin "getset_descriptor.__get__"))) (w2 : PySem.W.takesIn K (.builtin "object.__class__") = some true)
    (aNoVersion : PySem.W.nsIn K mainGlobals "NoVersion" = some (some (.ref cNoVersion))) (xNoVersion : ExK K cNoVersion (.ref D :: XK.tVal)) (iNoVersion : ∃ fI fd, IF K cNoVersion fI fd "NoVersion.__init__" (ini 2))
    (aNoCell : PySem.W.nsIn K mainGlobals "NoCell" = some (some (.ref cNoCell))) (xNoCell : ExK K cNoCell (.ref D :: XK.tVal)) (iNoCell : ∃ fI fd, IF K cNoCell fI fd "NoCell.__init__" (ini 3))
    (aNoKey : PySem.W.nsIn K mainGlobals "NoKey" = some (some (.ref cNoKey))) (xNoKey : ExK K cNoKey (.ref D :: XK.tVal)) (iNoKey : ∃ fI fd, IF K cNoKey fI fd "NoKey.__init__" (ini 5))
    (aNoKnown : PySem.W.nsIn K mainGlobals "NoKnown" = some (some (.ref cNoKnown))) (xNoKnown : ExK K cNoKnown (.ref D :: XK.tVal)) (iNoKnown : ∃ fI fd, IF K cNoKnown fI fd "NoKnown.__init__" (ini 7))
    (aNoRow : PySem.W.nsIn K mainGlobals "NoRow" = some (some (.ref cNoRow))) (xNoRow : ExK K cNoRow (.ref D :: XK.tVal)) (iNoRow : ∃ fI fd, IF K cNoRow fI fd "NoRow.__init__" (ini 11))
    (aNoSteps : PySem.W.nsIn K mainGlobals "NoSteps" = some (some (.ref cNoSteps))) (xNoSteps : ExK K cNoSteps (.ref D :: XK.tVal)) (iNoSteps : ∃ fI fd, IF K cNoSteps fI fd "NoSteps.__init__" (ini 12))
    (aNoRing : PySem.W.nsIn K mainGlobals "NoRing" = some (some (.ref cNoRing))) (xNoRing : ExK K cNoRing (.ref D :: XK.tVal)) (iNoRing : ∃ fI fd, IF K cNoRing fI fd "NoRing.__init__" (ini 4)) (nNoRing : PySem.W.findIn K (.ref cNoRing) "number" = some none)
    (aNoShape : PySem.W.nsIn K mainGlobals "NoShape" = some (some (.ref cNoShape))) (xNoShape : ExK K cNoShape (.ref D :: XK.tVal)) (iNoShape : ∃ fI fd, IF K cNoShape fI fd "NoShape.__init__" (ini 6)) (nNoShape : PySem.W.findIn K (.ref cNoShape) "what" = some none)
    (aNoDeed : PySem.W.nsIn K mainGlobals "NoDeed" = some (some (.ref cNoDeed))) (xNoDeed : ExK K cNoDeed (.ref D :: XK.tVal)) (iNoDeed : ∃ fI fd, IF K cNoDeed fI fd "NoDeed.__init__" (ini 8)) (nNoDeed : PySem.W.findIn K (.ref cNoDeed) "number" = some none)
    (aNoNews : PySem.W.nsIn K mainGlobals "NoNews" = some (some (.ref cNoNews))) (xNoNews : ExK K cNoNews (.ref D :: XK.tVal)) (iNoNews : ∃ fI fd, IF K cNoNews fI fd "NoNews.__init__" (ini 9)) (nNoNews : PySem.W.findIn K (.ref cNoNews) "house" = some none)
    (aNoText : PySem.W.nsIn K mainGlobals "NoText" = some (some (.ref cNoText))) (xNoText : ExK K cNoText (.ref D :: XK.tVal)) (iNoText : ∃ fI fd, IF K cNoText fI fd "NoText.__init__" (ini 10)) (nNoText : PySem.W.findIn K (.ref cNoText) "row" = some none)
    (aNoHouse : PySem.W.nsIn K mainGlobals "NoHouse" = some (some (.ref cNoHouse))) (xNoHouse : ExK K cNoHouse XK.tKey) (iNoHouse : ∃ fI fd, IF K cNoHouse fI fd "NoHouse.__init__" (ini 13)) (nNoHouse : PySem.W.findIn K (.ref cNoHouse) "house" = some none)
    (aNoAsker : PySem.W.nsIn K mainGlobals "NoAsker" = some (some (.ref cNoAsker))) (xNoAsker : ExK K cNoAsker XK.tKey) (iNoAsker : ∃ fI fd, IF K cNoAsker fI fd "NoAsker.__init__" (ini 14)) (nNoAsker : PySem.W.findIn K (.ref cNoAsker) "asker" = some none)
    (aNoAsk : PySem.W.nsIn K mainGlobals "NoAsk" = some (some (.ref cNoAsk))) (xNoAsk : ExK K cNoAsk XK.tLook) (iNoAsk : ∃ fI fd, IF K cNoAsk fI fd "NoAsk.__init__" (ini 15)) (nNoAsk : PySem.W.findIn K (.ref cNoAsk) "number" = some none)
    (aNoLetter : PySem.W.nsIn K mainGlobals "NoLetter" = some (some (.ref cNoLetter))) (xNoLetter : ExK K cNoLetter XK.tLook) (iNoLetter : ∃ fI fd, IF K cNoLetter fI fd "NoLetter.__init__" (ini 16)) (nNoLetter : PySem.W.findIn K (.ref cNoLetter) "number" = some none)
    (aBusy : PySem.W.nsIn K mainGlobals "Busy" = some (some (.ref cBusy))) (xBusy : ExK K cBusy XK.tRun) (iBusy : ∃ fI fd, IF K cBusy fI fd "Busy.__init__" (ini 17)) (nBusy : PySem.W.findIn K (.ref cBusy) "what" = some none)
    (aAway : PySem.W.nsIn K mainGlobals "Away" = some (some (.ref cAway))) (xAway : ExK K cAway XK.tRun) (iAway : ∃ fI fd, IF K cAway fI fd "Away.__init__" (ini 18)) (nAway : PySem.W.findIn K (.ref cAway) "house" = some none)
    (aTooMany : PySem.W.nsIn K mainGlobals "TooMany" = some (some (.ref cTooMany))) (xTooMany : ExK K cTooMany XK.tOver) (iTooMany : ∃ fI fd, IF K cTooMany fI fd "TooMany.__init__" (ini 19)) (nTooMany : PySem.W.findIn K (.ref cTooMany) "many" = some none)
    (aNoWorld : PySem.W.nsIn K mainGlobals "NoWorld" = some (some (.ref cNoWorld))) (xNoWorld : ExK K cNoWorld XK.tLook) (iNoWorld : ∃ fI fd, IF K cNoWorld fI fd "NoWorld.__init__" (ini 20))
    (rNoVersion : kindsV cNoVersion (.ref D :: XK.tVal) [cNoVersion, cNoCell, cNoKey, cNoKnown, cNoRow, cNoSteps, cNoRing, cNoShape, cNoDeed, cNoNews, cNoText, cNoHouse, cNoAsker, cNoAsk, cNoLetter, cBusy, cAway, cTooMany, cNoWorld] = ((List.range 19).map fun j : Nat => decide ((j : Int) = ((0 : Nat) : Int))).map V.bl ∧ underV cNoVersion (.ref D :: XK.tVal) D = (dueB ((0 : Nat) : Int)).map V.bl)
    (rNoCell : kindsV cNoCell (.ref D :: XK.tVal) [cNoVersion, cNoCell, cNoKey, cNoKnown, cNoRow, cNoSteps, cNoRing, cNoShape, cNoDeed, cNoNews, cNoText, cNoHouse, cNoAsker, cNoAsk, cNoLetter, cBusy, cAway, cTooMany, cNoWorld] = ((List.range 19).map fun j : Nat => decide ((j : Int) = ((1 : Nat) : Int))).map V.bl ∧ underV cNoCell (.ref D :: XK.tVal) D = (dueB ((1 : Nat) : Int)).map V.bl)
    (rNoKey : kindsV cNoKey (.ref D :: XK.tVal) [cNoVersion, cNoCell, cNoKey, cNoKnown, cNoRow, cNoSteps, cNoRing, cNoShape, cNoDeed, cNoNews, cNoText, cNoHouse, cNoAsker, cNoAsk, cNoLetter, cBusy, cAway, cTooMany, cNoWorld] = ((List.range 19).map fun j : Nat => decide ((j : Int) = ((2 : Nat) : Int))).map V.bl ∧ underV cNoKey (.ref D :: XK.tVal) D = (dueB ((2 : Nat) : Int)).map V.bl)
    (rNoKnown : kindsV cNoKnown (.ref D :: XK.tVal) [cNoVersion, cNoCell, cNoKey, cNoKnown, cNoRow, cNoSteps, cNoRing, cNoShape, cNoDeed, cNoNews, cNoText, cNoHouse, cNoAsker, cNoAsk, cNoLetter, cBusy, cAway, cTooMany, cNoWorld] = ((List.range 19).map fun j : Nat => decide ((j : Int) = ((3 : Nat) : Int))).map V.bl ∧ underV cNoKnown (.ref D :: XK.tVal) D = (dueB ((3 : Nat) : Int)).map V.bl)
    (rNoRow : kindsV cNoRow (.ref D :: XK.tVal) [cNoVersion, cNoCell, cNoKey, cNoKnown, cNoRow, cNoSteps, cNoRing, cNoShape, cNoDeed, cNoNews, cNoText, cNoHouse, cNoAsker, cNoAsk, cNoLetter, cBusy, cAway, cTooMany, cNoWorld] = ((List.range 19).map fun j : Nat => decide ((j : Int) = ((4 : Nat) : Int))).map V.bl ∧ underV cNoRow (.ref D :: XK.tVal) D = (dueB ((4 : Nat) : Int)).map V.bl)
    (rNoSteps : kindsV cNoSteps (.ref D :: XK.tVal) [cNoVersion, cNoCell, cNoKey, cNoKnown, cNoRow, cNoSteps, cNoRing, cNoShape, cNoDeed, cNoNews, cNoText, cNoHouse, cNoAsker, cNoAsk, cNoLetter, cBusy, cAway, cTooMany, cNoWorld] = ((List.range 19).map fun j : Nat => decide ((j : Int) = ((5 : Nat) : Int))).map V.bl ∧ underV cNoSteps (.ref D :: XK.tVal) D = (dueB ((5 : Nat) : Int)).map V.bl)
    (rNoRing : kindsV cNoRing (.ref D :: XK.tVal) [cNoVersion, cNoCell, cNoKey, cNoKnown, cNoRow, cNoSteps, cNoRing, cNoShape, cNoDeed, cNoNews, cNoText, cNoHouse, cNoAsker, cNoAsk, cNoLetter, cBusy, cAway, cTooMany, cNoWorld] = ((List.range 19).map fun j : Nat => decide ((j : Int) = ((6 : Nat) : Int))).map V.bl ∧ underV cNoRing (.ref D :: XK.tVal) D = (dueB ((6 : Nat) : Int)).map V.bl)
    (rNoShape : kindsV cNoShape (.ref D :: XK.tVal) [cNoVersion, cNoCell, cNoKey, cNoKnown, cNoRow, cNoSteps, cNoRing, cNoShape, cNoDeed, cNoNews, cNoText, cNoHouse, cNoAsker, cNoAsk, cNoLetter, cBusy, cAway, cTooMany, cNoWorld] = ((List.range 19).map fun j : Nat => decide ((j : Int) = ((7 : Nat) : Int))).map V.bl ∧ underV cNoShape (.ref D :: XK.tVal) D = (dueB ((7 : Nat) : Int)).map V.bl)
    (rNoDeed : kindsV cNoDeed (.ref D :: XK.tVal) [cNoVersion, cNoCell, cNoKey, cNoKnown, cNoRow, cNoSteps, cNoRing, cNoShape, cNoDeed, cNoNews, cNoText, cNoHouse, cNoAsker, cNoAsk, cNoLetter, cBusy, cAway, cTooMany, cNoWorld] = ((List.range 19).map fun j : Nat => decide ((j : Int) = ((8 : Nat) : Int))).map V.bl ∧ underV cNoDeed (.ref D :: XK.tVal) D = (dueB ((8 : Nat) : Int)).map V.bl)
    (rNoNews : kindsV cNoNews (.ref D :: XK.tVal) [cNoVersion, cNoCell, cNoKey, cNoKnown, cNoRow, cNoSteps, cNoRing, cNoShape, cNoDeed, cNoNews, cNoText, cNoHouse, cNoAsker, cNoAsk, cNoLetter, cBusy, cAway, cTooMany, cNoWorld] = ((List.range 19).map fun j : Nat => decide ((j : Int) = ((9 : Nat) : Int))).map V.bl ∧ underV cNoNews (.ref D :: XK.tVal) D = (dueB ((9 : Nat) : Int)).map V.bl)
    (rNoText : kindsV cNoText (.ref D :: XK.tVal) [cNoVersion, cNoCell, cNoKey, cNoKnown, cNoRow, cNoSteps, cNoRing, cNoShape, cNoDeed, cNoNews, cNoText, cNoHouse, cNoAsker, cNoAsk, cNoLetter, cBusy, cAway, cTooMany, cNoWorld] = ((List.range 19).map fun j : Nat => decide ((j : Int) = ((10 : Nat) : Int))).map V.bl ∧ underV cNoText (.ref D :: XK.tVal) D = (dueB ((10 : Nat) : Int)).map V.bl)
    (rNoHouse : kindsV cNoHouse XK.tKey [cNoVersion, cNoCell, cNoKey, cNoKnown, cNoRow, cNoSteps, cNoRing, cNoShape, cNoDeed, cNoNews, cNoText, cNoHouse, cNoAsker, cNoAsk, cNoLetter, cBusy, cAway, cTooMany, cNoWorld] = ((List.range 19).map fun j : Nat => decide ((j : Int) = ((11 : Nat) : Int))).map V.bl ∧ underV cNoHouse XK.tKey D = (dueB ((11 : Nat) : Int)).map V.bl)
    (rNoAsker : kindsV cNoAsker XK.tKey [cNoVersion, cNoCell, cNoKey, cNoKnown, cNoRow, cNoSteps, cNoRing, cNoShape, cNoDeed, cNoNews, cNoText, cNoHouse, cNoAsker, cNoAsk, cNoLetter, cBusy, cAway, cTooMany, cNoWorld] = ((List.range 19).map fun j : Nat => decide ((j : Int) = ((12 : Nat) : Int))).map V.bl ∧ underV cNoAsker XK.tKey D = (dueB ((12 : Nat) : Int)).map V.bl)
    (rNoAsk : kindsV cNoAsk XK.tLook [cNoVersion, cNoCell, cNoKey, cNoKnown, cNoRow, cNoSteps, cNoRing, cNoShape, cNoDeed, cNoNews, cNoText, cNoHouse, cNoAsker, cNoAsk, cNoLetter, cBusy, cAway, cTooMany, cNoWorld] = ((List.range 19).map fun j : Nat => decide ((j : Int) = ((13 : Nat) : Int))).map V.bl ∧ underV cNoAsk XK.tLook D = (dueB ((13 : Nat) : Int)).map V.bl)
    (rNoLetter : kindsV cNoLetter XK.tLook [cNoVersion, cNoCell, cNoKey, cNoKnown, cNoRow, cNoSteps, cNoRing, cNoShape, cNoDeed, cNoNews, cNoText, cNoHouse, cNoAsker, cNoAsk, cNoLetter, cBusy, cAway, cTooMany, cNoWorld] = ((List.range 19).map fun j : Nat => decide ((j : Int) = ((14 : Nat) : Int))).map V.bl ∧ underV cNoLetter XK.tLook D = (dueB ((14 : Nat) : Int)).map V.bl)
    (rBusy : kindsV cBusy XK.tRun [cNoVersion, cNoCell, cNoKey, cNoKnown, cNoRow, cNoSteps, cNoRing, cNoShape, cNoDeed, cNoNews, cNoText, cNoHouse, cNoAsker, cNoAsk, cNoLetter, cBusy, cAway, cTooMany, cNoWorld] = ((List.range 19).map fun j : Nat => decide ((j : Int) = ((15 : Nat) : Int))).map V.bl ∧ underV cBusy XK.tRun D = (dueB ((15 : Nat) : Int)).map V.bl)
    (rAway : kindsV cAway XK.tRun [cNoVersion, cNoCell, cNoKey, cNoKnown, cNoRow, cNoSteps, cNoRing, cNoShape, cNoDeed, cNoNews, cNoText, cNoHouse, cNoAsker, cNoAsk, cNoLetter, cBusy, cAway, cTooMany, cNoWorld] = ((List.range 19).map fun j : Nat => decide ((j : Int) = ((16 : Nat) : Int))).map V.bl ∧ underV cAway XK.tRun D = (dueB ((16 : Nat) : Int)).map V.bl)
    (rTooMany : kindsV cTooMany XK.tOver [cNoVersion, cNoCell, cNoKey, cNoKnown, cNoRow, cNoSteps, cNoRing, cNoShape, cNoDeed, cNoNews, cNoText, cNoHouse, cNoAsker, cNoAsk, cNoLetter, cBusy, cAway, cTooMany, cNoWorld] = ((List.range 19).map fun j : Nat => decide ((j : Int) = ((17 : Nat) : Int))).map V.bl ∧ underV cTooMany XK.tOver D = (dueB ((17 : Nat) : Int)).map V.bl)
    (rNoWorld : kindsV cNoWorld XK.tLook [cNoVersion, cNoCell, cNoKey, cNoKnown, cNoRow, cNoSteps, cNoRing, cNoShape, cNoDeed, cNoNews, cNoText, cNoHouse, cNoAsker, cNoAsk, cNoLetter, cBusy, cAway, cTooMany, cNoWorld] = ((List.range 19).map fun j : Nat => decide ((j : Int) = ((18 : Nat) : Int))).map V.bl ∧ underV cNoWorld XK.tLook D = (dueB ((18 : Nat) : Int)).map V.bl)
    (hplain : HF K "_law_plain" (topS 22))
    (hones : HF K "_law_ones" (topS 23))
    (hnamed : HF K "_law_named" (topS 24))
    (hfields : HF K "_law_fields" (topS 25))
    (hkinds : HF K "_law_kinds" (topS 26))
    (hunder : HF K "_law_under" (topS 27))
    (hdue : HF K "_law_due" (topS 28))
    (aL : PySem.W.nsIn K mainGlobals "law" = some (some (.ref fL))) (hL : ∃ fd, Fun K "law" "law" (topS 29) fL fd) :
    ∃ fd : FuncData, (∀ (s : Shared) (v : Value), BindsTo s fd ⟨[v], []⟩ [("_law_script", v)]) ∧ ∀ base : Heap, K.In base → base.Ns mainGlobals mg → RunAt l.prog w K mg base CX0 callerA fa fd ["_law_script"] (spLaw K) := by
  have e := hfa.symm.trans (PySem.W.mg_of X G aL)
  cases e
  obtain ⟨fd, FL⟩ := hL
  have bL := FL.binds (ps := ["_law_script"]) fun _ _ _ _ _ _ us hl => match us, hl with | [_], _ => rfl
  refine ⟨fd, fun s v => ?_, fun base _ _ => ?_⟩
  · obtain ⟨oc, od, kV, doc, pm, an, cdv, ct, osl, rfl, lk, hcd⟩ := FL.ex
    exact .of_eq rfl
  have NH : Hn K mg D := ⟨PySem.W.mg_of X G gH, xH, sgH, rdH, vH⟩
  have NKeyError : Bn K mg "KeyError" "KeyError.__init__" := ⟨PySem.W.mg_none_of X G fKeyError, vKeyError⟩
  have NLookupError : Bn K mg "LookupError" "LookupError.__init__" := ⟨PySem.W.mg_none_of X G fLookupError, vLookupError⟩
  have NRuntimeError : Bn K mg "RuntimeError" "RuntimeError.__init__" := ⟨PySem.W.mg_none_of X G fRuntimeError, vRuntimeError⟩
  have NOverflowError : Bn K mg "OverflowError" "OverflowError.__init__" := ⟨PySem.W.mg_none_of X G fOverflowError, vOverflowError⟩
  have gNoVersion := PySem.W.mg_of X G aNoVersion
  have mNoVersion := mk_NoVersion (P := l.prog) (w := w) (base := base) gNoVersion xNoVersion iNoVersion NH
  have gNoCell := PySem.W.mg_of X G aNoCell
  have mNoCell := mk_NoCell (P := l.prog) (w := w) (base := base) gNoCell xNoCell iNoCell NH
  have gNoKey := PySem.W.mg_of X G aNoKey
  have mNoKey := mk_NoKey (P := l.prog) (w := w) (base := base) gNoKey xNoKey iNoKey NH
  have gNoKnown := PySem.W.mg_of X G aNoKnown
  have mNoKnown := mk_NoKnown (P := l.prog) (w := w) (base := base) gNoKnown xNoKnown iNoKnown NH
  have gNoRow := PySem.W.mg_of X G aNoRow
  have mNoRow := mk_NoRow (P := l.prog) (w := w) (base := base) gNoRow xNoRow iNoRow NH
  have gNoSteps := PySem.W.mg_of X G aNoSteps
  have mNoSteps := mk_NoSteps (P := l.prog) (w := w) (base := base) gNoSteps xNoSteps iNoSteps NH
  have gNoRing := PySem.W.mg_of X G aNoRing
  have mNoRing := mk_NoRing (P := l.prog) (w := w) (base := base) gNoRing xNoRing iNoRing nNoRing NH
  have gNoShape := PySem.W.mg_of X G aNoShape
  have mNoShape := mk_NoShape (P := l.prog) (w := w) (base := base) gNoShape xNoShape iNoShape nNoShape NH
  have gNoDeed := PySem.W.mg_of X G aNoDeed
  have mNoDeed := mk_NoDeed (P := l.prog) (w := w) (base := base) gNoDeed xNoDeed iNoDeed nNoDeed NH
  have gNoNews := PySem.W.mg_of X G aNoNews
  have mNoNews := mk_NoNews (P := l.prog) (w := w) (base := base) gNoNews xNoNews iNoNews nNoNews NH
  have gNoText := PySem.W.mg_of X G aNoText
  have mNoText := mk_NoText (P := l.prog) (w := w) (base := base) gNoText xNoText iNoText nNoText NH
  have gNoHouse := PySem.W.mg_of X G aNoHouse
  have mNoHouse := mk_NoHouse (P := l.prog) (w := w) (base := base) gNoHouse xNoHouse iNoHouse nNoHouse NKeyError
  have gNoAsker := PySem.W.mg_of X G aNoAsker
  have mNoAsker := mk_NoAsker (P := l.prog) (w := w) (base := base) gNoAsker xNoAsker iNoAsker nNoAsker NKeyError
  have gNoAsk := PySem.W.mg_of X G aNoAsk
  have mNoAsk := mk_NoAsk (P := l.prog) (w := w) (base := base) gNoAsk xNoAsk iNoAsk nNoAsk NLookupError
  have gNoLetter := PySem.W.mg_of X G aNoLetter
  have mNoLetter := mk_NoLetter (P := l.prog) (w := w) (base := base) gNoLetter xNoLetter iNoLetter nNoLetter NLookupError
  have gBusy := PySem.W.mg_of X G aBusy
  have mBusy := mk_Busy (P := l.prog) (w := w) (base := base) gBusy xBusy iBusy nBusy NRuntimeError
  have gAway := PySem.W.mg_of X G aAway
  have mAway := mk_Away (P := l.prog) (w := w) (base := base) gAway xAway iAway nAway NRuntimeError
  have gTooMany := PySem.W.mg_of X G aTooMany
  have mTooMany := mk_TooMany (P := l.prog) (w := w) (base := base) gTooMany xTooMany iTooMany nTooMany NOverflowError
  have gNoWorld := PySem.W.mg_of X G aNoWorld
  have mNoWorld := mk_NoWorld (P := l.prog) (w := w) (base := base) gNoWorld xNoWorld iNoWorld NLookupError
  have cg : ClsG K := ⟨w1, w2⟩
  have c_plain : Ca l.prog w K mg base 3 "_law_plain" [] (spPl [cNoVersion, cNoCell, cNoKey, cNoKnown, cNoRow, cNoSteps]) := by
    obtain ⟨fh, fdh, gh, Fh⟩ := hplain
    exact ⟨fh, fdh, ok_plain Fh mNoVersion mNoCell mNoKey mNoKnown mNoRow mNoSteps, PySem.W.mg_of X G gh, Fh.kp, Fh.binds fun _ _ _ _ _ _ us hl => match us, hl with | [], _ => rfl⟩
  have c_ones : Ca l.prog w K mg base 3 "_law_ones" ["_law_thing"] (spOn [(cNoRing, "number"), (cNoShape, "what"), (cNoDeed, "number"), (cNoNews, "house"), (cNoText, "row"), (cNoHouse, "house"), (cNoAsker, "asker"), (cNoAsk, "number"), (cNoLetter, "number"), (cBusy, "what"), (cAway, "house"), (cTooMany, "many")]) := by
    obtain ⟨fh, fdh, gh, Fh⟩ := hones
    exact ⟨fh, fdh, ok_ones Fh mNoRing mNoShape mNoDeed mNoNews mNoText mNoHouse mNoAsker mNoAsk mNoLetter mBusy mAway mTooMany, PySem.W.mg_of X G gh, Fh.kp, Fh.binds fun _ _ _ _ _ _ us hl => match us, hl with | [_], _ => rfl⟩
  have c_named : Ca l.prog w K mg base 3 "_law_named" ["_law_thing"] (spOn [(cNoRing, "number"), (cNoShape, "what"), (cNoDeed, "number"), (cNoNews, "house"), (cNoText, "row"), (cNoHouse, "house"), (cNoAsker, "asker"), (cNoAsk, "number"), (cNoLetter, "number"), (cBusy, "what"), (cAway, "house"), (cTooMany, "many")]) := by
    obtain ⟨fh, fdh, gh, Fh⟩ := hnamed
    exact ⟨fh, fdh, ok_named Fh mNoRing mNoShape mNoDeed mNoNews mNoText mNoHouse mNoAsker mNoAsk mNoLetter mBusy mAway mTooMany, PySem.W.mg_of X G gh, Fh.kp, Fh.binds fun _ _ _ _ _ _ us hl => match us, hl with | [_], _ => rfl⟩
  have c_fields : Ca l.prog w K mg base 3 "_law_fields" ["_law_some"] (spFi K [(cNoRing, "number"), (cNoShape, "what"), (cNoDeed, "number"), (cNoNews, "house"), (cNoText, "row"), (cNoHouse, "house"), (cNoAsker, "asker"), (cNoAsk, "number"), (cNoLetter, "number"), (cBusy, "what"), (cAway, "house"), (cTooMany, "many")]) := by
    obtain ⟨fh, fdh, gh, Fh⟩ := hfields
    exact ⟨fh, fdh, ok_fields Fh mNoRing mNoShape mNoDeed mNoNews mNoText mNoHouse mNoAsker mNoAsk mNoLetter mBusy mAway mTooMany, PySem.W.mg_of X G gh, Fh.kp, Fh.binds fun _ _ _ _ _ _ us hl => match us, hl with | [_], _ => rfl⟩
  have c_kinds : Ca l.prog w K mg base 1 "_law_kinds" ["_law_e"] (spKi K [cNoVersion, cNoCell, cNoKey, cNoKnown, cNoRow, cNoSteps, cNoRing, cNoShape, cNoDeed, cNoNews, cNoText, cNoHouse, cNoAsker, cNoAsk, cNoLetter, cBusy, cAway, cTooMany, cNoWorld]) := by
    obtain ⟨fh, fdh, gh, Fh⟩ := hkinds
    exact ⟨fh, fdh, ok_kinds Fh cg (PySem.W.mg_none_of X G fisinstance) gNoVersion ⟨_, xNoVersion⟩ gNoCell ⟨_, xNoCell⟩ gNoKey ⟨_, xNoKey⟩ gNoKnown ⟨_, xNoKnown⟩ gNoRow ⟨_, xNoRow⟩ gNoSteps ⟨_, xNoSteps⟩ gNoRing ⟨_, xNoRing⟩ gNoShape ⟨_, xNoShape⟩ gNoDeed ⟨_, xNoDeed⟩ gNoNews ⟨_, xNoNews⟩ gNoText ⟨_, xNoText⟩ gNoHouse ⟨_, xNoHouse⟩ gNoAsker ⟨_, xNoAsker⟩ gNoAsk ⟨_, xNoAsk⟩ gNoLetter ⟨_, xNoLetter⟩ gBusy ⟨_, xBusy⟩ gAway ⟨_, xAway⟩ gTooMany ⟨_, xTooMany⟩ gNoWorld ⟨_, xNoWorld⟩, PySem.W.mg_of X G gh, Fh.kp, Fh.binds fun _ _ _ _ _ _ us hl => match us, hl with | [_], _ => rfl⟩
  have c_under : Ca l.prog w K mg base 1 "_law_under" ["_law_e"] (spUn K D) := by
    obtain ⟨fh, fdh, gh, Fh⟩ := hunder
    exact ⟨fh, fdh, ok_under Fh cg (PySem.W.mg_none_of X G fisinstance) NH.g ⟨_, xH⟩ (PySem.W.mg_none_of X G fValueError) (PySem.W.mg_none_of X G fKeyError) (PySem.W.mg_none_of X G fLookupError) (PySem.W.mg_none_of X G fRuntimeError) (PySem.W.mg_none_of X G fOverflowError), PySem.W.mg_of X G gh, Fh.kp, Fh.binds fun _ _ _ _ _ _ us hl => match us, hl with | [_], _ => rfl⟩
  have c_due : Ca l.prog w K mg base 1 "_law_due" ["_law_at"] spDu := by
    obtain ⟨fh, fdh, gh, Fh⟩ := hdue
    exact ⟨fh, fdh, ok_due Fh, PySem.W.mg_of X G gh, Fh.kp, Fh.binds fun _ _ _ _ _ _ us hl => match us, hl with | [_], _ => rfl⟩
  refine ok_law (CL := [cNoVersion, cNoCell, cNoKey, cNoKnown, cNoRow, cNoSteps]) (CF := [(cNoRing, "number"), (cNoShape, "what"), (cNoDeed, "number"), (cNoNews, "house"), (cNoText, "row"), (cNoHouse, "house"), (cNoAsker, "asker"), (cNoAsk, "number"), (cNoLetter, "number"), (cBusy, "what"), (cAway, "house"), (cTooMany, "many")]) (cW := cNoWorld) (CC := [cNoVersion, cNoCell, cNoKey, cNoKnown, cNoRow, cNoSteps, cNoRing, cNoShape, cNoDeed, cNoNews, cNoText, cNoHouse, cNoAsker, cNoAsk, cNoLetter, cBusy, cAway, cTooMany, cNoWorld]) (D := D) rfl rfl (fun i C hi => ?_) FL c_plain c_ones c_named c_fields c_kinds c_under c_due mNoWorld (PySem.W.mg_none_of X G fabs) (PySem.W.mg_none_of X G frepr) (PySem.W.mg_none_of X G fenumerate) (PySem.W.mg_none_of X G frange)
  match i, hi with
  | 0, hi => exact (Option.some.inj hi) ▸ ⟨_, xNoVersion, rNoVersion⟩
  | 1, hi => exact (Option.some.inj hi) ▸ ⟨_, xNoCell, rNoCell⟩
  | 2, hi => exact (Option.some.inj hi) ▸ ⟨_, xNoKey, rNoKey⟩
  | 3, hi => exact (Option.some.inj hi) ▸ ⟨_, xNoKnown, rNoKnown⟩
  | 4, hi => exact (Option.some.inj hi) ▸ ⟨_, xNoRow, rNoRow⟩
  | 5, hi => exact (Option.some.inj hi) ▸ ⟨_, xNoSteps, rNoSteps⟩
  | 6, hi => exact (Option.some.inj hi) ▸ ⟨_, xNoRing, rNoRing⟩
  | 7, hi => exact (Option.some.inj hi) ▸ ⟨_, xNoShape, rNoShape⟩
  | 8, hi => exact (Option.some.inj hi) ▸ ⟨_, xNoDeed, rNoDeed⟩
  | 9, hi => exact (Option.some.inj hi) ▸ ⟨_, xNoNews, rNoNews⟩
  | 10, hi => exact (Option.some.inj hi) ▸ ⟨_, xNoText, rNoText⟩
  | 11, hi => exact (Option.some.inj hi) ▸ ⟨_, xNoHouse, rNoHouse⟩
  | 12, hi => exact (Option.some.inj hi) ▸ ⟨_, xNoAsker, rNoAsker⟩
  | 13, hi => exact (Option.some.inj hi) ▸ ⟨_, xNoAsk, rNoAsk⟩
  | 14, hi => exact (Option.some.inj hi) ▸ ⟨_, xNoLetter, rNoLetter⟩
  | 15, hi => exact (Option.some.inj hi) ▸ ⟨_, xBusy, rBusy⟩
  | 16, hi => exact (Option.some.inj hi) ▸ ⟨_, xAway, rAway⟩
  | 17, hi => exact (Option.some.inj hi) ▸ ⟨_, xTooMany, rTooMany⟩
  | 18, hi => exact (Option.some.inj hi) ▸ ⟨_, xNoWorld, rNoWorld⟩
  | i + 19, hi => simp at hi
end K04

open PySem PySem.W PyProof.Rows
set_option Elab.async false
set_option maxRecDepth 100000 in
set_option maxHeartbeats 0 in
theorem PySem.Challenge.cw_heldhints_k04_refusals_apart_holds : PySem.Challenge.rw_heldhints_k04_refusals_apart.Holds := by
  w_on; o_law; k_head; (case hw => w_witness2)
  k_fill
  refine L2.walk_at (l := PySem.Challenge.rw_heldhints_k04_refusals_apart) (n := 63) (x := "_law_script") (CX := fun _ => L2.CX0) (sp := fun w => K04.spLaw _) rfl (by decide) rfl (fun w h Y => PySem.W.kIn_of Y) ?F (fun _ _ a ns hl _ hS => ⟨a, ns, rfl, hS, hl, fun _ => rfl⟩) (fun _ _ _ _ _ h => h)
  case F =>
    intro w mg fa h KX G hmg
    refine' K04.all_mk KX G hmg ?gH ?xH ?sgH ?rdH ?vH ?fKeyError ?vKeyError ?fLookupError ?vLookupError ?fRuntimeError ?vRuntimeError ?fOverflowError ?vOverflowError ?fValueError ?fisinstance ?fabs ?frepr ?fenumerate ?frange ?w1 ?w2 ?aNoVersion ?xNoVersion ?iNoVersion ?aNoCell ?xNoCell ?iNoCell ?aNoKey ?xNoKey ?iNoKey ?aNoKnown ?xNoKnown ?iNoKnown ?aNoRow ?xNoRow ?iNoRow ?aNoSteps ?xNoSteps ?iNoSteps ?aNoRing ?xNoRing ?iNoRing ?nNoRing ?aNoShape ?xNoShape ?iNoShape ?nNoShape ?aNoDeed ?xNoDeed ?iNoDeed ?nNoDeed ?aNoNews ?xNoNews ?iNoNews ?nNoNews ?aNoText ?xNoText ?iNoText ?nNoText ?aNoHouse ?xNoHouse ?iNoHouse ?nNoHouse ?aNoAsker ?xNoAsker ?iNoAsker ?nNoAsker ?aNoAsk ?xNoAsk ?iNoAsk ?nNoAsk ?aNoLetter ?xNoLetter ?iNoLetter ?nNoLetter ?aBusy ?xBusy ?iBusy ?nBusy ?aAway ?xAway ?iAway ?nAway ?aTooMany ?xTooMany ?iTooMany ?nTooMany ?aNoWorld ?xNoWorld ?iNoWorld ?rNoVersion ?rNoCell ?rNoKey ?rNoKnown ?rNoRow ?rNoSteps ?rNoRing ?rNoShape ?rNoDeed ?rNoNews ?rNoText ?rNoHouse ?rNoAsker ?rNoAsk ?rNoLetter ?rBusy ?rAway ?rTooMany ?rNoWorld ?hplain ?hones ?hnamed ?hfields ?hkinds ?hunder ?hdue ?aL ?hL
    (case gH => k_is)
    (case xH => (refine' K04.exV ?l ?sa ?ga ?gt ?ca ?kC; (case l => k_is); (case sa => k_is); (case ga => k_is); (case gt => k_is); (case ca => k_is); (case kC => k_is)))
    (case sgH => k_is)
    (case rdH => k_is)
    (case vH => k_is)
    (case fKeyError => k_is)
    (case vKeyError => k_is)
    (case fLookupError => k_is)
    (case vLookupError => k_is)
    (case fRuntimeError => k_is)
    (case vRuntimeError => k_is)
    (case fOverflowError => k_is)
    (case vOverflowError => k_is)
    (case fValueError => k_is)
    (case fisinstance => k_is)
    (case fabs => k_is)
    (case frepr => k_is)
    (case fenumerate => k_is)
    (case frange => k_is)
    (case w1 => k_is)
    (case w2 => k_is)
    (case aNoVersion => k_is)
    (case xNoVersion => (refine' K04.exH ?l ?sa ?ga ?gt ?ca ?kC; (case l => k_is); (case sa => k_is); (case ga => k_is); (case gt => k_is); (case ca => k_is); (case kC => k_is)))
    (case iNoVersion => (refine' ⟨_, _, ?i1, ?i2, L2.fun_mk ?i3 ?i4 ?i5⟩; (case i1 => k_is); (case i2 => k_is); (case i3 => k_is); (case i4 => k_is); (case i5 => k_is)))
    (case aNoCell => k_is)
    (case xNoCell => (refine' K04.exH ?l ?sa ?ga ?gt ?ca ?kC; (case l => k_is); (case sa => k_is); (case ga => k_is); (case gt => k_is); (case ca => k_is); (case kC => k_is)))
    (case iNoCell => (refine' ⟨_, _, ?i1, ?i2, L2.fun_mk ?i3 ?i4 ?i5⟩; (case i1 => k_is); (case i2 => k_is); (case i3 => k_is); (case i4 => k_is); (case i5 => k_is)))
    (case aNoKey => k_is)
    (case xNoKey => (refine' K04.exH ?l ?sa ?ga ?gt ?ca ?kC; (case l => k_is); (case sa => k_is); (case ga => k_is); (case gt => k_is); (case ca => k_is); (case kC => k_is)))
    (case iNoKey => (refine' ⟨_, _, ?i1, ?i2, L2.fun_mk ?i3 ?i4 ?i5⟩; (case i1 => k_is); (case i2 => k_is); (case i3 => k_is); (case i4 => k_is); (case i5 => k_is)))
    (case aNoKnown => k_is)
    (case xNoKnown => (refine' K04.exH ?l ?sa ?ga ?gt ?ca ?kC; (case l => k_is); (case sa => k_is); (case ga => k_is); (case gt => k_is); (case ca => k_is); (case kC => k_is)))
    (case iNoKnown => (refine' ⟨_, _, ?i1, ?i2, L2.fun_mk ?i3 ?i4 ?i5⟩; (case i1 => k_is); (case i2 => k_is); (case i3 => k_is); (case i4 => k_is); (case i5 => k_is)))
    (case aNoRow => k_is)
    (case xNoRow => (refine' K04.exH ?l ?sa ?ga ?gt ?ca ?kC; (case l => k_is); (case sa => k_is); (case ga => k_is); (case gt => k_is); (case ca => k_is); (case kC => k_is)))
    (case iNoRow => (refine' ⟨_, _, ?i1, ?i2, L2.fun_mk ?i3 ?i4 ?i5⟩; (case i1 => k_is); (case i2 => k_is); (case i3 => k_is); (case i4 => k_is); (case i5 => k_is)))
    (case aNoSteps => k_is)
    (case xNoSteps => (refine' K04.exH ?l ?sa ?ga ?gt ?ca ?kC; (case l => k_is); (case sa => k_is); (case ga => k_is); (case gt => k_is); (case ca => k_is); (case kC => k_is)))
    (case iNoSteps => (refine' ⟨_, _, ?i1, ?i2, L2.fun_mk ?i3 ?i4 ?i5⟩; (case i1 => k_is); (case i2 => k_is); (case i3 => k_is); (case i4 => k_is); (case i5 => k_is)))
    (case aNoRing => k_is)
    (case xNoRing => (refine' K04.exH ?l ?sa ?ga ?gt ?ca ?kC; (case l => k_is); (case sa => k_is); (case ga => k_is); (case gt => k_is); (case ca => k_is); (case kC => k_is)))
    (case iNoRing => (refine' ⟨_, _, ?i1, ?i2, L2.fun_mk ?i3 ?i4 ?i5⟩; (case i1 => k_is); (case i2 => k_is); (case i3 => k_is); (case i4 => k_is); (case i5 => k_is)))
    (case nNoRing => k_is)
    (case aNoShape => k_is)
    (case xNoShape => (refine' K04.exH ?l ?sa ?ga ?gt ?ca ?kC; (case l => k_is); (case sa => k_is); (case ga => k_is); (case gt => k_is); (case ca => k_is); (case kC => k_is)))
    (case iNoShape => (refine' ⟨_, _, ?i1, ?i2, L2.fun_mk ?i3 ?i4 ?i5⟩; (case i1 => k_is); (case i2 => k_is); (case i3 => k_is); (case i4 => k_is); (case i5 => k_is)))
    (case nNoShape => k_is)
    (case aNoDeed => k_is)
    (case xNoDeed => (refine' K04.exH ?l ?sa ?ga ?gt ?ca ?kC; (case l => k_is); (case sa => k_is); (case ga => k_is); (case gt => k_is); (case ca => k_is); (case kC => k_is)))
    (case iNoDeed => (refine' ⟨_, _, ?i1, ?i2, L2.fun_mk ?i3 ?i4 ?i5⟩; (case i1 => k_is); (case i2 => k_is); (case i3 => k_is); (case i4 => k_is); (case i5 => k_is)))
    (case nNoDeed => k_is)
    (case aNoNews => k_is)
    (case xNoNews => (refine' K04.exH ?l ?sa ?ga ?gt ?ca ?kC; (case l => k_is); (case sa => k_is); (case ga => k_is); (case gt => k_is); (case ca => k_is); (case kC => k_is)))
    (case iNoNews => (refine' ⟨_, _, ?i1, ?i2, L2.fun_mk ?i3 ?i4 ?i5⟩; (case i1 => k_is); (case i2 => k_is); (case i3 => k_is); (case i4 => k_is); (case i5 => k_is)))
    (case nNoNews => k_is)
    (case aNoText => k_is)
    (case xNoText => (refine' K04.exH ?l ?sa ?ga ?gt ?ca ?kC; (case l => k_is); (case sa => k_is); (case ga => k_is); (case gt => k_is); (case ca => k_is); (case kC => k_is)))
    (case iNoText => (refine' ⟨_, _, ?i1, ?i2, L2.fun_mk ?i3 ?i4 ?i5⟩; (case i1 => k_is); (case i2 => k_is); (case i3 => k_is); (case i4 => k_is); (case i5 => k_is)))
    (case nNoText => k_is)
    (case aNoHouse => k_is)
    (case xNoHouse => (refine' K04.exKe ?l ?sa ?ga ?gt ?ca ?kC; (case l => k_is); (case sa => k_is); (case ga => k_is); (case gt => k_is); (case ca => k_is); (case kC => k_is)))
    (case iNoHouse => (refine' ⟨_, _, ?i1, ?i2, L2.fun_mk ?i3 ?i4 ?i5⟩; (case i1 => k_is); (case i2 => k_is); (case i3 => k_is); (case i4 => k_is); (case i5 => k_is)))
    (case nNoHouse => k_is)
    (case aNoAsker => k_is)
    (case xNoAsker => (refine' K04.exKe ?l ?sa ?ga ?gt ?ca ?kC; (case l => k_is); (case sa => k_is); (case ga => k_is); (case gt => k_is); (case ca => k_is); (case kC => k_is)))
    (case iNoAsker => (refine' ⟨_, _, ?i1, ?i2, L2.fun_mk ?i3 ?i4 ?i5⟩; (case i1 => k_is); (case i2 => k_is); (case i3 => k_is); (case i4 => k_is); (case i5 => k_is)))
    (case nNoAsker => k_is)
    (case aNoAsk => k_is)
    (case xNoAsk => (refine' K04.exL ?l ?sa ?ga ?gt ?ca ?kC; (case l => k_is); (case sa => k_is); (case ga => k_is); (case gt => k_is); (case ca => k_is); (case kC => k_is)))
    (case iNoAsk => (refine' ⟨_, _, ?i1, ?i2, L2.fun_mk ?i3 ?i4 ?i5⟩; (case i1 => k_is); (case i2 => k_is); (case i3 => k_is); (case i4 => k_is); (case i5 => k_is)))
    (case nNoAsk => k_is)
    (case aNoLetter => k_is)
    (case xNoLetter => (refine' K04.exL ?l ?sa ?ga ?gt ?ca ?kC; (case l => k_is); (case sa => k_is); (case ga => k_is); (case gt => k_is); (case ca => k_is); (case kC => k_is)))
    (case iNoLetter => (refine' ⟨_, _, ?i1, ?i2, L2.fun_mk ?i3 ?i4 ?i5⟩; (case i1 => k_is); (case i2 => k_is); (case i3 => k_is); (case i4 => k_is); (case i5 => k_is)))
    (case nNoLetter => k_is)
    (case aBusy => k_is)
    (case xBusy => (refine' K04.exR ?l ?sa ?ga ?gt ?ca ?kC; (case l => k_is); (case sa => k_is); (case ga => k_is); (case gt => k_is); (case ca => k_is); (case kC => k_is)))
    (case iBusy => (refine' ⟨_, _, ?i1, ?i2, L2.fun_mk ?i3 ?i4 ?i5⟩; (case i1 => k_is); (case i2 => k_is); (case i3 => k_is); (case i4 => k_is); (case i5 => k_is)))
    (case nBusy => k_is)
    (case aAway => k_is)
    (case xAway => (refine' K04.exR ?l ?sa ?ga ?gt ?ca ?kC; (case l => k_is); (case sa => k_is); (case ga => k_is); (case gt => k_is); (case ca => k_is); (case kC => k_is)))
    (case iAway => (refine' ⟨_, _, ?i1, ?i2, L2.fun_mk ?i3 ?i4 ?i5⟩; (case i1 => k_is); (case i2 => k_is); (case i3 => k_is); (case i4 => k_is); (case i5 => k_is)))
    (case nAway => k_is)
    (case aTooMany => k_is)
    (case xTooMany => (refine' K04.exO ?l ?sa ?ga ?gt ?ca ?kC; (case l => k_is); (case sa => k_is); (case ga => k_is); (case gt => k_is); (case ca => k_is); (case kC => k_is)))
    (case iTooMany => (refine' ⟨_, _, ?i1, ?i2, L2.fun_mk ?i3 ?i4 ?i5⟩; (case i1 => k_is); (case i2 => k_is); (case i3 => k_is); (case i4 => k_is); (case i5 => k_is)))
    (case nTooMany => k_is)
    (case aNoWorld => k_is)
    (case xNoWorld => (refine' K04.exL ?l ?sa ?ga ?gt ?ca ?kC; (case l => k_is); (case sa => k_is); (case ga => k_is); (case gt => k_is); (case ca => k_is); (case kC => k_is)))
    (case iNoWorld => (refine' ⟨_, _, ?i1, ?i2, L2.fun_mk ?i3 ?i4 ?i5⟩; (case i1 => k_is); (case i2 => k_is); (case i3 => k_is); (case i4 => k_is); (case i5 => k_is)))
    (case rNoVersion => exact ⟨by rfl, by rfl⟩)
    (case rNoCell => exact ⟨by rfl, by rfl⟩)
    (case rNoKey => exact ⟨by rfl, by rfl⟩)
    (case rNoKnown => exact ⟨by rfl, by rfl⟩)
    (case rNoRow => exact ⟨by rfl, by rfl⟩)
    (case rNoSteps => exact ⟨by rfl, by rfl⟩)
    (case rNoRing => exact ⟨by rfl, by rfl⟩)
    (case rNoShape => exact ⟨by rfl, by rfl⟩)
    (case rNoDeed => exact ⟨by rfl, by rfl⟩)
    (case rNoNews => exact ⟨by rfl, by rfl⟩)
    (case rNoText => exact ⟨by rfl, by rfl⟩)
    (case rNoHouse => exact ⟨by rfl, by rfl⟩)
    (case rNoAsker => exact ⟨by rfl, by rfl⟩)
    (case rNoAsk => exact ⟨by rfl, by rfl⟩)
    (case rNoLetter => exact ⟨by rfl, by rfl⟩)
    (case rBusy => exact ⟨by rfl, by rfl⟩)
    (case rAway => exact ⟨by rfl, by rfl⟩)
    (case rTooMany => exact ⟨by rfl, by rfl⟩)
    (case rNoWorld => exact ⟨by rfl, by rfl⟩)
    (case hplain => (refine' ⟨_, _, ?i1, L2.fun_mk ?i3 ?i4 ?i5⟩; (case i1 => k_is); (case i3 => k_is); (case i4 => k_is); (case i5 => k_is)))
    (case hones => (refine' ⟨_, _, ?i1, L2.fun_mk ?i3 ?i4 ?i5⟩; (case i1 => k_is); (case i3 => k_is); (case i4 => k_is); (case i5 => k_is)))
    (case hnamed => (refine' ⟨_, _, ?i1, L2.fun_mk ?i3 ?i4 ?i5⟩; (case i1 => k_is); (case i3 => k_is); (case i4 => k_is); (case i5 => k_is)))
    (case hfields => (refine' ⟨_, _, ?i1, L2.fun_mk ?i3 ?i4 ?i5⟩; (case i1 => k_is); (case i3 => k_is); (case i4 => k_is); (case i5 => k_is)))
    (case hkinds => (refine' ⟨_, _, ?i1, L2.fun_mk ?i3 ?i4 ?i5⟩; (case i1 => k_is); (case i3 => k_is); (case i4 => k_is); (case i5 => k_is)))
    (case hunder => (refine' ⟨_, _, ?i1, L2.fun_mk ?i3 ?i4 ?i5⟩; (case i1 => k_is); (case i3 => k_is); (case i4 => k_is); (case i5 => k_is)))
    (case hdue => (refine' ⟨_, _, ?i1, L2.fun_mk ?i3 ?i4 ?i5⟩; (case i1 => k_is); (case i3 => k_is); (case i4 => k_is); (case i5 => k_is)))
    (case aL => k_is)
    (case hL => (refine' ⟨_, L2.fun_mk ?i3 ?i4 ?i5⟩; (case i3 => k_is); (case i4 => k_is); (case i5 => k_is)))
