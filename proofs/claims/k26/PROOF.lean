import PyProof.Rows.All
import Wide.All
import OpenK.AllK
import Wide.FinOn
import HandS.ForMost
import HandS.TupSets
import KE.KSortTupUse
import HandS.SetBool
import HandS.Comp
import HandS.TupAny
import HandS.TupLe
import HandS.Zip
import HandS.IsInst
import HandS.Style
import HandS.AnyAll
import HandS.Walk
import HandS.Defaults
import KE.SortCalls
import HandS.DictComp
import PyProof.P3In
import KE.KDictSum
import HandS.Conv
import HandS.Zip0
import HandS.Codes
import HandS.Deep
import KE.GoesMore
import KE.SortData
import HandS.Set
import HandS.SetTxt0
import HandS.Exc
import HandS.ExcInit
import KE.KExcIs
import HandS.Lambda
import HandS.Rev
import HandS.Wide
import HandS.TupMul
import HandS.NoneIn
import HandS.OwnEq
import HandS.DeepEq
import KE.DataMinMax
import HandS.Text
import KE.DataFind
import PyProof.StrHeap
import HandS.ExcOwn
import HandS.TryMany
import HandS.Finally
import HandS.BoundDict
import HandS.ListItems
import PyProof.TupleOfSeq
import HandS.CallSlots
import PyProof.ListStr
import HandS.List
import KE.KDictCopyH
import HandS.DictSubView
import PyProof.DictMoreH
import HandS.MakeKw
import HandS.MakeKwOnly
import HandS.Small
import HandS.RevRange
import HandS.Flow
import PyProof.StrBlock2
import HandS.Nested
import HandS.EndTab
import HandS.EndBits
import HandS.More
import KE.DatumMoreOrd
import PySem.Challenge.RW_heldhints_k26_targets_and_writings
set_option Elab.async false
set_option linter.all false
set_option maxRecDepth 100000
set_option maxHeartbeats 4000000

namespace MS
open PySem PySem.Spec PyProof.Rows L2
abbrev MH (P : Program) (w : World) (k : List Key) : Int := tupleKeyHash (mixKind P w) k
abbrev MT (P : Program) (w : World) (h : Heap) (k : List Key) (a : Addr) : Prop := IsTupleKey (mixKind P w) h k a
abbrev Row := Addr × List Key
def enc (P : Program) (w : World) (p : Row) : Int × Value := (MH P w p.2, Value.ref p.1)
def hs (P : Program) (w : World) (L : List Row) : List Int := L.map fun p => MH P w p.2
section
variable {P : Program} {w : World} {A : Around} {E : Value → Shared → Prop} {s : Shared}

def Leaf (v : Value) : Prop := (∃ i t, v = Value.int i t) ∨ ∃ x t, v = Value.str x t
theorem leaves {k : List Key} {vs : List Value} (h : ItemsAre (mixKind P w) k vs) : ∀ v ∈ vs, Leaf v := by
  induction h with
  | nil => exact fun v z => nomatch z
  | cons h1 _ ih =>
    intro v z
    rcases List.mem_cons.mp z with rfl | z
    · rcases keyIs_shape h1 with ⟨i, t, _, e⟩ | ⟨x, t, _, e⟩
      · exact .inl ⟨i, t, e⟩
      · exact .inr ⟨x, t, e⟩
    · exact ih v z
theorem leaf_cls {v : Value} (h : Leaf v) (n : Nat) : ofAClassStatement n v = pure false := by
  rcases h with ⟨i, t, rfl⟩ | ⟨x, t, rfl⟩ <;> cases n <;> rfl
theorem leaf_by {v : Value} (h : Leaf v) (n : Nat) : ∃ b, hashByValue n v = pure b := by
  rcases h with ⟨i, t, rfl⟩ | ⟨x, t, rfl⟩
  · exact ⟨true, by cases n <;> rfl⟩
  · exact ⟨false, by cases n <;> rfl⟩
theorem mt_cls {k : List Key} {b : Addr} {Q : Bool → Shared → Prop} (z : MT P w s.heap k b) (q : Q false s) : wpAny (model P w) A (ofAClassStatement 8 (.ref b)) Q E s := by
  have ty := z.typeIs
  obtain ⟨o, its, n, g, _, dt, it⟩ := z
  unfold ofAClassStatement
  refine wpAny_bind (wpAny_typeOf ty ?_)
  have e : (("tuple" : String) == "tuple") = true := by decide
  dsimp only
  simp only [e, if_true, Bool.not_true, Bool.false_eq_true, if_false]
  try refine wpAny_bind (wpAny_pure ?_)
  try simp only [if_false, Bool.not_true, Bool.false_eq_true]
  show wpAny _ _ (seqItems? (.ref b) >>= _) _ _ s
  refine wpAny_bind (wpAny_seqItems g dt ?_)
  dsimp only
  refine wpAny_bind ?_
  show wpAny _ _ (forIn its _ _) _ _ s
  rw [← Array.forIn_toList]
  refine wpAny_forIn_list _ (fun l r s' => r.1 = none ∧ s' = s ∧ ∀ v ∈ l, Leaf v) _ (fun v l r s' hI => ?_) (fun r s' hI => ?_) _ _ ⟨rfl, rfl, leaves it⟩
  · obtain ⟨e1, rfl, al⟩ := hI
    rw [leaf_cls (al v List.mem_cons_self)]
    refine wpAny_bind (wpAny_pure ?_)
    simp only [if_false, Bool.false_eq_true]
    exact wpAny_pure ⟨rfl, rfl, fun u hu => al u (List.mem_cons_of_mem _ hu)⟩
  · obtain ⟨r1, r2⟩ := r
    obtain ⟨e1, rfl, _⟩ := hI
    simp only at e1
    subst e1
    exact wpAny_pure q
theorem mt_by {k : List Key} {b : Addr} {Q : Bool → Shared → Prop} (z : MT P w s.heap k b) (q : ∀ c, Q c s) : wpAny (model P w) A (hashByValue 8 (.ref b)) Q E s := by
  have ty := z.typeIs
  obtain ⟨o, its, n, g, _, dt, it⟩ := z
  unfold hashByValue
  refine wpAny_bind (wpAny_specialOf ty F.slot_tuple_hash.lookup ?_)
  show wpAny _ _ (seqItems? (.ref b) >>= _) _ _ s
  refine wpAny_bind (wpAny_seqItems g dt ?_)
  refine wpAny_bind ?_
  show wpAny _ _ (forIn its _ _) _ _ s
  rw [← Array.forIn_toList]
  refine wpAny_forIn_list _ (fun l r s' => r.1 = none ∧ s' = s ∧ ∀ v ∈ l, Leaf v) _ (fun v l r s' hI => ?_) (fun r s' hI => ?_) _ _ ⟨rfl, rfl, leaves it⟩
  · obtain ⟨e1, rfl, al⟩ := hI
    obtain ⟨c, hc⟩ := leaf_by (al v List.mem_cons_self) 7
    rw [hc]
    refine wpAny_bind (wpAny_pure ?_)
    cases c with
    | true =>
      simp only [if_false, Bool.not_true, Bool.false_eq_true]
      exact wpAny_pure ⟨rfl, rfl, fun u hu => al u (List.mem_cons_of_mem _ hu)⟩
    | false =>
      simp only [if_true, Bool.not_false]
      exact wpAny_pure (wpAny_pure (q false))
  · obtain ⟨r1, r2⟩ := r
    obtain ⟨e1, rfl, _⟩ := hI
    simp only at e1
    subst e1
    exact wpAny_pure (q true)
theorem mt_unseen {k : List Key} {b : Addr} {Q : Bool → Shared → Prop} (z : MT P w s.heap k b) {ys : List Value} (al : ∀ y ∈ ys, ∃ k' c, y = Value.ref c ∧ MT P w s.heap k' c) (q : Q false s) : wpAny (model P w) A (searchCouldBeSeen (.ref b) ys) Q E s := by
  unfold searchCouldBeSeen
  refine wpAny_bind (wpAny_forIn_list _ (fun l r s' => r.1 = none ∧ s' = s ∧ ∀ y ∈ l, ∃ k' c, y = Value.ref c ∧ MT P w s.heap k' c) _ (fun v l r s' hI => ?_) (fun r s' hI => ?_) _ _ ⟨rfl, rfl, al⟩)
  · obtain ⟨e1, rfl, al'⟩ := hI
    obtain ⟨k', c, rfl, z'⟩ := al' v List.mem_cons_self
    have tl : ∀ y ∈ l, ∃ k' c, y = Value.ref c ∧ MT P w s'.heap k' c := fun u hu => al' u (List.mem_cons_of_mem _ hu)
    dsimp only
    by_cases very : (b == c || (carriedByValue (.ref b) && carriedByValue (.ref c))) = true
    · exact wp_if_pos very (wpAny_pure ⟨rfl, rfl, tl⟩)
    · refine wp_if_neg very (wpAny_bind (wpAny_eqIsQuiet_tuple z ?_))
      simp only [if_false, Bool.not_true, Bool.false_eq_true]
      refine wpAny_bind (wpAny_eqIsQuiet_tuple z' ?_)
      simp only [if_false, Bool.not_true, Bool.false_eq_true]
      refine wpAny_bind (mt_cls z ?_)
      simp only [if_false, Bool.false_eq_true]
      refine wpAny_bind (mt_cls z' ?_)
      simp only [if_false, Bool.false_eq_true]
      exact wpAny_pure ⟨rfl, rfl, tl⟩
  · obtain ⟨r1, r2⟩ := r
    obtain ⟨e1, rfl, _⟩ := hI
    simp only at e1
    subst e1
    exact wpAny_pure q

structure SR (P : Program) (w : World) (h : Heap) (a : Addr) (L : List Row) (es : Array (Int × Value)) (ep : Nat) (t : SetTable) : Prop where
  ob : ∃ o, h.get? a = some o ∧ o.ExactSet ∧ o.data = .set es ep t
  rw_ : es.toList = L.map (enc P w)
  tab : TabOk t (hs P w L)
  nd : (L.map (·.2)).Nodup
  led : w.params.followText "set-order" = true ∨ t.led = true
  room : L.length * 5 < t.mask * 3
  few : L.length < 64
def Tups (P : Program) (w : World) (h : Heap) (L : List Row) : Prop := ∀ p ∈ L, MT P w h p.2 p.1
variable {a : Addr} {L : List Row} {es : Array (Int × Value)} {ep : Nat} {t : SetTable}
theorem enc_len {L : List Row} {es : Array (Int × Value)} (h : es.toList = L.map (enc P w)) : es.size = L.length := by
  have z := congrArg List.length h
  simpa using z
theorem fits_of {n m : Nat} (h1 : t.place.size = n) (h2 : t.dummies = #[]) (h3 : n = m) (h4 : m ≤ t.mask) : t.fits m = true := by
  unfold SetTable.fits SetTable.fill
  rw [h2, Bool.and_eq_true, beq_iff_eq, decide_eq_true_eq]
  show t.place.size = m ∧ t.place.size + 0 ≤ t.mask
  omega
theorem SR.fits {h : Heap} (R : SR P w h a L es ep t) : t.fits es.size = true := by
  have z := R.tab.sz
  have y := R.room
  unfold hs at z
  rw [List.length_map] at z
  exact fits_of z R.tab.dm (enc_len R.rw_).symm (by rw [enc_len R.rw_]; omega)
theorem SR.at_ {h : Heap} (R : SR P w h a L es ep t) {i : Nat} {p : Row} (z : L[i]? = some p) : es[i]? = some (enc P w p) := by
  rw [← Array.getElem?_toList, R.rw_, List.getElem?_map, z] <;> rfl
theorem SR.odd {h : Heap} (R : SR P w h a L es ep t) : ¬ t.gaveWay = true := by
  unfold SetTable.gaveWay
  rw [mask_odd R.tab.mok]
  decide
abbrev st0 (m : Nat) (h : Int) : SetTable.Probe := runAt m (SetTable.bits h % (m + 1)) (SetTable.bits h)
theorem clean (m : Nat) : ∀ (n : Nat) (p : SetTable.Probe), p.dummy = none → (nth m p n).dummy = none
  | 0, _, z => z
  | n + 1, p, z => clean m n (adv m p) (by unfold adv; split <;> exact z)
theorem seek (R : SR P w s.heap a L es ep t) (tu : Tups P w s.heap L) {x : Addr} {k : List Key} (zx : MT P w s.heap k x) (hu : A.units < cLine) {N : Nat} (lim : N < 10 * SetTable.turns t.mask)
    (free : way t.mask (MH P w k) N ∉ t.place.toList) (full : ∀ c, c < N → way t.mask (MH P w k) c ∈ t.place.toList) {Q : SetFound → Shared → Prop}
    (yes : k ∈ L.map (·.2) → Q (.there none) s) (no : k ∉ L.map (·.2) → Q (.free (way t.mask (MH P w k) N) false) s) :
    ∀ (fu c : Nat) (sd : Option SetTable.Probe), sd.getD (t.probeStart (MH P w k)) = nth t.mask (st0 t.mask (MH P w k)) c → c ≤ N → N - c < fu →
      (∀ (i : Nat) (p : Row), L[i]? = some p → p.2 = k → ∃ c', c ≤ c' ∧ c' < N ∧ t.place.toList[i]? = some (way t.mask (MH P w k) c')) →
      wpAny (model P w) A (setSearchFrom a (.ref x) (MH P w k) true fu sd) Q E s := by
  intro fu
  induction fu with
  | zero => exact fun c sd _ _ z _ => absurd z (Nat.not_lt_zero _)
  | succ fu ih =>
    intro c sd esd cN lt ahead
    obtain ⟨o, go, ex, dt⟩ := R.ob
    have step : ∀ q, nth t.mask (nth t.mask (st0 t.mask (MH P w k)) c) q = nth t.mask (st0 t.mask (MH P w k)) (c + q) := fun q => (nth_add t.mask c _ q).symm
    have stepj : ∀ q, (nth t.mask (nth t.mask (st0 t.mask (MH P w k)) c) q).j = way t.mask (MH P w k) (c + q) := fun q => congrArg SetTable.Probe.j (step q)
    have hAt : ∀ (i : Nat) (p : Row), L[i]? = some p → (es[i]?.map (·.1)).getD 0 = MH P w p.2 := fun i p z => by
      rw [R.at_ z] <;> rfl
    have sp := go_spec t R.tab.ris R.tab.dm (fun i => (es[i]?.map (·.1)).getD 0) (MH P w k) (10 * SetTable.turns t.mask) (N - c) _ (clean t.mask c (st0 t.mask (MH P w k)) rfl) (by omega)
      (fun q hq => by rw [stepj]; exact full (c + q) (by omega)) (by rw [stepj, show c + (N - c) = N by omega]; exact free)
    rw [setSearchFrom_succ]
    refine wpAny_bind (wpAny_setState_of go dt R.fits (wp_if_neg R.odd ?_))
    try refine wpAny_bind (wpAny_pure ?_)
    rcases sp with ⟨q, i, hq, hi, _, passed, pr⟩ | ⟨passed, pr⟩
    · have pr' : t.probe (fun i => (es[i]?.map (·.1)).getD 0) (MH P w k) (sd.getD (t.probeStart (MH P w k))) = some (.candidate (way t.mask (MH P w k) (c + q)) i (nth t.mask (st0 t.mask (MH P w k)) (c + (q + 1)))) := by
        rw [esd, ← stepj, ← step]
        exact pr
      rw [pr']
      dsimp only
      rw [stepj] at hi
      have iL : i < L.length := by
        have y1 : i < t.place.toList.length := (List.getElem?_eq_some_iff.mp hi).1
        have y2 := R.tab.sz
        unfold hs at y2
        rw [List.length_map] at y2
        rw [Array.length_toList] at y1
        omega
      obtain ⟨p, gp⟩ : ∃ p, L[i]? = some p := ⟨L[i], List.getElem?_eq_getElem iL⟩
      have mp : p ∈ L := List.mem_of_getElem? gp
      have on : wpAny (model P w) A (searchRest a (.ref x) (MH P w k) true fu es t (way t.mask (MH P w k) (c + q)) i (nth t.mask (st0 t.mask (MH P w k)) (c + (q + 1)))) Q E s := by
        unfold searchRest
        rw [R.at_ gp]
        refine wpAny_bind (wpAny_holding (wpAny_eqBool_tuple hu (tu p mp) zx (wpAny_bind (wpAny_setState_of go dt R.fits ?_))))
        dsimp only
        by_cases same : p.2 = k
        · exact wp_if_pos (by simp [same]) (wpAny_pure (yes (List.mem_map.mpr ⟨p, mp, same⟩)))
        · refine wp_if_neg (by simp [same]) ?_
          try refine wpAny_bind (wpAny_pure ?_)
          have live : t.slot (way t.mask (MH P w k) (c + q)) = .live i := slot_live R.tab.ris hi
          rw [sameMem]
          dsimp only
          simp only [if_true, live, R.at_ gp]
          refine wpAny_bind (wpAny_isSame_ref_self (wpAny_bind (wpAny_pure ?_)))
          simp only [if_true]
          refine wp_if_neg (by simp [same]) (ih (c + (q + 1)) _ rfl (by omega) (by omega) fun i' p' g' k' => ?_)
          obtain ⟨c', b1, b2, b3⟩ := ahead i' p' g' k'
          refine ⟨c', ?_, b2, b3⟩
          rcases Nat.lt_trichotomy c' (c + q) with y | y | y
          · exact absurd ((hAt i' p' g').trans (congrArg (MH P w) k')) (passed (c' - c) i' (by omega) (by rw [stepj, show c + (c' - c) = c' by omega]; exact b3))
          · rw [y] at b3
            have sl := slot_live R.tab.ris b3
            rw [live] at sl
            injection sl with sl
            rw [← sl, gp] at g'
            exact absurd ((congrArg Prod.snd (Option.some.inj g')).trans k') same
          · omega
      by_cases ld : t.led = true
      · refine wp_if_neg (by simp [ld]) ?_
        try refine wpAny_bind (wpAny_pure ?_)
        exact on
      · refine wp_if_pos (by simp [ld]) (wpAny_bind (mt_unseen zx (fun y hy => ?_) ?_))
        · obtain ⟨e, me, rfl⟩ := List.mem_map.mp hy
          have me' : e ∈ es.toList := by
            have z : e ∈ es ∧ e.1 = MH P w k := by simpa using me
            simpa using z.1
          rw [R.rw_] at me'
          obtain ⟨p2, mp2, rfl⟩ := List.mem_map.mp me'
          exact ⟨p2.2, p2.1, rfl, tu p2 mp2⟩
        · refine wp_if_neg (by decide) ?_
          try refine wpAny_bind (wpAny_pure ?_)
          exact on
    · have pr' : t.probe (fun i => (es[i]?.map (·.1)).getD 0) (MH P w k) (sd.getD (t.probeStart (MH P w k))) = some (.empty (way t.mask (MH P w k) N) none) := by
        rw [esd, show way t.mask (MH P w k) N = (nth t.mask (nth t.mask (st0 t.mask (MH P w k)) c) (N - c)).j by rw [stepj, show c + (N - c) = N by omega]]
        exact pr
      rw [pr']
      dsimp only
      refine wpAny_pure (no fun hm => ?_)
      obtain ⟨p, mp, kp⟩ := List.mem_map.mp hm
      obtain ⟨i, il, gi⟩ := List.getElem_of_mem mp
      have g' : L[i]? = some p := by rw [List.getElem?_eq_getElem il, gi]
      obtain ⟨c', b1, b2, b3⟩ := ahead i p g' kp
      exact passed (c' - c) i (by omega) (by rw [stepj, show c + (c' - c) = c' by omega]; exact b3) ((hAt i p g').trans (congrArg (MH P w) kp))
theorem seek0 (R : SR P w s.heap a L es ep t) (tu : Tups P w s.heap L) {x : Addr} {k : List Key} (zx : MT P w s.heap k x) (hu : A.units < cLine) {Q : SetFound → Shared → Prop}
    (yes : k ∈ L.map (·.2) → Q (.there none) s)
    (no : ∀ N, k ∉ L.map (·.2) → way t.mask (MH P w k) N ∉ t.place.toList → (∀ c, c < N → way t.mask (MH P w k) c ∈ t.place.toList) → Q (.free (way t.mask (MH P w k) N) false) s) :
    wpAny (model P w) A (setSearch a (.ref x) (MH P w k) true) Q E s := by
  have y := R.room
  have len : (hs P w L).length = L.length := by unfold hs; rw [List.length_map]
  obtain ⟨N, lim, free, full⟩ := R.tab.first (by rw [len]; omega) (MH P w k)
  have small : 10 * SetTable.turns t.mask ≤ 1420 := by
    unfold SetTable.turns
    rcases R.tab.mok with e | e | e <;> omega
  refine seek R tu zx hu lim free full yes (fun z => no N z free full) 100000 0 none rfl (Nat.zero_le _) (by omega) fun i p gp kp => ?_
  have gi : (hs P w L)[i]? = some (MH P w k) := by
    unfold hs
    rw [List.getElem?_map, gp, ← kp] <;> rfl
  have ip : i < t.place.toList.length := by
    have y1 := (List.getElem?_eq_some_iff.mp gp).1
    have y2 := R.tab.sz
    rw [len] at y2
    rw [Array.length_toList]
    omega
  have gj := List.getElem?_eq_getElem ip
  obtain ⟨c, b1, b2⟩ := R.tab.before free gi gj
  exact ⟨c, Nat.zero_le _, b1, by rw [gj, b2]⟩
end
end MS

set_option maxRecDepth 100000
set_option maxHeartbeats 4000000
namespace MS
open PySem PySem.Spec PyProof.Rows L2
theorem range_all {α : Type} (L : List α) : ∀ n, n ≤ L.length → (List.range n).filterMap (fun i => L[i]?) = L.take n
  | 0, _ => rfl
  | n + 1, z => by
    have y : n < L.length := z
    rw [List.range_succ, List.filterMap_append, range_all L n (Nat.le_of_lt y), List.take_succ, List.getElem?_eq_getElem y]
    rw [List.filterMap_cons_some (List.getElem?_eq_getElem y)] <;> rfl
section
variable {P : Program} {w : World} {A : Around} {E : Value → Shared → Prop} {s : Shared}
variable {a : Addr} {L : List Row} {es : Array (Int × Value)} {ep : Nat} {t : SetTable}
theorem reorder {L : List Row} {es : Array (Int × Value)} (e : es.toList = L.map (enc P w)) {ord : Array Nat} (pm : ord.toList.Perm (List.range L.length)) :
    ∃ L2 : List Row, (ord.filterMap (es[·]?)).toList = L2.map (enc P w) ∧ L2.Perm L ∧ hs P w L2 = ord.toList.map fun i => (es.map (·.1)).getD i 0 := by
  have ent : ∀ i, es[i]? = (L[i]?).map (enc P w) := fun i => by rw [← Array.getElem?_toList, e, List.getElem?_map]
  refine ⟨ord.toList.filterMap (fun i => L[i]?), ?_, ?_, ?_⟩
  · have z : (ord.filterMap (es[·]?)).toList = ord.toList.filterMap (fun i => es[i]?) := by first | rw [Array.toList_filterMap] | simp
    rw [z, List.map_filterMap]
    exact congrArg (fun f => ord.toList.filterMap f) (funext ent)
  · have z := pm.filterMap (fun i => L[i]?)
    rw [range_all L L.length (Nat.le_refl _), List.take_length] at z
    exact z
  · have key : ∀ l : List Nat, (∀ i ∈ l, i < L.length) → hs P w (l.filterMap fun i => L[i]?) = l.map fun i => (es.map (·.1)).getD i 0 := by
      intro l
      induction l with
      | nil => exact fun _ => rfl
      | cons i l ih =>
        intro z
        have il := z i List.mem_cons_self
        rw [List.filterMap_cons_some (List.getElem?_eq_getElem il), List.map_cons, ← ih fun j hj => z j (List.mem_cons_of_mem _ hj)]
        have y : (es.map (·.1))[i]? = some (MH P w (L[i]).2) := by
          rw [Array.getElem?_map, ent i, List.getElem?_eq_getElem il] <;> rfl
        have y2 : (es.map (·.1)).getD i 0 = MH P w (L[i]).2 := by simp [Array.getD_eq_getD_getElem?, y]
        rw [y2]
        rfl
    exact key _ fun i hi => List.mem_range.mp (pm.mem_iff.mp hi)
theorem relay {o : Obj} (go : s.heap.get? a = some o) (ex : o.ExactSet) (dt : o.data = .set es ep t) (er : es.toList = L.map (enc P w)) (sz : t.place.size = es.size) (dm : t.dummies = #[]) (fl : es.size ≤ t.mask)
    (nd : (L.map (·.2)).Nodup) (ld : w.params.followText "set-order" = true ∨ t.led = true) (few : L.length < 64) {wd M : Nat} (hw : SetTable.sizeAbove wd - 1 = M) (hM : MaskOk M) (big : SetTable.sizeAbove wd ≤ 128) (rm : L.length * 5 < M * 3) {Q : Unit → Shared → Prop}
    (q : ∀ h' L' es' ep' t', Heap.SameBut a s.heap h' → SR P w h' a L' es' ep' t' → L'.Perm L → Q () { s with heap := h' }) : wpAny (model P w) A (setRelay a wd) Q E s := by
  have el := enc_len er
  obtain ⟨t', ord, e1, pm, tb, em, eld, _, _⟩ := relaid_ok t (hs := es.map (·.1)) (wanted := wd) hw hM (by rw [Array.size_map, el]; omega)
  rw [Array.size_map, el] at pm
  obtain ⟨L2, r1, r2, r3⟩ := reorder er pm
  rw [← r3] at tb
  have s2 : (ord.filterMap (es[·]?)).size = es.size := by rw [enc_len r1, r2.length_eq, el]
  rw [setRelay_eq]
  refine wpAny_bind (wpAny_setState_of go dt (fits_of sz dm rfl fl) (wp_if_neg (by rw [sizeLine_eq]; omega) ?_))
  try refine wpAny_bind (wpAny_pure ?_)
  rw [e1]
  refine wpAny_bind (wp_if_neg (by rw [s2]; simp) ?_)
  try refine wpAny_bind (wpAny_pure ?_)
  refine wpAny_pure (wpAny_storeSet_of go dt ?_ (by rw [s2, el, sizeLine_eq]; omega))
  refine q _ L2 (ord.filterMap (es[·]?)) (ep + 1) t' (Heap.SameBut.update ..) ⟨⟨_, store_at go dt, ⟨ex.1, ex.2.1, ex.2.2⟩, rfl⟩, r1, tb, (r2.map (·.2)).nodup_iff.mpr nd, by rw [eld]; exact ld, by rw [r2.length_eq, em]; exact rm, by rw [r2.length_eq]; exact few⟩ r2
theorem tab_plain {t : SetTable} {l : List Int} (h : TabOk t l) (b : Bool) : TabOk (if b = true then t else { t with plain := false }) l := by
  cases b with
  | true => exact h
  | false => exact ⟨h.ris, h.dm, h.sz, h.mok, h.bd, h.reach⟩
theorem add (R : SR P w s.heap a L es ep t) (tu : Tups P w s.heap L) {x : Addr} {k : List Key} (zx : MT P w s.heap k x) (hu : A.units < cLine) (few : L.length + 1 < 64) {Q : Bool → Shared → Prop}
    (q : ∀ b h' L' es' ep' t', Heap.SameBut a s.heap h' → SR P w h' a L' es' ep' t' → (k ∈ L.map (·.2) → L' = L) → (k ∉ L.map (·.2) → L'.Perm ((x, k) :: L)) → Q b { s with heap := h' }) :
    wpAny (model P w) A (setAddHashed a (.ref x) (MH P w k)) Q E s := by
  obtain ⟨o, go, ex, dt⟩ := R.ob
  have el := enc_len R.rw_
  have rm := R.room
  have hl : (hs P w L).length = L.length := by unfold hs; rw [List.length_map]
  unfold setAddHashed
  refine wpAny_holding ?_
  rw [show (100000 : Nat) = 99999 + 1 from rfl, setAddHashedIn_succ]
  refine wpAny_bind (wpAny_setState_of go dt R.fits (wp_if_neg (by simp [byScan, Value.scannable]) ?_))
  try refine wpAny_bind (wpAny_pure ?_)
  refine wpAny_bind (seek0 R tu zx hu (fun z => ?_) fun N nz free full => ?_)
  · exact wpAny_pure (q false s.heap L es ep t (Heap.SameBut.refl a s.heap) R (fun _ => rfl) fun y => absurd z y)
  · dsimp only
    refine wpAny_bind (wpAny_setState_of go dt R.fits ?_)
    dsimp only
    obtain ⟨f1, f2, f3, f4, f5, _, _, _, f9⟩ := R.tab.put free full
    generalize hpt : t.put (way t.mask (MH P w k) N) = pt at f1 f3 f4 f5 f9 ⊢
    obtain ⟨t1, j⟩ := pt
    dsimp only at f1 f3 f4 f5 f9 ⊢
    subst f1
    generalize hj : SetTable.below t.place (way t.mask (MH P w k) N) = j at f2 f3 ⊢
    -- the rows, with the new one
    have pm : (L.take j ++ (x, k) :: L.drop j).Perm ((x, k) :: L) := by
      have z : (L.take j ++ (x, k) :: L.drop j).Perm ((x, k) :: (L.take j ++ L.drop j)) := List.perm_middle
      rw [List.take_append_drop] at z
      exact z
    have er : (SetTable.insertAt es j (MH P w k, Value.ref x)).toList = (L.take j ++ (x, k) :: L.drop j).map (enc P w) := by
      rw [SetTable.toList_insertAt, R.rw_, List.map_append, List.map_cons, List.map_take, List.map_drop] <;> rfl
    have eh : (hs P w L).take j ++ MH P w k :: (hs P w L).drop j = hs P w (L.take j ++ (x, k) :: L.drop j) := by
      unfold hs
      rw [List.map_append, List.map_cons, List.map_take, List.map_drop]
    rw [eh] at f3
    have nd1 : ((L.take j ++ (x, k) :: L.drop j).map (·.2)).Nodup := (pm.map (·.2)).nodup_iff.mpr (List.nodup_cons.mpr ⟨nz, R.nd⟩)
    have len1 := pm.length_eq
    rw [List.length_cons] at len1
    have ez := enc_len er
    generalize SetTable.insertAt es j (MH P w k, Value.ref x) = es1 at er ez ⊢
    generalize L.take j ++ (x, k) :: L.drop j = L1 at pm er f3 nd1 len1 ez
    -- whatever the hash hangs on
    have rest : ∀ c : Bool, wpAny (model P w) A (do
        let t := if c = true then t1 else { t1 with plain := false }
        storeSet a es1 t
        if !false && t.tooFull then setRelay a (SetTable.grown (es.size + 1))
        return true) Q E s := fun c => by
      have tb := tab_plain f3 c
      have m2 : (if c = true then t1 else { t1 with plain := false }).mask = t.mask := by cases c <;> exact f4
      have l2 : (if c = true then t1 else { t1 with plain := false }).led = t.led := by cases c <;> exact f5
      have i2 : (if c = true then t1 else { t1 with plain := false }).fill = L.length + 1 := by
        rw [hl] at f9
        cases c <;> exact f9
      generalize (if c = true then t1 else { t1 with plain := false } : SetTable) = t2 at tb m2 l2 i2 ⊢
      dsimp only
      refine wpAny_bind (wpAny_storeSet_of go dt ?_ (by rw [ez, sizeLine_eq]; omega))
      have sb : Heap.SameBut a s.heap (s.heap.update a (Obj.putSet es1 t2)) := Heap.SameBut.update ..
      have go1 := store_at (es' := es1) (t' := t2) go dt
      generalize s.heap.update a (Obj.putSet es1 t2) = h1 at sb go1 ⊢
      have ld : w.params.followText "set-order" = true ∨ t2.led = true := by rw [l2]; exact R.led
      have pz : t2.place.size = es1.size := by
        have z := tb.sz
        unfold hs at z
        rw [List.length_map] at z
        rw [z, ez]
      have tf : t2.tooFull = decide ((L.length + 1) * 5 ≥ t.mask * 3) := by
        unfold SetTable.tooFull
        rw [i2, m2]
      by_cases full2 : (L.length + 1) * 5 ≥ t.mask * 3
      · have two : (t.mask = 7 ∧ L.length = 4) ∨ (t.mask = 31 ∧ L.length = 18) := by
          rcases R.tab.mok with e | e | e
          · exact .inl ⟨e, by omega⟩
          · exact .inr ⟨e, by omega⟩
          · omega
        have run : ∀ M, SetTable.sizeAbove (SetTable.grown (es.size + 1)) - 1 = M → MaskOk M → SetTable.sizeAbove (SetTable.grown (es.size + 1)) ≤ 128 → L1.length * 5 < M * 3 →
            wpAny (model P w) A (setRelay a (SetTable.grown (es.size + 1))) (fun _ s' => wpAny (model P w) A (pure true) Q E s') E { s with heap := h1 } := fun M y1 y2 y3 y4 =>
          relay (s := { s with heap := h1 }) go1 ⟨ex.1, ex.2.1, ex.2.2⟩ rfl er pz tb.dm (by rw [ez, m2]; omega) nd1 ld (by omega) y1 y2 y3 y4 fun h2 L2 es2 ep2 t3 sb2 R2 pm2 =>
            wpAny_pure (q true h2 L2 es2 ep2 t3 (sb.trans sb2) R2 (fun z => absurd z nz) fun _ => pm2.trans pm)
        have big : (!false && t2.tooFull) = true := by rw [tf, decide_eq_true full2]; rfl
        first
          | refine wpAny_bind (wp_if_pos big ?_)
          | (refine wp_if_pos big ?_; refine wpAny_bind ?_)
        rcases two with ⟨e1, e2⟩ | ⟨e1, e2⟩
        · exact run 31 (by rw [el, e2, size_20]) (.inr (.inl rfl)) (by rw [el, e2, size_20]; decide) (by omega)
        · exact run 127 (by rw [el, e2, size_76]) (.inr (.inr rfl)) (by rw [el, e2, size_76]; decide) (by omega)
      · have sm : ¬ (!false && t2.tooFull) = true := by rw [tf, decide_eq_false full2]; decide
        first
          | refine wp_if_neg sm ?_
          | (refine wpAny_bind ?_; refine wp_if_neg sm ?_; refine wpAny_pure ?_)
        exact wpAny_pure (q true h1 L1 es1 (ep + 1) t2 sb ⟨⟨_, go1, ⟨ex.1, ex.2.1, ex.2.2⟩, rfl⟩, er, tb, nd1, ld, by rw [m2]; omega, by omega⟩ (fun z => absurd z nz) fun _ => pm)
    by_cases pl : t1.plain = true
    · first
        | (refine wpAny_bind ?_; refine wp_if_pos pl ?_; exact mt_by zx fun c => rest c)
        | exact wp_if_pos pl (wpAny_bind (mt_by zx fun c => rest c))
    · first
        | (refine wpAny_bind ?_; refine wp_if_neg pl ?_; exact wpAny_pure (rest true))
        | exact wp_if_neg pl (rest true)
        | exact wp_if_neg pl (wpAny_bind (wpAny_pure (rest true)))
abbrev newO (w : World) : Obj := { cls := .type "set", dict := none, data := .set #[] 0 (.fresh 0 0 (!w.params.followText "set-order")) }
structure Of (ks : List Row) (L : List Row) : Prop where
  sub : ∀ p ∈ L, p ∈ ks
  all : ∀ p ∈ ks, p.2 ∈ L.map (·.2)
  len : L.length ≤ ks.length
theorem Of.nil : Of [] [] := ⟨(fun p z => nomatch z), (fun p z => nomatch z), Nat.le_refl _⟩
end
end MS

set_option maxRecDepth 100000
set_option maxHeartbeats 4000000
namespace MS
open PySem PySem.Spec PyProof.Rows L2
section
variable {P : Program} {w : World} {A : Around} {E : Value → Shared → Prop} {s : Shared}
def Keeps (h h' : Heap) : Prop := ∀ b o, h.get? b = some o → h'.get? b = some o
end
end MS

set_option maxRecDepth 100000
set_option maxHeartbeats 4000000
namespace MS
open PySem PySem.Spec PyProof.Rows L2
open PyProof.Rows.G (sh1 tupKindC tupKeyC tupKeyC_of list_sort_tups)
def D3 (k : List Key) : Prop := ∃ (n : Int) (x : PySem.Str) (l : Int), k = [.inl n, .inr x, .inl l]
def code (k : List Key) : List (Int ⊕ List Nat) := k.map fun | .inl i => .inl i | .inr x => .inr x.cps.toList
def dlt (a b : List Key) : Bool := lexLt itemOrd (code a) (code b)
section
variable {P : Program} {w : World} {A : Around} {E : Value → Shared → Prop} {s : Shared}
variable {a : Addr} {L : List Row} {es : Array (Int × Value)} {ep : Nat} {t : SetTable}
end

def MSO (P : Program) (w : World) (a : Addr) (L : List Row) : HO := .ext fun h => ∃ es ep t, SR P w h a L es ep t
def Dots (K : PySem.W.Frag) (H : Hp) (ps : List Row) : Prop := ∀ p ∈ ps, SqT K H p.1 (p.2.map kV)
section
variable {X : Cx}
def rSetM (K : PySem.W.Frag) (P : Program) (w : World) : List V → Hp → VK → Prop := fun xs H Q => ∃ (l : Addr) (ks : List Row), xs = [V.ref l] ∧ (SqL K H l (ks.map fun p => V.ref p.1) ∨ SqT K H l (ks.map fun p => V.ref p.1)) ∧ Dots K H ks ∧ ks.length < 64 ∧
  ∀ a L, H a = none → Of ks L → Q (.ref a) (upd H a (MSO P w a L))
def rSortM (K : PySem.W.Frag) (P : Program) (w : World) : List V → Hp → VK → Prop := fun vs H Q => ∃ (a : Addr) (L : List Row), vs = [V.ref a] ∧ H a = some (MSO P w a L) ∧ Dots K H L ∧ (∀ p ∈ L, D3 p.2) ∧
  ∀ (L' : List Row) (p : Addr), L'.Perm L → (L'.map (·.2)).Nodup → L'.length < 64 → L'.Pairwise (fun x y => dlt y.2 x.2 = false) → H p = none → Q (.ref p) (upd H p (.lst (L'.map fun q => V.ref q.1)))
end
end MS

set_option maxRecDepth 100000
set_option maxHeartbeats 4000000
namespace MS
open PySem PySem.Spec PyProof.Rows L2

section
variable {P : Program} {w : World} {A : Around} {E : Value → Shared → Prop} {s : Shared} {a : Addr} {L : List Row} {es : Array (Int × Value)} {ep : Nat} {t : SetTable}
end
section
variable {X : Cx}
end

section
variable {prog : Program} {w : World} {A : Around} {R : Result → Shared → Prop} {s : Shared} {e x0 y0 x1 y1 : Expr} {sc : Scope} {pos : Pos} {it acc : Value} {env : Env}
abbrev SC (e x0 y0 x1 y1 : Expr) (sc : Scope) (pos : Pos) : Expr := .SetComp e [⟨x0, y0, [], 0⟩, ⟨x1, y1, [], 0⟩] sc pos
abbrev NB (M : Model) (A : Around) (env : Env) (R : Result → Shared → Prop) : Value → Shared → Prop := notedBy M A env fun e s' => R (.error e) s'
end
end MS

set_option maxRecDepth 100000
set_option maxHeartbeats 4000000
namespace MS
open PySem PySem.Spec PyProof.Rows L2

section
variable {Y : Cx} {pl : List (Addr × Obj)} {tg : Expr} {J : It} {fp : List Addr} {it : Addr} {tn : Nat → Heap → Prop}
def Stand (Y : Cx) (pl : List (Addr × Obj)) (tn : Nat → Heap → Prop) (fp : List Addr) (i : Nat) (ρ : L2.St) (G : Hp) (z : Shared) : Prop := Inv Y pl ρ G z ∧ tn i z.heap ∧ ∀ b ∈ fp, G b = none
end

section
variable {X : Cx}
def tSc2 (K : PySem.W.Frag) (P : Program) (w : World) (wi : TI) (g : TG) (wi1 : TI) (g1 : TG) (te : TE) (vs vs1 : List Nat) : TE := fun σ H Q => wi σ H fun J H1 => ∀ D, H1 D = none → ∃ W : Nat → Nat → Hp → Prop, (∃ m, W 0 m (upd H1 D (MSO P w D []))) ∧
  ∀ i m H, W i m H → (J.stop i H ∧ Q (.ref D) H) ∨ (J.go i H ∧ ∃ Nx : Hp → Prop, (∀ H', Nx H' → ∃ m', m' < m ∧ W (i + 1) m' H') ∧ ∀ x H', J.yld i H x H' → g x (wipe σ vs) H' fun σ2 H2 => wipe σ2 vs = wipe σ vs ∧
    wi1 σ2 H2 fun J1 H4 => ∃ W1 : Nat → Nat → Hp → Prop, (∃ m, W1 0 m H4) ∧ ∀ j k H, W1 j k H → (J1.stop j H ∧ Nx H) ∨ (J1.go j H ∧ ∃ Nx1 : Hp → Prop, (∀ H', Nx1 H' → ∃ k', k' < k ∧ W1 (j + 1) k' H') ∧ ∀ x H', J1.yld j H x H' →
      g1 x (wipe σ2 vs1) H' fun σ3 H5 => wipe σ3 vs1 = wipe σ2 vs1 ∧ te σ3 H5 fun y H7 => ∃ (a : Addr) (k : List Key) (L : List Row), y = .ref a ∧ SqT K H7 a (k.map kV) ∧ H7 D = some (MSO P w D L) ∧ Dots K H7 L ∧ L.length + 1 < 64 ∧
        ∀ L', (k ∈ L.map (·.2) → L' = L) → (k ∉ L.map (·.2) → L'.Perm ((a, k) :: L)) → Nx1 (upd H7 D (MSO P w D L'))))
end
end MS

set_option maxRecDepth 100000
set_option maxHeartbeats 4000000
namespace L2
open PySem PySem.Spec PyProof.Rows
def RunAt (P : Program) (w : World) (K : PySem.W.Frag) (mg : Str → Option Value) (base : Heap) (CX : CXT) (A : Around) (f : Addr) (fd : FuncData) (ps : List Str) (sp : Sp) : Prop :=
  ∀ (outer : List Env) (s : Shared) (H : Hp) (args : Args) (us : List Value) (vs : List V) (Q : VK) (E : XK), Env0 P w K mg base A outer s H → BindsTo s fd args (ps.zip us) → Vals vs us → sp vs H Q E → codeAny (model P w) A (.call (.ref f) args) (CR CX outer P w H s Q E) s
theorem run_at {CX : CXT} {P : Program} {w : World} {K : PySem.W.Frag} {mg : Str → Option Value} {base : Heap} {k : Nat} {f : Addr} {name qual : Str} {params : Arguments} {body : List Stmt} {sc : Scope} {dV kV doc pm cdv ct oc : Value} {an od : Option Addr}
    {osl : Array (Option Value)} {N ps : List Str} {sp : Sp} {A : Around} (lk : K.lookup f = some ⟨oc, od, .func (PySem.W.fnOf name qual params body sc dV kV doc pm an cdv ct), osl⟩) (hcd : PySem.W.codeIn K cdv qual = true) (S : FnScope N ps sc)
    (len : ∀ vs H Q E, sp vs H Q E → vs.length = ps.length) (hr : Room (k + 1) A)
    (bd : ∀ (outer : List Env) (s : Shared) (H : Hp) (vs : List V) (Q : VK) (E : XK), sp vs H Q E → ∃ t, PSs (cxOf CX P w K mg base N qual sc f cdv A outer s H E) body t ∧ t { nx := fun _ H' => Q .non H', rt := Q } (start N vs) H) :
    RunAt P w K mg base CX A f (PySem.W.fnOf name qual params body sc dV kV doc pm an cdv ct) ps sp := by
  intro outer s H args us vs Q E e0 hb r hsp
  have l0 := len _ _ _ _ hsp
  have kx : K.In s.heap := e0.mod.kin.keeps fun b o z => (e0.bs b o z).1
  have nl : s.heap.NoLimit := e0.mod.nolimit.keeps fun b o z => (e0.bs b o z).1
  have kd : ∀ y ∈ ps.zip us, sc.names.lookup y.1 = some .local ∨ (sc.names.lookup y.1 = some .cell ∧ ((cellsFrom (s.heap.objs.size + 1) sc.names []).lookup y.1).isSome = true) := fun ⟨n, v⟩ hy => by
    rcases S.par n (List.of_mem_zip hy).1 with z | z
    · exact .inl z
    · exact .inr ⟨z, PySem.W.cellsFrom_some _ _ _ (.inl z)⟩
  refine codeAny_call_function hr.depth (kx _ _ lk) rfl S.co S.gen rfl (PySem.W.codeRec_of kx hcd) (hb _ _ _ _ ?_)
  refine wpAny_newFunctionEnv_cells S.kind kd fun env he s1 x => ?_
  subst he
  refine ⟨nl.keeps x.toInCall.keep, codeAny_func ?_⟩
  obtain ⟨t, ht, hq⟩ := bd outer s H vs Q E hsp
  have J : Inv (cxOf CX P w K mg base N qual sc f cdv A outer s H E) [] (start N vs) H s1 := inv_start S hr.hd e0 l0 r x
  refine wpAny_mono (ht.run [] s1 (start N vs) H _ J hq) (fun fl s' hs => ?_) fun e s' hs => hs
  cases fl with
  | ret u =>
    obtain ⟨v, σ', H', J, rv, q⟩ := hs
    exact ⟨v, H', J.os, J.bare, J.base, J.hok, rv, q⟩
  | next =>
    obtain ⟨σ', H', J, q⟩ := hs
    exact ⟨V.non, H', J.os, J.bare, J.base, J.hok, rfl, q⟩
  | brk =>
    obtain ⟨_, _, _, q⟩ := hs
    exact False.elim q
  | cont =>
    obtain ⟨_, _, _, q⟩ := hs
    exact False.elim q
theorem Fun.at {P : Program} {w : World} {K : PySem.W.Frag} {mg : Str → Option Value} {base : Heap} {x qual : Str} {st : Stmt} {f : Addr} {fd : FuncData} {N ps : List Str} {k : Nat} {sp : Sp} {A : Around} (F : Fun K x qual st f fd) (S : FnScope N ps (defScope st)) (len : ∀ vs H Q E, sp vs H Q E → vs.length = ps.length) (hr : Room (k + 1) A)
    (bd : ∀ (cdv : Value) (outer : List Env) (s : Shared) (H : Hp) (vs : List V) (Q : VK) (E : XK), sp vs H Q E →
      ∃ t, PSs (cxOf CX0 P w K mg base N qual (defScope st) f cdv A outer s H E).nox (defBody st) t ∧ t { nx := fun _ H' => Q .non H', rt := Q } (start N vs) H) : RunAt P w K mg base CX0 A f fd ps sp := by
  obtain ⟨oc, od, kV, doc, pm, an, cdv, ct, osl, rfl, lk, hcd⟩ := F.ex
  refine run_at lk hcd S len hr fun outer s H vs Q E hsp => ?_
  obtain ⟨t, h, q⟩ := bd cdv outer s H vs Q E hsp
  exact ⟨t, h.nox, q⟩
section
variable {X : Cx} {pins : List (Addr × Obj)} {σ : St} {H : Hp} {s : Shared}
end
end L2
namespace MS
open PySem PySem.Spec PyProof.Rows L2
section
variable {X : Cx}

def rRepD (K : PySem.W.Frag) : List V → Hp → VK → Prop := fun xs H Q => ∃ (a : Addr) (d : PyData), xs = [.ref a] ∧ Dp K H (.ref a) d ∧ d.showable = true ∧ d.shown.length ≤ sizeLine ∧ d.depth ≤ 40 ∧ Q (.str d.shown) H

def rLtD (K : PySem.W.Frag) : R2 := fun x y H Q => ∃ (a b : Addr) (k l : List Key), x = .ref a ∧ y = .ref b ∧ D3 k ∧ D3 l ∧ SqT K H a (k.map kV) ∧ SqT K H b (l.map kV) ∧ Q (.bl (dlt k l)) H

def rNeNil (K : PySem.W.Frag) : R2 := fun x y H Q => ∃ (a b : Addr) (xs : List V), x = .ref a ∧ y = .ref b ∧ SqL K H a xs ∧ SqL K H b [] ∧ Q (.bl (!xs.isEmpty)) H
end
end MS
namespace MS
open PySem PySem.Spec PyProof.Rows L2

section
variable {prog : Program} {w : World} {A : Around} {E : Value → Shared → Prop} {s : Shared}
end
section
variable {X : Cx}
def tRevT (K : PySem.W.Frag) (te : TE) : TE := fun σ H Q => te σ H fun x H1 => ∃ a xs, x = .ref a ∧ SqT K H1 a xs ∧ ∀ p, H1 p = none → Q (.ref p) (upd H1 p (.tup xs.reverse))
end
end MS

set_option maxRecDepth 100000
set_option maxHeartbeats 4000000
namespace K01
open PySem PySem.Spec PyProof.Rows L2 MS
abbrev DK := List Key

theorem dlt_irr (a : DK) : dlt a a = false := lex_irrefl _
def Asc (ks : List DK) : Prop := ks.Pairwise fun a b => dlt a b = true
def ascB (ks : List DK) : Bool := (List.zipWith dlt ks (ks.drop 1)).all id
theorem asc_nodup {ks : List DK} (h : Asc ks) : ks.Nodup := by
  refine List.Pairwise.imp (fun {a b} z e => ?_) h
  subst e
  rw [dlt_irr] at z
  cases z

def kD : Key → PyData
  | .inl n => .int n
  | .inr x => .str x
def dD (k : DK) : PyData := .tuple (k.map kD)
def TupOf (K : PySem.W.Frag) (H : Hp) (p : Addr) (ks : List DK) : Prop := ∃ L : List MS.Row, SqT K H p (L.map fun q => V.ref q.1) ∧ Dots K H L ∧ L.map (·.2) = ks
theorem dp_keys {K : PySem.W.Frag} {H : Hp} : ∀ k : DK, DpAll K H (k.map kV) (k.map kD)
  | [] => .nil
  | .inl n :: k => .cons (.int n) (dp_keys k)
  | .inr x :: k => .cons (.str x) (dp_keys k)
theorem dp_dot {K : PySem.W.Frag} {H : Hp} {a : Addr} {k : DK} (h : SqT K H a (k.map kV)) : Dp K H (.ref a) (dD k) := .tup h (dp_keys k)
theorem dp_dots {K : PySem.W.Frag} {H : Hp} : ∀ {L : List MS.Row}, Dots K H L → DpAll K H (L.map fun q => V.ref q.1) ((L.map (·.2)).map dD)
  | [], _ => .nil
  | p :: L, h => .cons (dp_dot (h p List.mem_cons_self)) (dp_dots fun q hq => h q (List.mem_cons_of_mem _ hq))
theorem TupOf.dp {K : PySem.W.Frag} {H : Hp} {p : Addr} {ks : List DK} (h : TupOf K H p ks) : Dp K H (.ref p) (.tuple (ks.map dD)) := by
  obtain ⟨L, h1, h2, rfl⟩ := h
  exact .tup h1 (dp_dots h2)
theorem same_sqT {K : PySem.W.Frag} {H H' : Hp} {a : Addr} {xs : List V} (s : Same H H') (h : SqT K H a xs) : SqT K H' a xs := by
  rcases h with (h | ⟨o, h⟩) | h
  · exact .inl (.inl (s _ _ h))
  · exact .inl (.inr ⟨o, s _ _ h⟩)
  · exact .inr h
theorem dots_same {K : PySem.W.Frag} {H H' : Hp} {L : List MS.Row} (s : Same H H') (h : Dots K H L) : Dots K H' L := fun p hp => same_sqT s (h p hp)
theorem TupOf.same {K : PySem.W.Frag} {H H' : Hp} {p : Addr} {ks : List DK} (s : Same H H') (h : TupOf K H p ks) : TupOf K H' p ks := by
  obtain ⟨L, h1, h2, h3⟩ := h
  exact ⟨L, same_sqT s h1, dots_same s h2, h3⟩
def Ext (p : Addr) (H H' : Hp) : Prop := ∀ b o, b ≠ p → H b = some o → H' b = some o
theorem Ext.refl {p : Addr} {H : Hp} : Ext p H H := fun _ _ _ h => h
theorem Ext.trans {p : Addr} {H H' H'' : Hp} (a : Ext p H H') (b : Ext p H' H'') : Ext p H H'' := fun c o n h => b c o n (a c o n h)
theorem Ext.of {p : Addr} {H H' : Hp} (s : Same H H') : Ext p H H' := fun b o _ h => s b o h
theorem Ext.put {p : Addr} {H : Hp} {o : HO} : Ext p H (upd H p o) := fun b u n h => by
  rw [upd_ne n]
  exact h
theorem Ext.sqT {K : PySem.W.Frag} {H H' : Hp} {p a : Addr} {xs ys : List V} (e : Ext p H H') (hp : H p = some (.lst ys)) (h : SqT K H a xs) : SqT K H' a xs := by
  rcases h with (h | ⟨o, h⟩) | h
  · exact .inl (.inl (e _ _ (fun z => by subst z; rw [hp] at h; cases h) h))
  · exact .inl (.inr ⟨o, e _ _ (fun z => by subst z; rw [hp] at h; cases h) h⟩)
  · exact .inr h
theorem Ext.dots {K : PySem.W.Frag} {H H' : Hp} {p : Addr} {L : List MS.Row} {ys : List V} (e : Ext p H H') (hp : H p = some (.lst ys)) (h : Dots K H L) : Dots K H' L := fun q hq => e.sqT hp (h q hq)
theorem Ext.tupOf {K : PySem.W.Frag} {H H' : Hp} {p a : Addr} {ks : List DK} {ys : List V} (e : Ext p H H') (hp : H p = some (.lst ys)) (h : TupOf K H a ks) : TupOf K H' a ks := by
  obtain ⟨L, h1, h2, h3⟩ := h
  exact ⟨L, e.sqT hp h1, e.dots hp h2, h3⟩

mutual
def short : PyData → Bool
  | .str x => decide (x.length ≤ 1000)
  | .list ds => shortAll ds
  | .tuple ds => shortAll ds
  | _ => true
def shortAll : List PyData → Bool
  | [] => true
  | d :: ds => short d && shortAll ds
end
def Rd (K : PySem.W.Frag) (H : Hp) (v : V) (d : PyData) : Prop := short d = true ∧ (Dp K H v d ∨ ∃ p, v = .ref p ∧ H p = some (.dK []) ∧ d = .dict [])
mutual
theorem dp_same {K : PySem.W.Frag} {H H' : Hp} (s : Same H H') : ∀ (d : PyData) (v : V), Dp K H v d → Dp K H' v d
  | .none, _, h => by cases h; exact .non
  | .bool b, _, h => by cases h; exact .bl b
  | .int i, _, h => by cases h; exact .int i
  | .str x, _, h => by cases h; exact .str x
  | .list ds, _, h => by
    cases h with
    | lst h1 h2 => exact .lst (s.seq h1) (dpAll_same s ds _ h2)
  | .tuple ds, _, h => by
    cases h with
    | tup h1 h2 => exact .tup (same_sqT s h1) (dpAll_same s ds _ h2)
  | .dict _, _, h => by cases h
theorem dpAll_same {K : PySem.W.Frag} {H H' : Hp} (s : Same H H') : ∀ (ds : List PyData) (vs : List V), DpAll K H vs ds → DpAll K H' vs ds
  | [], _, h => by cases h; exact .nil
  | d :: ds, _, h => by
    cases h with
    | cons h1 h2 => exact .cons (dp_same s d _ h1) (dpAll_same s ds _ h2)
end
theorem Rd.same {K : PySem.W.Frag} {H H' : Hp} {v : V} {d : PyData} (s : Same H H') (h : Rd K H v d) : Rd K H' v d := by
  obtain ⟨h0, h⟩ := h
  refine ⟨h0, ?_⟩
  rcases h with h | ⟨p, h1, h2, h3⟩
  · exact .inl (dp_same s d v h)
  · exact .inr ⟨p, h1, s _ _ h2, h3⟩
def tyN : PyData → String
  | .none => "NoneType"
  | .bool _ => "bool"
  | .int _ => "int"
  | .str _ => "str"
  | .list _ => "list"
  | .tuple _ => "tuple"
  | .dict _ => "dict"
theorem tyx_tup {K : PySem.W.Frag} {H : Hp} {a : Addr} {xs : List V} (h : SqT K H a xs) : TyX K H (.ref a) (.type "tuple") := by
  rcases h with (h | ⟨o, h⟩) | ⟨o, its, n, h, hc, _⟩
  · exact .base (.tup h)
  · exact .fTuple h
  · exact .kTuple h hc
theorem tyx_lst {K : PySem.W.Frag} {H : Hp} {a : Addr} {xs : List V} (h : SqL K H a xs) : TyX K H (.ref a) (.type "list") := by
  rcases h with (h | ⟨o, h⟩) | ⟨o, its, n, h, hc, _⟩
  · exact .base (.lst h)
  · exact .base (.frz h)
  · exact .kList h hc
theorem tyx_of {K : PySem.W.Frag} {H : Hp} {v : V} {d : PyData} (h : Rd K H v d) : TyX K H v (.type (tyN d)) := by
  obtain ⟨_, h⟩ := h
  rcases h with h | ⟨p, rfl, h, rfl⟩
  · cases h with
    | non => exact .base .non
    | bl b => exact .base (.bl b)
    | int i => exact .base (.int i)
    | str x => exact .base (.str x)
    | lst h1 _ => exact tyx_lst h1
    | tup h1 _ => exact tyx_tup h1
  · exact .base (.dK h)
theorem kb_tup (d : PyData) : kitB (tyN d) "tuple" = some (match d with | .tuple _ => true | _ => false) := by
  cases d with
  | none => exact (by decide +kernel : kitB "NoneType" "tuple" = some false)
  | bool _ => exact (by decide +kernel : kitB "bool" "tuple" = some false)
  | int _ => exact (by decide +kernel : kitB "int" "tuple" = some false)
  | str _ => exact (by decide +kernel : kitB "str" "tuple" = some false)
  | list _ => exact (by decide +kernel : kitB "list" "tuple" = some false)
  | tuple _ => exact (by decide +kernel : kitB "tuple" "tuple" = some true)
  | dict _ => exact (by decide +kernel : kitB "dict" "tuple" = some false)
inductive Lk (K : PySem.W.Frag) (H : Hp) : V → Option (List PyData) → Prop
  | no {v : V} {T : String} (h : TyX K H v (.type T)) (b : kitB T "tuple" = some false) : Lk K H v none
  | tup {a : Addr} {xs : List V} {ds : List PyData} (h : SqT K H a xs) (r : Paired (Rd K H) xs ds) : Lk K H (.ref a) (some ds)
def look : PyData → Option (List PyData)
  | .tuple ds => some ds
  | _ => none
theorem dpAll_rd {K : PySem.W.Frag} {H : Hp} : ∀ {vs : List V} {ds : List PyData}, DpAll K H vs ds → shortAll ds = true → Paired (Rd K H) vs ds
  | _, _, .nil, _ => .nil
  | _, _, .cons h t, z => by
    rw [shortAll, Bool.and_eq_true] at z
    exact .cons ⟨z.1, .inl h⟩ (dpAll_rd t z.2)
theorem lk_of {K : PySem.W.Frag} {H : Hp} {v : V} {d : PyData} (h : Rd K H v d) : Lk K H v (look d) := by
  have ty := tyx_of h
  have kb := kb_tup d
  obtain ⟨h0, h⟩ := h
  rcases h with h | ⟨p, rfl, h, rfl⟩
  · cases h with
    | non => exact .no ty kb
    | bl b => exact .no ty kb
    | int i => exact .no ty kb
    | str x => exact .no ty kb
    | lst h1 _ => exact .no ty kb
    | tup h1 h2 => exact .tup h1 (dpAll_rd h2 (by rw [short] at h0; exact h0))
  · exact .no ty kb
def letters : PySem.Str := "abcdefghijklmnopqrstuvwxyz"
def dWh : PyData → Bool
  | .int _ => true
  | _ => false
def wordOk (x : PySem.Str) : Bool := decide (1 ≤ x.length) && decide (x.length ≤ 6) && x.cps.toList.all fun c => decide (c ∈ letters.cps.toList)
def dWord : PyData → Bool
  | .str x => wordOk x
  | _ => false
def dDot3 : PyData → PyData → PyData → Bool
  | .int n, .str x, .int l => wordOk x && (decide (1 ≤ n) && decide (n ≤ 1000000000000) && decide (1 ≤ l))
  | _, _, _ => false
def dotL : List PyData → Bool
  | [a, b, c] => dDot3 a b c
  | _ => false
def dotO (o : Option (List PyData)) : Bool := (o.map dotL).getD false
def dDot (d : PyData) : Bool := dotO (look d)
def keyD : PyData → DK
  | .tuple [.int n, .str x, .int l] => [.inl n, .inr x, .inl l]
  | _ => []
def knownO (o : Option (List PyData)) : Bool := (o.map fun ds => ds.all dDot && ascB (ds.map keyD)).getD false
end K01

set_option maxRecDepth 100000
set_option maxHeartbeats 4000000
namespace K01
open PySem PySem.Spec PyProof.Rows L2 MS
structure Bt (mg : PySem.Str → Option Value) : Prop where
  isi : mg "isinstance" = none
  len : mg "len" = none
  all : mg "all" = none
  int : mg "int" = none
  bool : mg "bool" = none
  str : mg "str" = none
  tuple : mg "tuple" = none
  list : mg "list" = none
  set : mg "set" = none
  sorted : mg "sorted" = none
  zip : mg "zip" = none
  max : mg "max" = none
  min : mg "min" = none
  repr : mg "repr" = none
  range : mg "range" = none
structure Ca (P : Program) (w : World) (K : PySem.W.Frag) (mg : PySem.Str → Option Value) (base : Heap) (k : Nat) (x : PySem.Str) (ps : List PySem.Str) (sp : Sp) : Prop where
  ex : ∃ f fd, FnOk P w K mg base CX0 k f fd ps sp ∧ mg x = some (.ref f) ∧ PySem.W.keepIn K (.ref f) = true ∧ Binds K fd ps []

def spWhole (K : PySem.W.Frag) : Sp := fun vs H Q _ => ∃ (v : V) (d : PyData), vs = [v] ∧ Rd K H v d ∧ Q (.bl (dWh d)) H

def spWord (K : PySem.W.Frag) : Sp := fun vs H Q _ => ∃ (v : V) (d : PyData), vs = [v] ∧ Rd K H v d ∧ ∀ H', Same H H' → Q (.bl (dWord d)) H'

def spRis (K : PySem.W.Frag) : Sp := fun vs H Q _ => ∃ (a : Addr) (ks : List DK), vs = [.ref a] ∧ TupOf K H a ks ∧ (∀ k ∈ ks, D3 k) ∧ ks.length ≤ 1000 ∧ ∀ H', Same H H' → Q (.bl (ascB ks)) H'

def spDot (K : PySem.W.Frag) : Sp := fun vs H Q _ => ∃ (v : V) (o : Option (List PyData)), vs = [v] ∧ Lk K H v o ∧ ∀ H', Same H H' → Q (.bl (dotO o)) H'
abbrev ND : List PySem.Str := ["thing", "number", "house", "life"]
def spKn (K : PySem.W.Frag) : Sp := fun vs H Q _ => ∃ (v : V) (o : Option (List PyData)), vs = [v] ∧ Lk K H v o ∧ (∀ ds, o = some ds → ds.length < 64) ∧ ∀ H', Same H H' → Q (.bl (knownO o)) H'

def dGe : PyData → Int → Bool
  | .int n, m => decide (m ≤ n)
  | _, _ => false
def spLw (K : PySem.W.Frag) : Sp := fun vs H Q _ => ∃ (v : V) (d : PyData) (m : Int), vs = [v, .int m] ∧ Rd K H v d ∧ Q (.bl (dGe d m)) H
theorem hu_64 {k : Nat} {A : Around} (h : Room k A) : A.units + 64 < cLine := by
  have := h.un
  omega
abbrev NLD : List PySem.Str := ["_law_thing", "_law_first", "_law_name", "_law_last", "_law_sign"]

def rowsTo (Ls : List (Addr × List MS.Row)) (i : Nat) : List MS.Row := ((Ls.take i).map (·.2)).flatten

def allOf (ts : List (Addr × List DK)) : List DK := (ts.map (·.2)).flatten
def spTog (K : PySem.W.Frag) : Sp := fun vs H Q _ => ∃ (l : Addr) (ts : List (Addr × List DK)), vs = [.ref l] ∧ SqL K H l (ts.map fun t => V.ref t.1) ∧ (∀ t ∈ ts, TupOf K H t.1 t.2) ∧ (∀ k ∈ allOf ts, D3 k) ∧ (allOf ts).length < 63 ∧
  ∀ H' r ms, Same H H' → TupOf K H' r ms → Asc ms → (∀ k, k ∈ ms ↔ k ∈ allOf ts) → ms.length < 64 → Q (.ref r) H'
abbrev NTG : List PySem.Str := ["some", "known", "dot"]

def spCut (K : PySem.W.Frag) : Sp := fun vs H Q _ => ∃ (a : Addr) (m : V) (ks : List DK), vs = [.ref a, m] ∧ TupOf K H a ks ∧ ((m = .non ∧ Q (.ref a) H) ∨ ∃ n : Nat, m = .int (n : Int) ∧ ∀ r H', Same H H' → TupOf K H' r (ks.drop (ks.length - n)) → Q (.ref r) H')

def fstI : DK → Int
  | .inl n :: _ => n
  | _ => 0
def IsMax (m : Int) (l : List Int) : Prop := m ∈ l ∧ ∀ y ∈ l, y ≤ m
def spNext (K : PySem.W.Frag) : Sp := fun vs H Q _ => ∃ (n : Int) (a : Addr) (ks : List DK), vs = [.int n, .ref a] ∧ TupOf K H a ks ∧ (∀ k ∈ ks, D3 k) ∧ ks.length ≤ 1000 ∧ ∀ H' m, Same H H' → IsMax m (n :: ks.map fstI) → Q (.int (m + 1)) H'
abbrev NNX : List PySem.Str := ["own", "known", "dot"]
def Pool (H : Hp) (p : Addr) : Prop := ∃ x y : Int, H p = some (.lst [.int x, .int y]) ∧ 0 ≤ x ∧ 0 ≤ y ∧ y < 2147483647
theorem Pool.is {H : Hp} {p : Addr} (h : Pool H p) : ∃ ys, H p = some (.lst ys) := by
  obtain ⟨x, y, h, _⟩ := h
  exact ⟨_, h⟩
theorem Pool.same {H H' : Hp} {p : Addr} (s : Same H H') (h : Pool H p) : Pool H' p := by
  obtain ⟨x, y, h, z⟩ := h
  exact ⟨x, y, s _ _ h, z⟩

def spHand (K : PySem.W.Frag) : Sp := fun vs H Q _ => ∃ (a : Addr) (i : Int) (ns : List Int), vs = [.ref a, .int i] ∧ SqL K H a (ns.map V.int) ∧ ns.length ≤ 63 ∧ 0 ≤ i ∧ i < 100 ∧ ∀ H' p, Same H H' → H p = none → Pool H' p → Q (.ref p) H'
abbrev NHA : List PySem.Str := ["_law_script", "_law_k", "_law_cell", "_law_seed"]

def spDraw : Sp := fun vs H Q _ => ∃ (p : Addr) (n : Int), vs = [.ref p, .int n] ∧ Pool H p ∧ 1 ≤ n ∧ n ≤ 1000 ∧ ∀ H' r, Ext p H H' → Pool H' p → (∀ b, b ≠ p → H' b = H b) → 0 ≤ r → r < n → Q (.int r) H'
abbrev NDR : List PySem.Str := ["_law_pool", "_law_size", "_law_found"]
def Men (k : DK) : Prop := ∃ (n : Int) (c : Nat) (l : Int), k = [.inl n, .inr ⟨#[c]⟩, .inl l] ∧ n ∈ [(1 : Int), 2, 9, 10, 12] ∧ c ∈ [97, 98, 99] ∧ l ∈ [(1 : Int), 2]
theorem Men.d3 {k : DK} (h : Men k) : D3 k := by
  obtain ⟨n, c, l, rfl, _⟩ := h
  exact ⟨_, _, _, rfl⟩

def spLdot : Sp := fun vs H Q _ => ∃ p : Addr, vs = [.ref p] ∧ Pool H p ∧ ∀ H' a k, Ext p H H' → Pool H' p → H a = none → H' a = some (.tup (k.map kV)) → Men k → Q (.ref a) H'

def spLkn (K : PySem.W.Frag) : Sp := fun vs H Q _ => ∃ p : Addr, vs = [.ref p, .int 6] ∧ Pool H p ∧ ∀ H' a ks, Ext p H H' → Pool H' p → TupOf K H' a ks → Asc ks → ks.length ≤ 6 → (∀ k ∈ ks, Men k) → Q (.ref a) H'
abbrev NKN : List PySem.Str := ["_law_pool", "_law_most", "_law_turn"]
def smallD (d : PyData) : Prop := ∀ es, look d = some es → es.length < 60

def spOdd (K : PySem.W.Frag) : Sp := fun vs H Q _ => vs = [] ∧ ∀ H' p xs ds, Same H H' → SqL K H' p xs → Paired (Rd K H') xs ds → (∀ d ∈ ds, smallD d) → Q (.ref p) H'
def oddD : List PyData := [.none, .int 0, .str "", .tuple [], .list [], .dict [], .tuple [.int 1, .str "a"], .tuple [.int 1, .str "a", .int 1, .int 1], .list [.int 1, .str "a", .int 1], .tuple [.int 0, .str "a", .int 1], .tuple [.bool true, .str "a", .int 1], .tuple [.int 1, .str "A", .int 1]] ++ [.tuple [.int 1, .str "", .int 1], .tuple [.int 1, .str "abcdefg", .int 1], .tuple [.int 1, .str "abcdef", .int 1], .tuple [.int 1, .str "a", .int 0], .tuple [.int 1, .str "a", .bool true], .tuple [.int (10 ^ (12 : Int).toNat), .str "z", .int 9]] ++ [.tuple [.int (10 ^ (12 : Int).toNat + 1), .str "a", .int 1], .tuple [.int 1, .none, .int 1], .tuple [.str "1", .str "a", .int 1], .tuple [.int 1, .str "a\n", .int 1], .tuple [.int (-1), .str "a", .int 1], .tuple [.int 1, .str "a", .none]]

def rRepB : List V → Hp → VK → Prop := fun xs H Q => ∃ b : Bool, xs = [.bl b] ∧ Q (.str (if b then "True" else "False" : String)) H

structure CaD (P : Program) (w : World) (K : PySem.W.Frag) (mg : PySem.Str → Option Value) (base : Heap) (k : Nat) (x : PySem.Str) (ps : List PySem.Str) (sp : Sp) (ds : List V) : Prop where
  ex : ∃ f fd us, FnOk P w K mg base CX0 k f fd ps sp ∧ mg x = some (.ref f) ∧ PySem.W.keepIn K (.ref f) = true ∧ Binds K fd ps us ∧ Vals ds us

def okD (d : PyData) : Bool := d.showable && (decide (d.shown.length ≤ 20) && (short d && (dDot d && decide (d.depth ≤ 1))))
def AllMen (ks : List DK) : Prop := ∀ k ∈ ks, Men k

def tupsD (kss : List (List DK)) : PyData := .list (kss.map fun ks => .tuple (ks.map dD))


theorem TupOf.sq {K : PySem.W.Frag} {H : Hp} {a : Addr} {ks : List DK} (h : TupOf K H a ks) : ∃ xs, SqT K H a xs ∧ xs.length = ks.length := by
  obtain ⟨L, h1, _, rfl⟩ := h
  exact ⟨_, h1, by rw [List.length_map, List.length_map]⟩
abbrev NL : List PySem.Str := ["_law_script", "_law_thing", "_law_one", "_law_k", "_law_pool", "_law_some", "_law_turn", "_law_kept", "_law_due", "_law_size", "_law_left", "_law_own"]
def spLaw (K : PySem.W.Frag) : Sp := fun vs H Q _ => ∃ (a : Addr) (ns : List Int), vs = [.ref a] ∧ SqL K H a (ns.map V.int) ∧ ns.length ≤ 63 ∧ ∀ H', Q (.bl true) H'
def HF (K : PySem.W.Frag) (x : PySem.Str) (st : Stmt) : Prop := ∃ f fd, PySem.W.nsIn K mainGlobals x = some (some (.ref f)) ∧ Fun K x x st f fd
end K01

set_option maxRecDepth 100000
set_option maxHeartbeats 4000000
namespace VS
open PySem PySem.Spec PyProof.Rows L2 MS K01

abbrev VRow := Addr × DK
section
variable {P : Program} {w : World} {A : Around} {E : Value → Shared → Prop} {s : Shared}
def VerAt (P : Program) (w : World) (h : Heap) (z : VRow) : Prop := ∃ (o : Obj) (its : Array Value) (n : Nat) (d : Addr), h.get? z.1 = some o ∧ o.cls = .type "tuple" ∧ o.data = .seq its n ∧ its[0]? = some (.ref d) ∧ MT P w h z.2 d
noncomputable def verKind (ws : List VRow) : KeyKind where
  toKeyOrd := listOrd itemOrd
  keyOf := fun v => match v with
    | .ref a => (ws.find? fun z => z.1 == a).map fun z => MS.code z.2
    | _ => none
  dflt := []
end
end VS

set_option maxRecDepth 100000
set_option maxHeartbeats 4000000
namespace VS
open PySem PySem.Spec PyProof.Rows L2 MS K01
section
variable {X : Cx}
def VerH (K : PySem.W.Frag) (H : Hp) (z : VRow) : Prop := ∃ (d : Addr) (rest : List V), SqT K H z.1 (.ref d :: rest) ∧ SqT K H d (z.2.map kV)
def rSortV (K : PySem.W.Frag) : List V → Hp → VK → Prop := fun vs H Q => ∃ (l : Addr) (ws : List VRow), vs = [V.ref l] ∧ SqL K H l (ws.map fun z => V.ref z.1) ∧ (∀ z ∈ ws, VerH K H z) ∧ (∀ z ∈ ws, D3 z.2) ∧ (ws.map fun z => z.2).Nodup ∧ ws.length ≤ 1000 ∧
  ∀ (ws' : List VRow) (p : Addr), ws'.Perm ws → Asc (ws'.map fun z => z.2) → H p = none → Q (.ref p) (upd H p (.lst (ws'.map fun z => V.ref z.1)))
end
end VS

set_option maxRecDepth 100000
set_option maxHeartbeats 4000000
namespace VS
open PySem PySem.Spec PyProof.Rows L2 MS K01
section
variable {X : Cx}

def rInDT (K : PySem.W.Frag) (neg : Bool) : R2 := fun x y H Q => ∃ d ds, Dp K H x d ∧ Dp K H y (.tuple ds) ∧ SeqAt.shaped d = true ∧ SeqAt.shaped (.tuple ds) = true ∧ Q (.bl (if neg = true then !ds.any fun z => PyData.eqv z d else ds.any fun z => PyData.eqv z d)) H
theorem op_inDT {K : PySem.W.Frag} (hK : X.K = K) (hu : X.A.units + 65 < cLine) : OpR X (compareOp .In) (rInDT K false) := by
  subst hK
  intro pins s σ H x y v u Q I rx ry h
  obtain ⟨d, ds, hd, he, sd, se, q⟩ := h
  obtain ⟨as, r1⟩ := Dp.reads I d x v hd rx
  obtain ⟨bs, r2⟩ := Dp.reads I (.tuple ds) y u he ry
  exact SeqAt.in_tuple_reads r2 r1 (SeqAt.canLay_of_shaped se) (SeqAt.canLay_of_shaped sd) (room_in_shaped sd hu) ⟨.bl _, H, I, rfl, q⟩
theorem op_notInDT {K : PySem.W.Frag} (hK : X.K = K) (hu : X.A.units + 65 < cLine) : OpR X (compareOp .NotIn) (rInDT K true) := by
  subst hK
  intro pins s σ H x y v u Q I rx ry h
  obtain ⟨d, ds, hd, he, sd, se, q⟩ := h
  obtain ⟨as, r1⟩ := Dp.reads I d x v hd rx
  obtain ⟨bs, r2⟩ := Dp.reads I (.tuple ds) y u he ry
  exact SeqAt.notIn_tuple_reads r2 r1 (SeqAt.canLay_of_shaped se) (SeqAt.canLay_of_shaped sd) (room_in_shaped sd hu) ⟨.bl _, H, I, rfl, q⟩
end

section
variable {X : Cx}
end
section
variable {prog : Program} {w : World} {A : Around} {R : Result → Shared → Prop} {s : Shared} {kx vx x0 y0 x1 y1 : Expr} {sc : Scope} {pos : Pos} {it : Value} {D : Addr} {env : Env}
abbrev DC (kx vx x0 y0 x1 y1 : Expr) (sc : Scope) (pos : Pos) : Expr := .DictComp kx vx [⟨x0, y0, [], 0⟩, ⟨x1, y1, [], 0⟩] sc pos
end
end VS

set_option maxRecDepth 100000
set_option maxHeartbeats 4000000
namespace VS
open PySem PySem.Spec PyProof.Rows L2 MS K01

section
variable {X : Cx}
def tDc2 (wi : TI) (g : TG) (wi1 : TI) (g1 : TG) (tk tv : TE) (vs vs1 : List Nat) : TE := fun σ H Q => wi σ H fun J H1 => ∀ D, H1 D = none → ∃ W : Nat → Nat → Hp → Prop, (∃ m, W 0 m (upd H1 D (.dT []))) ∧
  ∀ i m H, W i m H → (J.stop i H ∧ Q (.ref D) H) ∨ (J.go i H ∧ ∃ Nx : Hp → Prop, (∀ H', Nx H' → ∃ m', m' < m ∧ W (i + 1) m' H') ∧ ∀ x H', J.yld i H x H' → g x (wipe σ vs) H' fun σ2 H2 => wipe σ2 vs = wipe σ vs ∧
    wi1 σ2 H2 fun J1 H4 => ∃ W1 : Nat → Nat → Hp → Prop, (∃ m, W1 0 m H4) ∧ ∀ j k H, W1 j k H → (J1.stop j H ∧ Nx H) ∨ (J1.go j H ∧ ∃ Nx1 : Hp → Prop, (∀ H', Nx1 H' → ∃ k', k' < k ∧ W1 (j + 1) k' H') ∧ ∀ x H', J1.yld j H x H' →
      g1 x (wipe σ2 vs1) H' fun σ3 H5 => wipe σ3 vs1 = wipe σ2 vs1 ∧ tk σ3 H5 fun y H6 => tv σ3 H6 fun v H7 => ∃ (a : Addr) (k : List Key) (kvs : List (List Key × V)), y = .ref a ∧ H7 a = some (.tup (k.map kV)) ∧ H7 D = some (.dT kvs) ∧ kvs.length < sizeLine ∧
        Nx1 (upd H7 D (.dT (putK kvs k v)))))
end
end VS

set_option maxRecDepth 100000
set_option maxHeartbeats 4000000
namespace VS
open PySem PySem.Spec PyProof.Rows L2 MS K01
section
variable {X : Cx}
def tDc1 (wi : TI) (g : TG) (tk tv : TE) (vs : List Nat) : TE := fun σ H Q => wi σ H fun J H1 => ∀ D, H1 D = none → ∃ W : Nat → Nat → Hp → Prop, (∃ m, W 0 m (upd H1 D (.dT []))) ∧
  ∀ i m H, W i m H → (J.stop i H ∧ Q (.ref D) H) ∨ (J.go i H ∧ ∃ Nx : Hp → Prop, (∀ H', Nx H' → ∃ m', m' < m ∧ W (i + 1) m' H') ∧ ∀ x H', J.yld i H x H' → g x (wipe σ vs) H' fun σ2 H2 => wipe σ2 vs = wipe σ vs ∧
    tk σ2 H2 fun y H6 => tv σ2 H6 fun v H7 => ∃ (a : Addr) (k : List Key) (kvs : List (List Key × V)), y = .ref a ∧ H7 a = some (.tup (k.map kV)) ∧ H7 D = some (.dT kvs) ∧ kvs.length < sizeLine ∧ Nx (upd H7 D (.dT (putK kvs k v))))
end
end VS

set_option maxRecDepth 100000
set_option maxHeartbeats 4000000
namespace VS
open PySem PySem.Spec PyProof.Rows L2 MS K01
open PyProof.Rows.G (sh1 tupKindC tupKeyC tupKeyC_of list_sort_tups)

section
variable {P : Program} {w : World} {A : Around} {E : Value → Shared → Prop} {s : Shared}
def Ends1 (s : Shared) (Pv : Nat → Value → Prop) (n : Nat) (q : Result) (z : Shared) : Prop := ∃ (h1 : Heap) (tk : Nat) (acc : Array Value) (c : Nat), q = .ok (.ret (.ref s.heap.objs.size)) ∧ z = { s with heap := h1, toks := tk } ∧ Keeps s.heap h1 ∧
  h1.get? s.heap.objs.size = some { cls := .type "list", dict := none, data := .seq acc c, slots := #[] } ∧ ItemsOf Pv acc n
end
section
variable {X : Cx}
def rSortD : List V → Hp → VK → Prop := fun vs H Q => ∃ (d : Addr) (kvs : List (List Key × V)), vs = [V.ref d] ∧ H d = some (.dT kvs) ∧ (∀ e ∈ kvs, D3 e.1) ∧ kvs.length ≤ 1000 ∧
  ∀ (L : List MS.Row) (p : Addr), (∀ q ∈ L, H q.1 = some (.tup (q.2.map kV))) → (L.map fun q => q.2).Perm (kvs.map fun e => e.1) → L.Pairwise (fun x y => dlt y.2 x.2 = false) → H p = none → Q (.ref p) (upd H p (.lst (L.map fun q => V.ref q.1)))
end
end VS

set_option maxRecDepth 100000
set_option maxHeartbeats 4000000
namespace VS
open PySem PySem.Spec PyProof.Rows L2 MS K01
section
variable {X : Cx}

def iSeq (K : PySem.W.Frag) (tl : TE) : TI := fun σ H R => tl σ H fun x H1 => ∃ a, x = .ref a ∧ (((∃ xs, SqL K H1 a xs) ∧ R (Itl K a) H1) ∨ ((∃ xs, SqT K H1 a xs) ∧ R (Itt K a) H1))
theorem pi_seq {K : PySem.W.Frag} {tg l : Expr} {tl : TE} (hK : X.K = K) (hl : PE X l tl) : PI X tg l (iSeq K tl) := by
  subst hK
  refine ⟨fun pins s σ H R I h => thn (hl.run pins s σ H _ I h) fun v z1 y1 => ?_⟩
  obtain ⟨x, G, J, rx, a, rfl, c⟩ := y1
  cases rx
  have grow : ∀ o : Obj, Inv X pins σ G { z1 with heap := z1.heap.push o } := fun o => J.kept (t' := z1.toks) fun b u y => Heap.get?_push_of_some _ y
  have own : ∀ b ∈ [z1.heap.objs.size], FpOk X pins G b := fun b hb => by
    rw [List.mem_singleton.mp hb]
    exact J.fpOk (Nat.le_refl _) (J.hok.fresh (Nat.le_refl _))
  rcases c with ⟨⟨xs, hx⟩, q⟩ | ⟨⟨xs, hx⟩, q⟩
  · obtain ⟨its, rv, pl, _⟩ := J.list hx
    exact wpAny_pyIter_list pl.isList ⟨z1.heap.objs.size, [z1.heap.objs.size], _, _, G, rfl, grow _, turn_list a _, ⟨_, Heap.get?_push_size _ rfl, rfl, rfl⟩, own, q⟩
  · obtain ⟨its, rv, pt, _⟩ := J.tuple hx
    exact wpAny_pyIter_tuple (show z1.heap.IsTuple a its.toArray from pt) ⟨z1.heap.objs.size, [z1.heap.objs.size], _, _, G, rfl, grow _, turn_tuple a _, ⟨_, Heap.get?_push_size _ rfl, rfl, rfl⟩, own, q⟩
end
end VS

set_option maxRecDepth 100000
set_option maxHeartbeats 4000000
namespace VS
open PySem PySem.Spec PyProof.Rows L2 MS K01
section
variable {J J1 : It} {n n1 : Nat} {G G1 : Hp → Prop} {Y Y1 : Nat → Hp → V → Hp → Prop}
end
end VS

set_option maxRecDepth 100000
set_option maxHeartbeats 4000000
namespace VS
open PySem PySem.Spec PyProof.Rows L2 MS K01
section
variable {X : Cx}

def rEqNil (K : PySem.W.Frag) : R2 := fun x y H Q => ∃ (a b : Addr) (xs : List V), x = .ref a ∧ y = .ref b ∧ SqL K H a xs ∧ SqL K H b [] ∧ Q (.bl xs.isEmpty) H
end
end VS

set_option maxRecDepth 100000
set_option maxHeartbeats 4000000

namespace RQ
open PySem PySem.Spec PyProof.Rows L2
open AutoSeq1 (wpAny_loadPart')
abbrev tIt (a : Addr) : Obj := { cls := .type "tuple_iterator", data := .fields #[.ref a, .int 0 0] }
abbrev eNew (b : Addr) : Obj := { cls := .type "enumerate", data := .fields #[.none, .bool false, .ref b, rawInt 0, .none, .none] }
section
variable {prog : Program} {w : World} {A : Around} {E : Value → Shared → Prop} {z : Shared}
end
def ItE (sq : Hp → List V → Prop) (n : Nat) : It where
  go i H := ∃ xs, sq H xs ∧ xs.length = n ∧ i < n
  yld i H v H' := ∃ T, H T = none ∧ v = .ref T ∧ ∃ x, (∀ xs, sq H xs → xs[i]? = some x) ∧ H' = upd H T (.tup [.int (i : Nat), x])
  stop i H := ∃ xs, sq H xs ∧ xs.length = n ∧ n ≤ i
structure Feed (P : Program) (w : World) (K : PySem.W.Frag) (sq : Hp → List V → Prop) (it : Addr) (fp : List Addr) (St : Nat → Heap → Prop) : Prop where
  own : ∀ i h, St i h → ∃ o, h.get? it = some o ∧ ∀ v, o.data ≠ .cell v
  stays : ∀ i h h', St i h → (∀ o, h.get? it = some o → h'.get? it = some o) → St i h'
  gives : ∀ (X : Cx), X.prog = P → X.w = w → X.K = K → X.calm = true → ∀ (pins : List (Addr × Obj)) (s : Shared) (σ : L2.St) (H : Hp), Inv X pins σ H s → ∀ xs, sq H xs →
    (∀ ys, sq H ys → ys = xs) ∧ ∃ (its : List Value) (St' : Nat → Heap → Prop), Vals xs its ∧ Draws P w X.A.in1 it fp its.length (fun i v => its[i]? = some v) St' ∧ (∀ i, St i s.heap → St' i s.heap) ∧ ∀ i h, St' i h → St i h
theorem pair_comes {X : Cx} {pins : List (Addr × Obj)} {σ : L2.St} {H : Hp} {s : Shared} {e it : Addr} {h1 h2 : Heap} {k tk t2 : Nat} {x : V} {u : Value} (I : Inv X pins σ H s) (fe : FpOk X pins H e) (fi : FpOk X pins H it)
    (le : e < s.heap.objs.size) (made : h1.get? s.heap.objs.size = some { cls := .type "tuple", data := .seq #[.int k tk, u] }) (ru : RelV x u) (old : ∀ b o, b ≠ e → b ≠ it → s.heap.get? b = some o → h1.get? b = some o) (sb : Heap.SameBut e h1 h2) :
    Inv X pins σ (upd H s.heap.objs.size (.tup [.int (k : Nat), x])) { s with heap := h2, toks := t2 } := by
  refine I.turnedNew (ch := [it, e]) (fun b o nb g => ?_) (fun b hb => ?_) (Nat.le_refl _) ⟨by show 2 ≤ sizeLine; decide, [.int k tk, u], .cons ⟨_, rfl⟩ (.cons ru .nil), ?_⟩
  · have ne : b ≠ e ∧ b ≠ it := by constructor <;> (intro z; apply nb; simp [z])
    exact (sb.2 b ne.1).trans (old b o ne.1 ne.2 g)
  · rcases List.mem_cons.mp hb with z | z
    · exact z ▸ fi
    · exact List.mem_singleton.mp z ▸ fe
  · exact ⟨_, (sb.2 _ (Nat.ne_of_gt le)).trans made, rfl, _, rfl⟩
theorem Feed.enum {P : Program} {w : World} {K : PySem.W.Frag} {sq : Hp → List V → Prop} {it e : Addr} {fp : List Addr} {St : Nat → Heap → Prop} {elts : List Expr} {kk n : Nat} {tpos : Pos} (F : Feed P w K sq it fp St) (ei : e ≠ it) (ef : e ∉ fp) :
    Turn P w K (.Tuple elts kk tpos) (ItE sq n) [e, it] e (fun i h => (St i h ∧ i ≤ n) ∧ ∃ old, IsEnum h e it (i : Int) old) := by
  have both : ∀ {p : Addr → Prop}, p e → p it → ∀ b ∈ [e, it], p b := fun pe pi b hb => by
    rcases List.mem_cons.mp hb with z | z
    · exact z ▸ pe
    · exact List.mem_singleton.mp z ▸ pi
  refine ⟨List.mem_cons_self .., fun i h st => both ⟨_, st.2.choose_spec, fun v q => nomatch q⟩ (F.own i h st.1.1), fun i h h' st k => ⟨⟨F.stays i h h' st.1.1 fun o => k it (by simp) o, st.1.2⟩, st.2.choose, k e (by simp) _ st.2.choose_spec⟩, ?_, ?_, fun A i s Q E st h => wpAny_pyIter_enum st.2.choose_spec h⟩
  · intro X xp xw xk hc i pins s σ H E I hf ⟨⟨st, _⟩, old, he⟩ ⟨xs, hq, hx, hn⟩
    have hi : i < xs.length := by rw [hx]; exact hn
    obtain ⟨uniq, its, St', rv, D, up, down⟩ := F.gives X xp xw xk hc pins s σ H I xs hq
    obtain ⟨u, hu, ru⟩ := rv.get (List.getElem?_eq_getElem hi)
    subst xp xw
    have le := Heap.lt_size he
    refine wpAny_pyNext_enum_itemD D he (up i st) (by rw [← rv.length]; exact hi) ei ef fun u' h1 tk hu' out st1 made _ old => ⟨_, rfl, ?_⟩
    cases hu.symm.trans hu'
    refine wpAny_letOwnedTupleGo_enum (s := { s with heap := h1, toks := tk + 1 }) out fun h2 he2 sb => ⟨.ref s.heap.objs.size, _, pair_comes (s := s) I (hf e (by simp)) (hf it (by simp)) le made ru old sb, rfl, ?_, ?_, ?_⟩
    · exact ⟨_, I.hok.fresh (Nat.le_refl _), rfl, xs[i], fun ys hy => by rw [uniq ys hy]; exact List.getElem?_eq_getElem hi, rfl⟩
    · exact ⟨⟨F.stays _ _ _ (down _ _ st1) fun o g => (sb.2 it ei.symm).trans g, hn⟩, _, by rw [Int.natCast_succ]; exact he2⟩
    · have young : ∀ b o, s.heap.get? b = some o → H b = none → upd H s.heap.objs.size (.tup [.int (i : Nat), xs[i]]) b = none := fun b o g z => by
        rw [upd_ne (Nat.ne_of_lt (Heap.lt_size g))]; exact z
      obtain ⟨o, go, _⟩ := F.own i _ st
      exact both (young e _ he (hf e (by simp)).1) (young it o go (hf it (by simp)).1)
  · rintro X xp xw xk hc i pins s σ H E I hf ⟨⟨st, l1⟩, old, he⟩ ⟨xs, hq, hx, l2⟩
    obtain rfl : i = xs.length := by rw [hx]; exact Nat.le_antisymm l1 l2
    obtain ⟨-, its, St', rv, D, up, -⟩ := F.gives X xp xw xk hc pins s σ H I xs hq
    subst xp xw
    have z := up _ st
    rw [rv.length] at z
    refine wpAny_pyNext_enum_endD D he z fun h1 eb => ⟨rfl, ?_⟩
    obtain ⟨f0, f1, -, f3, f4, f5⟩ := hf it (by simp)
    exact I.turned (t' := s.toks) (fun b o nb g => eb b o nb g) f0 f1 f3 f4 f5
abbrev IteT (K : PySem.W.Frag) (a : Addr) (n : Nat) : It := ItE (fun H xs => SqT K H a xs) n
def iEnumA (K : PySem.W.Frag) (ta : TA) : TI := fun σ H R => ta σ H fun vs H1 => ∃ a xs, vs = [.ref a] ∧ ((SqL K H1 a xs ∧ R (Ite K a) H1) ∨ (SqT K H1 a xs ∧ R (IteT K a xs.length) H1))
end RQ

set_option maxRecDepth 100000
set_option maxHeartbeats 4000000

namespace RQ
open PySem PySem.Spec PyProof.Rows L2
def SqA (K : PySem.W.Frag) (H : Hp) (a : Addr) (xs : List V) : Prop := SqL K H a xs ∨ SqT K H a xs
def dSeq (b : Bool) (ds : List PyData) : PyData := if b = true then .list ds else .tuple ds
def okT (d : PyData) : Bool := PyData.canLay0 d && decide (d.depth ≤ 1)
end RQ

set_option maxRecDepth 100000
set_option maxHeartbeats 4000000

namespace RQ
open PySem PySem.Spec PyProof.Rows L2 K01
abbrev Mk2 := Addr × Int × PySem.Str
def dMk (m : Mk2) : PyData := .tuple [.int m.2.1, .str m.2.2]
abbrev rMk (m : Mk2) : V := .ref m.1
def MkH (K : PySem.W.Frag) (H : Hp) (m : Mk2) : Prop := SqT K H m.1 [.int m.2.1, .str m.2.2]
noncomputable def srt (ms : List Mk2) : List Mk2 := ms.mergeSort (PySem.W.dataLe false dMk)
def mlt (a b : Int × PySem.Str) : Bool := if a.1 = b.1 then decide (a.2.cps.toList < b.2.cps.toList) else decide (a.1 < b.1)
section
variable {X : Cx}
def rSortM2 (K : PySem.W.Frag) : List V → Hp → VK → Prop := fun vs H Q => ∃ (l : Addr) (ms : List Mk2), vs = [V.ref l] ∧ SqL K H l (ms.map rMk) ∧ (∀ m ∈ ms, MkH K H m) ∧ ms.length ≤ 1000 ∧ ∀ p, H p = none → Q (.ref p) (upd H p (.lst ((srt ms).map rMk)))
end
end RQ

set_option maxRecDepth 100000
set_option maxHeartbeats 4000000

namespace RQ
open PySem PySem.Spec PyProof.Rows L2 K01
def firsts (l : List PySem.Str) : List PySem.Str := l.foldl (fun acc x => if x ∈ acc then acc else acc ++ [x]) []
abbrev onT (h : PySem.Str) : Key × V := (.inr h, .bl true)
end RQ

set_option maxRecDepth 100000
set_option maxHeartbeats 4000000

namespace RQ
open PySem PySem.Spec PyProof.Rows L2 K01
open PySem.Froz (SD sObj TxOk addTx tailTx)
structure TxS (P : Program) (w : World) (h : Heap) (a : Addr) (L : List PySem.Str) : Prop where
  pay : ∃ D : SD, h.get? a = some (sObj "set" D) ∧ TxOk P w D L ∧ Ris D.2.2.place.toList ∧ (w.params.followText "set-order" = true ∨ D.2.2.led = true)
  nd : L.Nodup
  few : L.length < 64
def addL (k : PySem.Str) (L : List PySem.Str) : List PySem.Str := if k ∈ L then L else k :: L
section
variable {P : Program} {w : World} {A : Around} {E : Value → Shared → Prop} {s : Shared} {a : Addr} {L : List PySem.Str}
theorem TxS.keep {h h' : Heap} (R : TxS P w h a L) (k : ∀ o, h.get? a = some o → h'.get? a = some o) : TxS P w h' a L := by
  obtain ⟨⟨D, g, r⟩, nd, few⟩ := R
  exact ⟨⟨D, k _ g, r⟩, nd, few⟩
theorem TxS.ty (R : TxS P w s.heap a L) : s.TypeIs (.ref a) "set" := by
  obtain ⟨⟨D, g, _⟩, _⟩ := R
  exact ⟨_, g, rfl⟩
end
end RQ

set_option maxRecDepth 100000
set_option maxHeartbeats 4000000

namespace RQ
open PySem PySem.Spec PyProof.Rows L2 K01 MS
def TxO (P : Program) (w : World) (a : Addr) (L : List PySem.Str) : HO := .ext fun h => TxS P w h a L
section
variable {X : Cx}
def tScT (P : Program) (w : World) (wi : TI) (g : TG) (te : TE) (vs : List Nat) : TE := fun σ H Q => wi σ H fun J H1 => ∀ D, H1 D = none → ∃ W : Nat → Nat → Hp → Prop, (∃ m, W 0 m (upd H1 D (TxO P w D []))) ∧
  ∀ i m H, W i m H → (J.stop i H ∧ Q (.ref D) H) ∨ (J.go i H ∧ ∃ Nx : Hp → Prop, (∀ H', Nx H' → ∃ m', m' < m ∧ W (i + 1) m' H') ∧ ∀ x H', J.yld i H x H' → g x (wipe σ vs) H' fun σ2 H2 => wipe σ2 vs = wipe σ vs ∧
    te σ2 H2 fun y H7 => ∃ (k : PySem.Str) (L : List PySem.Str), y = .str k ∧ H7 D = some (TxO P w D L) ∧ L.length + 1 < 64 ∧ Nx (upd H7 D (TxO P w D (addL k L))))
end
section
variable {J : It} {n : Nat} {G : Hp → Prop} {Y : Nat → Hp → V → Hp → Prop}
end
end RQ

set_option maxRecDepth 100000
set_option maxHeartbeats 4000000

namespace RQ
open PySem PySem.Spec PyProof.Rows L2 K01 MS
theorem nodup_perm {α : Type} : ∀ {L M : List α}, L.Nodup → (∀ x ∈ L, x ∈ M) → M.length ≤ L.length → L.Perm M
  | [], M, _, _, h => by
    have : M = [] := List.eq_nil_of_length_eq_zero (by simpa using h)
    rw [this]
  | a :: L, M, nd, sub, h => by
    obtain ⟨s, t, rfl⟩ := List.append_of_mem (sub a List.mem_cons_self)
    rw [List.nodup_cons] at nd
    have ih : L.Perm (s ++ t) := nodup_perm nd.2 (fun x hx => by
      have y := sub x (List.mem_cons_of_mem _ hx)
      rw [List.mem_append, List.mem_cons] at y
      rw [List.mem_append]
      rcases y with y | y | y
      · exact .inl y
      · rw [y] at hx; exact absurd hx nd.1
      · exact .inr y) (by
      rw [List.length_append, List.length_cons] at h
      rw [List.length_cons] at h
      rw [List.length_append]
      omega)
    exact (ih.cons a).trans List.perm_middle.symm
abbrev STk := PySem.Str × Tok
abbrev vST (b : STk) : Value := .str b.1 b.2
def dST (b : STk) : PyData := .str b.1
def RisT (ys : List PySem.Str) : Prop := ys.Pairwise fun x y => decide (y.cps.toList < x.cps.toList) = false
section
variable {P : Program} {w : World} {A : Around} {E : Value → Shared → Prop} {s : Shared} {a : Addr} {L : List PySem.Str}
end
section
variable {X : Cx}
def rSortTx (P : Program) (w : World) : List V → Hp → VK → Prop := fun vs H Q => ∃ (a : Addr) (L : List PySem.Str), vs = [V.ref a] ∧ H a = some (TxO P w a L) ∧ ∀ ys p, ys.Perm L → RisT ys → H p = none → Q (.ref p) (upd H p (.lst (ys.map V.str)))
end
end RQ

set_option maxRecDepth 100000
set_option maxHeartbeats 4000000
namespace PySem
namespace XK
open Builtin
abbrev tKey : List Value := [.type "KeyError", .type "LookupError", .type "Exception", .type "BaseException", .type "object"]
abbrev tVal : List Value := [.type "ValueError", .type "Exception", .type "BaseException", .type "object"]
abbrev tLook : List Value := [.type "LookupError", .type "Exception", .type "BaseException", .type "object"]
abbrev tRun : List Value := [.type "RuntimeError", .type "Exception", .type "BaseException", .type "object"]
abbrev tOver : List Value := [.type "OverflowError", .type "ArithmeticError", .type "Exception", .type "BaseException", .type "object"]
structure Ini (B initId : String) : Prop where
  slot : Slot B "__init__" initId
  entry : entryFor table initId = some Builtin.«BaseException.__init__»
  split : splitId initId = some (B, "__init__")
  kind : builtinKind initId = some .slot
  row : Manifest.signature? initId = some ⟨.positional, "*", B, .self, [⟨"args", .varPos, false⟩]⟩
  star : (B != "*") = true
theorem Ini.of {B newId initId : String} {bm : List Value} (F : ExcBaseFacts B newId initId bm) : Ini B initId := ⟨F.init, F.initEntry, F.initSplit, F.initKind, F.initRow, F.noStar⟩
structure Mro (B : String) (m : List Value) : Prop where
  hasB : m.contains (.type B) = true
  noA : m.contains (.type "AttributeError") = false
  noN : m.contains (.type "NameError") = false
section
variable {M : Model} {A : Around} {E : Value → Shared → Prop} {h : Heap} {g : Array GenState} {d : Drawn} {t : Nat} {os : OsState}
variable {nm q : Str} {C N : Addr} {bs bm bmB : List Value} {hdct : Bool} {sn : List Str} {sub : List Value} {ab : Bool} {col : Option Bool} {dd : Option Addr} {k0 k1 k2 k3 k5 : Option Value} {B B' newId initId initId' : String}
end
section
variable {prog : Program} {w : World} {A : Around} {E : Value → Shared → Prop} {R : Result → Shared → Prop} {h : Heap} {g : Array GenState} {d : Drawn} {t : Nat} {os : OsState}
variable {nm q : Str} {C N : Addr} {bs bm bmB : List Value} {hdct : Bool} {sn : List Str} {sub : List Value} {ab : Bool} {col : Option Bool} {dd : Option Addr} {k0 k1 k2 k3 k5 : Option Value} {B B' newId initId initId' : String}
open HandSPX (excO)
end
section
open Builtin.ObjectAttr
variable {prog : Program} {w : World} {A : Around} {E : Value → Shared → Prop} {R : Result → Shared → Prop} {hp : Heap} {g : Array GenState} {d : Drawn} {t : Nat} {os : OsState}
end
end XK
end PySem

set_option maxRecDepth 100000
set_option maxHeartbeats 4000000
namespace L2
open PySem PySem.Spec PyProof.Rows
structure ExK (K : PySem.W.Frag) (C : Addr) (bm : List Value) : Prop where
  ex : ∃ (B newId initId : String) (bmB : List Value) (nm q : Str) (N : Addr) (bs : List Value) (sn : List Str) (sub : List Value) (ab : Bool) (col : Option Bool) (dd : Option Addr) (k0 k1 k2 k3 k5 : Option Value),
    ExcBaseFacts B newId initId bmB ∧ XK.Mro B bm ∧ K.lookup C = some (excClassObj nm q C N bs bm true sn sub ab col dd k0 k1 k2 k3 k5 newId)
  ps : ∀ z, refuseLoop z "__setattr__" bm = pure ()
  ob : bm.contains (.type "object") = true
  be : bm.contains (.type "BaseException") = true
  sa : PySem.W.findIn K (.ref C) "__setattr__" = some (some (.builtin "object.__setattr__"))
  ga : PySem.W.findIn K (.ref C) "__getattribute__" = some (some (.builtin "BaseException.__getattribute__"))
  gt : PySem.W.findIn K (.ref C) "__getattr__" = some none
  ca : PySem.W.findIn K (.ref C) "__class__" = some (some (.builtin "object.__class__"))
  kC : PySem.W.keepIn K (.ref C) = true
section
variable {K : PySem.W.Frag} {C : Addr} {bm : List Value}
theorem ExK.cls (T : ExK K C bm) : ∃ cd : ClassData, PySem.W.clsIn K C = some cd ∧ cd.mro = .ref C :: bm ∧ cd.hasDict = true := by
  obtain ⟨B, n, i, bmB, nm, q, N, bs, sn, sub, ab, col, dd, k0, k1, k2, k3, k5, _, _, hC⟩ := T.ex
  refine ⟨{ name := nm, bases := bs, mro := .ref C :: bm, ns := N, qualname := q, hasDict := true, slotNames := sn, subclasses := sub, abstract := ab, collection := col, hasDel := false }, ?_, rfl, rfl⟩
  unfold PySem.W.clsIn
  rw [hC]
theorem ExK.mroIn (T : ExK K C bm) (v : Value) : PySem.W.mroIn K C v = some ((Value.ref C :: bm).contains v) := by
  obtain ⟨cd, h1, h2, _⟩ := T.cls
  unfold PySem.W.mroIn
  rw [h1, Option.bind_some, h2]
  rfl
theorem ExK.ty (T : ExK K C bm) : PySem.W.typeIn K (.ref C) = some (.type "type") := by
  obtain ⟨B, n, i, bmB, nm, q, N, bs, sn, sub, ab, col, dd, k0, k1, k2, k3, k5, _, _, hC⟩ := T.ex
  show (K.lookup C).map (·.cls) = _
  rw [hC]
  rfl
theorem ExK.sub (T : ExK K C bm) : PySem.W.subIn K (.ref C) (.type "BaseException") = some true := by
  show PySem.W.mroIn K C (.type "BaseException") = some true
  rw [T.mroIn, List.contains_cons, T.be, Bool.or_true]
theorem ExK.obj (T : ExK K C bm) : PySem.W.mroIn K C (.type "object") = some true := by
  rw [T.mroIn, List.contains_cons, T.ob, Bool.or_true]
theorem ExK.some (T : ExK K C bm) : (PySem.W.clsIn K C).isSome = true := by
  obtain ⟨cd, h1, _, _⟩ := T.cls
  rw [h1]
  rfl
def IsCl (K : PySem.W.Frag) (v : Value) : Prop := (∃ D bm', v = .ref D ∧ ExK K D bm') ∨ ∃ T, v = .type T ∧ PySem.W.kitMeta T = true
end
def XAt (H : Hp) (a C : Addr) : Prop := H a = some (exo a C none) ∨ ∃ dx fs, H a = some (exo a C (some dx)) ∧ H dx = some (exd dx fs)
def rIsX (K : PySem.W.Frag) : List V → Hp → VK → Prop := fun xs H Q => ∃ (a C : Addr) (bm : List Value) (cv : Value) (c : V), xs = [.ref a, c] ∧ XAt H a C ∧ ExK K C bm ∧ (∀ u, RelV c u → u = cv) ∧ IsCl K cv ∧ Q (.bl ((Value.ref C :: bm).contains cv)) H
structure ClsG (K : PySem.W.Frag) : Prop where
  hn : PySem.W.specialIn K (.builtin "object.__class__") "__get__" = some (some (.builtin "getset_descriptor.__get__"))
  ht : PySem.W.takesIn K (.builtin "object.__class__") = some true
section
variable {X : Cx} {pins : List (Addr × Obj)} {σ : St} {H : Hp} {s : Shared} {a C : Addr} {bm : List Value}
end
def tXg (K : PySem.W.Frag) (f : Str) (te : TE) : TE := fun σ H Q => te σ H fun x H1 => ∃ (a C dx : Addr) (fs : List (Str × V)) (v : V) (bm : List Value), x = .ref a ∧ H1 a = some (exo a C (some dx)) ∧ H1 dx = some (exd dx fs) ∧ fs.lookup f = some v ∧ ExK K C bm ∧ PySem.W.findIn K (.ref C) f = some none ∧ Q v H1
def tXs (K : PySem.W.Frag) (f : Str) (to te : TE) : TS := fun D σ H => te σ H fun y H1 => to σ H1 fun x H2 => ∃ (a C : Addr) (bm : List Value), x = .ref a ∧ ExK K C bm ∧ PySem.W.findIn K (.ref C) f = some none ∧ H2 a = some (exo a C none) ∧
  ∀ dx, H2 dx = none → dx ≠ a → D.nx σ (upd (upd H2 dx (exd dx [(f, y)])) a (exo a C (some dx)))
section
variable {X : Cx} {pins : List (Addr × Obj)} {σ : St} {H : Hp} {s : Shared} {a C : Addr} {bm : List Value} {f : Str} {y : V} {u : Value} {Q : Unit → Shared → Prop} {E : Value → Shared → Prop} {A : Around}
end
def tXi (K : PySem.W.Frag) (B : String) (ta : TA) : TE := fun σ H Q => ta σ H fun vs H1 => ∃ (a C : Addr) (ws : List V) (bm : List Value), vs = .ref a :: ws ∧ ws.length ≤ 1000 ∧ ExK K C bm ∧ bm.contains (.type B) = true ∧ H1 a = some (exo a C none) ∧ Q .non H1
section
variable {X : Cx} {e : Expr} {es : List Expr} {ta : TA} {p1 p2 pos : Pos} {x : Str} {B id : String} {D : Addr}
end

def spI0 (C : Addr) : Sp := fun vs H Q _ => ∃ a, vs = [.ref a] ∧ H a = some (exo a C none) ∧ Q .non H
def spI1 (C : Addr) (f : Str) : Sp := fun vs H Q _ => ∃ a v, vs = [.ref a, v] ∧ H a = some (exo a C none) ∧ ∀ d, H d = none → d ≠ a → Q .non (upd (upd H d (exd d [(f, v)])) a (exo a C (some d)))
def tMk0 (C : Addr) : TE := fun σ H Q => ∀ a, H a = none → Q (.ref a) (upd H a (exo a C none))
def tMk1 (C : Addr) (f : Str) (te : TE) : TE := fun σ H Q => te σ H fun v H1 => ∀ a d, H1 a = none → H1 d = none → d ≠ a → Q (.ref a) (upd (upd H1 d (exd d [(f, v)])) a (exo a C (some d)))
structure XMk (K : PySem.W.Frag) (C fI : Addr) : Prop where
  kx : ∃ bm, ExK K C bm
  iC : PySem.W.findIn K (.ref C) "__init__" = some (some (.ref fI))
  tI : PySem.W.typeIn K (.ref fI) = some (.type "function")
section
variable {X : Cx} {CX : CXT} {k : Nat} {fI C : Addr} {fd : FuncData} {ps : List Str} {sp : Sp} {E : XK} {x f : Str} {p pos kpos : Pos} {e : Expr} {te : TE}
def mk1Q (C : Addr) (f : Str) (Q : VK) : List V → Hp → Prop := fun xs H1 => match xs with
  | [v] => ∀ a d, H1 a = none → H1 d = none → d ≠ a → Q (.ref a) (upd (upd H1 d (exd d [(f, v)])) a (exo a C (some d)))
  | _ => False
end
end L2

set_option maxRecDepth 100000
set_option maxHeartbeats 4000000

namespace MM
open PySem PySem.Spec PyProof.Rows L2

inductive Wv where
  | non | bl (b : Bool) | int (i : Int) | str (x : PySem.Str) | tup (ws : List Wv) | obj (i : Nat) | glob (x : PySem.Str) | raw (v : V) | scr (ns : List Int) | ptp (ws : List Wv)
inductive Ob where
  | lst (ws : List Wv) | dk (kvs : List (Key × Wv)) | dt (kvs : List (List Key × Wv)) | ins (C : PySem.Str) (fs : List (PySem.Str × Wv))
  | frz (o : Ob) | stx (L : List PySem.Str) | sdt (L : List (List Key))
  | xd (fs : List (PySem.Str × Wv)) | exc (C : PySem.Str) (d : Option Nat) | tbl (x : PySem.Str)
  | fn (k : PySem.Str × List Nat × List Nat) (cs : List Wv) | dead
abbrev Hm := List Ob
structure Ex where
  C : PySem.Str
  d : Option Nat
inductive Out (α : Type) where
  | ok (a : α) (h : Hm) | ex (x : Ex) (h : Hm) | no
abbrev M (α : Type) := Hm → Out α
def Out.bind {α β : Type} : Out α → (α → M β) → Out β
  | .ok a h, f => f a h
  | .ex x h, _ => .ex x h
  | .no, _ => .no
def M.bind {α β : Type} (m : M α) (f : α → M β) : M β := fun h => (m h).bind f
def M.pure {α : Type} (a : α) : M α := fun h => .ok a h
def M.no {α : Type} : M α := fun _ => .no
instance : Monad M where
  pure := M.pure
  bind := M.bind
theorem bind_ok {α β : Type} {m : M α} {f : α → M β} {h : Hm} {b : β} {h' : Hm} (e : (m.bind f) h = .ok b h') : ∃ a h1, m h = .ok a h1 ∧ f a h1 = .ok b h' := by
  unfold M.bind at e
  cases q : m h with
  | ok a h1 => rw [q] at e; exact ⟨a, h1, rfl, e⟩
  | ex x h1 => rw [q] at e; cases e
  | no => rw [q] at e; cases e
abbrev Env := List (Option Wv)
abbrev EM := Env → M Wv
structure Cfg where
  P : Program
  w : World
  K : PySem.W.Frag
  mg : PySem.Str → Option Value
abbrev cfg (X : Cx) : Cfg := ⟨X.prog, X.w, X.K, X.mg⟩

def ScrAt (c : Cfg) (H : Hp) (a : Addr) (ns : List Int) : Prop := (∃ ob, H a = some (.frz ob (.lst (ns.map V.int)))) ∨
  ∃ (o : Obj) (its : Array Value) (n : Nat), c.K.lookup a = some o ∧ o.cls = .type "list" ∧ o.dict = none ∧ o.data = .seq its n ∧ its.size ≤ sizeLine ∧ Vals (ns.map V.int) its.toList
theorem ScrAt.sq {c : Cfg} {H : Hp} {a : Addr} {ns : List Int} (h : ScrAt c H a ns) : SqL c.K H a (ns.map V.int) := by
  rcases h with ⟨ob, h⟩ | h
  · exact .inl (.inr ⟨ob, h⟩)
  · exact .inr h
def NoD (u : HO) : Prop := (∀ k, u ≠ .dK k) ∧ ∀ k, u ≠ .dT k
theorem nod_lst {xs : List V} : NoD (.lst xs) := ⟨(fun _ z => by cases z), (fun _ z => by cases z)⟩
theorem nod_tup {xs : List V} : NoD (.tup xs) := ⟨(fun _ z => by cases z), (fun _ z => by cases z)⟩
theorem nod_own {x : Addr} : NoD (.own x) := ⟨(fun _ z => by cases z), (fun _ z => by cases z)⟩
def PlT (c : Cfg) (H : Hp) (a : Addr) (vs : List V) : Prop := (∃ ob : Obj, H a = some (.frz ob (.tup vs)) ∧ ob.dict = none) ∨
  ∃ (o : Obj) (its : Array Value) (n : Nat), c.K.lookup a = some o ∧ o.cls = .type "tuple" ∧ o.dict = none ∧ o.data = .seq its n ∧ its.size ≤ sizeLine ∧ Vals vs its.toList
theorem PlT.sq {c : Cfg} {H : Hp} {a : Addr} {vs : List V} (h : PlT c H a vs) : SqT c.K H a vs := by
  rcases h with ⟨ob, h, _⟩ | ⟨o, its, n, h1, h2, _, h4, h5, h6⟩
  · exact .inl (.inr ⟨ob, h⟩)
  · exact .inr ⟨o, its, n, h1, h2, h4, h5, h6⟩
mutual
inductive Rp (c : Cfg) (μ : List Addr) (H : Hp) : V → Wv → Prop
  | non : Rp c μ H .non .non
  | bl (b : Bool) : Rp c μ H (.bl b) (.bl b)
  | int (i : Int) : Rp c μ H (.int i) (.int i)
  | str (x : PySem.Str) : Rp c μ H (.str x) (.str x)
  | tup {a : Addr} {vs : List V} {ws : List Wv} (h : H a = some (.tup vs)) (r : Rps c μ H vs ws) : Rp c μ H (.ref a) (.tup ws)
  | obj {a : Addr} {i : Nat} (h : μ[i]? = some a) : Rp c μ H (.ref a) (.obj i)
  | glob {x : PySem.Str} {a : Addr} (h : c.mg x = some (.ref a)) : Rp c μ H (.ref a) (.glob x)
  | raw (v : V) : Rp c μ H v (.raw v)
  | scr {a : Addr} {ns : List Int} (h : ScrAt c H a ns) : Rp c μ H (.ref a) (.scr ns)
  | ptp {a : Addr} {vs : List V} {ws : List Wv} (h : PlT c H a vs) (r : Rps c μ H vs ws) : Rp c μ H (.ref a) (.ptp ws)
inductive Rps (c : Cfg) (μ : List Addr) (H : Hp) : List V → List Wv → Prop
  | nil : Rps c μ H [] []
  | cons {v : V} {vs : List V} {w : Wv} {ws : List Wv} (r : Rp c μ H v w) (t : Rps c μ H vs ws) : Rps c μ H (v :: vs) (w :: ws)
end

structure Gt (c : Cfg) (μ : List Addr) (H : Hp) (μ' : List Addr) (H' : Hp) : Prop where
  pre : μ <+: μ'
  tk : ∀ a vs, SqT c.K H a vs → SqT c.K H' a vs
  tq : ∀ a vs, H a = some (.tup vs) → H' a = some (.tup vs)
  fl : ∀ a ob u, NoD u → H a = some (.frz ob u) → H' a = some (.frz ob u)
structure Gw (c : Cfg) (μ : List Addr) (H : Hp) (μ' : List Addr) (H' : Hp) : Prop extends Gt c μ H μ' H' where
  fz : ∀ a ob u, H a = some (.frz ob u) → H' a = some (.frz ob u)
theorem Gt.trans {c : Cfg} {μ μ1 μ2 : List Addr} {H H1 H2 : Hp} (a : Gt c μ H μ1 H1) (b : Gt c μ1 H1 μ2 H2) : Gt c μ H μ2 H2 := ⟨a.pre.trans b.pre, fun x vs h => b.tk x vs (a.tk x vs h), fun x vs h => b.tq x vs (a.tq x vs h), fun x o vs n h => b.fl x o vs n (a.fl x o vs n h)⟩
theorem Gw.trans {c : Cfg} {μ μ1 μ2 : List Addr} {H H1 H2 : Hp} (a : Gw c μ H μ1 H1) (b : Gw c μ1 H1 μ2 H2) : Gw c μ H μ2 H2 := ⟨a.toGt.trans b.toGt, fun x o u h => b.fz x o u (a.fz x o u h)⟩
structure Go (c : Cfg) (μ : List Addr) (H : Hp) (μ' : List Addr) (H' : Hp) : Prop extends Gw c μ H μ' H' where
  fr : ∀ a o, H a = some o → a ∉ μ → H' a = some o
  new : ∀ a ∈ μ', a ∉ μ → H a = none
theorem Go.refl (c : Cfg) (μ : List Addr) (H : Hp) : Go c μ H μ H := ⟨⟨⟨List.prefix_refl _, fun _ _ h => h, fun _ _ h => h, fun _ _ _ _ h => h⟩, fun _ _ _ h => h⟩, fun _ _ h _ => h, fun a h n => absurd h n⟩
theorem Go.trans {c : Cfg} {μ μ1 μ2 : List Addr} {H H1 H2 : Hp} (a : Go c μ H μ1 H1) (b : Go c μ1 H1 μ2 H2) : Go c μ H μ2 H2 := by
  have out : ∀ x o, H x = some o → x ∉ μ → x ∉ μ1 := fun x o e n z => by
    have := a.new x z n
    rw [e] at this; cases this
  refine ⟨a.toGw.trans b.toGw, fun x o e n => b.fr x o (a.fr x o e n) (out x o e n), fun x h n => ?_⟩
  by_cases m1 : x ∈ μ1
  · exact a.new x m1 n
  · have := b.new x h m1
    cases q : H x with
    | none => rfl
    | some o =>
      have z := a.fr x o q n
      rw [this] at z
      cases z
theorem pre_at {μ μ' : List Addr} (p : μ <+: μ') {i : Nat} {a : Addr} (h : μ[i]? = some a) : μ'[i]? = some a := by
  obtain ⟨t, rfl⟩ := p
  rw [List.getElem?_append_left (List.getElem?_eq_some_iff.mp h).1]
  exact h
mutual
theorem Rp.mt {c : Cfg} {μ μ' : List Addr} {H H' : Hp} (g : Gt c μ H μ' H') : ∀ {v : V} {w : Wv}, Rp c μ H v w → Rp c μ' H' v w
  | _, _, .non => .non
  | _, _, .bl b => .bl b
  | _, _, .int i => .int i
  | _, _, .str x => .str x
  | _, _, .tup h r => .tup (g.tq _ _ h) (Rps.mt g r)
  | _, _, .obj h => .obj (pre_at g.pre h)
  | _, _, .glob h => .glob h
  | _, _, .raw v => .raw v
  | _, _, .scr (.inl ⟨ob, h⟩) => .scr (.inl ⟨ob, g.fl _ _ _ nod_lst h⟩)
  | _, _, .scr (.inr h) => .scr (.inr h)
  | _, _, .ptp (.inl ⟨ob, h, d⟩) r => .ptp (.inl ⟨ob, g.fl _ _ _ nod_tup h, d⟩) (Rps.mt g r)
  | _, _, .ptp (.inr h) r => .ptp (.inr h) (Rps.mt g r)
theorem Rps.mt {c : Cfg} {μ μ' : List Addr} {H H' : Hp} (g : Gt c μ H μ' H') : ∀ {vs : List V} {ws : List Wv}, Rps c μ H vs ws → Rps c μ' H' vs ws
  | _, _, .nil => .nil
  | _, _, .cons r t => .cons (Rp.mt g r) (Rps.mt g t)
end
theorem Rp.mv {c : Cfg} {μ μ' : List Addr} {H H' : Hp} (g : Gw c μ H μ' H') {v : V} {w : Wv} (p : Rp c μ H v w) : Rp c μ' H' v w := p.mt g.toGt
theorem Rps.mv {c : Cfg} {μ μ' : List Addr} {H H' : Hp} (g : Gw c μ H μ' H') {vs : List V} {ws : List Wv} (p : Rps c μ H vs ws) : Rps c μ' H' vs ws := p.mt g.toGt
theorem Rp.go {c : Cfg} {μ μ' : List Addr} {H H' : Hp} (g : Go c μ H μ' H') {v : V} {w : Wv} (p : Rp c μ H v w) : Rp c μ' H' v w := p.mv g.toGw
theorem Rps.go {c : Cfg} {μ μ' : List Addr} {H H' : Hp} (g : Go c μ H μ' H') {vs : List V} {ws : List Wv} (p : Rps c μ H vs ws) : Rps c μ' H' vs ws := p.mv g.toGw
section
variable {c : Cfg} {μ : List Addr} {H : Hp}
theorem Rps.length : ∀ {vs : List V} {ws : List Wv}, Rps c μ H vs ws → vs.length = ws.length
  | _, _, .nil => rfl
  | _, _, .cons _ t => by rw [List.length_cons, List.length_cons, Rps.length t]
theorem Rps.at : ∀ {vs : List V} {ws : List Wv} {i : Nat} {w : Wv}, Rps c μ H vs ws → ws[i]? = some w → ∃ v, vs[i]? = some v ∧ Rp c μ H v w
  | _, _, i, _, .nil, h => by simp at h
  | _, _, 0, _, .cons r _, h => by simp at h; subst h; exact ⟨_, rfl, r⟩
  | _, _, i + 1, w, .cons _ t, h => by
    obtain ⟨v, e, r⟩ := Rps.at (i := i) (w := w) t (by simpa using h)
    exact ⟨v, by simpa using e, r⟩
theorem Rps.append : ∀ {vs vs' : List V} {ws ws' : List Wv}, Rps c μ H vs ws → Rps c μ H vs' ws' → Rps c μ H (vs ++ vs') (ws ++ ws')
  | _, _, _, _, .nil, s => s
  | _, _, _, _, .cons r t, s => .cons r (Rps.append t s)
theorem Rps.take : ∀ {vs : List V} {ws : List Wv} (n : Nat), Rps c μ H vs ws → Rps c μ H (vs.take n) (ws.take n)
  | _, _, 0, _ => .nil
  | _, _, _ + 1, .nil => .nil
  | _, _, n + 1, .cons r t => .cons r (Rps.take n t)
theorem Rps.drop : ∀ {vs : List V} {ws : List Wv} (n : Nat), Rps c μ H vs ws → Rps c μ H (vs.drop n) (ws.drop n)
  | _, _, 0, r => r
  | _, _, _ + 1, .nil => .nil
  | _, _, n + 1, .cons _ t => Rps.drop n t
theorem Rps.set {v : V} {w : Wv} (r : Rp c μ H v w) : ∀ {vs : List V} {ws : List Wv} (i : Nat), Rps c μ H vs ws → Rps c μ H (vs.set i v) (ws.set i w)
  | _, _, _, .nil => .nil
  | _, _, 0, .cons _ t => .cons r t
  | _, _, i + 1, .cons q t => .cons q (Rps.set r i t)
theorem Rps.reverse : ∀ {vs : List V} {ws : List Wv}, Rps c μ H vs ws → Rps c μ H vs.reverse ws.reverse
  | _, _, .nil => .nil
  | _, _, .cons r t => by rw [List.reverse_cons, List.reverse_cons]; exact (Rps.reverse t).append (.cons r .nil)
abbrev Rkv {κ : Type} (c : Cfg) (μ : List Addr) (H : Hp) : List (κ × V) → List (κ × Wv) → Prop := Paired fun (p : κ × V) (q : κ × Wv) => p.1 = q.1 ∧ Rp c μ H p.2 q.2
end
theorem Rkv.mt {κ : Type} {c : Cfg} {μ μ' : List Addr} {H H' : Hp} (g : Gt c μ H μ' H') {a : List (κ × V)} {b : List (κ × Wv)} (h : Rkv c μ H a b) : Rkv c μ' H' a b := Paired.mapP h fun _ _ z => ⟨z.1, z.2.mt g⟩
theorem Rkv.mv {κ : Type} {c : Cfg} {μ μ' : List Addr} {H H' : Hp} (g : Gw c μ H μ' H') {a : List (κ × V)} {b : List (κ × Wv)} (h : Rkv c μ H a b) : Rkv c μ' H' a b := Rkv.mt g.toGt h
theorem Rkv.go {κ : Type} {c : Cfg} {μ μ' : List Addr} {H H' : Hp} (g : Go c μ H μ' H') {a : List (κ × V)} {b : List (κ × Wv)} (h : Rkv c μ H a b) : Rkv c μ' H' a b := Rkv.mv g.toGw h

def exq (e C : Addr) (d : Option Addr) : HO := .ext fun h => ∃ (oe : Obj) (vs : Array Value), h.get? e = some oe ∧ Zc (.ref C) d oe ∧ oe.data = .fields vs
def DxAt (μ : List Addr) : Option Nat → Option Addr → Prop
  | none, d => d = none
  | some j, d => ∃ dx, d = some dx ∧ μ[j]? = some dx
theorem DxAt.mv {μ μ' : List Addr} (p : μ <+: μ') : ∀ {j : Option Nat} {d : Option Addr}, DxAt μ j d → DxAt μ' j d
  | none, _, h => h
  | some _, _, ⟨dx, e, h⟩ => ⟨dx, e, pre_at p h⟩
def CodeNm (oc : Obj) (q : PySem.Str) : Prop := ∃ (vs : Array Value) (t : Tok), oc.data = .fields vs ∧ vs[1]? = some (.str q t)
def lamQ (x : PySem.Str) : PySem.Str := x ++ ".<locals>." ++ "<lambda>"
abbrev LKey := PySem.Str × List Nat × List Nat
def kidsE : Expr → List Expr
  | .Call f args _ _ => f :: args
  | .BoolOp _ vs _ => vs
  | .Compare l _ cs _ => l :: cs
  | .UnaryOp _ a _ => [a]
  | .BinOp a _ b _ => [a, b]
  | _ => []
def navE : List Nat → Expr → Option Expr
  | [], e => some e
  | i :: r, e => match (kidsE e)[i]? with | some d => navE r d | none => none
def headS : Stmt → Option Expr
  | .Return e _ => e
  | .Assign _ v _ => some v
  | .AugAssign _ _ v _ => some v
  | .Expr v _ => some v
  | .If t _ _ _ => some t
  | _ => none
def blkS : Stmt → List Stmt
  | .If _ a b _ => a ++ b
  | .For _ _ a _ _ => a
  | .While _ a _ _ => a
  | .FunctionDef (body := b) .. => b
  | _ => []
def navS : List Nat → List Stmt → Option Stmt
  | [], _ => none
  | [i], ss => ss[i]?
  | i :: j :: r, ss => match ss[i]? with | some s => navS (j :: r) (blkS s) | none => none
def isDef (x : PySem.Str) : Stmt → Bool
  | .FunctionDef (name := y) .. => y == x
  | _ => false
def lamAt (P : Program) (k : LKey) : Option Expr := match P.main.body.find? (isDef k.1) with
  | some st => match navS k.2.1 (blkS st) with
    | some s => (headS s).bind (navE k.2.2)
    | none => none
  | none => none
def frOf (sc : Scope) : List PySem.Str := sc.names.filterMap fun y => match y.2 with | .free => some y.1 | _ => none
def CellT (H : Hp) (f x : Addr) (v : V) : Prop := ∃ (o : Obj) (u : Value), H x = some (.frz o (.own f)) ∧ o.data = .cell (some u) ∧ RelV v u
def FnU (c : Cfg) (μ : List Addr) (H : Hp) (a : Addr) (e : LKey) (cs : List Wv) (u : HO) : Prop :=
  ∃ (params : Arguments) (body : Expr) (scope : Scope) (pos : Pos) (q : PySem.Str) (cl : List (PySem.Str × Addr)) (cc : Addr) (pm ctv : Value) (oc : Obj) (vs : List V),
    lamAt c.P e = some (.Lambda params body scope pos) ∧ u = .frz (PySem.W.kla_obj "<lambda>" q params body scope cl pm cc ctv) (.own a) ∧ H cc = some (.frz oc (.own cc)) ∧ CodeNm oc q ∧
    (∀ y x, cl.lookup y = some x → y ∈ frOf scope) ∧ (∀ y z x, cl.lookup y = some x → cl.lookup z = some x → y = z) ∧ Paired (fun (y : PySem.Str) v => ∃ x, cl.lookup y = some x ∧ CellT H a x v) (frOf scope) vs ∧ Rps c μ H vs cs
theorem FnU.mt {c : Cfg} {μ μ' : List Addr} {H H' : Hp} {a : Addr} {e : LKey} {cs : List Wv} {u : HO} (g : Gt c μ H μ' H') (h : FnU c μ H a e cs u) : FnU c μ' H' a e cs u := by
  obtain ⟨params, body, scope, pos, q, cl, cc, pm, ctv, oc, vs, e1, e2, e3, e4, e5, e6, e7, e8⟩ := h
  exact ⟨params, body, scope, pos, q, cl, cc, pm, ctv, oc, vs, e1, e2, g.fl _ _ _ nod_own e3, e4, e5, e6, Paired.mapP e7 fun y v ⟨x, z1, o, w, z2, z3⟩ => ⟨x, z1, o, w, g.fl _ _ _ nod_own z2, z3⟩, e8.mt g⟩
def ObjU (c : Cfg) (μ : List Addr) (H : Hp) (a : Addr) : Ob → HO → Prop
  | .lst ws, u => ∃ vs, u = .lst vs ∧ Rps c μ H vs ws
  | .dk kvs, u => ∃ kvs', u = .dK kvs' ∧ Rkv c μ H kvs' kvs
  | .dt kvs, u => ∃ kvs', u = .dT kvs' ∧ Rkv c μ H kvs' kvs
  | .ins C fs, u => ∃ Ca dx fs', c.mg C = some (.ref Ca) ∧ u = .ins Ca dx fs' ∧ Rkv c μ H fs' fs
  | .frz o, u => ∃ ob u', u = .frz ob u' ∧ ObjU c μ H a o u'
  | .stx L, u => u = RQ.TxO c.P c.w a L
  | .sdt L, u => ∃ rows : List MS.Row, u = MS.MSO c.P c.w a rows ∧ (∀ k, k ∈ rows.map (·.2) ↔ k ∈ L) ∧ ∀ p ∈ rows, H p.1 = some (.tup (p.2.map kV))
  | .xd fs, u => ∃ fs', u = exd a fs' ∧ Rkv c μ H fs' fs
  | .exc C j, u => ∃ Ca d, c.mg C = some (.ref Ca) ∧ u = exq a Ca d ∧ DxAt μ j d
  | .tbl x, u => (∃ C, PySem.W.tabIn c.K x = some (C, a)) ∧ ∃ ps : Array Value, u = .tbl ps ∧ TriplesOk ps.toList ∧ ∀ (pos : Pos) (cv : Value), codeAmong pos ps.toList = some cv → ∃ (d : Addr) (oc : Obj), cv = .ref d ∧ CodeNm oc (lamQ x) ∧ H d = some (.frz oc (.own d))
  | .fn e cs, u => FnU c μ H a e cs u
  | .dead, u => ∃ ob, u = .frz ob (.own a)
theorem ObjU.mt {c : Cfg} {μ μ' : List Addr} {H H' : Hp} {a : Addr} (g : Gt c μ H μ' H') : ∀ {o : Ob} {u : HO}, ObjU c μ H a o u → ObjU c μ' H' a o u
  | .lst _, _, ⟨vs, e, r⟩ => ⟨vs, e, r.mt g⟩
  | .dk _, _, ⟨k, e, r⟩ => ⟨k, e, Rkv.mt g r⟩
  | .dt _, _, ⟨k, e, r⟩ => ⟨k, e, Rkv.mt g r⟩
  | .ins _ _, _, ⟨Ca, dx, fs', m, e, r⟩ => ⟨Ca, dx, fs', m, e, Rkv.mt g r⟩
  | .frz _, _, ⟨ob, u', e, r⟩ => ⟨ob, u', e, ObjU.mt g r⟩
  | .stx _, _, e => e
  | .sdt _, _, ⟨rows, e, q, d⟩ => ⟨rows, e, q, fun p hp => g.tq _ _ (d p hp)⟩
  | .xd _, _, ⟨fs', e, r⟩ => ⟨fs', e, Rkv.mt g r⟩
  | .exc _ _, _, ⟨Ca, d, m, e, r⟩ => ⟨Ca, d, m, e, r.mv g.pre⟩
  | .tbl _, _, ⟨k, ps, e, t, q⟩ => ⟨k, ps, e, t, fun pos cv z => let ⟨d, oc, z1, z2, z3⟩ := q pos cv z; ⟨d, oc, z1, z2, g.fl _ _ _ nod_own z3⟩⟩
  | .fn _ _, _, h => FnU.mt g h
  | .dead, _, h => h
theorem ObjU.mv {c : Cfg} {μ μ' : List Addr} {H H' : Hp} {a : Addr} (g : Gw c μ H μ' H') {o : Ob} {u : HO} (h : ObjU c μ H a o u) : ObjU c μ' H' a o u := h.mt g.toGt
theorem ObjU.go {c : Cfg} {μ μ' : List Addr} {H H' : Hp} {a : Addr} (g : Go c μ H μ' H') {o : Ob} {u : HO} (h : ObjU c μ H a o u) : ObjU c μ' H' a o u := h.mv g.toGw
structure Rel (c : Cfg) (μ : List Addr) (h : Hm) (H : Hp) : Prop where
  len : μ.length = h.length
  nd : μ.Nodup
  at_ : ∀ (i : Nat) (a : Addr) (o : Ob), μ[i]? = some a → h[i]? = some o → ∃ u, H a = some u ∧ ObjU c μ H a o u
theorem Rel.addr {c : Cfg} {μ : List Addr} {h : Hm} {H : Hp} (R : Rel c μ h H) {i : Nat} {o : Ob} (e : h[i]? = some o) : ∃ a, μ[i]? = some a := by
  have := (List.getElem?_eq_some_iff.mp e).1
  rw [← R.len] at this
  exact ⟨_, List.getElem?_eq_getElem this⟩
theorem Rel.get {c : Cfg} {μ : List Addr} {h : Hm} {H : Hp} (R : Rel c μ h H) {i : Nat} {o : Ob} {a : Addr} (ha : μ[i]? = some a) (e : h[i]? = some o) : ∃ u, H a = some u ∧ ObjU c μ H a o u := R.at_ i a o ha e
theorem ObjU.notup {c : Cfg} {μ : List Addr} {H : Hp} {a : Addr} : ∀ {o : Ob} {u : HO}, ObjU c μ H a o u → ∀ xs, ¬ (u = .tup xs ∨ ∃ ob, u = .frz ob (.tup xs))
  | .lst _, _, ⟨vs, e, r⟩, xs, z => by subst e; rcases z with z | ⟨_, z⟩ <;> cases z
  | .dk _, _, ⟨k, e, r⟩, xs, z => by subst e; rcases z with z | ⟨_, z⟩ <;> cases z
  | .dt _, _, ⟨k, e, r⟩, xs, z => by subst e; rcases z with z | ⟨_, z⟩ <;> cases z
  | .ins _ _, _, ⟨Ca, dx, fs', m, e, r⟩, xs, z => by subst e; rcases z with z | ⟨_, z⟩ <;> cases z
  | .frz _, _, ⟨ob, u', e, r⟩, xs, z => by
    subst e
    rcases z with z | ⟨ob', z⟩
    · cases z
    · injection z with z1 z2
      exact ObjU.notup r xs (.inl z2)
  | .stx _, _, e, xs, z => by
    have e : _ = RQ.TxO _ _ _ _ := e
    subst e
    rcases z with z | ⟨_, z⟩ <;> (unfold RQ.TxO at z; cases z)
  | .sdt _, _, ⟨rows, e, q, d⟩, xs, z => by
    subst e
    rcases z with z | ⟨_, z⟩ <;> (unfold MS.MSO at z; cases z)
  | .xd _, _, ⟨fs', e, r⟩, xs, z => by
    subst e
    rcases z with z | ⟨_, z⟩ <;> (unfold exd at z; cases z)
  | .exc _ _, _, ⟨Ca, d, m, e, r⟩, xs, z => by
    subst e
    rcases z with z | ⟨_, z⟩ <;> (unfold exq at z; cases z)
  | .tbl _, _, ⟨k, ps, e, t, q⟩, xs, z => by subst e; rcases z with z | ⟨_, z⟩ <;> cases z
  | .fn _ _, _, ⟨_, _, _, _, _, _, _, _, _, _, _, _, e, _⟩, xs, z => by subst e; rcases z with z | ⟨_, z⟩ <;> cases z
  | .dead, _, ⟨_, e⟩, xs, z => by subst e; rcases z with z | ⟨_, z⟩ <;> cases z
theorem Rel.tupout {c : Cfg} {μ : List Addr} {h : Hm} {H : Hp} (R : Rel c μ h H) {a : Addr} {xs : List V} (z : Rd H a (.tup xs)) : a ∉ μ := fun m => by
  obtain ⟨i, hi⟩ := List.getElem?_of_mem m
  have hl := (List.getElem?_eq_some_iff.mp hi).1
  rw [R.len] at hl
  obtain ⟨u, e, r⟩ := R.at_ i a _ hi (List.getElem?_eq_getElem hl)
  refine r.notup xs ?_
  rcases z with z | ⟨ob, z⟩
  · rw [e] at z; exact .inl (Option.some.inj z)
  · rw [e] at z; exact .inr ⟨ob, Option.some.inj z⟩
theorem Rel.tk {c : Cfg} {μ : List Addr} {h : Hm} {H H' : Hp} (R : Rel c μ h H) (fr : ∀ a o, H a = some o → a ∉ μ → H' a = some o) : ∀ a vs, SqT c.K H a vs → SqT c.K H' a vs := fun a vs z => by
  rcases z with z | z
  · have := R.tupout z
    rcases z with z | ⟨ob, z⟩
    · exact .inl (.inl (fr _ _ z this))
    · exact .inl (.inr ⟨ob, fr _ _ z this⟩)
  · exact .inr z
theorem Rel.tq {c : Cfg} {μ : List Addr} {h : Hm} {H H' : Hp} (R : Rel c μ h H) (fr : ∀ a o, H a = some o → a ∉ μ → H' a = some o) : ∀ a vs, H a = some (.tup vs) → H' a = some (.tup vs) := fun a vs z => fr a _ z (R.tupout (.inl z))
theorem Rel.lay {c : Cfg} {μ : List Addr} {h : Hm} {H : Hp} (R : Rel c μ h H) {p : Addr} (np : H p = none) {o : Ob} {u : HO} (hu : ∀ μ' H', Gw c μ H μ' H' → ObjU c μ' H' p o u) : Go c μ H (μ ++ [p]) (upd H p u) ∧ Rel c (μ ++ [p]) (h ++ [o]) (upd H p u) := by
  have out : p ∉ μ := fun m => by
    obtain ⟨i, hi⟩ := List.getElem?_of_mem m
    have hl := (List.getElem?_eq_some_iff.mp hi).1
    rw [R.len] at hl
    obtain ⟨v, e, _⟩ := R.at_ i p _ hi (List.getElem?_eq_getElem hl)
    rw [np] at e; cases e
  have fr : ∀ a o, H a = some o → upd H p u a = some o := fun a o e => by rw [upd_ne (ne_of_none e np)]; exact e
  have g : Go c μ H (μ ++ [p]) (upd H p u) := ⟨⟨⟨List.prefix_append _ _, R.tk fun a o e _ => fr a o e, R.tq fun a o e _ => fr a o e, fun a ob xs _ e => fr a _ e⟩, fun a ob u e => fr a _ e⟩, fun a o e _ => fr a o e, fun a m n => by
    rcases List.mem_append.mp m with m | m
    · exact absurd m n
    · rw [List.mem_singleton.mp m]; exact np⟩
  refine ⟨g, ⟨by rw [List.length_append, List.length_append, R.len]; rfl, List.nodup_append.mpr ⟨R.nd, (by simp), fun a ha b hb e => by rw [List.mem_singleton.mp hb] at e; exact out (by rw [← e]; exact ha)⟩, fun i a o' ha ho => ?_⟩⟩
  by_cases hi : i < μ.length
  · rw [List.getElem?_append_left hi] at ha
    rw [List.getElem?_append_left (by rw [← R.len]; exact hi)] at ho
    obtain ⟨v, e, r⟩ := R.at_ i a o' ha ho
    exact ⟨v, fr _ _ e, r.go g⟩
  · have hl := (List.getElem?_eq_some_iff.mp ha).1
    rw [List.length_append, List.length_singleton] at hl
    have e : i = μ.length := by omega
    subst e
    rw [List.getElem?_append_right (Nat.le_refl _), Nat.sub_self] at ha
    rw [R.len, List.getElem?_append_right (Nat.le_refl _), Nat.sub_self] at ho
    cases ha
    cases ho
    exact ⟨u, upd_same, hu _ _ g.toGw⟩
theorem Rel.put {c : Cfg} {μ : List Addr} {h : Hm} {H : Hp} (R : Rel c μ h H) {i : Nat} {a : Addr} (ha : μ[i]? = some a) (nf : ∀ ob u, H a ≠ some (.frz ob u)) {o : Ob} {u : HO} (hu : ∀ μ' H', Gw c μ H μ' H' → ObjU c μ' H' a o u) : Go c μ H μ (upd H a u) ∧ Rel c μ (h.set i o) (upd H a u) := by
  have am : a ∈ μ := List.mem_of_getElem? ha
  have fr : ∀ b o, H b = some o → b ∉ μ → upd H a u b = some o := fun b o e n => by rw [upd_ne (fun z => n (by rw [z]; exact am))]; exact e
  have g : Go c μ H μ (upd H a u) := ⟨⟨⟨List.prefix_refl _, R.tk fr, R.tq fr, fun b ob xs _ e => by rw [upd_ne (fun z => nf ob xs (by rw [← z]; exact e))]; exact e⟩, fun b ob v e => by rw [upd_ne (fun z => nf ob v (by rw [← z]; exact e))]; exact e⟩, fr, fun b m n => absurd m n⟩
  refine ⟨g, ⟨by rw [List.length_set]; exact R.len, R.nd, fun j b o' hb ho => ?_⟩⟩
  by_cases e : j = i
  · subst e
    rw [ha] at hb; cases hb
    have hl := (List.getElem?_eq_some_iff.mp ha).1
    rw [R.len] at hl
    rw [List.getElem?_set_self hl] at ho
    cases ho
    exact ⟨u, upd_same, hu _ _ g.toGw⟩
  · rw [List.getElem?_set_ne (fun z => e z.symm)] at ho
    obtain ⟨v, ev, r⟩ := R.at_ j b o' hb ho
    have nb : b ≠ a := fun z => by
      subst z
      have h1 := List.getElem?_eq_some_iff.mp ha
      have h2 := List.getElem?_eq_some_iff.mp hb
      exact e ((List.getElem_inj R.nd).mp (h2.2.trans h1.2.symm))
    exact ⟨v, by rw [upd_ne nb]; exact ev, r.go g⟩
theorem Rel.aside {c : Cfg} {μ : List Addr} {h : Hm} {H : Hp} (R : Rel c μ h H) {p : Addr} (np : H p = none) {u : HO} : Go c μ H μ (upd H p u) ∧ Rel c μ h (upd H p u) := by
  have fr : ∀ a o, H a = some o → upd H p u a = some o := fun a o e => by rw [upd_ne (ne_of_none e np)]; exact e
  have g : Go c μ H μ (upd H p u) := ⟨⟨⟨List.prefix_refl _, R.tk fun a o e _ => fr a o e, R.tq fun a o e _ => fr a o e, fun a ob xs _ e => fr a _ e⟩, fun a ob u e => fr a _ e⟩, fun a o e _ => fr a o e, fun a m n => absurd m n⟩
  refine ⟨g, ⟨R.len, R.nd, fun i a o ha ho => ?_⟩⟩
  obtain ⟨v, e, r⟩ := R.at_ i a o ha ho
  exact ⟨v, fr _ _ e, r.go g⟩
def RpO (c : Cfg) (μ : List Addr) (H : Hp) : Option V → Option Wv → Prop
  | some v, some w => Rp c μ H v w
  | _, none => True
  | none, some _ => False
abbrev RpS (c : Cfg) (μ : List Addr) (H : Hp) : L2.St → Env → Prop := Paired (RpO c μ H)
theorem RpO.mt {c : Cfg} {μ μ' : List Addr} {H H' : Hp} (g : Gt c μ H μ' H') : ∀ {v : Option V} {w : Option Wv}, RpO c μ H v w → RpO c μ' H' v w
  | some _, some _, h => Rp.mt g h
  | none, none, _ => trivial
  | some _, none, _ => trivial
  | none, some _, h => h
theorem RpS.mt {c : Cfg} {μ μ' : List Addr} {H H' : Hp} {σ : L2.St} {ρ : Env} (g : Gt c μ H μ' H') (h : RpS c μ H σ ρ) : RpS c μ' H' σ ρ := Paired.mapP h fun _ _ z => RpO.mt g z
theorem RpS.mv {c : Cfg} {μ μ' : List Addr} {H H' : Hp} {σ : L2.St} {ρ : Env} (g : Gw c μ H μ' H') (h : RpS c μ H σ ρ) : RpS c μ' H' σ ρ := h.mt g.toGt
theorem RpS.go {c : Cfg} {μ μ' : List Addr} {H H' : Hp} {σ : L2.St} {ρ : Env} (g : Go c μ H μ' H') (h : RpS c μ H σ ρ) : RpS c μ' H' σ ρ := h.mv g.toGw
theorem RpS.at {c : Cfg} {μ : List Addr} {H : Hp} : ∀ {σ : L2.St} {ρ : Env} {i : Nat} {w : Wv}, RpS c μ H σ ρ → ρ[i]? = some (some w) → ∃ v, σ[i]? = some (some v) ∧ Rp c μ H v w
  | _, _, i, _, .nil, h => by simp at h
  | _, _, 0, _, .cons (a := some v) r _, h => by simp at h; subst h; exact ⟨v, rfl, r⟩
  | _, _, 0, _, .cons (a := none) r _, h => by simp at h; subst h; exact absurd r (by simp [RpO])
  | _, _, i + 1, w, .cons _ t, h => by
    obtain ⟨v, e, r⟩ := RpS.at (i := i) (w := w) t (by simpa using h)
    exact ⟨v, by simpa using e, r⟩
theorem RpS.set {c : Cfg} {μ : List Addr} {H : Hp} {v : Option V} {w : Option Wv} (r : RpO c μ H v w) : ∀ {σ : L2.St} {ρ : Env} (i : Nat), RpS c μ H σ ρ → RpS c μ H (σ.set i v) (ρ.set i w)
  | _, _, _, .nil => .nil
  | _, _, 0, .cons _ t => .cons r t
  | _, _, i + 1, .cons q t => .cons q (RpS.set r i t)
structure At (c : Cfg) (μ : List Addr) (h : Hm) (H : Hp) (σ : L2.St) (ρ : Env) : Prop where
  rel : Rel c μ h H
  sl : RpS c μ H σ ρ
theorem At.go {c : Cfg} {μ μ' : List Addr} {h h' : Hm} {H H' : Hp} {σ : L2.St} {ρ : Env} (A : At c μ h H σ ρ) (g : Go c μ H μ' H') (R : Rel c μ' h' H') : At c μ' h' H' σ ρ := ⟨R, A.sl.go g⟩
end MM

set_option maxRecDepth 100000
set_option maxHeartbeats 4000000
namespace MM
open PySem PySem.Spec PyProof.Rows L2

def Nx (c : Cfg) (μ : List Addr) (H : Hp) (h' : Hm) (w : Wv) (Q : VK) : Prop := ∀ μ' v H', Go c μ H μ' H' → Rel c μ' h' H' → Rp c μ' H' v w → Q v H'
def Nb (c : Cfg) (μ : List Addr) (H : Hp) (h' : Hm) (b : Bool) (Q : Bool → Hp → Prop) : Prop := ∀ μ' H', Go c μ H μ' H' → Rel c μ' h' H' → Q b H'
def Na (c : Cfg) (μ : List Addr) (H : Hp) (h' : Hm) (ws : List Wv) (Q : List V → Hp → Prop) : Prop := ∀ μ' vs H', Go c μ H μ' H' → Rel c μ' h' H' → Rps c μ' H' vs ws → Q vs H'
abbrev TM := Env → M Bool
abbrev AM := Env → M (List Wv)
def mE (c : Cfg) (m : EM) : TE := fun σ H Q => ∃ μ ρ h w h', At c μ h H σ ρ ∧ m ρ h = .ok w h' ∧ Nx c μ H h' w Q
def mT (c : Cfg) (m : TM) : TT := fun σ H Q => ∃ μ ρ h b h', At c μ h H σ ρ ∧ m ρ h = .ok b h' ∧ Nb c μ H h' b Q
def mA (c : Cfg) (m : AM) : TA := fun σ H Q => ∃ μ ρ h ws h', At c μ h H σ ρ ∧ m ρ h = .ok ws h' ∧ Na c μ H h' ws Q
theorem PE.imp {X : Cx} {e : Expr} {t t' : TE} (p : PE X e t) (f : ∀ σ H Q, t' σ H Q → t σ H Q) : PE X e t' := ⟨fun pins s σ H Q I h => p.run pins s σ H Q I (f σ H Q h)⟩
theorem PT.imp {X : Cx} {e : Expr} {t t' : TT} (p : PT X e t) (f : ∀ σ H Q, t' σ H Q → t σ H Q) : PT X e t' := ⟨fun pins s σ H Q I h => p.run pins s σ H Q I (f σ H Q h)⟩
theorem PW.imp {X : Cx} {e : Expr} {t t' : TT} (p : PW X e t) (f : ∀ σ H Q, t' σ H Q → t σ H Q) : PW X e t' := ⟨fun wh pins s σ H Q I h => p.run wh pins s σ H Q I (f σ H Q h)⟩
theorem PA.imp {X : Cx} {e : List Expr} {t t' : TA} (p : PA X e t) (f : ∀ σ H Q, t' σ H Q → t σ H Q) : PA X e t' := ⟨fun pos pins s σ H Q I h => p.run pos pins s σ H Q I (f σ H Q h)⟩
abbrev ME (X : Cx) (e : Expr) (m : EM) : Prop := PE X e (mE (cfg X) m)
abbrev MT (X : Cx) (e : Expr) (m : TM) : Prop := PT X e (mT (cfg X) m)
abbrev MW (X : Cx) (e : Expr) (m : TM) : Prop := PW X e (mT (cfg X) m)
abbrev MA (X : Cx) (es : List Expr) (m : AM) : Prop := PA X es (mA (cfg X) m)
section
variable {c : Cfg} {μ μ1 : List Addr} {h h1 h' : Hm} {H H1 : Hp} {σ : L2.St} {ρ : Env} {w : Wv} {Q : VK}
theorem Nx.after (n : Nx c μ H h' w Q) (g : Go c μ H μ1 H1) : Nx c μ1 H1 h' w Q := fun μ' v H' g' r p => n μ' v H' (g.trans g') r p
theorem Nx.now {v : V} (n : Nx c μ H h' w Q) (r : Rel c μ h' H) (p : Rp c μ H v w) : Q v H := n μ v H (Go.refl ..) r p
theorem Nb.after {b : Bool} {Q : Bool → Hp → Prop} (n : Nb c μ H h' b Q) (g : Go c μ H μ1 H1) : Nb c μ1 H1 h' b Q := fun μ' H' g' r => n μ' H' (g.trans g') r
theorem Nb.now {b : Bool} {Q : Bool → Hp → Prop} (n : Nb c μ H h' b Q) (r : Rel c μ h' H) : Q b H := n μ H (Go.refl ..) r
theorem Na.after {ws : List Wv} {Q : List V → Hp → Prop} (n : Na c μ H h' ws Q) (g : Go c μ H μ1 H1) : Na c μ1 H1 h' ws Q := fun μ' vs H' g' r p => n μ' vs H' (g.trans g') r p
theorem Na.now {ws : List Wv} {vs : List V} {Q : List V → Hp → Prop} (n : Na c μ H h' ws Q) (r : Rel c μ h' H) (p : Rps c μ H vs ws) : Q vs H := n μ vs H (Go.refl ..) r p
theorem mE_first {m : EM} (A : At c μ h H σ ρ) (e : m ρ h = .ok w h1) (f : ∀ μ1 v H1, Go c μ H μ1 H1 → At c μ1 h1 H1 σ ρ → Rp c μ1 H1 v w → Q v H1) : mE c m σ H Q :=
  ⟨μ, ρ, h, w, h1, A, e, fun μ1 v H1 g r p => f μ1 v H1 g (A.go g r) p⟩
theorem mT_first {m : TM} {b : Bool} {Q : Bool → Hp → Prop} (A : At c μ h H σ ρ) (e : m ρ h = .ok b h1) (f : ∀ μ1 H1, Go c μ H μ1 H1 → At c μ1 h1 H1 σ ρ → Q b H1) : mT c m σ H Q :=
  ⟨μ, ρ, h, b, h1, A, e, fun μ1 H1 g r => f μ1 H1 g (A.go g r)⟩
theorem mA_first {m : AM} {ws : List Wv} {Q : List V → Hp → Prop} (A : At c μ h H σ ρ) (e : m ρ h = .ok ws h1) (f : ∀ μ1 vs H1, Go c μ H μ1 H1 → At c μ1 h1 H1 σ ρ → Rps c μ1 H1 vs ws → Q vs H1) : mA c m σ H Q :=
  ⟨μ, ρ, h, ws, h1, A, e, fun μ1 vs H1 g r p => f μ1 vs H1 g (A.go g r) p⟩
end

def eVar (i : Nat) : EM := fun ρ h => match ρ[i]? with | some (some w) => .ok w h | _ => .no
def eC (w : Wv) : EM := fun _ h => .ok w h
section
variable {X : Cx}
theorem me_var {i : Nat} {x : PySem.Str} {pos : Pos} (hN : X.N[i]? = some x) (hv : Vis X.env.scope x) (hd : (x == ("__debug__" : PySem.Str)) = false := by decide) (hcd : (x == ("__classdict__" : PySem.Str)) = false := by decide) : ME X (.Name x pos) (eVar i) :=
  PE.imp (pe_var hN hv hd hcd) fun σ H Q ⟨μ, ρ, h, w, h', A, e, n⟩ => by
    unfold eVar at e
    cases q : ρ[i]? with
    | none => rw [q] at e; cases e
    | some o =>
      cases o with
      | none => rw [q] at e; cases e
      | some w0 =>
        rw [q] at e
        cases e
        obtain ⟨v, hv, r⟩ := A.sl.at q
        exact ⟨v, hv, n.now A.rel r⟩
theorem me_c {e : Expr} {v : V} {w : Wv} (p : PE X e (tC v)) (r : ∀ μ H, Rp (cfg X) μ H v w) : ME X e (eC w) := PE.imp p fun σ H Q ⟨μ, ρ, h, w', h', A, e, n⟩ => by
  cases e
  exact n.now A.rel (r μ H)
theorem me_int {i : Int} {j : Nat} {pos : Pos} : ME X (.Constant (.int i) j pos) (eC (.int i)) := me_c pe_int fun _ _ => .int i
theorem me_bl {b : Bool} {j : Nat} {pos : Pos} : ME X (.Constant (.bool b) j pos) (eC (.bl b)) := me_c pe_bl fun _ _ => .bl b
theorem me_non {j : Nat} {pos : Pos} : ME X (.Constant .none j pos) (eC .non) := me_c pe_non fun _ _ => .non
theorem me_str {x : PySem.Str} {j : Nat} {pos : Pos} : ME X (.Constant (.str x) j pos) (eC (.str x)) := me_c pe_str fun _ _ => .str x

def aNil : AM := fun _ h => .ok [] h
def aCons (e : EM) (r : AM) : AM := fun ρ => (e ρ).bind fun w => (r ρ).bind fun ws => M.pure (w :: ws)
theorem ma_nil : MA X [] aNil := PA.imp pa_nil fun σ H Q ⟨μ, ρ, h, w', h', A, e, n⟩ => by
  cases e
  exact n.now A.rel .nil
theorem ma_cons {e : Expr} {es : List Expr} {m : EM} {r : AM} (ha : ME X e m) (hr : MA X es r) (hs : starEach (e :: es) X.env = (false, eval e X.env) :: starEach es X.env := by rfl) : MA X (e :: es) (aCons m r) :=
  PA.imp (pa_cons ha hr hs) fun σ H Q ⟨μ, ρ, h, ws, h', A, e, n⟩ => by
    obtain ⟨w, h1, e1, e⟩ := bind_ok e
    obtain ⟨r1, h2, e2, e⟩ := bind_ok e
    cases e
    exact mE_first A e1 fun μ1 v H1 g1 A1 p1 => mA_first A1 e2 fun μ2 vs H2 g2 A2 p2 => (n.after (g1.trans g2)).now A2.rel (.cons (p1.go g2) p2)
def small {α : Type} (xs : List α) : Bool := decide (xs.length ≤ sizeLine)
def lay (o : Ob) : M Wv := fun h => .ok (.obj h.length) (h ++ [o])
def eTup (a : AM) : EM := fun ρ => (a ρ).bind fun ws => if small ws then M.pure (.tup ws) else M.no
def eLst (a : AM) : EM := fun ρ => (a ρ).bind fun ws => if small ws then lay (.lst ws) else M.no
theorem if_ok {α : Type} {b : Bool} {m : M α} {h : Hm} {a : α} {h' : Hm} (e : (if b = true then m else M.no) h = .ok a h') : b = true ∧ m h = .ok a h' := by
  cases b with
  | true => exact ⟨rfl, e⟩
  | false => cases e
theorem Rp.lay {c : Cfg} {μ : List Addr} {h : Hm} {H : Hp} {p : Addr} (R : Rel c μ h H) : Rp c (μ ++ [p]) H (.ref p) (.obj h.length) := .obj (by rw [← R.len]; simp)
theorem Nx.lay {c : Cfg} {μ : List Addr} {h : Hm} {H : Hp} {Q : VK} {o : Ob} {u : HO} {p : Addr} (n : Nx c μ H (h ++ [o]) (.obj h.length) Q) (R : Rel c μ h H) (np : H p = none) (hu : ∀ μ' H', Gw c μ H μ' H' → ObjU c μ' H' p o u) : Q (.ref p) (upd H p u) := by
  obtain ⟨g, R'⟩ := R.lay np hu
  exact n _ _ _ g R' (.obj (by rw [← R.len]; simp))
theorem Nx.tup {c : Cfg} {μ : List Addr} {h : Hm} {H : Hp} {Q : VK} {vs : List V} {ws : List Wv} {p : Addr} (n : Nx c μ H h (.tup ws) Q) (R : Rel c μ h H) (r : Rps c μ H vs ws) (np : H p = none) : Q (.ref p) (upd H p (.tup vs)) := by
  obtain ⟨g, R'⟩ := R.aside np (u := .tup vs)
  exact n _ _ _ g R' (.tup upd_same (r.go g))
theorem me_tup {es : List Expr} {m : AM} {k : Nat} {pos : Pos} (ha : MA X es m) : ME X (.Tuple es k pos) (eTup m) := PE.imp (pe_tup ha) fun σ H Q ⟨μ, ρ, h, w, h', A, e, n⟩ => by
  obtain ⟨ws, h1, e1, e⟩ := bind_ok e
  obtain ⟨sm, e⟩ := if_ok e
  cases e
  refine mA_first A e1 fun μ1 vs H1 g1 A1 p1 => ⟨by rw [p1.length]; exact of_decide_eq_true sm, fun p np => (n.after g1).tup A1.rel p1 np⟩
theorem me_lst {es : List Expr} {m : AM} {pos : Pos} (ha : MA X es m) : ME X (.List es pos) (eLst m) := PE.imp (pe_lst ha) fun σ H Q ⟨μ, ρ, h, w, h', A, e, n⟩ => by
  obtain ⟨ws, h1, e1, e⟩ := bind_ok e
  obtain ⟨sm, e⟩ := if_ok e
  cases e
  refine mA_first A e1 fun μ1 vs H1 g1 A1 p1 => ⟨by rw [p1.length]; exact of_decide_eq_true sm, fun p np => (n.after g1).lay A1.rel np fun _ _ g => ⟨vs, rfl, p1.mv g⟩⟩

abbrev F2 := Wv → Wv → M Wv
def LOp (c : Cfg) (f : F2) (r : R2) : Prop := ∀ {μ h H v1 v2 w1 w2 w h' Q}, Rel c μ h H → Rp c μ H v1 w1 → Rp c μ H v2 w2 → f w1 w2 h = .ok w h' → Nx c μ H h' w Q → r v1 v2 H Q
def eOp (f : F2) (a b : EM) : EM := fun ρ => (a ρ).bind fun x => (b ρ).bind fun y => f x y
theorem eOp_to {c : Cfg} {f : F2} {r : R2} {ma mb : EM} (l : LOp c f r) {σ : L2.St} {H : Hp} {Q : VK} (z : mE c (eOp f ma mb) σ H Q) : tOp r (mE c ma) (mE c mb) σ H Q := by
  obtain ⟨μ, ρ, h, w, h', A, e, n⟩ := z
  obtain ⟨x, h1, e1, e⟩ := bind_ok e
  obtain ⟨y, h2, e2, e⟩ := bind_ok e
  exact mE_first A e1 fun μ1 v1 H1 g1 A1 p1 => mE_first A1 e2 fun μ2 v2 H2 g2 A2 p2 => l A2.rel (p1.go g2) p2 e (n.after (g1.trans g2))
theorem me_op {a b : Expr} {op : Operator} {pos : Pos} {f : F2} {r : R2} {ma mb : EM} (ho : OpR X (binaryOp op) r) (l : LOp (cfg X) f r) (ha : ME X a ma) (hb : ME X b mb) : ME X (.BinOp a op b pos) (eOp f ma mb) :=
  PE.imp (pe_op ho ha hb) fun σ H Q z => eOp_to l z
theorem me_cmp {a b : Expr} {op : CmpOp} {pos : Pos} {f : F2} {r : R2} {ma mb : EM} (ho : OpR X (compareOp op) r) (l : LOp (cfg X) f r) (ha : ME X a ma) (hb : ME X b mb) (hm : behindInMarks op b = false) : ME X (.Compare a [op] [b] pos) (eOp f ma mb) :=
  PE.imp (pe_cmpR ho ha hb hm) fun σ H Q z => eOp_to l z
theorem me_ix {a b : Expr} {pos : Pos} {f : F2} {r : R2} {ma mb : EM} (ho : IxR X r) (l : LOp (cfg X) f r) (ha : ME X a ma) (hb : ME X b mb) (hs : PlainIx b) : ME X (.Subscript a b pos) (eOp f ma mb) :=
  PE.imp (pe_ix ho ha hb hs) fun σ H Q z => eOp_to l z
def asB : Wv → M Bool
  | .bl b => M.pure b
  | _ => M.no
def tOf (e : EM) : TM := fun ρ => (e ρ).bind asB
theorem asB_ok {w : Wv} {h h' : Hm} {b : Bool} (e : asB w h = .ok b h') : w = .bl b ∧ h' = h := by
  cases w with
  | bl b' => cases e; exact ⟨rfl, rfl⟩
  | _ => cases e
theorem Rp.bl_inv {c : Cfg} {μ : List Addr} {H : Hp} {v : V} {b : Bool} (p : Rp c μ H v (.bl b)) : v = .bl b := by cases p; rfl
theorem Rp.int_inv {c : Cfg} {μ : List Addr} {H : Hp} {v : V} {i : Int} (p : Rp c μ H v (.int i)) : v = .int i := by cases p; rfl
theorem Rp.str_inv {c : Cfg} {μ : List Addr} {H : Hp} {v : V} {x : PySem.Str} (p : Rp c μ H v (.str x)) : v = .str x := by cases p; rfl
theorem Rp.non_inv {c : Cfg} {μ : List Addr} {H : Hp} {v : V} (p : Rp c μ H v .non) : v = .non := by cases p; rfl
theorem Rp.tup_inv {c : Cfg} {μ : List Addr} {H : Hp} {v : V} {ws : List Wv} (p : Rp c μ H v (.tup ws)) : ∃ a vs, v = .ref a ∧ SqT c.K H a vs ∧ Rps c μ H vs ws := by
  cases p with
  | tup h r => exact ⟨_, _, rfl, .of h, r⟩
theorem Rp.tup_at {c : Cfg} {μ : List Addr} {H : Hp} {v : V} {ws : List Wv} (p : Rp c μ H v (.tup ws)) : ∃ a vs, v = .ref a ∧ H a = some (.tup vs) ∧ Rps c μ H vs ws := by
  cases p with
  | tup h r => exact ⟨_, _, rfl, h, r⟩
theorem Rp.obj_inv {c : Cfg} {μ : List Addr} {H : Hp} {v : V} {i : Nat} (p : Rp c μ H v (.obj i)) : ∃ a, v = .ref a ∧ μ[i]? = some a := by
  cases p with
  | obj h => exact ⟨_, rfl, h⟩
theorem Rp.ptp_inv {c : Cfg} {μ : List Addr} {H : Hp} {v : V} {ws : List Wv} (p : Rp c μ H v (.ptp ws)) : ∃ a vs, v = .ref a ∧ PlT c H a vs ∧ Rps c μ H vs ws := by
  cases p with
  | ptp h r => exact ⟨_, _, rfl, h, r⟩
theorem Rp.scr_inv {c : Cfg} {μ : List Addr} {H : Hp} {v : V} {ns : List Int} (p : Rp c μ H v (.scr ns)) : ∃ a, v = .ref a ∧ ScrAt c H a ns := by
  cases p with
  | scr h => exact ⟨_, rfl, h⟩
theorem mt_cmp {a b : Expr} {op : CmpOp} {pos : Pos} {f : F2} {r : R2} {ma mb : EM} (ho : OpR X (compareOp op) r) (l : LOp (cfg X) f r) (ha : ME X a ma) (hb : ME X b mb) (hm : behindInMarks op b = false) : MT X (.Compare a [op] [b] pos) (tOf (eOp f ma mb)) :=
  PT.imp (pt_cmpR ho ha hb hm) fun σ H Q ⟨μ, ρ, h, b, h', A, e, n⟩ => by
    obtain ⟨w, h1, e1, e⟩ := bind_ok e
    obtain ⟨rfl, rfl⟩ := asB_ok e
    exact eOp_to l ⟨μ, ρ, h, _, h', A, e1, fun μ' v H' g r p => ⟨b, p.bl_inv, n μ' H' g r⟩⟩
def truM : Wv → M Bool
  | .non => M.pure false
  | .bl b => M.pure b
  | .int i => M.pure (i != 0)
  | .str y => fun h => if y.length ≤ sizeLine then .ok ((y.length : Int) != 0) h else .no
  | .tup ws => M.pure (!ws.isEmpty)
  | .obj i => fun h => match h[i]? with
    | some (.lst ws) => .ok (!ws.isEmpty) h
    | some (.frz (.lst ws)) => .ok (!ws.isEmpty) h
    | some (.dk kvs) => .ok (!kvs.isEmpty) h
    | _ => .no
  | .scr ns => M.pure (!ns.isEmpty)
  | .ptp ws => M.pure (!ws.isEmpty)
  | _ => M.no
def tTru (e : EM) : TM := fun ρ => (e ρ).bind truM
theorem Rps.isEmpty {c : Cfg} {μ : List Addr} {H : Hp} {vs : List V} {ws : List Wv} (r : Rps c μ H vs ws) : ws.isEmpty = vs.isEmpty := by cases r <;> rfl
theorem paired_isEmpty {α β : Type} {F : α → β → Prop} {a : List α} {b : List β} (r : Paired F a b) : b.isEmpty = a.isEmpty := by cases r <;> rfl
theorem tru_to {c : Cfg} {μ : List Addr} {h h' : Hm} {H : Hp} {v : V} {w : Wv} {b : Bool} (R : Rel c μ h H) (p : Rp c μ H v w) (e : truM w h = .ok b h') : h' = h ∧ TruV c.K v H b := by
  cases p with
  | non => cases e; exact ⟨rfl, rfl⟩
  | bl b => cases e; exact ⟨rfl, rfl⟩
  | int i => cases e; exact ⟨rfl, rfl⟩
  | str y =>
    simp only [truM] at e
    by_cases hy : y.length ≤ sizeLine
    · rw [if_pos hy] at e; cases e; exact ⟨rfl, hy, rfl⟩
    · rw [if_neg hy] at e; cases e
  | tup q r => cases e; exact ⟨rfl, .inr (.inl ⟨_, .of q, by rw [r.isEmpty]⟩)⟩
  | obj ha =>
    simp only [truM] at e
    split at e
    · next ws q =>
      cases e
      obtain ⟨u, hu, vs, rfl, r⟩ := R.get ha q
      exact ⟨rfl, .inl ⟨vs, .inl (.inl hu), by rw [r.isEmpty]⟩⟩
    · next ws q =>
      cases e
      obtain ⟨u, hu, ob, u', rfl, vs, rfl, r⟩ := R.get ha q
      exact ⟨rfl, .inl ⟨vs, .inl (.inr ⟨_, hu⟩), by rw [r.isEmpty]⟩⟩
    · next kvs q =>
      cases e
      obtain ⟨u, hu, vs, rfl, r⟩ := R.get ha q
      exact ⟨rfl, .inr (.inr ⟨vs, hu, by rw [paired_isEmpty r]⟩)⟩
    · cases e
  | glob _ => cases e
  | raw _ => cases e
  | @scr a ns hs =>
    cases e
    refine ⟨rfl, .inl ⟨_, hs.sq, ?_⟩⟩
    cases ns <;> rfl
  | ptp q r => cases e; exact ⟨rfl, .inr (.inl ⟨_, q.sq, by rw [r.isEmpty]⟩)⟩
theorem mt_tru {e : Expr} {m : EM} (he : ME X e m) (hw : ∀ whole, isTrue e X.env whole = (do let v ← whole; standAt e.pos; holding [v] (truthy v)) := by intro _; rfl) : MT X e (tTru m) :=
  PT.imp (pt_truth he hw) fun σ H Q ⟨μ, ρ, h, b, h', A, e, n⟩ => by
    obtain ⟨w, h1, e1, e⟩ := bind_ok e
    refine mE_first A e1 fun μ1 v H1 g A1 p => ?_
    obtain ⟨rfl, t⟩ := tru_to A1.rel p e
    exact ⟨b, t, n μ1 H1 g A1.rel⟩

def tAndM (a b : TM) : TM := fun ρ => (a ρ).bind fun x => if x = true then b ρ else M.pure false
def tOrM (a b : TM) : TM := fun ρ => (a ρ).bind fun x => if x = true then M.pure true else b ρ
def tNotM (a : TM) : TM := fun ρ => (a ρ).bind fun x => M.pure (!x)
theorem tAnd_to {c : Cfg} {ma mb : TM} {σ : L2.St} {H : Hp} {Q : Bool → Hp → Prop} (z : mT c (tAndM ma mb) σ H Q) : tAnd (mT c ma) (mT c mb) σ H Q := by
  obtain ⟨μ, ρ, h, b, h', A, e, n⟩ := z
  obtain ⟨x, h1, e1, e⟩ := bind_ok e
  refine mT_first A e1 fun μ1 H1 g1 A1 => ?_
  cases x with
  | true => exact ⟨μ1, ρ, h1, b, h', A1, e, n.after g1⟩
  | false => cases e; exact (n.after g1).now A1.rel
theorem tOr_to {c : Cfg} {ma mb : TM} {σ : L2.St} {H : Hp} {Q : Bool → Hp → Prop} (z : mT c (tOrM ma mb) σ H Q) : tOr (mT c ma) (mT c mb) σ H Q := by
  obtain ⟨μ, ρ, h, b, h', A, e, n⟩ := z
  obtain ⟨x, h1, e1, e⟩ := bind_ok e
  refine mT_first A e1 fun μ1 H1 g1 A1 => ?_
  cases x with
  | true => cases e; exact (n.after g1).now A1.rel
  | false => exact ⟨μ1, ρ, h1, b, h', A1, e, n.after g1⟩
theorem tNot_to {c : Cfg} {ma : TM} {σ : L2.St} {H : Hp} {Q : Bool → Hp → Prop} (z : mT c (tNotM ma) σ H Q) : tNot (mT c ma) σ H Q := by
  obtain ⟨μ, ρ, h, b, h', A, e, n⟩ := z
  obtain ⟨x, h1, e1, e⟩ := bind_ok e
  cases e
  exact mT_first A e1 fun μ1 H1 g1 A1 => (n.after g1).now A1.rel
theorem mw_and1 {a : Expr} {pos : Pos} {m : TM} (ha : MT X a m) : MW X (.BoolOp .And [a] pos) m := pw_and1 ha
theorem mw_or1 {a : Expr} {pos : Pos} {m : TM} (ha : MT X a m) : MW X (.BoolOp .Or [a] pos) m := pw_or1 ha
theorem mw_and {a b : Expr} {rest : List Expr} {pos : Pos} {ma mb : TM} (ha : MT X a ma) (hb : MW X (.BoolOp .And (b :: rest) pos) mb) : MW X (.BoolOp .And (a :: b :: rest) pos) (tAndM ma mb) := PW.imp (pw_and ha hb) fun _ _ _ z => tAnd_to z
theorem mw_or {a b : Expr} {rest : List Expr} {pos : Pos} {ma mb : TM} (ha : MT X a ma) (hb : MW X (.BoolOp .Or (b :: rest) pos) mb) : MW X (.BoolOp .Or (a :: b :: rest) pos) (tOrM ma mb) := PW.imp (pw_or ha hb) fun _ _ _ z => tOr_to z
theorem mt_bool {e : Expr} {m : TM} (h : MW X e m) : MT X e m := PW.pt h
theorem mt_not {a : Expr} {pos : Pos} {m : TM} (ha : MT X a m) : MT X (.UnaryOp .Not a pos) (tNotM m) := PT.imp (pt_not ha) fun _ _ _ z => tNot_to z
def eAnd (a b : EM) : EM := fun ρ => (a ρ).bind fun x => (asB x).bind fun k => if k = true then b ρ else M.pure (.bl false)
def eOr (a b : EM) : EM := fun ρ => (a ρ).bind fun x => (asB x).bind fun k => if k = true then M.pure (.bl true) else b ρ
def eNot (a : EM) : EM := fun ρ => (a ρ).bind fun x => (asB x).bind fun k => M.pure (.bl (!k))
theorem me_one {a : Expr} {op : BoolOp} {pos : Pos} {m : EM} (h : ME X a m) : ME X (.BoolOp op [a] pos) m := pe_one h
theorem me_and {a b : Expr} {rest : List Expr} {pos : Pos} {ma mb : EM} (ha : ME X a ma) (hb : ME X (.BoolOp .And (b :: rest) pos) mb) : ME X (.BoolOp .And (a :: b :: rest) pos) (eAnd ma mb) :=
  PE.imp (pe_and ha hb) fun σ H Q ⟨μ, ρ, h, w, h', A, e, n⟩ => by
    obtain ⟨x, h1, e1, e⟩ := bind_ok e
    obtain ⟨k, h2, e2, e⟩ := bind_ok e
    obtain ⟨rfl, rfl⟩ := asB_ok e2
    refine mE_first A e1 fun μ1 v H1 g1 A1 p1 => ⟨k, p1.bl_inv, ?_⟩
    cases k with
    | true => exact ⟨μ1, ρ, h2, w, h', A1, e, n.after g1⟩
    | false => cases e; exact (n.after g1).now A1.rel (.bl false)
def eIf (t : TM) (a b : EM) : EM := fun ρ => (t ρ).bind fun k => if k = true then a ρ else b ρ
def eCh (f f' : F2) (a b d : EM) : EM := fun ρ => (a ρ).bind fun x => (b ρ).bind fun y => (f x y).bind fun z => (asB z).bind fun k => if k = true then (d ρ).bind fun u => f' y u else M.pure (.bl false)

abbrev FM := List Wv → M Wv
def LCall (c : Cfg) (f : FM) (r : List V → Hp → VK → Prop) : Prop := ∀ {μ h H vs ws w h' Q}, Rel c μ h H → Rps c μ H vs ws → f ws h = .ok w h' → Nx c μ H h' w Q → r vs H Q
def eCall (f : FM) (a : AM) : EM := fun ρ => (a ρ).bind f
theorem eCall_to {c : Cfg} {f : FM} {r : List V → Hp → VK → Prop} {ma : AM} (l : LCall c f r) {σ : L2.St} {H : Hp} {Q : VK} (z : mE c (eCall f ma) σ H Q) : mA c ma σ H fun vs H1 => r vs H1 Q := by
  obtain ⟨μ, ρ, h, w, h', A, e, n⟩ := z
  obtain ⟨ws, h1, e1, e⟩ := bind_ok e
  exact mA_first A e1 fun μ1 vs H1 g1 A1 p1 => l A1.rel p1 e (n.after g1)
theorem me_callB {x : PySem.Str} {p pos : Pos} {e : Expr} {es : List Expr} {id : String} {r : List V → Hp → VK → Prop} {f : FM} {ma : AM} (hc : CallR X (.builtin id) r) (l : LCall (cfg X) f r) (hg : Gl X x) (hm : X.mg x = none) (hv : bootBuiltins x = some (.builtin id)) (ha : MA X (e :: es) ma) (hn : x ≠ "__name__" := by decide) (hdb : (x == ("__debug__" : PySem.Str)) = false := by decide)
    (he : starEach (e :: es) X.env = (false, eval e X.env) :: starEach es X.env := by rfl) (hpl : (backTo pos (starEach es X.env)).any (·.1) = false := by rfl) : ME X (.Call (.Name x p) (e :: es) [] pos) (eCall f ma) :=
  PE.imp (pe_callB hc hg hm hv ha hn hdb he hpl) fun _ _ _ z => eCall_to l z
theorem me_callTy {x : PySem.Str} {p pos : Pos} {e : Expr} {es : List Expr} {T : String} {r : List V → Hp → VK → Prop} {f : FM} {ma : AM} (hc : CallR X (.type T) r) (l : LCall (cfg X) f r) (hg : Gl X x) (hm : X.mg x = none) (hv : bootBuiltins x = some (.type T)) (ha : MA X (e :: es) ma) (hn : x ≠ "__name__" := by decide) (hdb : (x == ("__debug__" : PySem.Str)) = false := by decide)
    (he : starEach (e :: es) X.env = (false, eval e X.env) :: starEach es X.env := by rfl) (hpl : (backTo pos (starEach es X.env)).any (·.1) = false := by rfl) : ME X (.Call (.Name x p) (e :: es) [] pos) (eCall f ma) :=
  PE.imp (pe_callTy hc hg hm hv ha hn hdb he hpl) fun _ _ _ z => eCall_to l z
end
end MM

set_option maxRecDepth 100000
set_option maxHeartbeats 4000000
namespace MM
open PySem PySem.Spec PyProof.Rows L2

inductive Fl where
  | nx | ret (w : Wv) | bk | ct | xc (x : Ex)
abbrev SM := Env → M (Fl × Env)
def Goes (c : Cfg) (D : Ends) (fl : Fl) (μ : List Addr) (σ : L2.St) (H : Hp) : Prop := match fl with
  | .nx => D.nx σ H
  | .ret w => ∀ v, Rp c μ H v w → D.rt v H
  | .bk => D.bk σ H
  | .ct => D.ct σ H
  | .xc _ => False
def Ns (c : Cfg) (μ : List Addr) (H : Hp) (h' : Hm) (fl : Fl) (ρ' : Env) (D : Ends) : Prop := ∀ μ' σ' H', Go c μ H μ' H' → At c μ' h' H' σ' ρ' → Goes c D fl μ' σ' H'
def mS (c : Cfg) (m : SM) : TS := fun D σ H => ∃ μ ρ h fl ρ' h', At c μ h H σ ρ ∧ m ρ h = .ok (fl, ρ') h' ∧ Ns c μ H h' fl ρ' D
theorem PS.imp {X : Cx} {e : Stmt} {t t' : TS} (p : PS X e t) (f : ∀ D σ H, t' D σ H → t D σ H) : PS X e t' := ⟨fun pins s σ H D I h => p.run pins s σ H D I (f D σ H h)⟩
theorem PSs.imp {X : Cx} {e : List Stmt} {t t' : TS} (p : PSs X e t) (f : ∀ D σ H, t' D σ H → t D σ H) : PSs X e t' := ⟨fun pins s σ H D I h => p.run pins s σ H D I (f D σ H h)⟩
theorem PG.imp {X : Cx} {e : Expr} {t t' : TG} (p : PG X e t) (f : ∀ v σ H Q, t' v σ H Q → t v σ H Q) : PG X e t' := ⟨fun pins s σ H v u Q I r h => p.run pins s σ H v u Q I r (f v σ H Q h)⟩
theorem PGs.imp {X : Cx} {e : List Expr} {t t' : TGs} (p : PGs X e t) (f : ∀ v σ H Q, t' v σ H Q → t v σ H Q) : PGs X e t' := ⟨fun pins s σ H v u Q I r h => p.run pins s σ H v u Q I r (f v σ H Q h)⟩
abbrev MS (X : Cx) (st : Stmt) (m : SM) : Prop := PS X st (mS (cfg X) m)
abbrev MSs (X : Cx) (st : List Stmt) (m : SM) : Prop := PSs X st (mS (cfg X) m)
section
variable {c : Cfg} {μ μ1 : List Addr} {h h1 h' : Hm} {H H1 : Hp} {σ : L2.St} {ρ ρ' : Env} {fl : Fl} {D : Ends}
theorem Ns.after (n : Ns c μ H h' fl ρ' D) (g : Go c μ H μ1 H1) : Ns c μ1 H1 h' fl ρ' D := fun μ' σ' H' g' a => n μ' σ' H' (g.trans g') a
theorem Ns.now (n : Ns c μ H h' fl ρ' D) (a : At c μ h' H σ ρ') : Goes c D fl μ σ H := n μ σ H (Go.refl ..) a
theorem mS_first {m : SM} (A : At c μ h H σ ρ) (e : m ρ h = .ok (fl, ρ') h1) (f : ∀ μ1 σ1 H1, Go c μ H μ1 H1 → At c μ1 h1 H1 σ1 ρ' → Goes c D fl μ1 σ1 H1) : mS c m D σ H := ⟨μ, ρ, h, fl, ρ', h1, A, e, f⟩
end
def sNil : SM := fun ρ h => .ok (.nx, ρ) h
def sSeq (a b : SM) : SM := fun ρ => (a ρ).bind fun r => match r.1 with
  | .nx => b r.2
  | _ => M.pure r
def sRet (e : EM) : SM := fun ρ => (e ρ).bind fun w => M.pure (.ret w, ρ)
def sRetN : SM := fun ρ h => .ok (.ret .non, ρ) h
def sExpr (e : EM) : SM := fun ρ => (e ρ).bind fun _ => M.pure (.nx, ρ)
def sBk : SM := fun ρ h => .ok (.bk, ρ) h
def sCt : SM := fun ρ h => .ok (.ct, ρ) h
def sIf (t : TM) (a b : SM) : SM := fun ρ => (t ρ).bind fun k => if k = true then a ρ else b ρ
def sNo : SM := fun _ _ => .no
section
variable {X : Cx}
theorem mss_nil : MSs X [] sNil := PSs.imp pss_nil fun D σ H ⟨μ, ρ, h, fl, ρ', h', A, e, n⟩ => by
  cases e
  exact n.now A
theorem sSeq_to {c : Cfg} {a b : SM} {D : Ends} {σ : L2.St} {H : Hp} (z : mS c (sSeq a b) D σ H) : tSeq (mS c a) (mS c b) D σ H := by
  obtain ⟨μ, ρ, h, fl, ρ', h', A, e, n⟩ := z
  obtain ⟨⟨fl1, ρ1⟩, h1, e1, e⟩ := bind_ok e
  refine mS_first A e1 fun μ1 σ1 H1 g1 A1 => ?_
  cases fl1 with
  | nx => exact ⟨μ1, ρ1, h1, fl, ρ', h', A1, e, n.after g1⟩
  | ret w => cases e; exact (n.after g1).now A1
  | bk => cases e; exact (n.after g1).now A1
  | ct => cases e; exact (n.after g1).now A1
  | xc x => cases e; exact (n.after g1).now A1
theorem mss_cons {st : Stmt} {rest : List Stmt} {a b : SM} (h1 : MS X st a) (h2 : MSs X rest b) : MSs X (st :: rest) (sSeq a b) := PSs.imp (pss_cons h1 h2) fun _ _ _ z => sSeq_to z
theorem mss_one {st : Stmt} {a : SM} (h1 : MS X st a) : MSs X [st] a := pss_one h1
theorem ms_ret {e : Expr} {pos : Pos} {m : EM} (he : ME X e m) : MS X (.Return (some e) pos) (sRet m) := PS.imp (ps_ret he) fun D σ H ⟨μ, ρ, h, fl, ρ', h', A, e, n⟩ => by
  obtain ⟨w, h1, e1, e⟩ := bind_ok e
  cases e
  exact mE_first A e1 fun μ1 v H1 g1 A1 p1 => (n.after g1).now A1 v p1
theorem ms_expr {e : Expr} {pos : Pos} {m : EM} (he : ME X e m) (hs : swapsWith e none pos.line X.env = pure false := by rfl) : MS X (.Expr e pos) (sExpr m) := PS.imp (ps_expr he hs) fun D σ H ⟨μ, ρ, h, fl, ρ', h', A, e, n⟩ => by
  obtain ⟨w, h1, e1, e⟩ := bind_ok e
  cases e
  exact mE_first A e1 fun μ1 v H1 g1 A1 p1 => (n.after g1).now A1
theorem ms_if {t : Expr} {a b : List Stmt} {pos : Pos} {mt : TM} {ma mb : SM} (ht : MT X t mt) (ha : MSs X a ma) (hb : MSs X b mb) : MS X (.If t a b pos) (sIf mt ma mb) := PS.imp (ps_if ht ha hb) fun D σ H ⟨μ, ρ, h, fl, ρ', h', A, e, n⟩ => by
  obtain ⟨k, h1, e1, e⟩ := bind_ok e
  refine mT_first A e1 fun μ1 H1 g1 A1 => ?_
  cases k with
  | true => exact ⟨μ1, ρ, h1, fl, ρ', h', A1, e, n.after g1⟩
  | false => exact ⟨μ1, ρ, h1, fl, ρ', h', A1, e, n.after g1⟩
end

abbrev GM := Wv → Env → M Env
abbrev GMs := List Wv → Env → M Env
def Ng (c : Cfg) (vs : List Nat) (σ : L2.St) (μ : List Addr) (H : Hp) (h' : Hm) (ρ' : Env) (Q : L2.St → Hp → Prop) : Prop := ∀ μ' σ' H', Go c μ H μ' H' → At c μ' h' H' σ' ρ' → wipe σ' vs = wipe σ vs → Q σ' H'
def mG (c : Cfg) (sl : List Nat) (g : GM) : TG := fun v σ H Q => ∃ μ ρ h w ρ' h', At c μ h H σ ρ ∧ Rp c μ H v w ∧ g w ρ h = .ok ρ' h' ∧ Ng c sl σ μ H h' ρ' Q
def mGs (c : Cfg) (sl : List Nat) (g : GMs) : TGs := fun vs σ H Q => ∃ μ ρ h ws ρ' h', At c μ h H σ ρ ∧ Rps c μ H vs ws ∧ g ws ρ h = .ok ρ' h' ∧ Ng c sl σ μ H h' ρ' Q
abbrev MG (X : Cx) (vs : List Nat) (e : Expr) (g : GM) : Prop := PG X e (mG (cfg X) vs g)
abbrev MGs (X : Cx) (vs : List Nat) (e : List Expr) (g : GMs) : Prop := PGs X e (mGs (cfg X) vs g)
theorem wipe_in {i : Nat} {v : Option V} : ∀ {vs : List Nat} {σ : L2.St}, i ∈ vs → wipe (σ.set i v) vs = wipe σ vs
  | [], _, h => absurd h (by simp)
  | j :: vs, σ, h => by
    by_cases e : i ∈ vs
    · unfold wipe; rw [wipe_in e]
    · have : i = j := (List.mem_cons.mp h).resolve_right e
      subst this
      have out : ∀ (ws : List Nat), i ∉ ws → wipe (σ.set i v) ws = (wipe σ ws).set i v := by
        intro ws
        induction ws with
        | nil => intro _; rfl
        | cons k ks ih =>
          intro nk
          have hk : i ≠ k := fun z => nk (by rw [z]; exact List.mem_cons_self)
          unfold wipe
          rw [ih (fun z => nk (List.mem_cons_of_mem _ z)), List.set_comm _ _ hk]
      unfold wipe
      rw [out vs e, List.set_set]
def gN (i : Nat) : GM := fun w ρ h => .ok (ρ.set i (some w)) h
def gsNil : GMs := fun ws ρ h => match ws with | [] => .ok ρ h | _ => .no
def gsCons (g : GM) (r : GMs) : GMs := fun ws ρ => match ws with | w :: t => (g w ρ).bind fun ρ1 => r t ρ1 | [] => M.no
def gT (n : Nat) (g : GMs) : GM := fun w ρ => match w with
  | .tup ws => if ws.length = n then g ws ρ else M.no
  | _ => M.no
section
variable {X : Cx}
theorem mg_name {vs : List Nat} {i : Nat} {x : PySem.Str} {pos : Pos} (hv : i ∈ vs) (hN : X.N.Nodup) (hi : X.N[i]? = some x) (hx : Loc X.env.scope x) (hf : X.fn x = true ∨ X.env.scope.names.lookup x = some .local := by first | exact .inl rfl | exact .inr rfl | assumption) : MG X vs (.Name x pos) (gN i) :=
  PG.imp (pg_name hN hi hx hf) fun v σ H Q ⟨μ, ρ, h, w, ρ', h', A, p, e, n⟩ => by
    cases e
    exact n μ _ H (Go.refl ..) ⟨A.rel, RpS.set (v := some v) (w := some w) p i A.sl⟩ (wipe_in hv)
theorem mgs_nil {vs : List Nat} : MGs X vs [] gsNil := PGs.imp pgs_nil fun v σ H Q ⟨μ, ρ, h, ws, ρ', h', A, p, e, n⟩ => by
  cases p with
  | nil => cases e; exact ⟨rfl, n μ _ H (Go.refl ..) A rfl⟩
  | cons _ _ => cases e
theorem mgs_cons {sl : List Nat} {e : Expr} {es : List Expr} {g : GM} {r : GMs} (h1 : MG X sl e g) (h2 : MGs X sl es r) (hs : (assignEach (e :: es) X.env).map (·.2) = assign e X.env :: (assignEach es X.env).map (·.2) := by rfl) : MGs X sl (e :: es) (gsCons g r) :=
  PGs.imp (pgs_cons h1 h2 hs) fun v σ H Q ⟨μ, ρ, h, ws, ρ', h', A, p, e, n⟩ => by
    cases p with
    | nil => cases e
    | @cons v vs w ws p t =>
      obtain ⟨ρ1, h1, e1, e⟩ := bind_ok e
      exact ⟨v, vs, rfl, μ, ρ, h, w, ρ1, h1, A, p, e1, fun μ1 σ1 H1 g1 A1 w1 => ⟨μ1, ρ1, h1, ws, ρ', h', A1, t.go g1, e, fun μ2 σ2 H2 g2 A2 w2 => n μ2 σ2 H2 (g1.trans g2) A2 (w2.trans w1)⟩⟩
theorem mg_tup {sl : List Nat} {es : List Expr} {k : Nat} {g : GMs} {n : Nat} {pos : Pos} (hc : X.calm = true) (hg : MGs X sl es g) (hn : (assignEach es X.env).length = n := by rfl) (hst : (assignEach es X.env).findIdx? (·.1) = none := by rfl) : MG X sl (.Tuple es k pos) (gT n g) :=
  PG.imp (pg_tup hc hg hn hst) fun v σ H Q ⟨μ, ρ, h, w, ρ', h', A, p, e, nx⟩ => by
    cases p with
    | @tup a vs ws q r =>
      have e : (if ws.length = n then g ws ρ else M.no) h = .ok ρ' h' := e
      by_cases hl : ws.length = n
      · rw [if_pos hl] at e
        exact ⟨a, vs, rfl, .of q, r.length.trans hl, μ, ρ, h, ws, ρ', h', A, r, e, nx⟩
      · rw [if_neg hl] at e; cases e
    | _ => cases e
def sAsg (e : EM) (g : GM) : SM := fun ρ => (e ρ).bind fun w => (g w ρ).bind fun ρ1 => M.pure (.nx, ρ1)
theorem sAsg_to {c : Cfg} {sl : List Nat} {m : EM} {g : GM} {D : Ends} {σ : L2.St} {H : Hp} (z : mS c (sAsg m g) D σ H) : tAsg (mE c m) (mG c sl g) D σ H := by
  obtain ⟨μ, ρ, h, fl, ρ', h', A, e, n⟩ := z
  obtain ⟨w, h1, e1, e⟩ := bind_ok e
  obtain ⟨ρ1, h2, e2, e⟩ := bind_ok e
  cases e
  exact mE_first A e1 fun μ1 v H1 g1 A1 p1 => ⟨μ1, ρ, h1, w, ρ', h', A1, p1, e2, fun μ2 σ2 H2 g2 A2 _ => n μ2 σ2 H2 (g1.trans g2) A2⟩
theorem ms_asg {sl : List Nat} {tg e : Expr} {pos : Pos} {m : EM} {g : GM} (he : ME X e m) (hg : MG X sl tg g) (hs : swapsWithSole [tg] e pos.line X.env = pure false := by rfl) (hw : swappedStores [tg] e X.env = pure none := by rfl)
    (h1 : (assignEach [tg] X.env).map (·.2) = [assign tg X.env] := by rfl) : MS X (.Assign [tg] e pos) (sAsg m g) := PS.imp (ps_asg he hg hs hw h1) fun _ _ _ z => sAsg_to z
def sSet (i : Nat) (e : EM) : SM := fun ρ => (e ρ).bind fun w => M.pure (.nx, ρ.set i (some w))
theorem sSet_to {c : Cfg} {m : EM} {i : Nat} {D : Ends} {σ : L2.St} {H : Hp} (z : mS c (sSet i m) D σ H) : tAsg (mE c m) (gName i) D σ H := by
  obtain ⟨μ, ρ, h, fl, ρ', h', A, e, n⟩ := z
  obtain ⟨w, h1, e1, e⟩ := bind_ok e
  cases e
  exact mE_first A e1 fun μ1 v H1 g1 A1 p1 => (n.after g1) μ1 _ H1 (Go.refl ..) ⟨A1.rel, RpS.set (v := some v) (w := some w) p1 i A1.sl⟩
theorem ms_set {i : Nat} {x : PySem.Str} {e : Expr} {m : EM} {pos pos' : Pos} (hN : X.N.Nodup) (hi : X.N[i]? = some x) (hx : Loc X.env.scope x) (he : ME X e m) (hs : swapsWith e (some (.Name x pos')) pos.line X.env = pure false := by rfl) (hf : X.fn x = true ∨ X.env.scope.names.lookup x = some .local := by first | exact .inl rfl | exact .inr rfl | assumption) :
    MS X (.Assign [.Name x pos'] e pos) (sSet i m) := PS.imp (ps_set hN hi hx he hs hf) fun _ _ _ z => sSet_to z
def sPar (i j : Nat) (a : AM) : SM := fun ρ => (a ρ).bind fun ws => match ws with
  | [x, y] => M.pure (.nx, (ρ.set i (some x)).set j (some y))
  | _ => M.no

def startM (n : Nat) (ws : List Wv) : Env := ws.map some ++ List.replicate (n - ws.length) none
def fun_ (n k : Nat) (b : SM) : FM := fun ws => if ws.length = k then (b (startM n ws)).bind fun r => match r.1 with
  | .nx => M.pure .non
  | .ret w => M.pure w
  | _ => M.no
  else M.no
def spF (c : Cfg) (k : Nat) (m : FM) : Sp := fun vs H Q _ => ∃ μ h ws w h', Rel c μ h H ∧ Rps c μ H vs ws ∧ ws.length = k ∧ m ws h = .ok w h' ∧ Nx c μ H h' w Q
theorem spF_len {c : Cfg} {k : Nat} {m : FM} {vs : List V} {H : Hp} {Q : VK} {E : XK} (h : spF c k m vs H Q E) : vs.length = k := by
  obtain ⟨μ, h, ws, w, h', R, p, l, _⟩ := h
  rw [p.length]; exact l
theorem rps_start {c : Cfg} {μ : List Addr} {H : Hp} : ∀ {vs : List V} {ws : List Wv}, Rps c μ H vs ws → RpS c μ H (vs.map some) (ws.map some)
  | _, _, .nil => .nil
  | _, _, .cons r t => .cons r (rps_start t)
theorem rps_none {c : Cfg} {μ : List Addr} {H : Hp} : ∀ n, RpS c μ H (List.replicate n none) (List.replicate n none)
  | 0 => .nil
  | n + 1 => .cons (show RpO c μ H none none from trivial) (rps_none n)
theorem paired_app {α β : Type} {F : α → β → Prop} : ∀ {a a' : List α} {b b' : List β}, Paired F a b → Paired F a' b' → Paired F (a ++ a') (b ++ b')
  | _, _, _, _, .nil, s => s
  | _, _, _, _, .cons r t, s => .cons r (paired_app t s)
theorem at_start {c : Cfg} {μ : List Addr} {h : Hm} {H : Hp} {N : List PySem.Str} {vs : List V} {ws : List Wv} (R : Rel c μ h H) (p : Rps c μ H vs ws) : At c μ h H (L2.start N vs) (startM N.length ws) := by
  refine ⟨R, ?_⟩
  unfold L2.start startM
  rw [p.length]
  exact paired_app (rps_start p) (rps_none _)
theorem Fun.okM {P : Program} {w : World} {K : PySem.W.Frag} {mg : PySem.Str → Option Value} {base : Heap} {x qual : PySem.Str} {st : Stmt} {f : Addr} {fd : FuncData} {N ps : List PySem.Str} {k : Nat} {n j : Nat} {b : SM} (F : Fun K x qual st f fd) (S : FnScope N ps (defScope st)) (hn : N.length = n) (hj : ps.length = j)
    (body : ∀ (cdv : Value) (A : Around) (outer : List PySem.Env) (s : Shared) (H : Hp) (E : XK), Room k (A.deeper (envOfC qual (defScope st) s.heap.objs.size f cdv)) → MSs (cxOf CX0 P w K mg base N qual (defScope st) f cdv A outer s H E).nox (defBody st) b) :
    FnOk P w K mg base CX0 (k + 1) f fd ps (spF ⟨P, w, K, mg⟩ j (fun_ n j b)) := by
  refine F.ok S (fun vs H Q E h => by rw [hj]; exact spF_len h) fun cdv A outer s H vs Q E hr h => ⟨_, body cdv A outer s H E hr, ?_⟩
  obtain ⟨μ, h, ws, u, h', R, p, l, e, nx⟩ := h
  unfold fun_ at e
  rw [if_pos l] at e
  obtain ⟨⟨fl, ρ'⟩, h1, e1, e⟩ := bind_ok e
  subst hn
  refine ⟨μ, _, h, fl, ρ', h1, at_start R p, e1, fun μ1 σ1 H1 g1 A1 => ?_⟩
  cases fl with
  | nx => cases e; exact nx μ1 _ H1 g1 A1.rel .non
  | ret w => cases e; exact fun v pv => nx μ1 v H1 g1 A1.rel pv
  | bk => cases e
  | ct => cases e
  | xc x => cases e
structure Df (P : Program) (w : World) (K : PySem.W.Frag) (mg : PySem.Str → Option Value) (base : Heap) (k : Nat) (x : PySem.Str) (j : Nat) (m : FM) : Prop where
  ex : ∃ (f : Addr) (fd : FuncData) (ps : List PySem.Str), mg x = some (.ref f) ∧ PySem.W.keepIn K (.ref f) = true ∧ Binds K fd ps [] ∧ FnOk P w K mg base CX0 k f fd ps (spF ⟨P, w, K, mg⟩ j m)
theorem spF_call {c : Cfg} {j : Nat} {m : FM} {ma : AM} {σ : L2.St} {H : Hp} {Q : VK} {E : XK} (lj : ∀ ws h w h', m ws h = .ok w h' → ws.length = j) (z : mE c (eCall m ma) σ H Q) : mA c ma σ H fun vs H1 => spF c j m (vs ++ []) H1 Q E := by
  obtain ⟨μ, ρ, h, w, h', A, e, n⟩ := z
  obtain ⟨ws, h1, e1, e⟩ := bind_ok e
  exact mA_first A e1 fun μ1 vs H1 g1 A1 p1 => ⟨μ1, h1, ws, w, h', A1.rel, by rw [List.append_nil]; exact p1, lj _ _ _ _ e, e, n.after g1⟩
theorem fun_len {n k : Nat} {b : SM} {ws : List Wv} {h h' : Hm} {w : Wv} (e : fun_ n k b ws h = .ok w h') : ws.length = k := by
  unfold fun_ at e
  by_cases l : ws.length = k
  · exact l
  · rw [if_neg l] at e; cases e
def Arity (j : Nat) (m : FM) : Prop := ∀ ws h w h', m ws h = .ok w h' → ws.length = j
theorem arity_fun {n k : Nat} {b : SM} : Arity k (fun_ n k b) := fun _ _ _ _ e => fun_len e
theorem me_call {x : PySem.Str} {p pos : Pos} {e : Expr} {es : List Expr} {k j : Nat} {m : FM} {ma : AM} (d : Df X.prog X.w X.K X.mg X.base k x j m) (lj : Arity j m) (hr : Room k X.A) (hg : Gl X x) (hx : Passes CX0 X E0) (ha : MA X (e :: es) ma)
    (hdb : (x == ("__debug__" : PySem.Str)) = false := by decide) (he : starEach (e :: es) X.env = (false, eval e X.env) :: starEach es X.env := by rfl) (hpl : (backTo pos (starEach es X.env)).any (·.1) = false := by rfl) :
    ME X (.Call (.Name x p) (e :: es) [] pos) (eCall m ma) := by
  obtain ⟨f, fd, ps, hm, hk, hb, F⟩ := d.ex
  exact PE.imp (pe_call F hr hg hm hk hb .nil hx ha hdb he hpl) fun _ _ _ z => spF_call lj z

def getF (f : PySem.Str) (C : PySem.Str) (w : Wv) : M Wv := fun h => match w with
  | .obj i => match h[i]? with
    | some (.ins D fs) => if D = C then (match fs.lookup f with | some v => .ok v h | none => .no) else .no
    | _ => .no
  | _ => .no
def eFld (C f : PySem.Str) (e : EM) : EM := fun ρ => (e ρ).bind (getF f C)
theorem getF_ok {f C : PySem.Str} {w v : Wv} {h h' : Hm} (e : getF f C w h = .ok v h') : ∃ i fs, w = .obj i ∧ h[i]? = some (.ins C fs) ∧ fs.lookup f = some v ∧ h' = h := by
  unfold getF at e
  cases w with
  | obj i =>
    simp only at e
    split at e
    · next D fs q =>
      by_cases hd : D = C
      · rw [if_pos hd] at e
        subst hd
        cases l : fs.lookup f with
        | none => rw [l] at e; cases e
        | some v0 => rw [l] at e; cases e; exact ⟨i, fs, rfl, q, l, rfl⟩
      · rw [if_neg hd] at e; cases e
    · cases e
  | _ => cases e
theorem lookup_rkv {c : Cfg} {μ : List Addr} {H : Hp} {f : PySem.Str} : ∀ {fs' : List (PySem.Str × V)} {fs : List (PySem.Str × Wv)} {w : Wv}, Rkv c μ H fs' fs → fs.lookup f = some w → ∃ v, fs'.lookup f = some v ∧ Rp c μ H v w
  | _, _, _, .nil, h => by cases h
  | _, _, w, .cons (a := (g', v)) (b := (g, u)) r t, h => by
    obtain ⟨e, p⟩ := r
    have e : g' = g := e
    subst e
    rw [List.lookup_cons] at h ⊢
    cases q : f == g' with
    | true => rw [q] at h; cases h; exact ⟨v, rfl, p⟩
    | false => rw [q] at h; exact lookup_rkv t h
theorem lookup_none {c : Cfg} {μ : List Addr} {H : Hp} {f : PySem.Str} : ∀ {fs' : List (PySem.Str × V)} {fs : List (PySem.Str × Wv)}, Rkv c μ H fs' fs → fs.lookup f = none → fs'.lookup f = none
  | _, _, .nil, h => rfl
  | _, _, .cons (a := (g', v)) (b := (g, u)) r t, h => by
    obtain ⟨e, p⟩ := r
    have e : g' = g := e
    subst e
    rw [List.lookup_cons] at h ⊢
    cases q : f == g' with
    | true => rw [q] at h; cases h
    | false => rw [q] at h; exact lookup_none t h
structure Kl (K : PySem.W.Frag) (mg : PySem.Str → Option Value) (C : PySem.Str) : Prop where
  ex : ∃ a, mg C = some (.ref a) ∧ Cls K a
def NoF (K : PySem.W.Frag) (mg : PySem.Str → Option Value) (C f : PySem.Str) : Prop := ∀ a, mg C = some (.ref a) → NoAttr K a f
theorem Kl.at {K : PySem.W.Frag} {mg : PySem.Str → Option Value} {C : PySem.Str} (k : Kl K mg C) {a : Addr} (h : mg C = some (.ref a)) : Cls K a := by
  obtain ⟨b, e, c⟩ := k.ex
  rw [h] at e
  cases e
  exact c
theorem me_fld {C f : PySem.Str} {e : Expr} {pos : Pos} {m : EM} (kl : Kl X.K X.mg C) (nf : NoF X.K X.mg C f) (he : ME X e m) (hb : attributeBase e f X.env (eval e X.env) = eval e X.env) : ME X (.Attribute e f pos) (eFld C f m) :=
  PE.imp (pe_fld he hb) fun σ H Q ⟨μ, ρ, h, w, h', A, e, n⟩ => by
    obtain ⟨u, h1, e1, e⟩ := bind_ok e
    obtain ⟨i, fs, rfl, hi, l, rfl⟩ := getF_ok e
    refine mE_first A e1 fun μ1 v H1 g1 A1 p1 => ?_
    obtain ⟨a, rfl, ha⟩ := p1.obj_inv
    obtain ⟨u, hu, Ca, dx, fs', mC, rfl, r⟩ := A1.rel.get ha hi
    obtain ⟨v, lv, pv⟩ := lookup_rkv r l
    exact ⟨a, Ca, dx, fs', v, rfl, hu, kl.at mC, nf _ mC, lv, (n.after g1).now A1.rel pv⟩
def putW (f : PySem.Str) (v : Wv) : List (PySem.Str × Wv) → List (PySem.Str × Wv)
  | [] => [(f, v)]
  | (g, x) :: r => if g = f then (g, v) :: r else (g, x) :: putW f v r
theorem putW_rkv {c : Cfg} {μ : List Addr} {H : Hp} {f : PySem.Str} {v : V} {w : Wv} (p : Rp c μ H v w) : ∀ {fs' : List (PySem.Str × V)} {fs : List (PySem.Str × Wv)}, Rkv c μ H fs' fs → Rkv c μ H (putF f v fs') (putW f w fs)
  | _, _, .nil => .cons ⟨rfl, p⟩ .nil
  | _, _, .cons (a := (g', x)) (b := (g, u)) r t => by
    obtain ⟨e, q⟩ := r
    have e : g' = g := e
    subst e
    unfold putF putW
    by_cases h : g' = f
    · rw [if_pos h, if_pos h]; exact .cons ⟨rfl, p⟩ t
    · rw [if_neg h, if_neg h]; exact .cons ⟨rfl, q⟩ (putW_rkv p t)
def setF (C f : PySem.Str) (w v : Wv) : M Unit := fun h => match w with
  | .obj i => match h[i]? with
    | some (.ins D fs) => if D = C ∧ fs.length < 1000 then .ok () (h.set i (.ins D (putW f v fs))) else .no
    | _ => .no
  | _ => .no
def sFldM (C f : PySem.Str) (o e : EM) : SM := fun ρ => (e ρ).bind fun v => (o ρ).bind fun w => (setF C f w v).bind fun _ => M.pure (.nx, ρ)
theorem setF_ok {C f : PySem.Str} {w v : Wv} {u : Unit} {h h' : Hm} (e : setF C f w v h = .ok u h') : ∃ i fs, w = .obj i ∧ h[i]? = some (.ins C fs) ∧ fs.length < 1000 ∧ h' = h.set i (.ins C (putW f v fs)) := by
  unfold setF at e
  cases w with
  | obj i =>
    simp only at e
    split at e
    · next D fs q =>
      by_cases hd : D = C ∧ fs.length < 1000
      · rw [if_pos hd] at e
        obtain ⟨rfl, hl⟩ := hd
        cases e
        exact ⟨i, fs, rfl, q, hl, rfl⟩
      · rw [if_neg hd] at e; cases e
    · cases e
  | _ => cases e
theorem ms_fld {C f : PySem.Str} {o value : Expr} {pos pos' : Pos} {mo mv : EM} (kl : Kl X.K X.mg C) (nf : NoF X.K X.mg C f) (ho : ME X o mo) (hv : ME X value mv) (hs : swapsWith value (some (.Attribute o f pos')) pos.line X.env = pure false) : MS X (.Assign [.Attribute o f pos'] value pos) (sFldM C f mo mv) :=
  PS.imp (ps_fld ho hv hs) fun D σ H ⟨μ, ρ, h, fl, ρ', h', A, e, n⟩ => by
    obtain ⟨v, h1, e1, e⟩ := bind_ok e
    obtain ⟨w, h2, e2, e⟩ := bind_ok e
    obtain ⟨_, h3, e3, e⟩ := bind_ok e
    cases e
    obtain ⟨i, fs, rfl, hi, l, rfl⟩ := setF_ok e3
    refine mE_first A e1 fun μ1 y H1 g1 A1 p1 => mE_first A1 e2 fun μ2 x H2 g2 A2 p2 => ?_
    obtain ⟨a, rfl, ha⟩ := p2.obj_inv
    obtain ⟨u, hu, Ca, dx, fs', mC, rfl, r⟩ := A2.rel.get ha hi
    refine ⟨a, Ca, dx, fs', rfl, hu, kl.at mC, nf _ mC, by rw [Paired.length r]; exact l, ?_⟩
    obtain ⟨g3, R3⟩ := A2.rel.put ha (fun _ _ z => by rw [hu] at z; cases z) (o := .ins C (putW f v fs)) (u := .ins Ca dx (putF f y fs')) fun μ' H' g => ⟨Ca, dx, _, mC, rfl, putW_rkv ((p1.go g2).mv g) (Rkv.mv g r)⟩
    exact n μ2 _ _ (g1.trans (g2.trans g3)) (A2.go g3 R3)

structure Mf (P : Program) (w : World) (K : PySem.W.Frag) (mg : PySem.Str → Option Value) (base : Heap) (k : Nat) (C m : PySem.Str) (j : Nat) (f : FM) : Prop where
  ex : ∃ (a fa : Addr) (fd : FuncData) (ps : List PySem.Str), mg C = some (.ref a) ∧ Cls K a ∧ Meth K a m fa ∧ Binds K fd ps [] ∧ FnOk P w K mg base CX0 k fa fd ps (spF ⟨P, w, K, mg⟩ j f)
def isC (C m : PySem.Str) (w : Wv) : M Unit := fun h => match w with
  | .obj i => match h[i]? with
    | some (.ins D fs) => if D = C ∧ fs.lookup m = none then .ok () h else .no
    | _ => .no
  | _ => .no
def eMeth (C m : PySem.Str) (f : FM) (o : EM) (a : AM) : EM := fun ρ => (o ρ).bind fun w => (isC C m w).bind fun _ => (a ρ).bind fun ws => f (w :: ws)
theorem isC_ok {C m : PySem.Str} {w : Wv} {u : Unit} {h h' : Hm} (e : isC C m w h = .ok u h') : ∃ i fs, w = .obj i ∧ h[i]? = some (.ins C fs) ∧ fs.lookup m = none ∧ h' = h := by
  unfold isC at e
  cases w with
  | obj i =>
    simp only at e
    split at e
    · next D fs q =>
      by_cases hd : D = C ∧ fs.lookup m = none
      · rw [if_pos hd] at e
        obtain ⟨rfl, hl⟩ := hd
        cases e
        exact ⟨i, fs, rfl, q, hl, rfl⟩
      · rw [if_neg hd] at e; cases e
    · cases e
  | _ => cases e
theorem eMeth_to {c : Cfg} {C m : PySem.Str} {a : Addr} {j : Nat} {f : FM} {mo : EM} {ma : AM} {σ : L2.St} {H : Hp} {Q : VK} {E : XK} (hC : c.mg C = some (.ref a)) (lj : Arity j f) (z : mE c (eMeth C m f mo ma) σ H Q) : tMeth a m (spF c j f) [] E (mE c mo) (mA c ma) σ H Q := by
  obtain ⟨μ, ρ, h, w, h', A, e, n⟩ := z
  obtain ⟨o, h1, e1, f1⟩ := bind_ok e
  obtain ⟨_, h2, e2, f2⟩ := bind_ok f1
  obtain ⟨ws, h3, e3, f3⟩ := bind_ok f2
  clear e f1 f2
  obtain ⟨i, fs, rfl, hi, l, rfl⟩ := isC_ok e2
  refine mE_first A e1 fun μ1 x H1 g1 A1 p1 => ?_
  obtain ⟨b, rfl, hb⟩ := p1.obj_inv
  obtain ⟨u, hu, Ca, dx, fs', mC, rfl, r⟩ := A1.rel.get hb hi
  rw [hC] at mC
  cases mC
  refine ⟨b, dx, fs', rfl, hu, lookup_none r l, ?_⟩
  exact mA_first A1 e3 fun μ2 vs H2 g2 A2 p2 => ⟨μ2, h3, .obj i :: ws, w, h', A2.rel, by rw [List.append_nil]; exact .cons (p1.go g2) p2, lj _ _ _ _ f3, f3, n.after (g1.trans g2)⟩
theorem me_meth {C m : PySem.Str} {o e : Expr} {es : List Expr} {pos apos : Pos} {k j : Nat} {f : FM} {mo : EM} {ma : AM} {pl : Sem Bool} (d : Mf X.prog X.w X.K X.mg X.base k C m j f) (lj : Arity j f) (hr : Room k X.A) (hx : Passes CX0 X E0) (ho : ME X o mo) (ha : MA X (e :: es) ma)
    (hst : starEach (e :: es) X.env = (false, eval e X.env) :: starEach es X.env := by rfl) (hpl : (backTo pos (starEach es X.env)).any (·.1) = false := by rfl)
    (ht : eval (.Call (.Attribute o m apos) (e :: es) [] pos) X.env = (do
      let ov ← eval o X.env
      standAt apos.atName
      let (f, first) ← holding [ov] (getMethod ov m pl)
      callWith pos f first (backTo pos (starEach (e :: es) X.env)) (backToKw pos (keywordEach [] X.env))) := by rfl) : ME X (.Call (.Attribute o m apos) (e :: es) [] pos) (eMeth C m f mo ma) := by
  obtain ⟨a, fa, fd, ps, hC, cl, me, hb, F⟩ := d.ex
  exact PE.imp (pe_meth ho cl me F hr hb .nil hx ha hst hpl ht) fun _ _ _ z => eMeth_to hC lj z
theorem me_meth0 {C m : PySem.Str} {o : Expr} {pos apos : Pos} {k : Nat} {f : FM} {mo : EM} {pl : Sem Bool} (d : Mf X.prog X.w X.K X.mg X.base k C m 1 f) (lj : Arity 1 f) (hr : Room k X.A) (hx : Passes CX0 X E0) (ho : ME X o mo)
    (ht : eval (.Call (.Attribute o m apos) [] [] pos) X.env = (do
      let ov ← eval o X.env
      standAt apos.atName
      let (f, first) ← holding [ov] (getMethod ov m pl)
      callWith pos f first (backTo pos (starEach [] X.env)) (backToKw pos (keywordEach [] X.env))) := by rfl) : ME X (.Call (.Attribute o m apos) [] [] pos) (eMeth C m f mo aNil) := by
  obtain ⟨a, fa, fd, ps, hC, cl, me, hb, F⟩ := d.ex
  refine PE.imp (pe_meth0 ho cl me F hr hb .nil hx ht) fun σ H Q z => ?_
  obtain ⟨μ, ρ, h, w, h', A, e, n⟩ := z
  obtain ⟨o, h1, e1, f1⟩ := bind_ok e
  obtain ⟨_, h2, e2, f2⟩ := bind_ok f1
  obtain ⟨ws, h3, e3, f3⟩ := bind_ok f2
  clear e f1 f2
  cases e3
  obtain ⟨i, fs, rfl, hi, l, rfl⟩ := isC_ok e2
  refine mE_first A e1 fun μ1 x H1 g1 A1 p1 => ?_
  obtain ⟨b, rfl, hb⟩ := p1.obj_inv
  obtain ⟨u, hu, Ca, dx, fs', mC, rfl, r⟩ := A1.rel.get hb hi
  have mC : X.mg C = some (.ref Ca) := mC
  rw [hC] at mC
  cases mC
  exact ⟨b, dx, fs', rfl, hu, lookup_none r l, μ1, h2, [.obj i], w, h', A1.rel, .cons p1 .nil, rfl, f3, n.after g1⟩

structure Cf (P : Program) (w : World) (K : PySem.W.Frag) (mg : PySem.Str → Option Value) (base : Heap) (k : Nat) (C : PySem.Str) (j : Nat) (f : FM) : Prop where
  ex : ∃ (a fa : Addr) (fd : FuncData) (ps : List PySem.Str), mg C = some (.ref a) ∧ Mk K a fa ∧ Binds K fd ps [] ∧ FnOk P w K mg base CX0 k fa fd ps (spF ⟨P, w, K, mg⟩ j f)
def mkC (C : PySem.Str) (f : FM) : FM := fun ws h => ((f (.obj h.length :: ws)).bind fun r => match r with | .non => M.pure (.obj h.length) | _ => M.no) (h ++ [.ins C []])
theorem mkC_ok {C : PySem.Str} {f : FM} {ws : List Wv} {h h' : Hm} {w : Wv} (e : mkC C f ws h = .ok w h') : w = .obj h.length ∧ f (.obj h.length :: ws) (h ++ [.ins C []]) = .ok .non h' := by
  unfold mkC at e
  obtain ⟨r, h1, e1, e⟩ := bind_ok e
  cases r with
  | non => cases e; exact ⟨rfl, e1⟩
  | _ => cases e
theorem mk_to {c : Cfg} {C : PySem.Str} {a : Addr} {j : Nat} {f : FM} {μ : List Addr} {h h' : Hm} {H : Hp} {vs : List V} {ws : List Wv} {w : Wv} {Q : VK} {E : XK} (hC : c.mg C = some (.ref a)) (lj : Arity j f) (R : Rel c μ h H) (p : Rps c μ H vs ws) (e : mkC C f ws h = .ok w h') (n : Nx c μ H h' w Q)
    (x dx : Addr) (nx : H x = none) (nd : H dx = none) (ne : dx ≠ x) : spF c j f (.ref x :: (vs ++ [])) (upd (upd H dx (.own x)) x (.ins a dx [])) (fun v H2 => v = .non ∧ Q (.ref x) H2) E := by
  obtain ⟨ew, e2⟩ := mkC_ok e
  clear e
  have e := e2
  subst ew
  obtain ⟨g1, R1⟩ := R.aside nd (u := .own x)
  have nx1 : upd H dx (.own x) x = none := by rw [upd_ne (fun z => ne z.symm)]; exact nx
  obtain ⟨g2, R2⟩ := R1.lay nx1 (o := .ins C []) (u := .ins a dx []) fun _ _ _ => ⟨a, dx, [], hC, rfl, .nil⟩
  have g := g1.trans g2
  have px : Rp c (μ ++ [x]) (upd (upd H dx (.own x)) x (.ins a dx [])) (.ref x) (.obj h.length) := .obj (by rw [← R.len]; simp)
  refine ⟨_, _, _, _, _, R2, .cons px (by rw [List.append_nil]; exact p.go g), lj _ _ _ _ e, e, fun μ' v H' g' R' p' => ⟨p'.non_inv, n μ' _ H' (g.trans g') R' (px.go g')⟩⟩
theorem me_make {C : PySem.Str} {p pos : Pos} {e : Expr} {es : List Expr} {k j : Nat} {f : FM} {ma : AM} (d : Cf X.prog X.w X.K X.mg X.base k C j f) (lj : Arity j f) (hr : Room (k + 1) X.A) (hg : Gl X C) (hx : Passes CX0 X E0) (ha : MA X (e :: es) ma)
    (hdb : (C == ("__debug__" : PySem.Str)) = false := by decide) (he : starEach (e :: es) X.env = (false, eval e X.env) :: starEach es X.env := by rfl) (hpl : (backTo pos (starEach es X.env)).any (·.1) = false := by rfl) :
    ME X (.Call (.Name C p) (e :: es) [] pos) (eCall (mkC C f) ma) := by
  obtain ⟨a, fa, fd, ps, hC, mk, hb, F⟩ := d.ex
  refine PE.imp (pe_make mk F hr hg hC hb .nil hx ha hdb he hpl) fun σ H Q ⟨μ, ρ, h, w, h', A, e, n⟩ => ?_
  obtain ⟨ws, h1, e1, e⟩ := bind_ok e
  exact mA_first A e1 fun μ1 vs H1 g1 A1 p1 x dx nx nd ne => mk_to hC lj A1.rel p1 e (n.after g1) x dx nx nd ne
end
end MM

set_option maxRecDepth 100000
set_option maxHeartbeats 4000000
namespace MM
open PySem PySem.Spec PyProof.Rows L2

structure Src where
  cnt : Nat
  at_ : Nat → Hm → Option (Option Wv)
structure ItR (c : Cfg) (J : It) (src : Src) (G : List Addr → Hp → Prop) : Prop where
  keep : ∀ μ H μ' H', G μ H → Gw c μ H μ' H' → G μ' H'
  go : ∀ μ h H k w, Rel c μ h H → G μ H → src.at_ k h = some (some w) → J.go k H ∧ ∀ x H', J.yld k H x H' → ∃ μ', Go c μ H μ' H' ∧ Rel c μ' h H' ∧ Rp c μ' H' x w
  stop : ∀ μ h H k, Rel c μ h H → G μ H → src.at_ k h = some none → J.stop k H
abbrev IM := MM.Env → M Src
def iM (c : Cfg) (mi : IM) : TI := fun σ H R => ∃ μ ρ h src h', At c μ h H σ ρ ∧ mi ρ h = .ok src h' ∧ ∀ μ' H' J G, Go c μ H μ' H' → Rel c μ' h' H' → ItR c J src G → G μ' H' → R J H'
theorem PI.imp {X : Cx} {tg it : Expr} {t t' : TI} (p : PI X tg it t) (f : ∀ σ H R, t' σ H R → t σ H R) : PI X tg it t' := ⟨fun pins s σ H R I h => p.run pins s σ H R I (f σ H R h)⟩
abbrev MI (X : Cx) (tg it : Expr) (m : IM) : Prop := PI X tg it (iM (cfg X) m)
def rdL (h : Hm) (i : Nat) : Option (List Wv) := match h[i]? with
  | some (.lst ws) => some ws
  | some (.frz (.lst ws)) => some ws
  | _ => none
theorem rdL_to {c : Cfg} {μ : List Addr} {h : Hm} {H : Hp} {i : Nat} {ws : List Wv} {a : Addr} (R : Rel c μ h H) (ha : μ[i]? = some a) (e : rdL h i = some ws) : ∃ vs, SqL c.K H a vs ∧ Rps c μ H vs ws := by
  unfold rdL at e
  split at e
  · next ws' q =>
    cases e
    obtain ⟨u, hu, vs, rfl, r⟩ := R.get ha q
    exact ⟨vs, .inl (.inl hu), r⟩
  · next ws' q =>
    cases e
    obtain ⟨u, hu, ob, u', rfl, vs, rfl, r⟩ := R.get ha q
    exact ⟨vs, .inl (.inr ⟨_, hu⟩), r⟩
  · cases e
def sL (n i : Nat) : Src := ⟨n, fun k h => (rdL h i).map fun ws => ws[k]?⟩
def sT (ws : List Wv) : Src := ⟨ws.length, fun k _ => some ws[k]?⟩
theorem Rps.none_at {c : Cfg} {μ : List Addr} {H : Hp} {vs : List V} {ws : List Wv} {k : Nat} (r : Rps c μ H vs ws) (e : ws[k]? = none) : vs.length ≤ k := by
  rw [r.length]
  exact List.getElem?_eq_none_iff.mp e
theorem itr_list {c : Cfg} {n i : Nat} {a : Addr} : ItR c (Itl c.K a) (sL n i) (fun μ _ => μ[i]? = some a) where
  keep := fun μ H μ' H' g go => pre_at go.pre g
  go := fun μ h H k w R g e => by
    simp only [sL] at e
    cases q : rdL h i with
    | none => rw [q] at e; cases e
    | some ws =>
      rw [q] at e
      have e : ws[k]? = some w := Option.some.inj e
      obtain ⟨vs, hq, r⟩ := rdL_to R g q
      obtain ⟨v, hv, p⟩ := r.at e
      refine ⟨⟨vs, v, hq, hv⟩, fun x H' ⟨e1, e2⟩ => ?_⟩
      subst e1
      have := e2 vs hq
      rw [hv] at this
      cases this
      exact ⟨μ, Go.refl .., R, p⟩
  stop := fun μ h H k R g e => by
    simp only [sL] at e
    cases q : rdL h i with
    | none => rw [q] at e; cases e
    | some ws =>
      rw [q] at e
      have e : ws[k]? = none := Option.some.inj e
      obtain ⟨vs, hq, r⟩ := rdL_to R g q
      exact ⟨vs, hq, r.none_at e⟩
theorem itr_tup {c : Cfg} {a : Addr} {ws : List Wv} : ItR c (Itt c.K a) (sT ws) (fun μ H => ∃ vs, SqT c.K H a vs ∧ Rps c μ H vs ws) where
  keep := fun μ H μ' H' ⟨vs, q, r⟩ go => ⟨vs, go.tk _ _ q, r.mv go⟩
  go := fun μ h H k w R ⟨vs, hq, r⟩ e => by
    have e : ws[k]? = some w := Option.some.inj e
    obtain ⟨v, hv, p⟩ := r.at e
    refine ⟨⟨vs, v, hq, hv⟩, fun x H' ⟨e1, e2⟩ => ?_⟩
    subst e1
    have := e2 vs hq
    rw [hv] at this
    cases this
    exact ⟨μ, Go.refl .., R, p⟩
  stop := fun μ h H k R ⟨vs, hq, r⟩ e => by
    have e : ws[k]? = none := Option.some.inj e
    exact ⟨vs, hq, r.none_at e⟩
def srcOf (w : Wv) : M Src := fun h => match w with
  | .obj i => match rdL h i with
    | some ws => .ok (sL ws.length i) h
    | none => .no
  | .tup ws => .ok (sT ws) h
  | .ptp ws => .ok (sT ws) h
  | _ => .no
def iSeqM (e : EM) : IM := fun ρ => (e ρ).bind srcOf
section
variable {X : Cx}
theorem mi_seq {tg e : Expr} {m : EM} (he : ME X e m) : MI X tg e (iSeqM m) := PI.imp (VS.pi_seq (K := X.K) rfl he) fun σ H R ⟨μ, ρ, h, src, h', A, e, n⟩ => by
  obtain ⟨w, h1, e1, e⟩ := bind_ok e
  refine mE_first A e1 fun μ1 v H1 g1 A1 p1 => ?_
  cases w with
  | obj i =>
    simp only [srcOf] at e
    cases q : rdL h1 i with
    | none => rw [q] at e; cases e
    | some ws =>
      rw [q] at e
      cases e
      obtain ⟨a, rfl, ha⟩ := p1.obj_inv
      obtain ⟨vs, hq, r⟩ := rdL_to A1.rel ha q
      exact ⟨a, rfl, .inl ⟨⟨vs, hq⟩, n μ1 H1 _ _ g1 A1.rel (itr_list (c := cfg X)) ha⟩⟩
  | tup ws =>
    cases e
    obtain ⟨a, vs, rfl, hq, r⟩ := p1.tup_inv
    exact ⟨a, rfl, .inr ⟨⟨vs, hq⟩, n μ1 H1 _ _ g1 A1.rel (itr_tup (c := cfg X)) ⟨vs, hq, r⟩⟩⟩
  | ptp ws =>
    cases e
    obtain ⟨a, vs, rfl, pq, r⟩ := p1.ptp_inv
    have hq := pq.sq
    exact ⟨a, rfl, .inr ⟨⟨vs, hq⟩, n μ1 H1 _ _ g1 A1.rel (itr_tup (c := cfg X)) ⟨vs, hq, r⟩⟩⟩
  | _ => cases e
def sS (x : PySem.Str) : Src := ⟨x.cps.size, fun k _ => some (x.cps[k]?.map fun ch => .str ⟨#[ch]⟩)⟩
theorem itr_str {c : Cfg} {x : PySem.Str} : ItR c (Its x) (sS x) (fun _ _ => True) where
  keep := fun _ _ _ _ _ _ => trivial
  go := fun μ h H k w R _ e => by
    have e : x.cps[k]?.map (fun ch => Wv.str ⟨#[ch]⟩) = some w := Option.some.inj e
    obtain ⟨ch, hc, rfl⟩ := Option.map_eq_some_iff.mp e
    refine ⟨(Array.getElem?_eq_some_iff.mp hc).1, fun y H' ⟨e1, ch', hc', e2⟩ => ?_⟩
    subst e1 e2
    rw [hc] at hc'
    cases hc'
    exact ⟨μ, Go.refl .., R, .str _⟩
  stop := fun μ h H k R _ e => by
    have e : x.cps[k]?.map (fun ch => Wv.str ⟨#[ch]⟩) = none := Option.some.inj e
    rw [Option.map_eq_none_iff] at e
    exact Array.getElem?_eq_none_iff.mp e
def iStrM (e : EM) : IM := fun ρ => (e ρ).bind fun w => match w with
  | .str x => M.pure (sS x)
  | _ => M.no
theorem mi_str {tg e : Expr} {m : EM} (he : ME X e m) : MI X tg e (iStrM m) := PI.imp (pi_str he) fun σ H R ⟨μ, ρ, h, src, h', A, e, n⟩ => by
  obtain ⟨w, h1, e1, e⟩ := bind_ok e
  refine mE_first A e1 fun μ1 v H1 g1 A1 p1 => ?_
  cases w with
  | str x => cases e; exact ⟨x, p1.str_inv, n μ1 H1 _ _ g1 A1.rel (itr_str (c := cfg X)) trivial⟩
  | _ => cases e
def sR (lo : Int) (n : Nat) : Src := ⟨n, fun k _ => some (if k < n then some (.int (lo + k)) else none)⟩
theorem itr_rng {c : Cfg} {lo : Int} {n : Nat} : ItR c (Itr lo n) (sR lo n) (fun _ _ => True) where
  keep := fun _ _ _ _ _ _ => trivial
  go := fun μ h H k w R _ e => by
    have e : (if k < n then some (Wv.int (lo + k)) else none) = some w := Option.some.inj e
    by_cases hk : k < n
    · rw [if_pos hk] at e
      cases e
      refine ⟨hk, fun y H' ⟨e1, e2⟩ => ?_⟩
      subst e1 e2
      exact ⟨μ, Go.refl .., R, .int _⟩
    · rw [if_neg hk] at e; cases e
  stop := fun μ h H k R _ e => by
    have e : (if k < n then some (Wv.int (lo + k)) else none) = none := Option.some.inj e
    by_cases hk : k < n
    · rw [if_pos hk] at e; cases e
    · exact Nat.le_of_not_lt hk
def rgB (j : Int) : Bool := decide (-(2 ^ 62) ≤ j) && decide (j < 2 ^ 62)
theorem rgB_of {j : Int} (h : rgB j = true) : -(2 ^ 62) ≤ j ∧ j < 2 ^ 62 := by
  unfold rgB at h
  rw [Bool.and_eq_true, decide_eq_true_eq, decide_eq_true_eq] at h
  exact h
def rng1 (ws : List Wv) : M Src := match ws with
  | [.int j] => if rgB j then M.pure (sR 0 j.toNat) else M.no
  | _ => M.no
def rng2 (ws : List Wv) : M Src := match ws with
  | [.int i, .int j] => if rgB i && rgB j then M.pure (sR i (j - i).toNat) else M.no
  | _ => M.no
def iArgs (f : List Wv → M Src) (a : AM) : IM := fun ρ => (a ρ).bind f
theorem mi_range1 {tg a : Expr} {p pos : Pos} {m : AM} (hg : Gl X "range") (hm : X.mg "range" = none) (ha : MA X [a] m) (hs : starEach [a] X.env = [(false, eval a X.env)] := by rfl) : MI X tg (.Call (.Name "range" p) [a] [] pos) (iArgs rng1 m) :=
  PI.imp (pi_range1 hg hm ha hs) fun σ H R ⟨μ, ρ, h, src, h', A, e, n⟩ => by
    obtain ⟨ws, h1, e1, e⟩ := bind_ok e
    refine mA_first A e1 fun μ1 vs H1 g1 A1 p1 => ?_
    unfold rng1 at e
    split at e
    · next j =>
      obtain ⟨b, e⟩ := if_ok e
      cases e
      obtain ⟨b1, b2⟩ := rgB_of b
      cases p1 with
      | cons p t => cases t; exact ⟨j, by rw [p.int_inv], b1, b2, n μ1 H1 _ _ g1 A1.rel (itr_rng (c := cfg X)) trivial⟩
    · cases e
def enum (ws : List Wv) : M Src := fun h => match ws with
  | [w] => match srcOf w h with
    | .ok s h' => .ok ⟨s.cnt, fun k h => (s.at_ k h).map fun o => o.map fun x => .tup [.int k, x]⟩ h'
    | _ => .no
  | _ => .no

def forM (src : Src) (g : GM) (b : SM) : Nat → Nat → SM
  | 0, _ => sNo
  | n + 1, k => fun ρ h => match src.at_ k h with
    | none => .no
    | some none => .ok (.nx, ρ) h
    | some (some w) => ((g w ρ).bind fun ρ1 => (b ρ1).bind fun r => match r.1 with
      | .nx => forM src g b n (k + 1) r.2
      | .ct => forM src g b n (k + 1) r.2
      | .bk => M.pure (.nx, r.2)
      | .ret w => M.pure (.ret w, r.2)
      | .xc x => M.pure (.xc x, r.2)) h
def sFor (i : IM) (g : GM) (b : SM) : SM := fun ρ => (i ρ).bind fun src => forM src g b (src.cnt + 1) 0 ρ
theorem ms_for {sl : List Nat} {tg iter : Expr} {body : List Stmt} {pos : Pos} {mi : IM} {g : GM} {b : SM} (hp : PassesOwn (model X.prog X.w) X.A X.env X.xe) (hc : X.calm = true) (hi : MI X tg iter mi) (hg : MG X sl tg g) (hb : MSs X body b)
    (hs : ∀ x, foldedSetIterable iter X.env x = pure x := by intro _; rfl) : MS X (.For tg iter body [] pos) (sFor mi g b) := PS.imp (ps_for hp hc hi hg hb hs) fun D σ H ⟨μ, ρ, h, fl, ρ', h', A, e, n⟩ => by
  obtain ⟨src, h1, e1, e⟩ := bind_ok e
  refine ⟨μ, ρ, h, src, h1, A, e1, fun μ1 H1 J G g1 R1 it hG => ?_⟩
  refine ⟨fun i m σ H => ∃ μ ρ h, At (cfg X) μ h H σ ρ ∧ G μ H ∧ forM src g b m i ρ h = .ok (fl, ρ') h' ∧ Ns (cfg X) μ H h' fl ρ' D, ⟨_, μ1, ρ, h1, A.go g1 R1, hG, e, n.after g1⟩, ?_⟩
  rintro i m σ2 H2 ⟨μ2, ρ2, h2, A2, G2, e2, n2⟩
  cases m with
  | zero => cases e2
  | succ m =>
    simp only [forM] at e2
    split at e2
    · cases e2
    · next q =>
      cases e2
      exact .inl ⟨it.stop _ _ _ _ A2.rel G2 q, n2.now A2⟩
    · next w q =>
      obtain ⟨go, yl⟩ := it.go _ _ _ _ _ A2.rel G2 q
      obtain ⟨ρ3, h3, e3, f3⟩ := bind_ok e2
      obtain ⟨⟨fl4, ρ4⟩, h4, e4, f4⟩ := bind_ok f3
      clear e2 f3
      refine .inr ⟨go, fun σ' H' => ∃ μ ρ h, At (cfg X) μ h H' σ' ρ ∧ G μ H' ∧ forM src g b m (i + 1) ρ h = .ok (fl, ρ') h' ∧ Ns (cfg X) μ H' h' fl ρ' D, fun σ' H' z => ⟨m, Nat.lt_succ_self m, z⟩, fun x H' y => ?_⟩
      obtain ⟨μ5, g5, R5, p5⟩ := yl x H' y
      refine ⟨μ5, ρ2, h2, w, ρ3, h3, A2.go g5 R5, p5, e3, fun μ6 σ6 H6 g6 A6 _ => ?_⟩
      refine ⟨μ6, ρ3, h3, fl4, ρ4, h4, A6, e4, fun μ7 σ7 H7 g7 A7 => ?_⟩
      have gg := g5.trans (g6.trans g7)
      cases fl4 with
      | nx => exact ⟨μ7, ρ4, h4, A7, it.keep _ _ _ _ G2 gg.toGw, f4, n2.after gg⟩
      | ct => exact ⟨μ7, ρ4, h4, A7, it.keep _ _ _ _ G2 gg.toGw, f4, n2.after gg⟩
      | bk => cases f4; exact (n2.after gg).now A7
      | ret w => cases f4; exact (n2.after gg).now A7
      | xc x => cases f4; exact (n2.after gg).now A7
def whileM (t : TM) (b : SM) : Nat → SM
  | 0 => sNo
  | n + 1 => fun ρ => (t ρ).bind fun k => if k = true then (b ρ).bind fun r => match r.1 with
      | .nx => whileM t b n r.2
      | .ct => whileM t b n r.2
      | .bk => M.pure (.nx, r.2)
      | .ret w => M.pure (.ret w, r.2)
      | .xc x => M.pure (.xc x, r.2)
    else M.pure (.nx, ρ)
end
end MM

set_option maxRecDepth 100000
set_option maxHeartbeats 4000000
namespace MM
open PySem PySem.Spec PyProof.Rows L2

def wipeM (ρ : Env) : List Nat → Env
  | [] => ρ
  | v :: vs => (wipeM ρ vs).set v none
theorem RpS.wipe {c : Cfg} {μ : List Addr} {H : Hp} {σ : L2.St} {ρ : Env} (r : RpS c μ H σ ρ) : ∀ vs : List Nat, RpS c μ H (L2.wipe σ vs) (wipeM ρ vs)
  | [] => r
  | v :: vs => RpS.set (v := none) (w := none) trivial v (RpS.wipe r vs)
structure Sd (c : Cfg) (μ1 : List Addr) (H1 : Hp) (D : Addr) (μ : List Addr) (H : Hp) : Prop where
  go : Go c μ1 H1 μ H
  out : D ∉ μ
theorem Sd.step {c : Cfg} {μ1 μ μ' : List Addr} {H1 H H' : Hp} {D : Addr} {o : HO} (s : Sd c μ1 H1 D μ H) (e : H D = some o) (g : Go c μ H μ' H') : Sd c μ1 H1 D μ' H' ∧ H' D = some o :=
  ⟨⟨s.go.trans g, fun z => by have := g.new D z s.out; rw [e] at this; cases this⟩, g.fr D o e s.out⟩
theorem Sd.turn {c : Cfg} {μ1 μ : List Addr} {h h1 : Hm} {H1 H : Hp} {D : Addr} {o u : HO} (s : Sd c μ1 H1 D μ H) (R1 : Rel c μ1 h1 H1) (n1 : H1 D = none) (R : Rel c μ h H) (e : H D = some o) (nt : ∀ xs, o ≠ .tup xs ∧ ∀ ob, o ≠ .frz ob (.tup xs)) (nf : ∀ ob u, o ≠ .frz ob u) :
    Sd c μ1 H1 D μ (upd H D u) ∧ Rel c μ h (upd H D u) ∧ Gw c μ H μ (upd H D u) := by
  have tk : ∀ a vs, SqT c.K H a vs → SqT c.K (upd H D u) a vs := fun a vs z => by
    rcases z with z | z
    · have na : a ≠ D := fun q => by
        subst q
        rcases z with z | ⟨ob, z⟩
        · rw [e] at z; exact (nt vs).1 (Option.some.inj z)
        · rw [e] at z; exact (nt vs).2 ob (Option.some.inj z)
      rcases z with z | ⟨ob, z⟩
      · exact .inl (.inl (by rw [upd_ne na]; exact z))
      · exact .inl (.inr ⟨ob, by rw [upd_ne na]; exact z⟩)
    · exact .inr z
  have tq : ∀ a vs, H a = some (.tup vs) → upd H D u a = some (.tup vs) := fun a vs z => by
    have na : a ≠ D := fun q => by subst q; rw [e] at z; exact (nt vs).1 (Option.some.inj z)
    rw [upd_ne na]; exact z
  have gw : Gw c μ H μ (upd H D u) := ⟨⟨List.prefix_refl _, tk, tq, fun a ob xs _ z => by
    have na : a ≠ D := fun q => by subst q; rw [e] at z; exact nf ob xs (Option.some.inj z)
    rw [upd_ne na]; exact z⟩, fun a ob v z => by
    have na : a ≠ D := fun q => by subst q; rw [e] at z; exact nf ob v (Option.some.inj z)
    rw [upd_ne na]; exact z⟩
  refine ⟨⟨⟨s.go.toGw.trans gw, fun a o z n => ?_, s.go.new⟩, s.out⟩, ⟨R.len, R.nd, fun i a o ha ho => ?_⟩, gw⟩
  · rw [upd_ne (ne_of_none z n1)]; exact s.go.fr a o z n
  · obtain ⟨v, ev, r⟩ := R.at_ i a o ha ho
    have na : a ≠ D := fun q => s.out (by rw [← q]; exact List.mem_of_getElem? ha)
    exact ⟨v, by rw [upd_ne na]; exact ev, r.mv gw⟩
theorem Sd.begin {c : Cfg} {μ : List Addr} {h : Hm} {H : Hp} {D : Addr} {u : HO} (R : Rel c μ h H) (n : H D = none) : Sd c μ H D μ (upd H D u) ∧ Rel c μ h (upd H D u) := by
  obtain ⟨g, R'⟩ := R.aside n (u := u)
  refine ⟨⟨g, fun z => ?_⟩, R'⟩
  obtain ⟨i, hi⟩ := List.getElem?_of_mem z
  have hl := (List.getElem?_eq_some_iff.mp hi).1
  rw [R.len] at hl
  obtain ⟨v, e, _⟩ := R.at_ i D _ hi (List.getElem?_eq_getElem hl)
  rw [n] at e; cases e
theorem Sd.done {c : Cfg} {μ1 μ : List Addr} {h : Hm} {H1 H : Hp} {D : Addr} {o : Ob} {u : HO} (s : Sd c μ1 H1 D μ H) (n1 : H1 D = none) (R : Rel c μ h H) (e : H D = some u) (hu : ∀ μ' H', Gw c μ H μ' H' → ObjU c μ' H' D o u) : Go c μ1 H1 (μ ++ [D]) H ∧ Rel c (μ ++ [D]) (h ++ [o]) H := by
  have gw : Gw c μ H (μ ++ [D]) H := ⟨⟨List.prefix_append _ _, fun _ _ z => z, fun _ _ z => z, fun _ _ _ _ z => z⟩, fun _ _ _ z => z⟩
  refine ⟨⟨s.go.toGw.trans gw, s.go.fr, fun a m n => ?_⟩, ⟨by rw [List.length_append, List.length_append, R.len]; rfl, List.nodup_append.mpr ⟨R.nd, by simp, fun a ha b hb z => by rw [List.mem_singleton.mp hb] at z; exact s.out (by rw [← z]; exact ha)⟩, fun i a o' ha ho => ?_⟩⟩
  · rcases List.mem_append.mp m with m | m
    · exact s.go.new a m n
    · rw [List.mem_singleton.mp m]; exact n1
  · by_cases hi : i < μ.length
    · rw [List.getElem?_append_left hi] at ha
      rw [List.getElem?_append_left (by rw [← R.len]; exact hi)] at ho
      obtain ⟨v, ev, r⟩ := R.at_ i a o' ha ho
      exact ⟨v, ev, r.mv gw⟩
    · have hl := (List.getElem?_eq_some_iff.mp ha).1
      rw [List.length_append, List.length_singleton] at hl
      have z : i = μ.length := by omega
      subst z
      rw [List.getElem?_append_right (Nat.le_refl _), Nat.sub_self] at ha
      rw [R.len, List.getElem?_append_right (Nat.le_refl _), Nat.sub_self] at ho
      cases ha
      cases ho
      exact ⟨u, e, hu _ _ gw⟩
theorem Nx.made {c : Cfg} {μ1 μ : List Addr} {h : Hm} {H1 H : Hp} {D : Addr} {o : Ob} {u : HO} {Q : VK} (n : Nx c μ1 H1 (h ++ [o]) (.obj h.length) Q) (s : Sd c μ1 H1 D μ H) (n1 : H1 D = none) (R : Rel c μ h H) (e : H D = some u) (hu : ∀ μ' H', Gw c μ H μ' H' → ObjU c μ' H' D o u) : Q (.ref D) H := by
  obtain ⟨g, R'⟩ := s.done n1 R e hu
  exact n _ _ _ g R' (.obj (by rw [← R.len]; simp))
def PTs.imp {X : Cx} {ifs : List Expr} {t t' : TT} (p : PTs X ifs t) (f : ∀ σ H Q, t' σ H Q → t σ H Q) : PTs X ifs t' := ⟨fun pins s σ H Q I h => p.run pins s σ H Q I (f σ H Q h)⟩
abbrev MTs (X : Cx) (ifs : List Expr) (m : TM) : Prop := PTs X ifs (mT (cfg X) m)
def tYesM : TM := fun _ h => .ok true h
section
variable {X : Cx}
theorem mts_nil : MTs X [] tYesM := PTs.imp pts_nil fun σ H Q ⟨μ, ρ, h, b, h', A, e, n⟩ => by
  cases e
  exact n.now A.rel
theorem mts_one {t : Expr} {m : TM} (h : MT X t m) : MTs X [t] m := pts_one h
def lcM (src : Src) (vs : List Nat) (g : GM) (t : TM) (e : EM) (ρ : Env) : Nat → Nat → List Wv → M (List Wv)
  | 0, _, _ => M.no
  | n + 1, k, acc => fun h => match src.at_ k h with
    | none => .no
    | some none => .ok acc h
    | some (some w) => ((g w (wipeM ρ vs)).bind fun ρ1 => (t ρ1).bind fun b => if b = true then (e ρ1).bind fun y => if acc.length < sizeLine then lcM src vs g t e ρ n (k + 1) (acc ++ [y]) else M.no
        else lcM src vs g t e ρ n (k + 1) acc) h
def eLc (i : IM) (vs : List Nat) (g : GM) (t : TM) (e : EM) : EM := fun ρ => (i ρ).bind fun src => (lcM src vs g t e ρ (src.cnt + 1) 0 []).bind fun ws => lay (.lst ws)
theorem ifD_ok {α : Type} {P : Prop} [Decidable P] {m : M α} {h : Hm} {a : α} {h' : Hm} (e : (if P then m else M.no) h = .ok a h') : P ∧ m h = .ok a h' := by
  by_cases p : P
  · rw [if_pos p] at e; exact ⟨p, e⟩
  · rw [if_neg p] at e; cases e
theorem lay_ok {o : Ob} {h h' : Hm} {w : Wv} (e : lay o h = .ok w h') : w = .obj h.length ∧ h' = h ++ [o] := by cases e; exact ⟨rfl, rfl⟩
theorem eLc_to {c : Cfg} {mi : IM} {sl : List Nat} {g : GM} {t : TM} {m : EM} {σ : L2.St} {H : Hp} {Q : VK} (z : mE c (eLc mi sl g t m) σ H Q) : tLc (iM c mi) (mG c sl g) (mT c t) (mE c m) sl σ H Q := by
  obtain ⟨μ, ρ, h, w, h', A, e, n⟩ := z
  obtain ⟨src, h1, e1, f1⟩ := bind_ok e
  obtain ⟨ws, h2, e2, f2⟩ := bind_ok f1
  clear e f1
  obtain ⟨rfl, rfl⟩ := lay_ok f2
  refine ⟨μ, ρ, h, src, h1, A, e1, fun μ1 H1 J G g1 R1 it hG D nD => ?_⟩
  have A1 := A.go g1 R1
  have n1 := n.after g1
  obtain ⟨sd, R2⟩ := Sd.begin R1 nD (u := .lst [])
  refine ⟨fun i k H' => ∃ μ' h' acc av, Sd c μ1 H1 D μ' H' ∧ Rel c μ' h' H' ∧ G μ' H' ∧ H' D = some (.lst av) ∧ Rps c μ' H' av acc ∧ lcM src sl g t m ρ k i acc h' = .ok ws h2, ⟨_, μ1, h1, [], [], sd, R2, it.keep _ _ _ _ hG (R1.aside nD).1.toGw, upd_same, .nil, e2⟩, ?_⟩
  rintro i k H3 ⟨μ3, h3, acc, av, s3, R3, G3, d3, p3, e3⟩
  cases k with
  | zero => cases e3
  | succ k =>
    simp only [lcM] at e3
    split at e3
    · cases e3
    · next q =>
      cases e3
      exact .inl ⟨it.stop _ _ _ _ R3 G3 q, n1.made s3 nD R3 d3 fun _ _ g => ⟨av, rfl, p3.mv g⟩⟩
    · next w q =>
      obtain ⟨go, yl⟩ := it.go _ _ _ _ _ R3 G3 q
      obtain ⟨ρ4, h4, e4, f4⟩ := bind_ok e3
      obtain ⟨b, h5, e5, f5⟩ := bind_ok f4
      clear e3 f4
      refine .inr ⟨go, fun H' => ∃ μ' h' acc av, Sd c μ1 H1 D μ' H' ∧ Rel c μ' h' H' ∧ G μ' H' ∧ H' D = some (.lst av) ∧ Rps c μ' H' av acc ∧ lcM src sl g t m ρ k (i + 1) acc h' = .ok ws h2, fun H' z => ⟨k, Nat.lt_succ_self k, z⟩, fun x H4 y => ?_⟩
      obtain ⟨μ4, g4, R4, px⟩ := yl x H4 y
      obtain ⟨s4, d4⟩ := s3.step d3 g4
      refine ⟨μ4, wipeM ρ sl, h3, w, ρ4, h4, ⟨R4, (A1.sl.go s4.go).wipe sl⟩, px, e4, fun μ5 σ5 H5 g5 A5 w5 => ⟨?_, ?_⟩⟩
      · rw [w5]
        have idem : ∀ (vs : List Nat) (σ : L2.St), wipe (wipe σ vs) vs = wipe σ vs := fun vs σ => by
          have : ∀ ws : List Nat, (∀ v ∈ ws, v ∈ vs) → wipe (wipe σ ws) vs = wipe σ vs := by
            intro ws
            induction ws with
            | nil => intro _; rfl
            | cons v ws ih =>
              intro hv
              show wipe ((wipe σ ws).set v none) vs = _
              rw [wipe_in (hv v List.mem_cons_self)]
              exact ih fun u hu => hv u (List.mem_cons_of_mem _ hu)
          exact this vs fun _ h => h
        exact idem sl σ
      · obtain ⟨s5, d5⟩ := s4.step d4 g5
        refine mT_first A5 e5 fun μ6 H6 g6 A6 => ?_
        obtain ⟨s6, d6⟩ := s5.step d5 g6
        have G6 := it.keep _ _ _ _ G3 (g4.trans (g5.trans g6)).toGw
        have p6 := ((p3.go g4).go g5).go g6
        cases b with
        | false => exact ⟨μ6, h5, acc, av, s6, A6.rel, G6, d6, p6, f5⟩
        | true =>
          rw [if_pos rfl] at f5 ⊢
          obtain ⟨y, h7, e7, f7⟩ := bind_ok f5
          obtain ⟨sz, f7⟩ := ifD_ok f7
          refine mE_first A6 e7 fun μ7 v H7 g7 A7 p7 => ?_
          obtain ⟨s7, d7⟩ := s6.step d6 g7
          have q7 := p6.go g7
          refine ⟨av, d7, by rw [q7.length]; exact sz, ?_⟩
          obtain ⟨s8, R8, gw⟩ := s7.turn (u := .lst (av ++ [v])) R1 nD A7.rel d7 (fun xs => ⟨(fun z => by cases z), (fun ob z => by cases z)⟩) (fun ob u z => by cases z)
          exact ⟨μ7, h7, acc ++ [y], av ++ [v], s8, R8, it.keep _ _ _ _ G6 (g7.toGw.trans gw), upd_same, (q7.mv gw).append (.cons (p7.mv gw) .nil), f7⟩
theorem me_lc {elt tg iter : Expr} {ifs : List Expr} {scope : Scope} {own : List (PySem.Str × Nat)} {pos : Pos} {mi : IM} {sl : List Nat} {g : GM} {t : TM} {m : EM} (hc : X.calm = true) (hN : X.N.Nodup) (hi : MI X tg iter mi) (ok : BlkOk X.N X.env.scope scope own) (hsl : own.map (·.2) = sl)
    (hg : ∀ (s : Shared) (H : Hp) (C : Addr) (cl : List (PySem.Str × Addr)) (fp : List Addr), MG (X.blk s H scope (compEnvC scope cl C X.env) fp) sl tg g) (ht : ∀ (s : Shared) (H : Hp) (C : Addr) (cl : List (PySem.Str × Addr)) (fp : List Addr), MTs (X.blk s H scope (compEnvC scope cl C X.env) fp) ifs t)
    (he : ∀ (s : Shared) (H : Hp) (C : Addr) (cl : List (PySem.Str × Addr)) (fp : List Addr), ME (X.blk s H scope (compEnvC scope cl C X.env) fp) elt m) (hs : ∀ x, foldedSetIterable iter X.env x = pure x := by intro _; rfl) :
    ME X (.ListComp elt [⟨tg, iter, ifs, 0⟩] scope pos) (eLc mi sl g t m) := by
  subst hsl
  exact PE.imp (pe_lc (g := mG (cfg X) _ g) (tt := mT (cfg X) t) (te := mE (cfg X) m) hc hN hi ok hg ht he hs) fun _ _ _ z => eLc_to z
theorem ms_setLc {i : Nat} {y : PySem.Str} {py : Pos} {elt tg iter : Expr} {ifs : List Expr} {scope : Scope} {own : List (PySem.Str × Nat)} {pos spos : Pos} {mi : IM} {sl : List Nat} {g : GM} {t : TM} {m : EM} (hc : X.calm = true) (hN : X.N.Nodup) (hy : X.N[i]? = some y) (hyl : X.env.scope.names.lookup y = some .local)
    (hsw : swapsWith (.ListComp elt [⟨tg, iter, ifs, 0⟩] scope pos) (some (.Name y py)) spos.line X.env = pure true) (hi : MI X tg iter mi) (ok : BlkOk X.N X.env.scope scope own) (hsl : own.map (·.2) = sl)
    (hg : ∀ (s : Shared) (H : Hp) (C : Addr) (cl : List (PySem.Str × Addr)) (fp : List Addr), MG (X.blk s H scope (compEnvC scope cl C X.env) fp) sl tg g) (ht : ∀ (s : Shared) (H : Hp) (C : Addr) (cl : List (PySem.Str × Addr)) (fp : List Addr), MTs (X.blk s H scope (compEnvC scope cl C X.env) fp) ifs t)
    (he : ∀ (s : Shared) (H : Hp) (C : Addr) (cl : List (PySem.Str × Addr)) (fp : List Addr), ME (X.blk s H scope (compEnvC scope cl C X.env) fp) elt m) (hs : ∀ x, foldedSetIterable iter X.env x = pure x := by intro _; rfl) :
    MS X (.Assign [.Name y py] (.ListComp elt [⟨tg, iter, ifs, 0⟩] scope pos) spos) (sSet i (eLc mi sl g t m)) := by
  subst hsl
  refine PS.imp (ps_setLc (g := mG (cfg X) _ g) (tt := mT (cfg X) t) (te := mE (cfg X) m) hc hN hy hyl hsw hi ok hg ht he hs) fun D σ H z => ?_
  have := sSet_to z
  exact eLc_to this
end
end MM

set_option maxRecDepth 100000
set_option maxHeartbeats 4000000
namespace MM
open PySem PySem.Spec PyProof.Rows L2

def dat (h : Hm) : Nat → Wv → Option PyData
  | 0, _ => none
  | _ + 1, .non => some .none
  | _ + 1, .bl b => some (.bool b)
  | _ + 1, .int i => some (.int i)
  | _ + 1, .str x => some (.str x)
  | n + 1, .tup ws => (ws.mapM (dat h n)).map .tuple
  | n + 1, .ptp ws => (ws.mapM (dat h n)).map .tuple
  | n + 1, .obj i => match rdL h i with
    | some ws => (ws.mapM (dat h n)).map .list
    | none => none
  | _ + 1, .scr ns => some (.list (ns.map .int))
  | _ + 1, _ => none
theorem mapM_some {α β : Type} {f : α → Option β} {a : α} {as : List α} {bs : List β} (e : (a :: as).mapM f = some bs) : ∃ b bs', f a = some b ∧ as.mapM f = some bs' ∧ bs = b :: bs' := by
  rw [List.mapM_cons] at e
  cases q : f a with
  | none => rw [q] at e; cases e
  | some b =>
    rw [q] at e
    cases q2 : as.mapM f with
    | none => rw [q2] at e; cases e
    | some bs' => rw [q2] at e; cases e; exact ⟨b, bs', rfl, rfl, rfl⟩
theorem dp_intsM {K : PySem.W.Frag} {H : Hp} : ∀ ns : List Int, DpAll K H (ns.map V.int) (ns.map PyData.int)
  | [] => .nil
  | n :: ns => .cons (.int n) (dp_intsM ns)
theorem dat_to {c : Cfg} {μ : List Addr} {h : Hm} {H : Hp} (R : Rel c μ h H) : ∀ {n : Nat} {w : Wv} {v : V} {d : PyData}, Rp c μ H v w → dat h n w = some d → Dp c.K H v d := by
  intro n
  induction n with
  | zero => intro w v d p e; cases e
  | succ n ih =>
    have all : ∀ {ws : List Wv} {vs : List V} {ds : List PyData}, Rps c μ H vs ws → ws.mapM (dat h n) = some ds → DpAll c.K H vs ds := by
      intro ws
      induction ws with
      | nil => intro vs ds r e; cases r; simp at e; subst e; exact .nil
      | cons w ws iw =>
        intro vs ds r e
        cases r with
        | cons p t =>
          obtain ⟨d, ds', e1, e2, rfl⟩ := mapM_some e
          exact .cons (ih p e1) (iw t e2)
    intro w v d p e
    cases p with
    | non => cases e; exact .non
    | bl b => cases e; exact .bl b
    | int i => cases e; exact .int i
    | str x => cases e; exact .str x
    | @tup a vs ws q r =>
      have e : (ws.mapM (dat h n)).map PyData.tuple = some d := e
      obtain ⟨ds, e1, rfl⟩ := Option.map_eq_some_iff.mp e
      exact .tup (.of q) (all r e1)
    | @obj a i ha =>
      simp only [dat] at e
      cases q : rdL h i with
      | none => rw [q] at e; cases e
      | some ws =>
        rw [q] at e
        obtain ⟨ds, e1, rfl⟩ := Option.map_eq_some_iff.mp e
        obtain ⟨vs, hq, r⟩ := rdL_to R ha q
        exact .lst hq (all r e1)
    | glob _ => cases e
    | raw _ => cases e
    | @scr a ns hs =>
      cases e
      exact .lst hs.sq (dp_intsM ns)
    | @ptp a vs ws q r =>
      have e : (ws.mapM (dat h n)).map PyData.tuple = some d := e
      obtain ⟨ds, e1, rfl⟩ := Option.map_eq_some_iff.mp e
      exact .tup q.sq (all r e1)

def intM (f : Int → Int → M Wv) : F2 := fun a b => match a, b with
  | .int i, .int j => f i j
  | _, _ => M.no
theorem intM_ok {f : Int → Int → M Wv} {a b w : Wv} {h h' : Hm} (e : intM f a b h = .ok w h') : ∃ i j, a = .int i ∧ b = .int j ∧ f i j h = .ok w h' := by
  unfold intM at e
  split at e
  · exact ⟨_, _, rfl, rfl, e⟩
  · cases e
def pI (g : Int → Int → Wv) : F2 := intM fun i j => M.pure (g i j)
def pIc (C : Int → Int → Bool) (g : Int → Int → Wv) : F2 := intM fun i j => if C i j = true then M.pure (g i j) else M.no
theorem lop_cmpI {c : Cfg} {g : Int → Int → Bool} : LOp c (pI fun i j => .bl (g i j)) (rI0 fun i j => .bl (g i j)) := by
  intro μ h H v1 v2 w1 w2 w h' Q R p1 p2 e n
  obtain ⟨i, j, rfl, rfl, e⟩ := intM_ok e
  cases e
  exact ⟨i, j, p1.int_inv, p2.int_inv, n.now R (.bl _)⟩
theorem lop_intC {c : Cfg} {C : Int → Int → Prop} {B : Int → Int → Bool} {g : Int → Int → Int} (hB : ∀ i j, B i j = true → C i j) : LOp c (pIc B fun i j => .int (g i j)) (rI C fun i j => .int (g i j)) := by
  intro μ h H v1 v2 w1 w2 w h' Q R p1 p2 e n
  obtain ⟨i, j, rfl, rfl, e⟩ := intM_ok e
  obtain ⟨b, e⟩ := if_ok e
  cases e
  exact ⟨i, j, p1.int_inv, p2.int_inv, hB i j b, n.now R (.int _)⟩
def subM : F2 := pI fun i j => .int (i - j)
def bMul (i j : Int) : Bool := decide (i.natAbs < 2 ^ 64) || (decide (j.natAbs < 2 ^ 64) || decide (i.natAbs.log2 + j.natAbs.log2 < 1000000))
def bDiv (_ j : Int) : Bool := decide (0 < j) && decide (j.natAbs.log2 < 9000)
def bPow (i j : Int) : Bool := decide (0 ≤ j) && decide (j ≤ 1000000) && decide (i.natAbs < 2 ^ 64)
def fdivM : F2 := pIc bDiv fun i j => .int (i / j)
def modM : F2 := pIc (fun _ j => decide (0 < j)) fun i j => .int (i % j)
def powM : F2 := pIc bPow fun i j => .int (i ^ j.toNat)
def ltI : F2 := pI fun i j => .bl (decide (i < j))
def leI : F2 := pI fun i j => .bl (decide (i ≤ j))
def gtI : F2 := pI fun i j => .bl (decide (j < i))
def geI : F2 := pI fun i j => .bl (decide (j ≤ i))
section
variable {X : Cx} {a b : Expr} {pos : Pos} {ma mb : EM}
theorem me_fdiv (ha : ME X a ma) (hb : ME X b mb) : ME X (.BinOp a .FloorDiv b pos) (eOp fdivM ma mb) := me_op op_fdivW (lop_intC fun i j h => by
  unfold bDiv at h
  rw [Bool.and_eq_true, decide_eq_true_eq, decide_eq_true_eq] at h
  exact h) ha hb
theorem me_mod (ha : ME X a ma) (hb : ME X b mb) : ME X (.BinOp a .Mod b pos) (eOp modM ma mb) := me_op op_mod (lop_intC fun i j h => of_decide_eq_true h) ha hb
theorem me_pow (ha : ME X a ma) (hb : ME X b mb) : ME X (.BinOp a .Pow b pos) (eOp powM ma mb) := me_op op_pow (lop_intC fun i j h => by
  unfold bPow at h
  rw [Bool.and_eq_true, Bool.and_eq_true, decide_eq_true_eq, decide_eq_true_eq, decide_eq_true_eq] at h
  exact ⟨h.1.1, h.1.2, h.2⟩) ha hb

def lstOf (h : Hm) (i : Nat) : Option (List Wv) := match h[i]? with
  | some (.lst ws) => some ws
  | _ => none
theorem lstOf_to {c : Cfg} {μ : List Addr} {h : Hm} {H : Hp} {i : Nat} {ws : List Wv} {a : Addr} (R : Rel c μ h H) (ha : μ[i]? = some a) (e : lstOf h i = some ws) : ∃ vs, H a = some (.lst vs) ∧ Rps c μ H vs ws := by
  unfold lstOf at e
  split at e
  · next ws' q =>
    cases e
    obtain ⟨u, hu, vs, rfl, r⟩ := R.get ha q
    exact ⟨vs, hu, r⟩
  · cases e
def addM : F2 := fun a b => match a, b with
  | .int i, .int j => M.pure (.int (i + j))
  | .str x, .str y => if x.length + y.length ≤ sizeLine then M.pure (.str (x ++ y)) else M.no
  | .tup xs, .tup ys => if xs.length + ys.length ≤ sizeLine then M.pure (.tup (xs ++ ys)) else M.no
  | .obj i, .obj j => fun h => match lstOf h i, lstOf h j with
    | some xs, some ys => if xs.length + ys.length ≤ sizeLine then lay (.lst (xs ++ ys)) h else .no
    | _, _ => .no
  | _, _ => M.no
theorem Rps.nil_iff {c : Cfg} {μ : List Addr} {H : Hp} {vs : List V} {ws : List Wv} (r : Rps c μ H vs ws) : vs = [] ↔ ws = [] := by cases r <;> simp
theorem ifD_ok' {α : Type} {P : Prop} [Decidable P] {m : Out α} {a : α} {h' : Hm} (e : (if P then m else .no) = .ok a h') : P ∧ m = .ok a h' := by
  by_cases p : P
  · rw [if_pos p] at e; exact ⟨p, e⟩
  · rw [if_neg p] at e; cases e
theorem me_add (ha : ME X a ma) (hb : ME X b mb) : ME X (.BinOp a .Add b pos) (eOp addM ma mb) := me_op (((op_add.or op_add_str).or op_catA).or op_cat) (by
  intro μ h H v1 v2 w1 w2 w h' Q R p1 p2 e n
  unfold addM at e
  split at e
  · next i j =>
    cases e
    exact .inl (.inl (.inl ⟨i, j, p1.int_inv, p2.int_inv, n.now R (.int _)⟩))
  · next x y =>
    obtain ⟨l, e⟩ := ifD_ok e
    cases e
    exact .inl (.inl (.inr ⟨x, y, p1.str_inv, p2.str_inv, l, n.now R (.str _)⟩))
  · next xs ys =>
    obtain ⟨l, e⟩ := ifD_ok e
    cases e
    obtain ⟨a1, vs, rfl, q1, r1⟩ := p1.tup_at
    obtain ⟨a2, us, rfl, q2, r2⟩ := p2.tup_at
    refine .inl (.inr ⟨a1, a2, vs, us, rfl, rfl, .of q1, .of q2, by rw [r1.length, r2.length]; exact l, fun z => ?_, fun _ z => ?_, fun _ _ p np => n.tup R (r1.append r2) np⟩)
    · have := r1.nil_iff.mp z
      subst this
      exact n.now R (.tup q2 r2)
    · have := r2.nil_iff.mp z
      subst this
      rw [List.append_nil] at n
      exact n.now R (.tup q1 r1)
  · next i j =>
    split at e
    · next xs ys ex ey =>
      obtain ⟨l, e⟩ := ifD_ok' e
      obtain ⟨rfl, rfl⟩ := lay_ok e
      obtain ⟨a1, rfl, h1⟩ := p1.obj_inv
      obtain ⟨a2, rfl, h2⟩ := p2.obj_inv
      obtain ⟨vs, q1, r1⟩ := lstOf_to R h1 ex
      obtain ⟨us, q2, r2⟩ := lstOf_to R h2 ey
      exact .inr ⟨a1, a2, vs, us, rfl, rfl, q1, q2, by rw [r1.length, r2.length]; exact l, fun p np => n.lay R np fun _ _ g => ⟨_, rfl, (r1.append r2).mv g⟩⟩
    · cases e
  · cases e) ha hb
def mulM : F2 := fun a b => match a, b with
  | .int i, .int j => if bMul i j = true then M.pure (.int (i * j)) else M.no
  | .obj i, .int k => fun h => match lstOf h i with
    | some ws => if -(2 ^ 63) ≤ k ∧ k < 2 ^ 63 ∧ ws.length * k.toNat ≤ sizeLine then lay (.lst (List.replicate k.toNat ws).flatten) h else .no
    | none => .no
  | _, _ => M.no
theorem Rps.flat {c : Cfg} {μ : List Addr} {H : Hp} {vs : List V} {ws : List Wv} (r : Rps c μ H vs ws) : ∀ n, Rps c μ H (List.replicate n vs).flatten (List.replicate n ws).flatten
  | 0 => .nil
  | n + 1 => by rw [List.replicate_succ, List.replicate_succ, List.flatten_cons, List.flatten_cons]; exact r.append (r.flat n)
theorem me_mul (ha : ME X a ma) (hb : ME X b mb) : ME X (.BinOp a .Mult b pos) (eOp mulM ma mb) := me_op ((op_mulW.or op_mul).or op_rep) (by
  intro μ h H v1 v2 w1 w2 w h' Q R p1 p2 e n
  unfold mulM at e
  split at e
  · next i j =>
    obtain ⟨b, e⟩ := if_ok e
    cases e
    unfold bMul at b
    rcases Bool.or_eq_true_iff.mp b with b | b
    · have b := of_decide_eq_true b
      exact .inl (.inr ⟨i, j, p1.int_inv, p2.int_inv, .inl (by omega), n.now R (.int _)⟩)
    · rcases Bool.or_eq_true_iff.mp b with b | b
      · have b := of_decide_eq_true b
        exact .inl (.inr ⟨i, j, p1.int_inv, p2.int_inv, .inr (by omega), n.now R (.int _)⟩)
      · exact .inl (.inl ⟨i, j, p1.int_inv, p2.int_inv, (show i.natAbs.log2 + j.natAbs.log2 < 1000000 from of_decide_eq_true b), n.now R (.int _)⟩)
  · next i k =>
    split at e
    · next ws ex =>
      obtain ⟨⟨l1, l2, l3⟩, e⟩ := ifD_ok' e
      obtain ⟨rfl, rfl⟩ := lay_ok e
      obtain ⟨a1, rfl, h1⟩ := p1.obj_inv
      obtain ⟨vs, q1, r1⟩ := lstOf_to R h1 ex
      exact .inr ⟨a1, k, vs, rfl, p2.int_inv, q1, l1, l2, by rw [r1.length]; exact l3, fun p np => n.lay R np fun _ _ g => ⟨_, rfl, (r1.flat _).mv g⟩⟩
    · cases e
  · cases e) ha hb

theorem me_ge (ha : ME X a ma) (hb : ME X b mb) : ME X (.Compare a [.GtE] [b] pos) (eOp geI ma mb) := me_cmp op_ge lop_cmpI ha hb (nomark _)
theorem mt_lt (ha : ME X a ma) (hb : ME X b mb) : MT X (.Compare a [.Lt] [b] pos) (tOf (eOp ltI ma mb)) := mt_cmp op_lt lop_cmpI ha hb (nomark _)
theorem mt_gt (ha : ME X a ma) (hb : ME X b mb) : MT X (.Compare a [.Gt] [b] pos) (tOf (eOp gtI ma mb)) := mt_cmp op_gt lop_cmpI ha hb (nomark _)
def eqB (neg : Bool) : F2 := fun a b h => match a, b with
  | .int i, .int j => .ok (.bl (if neg then !decide (i = j) else decide (i = j))) h
  | .str x, .str y => .ok (.bl (if neg then !decide (x = y) else decide (x = y))) h
  | .bl x, .bl y => .ok (.bl (if neg then !decide (x = y) else decide (x = y))) h
  | a, b => match dat h 60 a, dat h 60 b with
    | some d, some e => if (SeqAt.shaped d && SeqAt.shaped e) = true then .ok (.bl (if neg then !PyData.eqv d e else PyData.eqv d e)) h else .no
    | _, _ => .no
theorem lop_eq {c : Cfg} : LOp c (eqB false) (fun x y H Q => rEq x y H Q ∨ rEqD c.K x y H Q) := by
  intro μ h H v1 v2 w1 w2 w h' Q R p1 p2 e n
  unfold eqB at e
  split at e
  · next i j =>
    cases e
    obtain rfl := p1.int_inv
    obtain rfl := p2.int_inv
    exact .inl ⟨rfl, by have := n.now R (.bl _); simpa using this⟩
  · next i j =>
    cases e
    obtain rfl := p1.str_inv
    obtain rfl := p2.str_inv
    exact .inl ⟨rfl, by have := n.now R (.bl _); simpa using this⟩
  · next i j =>
    cases e
    obtain rfl := p1.bl_inv
    obtain rfl := p2.bl_inv
    exact .inl ⟨rfl, by have := n.now R (.bl _); simpa using this⟩
  · try simp only at e
    split at e
    · next d e' ed ee =>
      by_cases b : (SeqAt.shaped d && SeqAt.shaped e') = true
      · rw [if_pos b] at e
        cases e
        rw [Bool.and_eq_true] at b
        exact .inr ⟨d, e', dat_to R p1 ed, dat_to R p2 ee, b.1, b.2, n.now R (.bl _)⟩
      · rw [if_neg b] at e; cases e
    · cases e
theorem lop_ne {c : Cfg} : LOp c (eqB true) (fun x y H Q => rNe x y H Q ∨ rNeD c.K x y H Q) := by
  intro μ h H v1 v2 w1 w2 w h' Q R p1 p2 e n
  unfold eqB at e
  split at e
  · next i j =>
    cases e
    obtain rfl := p1.int_inv
    obtain rfl := p2.int_inv
    exact .inl ⟨rfl, by have := n.now R (.bl _); simpa using this⟩
  · next i j =>
    cases e
    obtain rfl := p1.str_inv
    obtain rfl := p2.str_inv
    exact .inl ⟨rfl, by have := n.now R (.bl _); simpa using this⟩
  · next i j =>
    cases e
    obtain rfl := p1.bl_inv
    obtain rfl := p2.bl_inv
    exact .inl ⟨rfl, by have := n.now R (.bl _); simpa using this⟩
  · try simp only at e
    split at e
    · next d e' ed ee =>
      by_cases b : (SeqAt.shaped d && SeqAt.shaped e') = true
      · rw [if_pos b] at e
        cases e
        rw [Bool.and_eq_true] at b
        exact .inr ⟨d, e', dat_to R p1 ed, dat_to R p2 ee, b.1, b.2, n.now R (.bl _)⟩
      · rw [if_neg b] at e; cases e
    · cases e
theorem me_eq (hu : X.A.units + 64 < cLine) (ha : ME X a ma) (hb : ME X b mb) : ME X (.Compare a [.Eq] [b] pos) (eOp (eqB false) ma mb) := me_cmp (op_eq.or (op_eqD hu)) lop_eq ha hb (nomark _)
theorem mt_eq (hu : X.A.units + 64 < cLine) (ha : ME X a ma) (hb : ME X b mb) : MT X (.Compare a [.Eq] [b] pos) (tOf (eOp (eqB false) ma mb)) := mt_cmp (op_eq.or (op_eqD hu)) lop_eq ha hb (nomark _)
theorem mt_ne (hu : X.A.units + 64 < cLine) (ha : ME X a ma) (hb : ME X b mb) : MT X (.Compare a [.NotEq] [b] pos) (tOf (eOp (eqB true) ma mb)) := mt_cmp (op_ne.or (op_neD hu)) lop_ne ha hb (nomark _)
def isNB (neg : Bool) : F2 := fun a b => match b with
  | .non => match a with
    | .non => M.pure (.bl (!neg))
    | .raw _ => M.no
    | _ => M.pure (.bl neg)
  | _ => M.no
end
end MM

set_option maxRecDepth 100000
set_option maxHeartbeats 4000000
namespace MM
open PySem PySem.Spec PyProof.Rows L2

def ixM : F2 := fun a b h => match a, b with
  | .tup ws, .int i => match atI ws i with
    | some w => .ok w h
    | none => .no
  | .obj k, .int i => match rdL h k with
    | some ws => match atI ws i with
      | some w => .ok w h
      | none => .no
    | none => .no
  | .str z, .int i => match atI z.cps.toList i with
    | some ch => if z.length ≤ sizeLine then .ok (.str ⟨#[ch]⟩) h else .no
    | none => .no
  | .scr ns, .int i => match atI ns i with
    | some n => .ok (.int n) h
    | none => .no
  | _, _ => .no
theorem Rps.atI {c : Cfg} {μ : List Addr} {H : Hp} {vs : List V} {ws : List Wv} {i : Int} {w : Wv} (r : Rps c μ H vs ws) (e : L2.atI ws i = some w) : ∃ v, L2.atI vs i = some v ∧ Rp c μ H v w := by
  unfold L2.atI at e ⊢
  rw [r.length]
  cases q : ixN ws.length i with
  | none => rw [q] at e; cases e
  | some j => rw [q] at e; exact r.at e
theorem lop_ix {c : Cfg} : LOp c ixM (fun x y H Q => (rIxT c.K x y H Q ∨ rIxL c.K x y H Q) ∨ rIxS x y H Q) := by
  intro μ h H v1 v2 w1 w2 w h' Q R p1 p2 e n
  unfold ixM at e
  split at e
  · next ws i =>
    split at e
    · next w' q =>
      cases e
      obtain ⟨a, vs, rfl, hq, r⟩ := p1.tup_inv
      obtain ⟨v, hv, pv⟩ := r.atI q
      exact .inl (.inl ⟨a, vs, i, v, rfl, p2.int_inv, hq, hv, n.now R pv⟩)
    · cases e
  · next k i =>
    split at e
    · next ws q =>
      split at e
      · next w' q' =>
        cases e
        obtain ⟨a, rfl, ha⟩ := p1.obj_inv
        obtain ⟨vs, hq, r⟩ := rdL_to R ha q
        obtain ⟨v, hv, pv⟩ := r.atI q'
        exact .inl (.inr ⟨a, vs, i, v, rfl, p2.int_inv, hq, hv, n.now R pv⟩)
      · cases e
    · cases e
  · next z i =>
    split at e
    · next ch q =>
      obtain ⟨l, e⟩ := ifD_ok' e
      cases e
      exact .inr ⟨z, i, ch, p1.str_inv, p2.int_inv, l, q, n.now R (.str _)⟩
    · cases e
  · next ns i =>
    split at e
    · next m q =>
      cases e
      obtain ⟨a, rfl, hs⟩ := p1.scr_inv
      refine .inl (.inr ⟨a, _, i, .int m, rfl, p2.int_inv, hs.sq, ?_, n.now R (.int _)⟩)
      unfold atI at q ⊢
      rw [List.length_map]
      cases q2 : ixN ns.length i with
      | none => rw [q2] at q; cases q
      | some j =>
        rw [q2] at q
        have q : ns[j]? = some m := q
        show (ns.map V.int)[j]? = some (.int m)
        rw [List.getElem?_map, q]
        rfl
    · cases e
  · cases e
section
variable {X : Cx} {a b : Expr} {pos : Pos} {ma mb : EM}
theorem me_sub_ix (ha : ME X a ma) (hb : ME X b mb) (hs : PlainIx b) : ME X (.Subscript a b pos) (eOp ixM ma mb) := me_ix ((ix_tup.or ix_list).or ix_str) lop_ix ha hb hs

abbrev OM := Env → M (Option Int)
def mO (c : Cfg) (m : OM) : TO := fun σ H Q => ∃ μ ρ h o h', At c μ h H σ ρ ∧ m ρ h = .ok o h' ∧ ∀ μ' H', Go c μ H μ' H' → Rel c μ' h' H' → Q o H'
theorem PO.imp {X : Cx} {e : Option Expr} {t t' : TO} (p : PO X e t) (f : ∀ σ H Q, t' σ H Q → t σ H Q) : PO X e t' := ⟨fun pins s σ H Q I h => p.run pins s σ H Q I (f σ H Q h)⟩
abbrev MO (X : Cx) (e : Option Expr) (m : OM) : Prop := PO X e (mO (cfg X) m)
def oNone : OM := fun _ h => .ok none h
def oSome (e : EM) : OM := fun ρ => (e ρ).bind fun w => match w with
  | .int i => M.pure (some i)
  | _ => M.no
theorem mo_none : MO X none oNone := PO.imp po_none fun σ H Q ⟨μ, ρ, h, o, h', A, e, n⟩ => by
  cases e
  exact n μ H (Go.refl ..) A.rel
theorem mo_some {e : Expr} {m : EM} (he : ME X e m) : MO X (some e) (oSome m) := PO.imp (po_some he) fun σ H Q ⟨μ, ρ, h, o, h', A, e, n⟩ => by
  obtain ⟨w, h1, e1, e⟩ := bind_ok e
  refine mE_first A e1 fun μ1 v H1 g A1 p => ?_
  cases w with
  | int i => cases e; exact ⟨i, p.int_inv, n μ1 H1 g A1.rel⟩
  | _ => cases e
def cutW {α : Type} (xs : List α) (lo hi : Option Int) : List α := (xs.drop (HT.sIx xs.length 0 lo)).take (HT.sIx xs.length xs.length hi - HT.sIx xs.length 0 lo)
theorem Rps.cut {c : Cfg} {μ : List Addr} {H : Hp} {vs : List V} {ws : List Wv} (r : Rps c μ H vs ws) (lo hi : Option Int) : Rps c μ H (cutV vs lo hi) (cutW ws lo hi) := by
  unfold cutV cutW
  rw [r.length]
  exact (r.drop _).take _
def slM (w : Wv) (lo hi : Option Int) : M Wv := match w with
  | .tup ws => M.pure (.tup (cutW ws lo hi))
  | .obj i => fun h => match rdL h i with
    | some ws => lay (.lst (cutW ws lo hi)) h
    | none => .no
  | .str z => if z.length ≤ sizeLine then M.pure (.str (cutS z lo hi)) else M.no
  | _ => M.no
def eSl (e : EM) (l u : OM) : EM := fun ρ => (e ρ).bind fun w => (l ρ).bind fun lo => (u ρ).bind fun hi => slM w lo hi
theorem cutW_whole {α : Type} {xs : List α} {lo hi : Option Int} (h : HT.sIx xs.length 0 lo = 0 ∧ HT.sIx xs.length xs.length hi = xs.length) : cutW xs lo hi = xs := by
  unfold cutW
  rw [h.1, h.2]
  simp
theorem me_slice {e : Expr} {lo hi : Option Expr} {p2 : Pos} {m : EM} {ml mu : OM} (he : ME X e m) (hl : MO X lo ml) (hu : MO X hi mu) : ME X (.Subscript e (.Slice lo hi none p2) pos) (eSl m ml mu) :=
  PE.imp (pe_slice ((sl_tupA.or sl_list).or sl_str) he hl hu) fun σ H Q ⟨μ, ρ, h, w, h', A, e, n⟩ => by
    obtain ⟨x, h1, e1, f1⟩ := bind_ok e
    obtain ⟨lo, h2, e2, f2⟩ := bind_ok f1
    obtain ⟨hi, h3, e3, f3⟩ := bind_ok f2
    clear e f1 f2
    refine mE_first A e1 fun μ1 v H1 g1 A1 p1 => ⟨μ1, ρ, h1, lo, h2, A1, e2, fun μ2 H2 g2 R2 => ⟨μ2, ρ, h2, hi, h3, A1.go g2 R2, e3, fun μ3 H3 g3 R3 => ?_⟩⟩
    have p3 := (p1.go g2).go g3
    have n3 := n.after (g1.trans (g2.trans g3))
    unfold slM at f3
    split at f3
    · next ws =>
      cases f3
      obtain ⟨a, vs, rfl, hq, r⟩ := p3.tup_at
      refine .inl (.inl ⟨a, vs, rfl, .of hq, fun z => ?_, fun _ p np => n3.tup R3 (r.cut lo hi) np⟩)
      rw [r.length] at z
      rw [cutW_whole z] at n3
      exact n3.now R3 (.tup hq r)
    · next i =>
      split at f3
      · next ws q =>
        obtain ⟨rfl, rfl⟩ := lay_ok f3
        obtain ⟨a, rfl, ha⟩ := p3.obj_inv
        obtain ⟨vs, hq, r⟩ := rdL_to R3 ha q
        exact .inl (.inr ⟨a, vs, rfl, hq, fun p np => n3.lay R3 np fun _ _ g => ⟨_, rfl, (r.cut lo hi).mv g⟩⟩)
      · cases f3
    · next z =>
      obtain ⟨l, f3⟩ := ifD_ok f3
      cases f3
      exact .inr ⟨z, p3.str_inv, l, n3.now R3 (.str _)⟩
    · cases f3

def flatW : Wv → Option V
  | .non => some .non
  | .bl b => some (.bl b)
  | .int i => some (.int i)
  | .str x => some (.str x)
  | _ => none
theorem Rp.flat {c : Cfg} {μ : List Addr} {H : Hp} {v u : V} {w : Wv} (p : Rp c μ H v w) (e : flatW w = some u) : v = u ∧ flatV u = true := by
  cases p <;> cases e <;> exact ⟨rfl, rfl⟩
theorem Rps.flats {c : Cfg} {μ : List Addr} {H : Hp} : ∀ {vs us : List V} {ws : List Wv}, Rps c μ H vs ws → ws.mapM flatW = some us → vs = us ∧ us.all flatV = true
  | _, us, _, .nil, e => by simp at e; subst e; exact ⟨rfl, rfl⟩
  | _, us, _, .cons p t, e => by
    obtain ⟨u, us', e1, e2, rfl⟩ := mapM_some e
    obtain ⟨rfl, f⟩ := p.flat e1
    obtain ⟨rfl, fs⟩ := Rps.flats t e2
    exact ⟨rfl, by rw [List.all_cons, f, fs]; rfl⟩
def dsq (h : Hm) (w : Wv) : Option (List Wv) := match w with
  | .tup ws => some ws
  | .obj i => rdL h i
  | _ => none
def inM (neg : Bool) : F2 := fun a b h => match a, b with
  | .str x, .str z => match x.cps.toList with
    | [ch] => .ok (.bl (if neg then !decide (ch ∈ z.cps.toList) else decide (ch ∈ z.cps.toList))) h
    | _ => .no
  | a, b => match dsq h b with
    | none => .no
    | some ws => match flatW a, ws.mapM flatW with
      | some u, some us => .ok (.bl (if neg then !inV u us else inV u us)) h
      | _, _ => match dat h 60 a, ws.mapM (dat h 60) with
        | some d, some ds => if (SeqAt.shaped d && SeqAt.shaped (.list ds)) = true then .ok (.bl (if neg then !ds.any fun z => PyData.eqv z d else ds.any fun z => PyData.eqv z d)) h else .no
        | _, _ => .no
theorem dsq_to {c : Cfg} {μ : List Addr} {h : Hm} {H : Hp} {w : Wv} {v : V} {ws : List Wv} (R : Rel c μ h H) (p : Rp c μ H v w) (e : dsq h w = some ws) : ∃ a vs, v = .ref a ∧ (SqL c.K H a vs ∨ SqT c.K H a vs) ∧ Rps c μ H vs ws := by
  unfold dsq at e
  split at e
  · cases e
    obtain ⟨a, vs, rfl, hq, r⟩ := p.tup_inv
    exact ⟨a, vs, rfl, .inr hq, r⟩
  · obtain ⟨a, rfl, ha⟩ := p.obj_inv
    obtain ⟨vs, hq, r⟩ := rdL_to R ha e
    exact ⟨a, vs, rfl, .inl hq, r⟩
  · cases e
theorem shaped_tl {ds : List PyData} (h : SeqAt.shaped (.list ds) = true) : SeqAt.shaped (.tuple ds) = true := by
  unfold SeqAt.shaped at h ⊢
  have e1 : PyData.canLay0 (.tuple ds) = PyData.canLay0 (.list ds) := by simp [PyData.canLay0]
  have e2 : PyData.depth (.tuple ds) = PyData.depth (.list ds) := by simp [PyData.depth]
  rw [e1, e2]; exact h
theorem dpAll_of {c : Cfg} {μ : List Addr} {h : Hm} {H : Hp} (R : Rel c μ h H) {n : Nat} : ∀ {ws : List Wv} {vs : List V} {ds : List PyData}, Rps c μ H vs ws → ws.mapM (dat h n) = some ds → DpAll c.K H vs ds
  | _, _, ds, .nil, e => by simp at e; subst e; exact .nil
  | _, _, ds, .cons p t, e => by
    obtain ⟨d, ds', e1, e2, rfl⟩ := mapM_some e
    exact .cons (dat_to R p e1) (dpAll_of R t e2)
theorem one_sign {x : PySem.Str} {ch : Nat} (h : x.cps.toList = [ch]) : x = ⟨#[ch]⟩ := by
  obtain ⟨cps⟩ := x
  have : cps = #[ch] := Array.toList_inj.mp h
  rw [this]
theorem in_to {c : Cfg} {neg : Bool} {μ : List Addr} {h h' : Hm} {H : Hp} {v1 v2 : V} {w1 w2 w : Wv} {Q : VK} (R : Rel c μ h H) (p1 : Rp c μ H v1 w1) (p2 : Rp c μ H v2 w2) (e : inM neg w1 w2 h = .ok w h') (n : Nx c μ H h' w Q) :
    (∃ ch z, v1 = .str ⟨#[ch]⟩ ∧ v2 = .str z ∧ Q (.bl (if neg then !decide (ch ∈ z.cps.toList) else decide (ch ∈ z.cps.toList))) H) ∨ rIn c.K neg v1 v2 H Q ∨ ∃ d ds, Dp c.K H v1 d ∧ (Dp c.K H v2 (.list ds) ∨ Dp c.K H v2 (.tuple ds)) ∧ SeqAt.shaped d = true ∧ SeqAt.shaped (.list ds) = true ∧ Q (.bl (if neg then !ds.any fun z => PyData.eqv z d else ds.any fun z => PyData.eqv z d)) H := by
  unfold inM at e
  split at e
  · next x z =>
    split at e
    · next ch q =>
      cases e
      exact .inl ⟨ch, z, by rw [p1.str_inv, one_sign q], p2.str_inv, n.now R (.bl _)⟩
    · cases e
  · split at e
    · cases e
    · next ws q =>
      obtain ⟨a, vs, rfl, hq, r⟩ := dsq_to R p2 q
      split at e
      · next u us qu qs =>
        cases e
        obtain ⟨rfl, f1⟩ := p1.flat qu
        obtain ⟨rfl, f2⟩ := r.flats qs
        exact .inr (.inl ⟨a, vs, rfl, hq, f1, f2, n.now R (.bl _)⟩)
      · split at e
        · next d ds qd qs =>
          obtain ⟨b, e⟩ := ifD_ok' e
          cases e
          rw [Bool.and_eq_true] at b
          refine .inr (.inr ⟨d, ds, dat_to R p1 qd, ?_, b.1, b.2, n.now R (.bl _)⟩)
          rcases hq with hq | hq
          · exact .inl (.lst hq (dpAll_of R r qs))
          · exact .inr (.tup hq (dpAll_of R r qs))
        · cases e
theorem or4 {A B C D : Prop} (h : A ∨ B ∨ C ∨ D) : ((A ∨ B) ∨ C) ∨ D := by
  rcases h with h | h | h | h
  · exact .inl (.inl (.inl h))
  · exact .inl (.inl (.inr h))
  · exact .inl (.inr h)
  · exact .inr h
theorem opIn (hu : X.A.units + 65 < cLine) : OpR X (compareOp .In) (fun x y H Q => (((∃ (c : Nat) (z : PySem.Str), x = .str ⟨#[c]⟩ ∧ y = .str z ∧ Q (.bl (decide (c ∈ z.cps.toList))) H) ∨ rIn X.K false x y H Q) ∨ rInD X.K x y H Q) ∨ VS.rInDT X.K false x y H Q) := ((op_in_sign.or op_in_seq).or (op_inD hu)).or (VS.op_inDT rfl hu)
theorem opNotIn (hu : X.A.units + 65 < cLine) : OpR X (compareOp .NotIn) (fun x y H Q => (((∃ (c : Nat) (z : PySem.Str), x = .str ⟨#[c]⟩ ∧ y = .str z ∧ Q (.bl (!decide (c ∈ z.cps.toList))) H) ∨ rIn X.K true x y H Q) ∨ rNotInD X.K x y H Q) ∨ VS.rInDT X.K true x y H Q) := ((op_notIn_sign.or op_notIn_seq).or (op_notInD hu)).or (VS.op_notInDT rfl hu)
theorem lop_in : LOp (cfg X) (inM false) (fun x y H Q => (((∃ (c : Nat) (z : PySem.Str), x = .str ⟨#[c]⟩ ∧ y = .str z ∧ Q (.bl (decide (c ∈ z.cps.toList))) H) ∨ rIn X.K false x y H Q) ∨ rInD X.K x y H Q) ∨ VS.rInDT X.K false x y H Q) := by
  intro μ h H v1 v2 w1 w2 w h' Q R p1 p2 e n
  refine or4 ?_
  rcases in_to R p1 p2 e n with h | h | ⟨d, ds, h1, h2, h3, h4, q⟩
  · exact .inl h
  · exact .inr (.inl h)
  · rcases h2 with h2 | h2
    · exact .inr (.inr (.inl ⟨d, ds, h1, h2, h3, h4, q⟩))
    · exact .inr (.inr (.inr ⟨d, ds, h1, h2, h3, shaped_tl h4, q⟩))
theorem lop_notIn : LOp (cfg X) (inM true) (fun x y H Q => (((∃ (c : Nat) (z : PySem.Str), x = .str ⟨#[c]⟩ ∧ y = .str z ∧ Q (.bl (!decide (c ∈ z.cps.toList))) H) ∨ rIn X.K true x y H Q) ∨ rNotInD X.K x y H Q) ∨ VS.rInDT X.K true x y H Q) := by
  intro μ h H v1 v2 w1 w2 w h' Q R p1 p2 e n
  refine or4 ?_
  rcases in_to R p1 p2 e n with h | h | ⟨d, ds, h1, h2, h3, h4, q⟩
  · exact .inl h
  · exact .inr (.inl h)
  · rcases h2 with h2 | h2
    · exact .inr (.inr (.inl ⟨d, ds, h1, h2, h3, h4, q⟩))
    · exact .inr (.inr (.inr ⟨d, ds, h1, h2, h3, shaped_tl h4, q⟩))
theorem me_in (hu : X.A.units + 65 < cLine) (ha : ME X a ma) (hb : ME X b mb) (hm : behindInMarks .In b = false := by rfl) : ME X (.Compare a [.In] [b] pos) (eOp (inM false) ma mb) := me_cmp (opIn hu) lop_in ha hb hm
theorem mt_in (hu : X.A.units + 65 < cLine) (ha : ME X a ma) (hb : ME X b mb) (hm : behindInMarks .In b = false := by rfl) : MT X (.Compare a [.In] [b] pos) (tOf (eOp (inM false) ma mb)) := mt_cmp (opIn hu) lop_in ha hb hm
theorem me_notIn (hu : X.A.units + 65 < cLine) (ha : ME X a ma) (hb : ME X b mb) (hm : behindInMarks .NotIn b = false := by rfl) : ME X (.Compare a [.NotIn] [b] pos) (eOp (inM true) ma mb) := me_cmp (opNotIn hu) lop_notIn ha hb hm
theorem mt_notIn (hu : X.A.units + 65 < cLine) (ha : ME X a ma) (hb : ME X b mb) (hm : behindInMarks .NotIn b = false := by rfl) : MT X (.Compare a [.NotIn] [b] pos) (tOf (eOp (inM true) ma mb)) := mt_cmp (opNotIn hu) lop_notIn ha hb hm
end
end MM

set_option maxRecDepth 100000
set_option maxHeartbeats 4000000
namespace MM
open PySem PySem.Spec PyProof.Rows L2
theorem Rps.one_inv {c : Cfg} {μ : List Addr} {H : Hp} {vs : List V} {w : Wv} (r : Rps c μ H vs [w]) : ∃ v, vs = [v] ∧ Rp c μ H v w := by
  cases r with
  | cons p t => cases t; exact ⟨_, rfl, p⟩
theorem Rps.two_inv {c : Cfg} {μ : List Addr} {H : Hp} {vs : List V} {w u : Wv} (r : Rps c μ H vs [w, u]) : ∃ v x, vs = [v, x] ∧ Rp c μ H v w ∧ Rp c μ H x u := by
  cases r with
  | cons p t => cases t with
    | cons q t => cases t; exact ⟨_, _, rfl, p, q⟩

def lenM : FM := fun ws h => match ws with
  | [.str x] => if x.length ≤ sizeLine then .ok (.int x.length) h else .no
  | [.tup us] => .ok (.int us.length) h
  | [.obj i] => match h[i]? with
    | some (.lst us) => .ok (.int us.length) h
    | some (.frz (.lst us)) => .ok (.int us.length) h
    | some (.dk kvs) => .ok (.int kvs.length) h
    | _ => .no
  | [.scr ns] => .ok (.int ns.length) h
  | [.ptp us] => .ok (.int us.length) h
  | _ => .no
section
variable {X : Cx}
theorem CallR.or {f : Value} {r r' : List V → Hp → VK → Prop} (h : CallR X f r) (h' : CallR X f r') : CallR X f (fun xs H Q => r xs H Q ∨ r' xs H Q) := by
  intro pins s σ H xs us Q I rx q
  rcases q with q | q
  · exact h pins s σ H xs us Q I rx q
  · exact h' pins s σ H xs us Q I rx q
theorem lc_len : LCall (cfg X) lenM (fun xs H Q => (∃ x n, xs = [x] ∧ LenV X.K x H n ∧ Q (.int n) H) ∨ ∃ a kvs, xs = [V.ref a] ∧ H a = some (.dK kvs) ∧ Q (.int kvs.length) H) := by
  intro μ h H vs ws w h' Q R r e n
  unfold lenM at e
  split at e
  · next x =>
    obtain ⟨l, e⟩ := ifD_ok' e
    cases e
    obtain ⟨v, rfl, p⟩ := r.one_inv
    obtain rfl := p.str_inv
    exact .inl ⟨_, x.length, rfl, ⟨l, rfl⟩, n.now R (.int _)⟩
  · next us =>
    cases e
    obtain ⟨v, rfl, p⟩ := r.one_inv
    obtain ⟨a, xs, rfl, hq, rr⟩ := p.tup_inv
    exact .inl ⟨_, us.length, rfl, .inr ⟨xs, hq, rr.length.symm⟩, n.now R (.int _)⟩
  · next i =>
    obtain ⟨v, rfl, p⟩ := r.one_inv
    obtain ⟨a, rfl, ha⟩ := p.obj_inv
    split at e
    · next us q =>
      cases e
      obtain ⟨u, hu, xs, rfl, rr⟩ := R.get ha q
      exact .inl ⟨_, us.length, rfl, .inl ⟨xs, .inl (.inl hu), rr.length.symm⟩, n.now R (.int _)⟩
    · next us q =>
      cases e
      obtain ⟨u, hu, ob, u', rfl, xs, rfl, rr⟩ := R.get ha q
      exact .inl ⟨_, us.length, rfl, .inl ⟨xs, .inl (.inr ⟨_, hu⟩), rr.length.symm⟩, n.now R (.int _)⟩
    · next kvs q =>
      cases e
      obtain ⟨u, hu, xs, rfl, rr⟩ := R.get ha q
      have l : xs.length = kvs.length := Paired.length rr
      refine .inr ⟨a, xs, rfl, hu, ?_⟩
      rw [l]
      exact n.now R (.int _)
    · cases e
  · next ns =>
    cases e
    obtain ⟨v, rfl, p⟩ := r.one_inv
    obtain ⟨a, rfl, hs⟩ := p.scr_inv
    exact .inl ⟨_, ns.length, rfl, .inl ⟨_, hs.sq, (List.length_map _).symm⟩, n.now R (.int _)⟩
  · next us =>
    cases e
    obtain ⟨v, rfl, p⟩ := r.one_inv
    obtain ⟨a, xs, rfl, hq, rr⟩ := p.ptp_inv
    exact .inl ⟨_, us.length, rfl, .inr ⟨xs, hq.sq, rr.length.symm⟩, n.now R (.int _)⟩
  · cases e
theorem cr_len : CallR X (.builtin "len") (fun xs H Q => (∃ x n, xs = [x] ∧ LenV X.K x H n ∧ Q (.int n) H) ∨ ∃ a kvs, xs = [V.ref a] ∧ H a = some (.dK kvs) ∧ Q (.int kvs.length) H) := CallR.or call_len call_lenD

def intOf : FM := fun ws h => match ws with
  | [.int i] => .ok (.int i) h
  | [.bl k] => .ok (.int (if k then 1 else 0)) h
  | _ => .no
theorem lc_int : LCall (cfg X) intOf (fun xs H Q => (∃ i, xs = [.int i] ∧ Q (.int i) H) ∨ ∃ k, xs = [.bl k] ∧ Q (.int (if k then 1 else 0)) H) := by
  intro μ h H vs ws w h' Q R r e n
  unfold intOf at e
  split at e
  · next i => cases e; obtain ⟨v, rfl, p⟩ := r.one_inv; exact .inl ⟨i, by rw [p.int_inv], n.now R (.int _)⟩
  · next k => cases e; obtain ⟨v, rfl, p⟩ := r.one_inv; exact .inr ⟨k, by rw [p.bl_inv], n.now R (.int _)⟩
  · cases e
def listOf : FM := fun ws h => match ws with
  | [w] => match dsq h w with
    | some us => lay (.lst us) h
    | none => match w with
      | .obj i => match h[i]? with
        | some (.dk kvs) => lay (.lst (kvs.map fun kv => match kv.1 with | .inl i => .int i | .inr x => .str x)) h
        | _ => .no
      | _ => .no
  | _ => .no
theorem rp_key {c : Cfg} {μ : List Addr} {H : Hp} (k : Key) : Rp c μ H (kV k) (match k with | .inl i => .int i | .inr x => .str x) := by
  cases k with
  | inl i => exact .int i
  | inr x => exact .str x
theorem rps_keys {c : Cfg} {μ μ' : List Addr} {H H' : Hp} : ∀ {ks : List (Key × V)} {kvs : List (Key × Wv)}, Rkv c μ H ks kvs → Rps c μ' H' (ks.map fun kv => kV kv.1) (kvs.map fun kv => match kv.1 with | .inl i => .int i | .inr x => .str x)
  | _, _, .nil => .nil
  | _, _, .cons (a := (k', v)) (b := (k, w)) r t => by
    obtain ⟨e, _⟩ := r
    have e : k' = k := e
    subst e
    exact .cons (rp_key k') (rps_keys t)
theorem lc_list0 : LCall (cfg X) listOf (fun xs H Q => (∃ p ys, xs = [.ref p] ∧ (SqL X.K H p ys ∨ SqT X.K H p ys) ∧ ∀ l, H l = none → Q (.ref l) (upd H l (.lst ys))) ∨ rListD xs H Q) := by
  intro μ h H vs ws w h' Q R r e n
  unfold listOf at e
  split at e
  · next w =>
    obtain ⟨v, rfl, p⟩ := r.one_inv
    split at e
    · next us q =>
      obtain ⟨rfl, rfl⟩ := lay_ok e
      obtain ⟨a, xs, rfl, hq, rr⟩ := dsq_to R p q
      exact .inl ⟨a, xs, rfl, hq, fun l nl => n.lay R nl fun _ _ g => ⟨xs, rfl, rr.mv g⟩⟩
    · split at e
      · next i =>
        obtain ⟨a, rfl, ha⟩ := p.obj_inv
        split at e
        · next kvs q =>
          obtain ⟨rfl, rfl⟩ := lay_ok e
          obtain ⟨u, hu, xs, rfl, rr⟩ := R.get ha q
          exact .inr ⟨a, xs, rfl, hu, fun l nl => n.lay R nl fun _ _ g => ⟨_, rfl, rps_keys rr⟩⟩
        · cases e
      · cases e
  · cases e
theorem cr_list (hc : X.calm = true) : CallR X (.type "list") (fun xs H Q => (∃ p ys, xs = [.ref p] ∧ (SqL X.K H p ys ∨ SqT X.K H p ys) ∧ ∀ l, H l = none → Q (.ref l) (upd H l (.lst ys))) ∨ rListD xs H Q) := CallR.or call_list_of (call_list_dK hc)
def tupOf : FM := fun ws h => match ws with
  | [.tup us] => .ok (.tup us) h
  | [.obj i] => match rdL h i with
    | some us => .ok (.tup us) h
    | none => .no
  | _ => .no
def blW : Wv → Option Bool
  | .bl b => some b
  | _ => none
def quant (f : List Bool → Bool) : FM := fun ws h => match ws with
  | [.obj i] => match rdL h i with
    | some us => match us.mapM blW with
      | some bs => .ok (.bl (f bs)) h
      | none => .no
    | none => .no
  | _ => .no
def allM : FM := quant fun bs => bs.all id
def anyM : FM := quant fun bs => bs.any id
def ordM : FM := fun ws h => match ws with
  | [.str x] => if x.length = 1 then .ok (.int (x.cps.getD 0 0 : Nat)) h else .no
  | _ => .no
def two (f : Int → Int → Int) : FM := fun ws h => match ws with
  | [.int i, .int j] => .ok (.int (f i j)) h
  | _ => .no
theorem lc_two {f : Int → Int → Int} : LCall (cfg X) (two f) (fun xs H Q => ∃ i j, xs = [.int i, .int j] ∧ Q (.int (f i j)) H) := by
  intro μ h H vs ws w h' Q R r e n
  unfold two at e
  split at e
  · next i j =>
    cases e
    obtain ⟨v, x, rfl, p, q⟩ := r.two_inv
    exact ⟨i, j, by rw [p.int_inv, q.int_inv], n.now R (.int _)⟩
  · cases e
def max2 : FM := two fun i j => if j > i then j else i
def min2 : FM := two fun i j => if j < i then j else i

inductive Ty where
  | non | bl | int | str | lst | tup | dict
  deriving DecidableEq
def Ty.nm : Ty → String
  | .non => "NoneType" | .bl => "bool" | .int => "int" | .str => "str" | .lst => "list" | .tup => "tuple" | .dict => "dict"
def Ty.sub (a b : Ty) : Bool := decide (a = b) || (decide (a = .bl) && decide (b = .int))
def tyW (h : Hm) : Wv → Option Ty
  | .non => some .non
  | .bl _ => some .bl
  | .int _ => some .int
  | .str _ => some .str
  | .tup _ => some .tup
  | .ptp _ => some .tup
  | .obj i => match h[i]? with
    | some (.lst _) => some .lst
    | some (.frz (.lst _)) => some .lst
    | some (.dk _) => some .dict
    | some (.dt _) => some .dict
    | _ => none
  | _ => none
def isiM (T : Ty) : FM := fun ws h => match ws with
  | [w, .raw (.ty n)] => if n = T.nm then (match tyW h w with | some t => .ok (.bl (t.sub T)) h | none => .no) else .no
  | _ => .no
def isi2M (S T : Ty) : FM := fun ws h => match ws with
  | [w, .tup [.raw (.ty m), .raw (.ty n)]] => if m = S.nm ∧ n = T.nm then (match tyW h w with | some t => .ok (.bl (t.sub S || t.sub T)) h | none => .no) else .no
  | _ => .no

abbrev FT := Wv → List Wv → M Wv
def LMt (c : Cfg) (T : String) (f : FT) (r : V → List V → Hp → VK → Prop) : Prop := ∀ {μ h H v vs w ws u h' Q}, Rel c μ h H → Rp c μ H v w → Rps c μ H vs ws → f w ws h = .ok u h' → Nx c μ H h' u Q → r v vs H Q
def LTy (c : Cfg) (T : String) (t : Wv → Hm → Bool) : Prop := ∀ {μ h H v w}, Rel c μ h H → Rp c μ H v w → t w h = true → tyV c.K T v H
def eBm (t : Wv → Hm → Bool) (f : FT) (o : EM) (a : AM) : EM := fun ρ => (o ρ).bind fun w => fun h => if t w h = true then ((a ρ).bind fun ws => f w ws) h else .no
def isLst (w : Wv) (h : Hm) : Bool := match w with
  | .obj i => (rdL h i).isSome
  | _ => false
theorem lty_list : LTy (cfg X) "list" isLst := by
  intro μ h H v w R p e
  unfold isLst at e
  cases w with
  | obj i =>
    obtain ⟨a, rfl, ha⟩ := p.obj_inv
    obtain ⟨ws, q⟩ := Option.isSome_iff_exists.mp e
    obtain ⟨vs, hq, _⟩ := rdL_to R ha q
    exact .inl ⟨rfl, vs, hq⟩
  | _ => cases e
def isStr (w : Wv) (_ : Hm) : Bool := match w with
  | .str _ => true
  | _ => false
theorem eBm_to {c : Cfg} {T : String} {t : Wv → Hm → Bool} {f : FT} {r : V → List V → Hp → VK → Prop} {mo : EM} {ma : AM} {σ : L2.St} {H : Hp} {Q : VK} (lt : LTy c T t) (l : LMt c T f r) (z : mE c (eBm t f mo ma) σ H Q) : tBM c.K T r (mE c mo) (mA c ma) σ H Q := by
  obtain ⟨μ, ρ, h, w, h', A, e, n⟩ := z
  obtain ⟨o, h1, e1, e⟩ := bind_ok e
  obtain ⟨b, e⟩ := ifD_ok' e
  obtain ⟨ws, h2, e2, e⟩ := bind_ok e
  exact mE_first A e1 fun μ1 v H1 g1 A1 p1 => ⟨lt A1.rel p1 b, mA_first A1 e2 fun μ2 vs H2 g2 A2 p2 => l A2.rel (p1.go g2) p2 e (n.after (g1.trans g2))⟩
theorem me_bm {o e : Expr} {es : List Expr} {name : PySem.Str} {apos cpos : Pos} {T id : String} {r : V → List V → Hp → VK → Prop} {t : Wv → Hm → Bool} {f : FT} {mo : EM} {ma : AM} (pa : PlainAttrs T) (slot : Slot T name id) (hty : typeOf (.builtin id) = pure (.type "method_descriptor")) (hm : MtR X id r) (lt : LTy (cfg X) T t) (l : LMt (cfg X) T f r) (ho : ME X o mo) (ha : MA X (e :: es) ma)
    (hbase : attributeBase o name X.env (eval o X.env) = eval o X.env := by rfl)
    (hfew : ((backTo cpos (starEach (e :: es) X.env)).all (fun x => !x.1) && (backToKw cpos (keywordEach [] X.env)).all (fun x => x.1.isSome)
      && decide ((e :: es).length + ([] : List Keyword).length + (if ([] : List Keyword).isEmpty then 0 else 1) < 30)) = true := by rfl)
    (hline : (apos.endLine == cpos.line) = true := by rfl) (hs : starEach (e :: es) X.env = (false, eval e X.env) :: starEach es X.env := by rfl) (hplain : (backTo cpos (starEach es X.env)).any (·.1) = false := by rfl) :
    ME X (.Call (.Attribute o name apos) (e :: es) [] cpos) (eBm t f mo ma) := PE.imp (pe_bm pa slot hty hm ho ha hbase hfew hline hs hplain) fun _ _ _ z => eBm_to lt l z
def eBm0 (t : Wv → Hm → Bool) (f : FT) (o : EM) : EM := fun ρ => (o ρ).bind fun w => fun h => if t w h = true then f w [] h else .no
theorem me_bm0 {o : Expr} {name : PySem.Str} {apos cpos : Pos} {T id : String} {r : V → List V → Hp → VK → Prop} {t : Wv → Hm → Bool} {f : FT} {mo : EM} (pa : PlainAttrs T) (slot : Slot T name id) (hty : typeOf (.builtin id) = pure (.type "method_descriptor")) (hm : MtR X id r) (lt : LTy (cfg X) T t) (l : LMt (cfg X) T f r) (ho : ME X o mo)
    (hbase : attributeBase o name X.env (eval o X.env) = eval o X.env := by rfl) (hline : (apos.endLine == cpos.line) = true := by rfl) : ME X (.Call (.Attribute o name apos) [] [] cpos) (eBm0 t f mo) := PE.imp (pe_bm0 pa slot hty hm ho hbase hline) fun σ H Q ⟨μ, ρ, h, w, h', A, e, n⟩ => by
  obtain ⟨o, h1, e1, e⟩ := bind_ok e
  obtain ⟨b, e⟩ := ifD_ok' e
  exact mE_first A e1 fun μ1 v H1 g1 A1 p1 => ⟨lt A1.rel p1 b, l A1.rel p1 .nil e (n.after g1)⟩
theorem Nx.put {c : Cfg} {μ : List Addr} {h : Hm} {H : Hp} {i : Nat} {a : Addr} {o : Ob} {u u0 : HO} {w : Wv} {v : V} {Q : VK} (n : Nx c μ H (h.set i o) w Q) (R : Rel c μ h H) (ha : μ[i]? = some a) (h0 : H a = some u0) (nf : ∀ ob u, u0 ≠ .frz ob u) (hu : ∀ μ' H', Gw c μ H μ' H' → ObjU c μ' H' a o u) (pv : Rp c μ H v w) : Q v (upd H a u) := by
  obtain ⟨g, R'⟩ := R.put ha (fun ob u z => by rw [h0] at z; exact nf ob u (Option.some.inj z)) hu
  exact n _ _ _ g R' (pv.go g)
def appM : FT := fun w ws h => match w, ws with
  | .obj i, [y] => match lstOf h i with
    | some us => if us.length < sizeLine then .ok .non (h.set i (.lst (us ++ [y]))) else .no
    | none => .no
  | _, _ => .no
theorem lmt_app : LMt (cfg X) "list" appM rAppend := by
  intro μ h H v vs w ws u h' Q R p r e n
  unfold appM at e
  split at e
  · next i y =>
    split at e
    · next us q =>
      obtain ⟨l, e⟩ := ifD_ok' e
      cases e
      obtain ⟨a, rfl, ha⟩ := p.obj_inv
      obtain ⟨x, rfl, px⟩ := r.one_inv
      obtain ⟨xs, hx, rr⟩ := lstOf_to R ha q
      exact ⟨a, xs, x, rfl, rfl, hx, by rw [rr.length]; exact l, n.put R ha hx (fun _ _ z => by cases z) (fun _ _ g => ⟨_, rfl, (rr.mv g).append (.cons (px.mv g) .nil)⟩) .non⟩
    · cases e
  · cases e
theorem me_append {o e : Expr} {apos cpos : Pos} {mo : EM} {ma : AM} (ho : ME X o mo) (ha : MA X [e] ma) (hbase : attributeBase o "append" X.env (eval o X.env) = eval o X.env := by rfl)
    (hfew : ((backTo cpos (starEach [e] X.env)).all (fun x => !x.1) && (backToKw cpos (keywordEach [] X.env)).all (fun x => x.1.isSome) && decide ([e].length + ([] : List Keyword).length + (if ([] : List Keyword).isEmpty then 0 else 1) < 30)) = true := by rfl)
    (hline : (apos.endLine == cpos.line) = true := by rfl) (hs : starEach [e] X.env = (false, eval e X.env) :: starEach [] X.env := by rfl) (hplain : (backTo cpos (starEach [] X.env)).any (·.1) = false := by rfl) : ME X (.Call (.Attribute o "append" apos) [e] [] cpos) (eBm isLst appM mo ma) :=
  me_bm PySem.F.plainAttrs_list PySem.F.slot_list_append PySem.F.type_list_append mt_append lty_list lmt_app ho ha hbase hfew hline hs hplain
def setIx (o i v : Wv) : M Unit := fun h => match o, i with
  | .obj k, .int j => match lstOf h k with
    | some us => match ixN us.length j with
      | some n => .ok () (h.set k (.lst (us.set n v)))
      | none => .no
    | none => .no
  | _, _ => .no
def gIx (o i : EM) : GM := fun v ρ => (o ρ).bind fun w => (i ρ).bind fun j => (setIx w j v).bind fun _ => M.pure ρ
theorem mg_ix {sl : List Nat} {o i : Expr} {pos : Pos} {mo mi : EM} (ho : ME X o mo) (hi : ME X i mi) (ha : ∀ v, assign (.Subscript o i pos) X.env v = (do
      let ov ← holding [v] (eval o X.env)
      let iv ← holding [v, ov] (eval i X.env)
      standAt pos
      holding [v, ov, iv] (setItem ov iv v)
      release [v, ov, iv] []) := by intro _; rfl) : MG X sl (.Subscript o i pos) (gIx mo mi) := PG.imp (pg_sub ho hi set_list ha) fun v σ H Q ⟨μ, ρ, h, w, ρ', h', A, p, e, n⟩ => by
  obtain ⟨x, h1, e1, f1⟩ := bind_ok e
  obtain ⟨j, h2, e2, f2⟩ := bind_ok f1
  obtain ⟨_, h3, e3, f3⟩ := bind_ok f2
  clear e f1 f2
  cases f3
  refine mE_first A e1 fun μ1 vo H1 g1 A1 p1 => mE_first A1 e2 fun μ2 vi H2 g2 A2 p2 => ?_
  have p0 := (p.go g1).go g2
  have po := p1.go g2
  unfold setIx at e3
  split at e3
  · next k j =>
    split at e3
    · next us q =>
      split at e3
      · next m qm =>
        cases e3
        obtain ⟨a, rfl, ha⟩ := po.obj_inv
        obtain ⟨xs, hx, rr⟩ := lstOf_to A2.rel ha q
        refine ⟨a, xs, j, m, rfl, p2.int_inv, hx, by rw [rr.length]; exact qm, ?_⟩
        obtain ⟨g3, R3⟩ := A2.rel.put ha (fun ob u z => by rw [hx] at z; cases z) (o := .lst (us.set m w)) (u := .lst (xs.set m v)) fun _ _ g => ⟨_, rfl, Rps.set (p0.mv g) m (rr.mv g)⟩
        exact n _ _ _ (g1.trans (g2.trans g3)) (A2.go g3 R3) rfl
      · cases e3
    · cases e3
  · cases e3
end
end MM

set_option maxRecDepth 100000
set_option maxHeartbeats 4000000
namespace MM
open PySem PySem.Spec PyProof.Rows L2

def ins {α : Type} (le : α → α → Bool) (a : α) : List α → List α
  | [] => [a]
  | b :: l => if le a b = true then a :: b :: l else b :: ins le a l
def isort {α : Type} (le : α → α → Bool) : List α → List α
  | [] => []
  | a :: l => ins le a (isort le l)
def dle {β : Type} (a b : β × PyData) : Bool := !PySem.W.dataLt b.2 a.2
def alikeB (ds : List PyData) : Bool := ds.all fun d => ds.all fun e => PySem.W.alike d e
def sortB (ds : List PyData) : Bool := (ds.all fun d => match d with | .tuple (_ :: _) => true | _ => false) || (ds.all fun d => match d with | .none => false | .tuple _ => false | _ => true)
def sortable (ds : List PyData) : Bool := alikeB ds && (sortB ds && ds.all fun d => decide (d.depth ≤ 60))
section
variable {X : Cx}
abbrev Vd := V × PyData
def rSortX (K : PySem.W.Frag) : List V → Hp → VK → Prop := fun vs H Q => ∃ (l : Addr) (zs : List Vd), vs = [V.ref l] ∧ SqL K H l (zs.map (·.1)) ∧ (∀ z ∈ zs, Dp K H z.1 z.2) ∧ sortable (zs.map (·.2)) = true ∧ zs.length ≤ 10000 ∧ ∀ p, H p = none → Q (.ref p) (upd H p (.lst ((isort dle zs).map (·.1))))
abbrev Vdv := V × PyData × Value
def sleS (x y : PySem.Str) : Bool := !decide (y.cps.toList < x.cps.toList)
def sortM : FM := fun ws h => match ws with
  | [.obj i] => match h[i]? with
    | some (.stx L) => lay (.lst ((isort sleS L).map .str)) h
    | _ => match rdL h i with
      | some us => match us.mapM (dat h 60) with
        | some ds => if (sortable ds && decide (us.length ≤ 10000)) = true then lay (.lst ((isort dle (us.zip ds)).map (·.1))) h else .no
        | none => .no
      | none => .no
  | _ => .no
end
end MM

set_option maxRecDepth 100000
set_option maxHeartbeats 4000000
namespace MM
open PySem PySem.Spec PyProof.Rows L2

def keyOf : Wv → Option Key
  | .int i => some (.inl i)
  | .str x => some (.inr x)
  | _ => none
def tkOf : Wv → Option (List Key)
  | .tup ws => ws.mapM keyOf
  | _ => none
def ofKey : Key → Wv
  | .inl i => .int i
  | .inr x => .str x
section
variable {κ : Type} [DecidableEq κ]
def valW (kvs : List (κ × Wv)) (k : κ) : Option Wv := (kvs.find? fun kv => decide (kv.1 = k)).map (·.2)
def putKW (kvs : List (κ × Wv)) (k : κ) (v : Wv) : List (κ × Wv) :=
  if (kvs.any fun kv => decide (kv.1 = k)) = true then kvs.map (fun kv => if kv.1 = k then (kv.1, v) else kv) else kvs ++ [(k, v)]
def dropKW (kvs : List (κ × Wv)) (k : κ) : List (κ × Wv) := kvs.filter fun kv => decide (kv.1 ≠ k)
variable {c : Cfg} {μ : List Addr} {H : Hp}
end
section
variable {c : Cfg} {μ : List Addr} {h : Hm} {H : Hp}
def dGet (h : Hm) (d k : Wv) : Option (Option Wv) := match d with
  | .obj i => match h[i]? with
    | some (.dk kvs) => (keyOf k).map fun q => valW kvs q
    | some (.frz (.dk kvs)) => (keyOf k).map fun q => valW kvs q
    | some (.dt kvs) => (tkOf k).map fun q => valW kvs q
    | some (.frz (.dt kvs)) => (tkOf k).map fun q => valW kvs q
    | _ => none
  | _ => none
def dgetM : F2 := fun d k h => match dGet h d k with
  | some (some w) => .ok w h
  | _ => .no
def dinM (neg : Bool) : F2 := fun k d h => match dGet h d k with
  | some o => .ok (.bl (if neg then !o.isSome else o.isSome)) h
  | none => .no
def isDict (h : Hm) (d : Wv) : Bool := match d with
  | .obj i => match h[i]? with
    | some (.dk _) => true
    | some (.frz (.dk _)) => true
    | some (.dt _) => true
    | some (.frz (.dt _)) => true
    | _ => false
  | _ => false
def dPut (d k v : Wv) : M Unit := fun h => match d with
  | .obj i => match h[i]? with
    | some (.dk kvs) => match keyOf k with
      | some q => if kvs.length < sizeLine then .ok () (h.set i (.dk (putKW kvs q v))) else .no
      | none => .no
    | some (.dt kvs) => match tkOf k with
      | some q => if kvs.length < sizeLine then .ok () (h.set i (.dt (putKW kvs q v))) else .no
      | none => .no
    | _ => .no
  | _ => .no
end
def sDput (d k v : EM) : SM := fun ρ => (v ρ).bind fun wv => (d ρ).bind fun wd => (k ρ).bind fun wk => (dPut wd wk wv).bind fun _ => M.pure (.nx, ρ)
def eDget1 (d k : EM) : EM := fun ρ => (d ρ).bind fun wd => fun h => if isDict h wd = true then ((k ρ).bind fun wk => fun h => match dGet h wd wk with | some o => .ok (o.getD .non) h | none => .no) h else .no
def eDget2 (d k x : EM) : EM := fun ρ => (d ρ).bind fun wd => fun h => if isDict h wd = true then ((k ρ).bind fun wk => (x ρ).bind fun wx => fun h => match dGet h wd wk with | some o => .ok (o.getD wx) h | none => .no) h else .no
section
variable {X : Cx} {o i e f value : Expr} {pos pos' tpos apos cpos : Pos} {md mk mv mx : EM}
def eDnewK : EM := fun _ => lay (.dk [])
def eDnewT : EM := fun _ => lay (.dt [])

def unDict (h : Hm) (w : Wv) : Option (Nat × Ob) := match w with
  | .obj i => match h[i]? with
    | some (.dk kvs) => some (i, .dk kvs)
    | some (.dt kvs) => some (i, .dt kvs)
    | _ => none
  | _ => none
def sLock (e : EM) (s : SM) : SM := fun ρ h => match e ρ h with
  | .ok w _ => match unDict h w with
    | some (i, o) => match s ρ (h.set i (.frz o)) with
      | .ok r h' => .ok r (h'.set i o)
      | _ => .no
    | none => .no
  | _ => .no
def eLock (e : EM) (m : EM) : EM := fun ρ h => match e ρ h with
  | .ok w _ => match unDict h w with
    | some (i, o) => match m ρ (h.set i (.frz o)) with
      | .ok r h' => .ok r (h'.set i o)
      | _ => .no
    | none => .no
  | _ => .no
def keysOf (h : Hm) (w : Wv) : Option (List Wv) := match w with
  | .obj i => match h[i]? with
    | some (.frz (.dk kvs)) => some (kvs.map fun kv => ofKey kv.1)
    | some (.frz (.dt kvs)) => some (kvs.map fun kv => .tup (kv.1.map ofKey))
    | _ => none
  | _ => none
def iKeysW (e : EM) : IM := fun ρ => (e ρ).bind fun w => fun h => match keysOf h w with
  | some ks => .ok (sT ks) h
  | none => .no
end
end MM

set_option maxRecDepth 100000
set_option maxHeartbeats 4000000
namespace MM
open PySem PySem.Spec PyProof.Rows L2
section
variable {X : Cx}
def dcM (src : Src) (vs : List Nat) (g : GM) (t : TM) (ek ev : EM) (ρ : Env) : Nat → Nat → List (Key × Wv) → M (List (Key × Wv))
  | 0, _, _ => M.no
  | n + 1, k, acc => fun h => match src.at_ k h with
    | none => .no
    | some none => .ok acc h
    | some (some w) => ((g w (wipeM ρ vs)).bind fun ρ1 => (t ρ1).bind fun b => if b = true then (ek ρ1).bind fun y => (ev ρ1).bind fun z => fun h => match keyOf y with
          | some q => if acc.length < sizeLine then dcM src vs g t ek ev ρ n (k + 1) (putKW acc q z) h else .no
          | none => .no
        else dcM src vs g t ek ev ρ n (k + 1) acc) h
def eDc (i : IM) (vs : List Nat) (g : GM) (t : TM) (ek ev : EM) : EM := fun ρ => (i ρ).bind fun src => (dcM src vs g t ek ev ρ (src.cnt + 1) 0 []).bind fun kvs => lay (.dk kvs)
def scM (src : Src) (vs : List Nat) (g : GM) (e : EM) (ρ : Env) : Nat → Nat → List PySem.Str → M (List PySem.Str)
  | 0, _, _ => M.no
  | n + 1, k, acc => fun h => match src.at_ k h with
    | none => .no
    | some none => .ok acc h
    | some (some w) => ((g w (wipeM ρ vs)).bind fun ρ1 => (e ρ1).bind fun y => fun h => match y with
          | .str x => if acc.length + 1 < 64 then scM src vs g e ρ n (k + 1) (RQ.addL x acc) h else .no
          | _ => .no) h
def eSc (i : IM) (vs : List Nat) (g : GM) (e : EM) : EM := fun ρ => (i ρ).bind fun src => (scM src vs g e ρ (src.cnt + 1) 0 []).bind fun L => lay (.stx L)

theorem mv (i : Nat) {x : PySem.Str} {pos : Pos} (hN : X.N[i]? = some x := by rfl) (hv : Vis X.env.scope x := by first | exact Or.inl rfl | exact Or.inr (Or.inl rfl) | exact Or.inr (Or.inr rfl)) (hd : (x == ("__debug__" : PySem.Str)) = false := by decide) (hcd : (x == ("__classdict__" : PySem.Str)) = false := by decide) : ME X (.Name x pos) (eVar i) := me_var hN hv hd hcd
def gTL (n : Nat) (g : GMs) : GM := fun w ρ h => match dsq h w with
  | some ws => if ws.length = n then g ws ρ h else .no
  | none => .no
end
end MM

set_option maxRecDepth 100000
set_option maxHeartbeats 4000000
namespace MM
open PySem PySem.Spec PyProof.Rows L2
section
variable {X : Cx}
def gL (n : Nat) (g : GMs) : GM := fun w ρ h => match w with
  | .obj i => match rdL h i with
    | some ws => if ws.length = n then g ws ρ h else .no
    | none => .no
  | _ => .no
theorem mg_unl {sl : List Nat} {es : List Expr} {k : Nat} {g : GMs} {n : Nat} {pos : Pos} (hc : X.calm = true) (hg : MGs X sl es g) (hn : (assignEach es X.env).length = n := by rfl) (hst : (assignEach es X.env).findIdx? (·.1) = none := by rfl) : MG X sl (.Tuple es k pos) (gL n g) :=
  PG.imp (pg_unl hc hg hn hst) fun v σ H Q ⟨μ, ρ, h, w, ρ', h', A, p, e, nx⟩ => by
    unfold gL at e
    cases w with
    | obj i =>
      simp only at e
      cases q : rdL h i with
      | none => rw [q] at e; cases e
      | some ws =>
        rw [q] at e
        obtain ⟨l, e⟩ := ifD_ok' e
        obtain ⟨a, rfl, ha⟩ := p.obj_inv
        obtain ⟨vs, hq, r⟩ := rdL_to A.rel ha q
        exact ⟨a, vs, rfl, hq, r.length.trans l, μ, ρ, h, ws, ρ', h', A, r, e, nx⟩
    | _ => cases e

theorem PE.some {ι : Type} {e : Expr} {t : ι → TE} (h : ∀ i, PE X e (t i)) : PE X e (fun σ H Q => ∃ i, t i σ H Q) := ⟨fun pins s σ H Q I ⟨i, z⟩ => (h i).run pins s σ H Q I z⟩
def callV (tab : List (PySem.Str × FM)) (w : Wv) (ws : List Wv) : M Wv := fun h => match w with
  | .glob x => match tab.lookup x with
    | some f => f ws h
    | none => .no
  | _ => .no
def eCallV (tab : List (PySem.Str × FM)) (i : Nat) (a : AM) : EM := fun ρ => (eVar i ρ).bind fun w => (a ρ).bind fun ws => callV tab w ws
structure Dv (P : Program) (w : World) (K : PySem.W.Frag) (mg : PySem.Str → Option Value) (base : Heap) (k : Nat) (p : PySem.Str × FM) : Prop where
  ex : ∃ j, Df P w K mg base k p.1 j p.2 ∧ Arity j p.2

def tStepL (K : PySem.W.Frag) (te ts : TE) : TE := fun σ H Q => te σ H fun x H1 => ts σ H1 fun y H2 => ∃ a xs k, x = .ref a ∧ y = .int k ∧ SqL K H2 a xs ∧ ((k = -1 ∧ ∀ p, H2 p = none → Q (.ref p) (upd H2 p (.lst xs.reverse))) ∨ (k = 1 ∧ ∀ p, H2 p = none → Q (.ref p) (upd H2 p (.lst xs))))
def stepM : F2 := fun a b h => match a, b with
  | .obj i, .int k => match rdL h i with
    | some ws => if k = -1 then lay (.lst ws.reverse) h else if k = 1 then lay (.lst ws) h else .no
    | none => .no
  | _, _ => .no

def mPairs : List (EM × EM) → Env → M (List (Wv × Wv))
  | [], _ => M.pure []
  | (k, v) :: r, ρ => (k ρ).bind fun x => (v ρ).bind fun y => (mPairs r ρ).bind fun ps => M.pure ((x, y) :: ps)
def keyPairs : List (Wv × Wv) → Option (List (Key × Wv))
  | [] => some []
  | (k, v) :: r => match keyOf k, keyPairs r with
    | some q, some t => some ((q, v) :: t)
    | _, _ => none
def mergeKW (kvs more : List (Key × Wv)) : List (Key × Wv) := more.foldl (fun acc kv => putKW acc kv.1 kv.2) kvs
def eDisp (ps : List (EM × EM)) : EM := fun ρ => (mPairs ps ρ).bind fun xs => fun h => match keyPairs xs with
  | some kvs => if kvs.length ≤ 15 then lay (.dk (mergeKW [] kvs)) h else .no
  | none => .no
abbrev Rvv (c : Cfg) (μ : List Addr) (H : Hp) : List (V × V) → List (Wv × Wv) → Prop := Paired fun p q => Rp c μ H p.1 q.1 ∧ Rp c μ H p.2 q.2
theorem Rvv.mv {c : Cfg} {μ μ' : List Addr} {H H' : Hp} (g : Gw c μ H μ' H') {a : List (V × V)} {b : List (Wv × Wv)} (h : Rvv c μ H a b) : Rvv c μ' H' a b := Paired.mapP h fun _ _ z => ⟨z.1.mv g, z.2.mv g⟩
abbrev MPs (X : Cx) (pos : Pos) (keys : List (Option Expr)) (values : List Expr) (ps : List (EM × EM)) : Prop := PPs X pos keys values (ps.map fun p => (mE (cfg X) p.1, mE (cfg X) p.2))

def rUpdK : V → List V → Hp → VK → Prop := fun x xs H Q => ∃ d o ks ls, x = .ref d ∧ xs = [.ref o] ∧ H d = some (.dK ks) ∧ H o = some (.dK ls) ∧ d ≠ o ∧ ks.length + ls.length ≤ sizeLine ∧ Q .non (upd H d (.dK (mergeK ks ls)))
def updM : FT := fun w ws h => match w, ws with
  | .obj i, [.obj j] => match h[i]?, h[j]? with
    | some (.dk ks), some (.dk ls) => if i ≠ j ∧ ks.length + ls.length ≤ sizeLine then .ok .non (h.set i (.dk (mergeKW ks ls))) else .no
    | _, _ => .no
  | _, _ => .no
def isDk (w : Wv) (h : Hm) : Bool := match w with
  | .obj i => match h[i]? with
    | some (.dk _) => true
    | some (.dt _) => true
    | _ => false
  | _ => false
end
end MM

set_option maxRecDepth 100000
set_option maxHeartbeats 4000000
namespace MM
open PySem PySem.Spec PyProof.Rows L2
structure Bm (mg : PySem.Str → Option Value) : Prop where
  isinstance : mg "isinstance" = none
  len : mg "len" = none
  all : mg "all" = none
  any : mg "any" = none
  int : mg "int" = none
  bool : mg "bool" = none
  str : mg "str" = none
  tuple : mg "tuple" = none
  list : mg "list" = none
  set : mg "set" = none
  dict : mg "dict" = none
  sorted : mg "sorted" = none
  zip : mg "zip" = none
  max : mg "max" = none
  min : mg "min" = none
  repr : mg "repr" = none
  range : mg "range" = none
  enumerate : mg "enumerate" = none
  reversed : mg "reversed" = none
  ord : mg "ord" = none
  abs : mg "abs" = none
  sum : mg "sum" = none
theorem hu65 {k : Nat} {A : Around} (h : Room k A) : A.units + 65 < cLine := by
  have := h.un
  omega
section
variable {X : Cx}
def eNeg (a : EM) : EM := fun ρ => (a ρ).bind fun w => match w with
  | .int i => M.pure (.int (-i))
  | _ => M.no
end
section
variable {P : Program} {w : World} {K : PySem.W.Frag} {mg : PySem.Str → Option Value} {base : Heap}
theorem Df.mono {k j n : Nat} {x : PySem.Str} {m : FM} (d : Df P w K mg base k x n m) (h : k ≤ j) : Df P w K mg base j x n m := by
  obtain ⟨f, fd, ps, a, b, c, F⟩ := d.ex
  exact ⟨f, fd, ps, a, b, c, F.mono h⟩
end

def spScr (K : PySem.W.Frag) (m : FM) : Sp := fun vs H Q _ => ∃ (a : Addr) (ns : List Int), vs = [.ref a] ∧ ns.length ≤ 63 ∧ Only H ∧ SqL K H a (ns.map V.int) ∧ (∃ h', m [.scr ns] [] = .ok (.bl true) h') ∧ ∀ H', Q (.bl true) H'
end MM

set_option maxRecDepth 100000
set_option maxHeartbeats 4000000
namespace GP
open PySem PySem.Spec PyProof.Rows L2 K01 MM
def m_is_whole : FM := fun_ 1 1 ((sRet (eAnd (eCall (isiM .int) (aCons (eVar 0) (aCons (eC (.raw (.ty "int"))) aNil))) (eNot (eCall (isiM .bl) (aCons (eVar 0) (aCons (eC (.raw (.ty "bool"))) aNil)))))))
def m_is_between : FM := fun_ 3 3 ((sRet (eAnd (eCall m_is_whole (aCons (eVar 0) aNil)) (eCh leI leI (eVar 1) (eVar 0) (eVar 2)))))
def m_is_place : FM := fun_ 1 1 ((sRet (eCall m_is_between (aCons (eVar 0) (aCons (eC (.int 0)) (aCons (eOp subM (eC (.int 64)) (eC (.int 1))) aNil))))))
def m_is_word : FM := fun_ 2 1 ((sSeq (sIf (tOrM (tNotM (tTru (eCall (isiM .str) (aCons (eVar 0) (aCons (eC (.raw (.ty "str"))) aNil))))) (tNotM (tOf (eCh leI leI (eC (.int 1)) (eCall lenM (aCons (eVar 0) aNil)) (eC (.int 6)))))) (sRet (eC (.bl false))) sNil)
    (sRet (eCall allM (aCons (eLc (iStrM (eVar 0)) [1] (gN 1) tYesM (eOp (inM false) (eVar 1) (eC (.str "abcdefghijklmnopqrstuvwxyz")))) aNil)))))
def m_is_ring_mark : FM := fun_ 3 1 ((sSeq (sIf (tOrM (tNotM (tTru (eCall (isiM .tup) (aCons (eVar 0) (aCons (eC (.raw (.ty "tuple"))) aNil))))) (tOf (eOp (eqB true) (eCall lenM (aCons (eVar 0) aNil)) (eC (.int 2))))) (sRet (eC (.bl false))) sNil)
    (sSeq (sAsg (eVar 0) (gT 2 (gsCons (gN 1) (gsCons (gN 2) gsNil))))
    (sRet (eAnd (eCall m_is_place (aCons (eVar 1) aNil)) (eCall m_is_word (aCons (eVar 2) aNil)))))))
def m_first_wrong : FM := fun_ 4 2 ((sSeq (sFor (iArgs enum (aCons (eVar 0) aNil)) (gT 2 (gsCons (gN 2) (gsCons (gN 3) gsNil))) (sIf (tOrM (tNotM (tTru (eCallV [("is_ring_mark", m_is_ring_mark), ("is_place", m_is_place)] 1 (aCons (eVar 3) aNil)))) (tOf (eOp (inM false) (eVar 3) (eSl (eVar 0) oNone (oSome (eVar 2)))))) (sRet (eVar 2)) sNil))
    (sRet (eC .non))))
def m_look_at_row : FM := fun_ 4 3 ((sSeq (sIf (tOrM (tNotM (tTru (eCall (isi2M .lst .tup) (aCons (eVar 0) (aCons (eTup (aCons (eC (.raw (.ty "list"))) (aCons (eC (.raw (.ty "tuple"))) aNil))) aNil))))) (tNotM (tOf (eCh leI leI (eC (.int 1)) (eCall lenM (aCons (eVar 0) aNil)) (eVar 1))))) sNo sNil)
    (sSeq (sSet 3 (eCall m_first_wrong (aCons (eVar 0) (aCons (eVar 2) aNil))))
    (sIf (tOf (eOp (isNB true) (eVar 3) (eC .non))) sNo sNil))))
def m_Ring___init__ : FM := fun_ 2 2 ((sSeq (sExpr (eCall m_look_at_row (aCons (eVar 1) (aCons (eC (.int 48)) (aCons (eC (.glob "is_ring_mark")) aNil)))))
    (sFldM "Ring" "own_marks" (eVar 0) (eCall sortM (aCons (eVar 1) aNil)))))
def m_Ring_houses : FM := fun_ 3 1 ((sRet (eCall sortM (aCons (eSc (iSeqM (eFld "Ring" "own_marks" (eVar 0))) [1, 2] (gT 2 (gsCons (gN 1) (gsCons (gN 2) gsNil))) (eVar 2)) aNil))))
def m_Ring_with_house : FM := fun_ 4 3 ((sSeq (sIf (tOrM (tNotM (tTru (eCall m_is_word (aCons (eVar 1) aNil)))) (tOf (eOp (inM false) (eVar 1) (eMeth "Ring" "houses" m_Ring_houses (eVar 0) aNil)))) sNo sNil)
    (sSeq (sExpr (eCall m_look_at_row (aCons (eVar 2) (aCons (eOp subM (eC (.int 48)) (eCall lenM (aCons (eFld "Ring" "own_marks" (eVar 0)) aNil))) (aCons (eC (.glob "is_place")) aNil)))))
    (sRet (eCall (mkC "Ring" m_Ring___init__) (aCons (eOp addM (eFld "Ring" "own_marks" (eVar 0)) (eLc (iSeqM (eVar 2)) [3] (gN 3) tYesM (eTup (aCons (eVar 3) (aCons (eVar 1) aNil))))) aNil))))))
def m_Ring_without : FM := fun_ 3 2 ((sSeq (sIf (tOrM (tNotM (tTru (eCall m_is_word (aCons (eVar 1) aNil)))) (tOf (eOp (inM true) (eVar 1) (eMeth "Ring" "houses" m_Ring_houses (eVar 0) aNil)))) sNo sNil)
    (sRet (eCall (mkC "Ring" m_Ring___init__) (aCons (eLc (iSeqM (eFld "Ring" "own_marks" (eVar 0))) [2] (gN 2) (tOf (eOp (eqB true) (eOp ixM (eVar 2) (eC (.int 1))) (eVar 1))) (eVar 2)) aNil)))))
def m_is_key : FM := fun_ 1 1 ((sRet (eCall m_is_word (aCons (eVar 0) aNil))))
def m_look_at_key : FM := fun_ 1 1 ((sIf (tNotM (tTru (eCall m_is_key (aCons (eVar 0) aNil)))) sNo sNil))
def m_place_of : FM := fun_ 3 1 ((sSeq (sExpr (eCall m_look_at_key (aCons (eVar 0) aNil)))
    (sSeq (sSet 1 (eC (.int 0)))
    (sSeq (sFor (iStrM (eVar 0)) (gN 2) (sSet 1 (eOp modM (eOp addM (eOp subM (eOp addM (eOp mulM (eC (.int 5)) (eVar 1)) (eCall ordM (aCons (eVar 2) aNil))) (eCall ordM (aCons (eC (.str "a")) aNil))) (eC (.int 1))) (eC (.int 64)))))
    (sRet (eVar 1))))))
def m_Ring_order : FM := fun_ 7 2 ((sSeq (sSet 2 (eCall m_place_of (aCons (eVar 1) aNil)))
    (sSeq (sSet 3 (eLc (iSeqM (eFld "Ring" "own_marks" (eVar 0))) [5, 6] (gT 2 (gsCons (gN 5) (gsCons (gN 6) gsNil))) (tOf (eOp geI (eVar 5) (eVar 2))) (eVar 6)))
    (sSeq (sSet 4 (eLc (iSeqM (eFld "Ring" "own_marks" (eVar 0))) [5, 6] (gT 2 (gsCons (gN 5) (gsCons (gN 6) gsNil))) (tOf (eOp ltI (eVar 5) (eVar 2))) (eVar 6)))
    (sRet (eCall listOf (aCons (eDc (iSeqM (eOp addM (eVar 3) (eVar 4))) [6] (gN 6) tYesM (eVar 6) (eC (.bl true))) aNil)))))))
def m_Ring_homes : FM := fun_ 3 3 ((sRet (eSl (eMeth "Ring" "order" m_Ring_order (eVar 0) (aCons (eVar 1) aNil)) oNone (oSome (eVar 2)))))
end GP

set_option maxRecDepth 100000
set_option maxHeartbeats 4000000
namespace GP
open PySem PySem.Spec PyProof.Rows L2 K01 MM
def m__law_pool : FM := fun_ 4 2 ((sSeq (sSet 2 (eC (.int 0)))
    (sSeq (sIf (tOf (eOp (eqB true) (eVar 0) (eLst aNil))) (sSet 2 (eOp ixM (eVar 0) (eOp modM (eVar 1) (eCall lenM (aCons (eVar 0) aNil))))) sNil)
    (sSeq (sIf (tOf (eOp geI (eVar 1) (eCall lenM (aCons (eVar 0) aNil)))) (sSet 2 (eOp ixM (eLst (aCons (eOp modM (eVar 2) (eC (.int 1000003))) (aCons (eOp fdivM (eVar 2) (eOp powM (eC (.int 10)) (eC (.int 18)))) aNil))) (eCall intOf (aCons (eOp geI (eVar 2) (eOp powM (eC (.int 10)) (eC (.int 36)))) aNil)))) sNil)
    (sSeq (sSet 3 (eOp modM (eOp mulM (eOp addM (eOp addM (eOp modM (eVar 2) (eC (.int 2147483629))) (eOp mulM (eC (.int 104729)) (eVar 1))) (eC (.int 11))) (eC (.int 48271))) (eC (.int 2147483647))))
    (sRet (eLst (aCons (eOp mulM (eVar 2) (eCall intOf (aCons (eOp geI (eVar 2) (eOp powM (eC (.int 10)) (eC (.int 18)))) aNil))) (aCons (eVar 3) aNil)))))))))
def m__law_take : FM := fun_ 3 2 ((sSeq (sIf (tOf (eOp gtI (eOp ixM (eVar 0) (eC (.int 0))) (eC (.int 0)))) (sSeq (sSet 2 (eOp modM (eOp ixM (eVar 0) (eC (.int 0))) (eVar 1)))
    (sSeq (sAsg (eOp fdivM (eOp ixM (eVar 0) (eC (.int 0))) (eVar 1)) (gIx (eVar 0) (eC (.int 0))))
    (sRet (eVar 2)))) sNil)
    (sSeq (sAsg (eOp modM (eOp addM (eOp mulM (eOp ixM (eVar 0) (eC (.int 1))) (eC (.int 48271))) (eC (.int 11))) (eC (.int 2147483647))) (gIx (eVar 0) (eC (.int 1))))
    (sRet (eOp modM (eOp fdivM (eOp modM (eOp mulM (eOp ixM (eVar 0) (eC (.int 1))) (eOp ixM (eVar 0) (eC (.int 1)))) (eC (.int 2147483629))) (eC (.int 64))) (eVar 1))))))
end GP

set_option maxRecDepth 100000
set_option maxHeartbeats 4000000
namespace MM
open PySem PySem.Spec PyProof.Rows L2

theorem bind_run {α β : Type} {m : M α} {f : α → M β} {h : Hm} {a : α} {h' : Hm} (e : m h = .ok a h') : (m.bind f) h = f a h' := by
  unfold M.bind; rw [e]; rfl
def Pu {α : Type} (m : M α) (h : Hm) (a : α) : Prop := ∃ g, m h = .ok a (h ++ g)
theorem Pu.now {α : Type} {m : M α} {h : Hm} {a : α} (e : m h = .ok a h) : Pu m h a := ⟨[], by rw [List.append_nil]; exact e⟩
theorem Pu.bind {α β : Type} {m : M α} {f : α → M β} {h : Hm} {a : α} {b : β} (p : Pu m h a) (q : ∀ g, Pu (f a) (h ++ g) b) : Pu (m.bind f) h b := by
  obtain ⟨g, e⟩ := p
  obtain ⟨g', e'⟩ := q g
  exact ⟨g ++ g', by rw [bind_run e, e', List.append_assoc]⟩
theorem Pu.pure {α : Type} {h : Hm} {a : α} : Pu (M.pure a) h a := Pu.now rfl
theorem Pu.c {ρ : Env} {h : Hm} {w : Wv} : Pu (eC w ρ) h w := Pu.now rfl
theorem Pu.op {f : F2} {a b : EM} {ρ : Env} {h : Hm} {x y z : Wv} (p : Pu (a ρ) h x) (q : ∀ g, Pu (b ρ) (h ++ g) y) (r : ∀ g, Pu (f x y) (h ++ g) z) : Pu (eOp f a b ρ) h z :=
  p.bind fun g => (q g).bind fun g' => by rw [List.append_assoc]; exact r _
theorem Pu.nil {ρ : Env} {h : Hm} : Pu (aNil ρ) h [] := Pu.now rfl
theorem Pu.cons {e : EM} {r : AM} {ρ : Env} {h : Hm} {w : Wv} {ws : List Wv} (p : Pu (e ρ) h w) (q : ∀ g, Pu (r ρ) (h ++ g) ws) : Pu (aCons e r ρ) h (w :: ws) :=
  p.bind fun g => (q g).bind fun g' => Pu.pure
theorem Pu.call {f : FM} {a : AM} {ρ : Env} {h : Hm} {ws : List Wv} {w : Wv} (p : Pu (a ρ) h ws) (q : ∀ g, Pu (f ws) (h ++ g) w) : Pu (eCall f a ρ) h w := p.bind q
theorem Pu.tOf {e : EM} {ρ : Env} {h : Hm} {b : Bool} (p : Pu (e ρ) h (.bl b)) : Pu (MM.tOf e ρ) h b := p.bind fun g => Pu.now rfl
theorem Pu.tTru {e : EM} {ρ : Env} {h : Hm} {w : Wv} {b : Bool} (p : Pu (e ρ) h w) (q : ∀ g, truM w (h ++ g) = .ok b (h ++ g)) : Pu (MM.tTru e ρ) h b := p.bind fun g => Pu.now (q g)
theorem Pu.tNot {t : TM} {ρ : Env} {h : Hm} {b : Bool} (p : Pu (t ρ) h b) : Pu (tNotM t ρ) h (!b) := p.bind fun g => Pu.pure
theorem Pu.tAnd {a t : TM} {ρ : Env} {h : Hm} {x y : Bool} (p : Pu (a ρ) h x) (q : x = true → ∀ g, Pu (t ρ) (h ++ g) y) : Pu (tAndM a t ρ) h (x && y) := p.bind fun g => by
  cases x with
  | true => exact q rfl g
  | false => exact Pu.pure
theorem Pu.tOr {a t : TM} {ρ : Env} {h : Hm} {x y : Bool} (p : Pu (a ρ) h x) (q : x = false → ∀ g, Pu (t ρ) (h ++ g) y) : Pu (tOrM a t ρ) h (x || y) := p.bind fun g => by
  cases x with
  | true => exact Pu.pure
  | false => exact q rfl g
theorem Pu.eAnd {a b : EM} {ρ : Env} {h : Hm} {x : Bool} {w : Wv} (p : Pu (a ρ) h (.bl x)) (q : x = true → ∀ g, Pu (b ρ) (h ++ g) w) (q0 : x = false → w = .bl false) : Pu (MM.eAnd a b ρ) h w := p.bind fun g => by
  show Pu ((asB (.bl x)).bind _) _ _
  refine (Pu.now rfl : Pu (asB (.bl x)) (h ++ g) x).bind fun g' => ?_
  cases x with
  | true => rw [List.append_assoc]; exact q rfl _
  | false => rw [q0 rfl]; exact Pu.pure
theorem Pu.eNot {a : EM} {ρ : Env} {h : Hm} {x : Bool} (p : Pu (a ρ) h (.bl x)) : Pu (MM.eNot a ρ) h (.bl (!x)) := p.bind fun g => (Pu.now rfl : Pu (asB (.bl x)) (h ++ g) x).bind fun g' => Pu.pure
theorem Pu.eIf {t : TM} {a b : EM} {ρ : Env} {h : Hm} {k : Bool} {w : Wv} (p : Pu (t ρ) h k) (q : k = true → ∀ g, Pu (a ρ) (h ++ g) w) (r : k = false → ∀ g, Pu (b ρ) (h ++ g) w) : Pu (MM.eIf t a b ρ) h w := p.bind fun g => by
  cases k with
  | true => exact q rfl g
  | false => exact r rfl g
theorem Pu.eTup {a : AM} {ρ : Env} {h : Hm} {ws : List Wv} (p : Pu (a ρ) h ws) (l : ws.length ≤ 1000000) : Pu (MM.eTup a ρ) h (.tup ws) := p.bind fun g => by
  rw [if_pos (show small ws = true from decide_eq_true (by rw [sizeLine_eq]; omega))]; exact Pu.pure

theorem Pu.seq {a b : SM} {ρ ρ1 : Env} {h : Hm} {r : Fl × Env} (p : Pu (a ρ) h (.nx, ρ1)) (q : ∀ g, Pu (b ρ1) (h ++ g) r) : Pu (sSeq a b ρ) h r := p.bind q
theorem Pu.ret {e : EM} {ρ : Env} {h : Hm} {w : Wv} (p : Pu (e ρ) h w) : Pu (sRet e ρ) h (.ret w, ρ) := p.bind fun g => Pu.pure
theorem Pu.expr {e : EM} {ρ : Env} {h : Hm} {w : Wv} (p : Pu (e ρ) h w) : Pu (sExpr e ρ) h (.nx, ρ) := p.bind fun g => Pu.pure
theorem Pu.set {i : Nat} {e : EM} {ρ : Env} {h : Hm} {w : Wv} (p : Pu (e ρ) h w) : Pu (sSet i e ρ) h (.nx, ρ.set i (some w)) := p.bind fun g => Pu.pure
theorem Pu.sIf {t : TM} {a b : SM} {ρ : Env} {h : Hm} {k : Bool} {r : Fl × Env} (p : Pu (t ρ) h k) (q : k = true → ∀ g, Pu (a ρ) (h ++ g) r) (q0 : k = false → ∀ g, Pu (b ρ) (h ++ g) r) : Pu (MM.sIf t a b ρ) h r := p.bind fun g => by
  cases k with
  | true => exact q rfl g
  | false => exact q0 rfl g
theorem Pu.sNil {ρ : Env} {h : Hm} : Pu (MM.sNil ρ) h (.nx, ρ) := Pu.now rfl
theorem Pu.fn {n k : Nat} {b : SM} {ws : List Wv} {h : Hm} {w : Wv} {ρ : Env} (l : ws.length = k) (p : Pu (b (startM n ws)) h (.ret w, ρ)) : Pu (fun_ n k b ws) h w := by
  unfold fun_
  rw [if_pos l]
  exact p.bind fun g => Pu.pure

theorem at_app {h : Hm} {i : Nat} {o : Ob} (e : h[i]? = some o) (g : Hm) : (h ++ g)[i]? = some o := by
  rw [List.getElem?_append_left (List.getElem?_eq_some_iff.mp e).1]; exact e
theorem rdL_app {h : Hm} {i : Nat} {ws : List Wv} (e : rdL h i = some ws) (g : Hm) : rdL (h ++ g) i = some ws := by
  unfold rdL at e ⊢
  cases q : h[i]? with
  | none => rw [q] at e; cases e
  | some o => rw [at_app q g]; rw [q] at e; exact e
theorem rdL_new {h : Hm} {ws : List Wv} (g : Hm) : rdL (h ++ [.lst ws] ++ g) h.length = some ws := by
  unfold rdL
  rw [List.append_assoc, List.getElem?_append_right (Nat.le_refl _), Nat.sub_self]
  rfl

def Its (src : Src) (h : Hm) (its : List Wv) : Prop := ∀ k g, src.at_ k (h ++ g) = some its[k]?
theorem its_L {n i : Nat} {h : Hm} {ws : List Wv} (e : rdL h i = some ws) : MM.Its (sL n i) h ws := fun k g => by
  show (rdL (h ++ g) i).map _ = _
  rw [rdL_app e]; rfl
theorem its_R {lo : Int} {n : Nat} {h : Hm} : MM.Its (sR lo n) h ((List.range n).map fun (k : Nat) => Wv.int (lo + k)) := fun k g => by
  show some (if k < n then some (Wv.int (lo + k)) else none) = _
  rw [List.getElem?_map]
  by_cases hk : k < n
  · rw [if_pos hk, List.getElem?_range hk]; rfl
  · rw [if_neg hk, List.getElem?_eq_none (by rw [List.length_range]; omega)]; rfl
theorem its_S {x : PySem.Str} {h : Hm} : MM.Its (sS x) h (x.cps.toList.map fun ch => .str ⟨#[ch]⟩) := fun k g => by
  show some (x.cps[k]?.map _) = _
  rw [List.getElem?_map, Array.getElem?_toList]
end MM

set_option maxRecDepth 100000
set_option maxHeartbeats 4000000
namespace MM
open PySem PySem.Spec PyProof.Rows L2

def wpM {α : Type} (m : M α) (h : Hm) (Q : α → Hm → Prop) : Prop := ∃ a h1, m h = .ok a h1 ∧ Q a h1
section
variable {α β : Type} {h : Hm} {ρ : Env}
theorem wp_ok {m : M α} {a : α} {h1 : Hm} {Q : α → Hm → Prop} (e : m h = .ok a h1) : wpM m h Q ↔ Q a h1 := by
  constructor
  · rintro ⟨b, h2, e2, q⟩
    rw [e] at e2; cases e2; exact q
  · exact fun q => ⟨a, h1, e, q⟩
theorem wp_mono {m : M α} {Q Q' : α → Hm → Prop} (w : wpM m h Q) (f : ∀ a h1, Q a h1 → Q' a h1) : wpM m h Q' := by
  obtain ⟨a, h1, e, q⟩ := w
  exact ⟨a, h1, e, f a h1 q⟩
theorem wp_bad {m : M α} {Q : α → Hm → Prop} (e : ∀ a h1, m h ≠ .ok a h1) : wpM m h Q ↔ False := ⟨fun ⟨a, h1, z, _⟩ => e a h1 z, fun z => z.elim⟩
theorem wp_bind {m : M α} {f : α → M β} {Q : β → Hm → Prop} : wpM (m.bind f) h Q ↔ wpM m h fun a h1 => wpM (f a) h1 Q := by
  constructor
  · rintro ⟨b, h2, e, q⟩
    obtain ⟨a, h1, e1, e2⟩ := bind_ok e
    exact ⟨a, h1, e1, b, h2, e2, q⟩
  · rintro ⟨a, h1, e1, b, h2, e2, q⟩
    exact ⟨b, h2, by rw [bind_run e1]; exact e2, q⟩
theorem wp_pure {a : α} {Q : α → Hm → Prop} : wpM (M.pure a) h Q ↔ Q a h := wp_ok rfl
theorem wp_no {Q : α → Hm → Prop} : wpM (M.no : M α) h Q ↔ False := wp_bad fun _ _ z => by cases z
theorem wp_lay {o : Ob} {Q : Wv → Hm → Prop} : wpM (lay o) h Q ↔ Q (.obj h.length) (h ++ [o]) := wp_ok rfl
theorem wp_ite {P : Prop} [Decidable P] {m m' : M α} {Q : α → Hm → Prop} : wpM (if P then m else m') h Q ↔ if P then wpM m h Q else wpM m' h Q := by
  by_cases p : P <;> simp only [p, if_true, if_false]
theorem wp_var {i : Nat} {Q : Wv → Hm → Prop} : wpM (eVar i ρ) h Q ↔ ∃ w, ρ[i]? = some (some w) ∧ Q w h := by
  unfold eVar
  constructor
  · rintro ⟨a, h1, e, q⟩
    split at e
    · next w z => cases e; exact ⟨_, z, q⟩
    · cases e
  · rintro ⟨w, e, q⟩
    refine ⟨w, h, ?_, q⟩
    simp only [e]
theorem wp_c {w : Wv} {Q : Wv → Hm → Prop} : wpM (eC w ρ) h Q ↔ Q w h := wp_ok rfl
theorem wp_op {f : F2} {a b : EM} {Q : Wv → Hm → Prop} : wpM (eOp f a b ρ) h Q ↔ wpM (a ρ) h fun x h1 => wpM (b ρ) h1 fun y h2 => wpM (f x y) h2 Q := by
  unfold eOp; simp only [wp_bind]
theorem wp_aNil {Q : List Wv → Hm → Prop} : wpM (aNil ρ) h Q ↔ Q [] h := wp_ok rfl
theorem wp_aCons {e : EM} {r : AM} {Q : List Wv → Hm → Prop} : wpM (aCons e r ρ) h Q ↔ wpM (e ρ) h fun w h1 => wpM (r ρ) h1 fun ws h2 => Q (w :: ws) h2 := by
  unfold aCons; simp only [wp_bind, wp_pure]
theorem wp_call {f : FM} {a : AM} {Q : Wv → Hm → Prop} : wpM (eCall f a ρ) h Q ↔ wpM (a ρ) h fun ws h1 => wpM (f ws) h1 Q := by
  unfold eCall; simp only [wp_bind]
theorem wp_tup {a : AM} {Q : Wv → Hm → Prop} : wpM (eTup a ρ) h Q ↔ wpM (a ρ) h fun ws h1 => ws.length ≤ sizeLine ∧ Q (.tup ws) h1 := by
  unfold eTup
  simp only [wp_bind, wp_ite, wp_pure, wp_no, small, decide_eq_true_eq]
  constructor <;> intro z <;> refine wp_mono z fun ws h1 q => ?_
  · split at q
    · next l => exact ⟨l, q⟩
    · exact q.elim
  · rw [if_pos q.1]; exact q.2
theorem wp_lst {a : AM} {Q : Wv → Hm → Prop} : wpM (eLst a ρ) h Q ↔ wpM (a ρ) h fun ws h1 => ws.length ≤ sizeLine ∧ Q (.obj h1.length) (h1 ++ [.lst ws]) := by
  unfold eLst
  simp only [wp_bind, wp_ite, wp_lay, wp_no, small, decide_eq_true_eq]
  constructor <;> intro z <;> refine wp_mono z fun ws h1 q => ?_
  · split at q
    · next l => exact ⟨l, q⟩
    · exact q.elim
  · rw [if_pos q.1]; exact q.2
theorem wp_asB {w : Wv} {Q : Bool → Hm → Prop} : wpM (asB w) h Q ↔ ∃ b, w = .bl b ∧ Q b h := by
  constructor
  · rintro ⟨b, h1, e, q⟩
    obtain ⟨rfl, rfl⟩ := asB_ok e
    exact ⟨b, rfl, q⟩
  · rintro ⟨b, rfl, q⟩
    exact ⟨b, h, rfl, q⟩
theorem wp_tOf {e : EM} {Q : Bool → Hm → Prop} : wpM (tOf e ρ) h Q ↔ wpM (e ρ) h fun w h1 => ∃ b, w = .bl b ∧ Q b h1 := by
  unfold tOf; simp only [wp_bind, wp_asB]
theorem wp_tTru {e : EM} {Q : Bool → Hm → Prop} : wpM (tTru e ρ) h Q ↔ wpM (e ρ) h fun w h1 => wpM (truM w) h1 Q := by
  unfold tTru; simp only [wp_bind]
theorem wp_tru_bl {b : Bool} {Q : Bool → Hm → Prop} : wpM (truM (.bl b)) h Q ↔ Q b h := wp_ok rfl
theorem wp_tru_non {Q : Bool → Hm → Prop} : wpM (truM .non) h Q ↔ Q false h := wp_ok rfl
theorem wp_tru_int {i : Int} {Q : Bool → Hm → Prop} : wpM (truM (.int i)) h Q ↔ Q (i != 0) h := wp_ok rfl
theorem wp_tru_tup {ws : List Wv} {Q : Bool → Hm → Prop} : wpM (truM (.tup ws)) h Q ↔ Q (!ws.isEmpty) h := wp_ok rfl
theorem wp_tAnd {a b : TM} {Q : Bool → Hm → Prop} : wpM (tAndM a b ρ) h Q ↔ wpM (a ρ) h fun x h1 => if x = true then wpM (b ρ) h1 Q else Q false h1 := by
  unfold tAndM; simp only [wp_bind, wp_ite, wp_pure]
theorem wp_tOr {a b : TM} {Q : Bool → Hm → Prop} : wpM (tOrM a b ρ) h Q ↔ wpM (a ρ) h fun x h1 => if x = true then Q true h1 else wpM (b ρ) h1 Q := by
  unfold tOrM; simp only [wp_bind, wp_ite, wp_pure]
theorem wp_tNot {a : TM} {Q : Bool → Hm → Prop} : wpM (tNotM a ρ) h Q ↔ wpM (a ρ) h fun x h1 => Q (!x) h1 := by
  unfold tNotM; simp only [wp_bind, wp_pure]
theorem wp_tYes {Q : Bool → Hm → Prop} : wpM (tYesM ρ) h Q ↔ Q true h := wp_ok rfl
theorem wp_eAnd {a b : EM} {Q : Wv → Hm → Prop} : wpM (eAnd a b ρ) h Q ↔ wpM (a ρ) h fun x h1 => ∃ k, x = .bl k ∧ if k = true then wpM (b ρ) h1 Q else Q (.bl false) h1 := by
  unfold eAnd; simp only [wp_bind, wp_asB, wp_ite, wp_pure]
theorem wp_eOr {a b : EM} {Q : Wv → Hm → Prop} : wpM (eOr a b ρ) h Q ↔ wpM (a ρ) h fun x h1 => ∃ k, x = .bl k ∧ if k = true then Q (.bl true) h1 else wpM (b ρ) h1 Q := by
  unfold eOr; simp only [wp_bind, wp_asB, wp_ite, wp_pure]
theorem wp_eNot {a : EM} {Q : Wv → Hm → Prop} : wpM (eNot a ρ) h Q ↔ wpM (a ρ) h fun x h1 => ∃ k, x = .bl k ∧ Q (.bl (!k)) h1 := by
  unfold eNot; simp only [wp_bind, wp_asB, wp_pure]
theorem wp_eIf {t : TM} {a b : EM} {Q : Wv → Hm → Prop} : wpM (eIf t a b ρ) h Q ↔ wpM (t ρ) h fun k h1 => if k = true then wpM (a ρ) h1 Q else wpM (b ρ) h1 Q := by
  unfold eIf; simp only [wp_bind, wp_ite]
theorem wp_eCh {f f' : F2} {a b d : EM} {Q : Wv → Hm → Prop} : wpM (eCh f f' a b d ρ) h Q ↔ wpM (a ρ) h fun x h1 => wpM (b ρ) h1 fun y h2 => wpM (f x y) h2 fun z h3 => ∃ k, z = .bl k ∧ if k = true then wpM (d ρ) h3 fun u h4 => wpM (f' y u) h4 Q else Q (.bl false) h3 := by
  unfold eCh; simp only [wp_bind, wp_asB, wp_ite, wp_pure]
theorem wp_eNeg {a : EM} {Q : Wv → Hm → Prop} : wpM (eNeg a ρ) h Q ↔ wpM (a ρ) h fun x h1 => ∃ i, x = .int i ∧ Q (.int (-i)) h1 := by
  unfold eNeg; simp only [wp_bind]
  constructor <;> intro z <;> refine wp_mono z fun x h1 q => ?_
  · cases x with
    | int i => exact ⟨i, rfl, wp_pure.mp q⟩
    | _ => exact (wp_no.mp q).elim
  · obtain ⟨i, rfl, q⟩ := q
    exact wp_pure.mpr q

theorem wp_sNil {Q : Fl × Env → Hm → Prop} : wpM (sNil ρ) h Q ↔ Q (.nx, ρ) h := wp_ok rfl
theorem wp_seq {a b : SM} {Q : Fl × Env → Hm → Prop} : wpM (sSeq a b ρ) h Q ↔ wpM (a ρ) h fun r h1 => match r.1 with | .nx => wpM (b r.2) h1 Q | .ret w => Q (.ret w, r.2) h1 | .bk => Q (.bk, r.2) h1 | .ct => Q (.ct, r.2) h1 | .xc x => Q (.xc x, r.2) h1 := by
  unfold sSeq; simp only [wp_bind]
  constructor <;> intro z <;> refine wp_mono z fun r h1 q => ?_
  · obtain ⟨fl, ρ1⟩ := r
    cases fl <;> first | exact q | exact wp_pure.mp q
  · obtain ⟨fl, ρ1⟩ := r
    cases fl <;> first | exact q | exact wp_pure.mpr q
theorem wp_ret {e : EM} {Q : Fl × Env → Hm → Prop} : wpM (sRet e ρ) h Q ↔ wpM (e ρ) h fun w h1 => Q (.ret w, ρ) h1 := by
  unfold sRet; simp only [wp_bind, wp_pure]
theorem wp_retN {Q : Fl × Env → Hm → Prop} : wpM (sRetN ρ) h Q ↔ Q (.ret .non, ρ) h := wp_ok rfl
theorem wp_expr {e : EM} {Q : Fl × Env → Hm → Prop} : wpM (sExpr e ρ) h Q ↔ wpM (e ρ) h fun w h1 => Q (.nx, ρ) h1 := by
  unfold sExpr; simp only [wp_bind, wp_pure]
theorem wp_set {i : Nat} {e : EM} {Q : Fl × Env → Hm → Prop} : wpM (sSet i e ρ) h Q ↔ wpM (e ρ) h fun w h1 => Q (.nx, ρ.set i (some w)) h1 := by
  unfold sSet; simp only [wp_bind, wp_pure]
theorem wp_sIf {t : TM} {a b : SM} {Q : Fl × Env → Hm → Prop} : wpM (sIf t a b ρ) h Q ↔ wpM (t ρ) h fun k h1 => if k = true then wpM (a ρ) h1 Q else wpM (b ρ) h1 Q := by
  unfold sIf; simp only [wp_bind, wp_ite]
theorem wp_sNo {Q : Fl × Env → Hm → Prop} : wpM (sNo ρ) h Q ↔ False := wp_bad fun _ _ z => by cases z
theorem wp_bk {Q : Fl × Env → Hm → Prop} : wpM (sBk ρ) h Q ↔ Q (.bk, ρ) h := wp_ok rfl
theorem wp_ct {Q : Fl × Env → Hm → Prop} : wpM (sCt ρ) h Q ↔ Q (.ct, ρ) h := wp_ok rfl
theorem wp_asg {e : EM} {g : GM} {Q : Fl × Env → Hm → Prop} : wpM (sAsg e g ρ) h Q ↔ wpM (e ρ) h fun w h1 => wpM (g w ρ) h1 fun ρ1 h2 => Q (.nx, ρ1) h2 := by
  unfold sAsg; simp only [wp_bind, wp_pure]
theorem wp_par {i j : Nat} {a : AM} {Q : Fl × Env → Hm → Prop} : wpM (sPar i j a ρ) h Q ↔ wpM (a ρ) h fun ws h1 => ∃ x y, ws = [x, y] ∧ Q (.nx, (ρ.set i (some x)).set j (some y)) h1 := by
  unfold sPar; simp only [wp_bind]
  constructor <;> intro z <;> refine wp_mono z fun ws h1 q => ?_
  · match ws, q with
    | [x, y], q => exact ⟨x, y, rfl, wp_pure.mp q⟩
    | [], q => exact (wp_no.mp q).elim
    | [_], q => exact (wp_no.mp q).elim
    | _ :: _ :: _ :: _, q => exact (wp_no.mp q).elim
  · obtain ⟨x, y, rfl, q⟩ := q
    exact wp_pure.mpr q
theorem wp_gN {i : Nat} {w : Wv} {Q : Env → Hm → Prop} : wpM (gN i w ρ) h Q ↔ Q (ρ.set i (some w)) h := wp_ok rfl
theorem wp_gsNil {Q : Env → Hm → Prop} : wpM (gsNil [] ρ) h Q ↔ Q ρ h := wp_ok rfl
theorem wp_gsCons {g : GM} {r : GMs} {w : Wv} {ws : List Wv} {Q : Env → Hm → Prop} : wpM (gsCons g r (w :: ws) ρ) h Q ↔ wpM (g w ρ) h fun ρ1 h1 => wpM (r ws ρ1) h1 Q := wp_bind
theorem wp_gT {n : Nat} {g : GMs} {ws : List Wv} {Q : Env → Hm → Prop} : wpM (gT n g (.tup ws) ρ) h Q ↔ ws.length = n ∧ wpM (g ws ρ) h Q := by
  show wpM (if ws.length = n then g ws ρ else M.no) h Q ↔ _
  rw [wp_ite]
  by_cases l : ws.length = n
  · rw [if_pos l]; exact ⟨fun q => ⟨l, q⟩, fun q => q.2⟩
  · rw [if_neg l]; exact ⟨fun q => (wp_no.mp q).elim, fun q => absurd q.1 l⟩
theorem wp_gL {n i : Nat} {g : GMs} {Q : Env → Hm → Prop} {ws : List Wv} (e : rdL h i = some ws) : wpM (gL n g (.obj i) ρ) h Q ↔ ws.length = n ∧ wpM (g ws ρ) h Q := by
  by_cases l : ws.length = n
  · have : gL n g (.obj i) ρ h = g ws ρ h := by unfold gL; simp only [e, l, if_true]
    unfold wpM; rw [this]; exact ⟨fun q => ⟨l, q⟩, fun q => q.2⟩
  · have : gL n g (.obj i) ρ h = .no := by unfold gL; simp only [e, l, if_false]
    unfold wpM; rw [this]; exact ⟨fun ⟨_, _, z, _⟩ => by (cases z), fun q => absurd q.1 l⟩
theorem wp_fun {n k : Nat} {b : SM} {ws : List Wv} {Q : Wv → Hm → Prop} (l : ws.length = k) : wpM (fun_ n k b ws) h Q ↔ wpM (b (startM n ws)) h fun r h1 => match r.1 with | .nx => Q .non h1 | .ret w => Q w h1 | .bk => False | .ct => False | .xc _ => False := by
  unfold fun_
  rw [if_pos l, wp_bind]
  constructor <;> intro z <;> refine wp_mono z fun r h1 q => ?_
  · obtain ⟨fl, ρ1⟩ := r
    cases fl <;> first | exact wp_pure.mp q | exact wp_no.mp q
  · obtain ⟨fl, ρ1⟩ := r
    cases fl <;> first | exact wp_pure.mpr q | exact wp_no.mpr q
theorem wp_fun0 {n : Nat} {b : SM} {Q : Wv → Hm → Prop} : wpM (fun_ n 0 b []) h Q ↔ wpM (b (startM n [])) h fun r h1 => match r.1 with | .nx => Q .non h1 | .ret w => Q w h1 | .bk => False | .ct => False | .xc _ => False := wp_fun rfl
theorem wp_fun1 {n : Nat} {b : SM} {x0 : Wv} {Q : Wv → Hm → Prop} : wpM (fun_ n 1 b [x0]) h Q ↔ wpM (b (startM n [x0])) h fun r h1 => match r.1 with | .nx => Q .non h1 | .ret w => Q w h1 | .bk => False | .ct => False | .xc _ => False := wp_fun rfl
theorem wp_fun2 {n : Nat} {b : SM} {x0 x1 : Wv} {Q : Wv → Hm → Prop} : wpM (fun_ n 2 b [x0, x1]) h Q ↔ wpM (b (startM n [x0, x1])) h fun r h1 => match r.1 with | .nx => Q .non h1 | .ret w => Q w h1 | .bk => False | .ct => False | .xc _ => False := wp_fun rfl
theorem wp_fun3 {n : Nat} {b : SM} {x0 x1 x2 : Wv} {Q : Wv → Hm → Prop} : wpM (fun_ n 3 b [x0, x1, x2]) h Q ↔ wpM (b (startM n [x0, x1, x2])) h fun r h1 => match r.1 with | .nx => Q .non h1 | .ret w => Q w h1 | .bk => False | .ct => False | .xc _ => False := wp_fun rfl
theorem wp_fun4 {n : Nat} {b : SM} {x0 x1 x2 x3 : Wv} {Q : Wv → Hm → Prop} : wpM (fun_ n 4 b [x0, x1, x2, x3]) h Q ↔ wpM (b (startM n [x0, x1, x2, x3])) h fun r h1 => match r.1 with | .nx => Q .non h1 | .ret w => Q w h1 | .bk => False | .ct => False | .xc _ => False := wp_fun rfl
theorem wp_fun5 {n : Nat} {b : SM} {x0 x1 x2 x3 x4 : Wv} {Q : Wv → Hm → Prop} : wpM (fun_ n 5 b [x0, x1, x2, x3, x4]) h Q ↔ wpM (b (startM n [x0, x1, x2, x3, x4])) h fun r h1 => match r.1 with | .nx => Q .non h1 | .ret w => Q w h1 | .bk => False | .ct => False | .xc _ => False := wp_fun rfl
theorem wp_fun6 {n : Nat} {b : SM} {x0 x1 x2 x3 x4 x5 : Wv} {Q : Wv → Hm → Prop} : wpM (fun_ n 6 b [x0, x1, x2, x3, x4, x5]) h Q ↔ wpM (b (startM n [x0, x1, x2, x3, x4, x5])) h fun r h1 => match r.1 with | .nx => Q .non h1 | .ret w => Q w h1 | .bk => False | .ct => False | .xc _ => False := wp_fun rfl
theorem wp_fun7 {n : Nat} {b : SM} {x0 x1 x2 x3 x4 x5 x6 : Wv} {Q : Wv → Hm → Prop} : wpM (fun_ n 7 b [x0, x1, x2, x3, x4, x5, x6]) h Q ↔ wpM (b (startM n [x0, x1, x2, x3, x4, x5, x6])) h fun r h1 => match r.1 with | .nx => Q .non h1 | .ret w => Q w h1 | .bk => False | .ct => False | .xc _ => False := wp_fun rfl

variable {Q : Wv → Hm → Prop}
theorem wp_sub {i j : Int} : wpM (subM (.int i) (.int j)) h Q ↔ Q (.int (i - j)) h := wp_ok rfl
theorem wp_add_int {i j : Int} : wpM (addM (.int i) (.int j)) h Q ↔ Q (.int (i + j)) h := wp_ok rfl
theorem wp_pIc {C : Int → Int → Bool} {g : Int → Int → Wv} {i j : Int} (c : C i j = true) : wpM (pIc C g (.int i) (.int j)) h Q ↔ Q (g i j) h := by
  show wpM (if C i j = true then M.pure (g i j) else M.no) h Q ↔ _
  rw [if_pos c, wp_pure]
theorem wp_lt {i j : Int} : wpM (ltI (.int i) (.int j)) h Q ↔ Q (.bl (decide (i < j))) h := wp_ok rfl
theorem wp_le {i j : Int} : wpM (leI (.int i) (.int j)) h Q ↔ Q (.bl (decide (i ≤ j))) h := wp_ok rfl
theorem wp_gt {i j : Int} : wpM (gtI (.int i) (.int j)) h Q ↔ Q (.bl (decide (j < i))) h := wp_ok rfl
theorem wp_ge {i j : Int} : wpM (geI (.int i) (.int j)) h Q ↔ Q (.bl (decide (j ≤ i))) h := wp_ok rfl
theorem wp_eqI {i j : Int} : wpM (eqB false (.int i) (.int j)) h Q ↔ Q (.bl (decide (i = j))) h := wp_ok rfl
theorem wp_neI {i j : Int} : wpM (eqB true (.int i) (.int j)) h Q ↔ Q (.bl (!decide (i = j))) h := wp_ok rfl
theorem wp_eqS {i j : PySem.Str} : wpM (eqB false (.str i) (.str j)) h Q ↔ Q (.bl (decide (i = j))) h := wp_ok rfl
theorem wp_neS {i j : PySem.Str} : wpM (eqB true (.str i) (.str j)) h Q ↔ Q (.bl (!decide (i = j))) h := wp_ok rfl
theorem wp_isi {T : Ty} {w : Wv} {n : String} : wpM (isiM T [w, .raw (.ty n)]) h Q ↔ n = T.nm ∧ ∃ t, tyW h w = some t ∧ Q (.bl (t.sub T)) h := by
  unfold isiM
  constructor
  · rintro ⟨a, h1, e, q⟩
    simp only at e
    obtain ⟨l, e⟩ := ifD_ok' e
    cases z : tyW h w with
    | none => rw [z] at e; cases e
    | some t => rw [z] at e; cases e; exact ⟨l, t, rfl, q⟩
  · rintro ⟨l, t, z, q⟩
    exact ⟨_, h, by simp only [l, if_true, z], q⟩
theorem wp_len_str {x : PySem.Str} : wpM (lenM [.str x]) h Q ↔ x.length ≤ sizeLine ∧ Q (.int x.length) h := by
  unfold wpM lenM
  by_cases l : x.length ≤ sizeLine
  · simp only [l, if_true, true_and]; exact ⟨(fun ⟨a, h1, e, q⟩ => by cases e; exact q), fun q => ⟨_, _, rfl, q⟩⟩
  · simp only [l, if_false, false_and]; exact ⟨(fun ⟨a, h1, e, q⟩ => by cases e), fun q => q.elim⟩
theorem wp_len_tup {ws : List Wv} : wpM (lenM [.tup ws]) h Q ↔ Q (.int ws.length) h := wp_ok rfl
theorem wp_len_scr {ns : List Int} : wpM (lenM [.scr ns]) h Q ↔ Q (.int ns.length) h := wp_ok rfl
theorem wp_len_obj {i : Nat} {ws : List Wv} (e : rdL h i = some ws) : wpM (lenM [.obj i]) h Q ↔ Q (.int ws.length) h := by
  refine wp_ok ?_
  unfold rdL at e
  unfold lenM
  split at e
  · next us q => cases e; simp only [q]
  · next us q => cases e; simp only [q]
  · cases e
theorem wp_isN_non : wpM (isNB false .non .non) h Q ↔ Q (.bl true) h := wp_ok rfl
theorem wp_isN_int {i : Int} : wpM (isNB false (.int i) .non) h Q ↔ Q (.bl false) h := wp_ok rfl
theorem wp_notN_non : wpM (isNB true .non .non) h Q ↔ Q (.bl false) h := wp_ok rfl
theorem wp_notN_int {i : Int} : wpM (isNB true (.int i) .non) h Q ↔ Q (.bl true) h := wp_ok rfl
theorem wp_ix_tup {ws : List Wv} {i : Int} {w : Wv} (e : atI ws i = some w) : wpM (ixM (.tup ws) (.int i)) h Q ↔ Q w h := wp_ok (by unfold ixM; simp only [e])
theorem wp_ix_obj {k : Nat} {ws : List Wv} {i : Int} {w : Wv} (r : rdL h k = some ws) (e : atI ws i = some w) : wpM (ixM (.obj k) (.int i)) h Q ↔ Q w h := wp_ok (by unfold ixM; simp only [r, e])
theorem wp_fld {C f : PySem.Str} {e : EM} : wpM (eFld C f e ρ) h Q ↔ wpM (e ρ) h fun w h1 => wpM (getF f C w) h1 Q := by
  unfold eFld; simp only [wp_bind]
theorem wp_getF {C f : PySem.Str} {i : Nat} {fs : List (PySem.Str × Wv)} {v : Wv} (e : h[i]? = some (.ins C fs)) (l : fs.lookup f = some v) : wpM (getF f C (.obj i)) h Q ↔ Q v h := wp_ok (by unfold getF; simp only [e, if_true, l])
theorem wp_setF {C f : PySem.Str} {i : Nat} {fs : List (PySem.Str × Wv)} {v : Wv} {Q : Unit → Hm → Prop} (e : h[i]? = some (.ins C fs)) (l : fs.length < 1000) : wpM (setF C f (.obj i) v) h Q ↔ Q () (h.set i (.ins C (putW f v fs))) := wp_ok (by unfold setF; simp only [e, true_and, l, if_true])
theorem wp_sFld {C f : PySem.Str} {o e : EM} {Q : Fl × Env → Hm → Prop} : wpM (sFldM C f o e ρ) h Q ↔ wpM (e ρ) h fun v h1 => wpM (o ρ) h1 fun w h2 => wpM (setF C f w v) h2 fun _ h3 => Q (.nx, ρ) h3 := by
  unfold sFldM; simp only [wp_bind, wp_pure]
theorem wp_meth {C m : PySem.Str} {f : FM} {o : EM} {a : AM} : wpM (eMeth C m f o a ρ) h Q ↔ wpM (o ρ) h fun w h1 => wpM (isC C m w) h1 fun _ h2 => wpM (a ρ) h2 fun ws h3 => wpM (f (w :: ws)) h3 Q := by
  unfold eMeth; simp only [wp_bind]
theorem wp_isC {C m : PySem.Str} {i : Nat} {fs : List (PySem.Str × Wv)} {Q : Unit → Hm → Prop} (e : h[i]? = some (.ins C fs)) (l : fs.lookup m = none) : wpM (isC C m (.obj i)) h Q ↔ Q () h := wp_ok (by unfold isC; simp only [e, true_and, l, if_true])
theorem wp_mkC {C : PySem.Str} {f : FM} {ws : List Wv} : wpM (mkC C f ws) h Q ↔ wpM (f (.obj h.length :: ws)) (h ++ [.ins C []]) fun r h1 => r = .non ∧ Q (.obj h.length) h1 := by
  unfold mkC
  show wpM ((f (.obj h.length :: ws)).bind fun r => match r with | .non => M.pure (.obj h.length) | _ => M.no) (h ++ [.ins C []]) Q ↔ _
  rw [wp_bind]
  constructor <;> intro z <;> refine wp_mono z fun r h1 q => ?_
  · cases r with
    | non => exact ⟨rfl, wp_pure.mp q⟩
    | _ => exact (wp_no.mp q).elim
  · obtain ⟨rfl, q⟩ := q
    exact wp_pure.mpr q
theorem wp_sl {e : EM} {l u : OM} : wpM (eSl e l u ρ) h Q ↔ wpM (e ρ) h fun w h1 => wpM (l ρ) h1 fun lo h2 => wpM (u ρ) h2 fun hi h3 => wpM (slM w lo hi) h3 Q := by
  unfold eSl; simp only [wp_bind]
theorem wp_oNone {Q : Option Int → Hm → Prop} : wpM (oNone ρ) h Q ↔ Q none h := wp_ok rfl
theorem wp_oSome {e : EM} {Q : Option Int → Hm → Prop} : wpM (oSome e ρ) h Q ↔ wpM (e ρ) h fun w h1 => ∃ i, w = .int i ∧ Q (some i) h1 := by
  unfold oSome; simp only [wp_bind]
  constructor <;> intro z <;> refine wp_mono z fun x h1 q => ?_
  · cases x with
    | int i => exact ⟨i, rfl, wp_pure.mp q⟩
    | _ => exact (wp_no.mp q).elim
  · obtain ⟨i, rfl, q⟩ := q
    exact wp_pure.mpr q
theorem wp_sl_tup {ws : List Wv} {lo hi : Option Int} : wpM (slM (.tup ws) lo hi) h Q ↔ Q (.tup (cutW ws lo hi)) h := wp_ok rfl
theorem wp_sl_obj {i : Nat} {ws : List Wv} {lo hi : Option Int} (e : rdL h i = some ws) : wpM (slM (.obj i) lo hi) h Q ↔ Q (.obj h.length) (h ++ [.lst (cutW ws lo hi)]) := wp_ok (by unfold slM; simp only [e]; rfl)
theorem wp_lc {i : IM} {vs : List Nat} {g : GM} {t : TM} {e : EM} : wpM (eLc i vs g t e ρ) h Q ↔ wpM (i ρ) h fun src h1 => wpM (lcM src vs g t e ρ (src.cnt + 1) 0 []) h1 fun ws h2 => Q (.obj h2.length) (h2 ++ [.lst ws]) := by
  unfold eLc; simp only [wp_bind, wp_lay]
theorem wp_dc {i : IM} {vs : List Nat} {g : GM} {t : TM} {ek ev : EM} : wpM (eDc i vs g t ek ev ρ) h Q ↔ wpM (i ρ) h fun src h1 => wpM (dcM src vs g t ek ev ρ (src.cnt + 1) 0 []) h1 fun ws h2 => Q (.obj h2.length) (h2 ++ [.dk ws]) := by
  unfold eDc; simp only [wp_bind, wp_lay]
theorem wp_sc {i : IM} {vs : List Nat} {g : GM} {e : EM} : wpM (eSc i vs g e ρ) h Q ↔ wpM (i ρ) h fun src h1 => wpM (scM src vs g e ρ (src.cnt + 1) 0 []) h1 fun ws h2 => Q (.obj h2.length) (h2 ++ [.stx ws]) := by
  unfold eSc; simp only [wp_bind, wp_lay]
theorem wp_for {i : IM} {g : GM} {b : SM} {Q : Fl × Env → Hm → Prop} : wpM (sFor i g b ρ) h Q ↔ wpM (i ρ) h fun src h1 => wpM (forM src g b (src.cnt + 1) 0 ρ) h1 Q := by
  unfold sFor; simp only [wp_bind]
theorem wp_iSeq {e : EM} {Q : Src → Hm → Prop} : wpM (iSeqM e ρ) h Q ↔ wpM (e ρ) h fun w h1 => wpM (srcOf w) h1 Q := by
  unfold iSeqM; simp only [wp_bind]
theorem wp_src_tup {ws : List Wv} {Q : Src → Hm → Prop} : wpM (srcOf (.tup ws)) h Q ↔ Q (sT ws) h := wp_ok rfl
theorem wp_src_obj {i : Nat} {ws : List Wv} {Q : Src → Hm → Prop} (e : rdL h i = some ws) : wpM (srcOf (.obj i)) h Q ↔ Q (sL ws.length i) h := wp_ok (by unfold srcOf; simp only [e])
theorem wp_iStr {e : EM} {Q : Src → Hm → Prop} : wpM (iStrM e ρ) h Q ↔ wpM (e ρ) h fun w h1 => ∃ x, w = .str x ∧ Q (sS x) h1 := by
  unfold iStrM; simp only [wp_bind]
  constructor <;> intro z <;> refine wp_mono z fun w h1 q => ?_
  · cases w with
    | str x => exact ⟨x, rfl, wp_pure.mp q⟩
    | _ => exact (wp_no.mp q).elim
  · obtain ⟨x, rfl, q⟩ := q
    exact wp_pure.mpr q
theorem wp_iArgs {f : List Wv → M Src} {a : AM} {Q : Src → Hm → Prop} : wpM (iArgs f a ρ) h Q ↔ wpM (a ρ) h fun ws h1 => wpM (f ws) h1 Q := by
  unfold iArgs; simp only [wp_bind]
theorem wp_rng1 {j : Int} {Q : Src → Hm → Prop} (b : rgB j = true) : wpM (rng1 [.int j]) h Q ↔ Q (sR 0 j.toNat) h := by
  show wpM (if rgB j = true then M.pure (sR 0 j.toNat) else M.no) h Q ↔ _
  rw [if_pos b, wp_pure]
end
end MM

set_option maxRecDepth 100000
set_option maxHeartbeats 4000000
namespace MM
open PySem PySem.Spec PyProof.Rows L2
section
variable {h : Hm} {ρ : Env}

theorem for_wp {src : Src} {g : GM} {b : SM} {its : List Wv} {Q : Fl × Env → Hm → Prop} (J : Nat → Env → Hm → Prop)
    (I : ∀ k ρ h, J k ρ h → src.at_ k h = some its[k]?)
    (step : ∀ k w ρ h, its[k]? = some w → J k ρ h → wpM (g w ρ) h fun ρ1 h1 => wpM (b ρ1) h1 fun r h2 => match r.1 with | .nx => J (k + 1) r.2 h2 | .ct => J (k + 1) r.2 h2 | .bk => Q (.nx, r.2) h2 | .ret w => Q (.ret w, r.2) h2 | .xc x => Q (.xc x, r.2) h2)
    (fin : ∀ ρ h, J its.length ρ h → Q (.nx, ρ) h) : ∀ (n k : Nat) (ρ : Env) (h : Hm), its.length - k < n → k ≤ its.length → J k ρ h → wpM (forM src g b n k ρ) h Q
  | 0, k, _, _, hn, _, _ => absurd hn (Nat.not_lt_zero _)
  | n + 1, k, ρ, h, hn, hk, j => by
    have ia := I k ρ h j
    cases q : its[k]? with
    | none =>
      have : its.length ≤ k := List.getElem?_eq_none_iff.mp q
      have e0 : k = its.length := by omega
      subst e0
      refine ⟨(.nx, ρ), h, ?_, fin ρ h j⟩
      unfold forM
      simp only [ia, q]
    | some w =>
      have kl : k < its.length := (List.getElem?_eq_some_iff.mp q).1
      obtain ⟨ρ1, h1, e1, r, h2, e2, z⟩ := step k w ρ h q j
      have run : ∀ x h3, (match r.1 with | .nx => forM src g b n (k + 1) r.2 | .ct => forM src g b n (k + 1) r.2 | .bk => M.pure (.nx, r.2) | .ret w => M.pure (.ret w, r.2) | .xc x => M.pure (.xc x, r.2)) h2 = .ok x h3 → forM src g b (n + 1) k ρ h = .ok x h3 := by
        intro x h3 e
        unfold forM
        simp only [ia, q]
        rw [bind_run e1, bind_run e2]
        exact e
      obtain ⟨fl, ρ2⟩ := r
      cases fl with
      | nx =>
        obtain ⟨x, h3, e, qq⟩ := for_wp J I step fin n (k + 1) ρ2 h2 (by omega) kl z
        exact ⟨x, h3, run x h3 e, qq⟩
      | ct =>
        obtain ⟨x, h3, e, qq⟩ := for_wp J I step fin n (k + 1) ρ2 h2 (by omega) kl z
        exact ⟨x, h3, run x h3 e, qq⟩
      | bk => exact ⟨_, _, run _ _ rfl, z⟩
      | ret w => exact ⟨_, _, run _ _ rfl, z⟩
      | xc x => exact ⟨_, _, run _ _ rfl, z⟩
theorem lc_wp {src : Src} {vs : List Nat} {g : GM} {t : TM} {e : EM} {its : List Wv} {Q : List Wv → Hm → Prop} (J : Nat → List Wv → Hm → Prop)
    (I : ∀ k acc h, J k acc h → src.at_ k h = some its[k]?) (few : ∀ k acc h, J k acc h → acc.length < sizeLine)
    (step : ∀ k w acc h, its[k]? = some w → J k acc h → wpM (g w (wipeM ρ vs)) h fun ρ1 h1 => wpM (t ρ1) h1 fun b h2 => if b = true then wpM (e ρ1) h2 fun y h3 => J (k + 1) (acc ++ [y]) h3 else J (k + 1) acc h2)
    (fin : ∀ acc h, J its.length acc h → Q acc h) : ∀ (n k : Nat) (acc : List Wv) (h : Hm), its.length - k < n → k ≤ its.length → J k acc h → wpM (lcM src vs g t e ρ n k acc) h Q
  | 0, k, _, _, hn, _, _ => absurd hn (Nat.not_lt_zero _)
  | n + 1, k, acc, h, hn, hk, j => by
    have ia := I k acc h j
    cases q : its[k]? with
    | none =>
      have : its.length ≤ k := List.getElem?_eq_none_iff.mp q
      have e0 : k = its.length := by omega
      subst e0
      refine ⟨acc, h, ?_, fin acc h j⟩
      unfold lcM
      simp only [ia, q]
    | some w =>
      have kl : k < its.length := (List.getElem?_eq_some_iff.mp q).1
      obtain ⟨ρ1, h1, e1, b, h2, e2, z⟩ := step k w acc h q j
      cases b with
      | false =>
        obtain ⟨x, h3, e3, qq⟩ := lc_wp J I few step fin n (k + 1) acc h2 (by omega) kl z
        refine ⟨x, h3, ?_, qq⟩
        unfold lcM
        simp only [ia, q]
        rw [bind_run e1, bind_run e2]
        exact e3
      | true =>
        rw [if_pos rfl] at z
        obtain ⟨y, h3, e3, z⟩ := z
        obtain ⟨x, h4, e4, qq⟩ := lc_wp J I few step fin n (k + 1) (acc ++ [y]) h3 (by omega) kl z
        refine ⟨x, h4, ?_, qq⟩
        unfold lcM
        simp only [ia, q]
        rw [bind_run e1, bind_run e2, if_pos rfl, bind_run e3, if_pos (few k acc h j)]
        exact e4
theorem lc_const {src : Src} {vs : List Nat} {g : GM} {t : TM} {e : EM} {its : List Wv} {Q : List Wv → Hm → Prop} (B : Wv → Bool) (f : Wv → Wv)
    (I : ∀ k, src.at_ k h = some its[k]?) (hc : src.cnt = its.length) (few : its.length < 1000000)
    (step : ∀ w ∈ its, wpM (g w (wipeM ρ vs)) h fun ρ1 h1 => h1 = h ∧ wpM (t ρ1) h fun b h2 => h2 = h ∧ b = B w ∧ (B w = true → wpM (e ρ1) h fun y h3 => h3 = h ∧ y = f w)) :
    wpM (lcM src vs g t e ρ (src.cnt + 1) 0 []) h Q ↔ Q ((its.filter B).map f) h := by
  have main : wpM (lcM src vs g t e ρ (src.cnt + 1) 0 []) h fun ws h1 => ws = (its.filter B).map f ∧ h1 = h := by
    refine lc_wp (fun k acc h1 => h1 = h ∧ acc = ((its.take k).filter B).map f ∧ k ≤ its.length) (its := its) (fun k acc h1 z => by rw [z.1]; exact I k) (fun k acc h1 z => ?_) (fun k w acc h1 q z => ?_) (fun acc h1 z => ⟨?_, z.1⟩) _ 0 [] h (by omega) (Nat.zero_le _) ⟨rfl, by simp, Nat.zero_le _⟩
    · rw [z.2.1, List.length_map, sizeLine_eq]
      have := List.length_filter_le B (its.take k)
      rw [List.length_take] at this
      omega
    · obtain ⟨rfl, rfl, kl⟩ := z
      have wm := List.mem_of_getElem? q
      have kl := (List.getElem?_eq_some_iff.mp q).1
      have et : its.take (k + 1) = its.take k ++ [w] := by
        rw [List.take_succ, q]; rfl
      refine wp_mono (step w wm) fun ρ1 h2 z => ?_
      obtain ⟨rfl, z⟩ := z
      refine wp_mono z fun b h3 z => ?_
      obtain ⟨rfl, rfl, z⟩ := z
      cases hb : B w with
      | false =>
        rw [if_neg Bool.false_ne_true]
        exact ⟨rfl, by rw [et, List.filter_append, List.filter_cons_of_neg (by rw [hb]; exact Bool.false_ne_true)]; simp, kl⟩
      | true =>
        rw [if_pos rfl]
        refine wp_mono (z hb) fun y h4 z => ?_
        obtain ⟨rfl, rfl⟩ := z
        exact ⟨rfl, by rw [et, List.filter_append, List.filter_cons_of_pos hb, List.map_append]; rfl, kl⟩
    · rw [z.2.1, List.take_of_length_le (Nat.le_refl _)]
  obtain ⟨ws, h1, e1, rfl, rfl⟩ := main
  exact wp_ok e1
theorem wp_all {i : Nat} {ws : List Wv} {bs : List Bool} {Q : Wv → Hm → Prop} (e : rdL h i = some ws) (eb : ws.mapM blW = some bs) : wpM (allM [.obj i]) h Q ↔ Q (.bl (bs.all id)) h := wp_ok (by unfold allM quant; simp only [e, eb])
theorem mapM_bl (bs : List Bool) : (bs.map Wv.bl).mapM blW = some bs := by
  induction bs with
  | nil => rfl
  | cons b bs ih => rw [List.map_cons, List.mapM_cons, ih]; rfl
theorem rdL_last {h : Hm} {ws : List Wv} : rdL (h ++ [.lst ws]) h.length = some ws := by
  have := rdL_new (h := h) (ws := ws) []
  rwa [List.append_nil] at this
end
end MM

set_option maxRecDepth 100000
set_option maxHeartbeats 4000000

namespace MM
open PySem PySem.Spec PyProof.Rows L2

def pairOf : Wv → Option (Key × Wv)
  | .tup [k, v] => (keyOf k).map fun q => (q, v)
  | _ => none
def dictP : FM := fun ws h => match ws with
  | [.obj i] => match rdL h i with
    | some xs => match xs.mapM pairOf with
      | some kvs => lay (.dk (mergeKW [] kvs)) h
      | none => .no
    | none => .no
  | _ => .no
section
variable {X : Cx}
end

inductive HitD (K : PySem.W.Frag) (H : Hp) (ls : List (Key × V)) : List (Key × V) → Bool → Prop
  | nil : HitD K H ls [] true
  | miss {k : Key} {v : V} {r : List (Key × V)} (e : valV ls k = none) : HitD K H ls ((k, v) :: r) false
  | hit {k : Key} {v u : V} {r : List (Key × V)} {d d' : PyData} {b : Bool} (e : valV ls k = some u) (p : Dp K H v d) (q : Dp K H u d') (sd : SeqAt.shaped d = true) (sd' : SeqAt.shaped d' = true) (m : HitD K H ls r b) : HitD K H ls ((k, v) :: r) (PyData.eqv d d' && b)
theorem HitD.run {X : Cx} {pins : List (Addr × Obj)} {σ : L2.St} {H : Hp} {s : Shared} {A : Around} (I : Inv X pins σ H s) (hu : A.in1.units + 64 < cLine) {ls : List (Key × V)} {vb : List (Key × Value)} (rb : KV ls vb) {ks : List (Key × V)} {b : Bool} (m : HitD X.K H ls ks b) :
    ∀ {va : List (Key × Value)}, KV ks va → PySem.W.KeqHits A.in1 s vb va b := by
  induction m with
  | nil => intro va ra; cases ra; exact .nil
  | @miss k v r e =>
    intro va ra
    cases ra with
    | @cons p q ps qs h t =>
      obtain ⟨k', x⟩ := q
      obtain ⟨h1, h2⟩ := h
      have h1 : k = k' := h1
      subst h1
      refine .miss ?_
      have z := rb.val k
      rw [e] at z
      cases y : valueAt vb k with
      | none => rfl
      | some w => rw [y] at z; exact z.elim
  | @hit k v u r d d' b e p q sd sd' m ih =>
    intro va ra
    cases ra with
    | @cons p' q' ps qs h t =>
      obtain ⟨k', x⟩ := q'
      obtain ⟨h1, h2⟩ := h
      have h1 : k = k' := h1
      subst h1
      have z := rb.val k
      rw [e] at z
      obtain ⟨y, hy, ry⟩ := z.some_of
      obtain ⟨as, r1⟩ := Dp.reads I d v x p h2
      obtain ⟨bs, r2⟩ := Dp.reads I d' u y q ry
      exact .hit hy (PySem.W.keq_at r1 r2 sd sd' hu) (ih t)
def rEqK (neg : Bool) (K : PySem.W.Frag) : R2 := fun x y H Q => ∃ a b ks ls r, x = .ref a ∧ y = .ref b ∧ H a = some (.dK ks) ∧ H b = some (.dK ls) ∧ (ks.length = ls.length → HitD K H ls ks r) ∧ Q (.bl (if neg then !(ks.length == ls.length && r) else (ks.length == ls.length && r))) H
section
variable {X : Cx}
end
def hitsW (h : Hm) (kb : List (Key × Wv)) : List (Key × Wv) → Option Bool
  | [] => some true
  | (k, v) :: r => match valW kb k with
    | none => some false
    | some u => match dat h 50 v, dat h 50 u, hitsW h kb r with
      | some d, some d', some b => if (SeqAt.shaped d && SeqAt.shaped d') = true then some (PyData.eqv d d' && b) else none
      | _, _, _ => none
def dkEq (h : Hm) (ka kb : List (Key × Wv)) : Option Bool := if ka.length = kb.length then hitsW h kb ka else some false
def dkOf (h : Hm) : Wv → Option (List (Key × Wv))
  | .obj i => match h[i]? with
    | some (.dk kvs) => some kvs
    | _ => none
  | _ => none
def eqK (neg : Bool) : F2 := fun a b h => match dkOf h a, dkOf h b with
  | some ka, some kb => match dkEq h ka kb with
    | some r => .ok (.bl (if neg then !r else r)) h
    | none => .no
  | _, _ => .no
section
variable {X : Cx} {a b : Expr} {pos : Pos} {ma mb : EM}
end
end MM

set_option maxRecDepth 100000
set_option maxHeartbeats 4000000
namespace MM
open PySem PySem.Spec PyProof.Rows L2

section
variable {prog : Program} {w : World} {A : Around} {E : Value → Shared → Prop} {s : Shared}
end
def rMax2 (K : PySem.W.Frag) : List V → Hp → VK → Prop := fun xs H Q => ∃ x y d e, xs = [x, y] ∧ Dp K H x d ∧ Dp K H y e ∧ SeqAt.shaped d = true ∧ SeqAt.shaped e = true ∧ PySem.W.AlikeAll [d, e] ∧ Q (if PySem.W.dataLt d e = true then y else x) H
def alB (d e : PyData) : Bool := PySem.W.alike d d && PySem.W.alike d e && PySem.W.alike e d && PySem.W.alike e e && !(match d with | .none => true | _ => false) && !(match e with | .none => true | _ => false)
def maxD2 : FM := fun ws h => match ws with
  | [a, b] => match dat h 50 a, dat h 50 b with
    | some d, some e => if (SeqAt.shaped d && SeqAt.shaped e && alB d e) = true then .ok (if PySem.W.dataLt d e = true then b else a) h else .no
    | _, _ => .no
  | _ => .no

def isIns (C : PySem.Str) (w : Wv) (h : Hm) : Bool := match w with
  | .obj i => match h[i]? with
    | some (.ins D _) => decide (D = C)
    | _ => false
  | _ => false
def ownEq (C : PySem.Str) (f : FM) : F2 := fun a b h => if (isIns C a h && isIns C b h) = true then ((f [a, b]).bind fun r => match r with | .bl k => M.pure (.bl k) | _ => M.no) h else .no
structure Ef (K : PySem.W.Frag) (mg : PySem.Str → Option Value) (C : PySem.Str) : Prop where
  ex : ∀ a, mg C = some (.ref a) → ∃ f, PySem.W.findIn K (.ref a) "__eq__" = some (some (.ref f))
section
variable {X : Cx} {a b : Expr} {pos : Pos} {ma mb : EM} {C : PySem.Str} {k : Nat} {f : FM}
def isiC (C : PySem.Str) : FM := fun ws h => match ws with
  | [a, .glob D] => if (decide (D = C) && isIns C a h) = true then .ok (.bl true) h else .no
  | _ => .no
structure Ic (K : PySem.W.Frag) (mg : PySem.Str → Option Value) (C : PySem.Str) : Prop where
  ex : ∃ a, mg C = some (.ref a) ∧ C8.InsC K a
end
end MM

set_option maxRecDepth 100000
set_option maxHeartbeats 4000000

namespace MM
open PySem PySem.Spec PyProof.Rows L2
open AutoSeq1 (wpAny_loadPart')
open MeetsSeq MeetsSeq2 MeetsSeq3 SeqAt
def DkSame (K : PySem.W.Frag) (H : Hp) (x y : V) : Prop := (∃ a, x = .ref a ∧ y = .ref a) ∨ ∃ a b ks ls, a ≠ b ∧ x = .ref a ∧ y = .ref b ∧ H a = some (.dK ks) ∧ H b = some (.dK ls) ∧ ks.length = ls.length ∧ HitD K H ls ks true
theorem keqP {P : Program} {w : World} {A : Around} {s : Shared} {κ : Type} [DecidableEq κ] {kb ka : List (κ × Value)} {r : Bool} (h : PySem.W.KeqHits A s kb ka r) : PySem.W.KeqHitsP P w A s kb ka r := by
  induction h with
  | nil => exact .nil
  | miss e => exact .miss e
  | hit e p _ ih => exact .hit e p.eqP ih
theorem DkSame.run {X : Cx} {pins : List (Addr × Obj)} {σ : L2.St} {H : Hp} {s : Shared} {A : Around} (I : Inv X pins σ H s) (hu : A.units + 65 < cLine) {x y : V} {v u : Value} (h : DkSame X.K H x y) (rx : RelV x v) (ry : RelV y u) : EqP X.prog X.w A s v u true := by
  rcases h with ⟨a, rfl, rfl⟩ | ⟨a, b, ks, ls, ne, rfl, rfl, ea, eb, hl, hh⟩
  · cases (show v = Value.ref a from rx)
    cases (show u = Value.ref a from ry)
    exact (EqAt.same _).eqP
  · cases (show v = Value.ref a from rx)
    cases (show u = Value.ref b from ry)
    obtain ⟨_, ya, va, ra, da⟩ := (show ObjOk X.prog X.w H s.heap a (.dK ks) from I.hok a _ ea)
    obtain ⟨_, yb, vb, rb, db⟩ := (show ObjOk X.prog X.w H s.heap b (.dK ls) from I.hok b _ eb)
    refine eqP_refs ne fun E Q q => PySem.W.rcP_dicts (knd := mixKind X.prog X.w) (r := true) ya yb da db (by omega) (fun _ => keqP (hh.run I (by show A.units + 1 + 64 < cLine; omega) rb ra)) E Q ?_
    rw [show (va.length == vb.length && true) = true by rw [← ra.length, ← rb.length, hl]; simp]
    exact q
def rNeLK (K : PySem.W.Frag) : R2 := fun x y H Q => ∃ a b xs ys, x = .ref a ∧ y = .ref b ∧ SqL K H a xs ∧ SqL K H b ys ∧ Paired (DkSame K H) xs ys ∧ Q (.bl false) H
def dkSameW (h : Hm) : Wv → Wv → Bool
  | .obj i, .obj j => if i = j then true else match h[i]?, h[j]? with
    | some (.dk ka), some (.dk kb) => decide (ka.length = kb.length) && (match hitsW h kb ka with | some true => true | _ => false)
    | _, _ => false
  | _, _ => false
def allSame (h : Hm) : List Wv → List Wv → Bool
  | [], [] => true
  | a :: as, b :: bs => dkSameW h a b && allSame h as bs
  | _, _ => false
def neLK : F2 := fun a b h => match a, b with
  | .obj i, .obj j => match rdL h i, rdL h j with
    | some xs, some ys => if allSame h xs ys = true then .ok (.bl false) h else .no
    | _, _ => .no
  | _, _ => .no
section
variable {X : Cx} {a b : Expr} {pos : Pos} {ma mb : EM}
end
end MM

set_option maxRecDepth 100000
set_option maxHeartbeats 4000000
namespace MM
open PySem PySem.Spec PyProof.Rows L2

def txKeys (kvs : List (Key × Wv)) : Option (List PySem.Str) := kvs.mapM fun kv => match kv.1 with | .inr x => some x | .inl _ => none
def sortDk : FM := fun ws h => match ws with
  | [w] => match dkOf h w with
    | some kvs => match txKeys kvs with
      | some ks => if ks.length < 64 then lay (.lst ((isort sleS ks).map .str)) h else .no
      | none => .no
    | none => .no
  | _ => .no
end MM

set_option maxRecDepth 100000
set_option maxHeartbeats 4000000
namespace GP
open PySem PySem.Spec PyProof.Rows L2 K01 MM
def m_News___eq__ : FM := fun_ 2 2 ((sRet (eAnd (eCall (isiC "News") (aCons (eVar 1) (aCons (eC (.glob "News")) aNil))) (eAnd (eOp (eqB false) (eFld "News" "own_name" (eVar 0)) (eFld "News" "own_name" (eVar 1))) (eOp (eqK false) (eFld "News" "own_entries" (eVar 0)) (eFld "News" "own_entries" (eVar 1)))))))
def m_News_come : FM := fun_ 2 2 ((sSeq (sIf (tNotM (tTru (eCall m_is_word (aCons (eVar 1) aNil)))) sNo sNil)
    (sIf (tOf (eOp (dinM true) (eVar 1) (eFld "News" "own_entries" (eVar 0)))) (sDput (eFld "News" "own_entries" (eVar 0)) (eVar 1) (eTup (aCons (eC (.int 0)) (aCons (eC (.bl false)) aNil)))) sNil)))
def m_News___init__ : FM := fun_ 4 3 ((sSeq (sFldM "News" "own_name" (eVar 0) (eVar 1))
    (sSeq (sFldM "News" "own_entries" (eVar 0) eDnewK)
    (sFor (iSeqM (eOp addM (eLst (aCons (eVar 1) aNil)) (eCall listOf (aCons (eVar 2) aNil)))) (gN 3) (sExpr (eMeth "News" "come" m_News_come (eVar 0) (aCons (eVar 3) aNil)))))))
def m_is_entry : FM := fun_ 3 1 ((sSeq (sIf (tOrM (tNotM (tTru (eCall (isiM .tup) (aCons (eVar 0) (aCons (eC (.raw (.ty "tuple"))) aNil))))) (tOf (eOp (eqB true) (eCall lenM (aCons (eVar 0) aNil)) (eC (.int 2))))) (sRet (eC (.bl false))) sNil)
    (sSeq (sAsg (eVar 0) (gT 2 (gsCons (gN 1) (gsCons (gN 2) gsNil))))
    (sRet (eAnd (eCall m_is_between (aCons (eVar 1) (aCons (eC (.int 0)) (aCons (eC (.int 1000000000000)) aNil)))) (eCall (isiM .bl) (aCons (eVar 2) (aCons (eC (.raw (.ty "bool"))) aNil))))))))
def m_look_at_news : FM := fun_ 5 1 ((sSeq (sIf (tNotM (tTru (eCall (isiM .dict) (aCons (eVar 0) (aCons (eC (.raw (.ty "dict"))) aNil))))) sNo sNil)
    (sSeq (sLock (eVar 0) (sSet 1 (eLc (iKeysW (eVar 0)) [3] (gN 3) (tNotM (tTru (eCall m_is_word (aCons (eVar 3) aNil)))) (eVar 3))))
    (sSeq (sIf (tTru (eVar 1)) sNo sNil)
    (sSeq (sLock (eVar 0) (sSet 2 (eLc (iKeysW (eVar 0)) [4] (gN 4) (tNotM (tTru (eCall m_is_entry (aCons (eOp dgetM (eVar 0) (eVar 4)) aNil)))) (eVar 4))))
    (sIf (tTru (eVar 2)) sNo sNil))))))
def m_News_look_at_known : FM := fun_ 2 2 ((sIf (tOrM (tNotM (tTru (eCall m_is_word (aCons (eVar 1) aNil)))) (tOf (eOp (dinM true) (eVar 1) (eFld "News" "own_entries" (eVar 0))))) sNo sNil))
def m_News_entry : FM := fun_ 2 2 ((sSeq (sExpr (eMeth "News" "look_at_known" m_News_look_at_known (eVar 0) (aCons (eVar 1) aNil)))
    (sRet (eOp dgetM (eFld "News" "own_entries" (eVar 0)) (eVar 1)))))
def m_News_here : FM := fun_ 2 2 ((sRet (eNot (eOp ixM (eMeth "News" "entry" m_News_entry (eVar 0) (aCons (eVar 1) aNil)) (eC (.int 1))))))
def m_News_rise : FM := fun_ 2 1 ((sSeq (sSet 1 (eOp addM (eOp ixM (eOp dgetM (eFld "News" "own_entries" (eVar 0)) (eFld "News" "own_name" (eVar 0))) (eC (.int 0))) (eC (.int 1))))
    (sSeq (sDput (eFld "News" "own_entries" (eVar 0)) (eFld "News" "own_name" (eVar 0)) (eTup (aCons (eVar 1) (aCons (eC (.bl false)) aNil))))
    (sRet (eVar 1)))))
def m_News_take : FM := fun_ 4 2 ((sSeq (sExpr (eCall m_look_at_news (aCons (eVar 1) aNil)))
    (sSeq (sSet 2 (eFld "News" "own_entries" (eVar 0)))
    (sSeq (sFldM "News" "own_entries" (eVar 0) (eLock (eVar 2) (eDc (iKeysW (eVar 2)) [3] (gN 3) tYesM (eVar 3) (eCall maxD2 (aCons (eOp dgetM (eVar 2) (eVar 3)) (aCons (eDget2 (eVar 1) (eVar 3) (eOp dgetM (eVar 2) (eVar 3))) aNil))))))
    (sSeq (sIf (tNotM (tTru (eMeth "News" "here" m_News_here (eVar 0) (aCons (eFld "News" "own_name" (eVar 0)) aNil)))) (sExpr (eMeth "News" "rise" m_News_rise (eVar 0) aNil)) sNil)
    (sRet (eOp (eqK true) (eFld "News" "own_entries" (eVar 0)) (eVar 2))))))))
def m_News_entries : FM := fun_ 2 1 ((sRet (eDc (iSeqM (eCall sortDk (aCons (eFld "News" "own_entries" (eVar 0)) aNil))) [1] (gN 1) tYesM (eVar 1) (eOp dgetM (eFld "News" "own_entries" (eVar 0)) (eVar 1)))))
def m_News_look_at_other : FM := fun_ 2 2 ((sSeq (sExpr (eMeth "News" "look_at_known" m_News_look_at_known (eVar 0) (aCons (eVar 1) aNil)))
    (sIf (tOf (eOp (eqB false) (eVar 1) (eFld "News" "own_name" (eVar 0)))) sNo sNil)))
def m_News_doubt : FM := fun_ 4 2 ((sSeq (sExpr (eMeth "News" "look_at_other" m_News_look_at_other (eVar 0) (aCons (eVar 1) aNil)))
    (sSeq (sAsg (eOp dgetM (eFld "News" "own_entries" (eVar 0)) (eVar 1)) (gT 2 (gsCons (gN 2) (gsCons (gN 3) gsNil))))
    (sSeq (sDput (eFld "News" "own_entries" (eVar 0)) (eVar 1) (eTup (aCons (eVar 2) (aCons (eC (.bl true)) aNil))))
    (sRet (eNot (eVar 3)))))))
end GP

set_option maxRecDepth 100000
set_option maxHeartbeats 4000000

namespace MM
open PySem PySem.Spec PyProof.Rows L2

def txtW : Wv → Option PySem.Str
  | .str x => some x
  | _ => none
def joinW (a : PySem.Str) (w : Wv) : M Wv := fun h => match dsq h w with
  | some us => match us.mapM txtW with
    | some ys => if (ys.map (·.length)).sum + ys.length * a.length ≤ 16777216 then .ok (.str (Txt.join a ys)) h else .no
    | none => .no
  | none => .no
def eJoin (o e : EM) : EM := fun ρ => (o ρ).bind fun x => match x with
  | .str a => (e ρ).bind fun y => joinW a y
  | _ => M.no

def rCntD (K : PySem.W.Frag) : V → List V → Hp → VK → Prop := fun x xs H Q => ∃ (a : Addr) (y : V) (d : PyData) (ds : List PyData), x = .ref a ∧ xs = [y] ∧ Dp K H (.ref a) (.list ds) ∧ Dp K H y d ∧ PyData.plainAll ds = true ∧ d.plain = true ∧ PyData.depthAll ds ≤ 40 ∧ Q (.int (ds.countP fun z => PyData.eqv z d : Nat)) H
def cntM : FT := fun w ws h => match w, ws with
  | .obj i, [x] => match dat h 60 (.obj i), dat h 60 x with
    | some (.list ds), some d => if (PyData.plainAll ds && d.plain && decide (PyData.depthAll ds ≤ 40)) = true then .ok (.int (ds.countP fun z => PyData.eqv z d : Nat)) h else .no
    | _, _ => .no
  | _, _ => .no

def rRepD (K : PySem.W.Frag) : List V → Hp → VK → Prop := fun xs H Q => ∃ (a : Addr) (ds : List PyData), xs = [.ref a] ∧ Dp K H (.ref a) (.list ds) ∧ ds ≠ [] ∧ PyData.showableAll ds = true ∧ PyData.hasDictAll ds = false ∧ (listText (PyData.shownAll ds)).length ≤ sizeLine ∧ PyData.depthAll ds ≤ 40 ∧ Q (.str (listText (PyData.shownAll ds))) H
def repM : FM := fun ws h => match ws with
  | [.obj i] => match dat h 60 (.obj i) with
    | some (.list ds) => if (!ds.isEmpty && PyData.showableAll ds && !PyData.hasDictAll ds && decide ((listText (PyData.shownAll ds)).length ≤ sizeLine) && decide (PyData.depthAll ds ≤ 40)) = true then .ok (.str (listText (PyData.shownAll ds))) h else .no
    | _ => .no
  | _ => .no

section
variable {prog : Program} {w : World} {A : Around} {E : Value → Shared → Prop} {s : Shared} {K : PySem.W.Frag} {x y C f : Addr} {ox oy : Obj} {od od' : Option Obj}
end
structure Nf (K : PySem.W.Frag) (mg : PySem.Str → Option Value) (C : PySem.Str) : Prop where
  ex : ∃ a, mg C = some (.ref a) ∧ PySem.W.mroIn K a (.type "object") = some true ∧ PySem.W.findIn K (.ref a) "__ne__" = some (some (.builtin "object.__ne__"))
def rNeO (c : Cfg) (C : PySem.Str) (f : FM) : R2 := fun x y H Q => ∃ a b Ca dx dy fs gs, c.mg C = some (.ref Ca) ∧ x = .ref a ∧ y = .ref b ∧ H a = some (.ins Ca dx fs) ∧ H b = some (.ins Ca dy gs) ∧ spF c 2 f [x, y] H (fun v H' => ∃ k, v = .bl k ∧ Q (.bl (!k)) H') E0
end MM

set_option maxRecDepth 100000
set_option maxHeartbeats 4000000
namespace MM
open PySem PySem.Spec PyProof.Rows L2
theorem Room.up {k : Nat} {A : Around} (h : Room (k + 1) A) : Room k A.in1 := h.in1
def ownNe (C : PySem.Str) (f : FM) : F2 := fun a b h => if (isIns C a h && isIns C b h) = true then ((f [a, b]).bind fun r => match r with | .bl k => M.pure (.bl (!k)) | _ => M.no) h else .no
section
variable {X : Cx} {a b : Expr} {pos : Pos} {ma mb : EM} {C : PySem.Str} {k : Nat} {f : FM}
end
end MM

set_option maxRecDepth 100000
set_option maxHeartbeats 4000000
namespace GP
open PySem PySem.Spec PyProof.Rows L2 K01 MM
def m_Ring___eq__ : FM := fun_ 2 2 ((sRet (eAnd (eCall (isiC "Ring") (aCons (eVar 1) (aCons (eC (.glob "Ring")) aNil))) (eOp (eqB false) (eFld "Ring" "own_marks" (eVar 0)) (eFld "Ring" "own_marks" (eVar 1))))))
def m_Ring_marks : FM := fun_ 1 1 ((sRet (eCall listOf (aCons (eFld "Ring" "own_marks" (eVar 0)) aNil))))
end GP

set_option maxRecDepth 100000
set_option maxHeartbeats 4000000

namespace MM
open PySem PySem.Spec PyProof.Rows L2

def rLClr : V → List V → Hp → VK → Prop := fun x vs H Q => ∃ l xs, x = .ref l ∧ vs = [] ∧ H l = some (.lst xs) ∧ Q .non (upd H l (.lst []))
theorem mt_lclr {X : Cx} : MtR X "list.clear" rLClr := by
  intro pins s σ H x vs v us Q I rx rv h
  obtain ⟨l, xs, rfl, rfl, hH, q⟩ := h
  cases rx
  have hus := rv.zero
  subst hus
  obtain ⟨z, its, n, r, hl, e⟩ := I.lstM hH
  refine call_meets PySem.F.slot_list_clear ⟨_, e, rfl⟩ PySem.F.entry_list_clear (PySem.F.args_list_clear_1 _) (PySem.AutoSeq1.list_clear_list_0 l its.toArray n (by rw [List.size_toArray]; omega)) ⟨e, ?_⟩
  exact ⟨.non, _, I.lset (its' := []) (t' := s.toks) hH e rfl .nil (Nat.zero_le _), rfl, q⟩
def clrM : FT := fun w ws h => match w, ws with
  | .obj i, [] => match lstOf h i with
    | some _ => .ok .non (h.set i (.lst []))
    | none => .no
  | _, _ => .no
theorem lmt_clr {X : Cx} : LMt (cfg X) "list" clrM rLClr := by
  intro μ h H v vs w ws u h' Q R p r e n
  unfold clrM at e
  split at e
  · next i =>
    split at e
    · next us q =>
      cases e
      obtain ⟨a, rfl, ha⟩ := p.obj_inv
      cases r
      obtain ⟨xs, hx, rr⟩ := lstOf_to R ha q
      exact ⟨a, xs, rfl, rfl, hx, n.put R ha hx (fun _ _ z => by cases z) (fun _ _ g => ⟨_, rfl, .nil⟩) .non⟩
    · cases e
  · cases e
theorem me_lclr {X : Cx} {o : Expr} {apos cpos : Pos} {mo : EM} (ho : ME X o mo) (hbase : attributeBase o "clear" X.env (eval o X.env) = eval o X.env := by rfl) (hline : (apos.endLine == cpos.line) = true := by rfl) : ME X (.Call (.Attribute o "clear" apos) [] [] cpos) (eBm0 isLst clrM mo) :=
  me_bm0 PySem.F.plainAttrs_list PySem.F.slot_list_clear PySem.F.type_list_clear mt_lclr lty_list lmt_clr ho hbase hline

def rRepB : List V → Hp → VK → Prop := fun xs H Q => ∃ b, xs = [.bl b] ∧ Q (.str (if b then "True" else "False")) H
theorem cr_repB {X : Cx} : CallR X (.builtin "repr") rRepB := by
  intro pins s σ H xs us Q I r ⟨b, ex, q⟩
  subst ex
  obtain ⟨u, rfl, ru⟩ := r.one
  cases ru
  exact PySem.P.repr_of_bool ⟨.str _, H, I.tok _, ⟨_, rfl⟩, q⟩
def repB : FM := fun ws h => match ws with
  | [.bl b] => .ok (.str (if b then "True" else "False")) h
  | _ => .no
theorem lc_repB {X : Cx} : LCall (cfg X) repB rRepB := by
  intro μ h H vs ws w h' Q R r e n
  unfold repB at e
  split at e
  · next b =>
    cases e
    obtain ⟨v, rfl, p⟩ := r.one_inv
    exact ⟨b, by rw [p.bl_inv], n.now R (.str _)⟩
  · cases e

def dictC : FM := fun ws h => match ws with
  | [.obj i] => match h[i]? with
    | some (.dk kvs) => lay (.dk kvs) h
    | _ => .no
  | _ => .no

abbrev DK := K01.DK
def insK (k : DK) : List DK → List DK
  | [] => [k]
  | x :: xs => if MS.dlt k x = true then k :: x :: xs else if x = k then x :: xs else x :: insK k xs
def sortK (L : List DK) : List DK := L.foldr insK []
def tupK (k : DK) : Wv := .tup (k.map ofKey)
def d3B (k : DK) : Bool := match k with
  | [.inl _, .inr _, .inl _] => true
  | _ => false
def setM : FM := fun ws h => match ws with
  | [w] => match dsq h w with
    | some us => match us.mapM tkOf with
      | some ks => if ks.length < 64 then lay (.sdt ks) h else .no
      | none => .no
    | none => .no
  | _ => .no
def sortSd : FM := fun ws h => match ws with
  | [.obj i] => match h[i]? with
    | some (.sdt L) => if L.all d3B = true then lay (.lst ((sortK L).map tupK)) h else .no
    | _ => .no
  | _ => .no
end MM

set_option maxRecDepth 100000
set_option maxHeartbeats 4000000

namespace MM
open PySem PySem.Spec PyProof.Rows L2
def sc2in (src : Src) (vs : List Nat) (g : GM) (e : EM) (ρ : Env) : Nat → Nat → List DK → M (List DK)
  | 0, _, _ => M.no
  | n + 1, k, acc => fun h => match src.at_ k h with
    | none => .no
    | some none => .ok acc h
    | some (some w) => ((g w (wipeM ρ vs)).bind fun ρ1 => (e ρ1).bind fun y => fun h => match tkOf y with
          | some x => if acc.length + 1 < 64 then sc2in src vs g e ρ n (k + 1) (x :: acc) h else .no
          | none => .no) h
def sc2out (src : Src) (vs : List Nat) (g : GM) (i1 : IM) (vs1 : List Nat) (g1 : GM) (e : EM) (ρ : Env) : Nat → Nat → List DK → M (List DK)
  | 0, _, _ => M.no
  | n + 1, k, acc => fun h => match src.at_ k h with
    | none => .no
    | some none => .ok acc h
    | some (some w) => ((g w (wipeM ρ vs)).bind fun ρ1 => (i1 ρ1).bind fun src1 => (sc2in src1 vs1 g1 e ρ1 (src1.cnt + 1) 0 acc).bind fun acc' => sc2out src vs g i1 vs1 g1 e ρ n (k + 1) acc') h
def eSc2 (i : IM) (vs : List Nat) (g : GM) (i1 : IM) (vs1 : List Nat) (g1 : GM) (e : EM) : EM := fun ρ => (i ρ).bind fun src => (sc2out src vs g i1 vs1 g1 e ρ (src.cnt + 1) 0 []).bind fun L => lay (.sdt L)
structure RwA (H : Hp) (rows : List MS.Row) (acc : List DK) : Prop where
  mem : ∀ k, k ∈ rows.map (·.2) ↔ k ∈ acc
  len : rows.length ≤ acc.length
  at_ : ∀ p ∈ rows, H p.1 = some (.tup (p.2.map kV))
theorem RwA.mt {c : Cfg} {μ μ' : List Addr} {H H' : Hp} {rows : List MS.Row} {acc : List DK} (r : RwA H rows acc) (g : Gt c μ H μ' H') : RwA H' rows acc := ⟨r.mem, r.len, fun p hp => g.tq _ _ (r.at_ p hp)⟩
theorem RwA.add {H : Hp} {L L' : List MS.Row} {acc : List DK} {a : Addr} {k : DK} (r : RwA H L acc) (ha : H a = some (.tup (k.map kV))) (c1 : k ∈ L.map (·.2) → L' = L) (c2 : k ∉ L.map (·.2) → L'.Perm ((a, k) :: L)) : RwA H L' (k :: acc) := by
  by_cases c : k ∈ L.map (·.2)
  · rw [c1 c]
    refine ⟨fun j => ?_, Nat.le_succ_of_le r.len, r.at_⟩
    rw [r.mem j, List.mem_cons]
    constructor
    · exact .inr
    · rintro (h | h)
      · rw [h]; exact (r.mem k).mp c
      · exact h
  · have pm := c2 c
    refine ⟨fun j => ?_, by rw [pm.length_eq]; exact Nat.succ_le_succ r.len, fun p hp => ?_⟩
    · rw [(pm.map (·.2)).mem_iff, List.map_cons, List.mem_cons, List.mem_cons, r.mem j]
    · rcases List.mem_cons.mp (pm.mem_iff.mp hp) with e | e
      · rw [e]; exact ha
      · exact r.at_ p e
end MM

set_option maxRecDepth 100000
set_option maxHeartbeats 4000000

namespace MM
open PySem PySem.Spec PyProof.Rows L2
structure Oc (K : PySem.W.Frag) (mg : PySem.Str → Option Value) (C : PySem.Str) : Prop where
  ex : ∃ a, mg C = some (.ref a) ∧ PySem.W.isClsIn K a = true ∧ PySem.W.typeIn K (.ref a) = some (.type "type")
section
variable {X : Cx} {C : PySem.Str}
def rIsX (c : Cfg) (C : PySem.Str) : List V → Hp → VK → Prop := fun xs H Q => ∃ Ca x t, c.mg C = some (.ref Ca) ∧ xs = [x, .ref Ca] ∧ TyX c.K H x (.type (Ty.nm t)) ∧ Q (.bl false) H
def isiX (C : PySem.Str) : FM := fun ws h => match ws with
  | [a, .glob D] => if D = C then (if isIns C a h = true then .ok (.bl true) h else match tyW h a with | some _ => .ok (.bl false) h | none => .no) else .no
  | _ => .no

def rOwnT (c : Cfg) (C : PySem.Str) (f : FM) : R2 := fun x y H Q => ∃ a Ca dx fs t, c.mg C = some (.ref Ca) ∧ x = .ref a ∧ H a = some (.ins Ca dx fs) ∧ TyX c.K H y (.type (Ty.nm t)) ∧ spF c 2 f [x, y] H (fun v H' => ∃ k, v = .bl k ∧ Q v H') E0
def ownEqT (C : PySem.Str) (f : FM) : F2 := fun a b h => if isIns C a h = true then (match tyW h b with | some _ => ((f [a, b]).bind fun r => match r with | .bl k => M.pure (.bl k) | _ => M.no) h | none => .no) else .no
variable {a b : Expr} {pos : Pos} {ma mb : EM} {k : Nat} {f : FM}
end
end MM

set_option maxRecDepth 100000
set_option maxHeartbeats 4000000

namespace MM
open PySem PySem.Spec PyProof.Rows L2

def pairsW (xs ys : List Wv) : List Wv := List.zipWith (fun x y => .tup [x, y]) xs ys
def sLL (n i j : Nat) : Src := ⟨n, fun k h => match rdL h i, rdL h j with
  | some xs, some ys => some (pairsW xs ys)[k]?
  | _, _ => none⟩
def zipS (ws : List Wv) : M Src := fun h => match ws with
  | [.tup xs, .tup ys] => .ok (sT (pairsW xs ys)) h
  | [.tup xs, .ptp ys] => .ok (sT (pairsW xs ys)) h
  | [.obj i, .obj j] => match rdL h i, rdL h j with
    | some xs, some ys => .ok (sLL (pairsW xs ys).length i j) h
    | _, _ => .no
  | _ => .no
section
variable {X : Cx}
end

def rLtA (K : PySem.W.Frag) : R2 := fun x y H Q => ∃ d e, Dp K H x d ∧ Dp K H y e ∧ PySem.W.alike d e = true ∧ d ≠ .none ∧ d.depth ≤ 60 ∧ Q (.bl (PySem.W.dataLt d e)) H
def ltD : F2 := fun a b h => match dat h 60 a, dat h 60 b with
  | some d, some e => if (PySem.W.alike d e && decide (d.depth ≤ 60) && !(match d with | .none => true | _ => false)) = true then .ok (.bl (PySem.W.dataLt d e)) h else .no
  | _, _ => .no
section
variable {X : Cx} {a b : Expr} {pos : Pos} {ma mb : EM}
end
end MM

set_option maxRecDepth 100000
set_option maxHeartbeats 4000000

namespace MM
open PySem PySem.Spec PyProof.Rows L2
def rLenO (c : Cfg) (C : PySem.Str) (f : FM) : List V → Hp → VK → Prop := fun xs H Q => ∃ a Ca dx fs, c.mg C = some (.ref Ca) ∧ xs = [.ref a] ∧ H a = some (.ins Ca dx fs) ∧ spF c 1 f [.ref a] H (fun v H' => ∃ n : Nat, v = .int n ∧ (n : Int) < 2 ^ 63 ∧ Q (.int n) H') E0
def lenO (C : PySem.Str) (f : FM) : FM := fun ws h => match ws with
  | [a] => if isIns C a h = true then ((f [a]).bind fun r => fun h => match r with | .int (.ofNat n) => if (n : Int) < 2 ^ 63 then .ok (.int n) h else .no | _ => .no) h else .no
  | _ => .no
end MM

set_option maxRecDepth 100000
set_option maxHeartbeats 4000000

namespace MM
open PySem PySem.Spec PyProof.Rows L2
open SeqAt
def EqN (K : PySem.W.Frag) (H : Hp) (v u : V) (b : Bool) : Prop := (∃ d d', Dp K H v d ∧ Dp K H u d' ∧ shaped d = true ∧ shaped d' = true ∧ b = PyData.eqv d d') ∨
  ∃ p q ks ls r, p ≠ q ∧ v = .ref p ∧ u = .ref q ∧ H p = some (.dK ks) ∧ H q = some (.dK ls) ∧ (ks.length = ls.length → HitD K H ls ks r) ∧ b = (ks.length == ls.length && r)
theorem EqN.run {X : Cx} {pins : List (Addr × Obj)} {σ : L2.St} {H : Hp} {s : Shared} {A : Around} (I : Inv X pins σ H s) (hu : A.in1.units + 65 < cLine) {x y : V} {v u : Value} {b : Bool} (h : EqN X.K H x y b) (rx : RelV x v) (ry : RelV y u) : EqP X.prog X.w A.in1 s v u b := by
  rcases h with ⟨d, d', hd, hd', sd, sd', rfl⟩ | ⟨p, q, ks, ls, r, ne, rfl, rfl, ep, eq, hh, rfl⟩
  · obtain ⟨as, r1⟩ := Dp.reads I d x v hd rx
    obtain ⟨bs, r2⟩ := Dp.reads I d' y u hd' ry
    exact (PySem.W.keq_at r1 r2 sd sd' (by omega)).eqP
  · cases (show v = Value.ref p from rx)
    cases (show u = Value.ref q from ry)
    obtain ⟨_, ya, va, ra, da⟩ := (show ObjOk X.prog X.w H s.heap p (.dK ks) from I.hok p _ ep)
    obtain ⟨_, yb, vb, rb, db⟩ := (show ObjOk X.prog X.w H s.heap q (.dK ls) from I.hok q _ eq)
    refine eqP_refs ne fun E Q z => PySem.W.rcP_dicts (knd := mixKind X.prog X.w) (r := r) ya yb da db (by omega) (fun l => keqP ((hh (by rw [ra.length, rb.length]; exact l)).run I (by show A.in1.units + 1 + 64 < cLine; omega) rb ra)) E Q ?_
    rw [← ra.length, ← rb.length]
    exact z
inductive HitN (K : PySem.W.Frag) (H : Hp) (ls : List (Key × V)) : List (Key × V) → Bool → Prop
  | nil : HitN K H ls [] true
  | miss {k : Key} {v : V} {r : List (Key × V)} (e : valV ls k = none) : HitN K H ls ((k, v) :: r) false
  | hit {k : Key} {v u : V} {r : List (Key × V)} {e' b : Bool} (e : valV ls k = some u) (p : EqN K H v u e') (m : HitN K H ls r b) : HitN K H ls ((k, v) :: r) (e' && b)
theorem HitN.run {X : Cx} {pins : List (Addr × Obj)} {σ : L2.St} {H : Hp} {s : Shared} {A : Around} (I : Inv X pins σ H s) (hu : A.in1.units + 65 < cLine) {ls : List (Key × V)} {vb : List (Key × Value)} (rb : KV ls vb) {ks : List (Key × V)} {b : Bool} (m : HitN X.K H ls ks b) :
    ∀ {va : List (Key × Value)}, KV ks va → PySem.W.KeqHitsP X.prog X.w A.in1 s vb va b := by
  induction m with
  | nil => intro va ra; cases ra; exact .nil
  | @miss k v r e =>
    intro va ra
    match va, ra with
    | (k', x) :: qs, .cons ⟨h1, h2⟩ t =>
      have h1 : k = k' := h1
      subst h1
      have z := rb.val k
      rw [e] at z
      exact .miss (by cases y : valueAt vb k with
        | none => rfl
        | some w => rw [y] at z; exact z.elim)
  | @hit k v u r e' b e p m ih =>
    intro va ra
    match va, ra with
    | (k', x) :: qs, .cons ⟨h1, h2⟩ t =>
      have h1 : k = k' := h1
      subst h1
      have z := rb.val k
      rw [e] at z
      obtain ⟨y, hy, ry⟩ := z.some_of
      exact .hit hy (p.run I hu h2 ry) (ih t)
def rEqN (K : PySem.W.Frag) : R2 := fun x y H Q => ∃ a b ks ls r, x = .ref a ∧ y = .ref b ∧ H a = some (.dK ks) ∧ H b = some (.dK ls) ∧ (ks.length = ls.length → HitN K H ls ks r) ∧ Q (.bl (ks.length == ls.length && r)) H
def eqvN (h : Hm) (v u : Wv) : Option Bool := match dkOf h v, dkOf h u with
  | some ka, some kb => match v, u with
    | .obj i, .obj j => if i = j then none else dkEq h ka kb
    | _, _ => none
  | _, _ => match dat h 50 v, dat h 50 u with
    | some d, some d' => if (shaped d && shaped d') = true then some (PyData.eqv d d') else none
    | _, _ => none
def hitsN (h : Hm) (kb : List (Key × Wv)) : List (Key × Wv) → Option Bool
  | [] => some true
  | (k, v) :: r => match valW kb k with
    | none => some false
    | some u => match eqvN h v u, hitsN h kb r with
      | some e, some b => some (e && b)
      | _, _ => none
def eqDD : F2 := fun a b h => match dkOf h a, dkOf h b with
  | some ka, some kb => if ka.length = kb.length then (match hitsN h kb ka with | some r => .ok (.bl r) h | none => .no) else .ok (.bl false) h
  | _, _ => .no
section
variable {X : Cx} {a b : Expr} {pos : Pos} {ma mb : EM}
end
end MM

set_option maxRecDepth 100000
set_option maxHeartbeats 4000000
namespace GP
open PySem PySem.Spec PyProof.Rows L2 K01 MM
def m_Asker_words : FM := fun_ 1 1 ((sRet (eCall sortDk (aCons (eFld "Asker" "own_known" (eVar 0)) aNil))))
def m_Asker_state : FM := fun_ 3 1 ((sSeq (sSet 1 (eCall tupOf (aCons (eLc (iSeqM (eMeth "Asker" "words" m_Asker_words (eVar 0) aNil)) [2] (gN 2) tYesM (eTup (aCons (eVar 2) (aCons (eOp dgetM (eFld "Asker" "own_known" (eVar 0)) (eVar 2)) aNil)))) aNil)))
    (sRet (eTup (aCons (eFld "Asker" "own_name" (eVar 0)) (aCons (eFld "Asker" "own_busy" (eVar 0)) (aCons (eCall tupOf (aCons (eFld "Asker" "own_tellings" (eVar 0)) aNil)) (aCons (eVar 1) aNil))))))))
def m_Asker___eq__ : FM := fun_ 2 2 ((sRet (eAnd (eCall (isiX "Asker") (aCons (eVar 1) (aCons (eC (.glob "Asker")) aNil))) (eOp (eqB false) (eMeth "Asker" "state" m_Asker_state (eVar 0) aNil) (eMeth "Asker" "state" m_Asker_state (eVar 1) aNil)))))
def m_Asker___init__ : FM := fun_ 2 2 ((sSeq (sIf (tNotM (tTru (eCall m_is_word (aCons (eVar 1) aNil)))) sNo sNil)
    (sSeq (sFldM "Asker" "own_name" (eVar 0) (eVar 1))
    (sSeq (sFldM "Asker" "own_known" (eVar 0) eDnewK)
    (sSeq (sFldM "Asker" "own_busy" (eVar 0) (eC .non))
    (sFldM "Asker" "own_tellings" (eVar 0) (eLst aNil)))))))
def m_Asker_known : FM := fun_ 2 2 ((sSeq (sExpr (eCall m_look_at_key (aCons (eVar 1) aNil)))
    (sRet (eDget2 (eFld "Asker" "own_known" (eVar 0)) (eVar 1) (eTup aNil)))))
def m_together : FM := fun_ 3 1 ((sRet (eCall tupOf (aCons (eCall sortSd (aCons (eSc2 (iSeqM (eVar 0)) [1, 2] (gN 1) (iSeqM (eVar 1)) [2] (gN 2) (eVar 2)) aNil)) aNil))))
def m_rises : FM := fun_ 3 1 ((sRet (eCall allM (aCons (eLc (iArgs zipS (aCons (eVar 0) (aCons (eSl (eVar 0) (oSome (eC (.int 1))) oNone) aNil))) [1, 2] (gT 2 (gsCons (gN 1) (gsCons (gN 2) gsNil))) tYesM (eOp ltD (eVar 1) (eVar 2))) aNil))))
def m_is_dot : FM := fun_ 4 1 ((sSeq (sIf (tOrM (tNotM (tTru (eCall (isiM .tup) (aCons (eVar 0) (aCons (eC (.raw (.ty "tuple"))) aNil))))) (tOf (eOp (eqB true) (eCall lenM (aCons (eVar 0) aNil)) (eC (.int 3))))) (sRet (eC (.bl false))) sNil)
    (sSeq (sAsg (eVar 0) (gT 3 (gsCons (gN 1) (gsCons (gN 2) (gsCons (gN 3) gsNil)))))
    (sSeq (sIf (tOrM (tNotM (tTru (eCall m_is_whole (aCons (eVar 1) aNil)))) (tOrM (tNotM (tTru (eCall m_is_whole (aCons (eVar 3) aNil)))) (tNotM (tTru (eCall m_is_word (aCons (eVar 2) aNil)))))) (sRet (eC (.bl false))) sNil)
    (sRet (eAnd (eCh leI leI (eC (.int 1)) (eVar 1) (eC (.int 1000000000000))) (eOp geI (eVar 3) (eC (.int 1)))))))))
def m_is_known : FM := fun_ 2 1 ((sSeq (sIf (tOrM (tNotM (tTru (eCall (isiM .tup) (aCons (eVar 0) (aCons (eC (.raw (.ty "tuple"))) aNil))))) (tNotM (tTru (eCall allM (aCons (eLc (iSeqM (eVar 0)) [1] (gN 1) tYesM (eCall m_is_dot (aCons (eVar 1) aNil))) aNil))))) (sRet (eC (.bl false))) sNil)
    (sRet (eCall m_rises (aCons (eVar 0) aNil)))))
def m_Asker_learn : FM := fun_ 5 3 ((sSeq (sSet 3 (eMeth "Asker" "known" m_Asker_known (eVar 0) (aCons (eVar 1) aNil)))
    (sSeq (sIf (tNotM (tTru (eCall m_is_known (aCons (eVar 2) aNil)))) sNo sNil)
    (sSeq (sSet 4 (eCall m_together (aCons (eLst (aCons (eVar 3) (aCons (eVar 2) aNil))) aNil)))
    (sSeq (sIf (tTru (eVar 4)) (sDput (eFld "Asker" "own_known" (eVar 0)) (eVar 1) (eVar 4)) sNil)
    (sRet (eOp (eqB true) (eVar 4) (eVar 3))))))))
def m_Asker___len__ : FM := fun_ 1 1 ((sRet (eCall lenM (aCons (eFld "Asker" "own_tellings" (eVar 0)) aNil))))
def m_Asker_tellings : FM := fun_ 1 1 ((sRet (eCall listOf (aCons (eFld "Asker" "own_tellings" (eVar 0)) aNil))))
def m_Asker_busy : FM := fun_ 1 1 ((sRet (eFld "Asker" "own_busy" (eVar 0))))
def m_Asker_called : FM := fun_ 1 1 ((sRet (eFld "Asker" "own_name" (eVar 0))))
def m_Asker_twin : FM := fun_ 2 1 ((sSeq (sSet 1 (eCall (mkC "Asker" m_Asker___init__) (aCons (eFld "Asker" "own_name" (eVar 0)) aNil)))
    (sSeq (sFldM "Asker" "own_known" (eVar 1) (eCall dictC (aCons (eFld "Asker" "own_known" (eVar 0)) aNil)))
    (sSeq (sFldM "Asker" "own_busy" (eVar 1) (eFld "Asker" "own_busy" (eVar 0)))
    (sSeq (sFldM "Asker" "own_tellings" (eVar 1) (eMeth "Asker" "tellings" m_Asker_tellings (eVar 0) aNil))
    (sRet (eVar 1)))))))
def m_Asker_hear : FM := fun_ 6 5 ((sSeq (sIf (tOrM (tNotM (tTru (eCall m_is_whole (aCons (eVar 1) aNil)))) (tOf (eOp (eqB true) (eVar 1) (eFld "Asker" "own_busy" (eVar 0))))) (sRet (eC (.bl false))) sNil)
    (sSeq (sSet 5 (eTup (aCons (eVar 1) (aCons (eVar 2) (aCons (eIf (tOf (eOp (isNB false) (eVar 3) (eC .non))) (eC .non) (eCall tupOf (aCons (eVar 3) aNil))) aNil)))))
    (sSeq (sExpr (eMeth "Asker" "learn" m_Asker_learn (eVar 0) (aCons (eVar 2) (aCons (eVar 4) aNil))))
    (sSeq (sFldM "Asker" "own_busy" (eVar 0) (eC .non))
    (sSeq (sExpr (eBm isLst appM (eFld "Asker" "own_tellings" (eVar 0)) (aCons (eVar 5) aNil)))
    (sRet (eC (.bl true)))))))))
def m_Asker_begin : FM := fun_ 2 2 ((sSeq (sIf (tOf (eOp (isNB true) (eFld "Asker" "own_busy" (eVar 0)) (eC .non))) sNo sNil)
    (sFldM "Asker" "own_busy" (eVar 0) (eVar 1))))
def m_Asker_leave_off : FM := fun_ 2 1 ((sSeq (sIf (tOf (eOp (isNB false) (eFld "Asker" "own_busy" (eVar 0)) (eC .non))) sNo sNil)
    (sSeq (sSet 1 (eFld "Asker" "own_busy" (eVar 0)))
    (sSeq (sFldM "Asker" "own_busy" (eVar 0) (eC .non))
    (sRet (eVar 1))))))
end GP

set_option maxRecDepth 100000
set_option maxHeartbeats 4000000

namespace MM
open PySem PySem.Spec PyProof.Rows L2

section
variable {P : Program} {w : World} {H : Hp} {h : Heap} {e C : Addr} {d : Option Addr}
end
section
variable {X : Cx} {pins : List (Addr × Obj)} {σ : L2.St} {H : Hp} {sI s' : Shared} {B : Heap} {a C : Addr} {d : Option Addr}
end

inductive ClsT (N : PySem.Str → Value → Prop) : Expr → List Value → Prop
  | one {x : PySem.Str} {np : Pos} {c : Value} (h : N x c) : ClsT N (.Name x np) [c]
  | tup {es : List Expr} {cs : List Value} {kk : Nat} {tpos : Pos} (h : Paired (fun e c => ∃ x np, e = Expr.Name x np ∧ N x c) es cs) (hl : cs.length ≤ sizeLine) : ClsT N (.Tuple es kk tpos) cs
section
variable {X : Cx} {pins : List (Addr × Obj)} {σ : L2.St} {H : Hp} {s : Shared} {a : Addr} {cls : Value}
end

structure Cl where
  cs : List Value
  sl : Option Nat
  ts : TS
def slotS (σ : L2.St) (v : Option V) : Option Nat → L2.St
  | none => σ
  | some i => σ.set i v
def goneE (D : Ends) (o : Option Nat) : Ends := { nx := fun σ H => D.nx (slotS σ none o) H, rt := D.rt, bk := fun σ H => D.bk (slotS σ none o) H, ct := fun σ H => D.ct (slotS σ none o) H }
def wCl (K : PySem.W.Frag) (Wout : WX) (D : Ends) : List Cl → WX
  | [] => Wout
  | k :: r => fun cls d σ H => ∃ b, PySem.W.exmAny K cls k.cs = some b ∧ (b = true → ∃ C, cls = .ref C ∧ ∀ a, H a = none → k.ts (goneE D k.sl) (slotS σ (some (.ref a)) k.sl) (upd H a (exq a C d))) ∧ (b = false → wCl K Wout D r cls d σ H)
inductive HdR (X : Cx) : List ExceptHandler → List Cl → Prop
  | nil : HdR X [] []
  | as_ {t : Expr} {cs : List Value} {n : PySem.Str} {i : Nat} {ts : TS} {b₀ : Stmt} {suite : List Stmt} {pos' : Pos} {hds : List ExceptHandler} {l : List Cl} (hc : ClsT (Names X) t cs) (hi : X.N[i]? = some n) (hl : X.env.kindOf n = some .local)
      (hsu : ∀ (a : Addr) (pn : List (Addr × Obj)), PSs (X.suite a pn) (b₀ :: suite) ts) (r : HdR X hds l) : HdR X (.ExceptHandler (some t) (some n) (b₀ :: suite) pos' :: hds) (⟨cs, some i, ts⟩ :: l)
  | no {t : Expr} {cs : List Value} {ts : TS} {b₀ : Stmt} {suite : List Stmt} {pos' : Pos} {hds : List ExceptHandler} {l : List Cl} (hc : ClsT (Names X) t cs)
      (hsu : ∀ (a : Addr) (pn : List (Addr × Obj)), PSs (X.suite a pn) (b₀ :: suite) ts) (r : HdR X hds l) : HdR X (.ExceptHandler (some t) none (b₀ :: suite) pos' :: hds) (⟨cs, none, ts⟩ :: l)
section
variable {X : Cx} {body : List Stmt} {h₀ : ExceptHandler} {hds : List ExceptHandler} {l : List Cl} {pos : Pos} {tb : WX → TS} {Wout : WX}
end
end MM

set_option maxRecDepth 100000
set_option maxHeartbeats 4000000

namespace MM
open PySem PySem.Spec PyProof.Rows L2
section
variable {X : Cx} {pins : List (Addr × Obj)} {σ : L2.St}
end
section
variable {X : Cx} {CX : CXT} {k : Nat} {fI C : Addr} {fd : FuncData} {ps : List PySem.Str} {sp : Sp} {E : XK} {x f : PySem.Str} {p pos : Pos} {e : Expr} {te : TE}
def pmQ (C : Addr) (f : PySem.Str) (Q : XK) : List V → Hp → Prop := fun xs H1 => match xs with
  | [v] => ∀ d, H1 d = none → Q (.ref C) (some d) (upd H1 d (exd d [(f, v)]))
  | _ => False
end

section
variable {X : Cx} {CX : CXT} {k : Nat} {f C : Addr} {fd : FuncData} {ps : List PySem.Str} {sp : Sp} {E : L2.St → XK} {x m : PySem.Str} {p pos apos : Pos} {e o : Expr} {es : List Expr} {ta : TE} {t : TA}
def tMethS (C : Addr) (m : PySem.Str) (sp : Sp) (E : L2.St → XK) (ta : TE) (t : TA) : TE := fun σ H Q => ta σ H fun x H1 => ∃ a dx fs, x = .ref a ∧ H1 a = some (.ins C dx fs) ∧ fs.lookup m = none ∧ t σ H1 fun vs H2 => sp (x :: vs) H2 Q (E σ)
def tMakeS (C : Addr) (sp : Sp) (E : L2.St → XK) (t : TA) : TE := fun σ H Q => t σ H fun vs H1 => ∀ x dx, H1 x = none → H1 dx = none → dx ≠ x → sp (.ref x :: vs) (upd (upd H1 dx (.own x)) x (.ins C dx [])) (fun v H2 => v = .non ∧ Q (.ref x) H2) (E σ)
end

section
variable {X : Cx} {pins : List (Addr × Obj)} {σ : L2.St} {H : Hp} {s : Shared} {a C : Addr}
def XqAt (H : Hp) (a C : Addr) : Prop := H a = some (exq a C none) ∨ ∃ dx fs, H a = some (exq a C (some dx)) ∧ H dx = some (exd dx fs)
def rIsQ (K : PySem.W.Frag) : List V → Hp → VK → Prop := fun xs H Q => ∃ (a C : Addr) (bm : List Value) (cv : Value) (c : V), xs = [.ref a, c] ∧ XqAt H a C ∧ ExK K C bm ∧ (∀ u, RelV c u → u = cv) ∧ IsCl K cv ∧ Q (.bl ((Value.ref C :: bm).contains cv)) H
def tXq (K : PySem.W.Frag) (f : PySem.Str) (te : TE) : TE := fun σ H Q => te σ H fun x H1 => ∃ (a C dx : Addr) (fs : List (PySem.Str × V)) (v : V) (bm : List Value), x = .ref a ∧ H1 a = some (exq a C (some dx)) ∧ H1 dx = some (exd dx fs) ∧ fs.lookup f = some v ∧ ExK K C bm ∧ PySem.W.findIn K (.ref C) f = some none ∧ Q v H1
end
end MM

set_option maxRecDepth 100000
set_option maxHeartbeats 4000000

namespace MM
open PySem PySem.Spec PyProof.Rows L2

def wpB {α : Type} (m : M α) (h : Hm) (Q : α → Hm → Prop) (R : Ex → Hm → Prop) : Prop := match m h with
  | .ok a h1 => Q a h1
  | .ex x h1 => R x h1
  | .no => False
section
variable {α β : Type} {h : Hm} {Q : α → Hm → Prop} {R : Ex → Hm → Prop}
theorem wpB_bind {m : M α} {f : α → M β} {Q : β → Hm → Prop} : wpB (m.bind f) h Q R ↔ wpB m h (fun a h1 => wpB (f a) h1 Q R) R := by
  unfold wpB M.bind
  cases m h <;> exact Iff.rfl
theorem wpB_pure {a : α} : wpB (M.pure a) h Q R ↔ Q a h := Iff.rfl
def nr (m : M α) : M α := fun h => match m h with
  | .ok a h1 => .ok a h1
  | _ => .no
theorem wpB_nr {m : M α} : wpB (nr m) h Q R ↔ wpM m h Q := by
  unfold wpB nr wpM
  cases e : m h with
  | ok a h1 => exact ⟨fun q => ⟨a, h1, rfl, q⟩, fun ⟨_, _, z, q⟩ => by cases z; exact q⟩
  | ex x h1 => exact ⟨fun q => q.elim, fun ⟨_, _, z, q⟩ => by cases z⟩
  | no => exact ⟨fun q => q.elim, fun ⟨_, _, z, q⟩ => by cases z⟩
theorem wp_B {m : M α} : wpM m h Q ↔ wpB m h Q fun _ _ => False := by
  unfold wpB wpM
  cases e : m h with
  | ok a h1 => exact ⟨(fun ⟨_, _, z, q⟩ => by cases z; exact q), fun q => ⟨a, h1, rfl, q⟩⟩
  | ex x h1 => exact ⟨(fun ⟨_, _, z, q⟩ => by cases z), fun q => q.elim⟩
  | no => exact ⟨(fun ⟨_, _, z, q⟩ => by cases z), fun q => q.elim⟩
theorem wp_nr {m : M α} : wpM (nr m) h Q ↔ wpM m h Q := by rw [wp_B, wpB_nr]
end

def RpX (c : Cfg) (μ : List Addr) (x : Ex) (cls : Value) (d : Option Addr) : Prop := ∃ Ca, c.mg x.C = some (.ref Ca) ∧ cls = .ref Ca ∧ DxAt μ x.d d
def Nxx (c : Cfg) (μ : List Addr) (H : Hp) (h' : Hm) (x : Ex) (E : XK) : Prop := ∀ μ' H' cls d, Go c μ H μ' H' → Rel c μ' h' H' → RpX c μ' x cls d → E cls d H'
theorem Nxx.after {c : Cfg} {μ μ1 : List Addr} {H H1 : Hp} {h' : Hm} {x : Ex} {E : XK} (n : Nxx c μ H h' x E) (g : Go c μ H μ1 H1) : Nxx c μ1 H1 h' x E := fun μ' H' cls d g' r p => n μ' H' cls d (g.trans g') r p
def mEX (c : Cfg) (W : WX) (m : EM) : TE := fun σ H Q => ∃ μ ρ h, At c μ h H σ ρ ∧ wpB (m ρ) h (fun w h' => Nx c μ H h' w Q) fun x h' => Nxx c μ H h' x (WE W σ)
def mTX (c : Cfg) (W : WX) (m : TM) : TT := fun σ H Q => ∃ μ ρ h, At c μ h H σ ρ ∧ wpB (m ρ) h (fun b h' => Nb c μ H h' b Q) fun x h' => Nxx c μ H h' x (WE W σ)
def mAX (c : Cfg) (W : WX) (m : AM) : TA := fun σ H Q => ∃ μ ρ h, At c μ h H σ ρ ∧ wpB (m ρ) h (fun ws h' => Na c μ H h' ws Q) fun x h' => Nxx c μ H h' x (WE W σ)
def GoesX (c : Cfg) (W : WX) (D : Ends) (fl : Fl) (μ : List Addr) (σ : L2.St) (H : Hp) : Prop := match fl with
  | .nx => D.nx σ H
  | .ret w => ∀ v, Rp c μ H v w → D.rt v H
  | .bk => D.bk σ H
  | .ct => D.ct σ H
  | .xc x => ∀ cls d, RpX c μ x cls d → W cls d σ H
def NsX (c : Cfg) (W : WX) (μ : List Addr) (H : Hp) (h' : Hm) (fl : Fl) (ρ' : Env) (D : Ends) : Prop := ∀ μ' σ' H', Go c μ H μ' H' → At c μ' h' H' σ' ρ' → GoesX c W D fl μ' σ' H'
def mSX (c : Cfg) (W : WX) (m : SM) : TS := fun D σ H => ∃ μ ρ h fl ρ' h', At c μ h H σ ρ ∧ m ρ h = .ok (fl, ρ') h' ∧ NsX c W μ H h' fl ρ' D
section
variable {c : Cfg} {W : WX} {μ μ1 : List Addr} {h h1 h' : Hm} {H H1 : Hp} {σ : L2.St} {ρ ρ' : Env} {fl : Fl} {D : Ends}
theorem NsX.after (n : NsX c W μ H h' fl ρ' D) (g : Go c μ H μ1 H1) : NsX c W μ1 H1 h' fl ρ' D := fun μ' σ' H' g' a => n μ' σ' H' (g.trans g') a
theorem NsX.now (n : NsX c W μ H h' fl ρ' D) (a : At c μ h' H σ ρ') : GoesX c W D fl μ σ H := n μ σ H (Go.refl ..) a
theorem NsX.ex {x : Ex} (n : NsX c W μ H h' (.xc x) ρ D) (A : At c μ h H σ ρ) : Nxx c μ H h' x (WE W σ) := fun μ' H' cls d g R r => n μ' σ H' g (A.go g R) cls d r
end
abbrev CE (X : Cx) (W : WX) (e : Expr) (m : EM) : Prop := PE X e (mEX (cfg X) W m)
abbrev CT (X : Cx) (W : WX) (e : Expr) (m : TM) : Prop := PT X e (mTX (cfg X) W m)
abbrev CW (X : Cx) (W : WX) (e : Expr) (m : TM) : Prop := PW X e (mTX (cfg X) W m)
abbrev CA (X : Cx) (W : WX) (es : List Expr) (m : AM) : Prop := PA X es (mAX (cfg X) W m)
abbrev CS (X : Cx) (W : WX) (st : Stmt) (m : SM) : Prop := PS X st (mSX (cfg X) W m)
abbrev CSs (X : Cx) (W : WX) (st : List Stmt) (m : SM) : Prop := PSs X st (mSX (cfg X) W m)

def nrE (m : EM) : EM := fun ρ => nr (m ρ)
def nrT (m : TM) : TM := fun ρ => nr (m ρ)
def nrA (m : AM) : AM := fun ρ => nr (m ρ)
def nrS (m : SM) : SM := fun ρ h => match m ρ h with
  | .ok (.xc _, _) _ => .no
  | .ok r h1 => .ok r h1
  | _ => .no
section
variable {X : Cx} {W : WX}
abbrev WF : WX := fun _ _ _ _ => False

def spX (c : Cfg) (k : Nat) (m : FM) : Sp := fun vs H Q E => ∃ μ h ws, Rel c μ h H ∧ Rps c μ H vs ws ∧ ws.length = k ∧ wpB (m ws) h (fun w h' => Nx c μ H h' w Q) fun x h' => Nxx c μ H h' x E
def ArityX (j : Nat) (m : FM) : Prop := ∀ ws h, m ws h ≠ .no → ws.length = j
structure DfX (P : Program) (w : World) (K : PySem.W.Frag) (mg : PySem.Str → Option Value) (base : Heap) (k : Nat) (x : PySem.Str) (j : Nat) (m : FM) : Prop where
  ex : ∃ (f : Addr) (fd : FuncData) (ps : List PySem.Str), mg x = some (.ref f) ∧ PySem.W.keepIn K (.ref f) = true ∧ Binds K fd ps [] ∧ FnOk P w K mg base (L2.CX P w) k f fd ps (spX ⟨P, w, K, mg⟩ j m)
structure MfX (P : Program) (w : World) (K : PySem.W.Frag) (mg : PySem.Str → Option Value) (base : Heap) (k : Nat) (C m : PySem.Str) (j : Nat) (f : FM) : Prop where
  ex : ∃ (a fa : Addr) (fd : FuncData) (ps : List PySem.Str), mg C = some (.ref a) ∧ Cls K a ∧ Meth K a m fa ∧ Binds K fd ps [] ∧ FnOk P w K mg base (L2.CX P w) k fa fd ps (spX ⟨P, w, K, mg⟩ j f)
structure CfX (P : Program) (w : World) (K : PySem.W.Frag) (mg : PySem.Str → Option Value) (base : Heap) (k : Nat) (C : PySem.Str) (j : Nat) (f : FM) : Prop where
  ex : ∃ (a fa : Addr) (fd : FuncData) (ps : List PySem.Str), mg C = some (.ref a) ∧ Mk K a fa ∧ Binds K fd ps [] ∧ FnOk P w K mg base (L2.CX P w) k fa fd ps (spX ⟨P, w, K, mg⟩ j f)
theorem fnX_ok {P : Program} {w : World} {K : PySem.W.Frag} {mg : PySem.Str → Option Value} {base : Heap} {k j : Nat} {f : Addr} {fd : FuncData} {ps : List PySem.Str} {m : FM} (F : FnOk P w K mg base (L2.CX P w) k f fd ps (spX ⟨P, w, K, mg⟩ j m)) : FnOk P w K mg base CX0 k f fd ps (spF ⟨P, w, K, mg⟩ j m) := by
  have to : ∀ vs H Q E, spF ⟨P, w, K, mg⟩ j m vs H Q E → spX ⟨P, w, K, mg⟩ j m vs H Q (fun _ _ _ => False) := fun vs H Q E ⟨μ, h, ws, u, h', R, p, l, e, n⟩ => ⟨μ, h, ws, R, p, l, by unfold wpB; rw [e]; exact n⟩
  refine ⟨fun vs H Q E z => F.len _ _ _ _ (to vs H Q E z), fun A outer s H args us vs Q E hr e0 hb r z => codeAny_mono (F.run A outer s H args us vs Q (fun _ _ _ => False) hr e0 hb r (to vs H Q E z)) fun r s' q => ?_⟩
  cases r with
  | ok fl =>
    cases fl with
    | ret u => exact q
    | next => exact q
    | brk => exact q
    | cont => exact q
  | error e =>
    obtain ⟨_, _, _, _, _, _, _, _, _, _, _, _, z⟩ := (show L2.CX P w outer H s (fun _ _ _ => False) e s' from q)
    exact z.elim
theorem DfX.ok {P : Program} {w : World} {K : PySem.W.Frag} {mg : PySem.Str → Option Value} {base : Heap} {k j : Nat} {x : PySem.Str} {m : FM} (d : DfX P w K mg base k x j m) : Df P w K mg base k x j m := by
  obtain ⟨f, fd, ps, h1, h2, h3, F⟩ := d.ex
  exact ⟨f, fd, ps, h1, h2, h3, fnX_ok F⟩
theorem MfX.ok {P : Program} {w : World} {K : PySem.W.Frag} {mg : PySem.Str → Option Value} {base : Heap} {k j : Nat} {C x : PySem.Str} {m : FM} (d : MfX P w K mg base k C x j m) : Mf P w K mg base k C x j m := by
  obtain ⟨a, f, fd, ps, h1, h2, h3, h4, F⟩ := d.ex
  exact ⟨a, f, fd, ps, h1, h2, h3, h4, fnX_ok F⟩
theorem CfX.ok {P : Program} {w : World} {K : PySem.W.Frag} {mg : PySem.Str → Option Value} {base : Heap} {k j : Nat} {C : PySem.Str} {m : FM} (d : CfX P w K mg base k C j m) : Cf P w K mg base k C j m := by
  obtain ⟨a, f, fd, ps, h1, h2, h3, F⟩ := d.ex
  exact ⟨a, f, fd, ps, h1, h2, h3, fnX_ok F⟩

def nrF (f : F2) : F2 := fun a b => nr (f a b)

def tOfX (e : EM) : TM := fun ρ => (e ρ).bind fun w => nr (asB w)
end
end MM

set_option maxRecDepth 100000
set_option maxHeartbeats 4000000
namespace MM
open PySem PySem.Spec PyProof.Rows L2

def sX (m : SM) : SM := fun ρ h => match m ρ h with
  | .ex x h' => .ok (.xc x, ρ) h'
  | r => r
def sIfX (t : TM) (a b : SM) : SM := fun ρ h => match t ρ h with
  | .ok k h1 => (if k = true then a ρ else b ρ) h1
  | .ex x h1 => .ok (.xc x, ρ) h1
  | .no => .no
section
variable {X : Cx} {W : WX}
def nrG (g : GM) : GM := fun w ρ => nr (g w ρ)

structure Xf0 (P : Program) (w : World) (K : PySem.W.Frag) (mg : PySem.Str → Option Value) (base : Heap) (C : PySem.Str) : Prop where
  ex : ∃ (a fI : Addr) (fd : FuncData) (sf : PySem.Str), mg C = some (.ref a) ∧ XMk K a fI ∧ FnOk P w K mg base CX0 1 fI fd [sf] (spI0 a) ∧ ∀ (s' : Shared) (b : Value), BindsTo s' fd ⟨[b], []⟩ [(sf, b)]
structure Xf1 (P : Program) (w : World) (K : PySem.W.Frag) (mg : PySem.Str → Option Value) (base : Heap) (C f : PySem.Str) : Prop where
  ex : ∃ (a fI : Addr) (fd : FuncData) (sf nf : PySem.Str), mg C = some (.ref a) ∧ XMk K a fI ∧ FnOk P w K mg base CX0 1 fI fd [sf, nf] (spI1 a f) ∧ ∀ (s' : Shared) (b v : Value), BindsTo s' fd ⟨[b, v], []⟩ [(sf, b), (nf, v)]
def sRaise0 (C : PySem.Str) : SM := fun ρ h => .ok (.xc ⟨C, none⟩, ρ) h
def sRaise1 (C f : PySem.Str) (e : EM) : SM := fun ρ => (e ρ).bind fun v => fun h => .ok (.xc ⟨C, some h.length⟩, ρ) (h ++ [.xd [(f, v)]])
end

def supT : List (PySem.Str × List PySem.Str) :=
  [("NoVersion", ["HintError", "ValueError"]), ("NoCell", ["HintError", "ValueError"]), ("NoRing", ["HintError", "ValueError"]), ("NoKey", ["HintError", "ValueError"]), ("NoShape", ["HintError", "ValueError"]), ("NoKnown", ["HintError", "ValueError"]),
   ("NoDeed", ["HintError", "ValueError"]), ("NoNews", ["HintError", "ValueError"]), ("NoText", ["HintError", "ValueError"]), ("NoRow", ["HintError", "ValueError"]), ("NoSteps", ["HintError", "ValueError"]), ("NoHouse", ["KeyError", "LookupError"]), ("NoAsker", ["KeyError", "LookupError"]),
   ("NoAsk", ["LookupError"]), ("NoLetter", ["LookupError"]), ("Busy", ["RuntimeError"]), ("Away", ["RuntimeError"]), ("TooMany", ["OverflowError"]), ("NoWorld", ["LookupError"])]
def supM (C D : PySem.Str) : Bool := C == D || ((supT.lookup C).getD []).contains D
def NmV (mg : PySem.Str → Option Value) (D : PySem.Str) (v : Value) : Prop := mg D = some v ∨ (mg D = none ∧ bootBuiltins D = some v ∧ D ≠ "__name__")
def Xt (K : PySem.W.Frag) (mg : PySem.Str → Option Value) (cls : List PySem.Str) (D : PySem.Str) : Prop := ∃ v, NmV mg D v ∧ IsCl K v ∧ ∀ C ∈ cls, ∃ a bm, mg C = some (.ref a) ∧ ExK K a bm ∧ (Value.ref a :: bm).contains v = supM C D
def Xo (K : PySem.W.Frag) (mg : PySem.Str → Option Value) (cls : List PySem.Str) (D : PySem.Str) : Prop := ∃ v bm', mg D = some (.ref v) ∧ ExK K v bm' ∧ ∀ C ∈ cls, ∃ a bm, mg C = some (.ref a) ∧ ExK K a bm ∧ (Value.ref a :: bm).contains (.ref v) = supM C D

structure Hd where
  ns : List PySem.Str
  sl : Option Nat
  b : SM
def slotM (ρ : Env) (w : Option Wv) : Option Nat → Env
  | none => ρ
  | some i => ρ.set i w
def suiteM (k : Hd) (x : Ex) : SM := fun ρ h => match k.b (slotM ρ (some (.obj h.length)) k.sl) (h ++ [.exc x.C x.d]) with
  | .ok (.xc _, _) _ => .no
  | .ok (fl, ρ') h' => .ok (fl, slotM ρ' none k.sl) h'
  | _ => .no
def handM (cls : List PySem.Str) (x : Ex) : List Hd → SM
  | [] => fun ρ h => .ok (.xc x, ρ) h
  | k :: r => if cls.contains x.C then (if k.ns.any (supM x.C) then suiteM k x else handM cls x r) else sNo
def sTry (cls : List PySem.Str) (mb : SM) (hs : List Hd) : SM := fun ρ h => match mb ρ h with
  | .ok (.xc x, ρ1) h1 => handM cls x hs ρ1 h1
  | r => r
inductive HdM (X : Cx) (cls : List PySem.Str) : List ExceptHandler → List Hd → Prop
  | nil : HdM X cls [] []
  | as_ {t : Expr} {ns : List PySem.Str} {n : PySem.Str} {i : Nat} {m : SM} {b₀ : Stmt} {suite : List Stmt} {pos' : Pos} {hds : List ExceptHandler} {l : List Hd} (hc : ∃ cs, ClsT (Names X) t cs ∧ Paired (fun D v => ∃ a, v = Value.ref a ∧ X.mg D = some (.ref a)) ns cs) (hx : ∀ D ∈ ns, Xo X.K X.mg cls D) (hi : X.N[i]? = some n) (hl : X.env.kindOf n = some .local)
      (hsu : ∀ (a : Addr) (pn : List (Addr × Obj)), MSs (X.suite a pn) (b₀ :: suite) m) (r : HdM X cls hds l) : HdM X cls (.ExceptHandler (some t) (some n) (b₀ :: suite) pos' :: hds) (⟨ns, some i, m⟩ :: l)
  | no {t : Expr} {ns : List PySem.Str} {m : SM} {b₀ : Stmt} {suite : List Stmt} {pos' : Pos} {hds : List ExceptHandler} {l : List Hd} (hc : ∃ cs, ClsT (Names X) t cs ∧ Paired (fun D v => ∃ a, v = Value.ref a ∧ X.mg D = some (.ref a)) ns cs) (hx : ∀ D ∈ ns, Xo X.K X.mg cls D)
      (hsu : ∀ (a : Addr) (pn : List (Addr × Obj)), MSs (X.suite a pn) (b₀ :: suite) m) (r : HdM X cls hds l) : HdM X cls (.ExceptHandler (some t) none (b₀ :: suite) pos' :: hds) (⟨ns, none, m⟩ :: l)
section
variable {X : Cx} {W : WX} {cls : List PySem.Str}
def clsOf (c : Cfg) : List Hd → List (List Value) → List Cl
  | k :: r, cs :: t => ⟨cs, k.sl, mS c k.b⟩ :: clsOf c r t
  | _, _ => []
theorem HdM.to {hds : List ExceptHandler} {l : List Hd} (h : HdM X cls hds l) : ∃ css, HdR X hds (clsOf (cfg X) l css) ∧ Paired (fun (k : Hd) cs => Paired (fun D v => ∃ a, v = Value.ref a ∧ X.mg D = some (.ref a)) k.ns cs ∧ ∀ D ∈ k.ns, Xo X.K X.mg cls D) l css := by
  induction h with
  | nil => exact ⟨[], .nil, .nil⟩
  | @as_ t ns n i m b₀ suite pos' hds l hc hx hi hl hsu r ih =>
    obtain ⟨cs, T, p⟩ := hc
    obtain ⟨css, R, q⟩ := ih
    exact ⟨cs :: css, .as_ T hi hl hsu R, .cons ⟨p, hx⟩ q⟩
  | @no t ns m b₀ suite pos' hds l hc hx hsu r ih =>
    obtain ⟨cs, T, p⟩ := hc
    obtain ⟨css, R, q⟩ := ih
    exact ⟨cs :: css, .no T hsu R, .cons ⟨p, hx⟩ q⟩
end

def funX (n k : Nat) (b : SM) : FM := fun ws h => if ws.length = k then (match b (startM n ws) h with
  | .ok (.nx, _) h1 => .ok .non h1
  | .ok (.ret w, _) h1 => .ok w h1
  | .ok (.xc x, _) h1 => .ex x h1
  | _ => .no) else .no
end MM

set_option maxRecDepth 100000
set_option maxHeartbeats 4000000

namespace MM
open PySem PySem.Spec PyProof.Rows L2
structure DfG (P : Program) (w : World) (K : PySem.W.Frag) (mg : PySem.Str → Option Value) (base : Heap) (k : Nat) (x : PySem.Str) (j : Nat) (m : FM) : Prop where
  ex : ∃ (f : Addr) (fd : FuncData) (ps : List PySem.Str), mg x = some (.ref f) ∧ PySem.W.keepIn K (.ref f) = true ∧ Binds K fd ps [] ∧ ps.length = j ∧ ∀ A : Around, Room k A → A.guards = some [] → RunAt P w K mg base CX0 A f fd ps (spF ⟨P, w, K, mg⟩ j m)
section
variable {X : Cx}
end
end MM

set_option maxRecDepth 100000
set_option maxHeartbeats 4000000

namespace MM
open PySem PySem.Spec PyProof.Rows L2
def dclrM : FT := fun w ws h => match w, ws with
  | .obj i, [] => match h[i]? with
    | some (.dk _) => .ok .non (h.set i (.dk []))
    | _ => .no
  | _, _ => .no
def dDrop (w k : Wv) : M Wv := fun h => match w with
  | .obj i => match h[i]?, keyOf k with
    | some (.dk kvs), some y => match valW kvs y with
      | some v => .ok v (h.set i (.dk (dropKW kvs y)))
      | none => .no
    | _, _ => .no
  | _ => .no
def eDpop (d k : EM) : EM := fun ρ => (d ρ).bind fun w => fun h => if isDict h w = true then ((k ρ).bind fun y => dDrop w y) h else .no
def sDdel (d k : EM) : SM := fun ρ => (d ρ).bind fun w => (k ρ).bind fun y => (dDrop w y).bind fun _ => M.pure (.nx, ρ)
section
variable {X : Cx} {o e : Expr} {apos cpos tpos pos : Pos} {md mk : EM}
end
end MM

set_option maxRecDepth 100000
set_option maxHeartbeats 4000000

namespace MM
open PySem PySem.Spec PyProof.Rows L2
def setdM : FT := fun w ws h => match w, ws with
  | .obj i, [k, v] => match h[i]?, keyOf k with
    | some (.dk kvs), some y => if kvs.length < sizeLine then (match valW kvs y with
      | some u => .ok u h
      | none => .ok v (h.set i (.dk (putKW kvs y v)))) else .no
    | _, _ => .no
  | _, _ => .no
end MM

set_option maxRecDepth 100000
set_option maxHeartbeats 4000000

namespace MM
open PySem PySem.Spec PyProof.Rows L2
theorem Rel.more {c : Cfg} {μ : List Addr} {h : Hm} {H H' : Hp} {p : Addr} {o : Ob} {u : HO} (R : Rel c μ h H) (sub : ∀ b v, H b = some v → H' b = some v) (np : H p = none) (hp : H' p = some u) (hu : Gw c μ H (μ ++ [p]) H' → ObjU c (μ ++ [p]) H' p o u) : Go c μ H (μ ++ [p]) H' ∧ Rel c (μ ++ [p]) (h ++ [o]) H' := by
  have gw : Gw c μ H (μ ++ [p]) H' := by
    refine ⟨⟨List.prefix_append _ _, fun a vs z => ?_, fun a vs z => sub a _ z, fun a ob xs _ z => sub a _ z⟩, fun a ob v z => sub a _ z⟩
    rcases z with (z | ⟨ob, z⟩) | z
    · exact .inl (.inl (sub a _ z))
    · exact .inl (.inr ⟨ob, sub a _ z⟩)
    · exact .inr z
  have out : p ∉ μ := fun m => by
    obtain ⟨i, hi⟩ := List.getElem?_of_mem m
    have li := (List.getElem?_eq_some_iff.mp hi).1
    rw [R.len] at li
    obtain ⟨v, e, _⟩ := R.at_ i p _ hi (List.getElem?_eq_getElem li)
    rw [np] at e
    cases e
  refine ⟨⟨gw, fun a v z _ => sub a v z, fun a m n => ?_⟩, ⟨by rw [List.length_append, List.length_append, R.len]; rfl, List.nodup_append.mpr ⟨R.nd, by simp, fun a ha b hb z => by rw [List.mem_singleton.mp hb] at z; rw [z] at ha; exact out ha⟩, fun i a o' ha ho => ?_⟩⟩
  · rcases List.mem_append.mp m with m | m
    · exact absurd m n
    · rw [List.mem_singleton.mp m]; exact np
  · rcases Nat.lt_or_ge i μ.length with l | l
    · rw [List.getElem?_append_left l] at ha
      rw [List.getElem?_append_left (by rw [← R.len]; exact l)] at ho
      obtain ⟨v, ev, r⟩ := R.at_ i a o' ha ho
      exact ⟨v, sub a v ev, r.mv gw⟩
    · have li := (List.getElem?_eq_some_iff.mp ha).1
      rw [List.length_append, List.length_singleton] at li
      obtain rfl : i = μ.length := by omega
      rw [List.getElem?_append_right (Nat.le_refl _), Nat.sub_self] at ha
      rw [R.len, List.getElem?_append_right (Nat.le_refl _), Nat.sub_self] at ho
      cases ha
      cases ho
      exact ⟨u, hp, hu gw⟩
def itemW (kv : Key × Wv) : Wv := .tup [ofKey kv.1, kv.2]
def itemsM (w : Wv) : M Wv := fun h => match w with
  | .obj i => match h[i]? with
    | some (.dk kvs) => lay (.lst (kvs.map itemW)) h
    | _ => .no
  | _ => .no
def eItems (e : EM) : EM := fun ρ => (e ρ).bind itemsM
end MM

set_option maxRecDepth 100000
set_option maxHeartbeats 4000000

namespace MM
open PySem PySem.Spec PyProof.Rows L2
mutual
def flatB : PyData → Bool
  | .list _ => false
  | .dict _ => false
  | .tuple ds => flatAll ds
  | _ => true
def flatAll : List PyData → Bool
  | [] => true
  | d :: ds => flatB d && flatAll ds
end
section
variable {X : Cx} {pins : List (Addr × Obj)} {σ : L2.St} {H : Hp} {s : Shared}
mutual
theorem reads0 (I : Inv X pins σ H s) : ∀ (d : PyData) (v : V) (u : Value), Dp X.K H v d → RelV v u → flatB d = true → Reads s.heap u d []
  | .none, _, _, h, r, _ => by cases h; cases r; exact .none
  | .bool b, _, _, h, r, _ => by cases h; cases r; exact .bool b
  | .int i, _, _, h, r, _ => by cases h; obtain ⟨t, rfl⟩ := r; exact .int i t
  | .str x, _, _, h, r, _ => by cases h; obtain ⟨t, rfl⟩ := r; exact .str x t
  | .list _, _, _, _, _, f => by simp [flatB] at f
  | .dict _, _, _, _, _, f => by simp [flatB] at f
  | .tuple ds, _, _, h, r, f => by
    cases h with
    | tup sq all =>
      cases r
      obtain ⟨its, rv, ⟨o, h1, h2, n, h3⟩, _⟩ := I.tuple sq
      exact .tuple h1 h2 h3 (by simpa using reads0All I ds _ its all rv (by rw [flatB] at f; exact f))
theorem reads0All (I : Inv X pins σ H s) : ∀ (ds : List PyData) (vs : List V) (us : List Value), DpAll X.K H vs ds → Vals vs us → flatAll ds = true → ReadsAll s.heap us ds []
  | [], _, _, h, r, _ => by cases h; cases r; exact .nil
  | d :: ds, _, _, h, r, f => by
    rw [flatAll, Bool.and_eq_true] at f
    cases h with
    | cons h1 h2 =>
      cases r with
      | cons r1 r2 => exact .cons (as := []) (bs := []) (reads0 I d _ _ h1 r1 f.1) (reads0All I ds _ _ h2 r2 f.2)
end
end
end MM

set_option maxRecDepth 100000
set_option maxHeartbeats 4000000

namespace MM
open PySem PySem.Spec PyProof.Rows L2
def kyD : Key → PyData
  | .inl i => .int i
  | .inr x => .str x
section
variable {X : Cx} {pins : List (Addr × Obj)} {σ : L2.St} {H : Hp} {s : Shared}
def rRepK (K : PySem.W.Frag) : List V → Hp → VK → Prop := fun xs H Q => ∃ (a : Addr) (kvs : List (Key × V)) (ds : List PyData), xs = [.ref a] ∧ H a = some (.dK kvs) ∧ DpAll K H (kvs.map (·.2)) ds ∧ flatAll ds = true ∧
  (PyData.dict ((kvs.map fun kv => kyD kv.1).zip ds)).showable = true ∧ (PyData.dict ((kvs.map fun kv => kyD kv.1).zip ds)).depth ≤ 40 ∧ (PyData.dict ((kvs.map fun kv => kyD kv.1).zip ds)).shown.length ≤ sizeLine ∧ Q (.str (PyData.dict ((kvs.map fun kv => kyD kv.1).zip ds)).shown) H
end
end MM

set_option maxRecDepth 100000
set_option maxHeartbeats 4000000
namespace MM
open PySem PySem.Spec PyProof.Rows L2
def dkD (kvs : List (Key × Wv)) (ds : List PyData) : PyData := .dict ((kvs.map fun kv => kyD kv.1).zip ds)
def repK : FM := fun ws h => match ws with
  | [.obj i] => match h[i]? with
    | some (.dk kvs) => match (kvs.map (·.2)).mapM (dat h 40) with
      | some ds => if (flatAll ds && (dkD kvs ds).showable && decide ((dkD kvs ds).depth ≤ 40) && decide ((dkD kvs ds).shown.length ≤ sizeLine)) = true then .ok (.str (dkD kvs ds).shown) h else .no
      | none => .no
    | _ => .no
  | _ => .no
end MM

set_option maxRecDepth 100000
set_option maxHeartbeats 4000000

namespace MM
open PySem PySem.Spec PyProof.Rows L2
def excAt (h : Hm) (i : Nat) : Option PySem.Str := match h[i]? with
  | some (.exc C none) => some C
  | some (.exc C (some j)) => match h[j]? with
    | some (.xd _) => some C
    | _ => none
  | _ => none
def isQo (cls : List PySem.Str) (D : PySem.Str) : FM := fun ws h => match ws with
  | [.obj i, .glob D'] => match excAt h i with
    | some C => if (decide (D' = D) && cls.contains C) = true then .ok (.bl (supM C D)) h else .no
    | none => .no
  | _ => .no
def isQb (cls : List PySem.Str) (T : String) : FM := fun ws h => match ws with
  | [.obj i, .raw (.ty T')] => match excAt h i with
    | some C => if (decide (T' = T) && cls.contains C) = true then .ok (.bl (supM C (PySem.Str.ofString T))) h else .no
    | none => .no
  | _ => .no
section
variable {X : Cx} {cls : List PySem.Str}
end
def getX (f : PySem.Str) (cls : List PySem.Str) (w : Wv) : M Wv := fun h => match w with
  | .obj i => match h[i]? with
    | some (.exc C (some j)) => match h[j]? with
      | some (.xd fs) => match fs.lookup f with
        | some v => if cls.contains C = true then .ok v h else .no
        | none => .no
      | _ => .no
    | _ => .no
  | _ => .no
def eXf (f : PySem.Str) (cls : List PySem.Str) (e : EM) : EM := fun ρ => (e ρ).bind (getX f cls)
def Xn (K : PySem.W.Frag) (mg : PySem.Str → Option Value) (cls : List PySem.Str) (f : PySem.Str) : Prop := ∀ C ∈ cls, ∃ a bm, mg C = some (.ref a) ∧ ExK K a bm ∧ PySem.W.findIn K (.ref a) f = some none

def rRepA (K : PySem.W.Frag) : List V → Hp → VK → Prop := fun xs H Q => (∃ (v : V) (d : PyData), xs = [v] ∧ Dp K H v d ∧ d.showable = true ∧ d.hasDict = false ∧ d.depth ≤ 40 ∧ d.shown.length ≤ sizeLine ∧ Q (.str d.shown) H) ∨ rRepK K xs H Q
def repA : FM := fun ws h => match ws with
  | [w] => match dat h 60 w with
    | some d => if (d.showable && !d.hasDict && decide (d.depth ≤ 40) && decide (d.shown.length ≤ sizeLine)) = true then .ok (.str d.shown) h else .no
    | none => repK ws h
  | _ => .no

def idxM : FT := fun w ws h => match w, ws with
  | .obj i, [x] => match dat h 60 (.obj i), dat h 60 x with
    | some (.list ds), some d => match ds.findIdx? fun z => PyData.eqv z d with
      | some j => if (SeqAt.shaped (.list ds) && SeqAt.shaped d) = true then .ok (.int (j : Nat)) h else .no
      | none => .no
    | _, _ => .no
  | _, _ => .no
end MM

set_option maxRecDepth 100000
set_option maxHeartbeats 4000000

namespace MM
open PySem PySem.Spec PyProof.Rows L2
structure Hn (K : PySem.W.Frag) (mg : PySem.Str → Option Value) (D : Addr) : Prop where
  g : mg "HintError" = some (.ref D)
  kx : ExK K D XK.tVal
  sg : PySem.W.specialIn K (.ref D) "__getattribute__" = some (some (.builtin "type.__getattribute__"))
  rd : PySem.W.readsIn K D (.type "type") = true
  vV : PySem.W.findCls K (.ref D) (.type "type") "__init__" = some (.val (.builtin "ValueError.__init__"))
structure Bn (K : PySem.W.Frag) (mg : PySem.Str → Option Value) (B : String) (id : String) : Prop where
  g : mg (PySem.Str.ofString B) = none
  vV : PySem.W.findCls K (.type B) (.type "type") "__init__" = some (.val (.builtin id))
section
variable {K : PySem.W.Frag} {C D N : Addr} {nm q : PySem.Str} {bs sub : List Value} {sn : List PySem.Str} {ab : Bool} {col : Option Bool} {dd : Option Addr} {k0 k1 k2 k3 k5 : Option Value}
end
structure IF (K : PySem.W.Frag) (C fI : Addr) (fd : FuncData) (qual : PySem.Str) (st : Stmt) : Prop where
  iC : PySem.W.findIn K (.ref C) "__init__" = some (some (.ref fI))
  tI : PySem.W.typeIn K (.ref fI) = some (.type "function")
  fn : Fun K "__init__" qual st fI fd
end MM

set_option maxRecDepth 100000
set_option maxHeartbeats 4000000
namespace MM
open PySem PySem.Spec PyProof.Rows L2

def NmC (X : Cx) (e : Expr) (D : PySem.Str) : Prop := (∃ np, e = Expr.Name D np) ∧ Gl X D ∧ (D == ("__debug__" : PySem.Str)) = false ∧ ∃ a, X.mg D = some (.ref a)

section
variable {h : Hm} {ρ : Env} {R : Ex → Hm → Prop}
theorem wp_sX {m : SM} {Q : Fl × Env → Hm → Prop} : wpM (sX m ρ) h Q ↔ wpB (m ρ) h Q fun x h1 => Q (.xc x, ρ) h1 := by
  unfold wpM wpB sX
  cases e : m ρ h with
  | ok a h1 => exact ⟨(fun ⟨_, _, z, q⟩ => by cases z; exact q), fun q => ⟨_, _, rfl, q⟩⟩
  | ex x h1 => exact ⟨(fun ⟨_, _, z, q⟩ => by cases z; exact q), fun q => ⟨_, _, rfl, q⟩⟩
  | no => exact ⟨(fun ⟨_, _, z, q⟩ => by cases z), fun q => q.elim⟩
theorem wp_sIfX {t : TM} {a b : SM} {Q : Fl × Env → Hm → Prop} : wpM (sIfX t a b ρ) h Q ↔ wpB (t ρ) h (fun k h1 => if k = true then wpM (a ρ) h1 Q else wpM (b ρ) h1 Q) fun x h1 => Q (.xc x, ρ) h1 := by
  unfold wpB sIfX
  cases e : t ρ h with
  | ok k h1 => cases k <;> simp only [wpM, e, if_true, if_false, Bool.false_eq_true]
  | ex x h1 => simp only [wpM, e]; exact ⟨(fun ⟨_, _, z, q⟩ => by cases z; exact q), fun q => ⟨_, _, rfl, q⟩⟩
  | no => simp only [wpM, e]; exact ⟨(fun ⟨_, _, z, q⟩ => by cases z), fun q => q.elim⟩
theorem wpB_expr {e : EM} {Q : Fl × Env → Hm → Prop} : wpB (sExpr e ρ) h Q R ↔ wpB (e ρ) h (fun _ h1 => Q (.nx, ρ) h1) R := by unfold sExpr; simp only [wpB_bind, wpB_pure]
theorem wpB_ret {e : EM} {Q : Fl × Env → Hm → Prop} : wpB (sRet e ρ) h Q R ↔ wpB (e ρ) h (fun w h1 => Q (.ret w, ρ) h1) R := by unfold sRet; simp only [wpB_bind, wpB_pure]
theorem wpB_set {i : Nat} {e : EM} {Q : Fl × Env → Hm → Prop} : wpB (sSet i e ρ) h Q R ↔ wpB (e ρ) h (fun w h1 => Q (.nx, ρ.set i (some w)) h1) R := by unfold sSet; simp only [wpB_bind, wpB_pure]
theorem wpB_nrE {m : EM} {Q : Wv → Hm → Prop} : wpB (nrE m ρ) h Q R ↔ wpM (m ρ) h Q := wpB_nr
theorem wpB_nrT {m : TM} {Q : Bool → Hm → Prop} : wpB (nrT m ρ) h Q R ↔ wpM (m ρ) h Q := wpB_nr
theorem wpB_nrA {m : AM} {Q : List Wv → Hm → Prop} : wpB (nrA m ρ) h Q R ↔ wpM (m ρ) h Q := wpB_nr
theorem wpM_nrE {m : EM} {Q : Wv → Hm → Prop} : wpM (nrE m ρ) h Q ↔ wpM (m ρ) h Q := wp_nr
theorem wp_nrS {m : SM} {Q : Fl × Env → Hm → Prop} : wpM (nrS m ρ) h Q ↔ wpM (m ρ) h fun r h1 => match r.1 with | .xc _ => False | _ => Q r h1 := by
  unfold wpM nrS
  cases e : m ρ h with
  | ok r h1 =>
    obtain ⟨fl, ρ'⟩ := r
    cases fl <;> first
      | exact ⟨(fun ⟨_, _, z, q⟩ => by cases z), fun ⟨_, _, z, q⟩ => by cases z; exact q.elim⟩
      | exact ⟨(fun ⟨_, _, z, q⟩ => by cases z; exact ⟨_, _, rfl, q⟩), fun ⟨_, _, z, q⟩ => by cases z; exact ⟨_, _, rfl, q⟩⟩
  | ex x h1 => exact ⟨(fun ⟨_, _, z, q⟩ => by cases z), fun ⟨_, _, z, q⟩ => by cases z⟩
  | no => exact ⟨(fun ⟨_, _, z, q⟩ => by cases z), fun ⟨_, _, z, q⟩ => by cases z⟩
theorem wp_raise0 {C : PySem.Str} {Q : Fl × Env → Hm → Prop} : wpM (sRaise0 C ρ) h Q ↔ Q (.xc ⟨C, none⟩, ρ) h := wp_ok rfl
theorem wp_raise1 {C f : PySem.Str} {e : EM} {Q : Fl × Env → Hm → Prop} : wpM (sRaise1 C f e ρ) h Q ↔ wpM (e ρ) h fun v h1 => Q (.xc ⟨C, some h1.length⟩, ρ) (h1 ++ [.xd [(f, v)]]) := by
  unfold sRaise1
  rw [wp_bind]
  constructor <;> intro z <;> refine wp_mono z fun v h1 q => ?_
  · exact (wp_ok rfl).mp q
  · exact (wp_ok rfl).mpr q
theorem wpB_aNil {Q : List Wv → Hm → Prop} : wpB (aNil ρ) h Q R ↔ Q [] h := Iff.rfl
theorem wpB_aCons {e : EM} {r : AM} {Q : List Wv → Hm → Prop} : wpB (aCons e r ρ) h Q R ↔ wpB (e ρ) h (fun w h1 => wpB (r ρ) h1 (fun ws h2 => Q (w :: ws) h2) R) R := by unfold aCons; simp only [wpB_bind, wpB_pure]
theorem wpB_call {f : FM} {a : AM} {Q : Wv → Hm → Prop} : wpB (eCall f a ρ) h Q R ↔ wpB (a ρ) h (fun ws h1 => wpB (f ws) h1 Q R) R := by unfold eCall; simp only [wpB_bind]
theorem wpB_meth {C m : PySem.Str} {f : FM} {o : EM} {a : AM} {Q : Wv → Hm → Prop} : wpB (eMeth C m f o a ρ) h Q R ↔ wpB (o ρ) h (fun w h1 => wpB (isC C m w) h1 (fun _ h2 => wpB (a ρ) h2 (fun ws h3 => wpB (f (w :: ws)) h3 Q R) R) R) R := by unfold eMeth; simp only [wpB_bind]
theorem wpB_funX {n k : Nat} {b : SM} {ws : List Wv} {Q : Wv → Hm → Prop} (l : ws.length = k) : wpB (funX n k b ws) h Q R ↔ wpM (b (startM n ws)) h fun r h1 => match r.1 with | .nx => Q .non h1 | .ret w => Q w h1 | .xc x => R x h1 | .bk => False | .ct => False := by
  unfold wpB funX wpM
  rw [if_pos l]
  cases e : b (startM n ws) h with
  | ok r h1 =>
    obtain ⟨fl, ρ'⟩ := r
    cases fl <;> exact ⟨(fun q => ⟨_, _, rfl, q⟩), fun ⟨_, _, z, q⟩ => by cases z; exact q⟩
  | ex x h1 => exact ⟨(fun q => q.elim), fun ⟨_, _, z, q⟩ => by cases z⟩
  | no => exact ⟨(fun q => q.elim), fun ⟨_, _, z, q⟩ => by cases z⟩
theorem wpB_fx1 {n : Nat} {b : SM} {x0 : Wv} {Q : Wv → Hm → Prop} : wpB (funX n 1 b [x0]) h Q R ↔ wpM (b (startM n [x0])) h fun r h1 => match r.1 with | .nx => Q .non h1 | .ret w => Q w h1 | .xc x => R x h1 | .bk => False | .ct => False := wpB_funX rfl
theorem wpB_fx2 {n : Nat} {b : SM} {x0 x1 : Wv} {Q : Wv → Hm → Prop} : wpB (funX n 2 b [x0, x1]) h Q R ↔ wpM (b (startM n [x0, x1])) h fun r h1 => match r.1 with | .nx => Q .non h1 | .ret w => Q w h1 | .xc x => R x h1 | .bk => False | .ct => False := wpB_funX rfl
theorem wpB_fx3 {n : Nat} {b : SM} {x0 x1 x2 : Wv} {Q : Wv → Hm → Prop} : wpB (funX n 3 b [x0, x1, x2]) h Q R ↔ wpM (b (startM n [x0, x1, x2])) h fun r h1 => match r.1 with | .nx => Q .non h1 | .ret w => Q w h1 | .xc x => R x h1 | .bk => False | .ct => False := wpB_funX rfl
theorem wpB_fx4 {n : Nat} {b : SM} {x0 x1 x2 x3 : Wv} {Q : Wv → Hm → Prop} : wpB (funX n 4 b [x0, x1, x2, x3]) h Q R ↔ wpM (b (startM n [x0, x1, x2, x3])) h fun r h1 => match r.1 with | .nx => Q .non h1 | .ret w => Q w h1 | .xc x => R x h1 | .bk => False | .ct => False := wpB_funX rfl
theorem wpB_fx5 {n : Nat} {b : SM} {x0 x1 x2 x3 x4 : Wv} {Q : Wv → Hm → Prop} : wpB (funX n 5 b [x0, x1, x2, x3, x4]) h Q R ↔ wpM (b (startM n [x0, x1, x2, x3, x4])) h fun r h1 => match r.1 with | .nx => Q .non h1 | .ret w => Q w h1 | .xc x => R x h1 | .bk => False | .ct => False := wpB_funX rfl
theorem wpB_fx6 {n : Nat} {b : SM} {x0 x1 x2 x3 x4 x5 : Wv} {Q : Wv → Hm → Prop} : wpB (funX n 6 b [x0, x1, x2, x3, x4, x5]) h Q R ↔ wpM (b (startM n [x0, x1, x2, x3, x4, x5])) h fun r h1 => match r.1 with | .nx => Q .non h1 | .ret w => Q w h1 | .xc x => R x h1 | .bk => False | .ct => False := wpB_funX rfl
theorem wpB_fx7 {n : Nat} {b : SM} {x0 x1 x2 x3 x4 x5 x6 : Wv} {Q : Wv → Hm → Prop} : wpB (funX n 7 b [x0, x1, x2, x3, x4, x5, x6]) h Q R ↔ wpM (b (startM n [x0, x1, x2, x3, x4, x5, x6])) h fun r h1 => match r.1 with | .nx => Q .non h1 | .ret w => Q w h1 | .xc x => R x h1 | .bk => False | .ct => False := wpB_funX rfl
variable {Q : Wv → Hm → Prop}
end
end MM

set_option maxRecDepth 100000
set_option maxHeartbeats 4000000
namespace GP
open PySem PySem.Spec PyProof.Rows L2 K01 MM
def x_Asker___init__ : FM := funX 2 2 ((sSeq (sIfX (nrT (tNotM (tTru (eCall m_is_word (aCons (eVar 1) aNil))))) (sRaise1 "NoAsker" "asker" (eVar 1)) sNil)
    (sSeq (nrS (sFldM "Asker" "own_name" (eVar 0) (eVar 1)))
    (sSeq (nrS (sFldM "Asker" "own_known" (eVar 0) eDnewK))
    (sSeq (nrS (sFldM "Asker" "own_busy" (eVar 0) (eC .non)))
    (nrS (sFldM "Asker" "own_tellings" (eVar 0) (eLst aNil))))))))
def x_look_at_key : FM := funX 1 1 ((sIfX (nrT (tNotM (tTru (eCall m_is_key (aCons (eVar 0) aNil))))) (sRaise0 "NoKey") sNil))
def x_Asker_known : FM := funX 2 2 ((sSeq (sX (sExpr (eCall x_look_at_key (nrA (aCons (eVar 1) aNil)))))
    (nrS (sRet (eDget2 (eFld "Asker" "own_known" (eVar 0)) (eVar 1) (eTup aNil))))))
def x_Asker_learn : FM := funX 5 3 ((sSeq (sX (sSet 3 (eMeth "Asker" "known" x_Asker_known (nrE (eVar 0)) (nrA (aCons (eVar 1) aNil)))))
    (sSeq (sIfX (nrT (tNotM (tTru (eCall m_is_known (aCons (eVar 2) aNil))))) (sRaise0 "NoKnown") sNil)
    (sSeq (nrS (sSet 4 (eCall m_together (aCons (eLst (aCons (eVar 3) (aCons (eVar 2) aNil))) aNil))))
    (sSeq (nrS (sIf (tTru (eVar 4)) (sDput (eFld "Asker" "own_known" (eVar 0)) (eVar 1) (eVar 4)) sNil))
    (nrS (sRet (eOp (eqB true) (eVar 4) (eVar 3)))))))))
def x_Asker_begin : FM := funX 2 2 ((sSeq (sIfX (nrT (tOf (eOp (isNB true) (eFld "Asker" "own_busy" (eVar 0)) (eC .non)))) (sRaise1 "Busy" "what" (eFld "Asker" "own_name" (eVar 0))) sNil)
    (nrS (sFldM "Asker" "own_busy" (eVar 0) (eVar 1)))))
def x_Asker_hear : FM := funX 6 5 ((sSeq (nrS (sIf (tOrM (tNotM (tTru (eCall m_is_whole (aCons (eVar 1) aNil)))) (tOf (eOp (eqB true) (eVar 1) (eFld "Asker" "own_busy" (eVar 0))))) (sRet (eC (.bl false))) sNil))
    (sSeq (nrS (sSet 5 (eTup (aCons (eVar 1) (aCons (eVar 2) (aCons (eIf (tOf (eOp (isNB false) (eVar 3) (eC .non))) (eC .non) (eCall tupOf (aCons (eVar 3) aNil))) aNil))))))
    (sSeq (sX (sExpr (eMeth "Asker" "learn" x_Asker_learn (nrE (eVar 0)) (nrA (aCons (eVar 2) (aCons (eVar 4) aNil))))))
    (sSeq (nrS (sFldM "Asker" "own_busy" (eVar 0) (eC .non)))
    (sSeq (nrS (sExpr (eBm isLst appM (eFld "Asker" "own_tellings" (eVar 0)) (aCons (eVar 5) aNil))))
    (nrS (sRet (eC (.bl true))))))))))
def x_Asker_leave_off : FM := funX 2 1 ((sSeq (sIfX (nrT (tOf (eOp (isNB false) (eFld "Asker" "own_busy" (eVar 0)) (eC .non)))) (sRaise1 "NoAsk" "number" (eC .non)) sNil)
    (sSeq (nrS (sSet 1 (eFld "Asker" "own_busy" (eVar 0))))
    (sSeq (nrS (sFldM "Asker" "own_busy" (eVar 0) (eC .non)))
    (nrS (sRet (eVar 1)))))))
end GP

set_option maxRecDepth 100000
set_option maxHeartbeats 4000000

namespace MM
open PySem PySem.Spec PyProof.Rows L2
def itv (r d : Addr) : HO := .ext fun h => h.get? r = some { cls := .type "dict_items", data := .fields #[.ref d] }
def tItemsV (te : TE) : TE := fun σ H Q => te σ H fun x H1 => ∃ (d : Addr) (kvs : List (Key × V)), x = .ref d ∧ H1 d = some (.dK kvs) ∧ ∀ r, H1 r = none → Q (.ref r) (upd H1 r (itv r d))
section
variable {X : Cx} {e : Expr} {te : TE} {p apos cpos pos : Pos}
end
section
variable {X : Cx} {pins : List (Addr × Obj)} {σ : L2.St} {H : Hp} {s : Shared}
def itemD (kvs : List (Key × V)) (ds : List PyData) : List PyData := List.zipWith (fun (kv : Key × V) d => PyData.tuple [kyD kv.1, d]) kvs ds
def rSI (K : PySem.W.Frag) : List V → Hp → VK → Prop := fun xs H Q => ∃ (r d : Addr) (kvs : List (Key × V)) (vd : List PyData), xs = [.ref r] ∧ H r = some (itv r d) ∧ H d = some (.dK kvs) ∧ kvs.length ≤ 1000 ∧ (∀ H1 : Hp, (∀ b o, H b = some o → H1 b = some o) → DpAll K H1 (kvs.map (·.2)) vd) ∧ flatAll vd = true ∧ sortable (itemD kvs vd) = true ∧
  ∀ (H' : Hp) (p : Addr) (ts : List Addr), (∀ b o, H b = some o → H' b = some o) → H p = none → H' p = some (.lst ((isort dle ((ts.map V.ref).zip (itemD kvs vd))).map (·.1))) → Paired (fun (t : Addr) (q : Key × V) => H' t = some (.tup [kV q.1, q.2])) ts kvs → Q (.ref p) H'
end
end MM

set_option maxRecDepth 100000
set_option maxHeartbeats 4000000
namespace MM
open PySem PySem.Spec PyProof.Rows L2
theorem Rel.sub {c : Cfg} {μ : List Addr} {h : Hm} {H H' : Hp} (R : Rel c μ h H) (sub : ∀ b v, H b = some v → H' b = some v) : Go c μ H μ H' ∧ Rel c μ h H' := by
  have gw : Gw c μ H μ H' := by
    refine ⟨⟨List.prefix_refl _, fun a vs z => ?_, fun a vs z => sub a _ z, fun a ob xs _ z => sub a _ z⟩, fun a ob v z => sub a _ z⟩
    rcases z with (z | ⟨ob, z⟩) | z
    · exact .inl (.inl (sub a _ z))
    · exact .inl (.inr ⟨ob, sub a _ z⟩)
    · exact .inr z
  refine ⟨⟨gw, fun a v z _ => sub a v z, fun a m n => absurd m n⟩, R.len, R.nd, fun i a o ha ho => ?_⟩
  obtain ⟨v, ev, r⟩ := R.at_ i a o ha ho
  exact ⟨v, sub a v ev, r.mv gw⟩
def itemDW (kvs : List (Key × Wv)) (ds : List PyData) : List PyData := List.zipWith (fun (kv : Key × Wv) d => PyData.tuple [kyD kv.1, d]) kvs ds
def sortIM (w : Wv) : M Wv := fun h => match w with
  | .obj i => match h[i]? with
    | some (.dk kvs) => match (kvs.map (·.2)).mapM (dat h 40) with
      | some vd => if (flatAll vd && sortable (itemDW kvs vd) && decide (kvs.length ≤ 1000)) = true then lay (.lst ((isort dle ((kvs.map itemW).zip (itemDW kvs vd))).map (·.1))) h else .no
      | none => .no
    | _ => .no
  | _ => .no
def eSortI (e : EM) : EM := fun ρ => (e ρ).bind sortIM
end MM

set_option maxRecDepth 100000
set_option maxHeartbeats 4000000
namespace GP
open PySem PySem.Spec PyProof.Rows L2 K01 MM
def m_News_twin : FM := fun_ 2 1 ((sSeq (sSet 1 (eCall (mkC "News" m_News___init__) (aCons (eFld "News" "own_name" (eVar 0)) (aCons (eLst aNil) aNil))))
    (sSeq (sFldM "News" "own_entries" (eVar 1) (eMeth "News" "entries" m_News_entries (eVar 0) aNil))
    (sRet (eVar 1)))))
def m_News_called : FM := fun_ 1 1 ((sRet (eFld "News" "own_name" (eVar 0))))
def m_News_leave : FM := fun_ 2 2 ((sSeq (sExpr (eMeth "News" "look_at_other" m_News_look_at_other (eVar 0) (aCons (eVar 1) aNil)))
    (sDdel (eFld "News" "own_entries" (eVar 0)) (eVar 1))))
end GP

set_option maxRecDepth 100000
set_option maxHeartbeats 4000000

namespace MM
open PySem PySem.Spec PyProof.Rows L2
def eSlX (e : EM) (u : OM) : EM := fun ρ => (e ρ).bind fun w => nr ((u ρ).bind fun hi => slM w none hi)
section
variable {X : Cx} {W : WX}
end
end MM

set_option maxRecDepth 100000
set_option maxHeartbeats 4000000

namespace MM
open PySem PySem.Spec PyProof.Rows L2
def isBB (neg : Bool) : F2 := fun a b h => match a, b with
  | .bl i, .bl j => .ok (.bl (if neg then !decide (i = j) else decide (i = j))) h
  | _, _ => .no
def leS : F2 := fun a b h => match a, b with
  | .str i, .str j => .ok (.bl (!decide (j.cps.toList < i.cps.toList))) h
  | _, _ => .no
section
variable {X : Cx} {a b : Expr} {pos : Pos} {ma mb : EM}
end
end MM

set_option maxRecDepth 100000
set_option maxHeartbeats 4000000

namespace MM
open PySem PySem.Spec PyProof.Rows L2
section
variable {X : Cx}
def rSortTu (K : PySem.W.Frag) : List V → Hp → VK → Prop := fun vs H Q => ∃ (l : Addr) (zs : List Vd), vs = [V.ref l] ∧ SqT K H l (zs.map (·.1)) ∧ (∀ z ∈ zs, Dp K H z.1 z.2) ∧ (∀ z ∈ zs, flatB z.2 = true) ∧ sortable (zs.map (·.2)) = true ∧ zs.length ≤ 10000 ∧ ∀ p, H p = none → Q (.ref p) (upd H p (.lst ((isort dle zs).map (·.1))))
def sortE : FM := fun ws h => match ws with
  | [.tup us] => match us.mapM (dat h 60) with
    | some ds => if (sortable ds && (flatAll ds && decide (us.length ≤ 10000))) = true then lay (.lst ((isort dle (us.zip ds)).map (·.1))) h else .no
    | none => .no
  | ws => sortM ws h
end
end MM

set_option maxRecDepth 100000
set_option maxHeartbeats 4000000
namespace GP
open PySem PySem.Spec PyProof.Rows L2 K01 MM
def x_look_at_row : FM := funX 4 3 ((sSeq (sIfX (nrT (tOrM (tNotM (tTru (eCall (isi2M .lst .tup) (aCons (eVar 0) (aCons (eTup (aCons (eC (.raw (.ty "list"))) (aCons (eC (.raw (.ty "tuple"))) aNil))) aNil))))) (tNotM (tOf (eCh leI leI (eC (.int 1)) (eCall lenM (aCons (eVar 0) aNil)) (eVar 1)))))) (sRaise1 "NoRing" "number" (eC .non)) sNil)
    (sSeq (nrS (sSet 3 (eCall m_first_wrong (aCons (eVar 0) (aCons (eVar 2) aNil)))))
    (sIfX (nrT (tOf (eOp (isNB true) (eVar 3) (eC .non)))) (sRaise1 "NoRing" "number" (eVar 3)) sNil))))
def x_Ring___init__ : FM := funX 2 2 ((sSeq (sX (sExpr (eCall x_look_at_row (nrA (aCons (eVar 1) (aCons (eC (.int 48)) (aCons (eC (.glob "is_ring_mark")) aNil)))))))
    (nrS (sFldM "Ring" "own_marks" (eVar 0) (eCall sortE (aCons (eVar 1) aNil))))))
def x_place_of : FM := funX 3 1 ((sSeq (sX (sExpr (eCall x_look_at_key (nrA (aCons (eVar 0) aNil)))))
    (sSeq (nrS (sSet 1 (eC (.int 0))))
    (sSeq (nrS (sFor (iStrM (eVar 0)) (gN 2) (sSet 1 (eOp modM (eOp addM (eOp subM (eOp addM (eOp mulM (eC (.int 5)) (eVar 1)) (eCall ordM (aCons (eVar 2) aNil))) (eCall ordM (aCons (eC (.str "a")) aNil))) (eC (.int 1))) (eC (.int 64))))))
    (nrS (sRet (eVar 1)))))))
def x_Ring_order : FM := funX 7 2 ((sSeq (sX (sSet 2 (eCall x_place_of (nrA (aCons (eVar 1) aNil)))))
    (sSeq (nrS (sSet 3 (eLc (iSeqM (eFld "Ring" "own_marks" (eVar 0))) [5, 6] (gT 2 (gsCons (gN 5) (gsCons (gN 6) gsNil))) (tOf (eOp geI (eVar 5) (eVar 2))) (eVar 6))))
    (sSeq (nrS (sSet 4 (eLc (iSeqM (eFld "Ring" "own_marks" (eVar 0))) [5, 6] (gT 2 (gsCons (gN 5) (gsCons (gN 6) gsNil))) (tOf (eOp ltI (eVar 5) (eVar 2))) (eVar 6))))
    (nrS (sRet (eCall listOf (aCons (eDc (iSeqM (eOp addM (eVar 3) (eVar 4))) [6] (gN 6) tYesM (eVar 6) (eC (.bl true))) aNil))))))))
def x_Ring_homes : FM := funX 3 3 ((sX (sRet (eSlX (eMeth "Ring" "order" x_Ring_order (nrE (eVar 0)) (nrA (aCons (eVar 1) aNil))) (oSome (eVar 2))))))
def x_Ring_with_house : FM := funX 4 3 ((sSeq (sIfX (nrT (tOrM (tNotM (tTru (eCall m_is_word (aCons (eVar 1) aNil)))) (tOf (eOp (inM false) (eVar 1) (eMeth "Ring" "houses" m_Ring_houses (eVar 0) aNil))))) (sRaise1 "NoHouse" "house" (eVar 1)) sNil)
    (sSeq (sX (sExpr (eCall x_look_at_row (nrA (aCons (eVar 2) (aCons (eOp subM (eC (.int 48)) (eCall lenM (aCons (eFld "Ring" "own_marks" (eVar 0)) aNil))) (aCons (eC (.glob "is_place")) aNil)))))))
    (sX (sRet (eCall (mkC "Ring" x_Ring___init__) (nrA (aCons (eOp addM (eFld "Ring" "own_marks" (eVar 0)) (eLc (iSeqM (eVar 2)) [3] (gN 3) tYesM (eTup (aCons (eVar 3) (aCons (eVar 1) aNil))))) aNil))))))))
def x_Ring_without : FM := funX 3 2 ((sSeq (sIfX (nrT (tOrM (tNotM (tTru (eCall m_is_word (aCons (eVar 1) aNil)))) (tOf (eOp (inM true) (eVar 1) (eMeth "Ring" "houses" m_Ring_houses (eVar 0) aNil))))) (sRaise1 "NoHouse" "house" (eVar 1)) sNil)
    (sX (sRet (eCall (mkC "Ring" x_Ring___init__) (nrA (aCons (eLc (iSeqM (eFld "Ring" "own_marks" (eVar 0))) [2] (gN 2) (tOf (eOp (eqB true) (eOp ixM (eVar 2) (eC (.int 1))) (eVar 1))) (eVar 2)) aNil)))))))
end GP

set_option maxRecDepth 100000
set_option maxHeartbeats 4000000

namespace MM
open PySem PySem.Spec PyProof.Rows L2
def dtM (src : Src) (vs : List Nat) (g : GM) (ek ev : EM) (ρ : Env) : Nat → Nat → List (List Key × Wv) → M (List (List Key × Wv))
  | 0, _, _ => M.no
  | n + 1, k, acc => fun h => match src.at_ k h with
    | none => .no
    | some none => .ok acc h
    | some (some w) => ((g w (wipeM ρ vs)).bind fun ρ1 => (ek ρ1).bind fun y => (ev ρ1).bind fun z => fun h => match tkOf y with
          | some q => if acc.length < sizeLine then dtM src vs g ek ev ρ n (k + 1) (putKW acc q z) h else .no
          | none => .no) h
def eDcT (i : IM) (vs : List Nat) (g : GM) (ek ev : EM) : EM := fun ρ => (i ρ).bind fun src => (dtM src vs g ek ev ρ (src.cnt + 1) 0 []).bind fun kvs => lay (.dt kvs)

def dt2in (src : Src) (vs : List Nat) (g : GM) (ek ev : EM) (ρ : Env) : Nat → Nat → List (List Key × Wv) → M (List (List Key × Wv)) := dtM src vs g ek ev ρ
def dt2out (src : Src) (vs : List Nat) (g : GM) (i1 : IM) (vs1 : List Nat) (g1 : GM) (ek ev : EM) (ρ : Env) : Nat → Nat → List (List Key × Wv) → M (List (List Key × Wv))
  | 0, _, _ => M.no
  | n + 1, k, acc => fun h => match src.at_ k h with
    | none => .no
    | some none => .ok acc h
    | some (some w) => ((g w (wipeM ρ vs)).bind fun ρ1 => (i1 ρ1).bind fun src1 => (dtM src1 vs1 g1 ek ev ρ1 (src1.cnt + 1) 0 acc).bind fun acc' => dt2out src vs g i1 vs1 g1 ek ev ρ n (k + 1) acc') h
def eDc2 (i : IM) (vs : List Nat) (g : GM) (i1 : IM) (vs1 : List Nat) (g1 : GM) (ek ev : EM) : EM := fun ρ => (i ρ).bind fun src => (dt2out src vs g i1 vs1 g1 ek ev ρ (src.cnt + 1) 0 []).bind fun kvs => lay (.dt kvs)
end MM

set_option maxRecDepth 100000
set_option maxHeartbeats 4000000

namespace MM
open PySem PySem.Spec PyProof.Rows L2
def lc2in (src : Src) (vs : List Nat) (g : GM) (t : TM) (e : EM) (ρ : Env) : Nat → Nat → List Wv → M (List Wv) := lcM src vs g t e ρ
def lc2out (src : Src) (vs : List Nat) (g : GM) (t : TM) (i1 : IM) (vs1 : List Nat) (g1 : GM) (t1 : TM) (e : EM) (ρ : Env) : Nat → Nat → List Wv → M (List Wv)
  | 0, _, _ => M.no
  | n + 1, k, acc => fun h => match src.at_ k h with
    | none => .no
    | some none => .ok acc h
    | some (some w) => ((g w (wipeM ρ vs)).bind fun ρ1 => (t ρ1).bind fun b => if b = true then (i1 ρ1).bind fun src1 => (lcM src1 vs1 g1 t1 e ρ1 (src1.cnt + 1) 0 acc).bind fun acc' => lc2out src vs g t i1 vs1 g1 t1 e ρ n (k + 1) acc'
        else lc2out src vs g t i1 vs1 g1 t1 e ρ n (k + 1) acc) h
def eLc2 (i : IM) (vs : List Nat) (g : GM) (t : TM) (i1 : IM) (vs1 : List Nat) (g1 : GM) (t1 : TM) (e : EM) : EM := fun ρ => (i ρ).bind fun src => (lc2out src vs g t i1 vs1 g1 t1 e ρ (src.cnt + 1) 0 []).bind fun ws => lay (.lst ws)
section
variable {X : Cx} {elt tg iter tg1 iter1 : Expr} {ifs ifs1 : List Expr} {scope : Scope} {own : List (PySem.Str × Nat)} {pos : Pos} {mi mi1 : IM} {sl sl1 : List Nat} {g g1 : GM} {t t1 : TM} {m : EM}
end

def dtKeys (h : Hm) : Wv → Option (List DK)
  | .obj i => match h[i]? with
    | some (.dt kvs) => some (kvs.map (·.1))
    | _ => none
  | _ => none
def sortDt : FM := fun ws h => match ws with
  | [w] => match dtKeys h w with
    | some ks => if ks.all d3B = true ∧ ks.length ≤ 1000 ∧ ks.Nodup then lay (.lst ((sortK ks).map tupK)) h else .no
    | none => .no
  | _ => .no

end MM

set_option maxRecDepth 100000
set_option maxHeartbeats 4000000

namespace MM
open PySem PySem.Spec PyProof.Rows L2
def CstV (dvs : List V) (ds : List Wv) : Prop := ∀ c μ H, Rps c μ H dvs ds
def dflt (ds : List Wv) (m : FM) : FM := fun ws => m (ws ++ ds)
structure DfD (P : Program) (w : World) (K : PySem.W.Frag) (mg : PySem.Str → Option Value) (base : Heap) (k : Nat) (x : PySem.Str) (j : Nat) (m : FM) (ds : List Wv) : Prop where
  ex : ∃ (f : Addr) (fd : FuncData) (ps : List PySem.Str) (dvs : List V) (us : List Value), mg x = some (.ref f) ∧ PySem.W.keepIn K (.ref f) = true ∧ Vals dvs us ∧ Binds K fd ps us ∧ CstV dvs ds ∧ FnOk P w K mg base CX0 k f fd ps (spF ⟨P, w, K, mg⟩ j m)
structure DfXD (P : Program) (w : World) (K : PySem.W.Frag) (mg : PySem.Str → Option Value) (base : Heap) (k : Nat) (x : PySem.Str) (j : Nat) (m : FM) (ds : List Wv) : Prop where
  ex : ∃ (f : Addr) (fd : FuncData) (ps : List PySem.Str) (dvs : List V) (us : List Value), mg x = some (.ref f) ∧ PySem.W.keepIn K (.ref f) = true ∧ Vals dvs us ∧ Binds K fd ps us ∧ CstV dvs ds ∧ FnOk P w K mg base (L2.CX P w) k f fd ps (spX ⟨P, w, K, mg⟩ j m)
section
variable {X : Cx} {W : WX}

abbrev MKw (X : Cx) (kws : List Keyword) (m : AM) : Prop := PK X kws (mA (cfg X) m)
theorem PK.imp {kws : List Keyword} {t t' : TA} (p : PK X kws t) (f : ∀ σ H Q, t' σ H Q → t σ H Q) : PK X kws t' := ⟨fun pos pins s σ H Q I h => p.run pos pins s σ H Q I (f σ H Q h)⟩
def appV {α : Type} (a b : List α) : List α := a ++ b
structure DfK (P : Program) (w : World) (K : PySem.W.Frag) (mg : PySem.Str → Option Value) (base : Heap) (k : Nat) (x : PySem.Str) (n : Nat) (ks : List PySem.Str) (j : Nat) (m : FM) : Prop where
  ex : ∃ (f : Addr) (fd : FuncData) (ps : List PySem.Str), mg x = some (.ref f) ∧ PySem.W.keepIn K (.ref f) = true ∧ KBn K fd ps n ks appV appV ∧ FnOk P w K mg base CX0 k f fd ps (spF ⟨P, w, K, mg⟩ j m)
def eCallK (n k : Nat) (m : FM) (a b : AM) : EM := fun ρ => (a ρ).bind fun ws => (b ρ).bind fun zs => if ws.length = n ∧ zs.length = k then m (ws ++ zs) else M.no
end

section
variable {P : Program} {w : World} {K : PySem.W.Frag} {mg : PySem.Str → Option Value} {base : Heap} {x qual : PySem.Str} {st : Stmt} {f : Addr} {fd : FuncData} {dvs : List V} {kws : List (PySem.Str × V)}
abbrev FunS (K : PySem.W.Frag) (x qual : PySem.Str) (st : Stmt) (dvs : List V) (kws : List (PySem.Str × V)) (f : Addr) (fd : FuncData) : Prop := FunD K x qual (defArgs st) (defBody st) (defScope st) dvs kws f fd
theorem FunS.okM {N ps : List PySem.Str} {k : Nat} {n j : Nat} {b : SM} (F : FunS K x qual st dvs kws f fd) (S : FnScope N ps (defScope st)) (hn : N.length = n) (hj : ps.length = j)
    (body : ∀ (cdv : Value) (A : Around) (outer : List PySem.Env) (s : Shared) (H : Hp) (E : XK), Room k (A.deeper (envOfC qual (defScope st) s.heap.objs.size f cdv)) → MSs (cxOf CX0 P w K mg base N qual (defScope st) f cdv A outer s H E).nox (defBody st) b) :
    FnOk P w K mg base CX0 (k + 1) f fd ps (spF ⟨P, w, K, mg⟩ j (fun_ n j b)) := by
  refine FunD.ok F S (fun vs H Q E h => by rw [hj]; exact spF_len h) fun cdv A outer s H vs Q E hr h => ⟨_, (body cdv A outer s H E hr).nox, ?_⟩
  obtain ⟨μ, h, ws, u, h', R, p, l, e, nx⟩ := h
  unfold fun_ at e
  rw [if_pos l] at e
  obtain ⟨⟨fl, ρ'⟩, h1, e1, e⟩ := bind_ok e
  subst hn
  refine ⟨μ, _, h, fl, ρ', h1, at_start R p, e1, fun μ1 σ1 H1 g1 A1 => ?_⟩
  cases fl with
  | nx => cases e; exact nx μ1 _ H1 g1 A1.rel .non
  | ret w => cases e; exact fun v pv => nx μ1 v H1 g1 A1.rel pv
  | bk => cases e
  | ct => cases e
  | xc x => cases e
end
end MM
namespace MM
open PySem PySem.Spec PyProof.Rows L2

def nrM (m : FM) : FM := fun ws => nr (m ws)
end MM

set_option maxRecDepth 100000
set_option maxHeartbeats 4000000

namespace MM
open PySem PySem.Spec PyProof.Rows L2
def verKeyW : Wv → Option DK
  | .tup (w :: _) => tkOf w
  | _ => none
def isKeyW (k : DK) (u : Wv) : Bool := match verKeyW u with
  | some j => decide (j = k)
  | none => false
def sortedV (us : List Wv) (ks : List DK) : List Wv := (sortK ks).map fun k => (us.find? (isKeyW k)).getD .non
def sortVM : FM := fun ws h => match ws with
  | [.obj i] => match rdL h i with
    | some us => match us.mapM verKeyW with
      | some ks => if ks.all d3B = true ∧ ks.length ≤ 1000 ∧ ks.Nodup then lay (.lst (sortedV us ks)) h else .no
      | none => .no
    | none => .no
  | _ => .no
structure VT where
  a : Addr
  u : Wv
  k : DK

theorem rps_scr {c : Cfg} {μ : List Addr} {H : Hp} : ∀ ns : List Int, Rps c μ H (ns.map V.int) (ns.map Wv.int)
  | [] => .nil
  | n :: ns => .cons (.int n) (rps_scr ns)
def slS (w : Wv) (lo hi : Option Int) : M Wv := match w with
  | .scr ns => lay (.lst ((cutW ns lo hi).map Wv.int))
  | _ => M.no
def eSlS (e : EM) (l u : OM) : EM := fun ρ => (e ρ).bind fun w => (l ρ).bind fun lo => (u ρ).bind fun hi => slS w lo hi
theorem me_sliceS {X : Cx} {pos : Pos} {e : Expr} {lo hi : Option Expr} {p2 : Pos} {m : EM} {ml mu : OM} (he : ME X e m) (hl : MO X lo ml) (hu : MO X hi mu) : ME X (.Subscript e (.Slice lo hi none p2) pos) (eSlS m ml mu) :=
  PE.imp (pe_slice ((sl_tupA.or sl_list).or sl_str) he hl hu) fun σ H Q ⟨μ, ρ, h, w, h', A, e, n⟩ => by
    obtain ⟨x, h1, e1, f1⟩ := bind_ok e
    obtain ⟨lo, h2, e2, f2⟩ := bind_ok f1
    obtain ⟨hi, h3, e3, f3⟩ := bind_ok f2
    clear e f1 f2
    refine mE_first A e1 fun μ1 v H1 g1 A1 p1 => ⟨μ1, ρ, h1, lo, h2, A1, e2, fun μ2 H2 g2 R2 => ⟨μ2, ρ, h2, hi, h3, A1.go g2 R2, e3, fun μ3 H3 g3 R3 => ?_⟩⟩
    have p3 := (p1.go g2).go g3
    have n3 := n.after (g1.trans (g2.trans g3))
    unfold slS at f3
    split at f3
    · next ns =>
      obtain ⟨rfl, rfl⟩ := lay_ok f3
      cases p3 with
      | scr hs =>
        have em : (cutW ns lo hi).map Wv.int = cutW (ns.map Wv.int) lo hi := by
          unfold cutW
          rw [List.map_take, List.map_drop, List.length_map]
        rw [em] at n3
        exact .inl (.inr ⟨_, _, rfl, hs.sq, fun p np => n3.lay R3 np fun _ _ g => ⟨_, rfl, ((rps_scr ns).cut lo hi).mv g⟩⟩)
    · cases f3
theorem wp_slS {e : EM} {l u : OM} {ρ : Env} {h : Hm} {Q : Wv → Hm → Prop} : wpM (eSlS e l u ρ) h Q ↔ wpM (e ρ) h fun w h1 => wpM (l ρ) h1 fun lo h2 => wpM (u ρ) h2 fun hi h3 => wpM (slS w lo hi) h3 Q := by
  unfold eSlS; simp only [wp_bind]

def eRevT (e : EM) : EM := fun ρ => (e ρ).bind fun w => match w with
  | .tup ws => M.pure (.tup ws.reverse)
  | _ => M.no
end MM

set_option maxRecDepth 100000
set_option maxHeartbeats 4000000
namespace GP
open PySem PySem.Spec PyProof.Rows L2 K01 MM
def m__law_hand : FM := fun_ 4 2 ((sSeq (sSet 2 (eOp ixM (eOp addM (eSlS (eVar 0) (oSome (eVar 1)) (oSome (eOp addM (eVar 1) (eC (.int 1))))) (eLst (aCons (eC (.int 0)) aNil))) (eC (.int 0))))
    (sSeq (sSet 3 (eOp modM (eOp mulM (eOp addM (eOp addM (eOp modM (eVar 2) (eC (.int 2147483647))) (eOp mulM (eC (.int 7919)) (eVar 1))) (eC (.int 1))) (eC (.int 48271))) (eC (.int 2147483629))))
    (sRet (eLst (aCons (eOp mulM (eCall intOf (aCons (eOp geI (eVar 2) (eOp powM (eC (.int 10)) (eC (.int 18)))) aNil)) (eVar 2)) (aCons (eVar 3) aNil)))))))
def m__law_draw : FM := fun_ 3 2 ((sSeq (sIf (tOf (eOp gtI (eOp ixM (eVar 0) (eC (.int 0))) (eC (.int 0)))) (sSeq (sSet 2 (eOp modM (eOp ixM (eVar 0) (eC (.int 0))) (eVar 1)))
    (sSeq (sAsg (eOp fdivM (eOp ixM (eVar 0) (eC (.int 0))) (eVar 1)) (gIx (eVar 0) (eC (.int 0))))
    (sRet (eVar 2)))) sNil)
    (sSeq (sAsg (eOp modM (eOp addM (eOp mulM (eOp ixM (eVar 0) (eC (.int 1))) (eC (.int 48271))) (eC (.int 11))) (eC (.int 2147483647))) (gIx (eVar 0) (eC (.int 1))))
    (sRet (eOp modM (eOp fdivM (eOp modM (eOp mulM (eOp ixM (eVar 0) (eC (.int 1))) (eOp ixM (eVar 0) (eC (.int 1)))) (eC (.int 2147483629))) (eC (.int 64))) (eVar 1))))))
def m__law_dot : FM := fun_ 1 1 ((sRet (eTup (aCons (eOp addM (eC (.int 1)) (eCall m__law_draw (aCons (eVar 0) (aCons (eC (.int 5)) aNil)))) (aCons (eOp ixM (eC (.str "abc")) (eCall m__law_draw (aCons (eVar 0) (aCons (eC (.int 3)) aNil)))) (aCons (eOp addM (eC (.int 1)) (eCall m__law_draw (aCons (eVar 0) (aCons (eC (.int 2)) aNil)))) aNil))))))
def m__law_known : FM := fun_ 3 2 ((sRet (eCall tupOf (aCons (eCall sortSd (aCons (eCall setM (aCons (eLc (iArgs rng1 (aCons (eCall m__law_draw (aCons (eVar 0) (aCons (eOp addM (eVar 1) (eC (.int 1))) aNil))) aNil)) [2] (gN 2) tYesM (eCall m__law_dot (aCons (eVar 0) aNil))) aNil)) aNil)) aNil))))
def m__law_versions : FM := fun_ 7 2 ((sSeq (sSet 2 eDnewT)
    (sSeq (sFor (iArgs rng1 (aCons (eCall m__law_draw (aCons (eVar 0) (aCons (eOp addM (eVar 1) (eC (.int 1))) aNil))) aNil)) (gN 3) (sSeq (sSet 4 (eCall m__law_dot (aCons (eVar 0) aNil)))
    (sSeq (sSet 5 (eCall tupOf (aCons (eLc (iSeqM (eCall m__law_known (aCons (eVar 0) (aCons (eC (.int 4)) aNil)))) [6] (gN 6) (tOf (eOp ltI (eOp ixM (eVar 6) (eC (.int 0))) (eOp ixM (eVar 4) (eC (.int 0))))) (eVar 6)) aNil)))
    (sDput (eVar 2) (eVar 4) (eTup (aCons (eVar 4) (aCons (eVar 5) (aCons (eOp ixM (eLst (aCons (eC (.int 3)) (aCons (eNeg (eC (.int 1))) (aCons (eC (.int 0)) (aCons (eTup (aCons (eC (.str "gone")) (aCons (eC (.int 2)) aNil))) (aCons (eTup (aCons (eC (.str "gone")) (aCons (eC (.int 7)) aNil))) aNil)))))) (eCall m__law_draw (aCons (eVar 0) (aCons (eC (.int 5)) aNil)))) aNil))))))))
    (sRet (eVar 2)))))
def m__law_live : FM := fun_ 4 1 ((sSeq (sSet 1 (eLst aNil))
    (sSeq (sFor (iSeqM (eVar 0)) (gN 2) (sIf (tOf (eOp (eqB false) (eLc (iSeqM (eVar 0)) [3] (gN 3) (tOf (eOp (inM false) (eOp ixM (eVar 2) (eC (.int 0))) (eOp ixM (eVar 3) (eC (.int 1))))) (eVar 3)) (eLst aNil))) (sExpr (eBm isLst appM (eVar 1) (aCons (eVar 2) aNil))) sNil))
    (sRet (eCall tupOf (aCons (eCall sortVM (aCons (eVar 1) aNil)) aNil))))))
def m_all_known : FM := fun_ 3 1 ((sRet (eDc2 (iSeqM (eVar 0)) [1, 2] (gN 1) (iSeqM (eOp ixM (eVar 1) (eC (.int 1)))) [2] (gN 2) (eVar 2) (eC (.bl true)))))
def m_is_mark : FM := fun_ 3 1 ((sSeq (sIf (tOrM (tNotM (tTru (eCall (isiM .tup) (aCons (eVar 0) (aCons (eC (.raw (.ty "tuple"))) aNil))))) (tOf (eOp (eqB true) (eCall lenM (aCons (eVar 0) aNil)) (eC (.int 2))))) (sRet (eC (.bl false))) sNil)
    (sSeq (sAsg (eVar 0) (gT 2 (gsCons (gN 1) (gsCons (gN 2) gsNil))))
    (sSeq (sIf (tOrM (tNotM (tTru (eCall (isiM .str) (aCons (eVar 1) (aCons (eC (.raw (.ty "str"))) aNil))))) (tNotM (tTru (eCall m_is_whole (aCons (eVar 2) aNil))))) (sRet (eC (.bl false))) sNil)
    (sRet (eAnd (eOp (eqB false) (eVar 1) (eC (.str "gone"))) (eOp geI (eVar 2) (eC (.int 0)))))))))
def m_is_worth : FM := fun_ 1 1 ((sSeq (sIf (tTru (eCall m_is_whole (aCons (eVar 0) aNil))) (sRet (eCh leI leI (eNeg (eC (.int 1000000000))) (eVar 0) (eC (.int 1000000000)))) sNil)
    (sRet (eCall m_is_mark (aCons (eVar 0) aNil)))))
def m_is_version : FM := fun_ 4 1 ((sSeq (sIf (tOrM (tNotM (tTru (eCall (isiM .tup) (aCons (eVar 0) (aCons (eC (.raw (.ty "tuple"))) aNil))))) (tOf (eOp (eqB true) (eCall lenM (aCons (eVar 0) aNil)) (eC (.int 3))))) (sRet (eC (.bl false))) sNil)
    (sSeq (sAsg (eVar 0) (gT 3 (gsCons (gN 1) (gsCons (gN 2) (gsCons (gN 3) gsNil)))))
    (sSeq (sIf (tOrM (tNotM (tTru (eCall m_is_dot (aCons (eVar 1) aNil)))) (tOrM (tNotM (tTru (eCall m_is_known (aCons (eVar 2) aNil)))) (tNotM (tTru (eCall m_is_worth (aCons (eVar 3) aNil)))))) (sRet (eC (.bl false))) sNil)
    (sRet (eOp (inM true) (eVar 1) (eVar 2)))))))
def m_is_cell : FM := fun_ 5 1 ((sSeq (sIf (tOrM (tNotM (tTru (eCall (isiM .tup) (aCons (eVar 0) (aCons (eC (.raw (.ty "tuple"))) aNil))))) (tNotM (tTru (eCall allM (aCons (eLc (iSeqM (eVar 0)) [3] (gN 3) tYesM (eCall m_is_version (aCons (eVar 3) aNil))) aNil))))) (sRet (eC (.bl false))) sNil)
    (sSeq (sSet 1 (eLc (iSeqM (eVar 0)) [3] (gN 3) tYesM (eOp ixM (eVar 3) (eC (.int 0)))))
    (sSeq (sSet 2 (eCall m_all_known (aCons (eVar 0) aNil)))
    (sRet (eAnd (eCall m_rises (aCons (eVar 1) aNil)) (eNot (eCall anyM (aCons (eLc (iSeqM (eVar 1)) [4] (gN 4) tYesM (eOp (dinM false) (eVar 4) (eVar 2))) aNil)))))))))
def m_cut : FM := fun_ 2 2 ((sSeq (sIf (tOf (eOp (isNB false) (eVar 1) (eC .non))) (sRet (eVar 0)) sNil)
    (sRet (eSl (eVar 0) (oSome (eCall max2 (aCons (eC (.int 0)) (aCons (eOp subM (eCall lenM (aCons (eVar 0) aNil)) (eVar 1)) aNil)))) oNone))))
def x_new_version : FM := funX 4 4 ((sSeq (sIfX (nrT (tNotM (tTru (eCall m_is_version (aCons (eTup (aCons (eVar 0) (aCons (eVar 1) (aCons (eVar 2) aNil)))) aNil))))) (sRaise0 "NoVersion") sNil)
    (nrS (sRet (eTup (aCons (eVar 0) (aCons (eCall m_cut (aCons (eVar 1) (aCons (eVar 3) aNil))) (aCons (eVar 2) aNil))))))))
def x_look_at_cell : FM := funX 1 1 ((sIfX (nrT (tNotM (tTru (eCall m_is_cell (aCons (eVar 0) aNil))))) (sRaise0 "NoCell") sNil))
def x_joined : FM := funX 7 1 ((sSeq (sIfX (nrT (tNotM (tTru (eCall (isi2M .lst .tup) (aCons (eVar 0) (aCons (eTup (aCons (eC (.raw (.ty "list"))) (aCons (eC (.raw (.ty "tuple"))) aNil))) aNil)))))) (sRaise0 "NoCell") sNil)
    (sSeq (sFor (iSeqM (eVar 0)) (gN 1) (sX (sExpr (eCall x_look_at_cell (nrA (aCons (eVar 1) aNil))))))
    (sSeq (nrS (sSet 2 (eLc2 (iSeqM (eVar 0)) [1, 5] (gN 1) tYesM (iSeqM (eVar 1)) [5] (gN 5) tYesM (eVar 5))))
    (sSeq (nrS (sSet 3 (eDcT (iSeqM (eVar 2)) [5] (gN 5) (eOp ixM (eVar 5) (eC (.int 0))) (eVar 5))))
    (sSeq (nrS (sSet 4 (eCall m_all_known (aCons (eVar 2) aNil))))
    (nrS (sRet (eCall tupOf (aCons (eLc (iSeqM (eCall sortDt (aCons (eVar 3) aNil))) [6] (gN 6) (tOf (eOp (dinM true) (eVar 6) (eVar 4))) (eOp dgetM (eVar 3) (eVar 6))) aNil))))))))))
def x_dots_of : FM := funX 2 1 ((sSeq (sX (sExpr (eCall x_look_at_cell (nrA (aCons (eVar 0) aNil)))))
    (nrS (sRet (eCall tupOf (aCons (eLc (iSeqM (eVar 0)) [1] (gN 1) tYesM (eOp ixM (eVar 1) (eC (.int 0)))) aNil))))))
def x_known_by : FM := funX 2 1 ((sX (sRet (eCall (nrM m_together) (aCons (eOp (nrF addM) (eLst (aCons (eCall x_dots_of (nrA (aCons (eVar 0) aNil))) (nrA aNil))) (nrE (eLc (iSeqM (eVar 0)) [1] (gN 1) tYesM (eOp ixM (eVar 1) (eC (.int 1)))))) (nrA aNil))))))
def x_worths_of : FM := funX 2 1 ((sSeq (sX (sExpr (eCall x_look_at_cell (nrA (aCons (eVar 0) aNil)))))
    (nrS (sRet (eLc (iSeqM (eVar 0)) [1] (gN 1) (tNotM (tTru (eCall m_is_mark (aCons (eOp ixM (eVar 1) (eC (.int 2))) aNil)))) (eOp ixM (eVar 1) (eC (.int 2))))))))
def m_is_elder : FM := fun_ 2 2 ((sRet (eAnd (eCall m_is_mark (aCons (eVar 0) aNil)) (eOp leI (eOp ixM (eVar 0) (eC (.int 1))) (eVar 1)))))
def x_without_elder : FM := funX 3 2 ((sSeq (sX (sExpr (eCall x_look_at_cell (nrA (aCons (eVar 0) aNil)))))
    (nrS (sRet (eCall tupOf (aCons (eLc (iSeqM (eVar 0)) [2] (gN 2) (tNotM (tTru (eCall m_is_elder (aCons (eOp ixM (eVar 2) (eC (.int 2))) (aCons (eVar 1) aNil))))) (eVar 2)) aNil))))))
def x_has_or_more : FM := funX 4 2 ((sSeq (sX (sSet 2 (eCall x_known_by (nrA (aCons (eVar 0) aNil)))))
    (nrS (sRet (eCall allM (aCons (eLc (iSeqM (eVar 1)) [3] (gN 3) tYesM (eOp (inM false) (eVar 3) (eVar 2))) aNil))))))
def m_new_version : FM := fun_ 4 4 ((sSeq (sIf (tNotM (tTru (eCall m_is_version (aCons (eTup (aCons (eVar 0) (aCons (eVar 1) (aCons (eVar 2) aNil)))) aNil)))) sNo sNil)
    (sRet (eTup (aCons (eVar 0) (aCons (eCall m_cut (aCons (eVar 1) (aCons (eVar 3) aNil))) (aCons (eVar 2) aNil)))))))
def m_puts_out : FM := fun_ 2 2 ((sRet (eOp (inM false) (eOp ixM (eVar 1) (eC (.int 0))) (eOp ixM (eVar 0) (eC (.int 1))))))
end GP

set_option maxRecDepth 100000
set_option maxHeartbeats 4000000

namespace MM
open PySem PySem.Spec PyProof.Rows L2
def signsV (x : PySem.Str) : List V := x.cps.toList.map fun c => V.str ⟨#[c]⟩
def signsW (x : PySem.Str) : List Wv := x.cps.toList.map fun c => Wv.str ⟨#[c]⟩
def rListS : List V → Hp → VK → Prop := fun xs H Q => ∃ x : PySem.Str, xs = [.str x] ∧ x.cps.size ≤ sizeLine ∧ ∀ p, H p = none → Q (.ref p) (upd H p (.lst (signsV x)))
def listS : FM := fun ws h => match ws with
  | [.str x] => if x.length ≤ sizeLine then lay (.lst (signsW x)) h else .no
  | _ => .no
end MM

set_option maxRecDepth 100000
set_option maxHeartbeats 4000000
namespace GP
open PySem PySem.Spec PyProof.Rows L2 K01 MM
def m_look_at_cell : FM := fun_ 1 1 ((sIf (tNotM (tTru (eCall m_is_cell (aCons (eVar 0) aNil)))) sNo sNil))
def m_dots_of : FM := fun_ 2 1 ((sSeq (sExpr (eCall m_look_at_cell (aCons (eVar 0) aNil)))
    (sRet (eCall tupOf (aCons (eLc (iSeqM (eVar 0)) [1] (gN 1) tYesM (eOp ixM (eVar 1) (eC (.int 0)))) aNil)))))
def m_known_by : FM := fun_ 2 1 ((sRet (eCall m_together (aCons (eOp addM (eLst (aCons (eCall m_dots_of (aCons (eVar 0) aNil)) aNil)) (eLc (iSeqM (eVar 0)) [1] (gN 1) tYesM (eOp ixM (eVar 1) (eC (.int 1))))) aNil))))
def m_joined : FM := fun_ 7 1 ((sSeq (sIf (tNotM (tTru (eCall (isi2M .lst .tup) (aCons (eVar 0) (aCons (eTup (aCons (eC (.raw (.ty "list"))) (aCons (eC (.raw (.ty "tuple"))) aNil))) aNil))))) sNo sNil)
    (sSeq (sFor (iSeqM (eVar 0)) (gN 1) (sExpr (eCall m_look_at_cell (aCons (eVar 1) aNil))))
    (sSeq (sSet 2 (eLc2 (iSeqM (eVar 0)) [1, 5] (gN 1) tYesM (iSeqM (eVar 1)) [5] (gN 5) tYesM (eVar 5)))
    (sSeq (sSet 3 (eDcT (iSeqM (eVar 2)) [5] (gN 5) (eOp ixM (eVar 5) (eC (.int 0))) (eVar 5)))
    (sSeq (sSet 4 (eCall m_all_known (aCons (eVar 2) aNil)))
    (sRet (eCall tupOf (aCons (eLc (iSeqM (eCall sortDt (aCons (eVar 3) aNil))) [6] (gN 6) (tOf (eOp (dinM true) (eVar 6) (eVar 4))) (eOp dgetM (eVar 3) (eVar 6))) aNil)))))))))
def m_Reading___init__ : FM := fun_ 4 4 ((sSeq (sFldM "Reading" "own_word" (eVar 0) (eVar 1))
    (sSeq (sFldM "Reading" "own_targets" (eVar 0) (eCall listOf (aCons (eVar 2) aNil)))
    (sSeq (sFldM "Reading" "own_need" (eVar 0) (eVar 3))
    (sSeq (sFldM "Reading" "own_answers" (eVar 0) eDnewK)
    (sSeq (sFldM "Reading" "own_joined" (eVar 0) (eTup aNil))
    (sFldM "Reading" "own_telling" (eVar 0) (eC .non))))))))
def m_worths_of : FM := fun_ 2 1 ((sSeq (sExpr (eCall m_look_at_cell (aCons (eVar 0) aNil)))
    (sRet (eLc (iSeqM (eVar 0)) [1] (gN 1) (tNotM (tTru (eCall m_is_mark (aCons (eOp ixM (eVar 1) (eC (.int 2))) aNil)))) (eOp ixM (eVar 1) (eC (.int 2)))))))
def m_Reading_unlike_ones : FM := fun_ 4 2 ((sSeq (sSet 2 (eCall dictP (aCons (eFld "Reading" "own_targets" (eVar 0)) aNil)))
    (sRet (eLc (iSeqM (eVar 1)) [3] (gN 3) (tOf (eOp (eqB true) (eOp dgetM (eFld "Reading" "own_answers" (eVar 0)) (eVar 3)) (eFld "Reading" "own_joined" (eVar 0)))) (eTup (aCons (eVar 3) (aCons (eOp dgetM (eVar 2) (eVar 3)) aNil)))))))
def m_is_awaited : FM := fun_ 5 3 ((sRet (eAnd (eOp (inM false) (eVar 2) (eLc (iSeqM (eVar 0)) [3, 4] (gT 2 (gsCons (gN 3) (gsCons (gN 4) gsNil))) tYesM (eVar 3))) (eOp (inM true) (eVar 2) (eVar 1)))))
def m_Reading_held : FM := fun_ 1 1 ((sRet (eCall listOf (aCons (eFld "Reading" "own_answers" (eVar 0)) aNil))))
def m_Reading_answered : FM := fun_ 3 3 ((sSeq (sExpr (eCall m_look_at_cell (aCons (eVar 2) aNil)))
    (sSeq (sIf (tNotM (tTru (eCall m_is_awaited (aCons (eFld "Reading" "own_targets" (eVar 0)) (aCons (eMeth "Reading" "held" m_Reading_held (eVar 0) aNil) (aCons (eVar 1) aNil)))))) (sRet (eLst aNil)) sNil)
    (sSeq (sDput (eFld "Reading" "own_answers" (eVar 0)) (eVar 1) (eVar 2))
    (sSeq (sFldM "Reading" "own_joined" (eVar 0) (eCall m_joined (aCons (eLst (aCons (eFld "Reading" "own_joined" (eVar 0)) (aCons (eVar 2) aNil))) aNil)))
    (sSeq (sIf (tOf (eOp ltI (eCall lenM (aCons (eFld "Reading" "own_answers" (eVar 0)) aNil)) (eFld "Reading" "own_need" (eVar 0)))) (sRet (eLst aNil)) sNil)
    (sSeq (sIf (tOf (eOp (isNB true) (eFld "Reading" "own_telling" (eVar 0)) (eC .non))) (sRet (eMeth "Reading" "unlike_ones" m_Reading_unlike_ones (eVar 0) (aCons (eLst (aCons (eVar 1) aNil)) aNil))) sNil)
    (sSeq (sFldM "Reading" "own_telling" (eVar 0) (eTup (aCons (eCall tupOf (aCons (eCall m_worths_of (aCons (eFld "Reading" "own_joined" (eVar 0)) aNil)) aNil)) (aCons (eCall m_known_by (aCons (eFld "Reading" "own_joined" (eVar 0)) aNil)) aNil))))
    (sRet (eMeth "Reading" "unlike_ones" m_Reading_unlike_ones (eVar 0) (aCons (eMeth "Reading" "held" m_Reading_held (eVar 0) aNil) aNil)))))))))))
def x_Reading_answered : FM := funX 3 3 ((sSeq (sX (sExpr (eCall x_look_at_cell (nrA (aCons (eVar 2) aNil)))))
    (sSeq (nrS (sIf (tNotM (tTru (eCall m_is_awaited (aCons (eFld "Reading" "own_targets" (eVar 0)) (aCons (eMeth "Reading" "held" m_Reading_held (eVar 0) aNil) (aCons (eVar 1) aNil)))))) (sRet (eLst aNil)) sNil))
    (sSeq (nrS (sDput (eFld "Reading" "own_answers" (eVar 0)) (eVar 1) (eVar 2)))
    (sSeq (nrS (sFldM "Reading" "own_joined" (eVar 0) (eCall m_joined (aCons (eLst (aCons (eFld "Reading" "own_joined" (eVar 0)) (aCons (eVar 2) aNil))) aNil))))
    (sSeq (nrS (sIf (tOf (eOp ltI (eCall lenM (aCons (eFld "Reading" "own_answers" (eVar 0)) aNil)) (eFld "Reading" "own_need" (eVar 0)))) (sRet (eLst aNil)) sNil))
    (sSeq (nrS (sIf (tOf (eOp (isNB true) (eFld "Reading" "own_telling" (eVar 0)) (eC .non))) (sRet (eMeth "Reading" "unlike_ones" m_Reading_unlike_ones (eVar 0) (aCons (eLst (aCons (eVar 1) aNil)) aNil))) sNil))
    (sSeq (nrS (sFldM "Reading" "own_telling" (eVar 0) (eTup (aCons (eCall tupOf (aCons (eCall m_worths_of (aCons (eFld "Reading" "own_joined" (eVar 0)) aNil)) aNil)) (aCons (eCall m_known_by (aCons (eFld "Reading" "own_joined" (eVar 0)) aNil)) aNil)))))
    (nrS (sRet (eMeth "Reading" "unlike_ones" m_Reading_unlike_ones (eVar 0) (aCons (eMeth "Reading" "held" m_Reading_held (eVar 0) aNil) aNil))))))))))))
def m_Reading_twin : FM := fun_ 3 1 ((sSeq (sSet 1 (eCall (mkC "Reading" m_Reading___init__) (aCons (eFld "Reading" "own_word" (eVar 0)) (aCons (eFld "Reading" "own_targets" (eVar 0)) (aCons (eFld "Reading" "own_need" (eVar 0)) aNil)))))
    (sSeq (sFldM "Reading" "own_answers" (eVar 1) (eLock (eFld "Reading" "own_answers" (eVar 0)) (eDc (iKeysW (eFld "Reading" "own_answers" (eVar 0))) [2] (gN 2) tYesM (eVar 2) (eOp dgetM (eFld "Reading" "own_answers" (eVar 0)) (eVar 2)))))
    (sSeq (sFldM "Reading" "own_joined" (eVar 1) (eFld "Reading" "own_joined" (eVar 0)))
    (sSeq (sFldM "Reading" "own_telling" (eVar 1) (eFld "Reading" "own_telling" (eVar 0)))
    (sRet (eVar 1)))))))
def m_Reading_targets : FM := fun_ 1 1 ((sRet (eCall listOf (aCons (eFld "Reading" "own_targets" (eVar 0)) aNil))))
def m_Reading_told : FM := fun_ 3 1 ((sSeq (sIf (tOf (eOp (isNB false) (eFld "Reading" "own_telling" (eVar 0)) (eC .non))) (sRet (eC .non)) sNil)
    (sSeq (sAsg (eFld "Reading" "own_telling" (eVar 0)) (gT 2 (gsCons (gN 1) (gsCons (gN 2) gsNil))))
    (sRet (eTup (aCons (eCall listOf (aCons (eVar 1) aNil)) (aCons (eVar 2) aNil)))))))
def m_Reading_word : FM := fun_ 1 1 ((sRet (eFld "Reading" "own_word" (eVar 0))))
def m_Reading_cell : FM := fun_ 1 1 ((sRet (eFld "Reading" "own_joined" (eVar 0))))
def m_Reading_is_told : FM := fun_ 1 1 ((sRet (eOp (isNB true) (eFld "Reading" "own_telling" (eVar 0)) (eC .non))))
end GP

set_option maxRecDepth 100000
set_option maxHeartbeats 4000000

namespace MM
open PySem PySem.Spec PyProof.Rows L2
def intW : Wv → Option Int
  | .int i => some i
  | _ => none
def maxI (n : Int) (ns : List Int) : Int := ns.foldl max n
def maxL : FM := fun ws h => match ws with
  | [.obj i] => match rdL h i with
    | some us => match us.mapM intW with
      | some (n :: ns) => .ok (.int (maxI n ns)) h
      | _ => .no
    | none => .no
  | _ => .no

def augM (g : Int → Int → Int) (u v : Wv) : M Wv := fun h => match u, v with
  | .int i, .int j => .ok (.int (g i j)) h
  | _, _ => .no
def sFldAug (C f : PySem.Str) (g : Int → Int → Int) (o e : EM) : SM := fun ρ => (o ρ).bind fun w => (getF f C w).bind fun u => (e ρ).bind fun v => (augM g u v).bind fun z => (setF C f w z).bind fun _ => M.pure (.nx, ρ)
section
variable {X : Cx}
def rIn (g : Int → Int → Int) : V → V → Hp → VK → Prop := fun x y H Q => ∃ i j, x = .int i ∧ y = .int j ∧ Q (.int (g i j)) H
end
end MM

set_option maxRecDepth 100000
set_option maxHeartbeats 4000000

namespace MM
open PySem PySem.Spec PyProof.Rows L2

def altM {α : Type} (m n : M α) : M α := fun h => match m h with
  | .no => n h
  | r => r
def eAlt (a b : EM) : EM := fun ρ => altM (a ρ) (b ρ)
def sAlt (a b : SM) : SM := fun ρ => altM (a ρ) (b ρ)

def rVals : V → List V → Hp → VK → Prop := fun x vs H Q => ∃ d, x = .ref d ∧ vs = [] ∧ ((∃ kvs, H d = some (.dK kvs)) ∨ ∃ kvs, H d = some (.dT kvs)) ∧ ∀ p, H p = none → Q (.ref p) (upd H p (viewO "dict_values" p d))
def Vals2 (H : Hp) (d : Addr) (vs : List V) : Prop := (∃ kvs : List (Key × V), H d = some (.dK kvs) ∧ vs = kvs.map (·.2)) ∨ ∃ kvs : List (List Key × V), H d = some (.dT kvs) ∧ vs = kvs.map (·.2)
section
variable {X : Cx}
def rListVw : List V → Hp → VK → Prop := fun xs H Q => ∃ (p d : Addr) (vs : List V), xs = [.ref p] ∧ H p = some (viewO "dict_values" p d) ∧ Vals2 H d vs ∧ ∀ l, H l = none → Q (.ref l) (upd H l (.lst vs))
end

def valsM (w : Wv) : M Wv := fun h => match w with
  | .obj i => match h[i]? with
    | some (.dk kvs) => lay (.lst (kvs.map (·.2))) h
    | some (.dt kvs) => lay (.lst (kvs.map (·.2))) h
    | _ => .no
  | _ => .no
def eVals (e : EM) : EM := fun ρ => (e ρ).bind valsM
end MM

set_option maxRecDepth 100000
set_option maxHeartbeats 4000000

namespace MM
open PySem PySem.Spec PyProof.Rows L2
def Del (H : Hp) (a : Addr) (y : V) (H' : Hp) : Prop := (∃ kvs k, H a = some (.dK kvs) ∧ y = kV k ∧ (valV kvs k).isSome = true ∧ H' = upd H a (.dK (dropK kvs k))) ∨
  ∃ (kvs : List (List Key × V)) (k : List Key) (b : Addr), H a = some (.dT kvs) ∧ y = .ref b ∧ H b = some (.tup (k.map kV)) ∧ (valV kvs k).isSome = true ∧ H' = upd H a (.dT (dropK kvs k))
section
variable {X : Cx}
def tDelA (td ty : TE) : TS := fun D σ H => td σ H fun x H1 => ty σ H1 fun y H2 => ∃ a H3, x = .ref a ∧ Del H2 a y H3 ∧ D.nx σ H3
def dCut (d k : Wv) : M Unit := fun h => match d with
  | .obj i => match h[i]? with
    | some (.dk kvs) => match keyOf k with
      | some q => if (valW kvs q).isSome then .ok () (h.set i (.dk (dropKW kvs q))) else .no
      | none => .no
    | some (.dt kvs) => match tkOf k with
      | some q => if (valW kvs q).isSome then .ok () (h.set i (.dt (dropKW kvs q))) else .no
      | none => .no
    | _ => .no
  | _ => .no
def sCut (d k : EM) : SM := fun ρ => (d ρ).bind fun w => (k ρ).bind fun y => (dCut w y).bind fun _ => M.pure (.nx, ρ)
end
end MM

set_option maxRecDepth 100000
set_option maxHeartbeats 4000000

namespace MM
open PySem PySem.Spec PyProof.Rows L2
def tkD (k : List Key) : PyData := .tuple (k.map kyD)
def sortTk (ks : List (List Key)) : List (List Key) := isort (fun a b => !PySem.W.dataLt (tkD b) (tkD a)) ks
section
variable {X : Cx}
def rSortG : List V → Hp → VK → Prop := fun vs H Q => ∃ (d : Addr) (kvs : List (List Key × V)), vs = [V.ref d] ∧ H d = some (.dT kvs) ∧ sortable (kvs.map fun e => tkD e.1) = true ∧ kvs.length ≤ 10000 ∧
  ∀ (L : List MS.Row) (p : Addr), (∀ t ∈ L, H t.1 = some (.tup (t.2.map kV))) → L.map (·.2) = sortTk (kvs.map (·.1)) → H p = none → Q (.ref p) (upd H p (.lst (L.map fun q => V.ref q.1)))
end
def sortGt : FM := fun ws h => match ws with
  | [w] => match dtKeys h w with
    | some ks => if sortable (ks.map tkD) = true ∧ ks.length ≤ 10000 then lay (.lst ((sortTk ks).map tupK)) h else .no
    | none => .no
  | _ => .no

def listDt : FM := fun ws h => match ws with
  | [w] => match dtKeys h w with
    | some ks => lay (.lst (ks.map tupK)) h
    | none => .no
  | _ => .no
abbrev rListDt : List V → Hp → VK → Prop := fun xs H Q => ∃ d kvs, xs = [V.ref d] ∧ Rd H d (.dT kvs) ∧ ∀ p bs, H p = none → IsKeys H kvs bs → Q (.ref p) (upd H p (.lst (bs.map V.ref)))
end MM

set_option maxRecDepth 100000
set_option maxHeartbeats 4000000

namespace MM
open PySem PySem.Spec PyProof.Rows L2
def pick {α : Type} (ix : List Nat) (xs : List α) : List α := ix.filterMap fun i => xs[i]?
structure KS (K : PySem.W.Frag) (fd : FuncData) (ps : List PySem.Str) (n : Nat) (ks : List PySem.Str) (ds : List Wv) (ix : List Nat) : Prop where
  ex : ∃ (g : List Value → List Value → List Value) (dvs : List V), CstV dvs ds ∧ KBn K fd ps n ks g fun vs zs => pick ix (vs ++ (dvs ++ zs))
structure MfK (P : Program) (w : World) (K : PySem.W.Frag) (mg : PySem.Str → Option Value) (base : Heap) (k : Nat) (C m : PySem.Str) (n : Nat) (ks : List PySem.Str) (ds : List Wv) (ix : List Nat) (j : Nat) (f : FM) : Prop where
  ex : ∃ (a fa : Addr) (fd : FuncData) (ps : List PySem.Str), mg C = some (.ref a) ∧ Cls K a ∧ Meth K a m fa ∧ KS K fd ps (n + 1) ks ds ix ∧ FnOk P w K mg base CX0 k fa fd ps (spF ⟨P, w, K, mg⟩ j f)
structure MfKX (P : Program) (w : World) (K : PySem.W.Frag) (mg : PySem.Str → Option Value) (base : Heap) (k : Nat) (C m : PySem.Str) (n : Nat) (ks : List PySem.Str) (ds : List Wv) (ix : List Nat) (j : Nat) (f : FM) : Prop where
  ex : ∃ (a fa : Addr) (fd : FuncData) (ps : List PySem.Str), mg C = some (.ref a) ∧ Cls K a ∧ Meth K a m fa ∧ KS K fd ps (n + 1) ks ds ix ∧ FnOk P w K mg base (L2.CX P w) k fa fd ps (spX ⟨P, w, K, mg⟩ j f)
structure CfK (P : Program) (w : World) (K : PySem.W.Frag) (mg : PySem.Str → Option Value) (base : Heap) (k : Nat) (C : PySem.Str) (n : Nat) (ks : List PySem.Str) (ds : List Wv) (ix : List Nat) (j : Nat) (f : FM) : Prop where
  ex : ∃ (a fa : Addr) (fd : FuncData) (ps : List PySem.Str), mg C = some (.ref a) ∧ Mk K a fa ∧ KS K fd ps (n + 1) ks ds ix ∧ FnOk P w K mg base CX0 k fa fd ps (spF ⟨P, w, K, mg⟩ j f)
structure CfKX (P : Program) (w : World) (K : PySem.W.Frag) (mg : PySem.Str → Option Value) (base : Heap) (k : Nat) (C : PySem.Str) (n : Nat) (ks : List PySem.Str) (ds : List Wv) (ix : List Nat) (j : Nat) (f : FM) : Prop where
  ex : ∃ (a fa : Addr) (fd : FuncData) (ps : List PySem.Str), mg C = some (.ref a) ∧ Mk K a fa ∧ KS K fd ps (n + 1) ks ds ix ∧ FnOk P w K mg base (L2.CX P w) k fa fd ps (spX ⟨P, w, K, mg⟩ j f)
def kwF (ix : List Nat) (ds zs : List Wv) (f : FM) : FM := fun ws => f (pick ix (ws ++ (ds ++ zs)))
def eMethK (C m : PySem.Str) (n nk : Nat) (ix : List Nat) (ds : List Wv) (f : FM) (o : EM) (a b : AM) : EM := fun ρ => (o ρ).bind fun w => (isC C m w).bind fun _ => (a ρ).bind fun ws => (b ρ).bind fun zs => if ws.length = n ∧ zs.length = nk then kwF ix ds zs f (w :: ws) else M.no
def eMakeK (C : PySem.Str) (n nk : Nat) (ix : List Nat) (ds : List Wv) (f : FM) (a b : AM) : EM := fun ρ => (a ρ).bind fun ws => (b ρ).bind fun zs => if ws.length = n ∧ zs.length = nk then mkC C (kwF ix ds zs f) ws else M.no
section
variable {X : Cx} {CX : CXT} {k n : Nat} {f C : Addr} {fd : FuncData} {ps ks : List PySem.Str} {sp : Sp} {E : L2.St → XK} {x m : PySem.Str} {p pos apos : Pos} {e o : Expr} {es : List Expr} {kws : List Keyword} {ta : TE} {t tk : TA} {g : List Value → List Value → List Value} {gV : List V → List V → List V}
def tMethKS (C : Addr) (m : PySem.Str) (n nk : Nat) (sp : Sp) (gV : List V → List V → List V) (E : L2.St → XK) (ta : TE) (t tk : TA) : TE := fun σ H Q => ta σ H fun x H1 => ∃ a dx fs, x = .ref a ∧ H1 a = some (.ins C dx fs) ∧ fs.lookup m = none ∧ t σ H1 fun vs H2 => tk σ H2 fun zs H3 => vs.length = n ∧ zs.length = nk ∧ sp (gV (x :: vs) zs) H3 Q (E σ)
def tMakeKS (C : Addr) (n nk : Nat) (sp : Sp) (gV : List V → List V → List V) (E : L2.St → XK) (t tk : TA) : TE := fun σ H Q => t σ H fun vs H1 => tk σ H1 fun zs H2 => vs.length = n ∧ zs.length = nk ∧ ∀ x dx, H2 x = none → H2 dx = none → dx ≠ x → sp (gV (.ref x :: vs) zs) (upd (upd H2 dx (.own x)) x (.ins C dx [])) (fun v H3 => v = .non ∧ Q (.ref x) H3) (E σ)
end
end MM

set_option maxRecDepth 100000
set_option maxHeartbeats 4000000

namespace MM
open PySem PySem.Spec PyProof.Rows L2
abbrev CKw (X : Cx) (W : WX) (kws : List Keyword) (m : AM) : Prop := PK X kws (mAX (cfg X) W m)
section
variable {X : Cx} {W : WX}


end
end MM

set_option maxRecDepth 100000
set_option maxHeartbeats 4000000

namespace MM
open PySem PySem.Spec PyProof.Rows L2
section
variable {X : Cx}
def gDx (o i : EM) : GM := fun v ρ => (o ρ).bind fun w => (i ρ).bind fun j => (dPut w j v).bind fun _ => M.pure ρ
end
section
variable {K : PySem.W.Frag} {x qual : PySem.Str} {st : Stmt} {dvs : List V} {kws : List (PySem.Str × V)} {f : Addr} {fd : FuncData} {ps : List PySem.Str} {ds : List Wv}
end
end MM

set_option maxRecDepth 100000
set_option maxHeartbeats 4000000

namespace VS
open PySem PySem.Spec PyProof.Rows L2 MS K01
section
variable {X : Cx}
def tDct (wi : TI) (g : TG) (tt : TT) (tk tv : TE) (vs : List Nat) : TE := fun σ H Q => wi σ H fun J H1 => ∀ D, H1 D = none → ∃ W : Nat → Nat → Hp → Prop, (∃ m, W 0 m (upd H1 D (.dT []))) ∧
  ∀ i m H, W i m H → (J.stop i H ∧ Q (.ref D) H) ∨ (J.go i H ∧ ∃ Nx : Hp → Prop, (∀ H', Nx H' → ∃ m', m' < m ∧ W (i + 1) m' H') ∧ ∀ x H', J.yld i H x H' → g x (wipe σ vs) H' fun σ2 H2 => wipe σ2 vs = wipe σ vs ∧
    tt σ2 H2 fun b H5 => if b = true then tk σ2 H5 fun y H6 => tv σ2 H6 fun v H7 => ∃ (a : Addr) (k : List Key) (kvs : List (List Key × V)), y = .ref a ∧ H7 a = some (.tup (k.map kV)) ∧ H7 D = some (.dT kvs) ∧ kvs.length < sizeLine ∧ Nx (upd H7 D (.dT (putK kvs k v))) else Nx H5)
end
end VS
namespace MM
open PySem PySem.Spec PyProof.Rows L2
def dttM (src : Src) (vs : List Nat) (g : GM) (t : TM) (ek ev : EM) (ρ : Env) : Nat → Nat → List (List Key × Wv) → M (List (List Key × Wv))
  | 0, _, _ => M.no
  | n + 1, k, acc => fun h => match src.at_ k h with
    | none => .no
    | some none => .ok acc h
    | some (some w) => ((g w (wipeM ρ vs)).bind fun ρ1 => (t ρ1).bind fun b => if b = true then (ek ρ1).bind fun y => (ev ρ1).bind fun z => fun h => match tkOf y with
          | some q => if acc.length < sizeLine then dttM src vs g t ek ev ρ n (k + 1) (putKW acc q z) h else .no
          | none => .no
        else dttM src vs g t ek ev ρ n (k + 1) acc) h
def eDcTt (i : IM) (vs : List Nat) (g : GM) (t : TM) (ek ev : EM) : EM := fun ρ => (i ρ).bind fun src => (dttM src vs g t ek ev ρ (src.cnt + 1) 0 []).bind fun kvs => lay (.dt kvs)
end MM

set_option maxRecDepth 100000
set_option maxHeartbeats 4000000

namespace MS
open PySem PySem.Spec PyProof.Rows L2
section
variable {P : Program} {w : World} {A : Around} {E : Value → Shared → Prop} {s : Shared}
end
section
variable {X : Cx}
end
end MS

set_option maxRecDepth 100000
set_option maxHeartbeats 4000000

namespace MS
open PySem PySem.Spec PyProof.Rows L2
section
variable {X : Cx}
def rSetDD (K : PySem.W.Frag) (P : Program) (w : World) : List V → Hp → VK → Prop := fun xs H Q => ∃ (l : Addr) (ks : List Row), xs = [V.ref l] ∧ (SqL K H l (ks.map fun p => V.ref p.1) ∨ SqT K H l (ks.map fun p => V.ref p.1)) ∧ Dots K H ks ∧ (∃ D : List (List Key), D.length < 63 ∧ ∀ p ∈ ks, p.2 ∈ D) ∧
  ∀ a L, H a = none → Of ks L → Q (.ref a) (upd H a (MSO P w a L))
end
end MS
namespace MM
open PySem PySem.Spec PyProof.Rows L2 K01
def setDM : FM := fun ws h => match ws with
  | [w] => match dsq h w with
    | some us => match us.mapM tkOf with
      | some ks => if (sortK ks).length < 63 then lay (.sdt ks) h else .no
      | none => .no
    | none => .no
  | _ => .no

section
variable {X : Cx}
def rSetdT : V → List V → Hp → VK → Prop := fun x vs H Q => ∃ (a : Addr) (kvs : List (List Key × V)) (k : List Key) (b : Addr) (dv : V), x = .ref a ∧ vs = [.ref b, dv] ∧ H a = some (.dT kvs) ∧ H b = some (.tup (k.map kV)) ∧ kvs.length < sizeLine ∧
  (∀ y, valV kvs k = some y → Q y H) ∧ (valV kvs k = none → Q dv (upd H a (.dT (putK kvs k dv))))
def setdTM : FT := fun w ws h => match w, ws with
  | .obj i, [k, v] => match h[i]?, tkOf k with
    | some (.dt kvs), some y => if kvs.length < sizeLine then (match valW kvs y with
      | some u => .ok u h
      | none => .ok v (h.set i (.dt (putKW kvs y v)))) else .no
    | _, _ => .no
  | _, _ => .no
end
end MM

set_option maxRecDepth 100000
set_option maxHeartbeats 4000000

namespace MM
open PySem PySem.Spec PyProof.Rows L2
def isDtW (w : Wv) (h : Hm) : Bool := match w with
  | .obj i => match h[i]? with
    | some (.dt _) => true
    | some (.frz (.dt _)) => true
    | _ => false
  | _ => false
def eBy (d a b : EM) : EM := fun ρ h => match d ρ h with
  | .ok w _ => if isDtW w h = true then b ρ h else a ρ h
  | _ => .no
end MM

set_option maxRecDepth 100000
set_option maxHeartbeats 4000000
namespace GP
open PySem PySem.Spec PyProof.Rows L2 K01 MM
def m_House_cell : FM := fun_ 2 2 ((sRet (eDget2 (eFld "House" "own_cells" (eVar 0)) (eVar 1) (eTup aNil))))
def m_House_words : FM := fun_ 1 1 ((sRet (eCall sortDk (aCons (eFld "House" "own_cells" (eVar 0)) aNil))))
def m_House_note : FM := fun_ 3 3 ((sRet (eDget2 (eFld "House" "own_notes" (eVar 0)) (eTup (aCons (eVar 1) (aCons (eVar 2) aNil))) (eTup aNil))))
def m_House_notes : FM := fun_ 1 1 ((sRet (eCall sortGt (aCons (eFld "House" "own_notes" (eVar 0)) aNil))))
def m_House_state : FM := fun_ 5 1 ((sSeq (sSet 1 (eCall tupOf (aCons (eLc (iSeqM (eMeth "House" "words" m_House_words (eVar 0) aNil)) [3] (gN 3) tYesM (eTup (aCons (eVar 3) (aCons (eMeth "House" "cell" m_House_cell (eVar 0) (aCons (eVar 3) aNil)) aNil)))) aNil)))
    (sSeq (sSet 2 (eCall tupOf (aCons (eLc (iSeqM (eMeth "House" "notes" m_House_notes (eVar 0) aNil)) [3, 4] (gT 2 (gsCons (gN 3) (gsCons (gN 4) gsNil))) tYesM (eTup (aCons (eVar 3) (aCons (eVar 4) (aCons (eMeth "House" "note" m_House_note (eVar 0) (aCons (eVar 3) (aCons (eVar 4) aNil))) aNil))))) aNil)))
    (sRet (eTup (aCons (eFld "House" "own_name" (eVar 0)) (aCons (eFld "House" "own_life" (eVar 0)) (aCons (eFld "House" "own_number" (eVar 0)) (aCons (eVar 1) (aCons (eVar 2) aNil))))))))))
def m_House___eq__ : FM := fun_ 2 2 ((sRet (eAnd (eCall (isiX "House") (aCons (eVar 1) (aCons (eC (.glob "House")) aNil))) (eOp (eqB false) (eMeth "House" "state" m_House_state (eVar 0) aNil) (eMeth "House" "state" m_House_state (eVar 1) aNil)))))
def m_House___init__ : FM := fun_ 3 3 ((sSeq (sFldM "House" "own_name" (eVar 0) (eVar 1))
    (sSeq (sFldM "House" "own_life" (eVar 0) (eVar 2))
    (sSeq (sFldM "House" "own_number" (eVar 0) (eC (.int 0)))
    (sSeq (sFldM "House" "own_cells" (eVar 0) eDnewK)
    (sFldM "House" "own_notes" (eVar 0) eDnewT))))))
def m_House_twin : FM := fun_ 4 1 ((sSeq (sSet 1 (eMakeK "House" 2 0 [0, 1, 2] [.int 1] m_House___init__ (aCons (eFld "House" "own_name" (eVar 0)) (aCons (eFld "House" "own_life" (eVar 0)) aNil)) aNil))
    (sSeq (sFldM "House" "own_number" (eVar 1) (eFld "House" "own_number" (eVar 0)))
    (sSeq (sFldM "House" "own_cells" (eVar 1) (eLock (eFld "House" "own_cells" (eVar 0)) (eDc (iKeysW (eFld "House" "own_cells" (eVar 0))) [2] (gN 2) tYesM (eVar 2) (eOp dgetM (eFld "House" "own_cells" (eVar 0)) (eVar 2)))))
    (sSeq (sFldM "House" "own_notes" (eVar 1) (eLock (eFld "House" "own_notes" (eVar 0)) (eDcTt (iKeysW (eFld "House" "own_notes" (eVar 0))) [3] (gN 3) tYesM (eVar 3) (eOp dgetM (eFld "House" "own_notes" (eVar 0)) (eVar 3)))))
    (sRet (eVar 1)))))))
def m_put_or_drop : FM := fun_ 3 3 ((sIf (tTru (eVar 2)) (sDput (eVar 0) (eVar 1) (eVar 2)) (sIf (tOf (eOp (dinM false) (eVar 1) (eVar 0))) (sCut (eVar 0) (eVar 1)) sNil)))
def m_House_put_cell : FM := fun_ 3 3 ((sSeq (sExpr (eCall m_look_at_cell (aCons (eVar 2) aNil)))
    (sExpr (eCall m_put_or_drop (aCons (eFld "House" "own_cells" (eVar 0)) (aCons (eVar 1) (aCons (eVar 2) aNil)))))))
def m_House_put_note : FM := fun_ 4 4 ((sSeq (sExpr (eCall m_look_at_cell (aCons (eVar 3) aNil)))
    (sExpr (eCall m_put_or_drop (aCons (eFld "House" "own_notes" (eVar 0)) (aCons (eTup (aCons (eVar 1) (aCons (eVar 2) aNil))) (aCons (eVar 3) aNil)))))))
def m_House_keep : FM := fun_ 4 4 ((sIf (tOrM (tOf (eOp (isNB false) (eVar 3) (eC .non))) (tOf (eOp (eqB false) (eVar 3) (eFld "House" "own_name" (eVar 0))))) (sExpr (eMeth "House" "put_cell" m_House_put_cell (eVar 0) (aCons (eVar 1) (aCons (eCall m_joined (aCons (eLst (aCons (eMeth "House" "cell" m_House_cell (eVar 0) (aCons (eVar 1) aNil)) (aCons (eVar 2) aNil))) aNil)) aNil)))) (sExpr (eMeth "House" "put_note" m_House_put_note (eVar 0) (aCons (eVar 1) (aCons (eVar 3) (aCons (eCall m_joined (aCons (eLst (aCons (eMeth "House" "note" m_House_note (eVar 0) (aCons (eVar 1) (aCons (eVar 3) aNil))) (aCons (eVar 2) aNil))) aNil)) aNil)))))))
def m_House_lose_all : FM := fun_ 1 1 ((sSeq (sFldAug "House" "own_life" (fun i j => i + j) (eVar 0) (eC (.int 1)))
    (sSeq (sFldM "House" "own_number" (eVar 0) (eC (.int 0)))
    (sSeq (sFldM "House" "own_cells" (eVar 0) eDnewK)
    (sFldM "House" "own_notes" (eVar 0) eDnewT)))))
def x_House_put_cell : FM := funX 3 3 ((sSeq (sX (sExpr (eCall x_look_at_cell (nrA (aCons (eVar 2) aNil)))))
    (nrS (sExpr (eCall m_put_or_drop (aCons (eFld "House" "own_cells" (eVar 0)) (aCons (eVar 1) (aCons (eVar 2) aNil))))))))
def x_House_put_note : FM := funX 4 4 ((sSeq (sX (sExpr (eCall x_look_at_cell (nrA (aCons (eVar 3) aNil)))))
    (nrS (sExpr (eCall m_put_or_drop (aCons (eFld "House" "own_notes" (eVar 0)) (aCons (eTup (aCons (eVar 1) (aCons (eVar 2) aNil))) (aCons (eVar 3) aNil))))))))
def x_House_keep : FM := funX 4 4 ((sIfX (nrT (tOrM (tOf (eOp (isNB false) (eVar 3) (eC .non))) (tOf (eOp (eqB false) (eVar 3) (eFld "House" "own_name" (eVar 0)))))) (sX (sExpr (eMeth "House" "put_cell" x_House_put_cell (nrE (eVar 0)) (aCons (nrE (eVar 1)) (aCons (eCall x_joined (nrA (aCons (eLst (aCons (eMeth "House" "cell" m_House_cell (eVar 0) (aCons (eVar 1) aNil)) (aCons (eVar 2) aNil))) aNil))) (nrA aNil)))))) (sX (sExpr (eMeth "House" "put_note" x_House_put_note (nrE (eVar 0)) (aCons (nrE (eVar 1)) (aCons (nrE (eVar 3)) (aCons (eCall x_joined (nrA (aCons (eLst (aCons (eMeth "House" "note" m_House_note (eVar 0) (aCons (eVar 1) (aCons (eVar 3) aNil))) (aCons (eVar 2) aNil))) aNil))) (nrA aNil)))))))))
def m_next_number : FM := fun_ 3 2 ((sRet (eOp addM (eCall maxL (aCons (eOp addM (eLst (aCons (eVar 0) aNil)) (eLc (iSeqM (eVar 1)) [2] (gN 2) tYesM (eOp ixM (eVar 2) (eC (.int 0))))) aNil)) (eC (.int 1)))))
def m_House_new_dot : FM := fun_ 2 2 ((sSeq (sFldM "House" "own_number" (eVar 0) (eCall m_next_number (aCons (eFld "House" "own_number" (eVar 0)) (aCons (eVar 1) aNil))))
    (sRet (eTup (aCons (eFld "House" "own_number" (eVar 0)) (aCons (eFld "House" "own_name" (eVar 0)) (aCons (eFld "House" "own_life" (eVar 0)) aNil)))))))
def m_House_given_back : FM := fun_ 6 4 ((sSeq (sSet 4 (eLc (iSeqM (eMeth "House" "note" m_House_note (eVar 0) (aCons (eVar 1) (aCons (eVar 2) aNil)))) [5] (gN 5) (tOf (eOp (inM true) (eOp ixM (eVar 5) (eC (.int 0))) (eVar 3))) (eVar 5)))
    (sExpr (eMeth "House" "put_note" m_House_put_note (eVar 0) (aCons (eVar 1) (aCons (eVar 2) (aCons (eCall tupOf (aCons (eVar 4) aNil)) aNil)))))))
def m_without_elder : FM := fun_ 3 2 ((sSeq (sExpr (eCall m_look_at_cell (aCons (eVar 0) aNil)))
    (sRet (eCall tupOf (aCons (eLc (iSeqM (eVar 0)) [2] (gN 2) (tNotM (tTru (eCall m_is_elder (aCons (eOp ixM (eVar 2) (eC (.int 2))) (aCons (eVar 1) aNil))))) (eVar 2)) aNil)))))
def m_without_elder_marks : FM := fun_ 4 2 ((sSeq (sSet 2 (eLock (eVar 0) (eBy (eVar 0) (eDc (iKeysW (eVar 0)) [3] (gN 3) tYesM (eVar 3) (eCall m_without_elder (aCons (eOp dgetM (eVar 0) (eVar 3)) (aCons (eVar 1) aNil)))) (eDcTt (iKeysW (eVar 0)) [3] (gN 3) tYesM (eVar 3) (eCall m_without_elder (aCons (eOp dgetM (eVar 0) (eVar 3)) (aCons (eVar 1) aNil)))))))
    (sRet (eLock (eVar 2) (eBy (eVar 2) (eDc (iKeysW (eVar 2)) [3] (gN 3) (tTru (eOp dgetM (eVar 2) (eVar 3))) (eVar 3) (eOp dgetM (eVar 2) (eVar 3))) (eDcTt (iKeysW (eVar 2)) [3] (gN 3) (tTru (eOp dgetM (eVar 2) (eVar 3))) (eVar 3) (eOp dgetM (eVar 2) (eVar 3))))))))
def m_House_sweep : FM := fun_ 6 2 ((sSeq (sSet 2 (eOp addM (eVals (eFld "House" "own_cells" (eVar 0))) (eVals (eFld "House" "own_notes" (eVar 0)))))
    (sSeq (sSet 3 (eLc2 (iSeqM (eVar 2)) [4, 5] (gN 4) tYesM (iSeqM (eVar 4)) [5] (gN 5) (tTru (eCall m_is_elder (aCons (eOp ixM (eVar 5) (eC (.int 2))) (aCons (eVar 1) aNil)))) (eOp ixM (eVar 5) (eC (.int 0)))))
    (sSeq (sFldM "House" "own_cells" (eVar 0) (eCall m_without_elder_marks (aCons (eFld "House" "own_cells" (eVar 0)) (aCons (eVar 1) aNil))))
    (sSeq (sFldM "House" "own_notes" (eVar 0) (eCall m_without_elder_marks (aCons (eFld "House" "own_notes" (eVar 0)) (aCons (eVar 1) aNil))))
    (sRet (eCall sortSd (aCons (eCall setDM (aCons (eVar 3) aNil)) aNil))))))))
def m_House___len__ : FM := fun_ 1 1 ((sRet (eCall lenM (aCons (eFld "House" "own_cells" (eVar 0)) aNil))))
def m_House_called : FM := fun_ 1 1 ((sRet (eFld "House" "own_name" (eVar 0))))
def m_House_life : FM := fun_ 1 1 ((sRet (eFld "House" "own_life" (eVar 0))))
def m_House_counted : FM := fun_ 1 1 ((sRet (eFld "House" "own_number" (eVar 0))))
def m_House_all_of : FM := fun_ 3 2 ((sRet (eCall m_joined (aCons (eOp addM (eLst (aCons (eMeth "House" "cell" m_House_cell (eVar 0) (aCons (eVar 1) aNil)) aNil)) (eLc (iSeqM (eMeth "House" "notes" m_House_notes (eVar 0) aNil)) [2] (gN 2) (tOf (eOp (eqB false) (eOp ixM (eVar 2) (eC (.int 0))) (eVar 1))) (eOp dgetM (eFld "House" "own_notes" (eVar 0)) (eVar 2)))) aNil))))
end GP

set_option maxRecDepth 100000
set_option maxHeartbeats 4000000

namespace MM
open PySem PySem.Spec PyProof.Rows L2

def sRv (n : Nat) : Src := ⟨n, fun k _ => some (if k < n then some (.int ((n : Int) - 1 - k)) else none)⟩
def iRevM (m : EM) : IM := fun ρ => (m ρ).bind fun w => match w with
  | .int j => if rgB j then M.pure (sRv j.toNat) else M.no
  | _ => M.no
section
variable {X : Cx}

def rSortVw (K : PySem.W.Frag) : List V → Hp → VK → Prop := fun xs H Q => ∃ (p d : Addr) (zs : List Vd), xs = [.ref p] ∧ H p = some (viewO "dict_values" p d) ∧ Vals2 H d (zs.map (·.1)) ∧ (∀ z ∈ zs, Dp K H z.1 z.2) ∧ (∀ z ∈ zs, flatB z.2 = true) ∧ sortable (zs.map (·.2)) = true ∧ zs.length ≤ 10000 ∧ ∀ l, H l = none → Q (.ref l) (upd H l (.lst ((isort dle zs).map (·.1))))
def valsOf (h : Hm) (i : Nat) : Option (List Wv) := match h[i]? with
  | some (.dk kvs) => some (kvs.map (·.2))
  | some (.dt kvs) => some (kvs.map (·.2))
  | _ => none
def sortValsM (w : Wv) : M Wv := fun h => match w with
  | .obj i => match valsOf h i with
    | some us => match us.mapM (dat h 60) with
      | some ds => if (sortable ds && (flatAll ds && decide (us.length ≤ 10000))) = true then lay (.lst ((isort dle (us.zip ds)).map (·.1))) h else .no
      | none => .no
    | none => .no
  | _ => .no
def eSortVals (e : EM) : EM := fun ρ => (e ρ).bind sortValsM
end
end MM

set_option maxRecDepth 100000
set_option maxHeartbeats 4000000

namespace MM
open PySem PySem.Spec PyProof.Rows L2
def sLockX (e : EM) (s : SM) : SM := fun ρ h => match e ρ h with
  | .ok w _ => match unDict h w with
    | some (i, o) => match s ρ (h.set i (.frz o)) with
      | .ok r h' => match r.1 with
        | .xc _ => .ok r h'
        | _ => .ok r (h'.set i o)
      | _ => .no
    | none => .no
  | _ => .no
section
variable {X : Cx} {W : WX}
end
end MM

set_option maxRecDepth 100000
set_option maxHeartbeats 4000000

namespace MM
open PySem PySem.Spec PyProof.Rows L2
def sAugN (i : Nat) (g : Int → Int → Int) (e : EM) : SM := fun ρ => match ρ[i]? with
  | some (some u) => (e ρ).bind fun v => (augM g u v).bind fun z => M.pure (.nx, ρ.set i (some z))
  | _ => M.no
section
variable {X : Cx}
end
end MM

set_option maxRecDepth 100000
set_option maxHeartbeats 4000000

namespace MM
open PySem PySem.Spec PyProof.Rows L2
section
variable {X : Cx} {CX : CXT} {k n : Nat} {f C : Addr} {fd : FuncData} {ps ks : List PySem.Str} {sp : Sp} {E : L2.St → XK} {x m : PySem.Str} {p pos apos : Pos} {kws : List Keyword} {tk : TA} {g : List Value → List Value → List Value} {gV : List V → List V → List V}
end
section
variable {X : Cx}
end
end MM

set_option maxRecDepth 100000
set_option maxHeartbeats 4000000

namespace MM
open PySem PySem.Spec PyProof.Rows L2
def eOrT (a b : EM) : EM := fun ρ => (a ρ).bind fun w => (truM w).bind fun k => if k = true then M.pure w else b ρ
section
variable {X : Cx}
def mulSM : F2 := fun a b => match a, b with
  | .str x, .int n => if 1 ≤ n ∧ n ≤ 1000 ∧ x.length ≤ 1000 then M.pure (.str (Txt.mul x n)) else M.no
  | _, _ => M.no
end
end MM

set_option maxRecDepth 100000
set_option maxHeartbeats 4000000
namespace GP
open PySem PySem.Spec PyProof.Rows L2 K01 MM
def m_Tree_node : FM := fun_ 3 3 ((sRet (eDget1 (eFld "Tree" "own_nodes" (eVar 0)) (eTup (aCons (eVar 1) (aCons (eVar 2) aNil))))))
def m_Tree___eq__ : FM := fun_ 2 2 ((sRet (eAnd (eCall (isiX "Tree") (aCons (eVar 1) (aCons (eC (.glob "Tree")) aNil))) (eOp (eqB false) (eMeth "Tree" "node" m_Tree_node (eVar 0) (aCons (eC (.int 0)) (aCons (eC (.int 0)) aNil))) (eMeth "Tree" "node" m_Tree_node (eVar 1) (aCons (eC (.int 0)) (aCons (eC (.int 0)) aNil)))))))
def m_Tree_turn_node : FM := fun_ 4 4 ((sSeq (sIf (tOf (eOp (eqB false) (eVar 3) (eMeth "Tree" "node" m_Tree_node (eVar 0) (aCons (eVar 1) (aCons (eVar 2) aNil))))) (sRet (eC (.int 0))) sNil)
    (sSeq (sIf (tOf (eOp (isNB false) (eVar 3) (eC .non))) (sCut (eFld "Tree" "own_nodes" (eVar 0)) (eTup (aCons (eVar 1) (aCons (eVar 2) aNil)))) (sDput (eFld "Tree" "own_nodes" (eVar 0)) (eTup (aCons (eVar 1) (aCons (eVar 2) aNil))) (eVar 3)))
    (sRet (eC (.int 1))))))
def m_Tree_turn_leaf : FM := fun_ 7 3 ((sSeq (sSet 3 (eMeth "Tree" "turn_node" m_Tree_turn_node (eVar 0) (aCons (eC (.int 6)) (aCons (eVar 1) (aCons (eVar 2) aNil)))))
    (sSeq (sSet 4 (eVar 1))
    (sSeq (sFor (iRevM (eC (.int 6))) (gN 5) (sSeq (sSet 4 (eOp fdivM (eVar 4) (eC (.int 2))))
    (sSeq (sSet 6 (eTup (aCons (eMeth "Tree" "node" m_Tree_node (eVar 0) (aCons (eOp addM (eVar 5) (eC (.int 1))) (aCons (eOp mulM (eC (.int 2)) (eVar 4)) aNil))) (aCons (eMeth "Tree" "node" m_Tree_node (eVar 0) (aCons (eOp addM (eVar 5) (eC (.int 1))) (aCons (eOp addM (eOp mulM (eC (.int 2)) (eVar 4)) (eC (.int 1))) aNil))) aNil))))
    (sAugN 3 (fun i j => i + j) (eMeth "Tree" "turn_node" m_Tree_turn_node (eVar 0) (aCons (eVar 5) (aCons (eVar 4) (aCons (eIf (tOf (eOp (eqB false) (eVar 6) (eTup (aCons (eC .non) (aCons (eC .non) aNil))))) (eC .non) (eVar 6)) aNil))))))))
    (sRet (eVar 3))))))
def m_Tree_leaf : FM := fun_ 2 2 ((sRet (eMeth "Tree" "node" m_Tree_node (eVar 0) (aCons (eC (.int 6)) (aCons (eVar 1) aNil)))))
def m_Tree_put : FM := fun_ 7 3 ((sSeq (sExpr (eCall m_look_at_key (aCons (eVar 1) aNil)))
    (sSeq (sSet 3 (eCall m_dots_of (aCons (eVar 2) aNil)))
    (sSeq (sSet 4 (eCall m_place_of (aCons (eVar 1) aNil)))
    (sSeq (sSet 5 (eLc (iSeqM (eOrT (eMeth "Tree" "leaf" m_Tree_leaf (eVar 0) (aCons (eVar 4) aNil)) (eTup aNil))) [6] (gN 6) (tOf (eOp (eqB true) (eOp ixM (eVar 6) (eC (.int 0))) (eVar 1))) (eVar 6)))
    (sSeq (sIf (tTru (eVar 3)) (sExpr (eBm isLst appM (eVar 5) (aCons (eTup (aCons (eVar 1) (aCons (eVar 3) aNil))) aNil))) sNil)
    (sRet (eMeth "Tree" "turn_leaf" m_Tree_turn_leaf (eVar 0) (aCons (eVar 4) (aCons (eOrT (eCall tupOf (aCons (eCall sortM (aCons (eVar 5) aNil)) aNil)) (eC .non)) aNil))))))))))
def m_Tree___init__ : FM := fun_ 3 2 ((sSeq (sFldM "Tree" "own_nodes" (eVar 0) eDnewT)
    (sIf (tOf (eOp (isNB true) (eVar 1) (eC .non))) (sSeq (sLock (eVar 1) (sFor (iKeysW (eVar 1)) (gN 2) (sExpr (eCall m_look_at_key (aCons (eVar 2) aNil)))))
    (sLock (eVar 1) (sFor (iKeysW (eVar 1)) (gN 2) (sExpr (eMeth "Tree" "put" m_Tree_put (eVar 0) (aCons (eVar 2) (aCons (eOp dgetM (eVar 1) (eVar 2)) aNil))))))) sNil)))
def x_Tree_put : FM := funX 7 3 ((sSeq (sX (sExpr (eCall x_look_at_key (nrA (aCons (eVar 1) aNil)))))
    (sSeq (sX (sSet 3 (eCall x_dots_of (nrA (aCons (eVar 2) aNil)))))
    (sSeq (sX (sSet 4 (eCall x_place_of (nrA (aCons (eVar 1) aNil)))))
    (sSeq (nrS (sSet 5 (eLc (iSeqM (eOrT (eMeth "Tree" "leaf" m_Tree_leaf (eVar 0) (aCons (eVar 4) aNil)) (eTup aNil))) [6] (gN 6) (tOf (eOp (eqB true) (eOp ixM (eVar 6) (eC (.int 0))) (eVar 1))) (eVar 6))))
    (sSeq (nrS (sIf (tTru (eVar 3)) (sExpr (eBm isLst appM (eVar 5) (aCons (eTup (aCons (eVar 1) (aCons (eVar 3) aNil))) aNil))) sNil))
    (nrS (sRet (eMeth "Tree" "turn_leaf" m_Tree_turn_leaf (eVar 0) (aCons (eVar 4) (aCons (eOrT (eCall tupOf (aCons (eCall sortM (aCons (eVar 5) aNil)) aNil)) (eC .non)) aNil)))))))))))
def x_Tree___init__ : FM := funX 3 2 ((sSeq (nrS (sFldM "Tree" "own_nodes" (eVar 0) eDnewT))
    (sIfX (nrT (tOf (eOp (isNB true) (eVar 1) (eC .non)))) (sSeq (sLockX (eVar 1) (sFor (iKeysW (eVar 1)) (gN 2) (sX (sExpr (eCall x_look_at_key (nrA (aCons (eVar 2) aNil)))))))
    (sLockX (eVar 1) (sFor (iKeysW (eVar 1)) (gN 2) (sX (sExpr (eMeth "Tree" "put" x_Tree_put (nrE (eVar 0)) (nrA (aCons (eVar 2) (aCons (eOp dgetM (eVar 1) (eVar 2)) aNil))))))))) sNil)))
end GP

set_option maxRecDepth 100000
set_option maxHeartbeats 4000000

namespace MM
open PySem PySem.Spec PyProof.Rows L2
abbrev Cells := List (Addr × Obj)
def tellC (H : Hp) (C : Cells) (f : Addr) : Hp := fun b => match C.lookup b with
  | some o => some (.frz o (.own f))
  | none => H b
def hideC (H : Hp) (C : Cells) : Hp := fun b => match C.lookup b with
  | some _ => none
  | none => H b
section
variable {H H' : Hp} {C : Cells} {f b : Addr} {o : Obj} {u : HO}
theorem tellC_in (e : C.lookup b = some o) : tellC H C f b = some (.frz o (.own f)) := by unfold tellC; rw [e]
theorem tellC_out (e : C.lookup b = none) : tellC H C f b = H b := by unfold tellC; rw [e]
theorem hideC_in (e : C.lookup b = some o) : hideC H C b = none := by unfold hideC; rw [e]
theorem hideC_out (e : C.lookup b = none) : hideC H C b = H b := by unfold hideC; rw [e]
theorem tellC_sub (n : ∀ b o, C.lookup b = some o → H b = none) : ∀ b v, H b = some v → tellC H C f b = some v := fun b v e => by
  cases q : C.lookup b with
  | none => rw [tellC_out q]; exact e
  | some o => rw [n b o q] at e; cases e
theorem hideC_le (e : hideC H C b = some u) : H b = some u := by
  unfold hideC at e
  split at e
  · cases e
  · exact e
theorem tellC_none (e : tellC H C f b = none) : H b = none := by
  unfold tellC at e
  split at e
  · cases e
  · exact e
theorem out_of (t : ∀ b o, C.lookup b = some o → H b = some (.frz o (.own f))) (e : H b = some u) (n : ∀ o, u ≠ .frz o (.own f)) : C.lookup b = none := by
  cases q : C.lookup b with
  | none => rfl
  | some o => rw [t b o q] at e; exact absurd (Option.some.inj e).symm (n o)
end
section
variable {P : Program} {w : World} {H H' H1 : Hp} {h h' : Heap} {C : Cells} {f : Addr} {fs ex : List Addr}
theorem HOk.tellC (x : HOk P w H h) (t : ∀ b o, C.lookup b = some o → h.get? b = some o ∧ H b = none) : HOk P w (MM.tellC H C f) h := fun b u e => by
  cases q : C.lookup b with
  | none =>
    rw [tellC_out q] at e
    have sub := tellC_sub (f := f) (fun b o z => (t b o z).2)
    exact (x b u e).stay (fun _ _ _ z => z) (fun c z => sub c _ z) fun c xs z => sub c _ z
  | some o =>
    rw [tellC_in q] at e
    cases e
    exact ⟨(t b o q).1, o, (t b o q).1⟩
theorem HOk.hideC (x : HOk P w H h) (t : ∀ b o, C.lookup b = some o → H b = some (.frz o (.own f))) : HOk P w (MM.hideC H C) h := fun b u e => by
  have e' := hideC_le e
  refine (x b u e').stay (fun _ _ _ z => z) (fun c z => ?_) fun c xs z => ?_
  · rw [hideC_out (out_of t z fun o q => by cases q)]; exact z
  · rw [hideC_out (out_of t z fun o q => by cases q)]; exact z
theorem Un.hideC (u : Un fs ex (MM.tellC H C f) H' h h') (hx : HOk P w H' h') (t : ∀ b o, C.lookup b = some o → h.get? b = some o ∧ H b = none) :
    Un fs ex H (MM.hideC H' C) h h' ∧ ∀ b o, C.lookup b = some o → H' b = some (.frz o (.own f)) := by
  have k : ∀ b o, C.lookup b = some o → H' b = some (.frz o (.own f)) := fun b o q => u.frzs b o _ (tellC_in q)
  have g : ∀ b o, C.lookup b = some o → h'.get? b = some o := fun b o q => (hx b _ (k b o q)).1
  have sub := tellC_sub (f := f) (fun b o z => (t b o z).2)
  refine ⟨⟨fun b o e n hf he => ?_, fun b o e n hf he => ?_, fun b o e n he => ?_, u.there, fun b xs e => ?_, fun b o v e => ?_, fun b ps e => ?_⟩, k⟩
  · cases q : C.lookup b with
    | none => exact u.keep b o e (by rw [tellC_out q]; exact n) hf he
    | some o' =>
      have := (t b o' q).1
      rw [e] at this
      cases this
      exact g b o q
  · cases q : C.lookup b with
    | none => exact u.slot b o e (by rw [tellC_out q]; exact n) hf he
    | some o' =>
      have := (t b o' q).1
      rw [e] at this
      cases this
      exact ⟨o.slots, g b o q⟩
  · cases q : C.lookup b with
    | none => rw [hideC_out q]; exact u.free b o e (by rw [tellC_out q]; exact n) he
    | some o' => exact hideC_in q
  · cases q : C.lookup b with
    | none => rw [hideC_out q]; exact u.tups b xs (sub b _ e)
    | some o' => rw [(t b o' q).2] at e; cases e
  · cases q : C.lookup b with
    | none => rw [hideC_out q]; exact u.frzs b o v (sub b _ e)
    | some o' => rw [(t b o' q).2] at e; cases e
  · cases q : C.lookup b with
    | none => rw [hideC_out q]; exact u.tbls b ps (sub b _ e)
    | some o' => rw [(t b o' q).2] at e; cases e
theorem Un.tellC (u : Un fs ex (MM.hideC H C) H' h h') (hx : HOk P w H h) (t : ∀ b o, C.lookup b = some o → H b = some (.frz o (.own f))) (hf : ∀ b o, C.lookup b = some o → b ∉ fs) (he : ∀ b o, C.lookup b = some o → b ∉ ex) :
    Un fs ex H (MM.tellC H' C f) h h' ∧ ∀ b o, C.lookup b = some o → h'.get? b = some o ∧ H' b = none := by
  have g : ∀ b o, C.lookup b = some o → h.get? b = some o := fun b o q => (hx b _ (t b o q)).1
  have k : ∀ b o, C.lookup b = some o → h'.get? b = some o ∧ H' b = none := fun b o q => ⟨u.keep b o (g b o q) (hideC_in q) (hf b o q) (he b o q), u.free b o (g b o q) (hideC_in q) (he b o q)⟩
  refine ⟨⟨fun b o e n h1 h2 => ?_, fun b o e n h1 h2 => ?_, fun b o e n h2 => ?_, u.there, fun b xs e => ?_, fun b o v e => ?_, fun b ps e => ?_⟩, k⟩
  · cases q : C.lookup b with
    | none => exact u.keep b o e (by rw [hideC_out q]; exact n) h1 h2
    | some o' => rw [t b o' q] at n; cases n
  · cases q : C.lookup b with
    | none => exact u.slot b o e (by rw [hideC_out q]; exact n) h1 h2
    | some o' => rw [t b o' q] at n; cases n
  · cases q : C.lookup b with
    | none => rw [tellC_out q]; exact u.free b o e (by rw [hideC_out q]; exact n) h2
    | some o' => rw [t b o' q] at n; cases n
  · have q := out_of t e fun o z => by cases z
    rw [tellC_out q]; exact u.tups b xs (by rw [hideC_out q]; exact e)
  · cases q : C.lookup b with
    | none => rw [tellC_out q]; exact u.frzs b o v (by rw [hideC_out q]; exact e)
    | some o' => rw [t b o' q] at e; rw [tellC_in q]; exact e
  · have q := out_of t e fun o z => by cases z
    rw [tellC_out q]; exact u.tbls b ps (by rw [hideC_out q]; exact e)
end

section
variable {c : Cfg} {μ μ' : List Addr} {h h' : Hm} {H H' : Hp} {C : Cells} {f : Addr}
structure Hsd (c : Cfg) (H H' : Hp) : Prop where
  tq : ∀ a vs, H a = some (.tup vs) → H' a = some (.tup vs)
  ft : ∀ a ob vs, H a = some (.frz ob (.tup vs)) → H' a = some (.frz ob (.tup vs))
  fl : ∀ a ob vs, H a = some (.frz ob (.lst vs)) → H' a = some (.frz ob (.lst vs))
mutual
theorem Rp.hd (g : Hsd c H H') : ∀ {v : V} {w : Wv}, Rp c μ H v w → Rp c μ H' v w
  | _, _, .non => .non
  | _, _, .bl b => .bl b
  | _, _, .int i => .int i
  | _, _, .str x => .str x
  | _, _, .tup h r => .tup (g.tq _ _ h) (Rps.hd g r)
  | _, _, .obj h => .obj h
  | _, _, .glob h => .glob h
  | _, _, .raw v => .raw v
  | _, _, .scr (.inl ⟨ob, h⟩) => .scr (.inl ⟨ob, g.fl _ _ _ h⟩)
  | _, _, .scr (.inr h) => .scr (.inr h)
  | _, _, .ptp (.inl ⟨ob, h, d⟩) r => .ptp (.inl ⟨ob, g.ft _ _ _ h, d⟩) (Rps.hd g r)
  | _, _, .ptp (.inr h) r => .ptp (.inr h) (Rps.hd g r)
theorem Rps.hd (g : Hsd c H H') : ∀ {vs : List V} {ws : List Wv}, Rps c μ H vs ws → Rps c μ H' vs ws
  | _, _, .nil => .nil
  | _, _, .cons r t => .cons (Rp.hd g r) (Rps.hd g t)
end
theorem Rkv.hd {κ : Type} (g : Hsd c H H') {a : List (κ × V)} {b : List (κ × Wv)} (h : Rkv c μ H a b) : Rkv c μ H' a b := Paired.mapP h fun _ _ z => ⟨z.1, z.2.hd g⟩
theorem hd_hide (t : ∀ b o, C.lookup b = some o → H b = some (.frz o (.own f))) : Hsd c H (hideC H C) where
  tq := fun a vs e => by rw [hideC_out (out_of t e fun o q => by cases q)]; exact e
  ft := fun a ob vs e => by rw [hideC_out (out_of t e fun o q => by cases q)]; exact e
  fl := fun a ob vs e => by rw [hideC_out (out_of t e fun o q => by cases q)]; exact e
theorem ObjU.hide (t : ∀ b o, C.lookup b = some o → H b = some (.frz o (.own f))) (nf : C.lookup f = none) {a : Addr} (na : a ≠ f) : ∀ {o : Ob} {u : HO}, ObjU c μ H a o u → ObjU c μ (hideC H C) a o u
  | .lst _, _, ⟨vs, e, r⟩ => ⟨vs, e, r.hd (hd_hide t)⟩
  | .dk _, _, ⟨k, e, r⟩ => ⟨k, e, r.hd (hd_hide t)⟩
  | .dt _, _, ⟨k, e, r⟩ => ⟨k, e, r.hd (hd_hide t)⟩
  | .ins _ _, _, ⟨Ca, dx, fs', m, e, r⟩ => ⟨Ca, dx, fs', m, e, r.hd (hd_hide t)⟩
  | .frz _, _, ⟨ob, u', e, r⟩ => ⟨ob, u', e, ObjU.hide t nf na r⟩
  | .stx _, _, e => e
  | .sdt _, _, ⟨rows, e, q, d⟩ => ⟨rows, e, q, fun p hp => (hd_hide (c := c) t).tq _ _ (d p hp)⟩
  | .xd _, _, ⟨fs', e, r⟩ => ⟨fs', e, r.hd (hd_hide t)⟩
  | .exc _ _, _, h => h
  | .tbl _, _, ⟨k, ps, e, tr, q⟩ => ⟨k, ps, e, tr, fun pos cv z => by
      obtain ⟨d, oc, z1, z2, z3⟩ := q pos cv z
      refine ⟨d, oc, z1, z2, ?_⟩
      by_cases hdf : d = f
      · rw [hdf] at z3 ⊢; rw [hideC_out nf]; exact z3
      · rw [hideC_out (out_of t z3 fun o q => by cases q; exact hdf rfl)]; exact z3⟩
  | .fn _ _, _, ⟨params, body, scope, pos, q, cl, cc, pm, ctv, oc, vs, e1, e2, e3, e4, e5, e6, e7, e8⟩ => by
      have st : ∀ d ob x, x ≠ f → H d = some (.frz ob (.own x)) → hideC H C d = some (.frz ob (.own x)) := fun d ob x nx e => by
        rw [hideC_out (out_of t e fun o q => by cases q; exact nx rfl)]; exact e
      refine ⟨params, body, scope, pos, q, cl, cc, pm, ctv, oc, vs, e1, e2, ?_, e4, e5, e6, Paired.mapP e7 fun y v ⟨x, z1, o, w, z2, z3⟩ => ⟨x, z1, o, w, st _ _ _ na z2, z3⟩, e8.hd (hd_hide t)⟩
      by_cases hdf : cc = f
      · rw [hdf] at e3 ⊢; rw [hideC_out nf]; exact e3
      · exact st _ _ _ hdf e3
  | .dead, _, h => h
theorem Rel.hide (R : Rel c μ h H) (t : ∀ b o, C.lookup b = some o → H b = some (.frz o (.own f))) (nf : C.lookup f = none) {k : Nat} (hk : μ[k]? = some f) {ob : Obj} (hf : H f = some (.frz ob (.own f))) : Rel c μ (h.set k .dead) (hideC H C) := by
  refine ⟨by rw [List.length_set]; exact R.len, R.nd, fun i a o ha ho => ?_⟩
  by_cases e : i = k
  · subst e
    rw [hk] at ha
    cases ha
    have hl := (List.getElem?_eq_some_iff.mp hk).1
    rw [R.len] at hl
    rw [List.getElem?_set_self hl] at ho
    cases ho
    exact ⟨_, by rw [hideC_out nf]; exact hf, ob, rfl⟩
  · rw [List.getElem?_set_ne (fun z => e z.symm)] at ho
    obtain ⟨u, hu, r⟩ := R.at_ i a o ha ho
    have na : a ≠ f := fun z => by
      subst z
      have h1 := List.getElem?_eq_some_iff.mp ha
      have h2 := List.getElem?_eq_some_iff.mp hk
      exact e ((List.getElem_inj R.nd).mp (h1.2.trans h2.2.symm))
    have out : C.lookup a = none := by
      cases q : C.lookup a with
      | none => rfl
      | some o' =>
        have z := t a o' q
        rw [hu] at z
        cases z
        revert r
        cases o with
        | fn _ _ =>
          intro ⟨_, _, _, _, _, _, _, _, _, _, _, _, e2, _⟩
          cases e2
          exact absurd rfl na
        | dead =>
          intro ⟨_, e2⟩
          cases e2
          exact absurd rfl na
        | lst _ => intro ⟨_, e2, _⟩; cases e2
        | dk _ => intro ⟨_, e2, _⟩; cases e2
        | dt _ => intro ⟨_, e2, _⟩; cases e2
        | ins _ _ => intro ⟨_, _, _, _, e2, _⟩; cases e2
        | stx _ => intro e2; have e2 : _ = RQ.TxO _ _ _ _ := e2; unfold RQ.TxO at e2; cases e2
        | sdt _ => intro ⟨_, e2, _⟩; unfold MS.MSO at e2; cases e2
        | xd _ => intro ⟨_, e2, _⟩; unfold exd at e2; cases e2
        | exc _ _ => intro ⟨_, _, _, e2, _⟩; unfold exq at e2; cases e2
        | tbl _ => intro ⟨_, _, e2, _⟩; cases e2
        | frz o2 =>
          intro ⟨ob2, u2, e2, r2⟩
          cases e2
          revert r2
          cases o2 with
          | lst _ => intro ⟨_, e2, _⟩; cases e2
          | dk _ => intro ⟨_, e2, _⟩; cases e2
          | dt _ => intro ⟨_, e2, _⟩; cases e2
          | ins _ _ => intro ⟨_, _, _, _, e2, _⟩; cases e2
          | stx _ => intro e2; have e2 : _ = RQ.TxO _ _ _ _ := e2; unfold RQ.TxO at e2; cases e2
          | sdt _ => intro ⟨_, e2, _⟩; unfold MS.MSO at e2; cases e2
          | xd _ => intro ⟨_, e2, _⟩; unfold exd at e2; cases e2
          | exc _ _ => intro ⟨_, _, _, e2, _⟩; unfold exq at e2; cases e2
          | tbl _ => intro ⟨_, _, e2, _⟩; cases e2
          | frz _ => intro ⟨_, _, e2, _⟩; cases e2
          | fn _ _ => intro ⟨_, _, _, _, _, _, _, _, _, _, _, _, e2, _⟩; cases e2
          | dead => intro ⟨_, e2⟩; cases e2
    exact ⟨u, by rw [hideC_out out]; exact hu, r.hide t nf na⟩
theorem Go.hide (g : Go c μ (tellC H C f) μ' H') (n : ∀ b o, C.lookup b = some o → H b = none) : Go c μ H μ' (hideC H' C) := by
  have sub := tellC_sub (f := f) n
  have out : ∀ b u, H b = some u → C.lookup b = none := fun b u e => by
    cases q : C.lookup b with
    | none => rfl
    | some o => rw [n b o q] at e; cases e
  refine ⟨⟨⟨g.pre, fun a vs z => ?_, fun a vs z => by rw [hideC_out (out a _ z)]; exact g.tq a vs (sub a _ z), fun a ob u nd z => by rw [hideC_out (out a _ z)]; exact g.fl a ob u nd (sub a _ z)⟩, fun a ob u z => by rw [hideC_out (out a _ z)]; exact g.fz a ob u (sub a _ z)⟩,
    fun a o z m => by rw [hideC_out (out a _ z)]; exact g.fr a o (sub a _ z) m, fun a m k => tellC_none (g.new a m k)⟩
  rcases z with (z | ⟨ob, z⟩) | z
  · exact .inl (.inl (by rw [hideC_out (out a _ z)]; exact g.tq a vs (sub a _ z)))
  · exact .inl (.inr ⟨ob, by rw [hideC_out (out a _ z)]; exact g.fz a ob _ (sub a _ z)⟩)
  · exact .inr z
theorem Go.tell (g : Go c μ (hideC H C) μ' H') (R : Rel c μ' h' H') (t : ∀ b o, C.lookup b = some o → H b = some (.frz o (.own f))) (k : ∀ b o, C.lookup b = some o → H' b = none) : Go c μ H μ' (tellC H' C f) := by
  refine ⟨⟨⟨g.pre, fun a vs z => ?_, fun a vs z => ?_, fun a ob u nd z => ?_⟩, fun a ob u z => ?_⟩, fun a o z m => ?_, fun a m n => ?_⟩
  · rcases z with (z | ⟨ob, z⟩) | z
    · have q := out_of t z fun o z => by cases z
      exact .inl (.inl (by rw [tellC_out q]; exact g.tq a vs (by rw [hideC_out q]; exact z)))
    · have q := out_of t z fun o z => by cases z
      exact .inl (.inr ⟨ob, by rw [tellC_out q]; exact g.fz a ob _ (by rw [hideC_out q]; exact z)⟩)
    · exact .inr z
  · have q := out_of t z fun o z => by cases z
    rw [tellC_out q]; exact g.tq a vs (by rw [hideC_out q]; exact z)
  · cases q : C.lookup a with
    | none => rw [tellC_out q]; exact g.fl a ob u nd (by rw [hideC_out q]; exact z)
    | some o => rw [tellC_in q, ← t a o q]; exact z
  · cases q : C.lookup a with
    | none => rw [tellC_out q]; exact g.fz a ob u (by rw [hideC_out q]; exact z)
    | some o => rw [tellC_in q, ← t a o q]; exact z
  · cases q : C.lookup a with
    | none => rw [tellC_out q]; exact g.fr a o (by rw [hideC_out q]; exact z) m
    | some o' => rw [tellC_in q, ← t a o' q]; exact z
  · have z := g.new a m n
    cases q : C.lookup a with
    | none => rw [hideC_out q] at z; exact z
    | some o =>
      obtain ⟨i, hi⟩ := List.getElem?_of_mem m
      have hl := (List.getElem?_eq_some_iff.mp hi).1
      rw [R.len] at hl
      obtain ⟨v, e, _⟩ := R.at_ i a _ hi (List.getElem?_eq_getElem hl)
      rw [k a o q] at e
      cases e
end
end MM

set_option maxRecDepth 100000
set_option maxHeartbeats 4000000

namespace MM
open PySem PySem.Spec PyProof.Rows L2
section
variable {X : Cx} {pins : List (Addr × Obj)} {σ : L2.St} {H : Hp} {s : Shared}
theorem retold (I : Inv X pins σ H s) {d : Addr} {φ : Heap → Prop} (e : H d = some (.ext φ)) {o : HO} (ok : ObjOk X.prog X.w (upd H d o) s.heap d o) : Inv X pins σ (upd H d o) s := by
  have ne : ∀ {b : Addr} {u : HO}, H b = some u → (∀ ψ, u ≠ .ext ψ) → b ≠ d := fun {b u} q n z => by
    rw [z, e] at q
    exact n φ (Option.some.inj q).symm
  have nn : ∀ {b : Addr}, H b = none → b ≠ d := fun {b} q z => by rw [z, e] at q; cases q
  refine I.un (h' := s.heap) (t' := s.toks) ⟨fun b ob q _ _ _ => q, fun b ob q _ _ _ => ⟨ob.slots, q⟩, fun b ob q n _ => by rw [upd_ne (nn n)]; exact n, fun b ob q _ => ⟨ob, q⟩,
    fun b xs q => by rw [upd_ne (ne q fun _ z => by cases z)]; exact q, fun b ob u q => by rw [upd_ne (ne q fun _ z => by cases z)]; exact q, fun b ps q => ⟨#[], by rw [upd_ne (ne q fun _ z => by cases z), q]; simp⟩⟩ fun b u q => ?_
  by_cases hb : b = d
  · subst hb
    rw [upd_same] at q
    cases q
    exact ok
  · rw [upd_ne hb] at q
    exact (I.hok b u q).stay (fun _ _ _ z => z) (fun c z => by rw [upd_ne (ne z fun _ y => by cases y)]; exact z) fun c xs z => by rw [upd_ne (ne z fun _ y => by cases y)]; exact z
end
theorem set_id {α : Type} {l : List α} {k : Nat} {x : α} (e : l[k]? = some x) : l.set k x = l := by
  refine List.ext_getElem? fun i => ?_
  by_cases h : i = k
  · subst h
    rw [List.getElem?_set_self (List.getElem?_eq_some_iff.mp e).1, e]
  · rw [List.getElem?_set_ne (fun z => h z.symm)]
theorem upd_swap {H : Hp} {a b : Addr} {o u : HO} (n : a ≠ b) : upd (upd H a o) b u = upd (upd H b u) a o := by
  funext x
  by_cases h1 : x = a
  · subst h1
    rw [upd_ne n, upd_same, upd_same]
  · by_cases h2 : x = b
    · subst h2
      rw [upd_same, upd_ne h1, upd_same]
    · rw [upd_ne h2, upd_ne h1, upd_ne h1, upd_ne h2]
structure LamAt (X : Cx) (H : Hp) (params : Arguments) (body : Expr) (scope : Scope) (q : PySem.Str) (f : Addr) : Prop where
  ex : ∃ (cc : Addr) (oc : Obj) (pm ctv : Value), H f = some (.frz (PySem.W.kla_obj "<lambda>" q params body scope (cloFrom X.env.cells scope.names []) pm cc ctv) (.own f)) ∧ H cc = some (.frz oc (.own cc)) ∧ CodeNm oc q
section
variable {X : Cx} {pins : List (Addr × Obj)} {σ : L2.St} {H : Hp} {s : Shared} {μ : List Addr} {h : Hm}
theorem lam_eval {x : PySem.Str} {c P : Addr} {k : Nat} {params : Arguments} {body : Expr} {scope : Scope} {pos : Pos} {E : Value → Shared → Prop} {Q : Value → Shared → Prop} (I : Inv X pins σ H s) (R : Rel (cfg X) μ h H) (hk : h[k]? = some (.tbl x)) (TB : LamX.TabB X.base X.mg c P) (hcode : X.env.code = .ref c)
    (ht : PySem.W.tabIn X.K x = some (c, P)) (hq : X.env.qual ++ "<lambda>" = lamQ x) (hdef : defaultsOf params X.env = ([], [])) (hfree : ∀ y ∈ scope.names, y.2 = .free → ∃ c, X.env.cells.lookup y.1 = some c)
    (g : ∀ (f : Addr) (H1 : Hp) (s' : Shared), Inv X pins σ H1 s' → Go (cfg X) μ H (μ ++ [f]) H1 → Rel (cfg X) (μ ++ [f]) (h ++ [.dead]) H1 → LamAt X H1 params body scope (lamQ x) f → Q (.ref f) s') :
    wpAny (model X.prog X.w) X.A (eval (.Lambda params body scope pos) X.env) Q E s := by
  obtain ⟨a, ha⟩ := R.addr hk
  obtain ⟨u, hP, ⟨C, hC⟩, ps, rfl, tr, ha2⟩ := R.get ha hk
  rw [ht] at hC
  cases hC
  refine PySem.W.kla_eval hdef ?_
  rw [hq]
  have bP : s.heap.BuiltinsAt X.mg P := TB.bm.keeps I.bk
  have hP' : s.heap.get? P = some { cls := .none, data := .fields ps } := I.hok P _ hP
  have nfP : ∀ ob u, H P ≠ some (.frz ob u) := fun ob u z => by rw [hP] at z; cases z
  cases hc : codeAmong pos ps.toList with
  | none =>
    refine PySem.W.kla_makeFunction (mg := X.mg) (c := c) (P := P) (ps := ps) (closure_ok hfree) I.ok.glob (I.mod.glob.keeps I.bk) hcode (TB.code.keeps I.bk) hP' tr hc TB.gP bP fun c' ctv h' tk hx hge hlt hrec htb => ?_
    obtain ⟨c2, oc, vs, t, e2, hoc, hd, hv⟩ := hrec
    cases e2
    have nC : H c' = none := I.hok.fresh hge
    have nCP : P ≠ c' := ne_of_none hP nC
    have I1 := LamX.inv_table (q := lamQ x) (t' := tk) (more := #[rawInt pos.line, rawInt pos.col, .ref c']) (h' := h') I hP (fun b o hb e => hx b o hb e) htb hge ⟨oc, vs, t, hoc, hd, hv⟩
    have I2 := retold I1 (d := c') upd_same (o := .frz oc (.own c')) ⟨hoc, oc, hoc⟩
    rw [upd_upd] at I2
    have sz : H h'.objs.size = none := I.hok.fresh (Nat.le_trans hge (Nat.le_of_lt hlt))
    have gf : (h'.push (PySem.W.kla_obj "<lambda>" (lamQ x) params body scope (cloFrom X.env.cells scope.names []) ((X.mg "__name__").getD .none) c' ctv)).get? h'.objs.size = some (PySem.W.kla_obj "<lambda>" (lamQ x) params body scope (cloFrom X.env.cells scope.names []) ((X.mg "__name__").getD .none) c' ctv) := Heap.get?_push_size _ rfl
    have I3 := I2.laid (a := h'.objs.size) (o := .frz (PySem.W.kla_obj "<lambda>" (lamQ x) params body scope (cloFrom X.env.cells scope.names []) ((X.mg "__name__").getD .none) c' ctv) (.own h'.objs.size)) (t' := tk)
      (h' := h'.push (PySem.W.kla_obj "<lambda>" (lamQ x) params body scope (cloFrom X.env.cells scope.names []) ((X.mg "__name__").getD .none) c' ctv)) (fun b u e => Heap.get?_push_of_some _ e) (Nat.le_refl _) ⟨gf, _, gf⟩
    obtain ⟨g1, R1⟩ := R.aside nC (u := .frz oc (.own c'))
    have hP1 : upd H c' (.frz oc (.own c')) P = some (.tbl ps) := by rw [upd_ne nCP]; exact hP
    obtain ⟨g2, R2⟩ := R1.put ha (fun ob u z => by rw [hP1] at z; cases z) (o := .tbl x) (u := .tbl (ps ++ #[rawInt pos.line, rawInt pos.col, .ref c'])) fun μ' H' gw => by
      refine ⟨⟨c, ht⟩, _, rfl, ?_, fun p' cv hcv => ?_⟩
      · have eL : (ps ++ #[rawInt pos.line, rawInt pos.col, .ref c']).toList = ps.toList ++ [rawInt pos.line, rawInt pos.col, .ref c'] := by simp
        rw [eL]
        exact PySem.TriplesOk_snoc _ _ _ _ tr
      · have eL : (ps ++ #[rawInt pos.line, rawInt pos.col, .ref c']).toList = ps.toList ++ [rawInt pos.line, rawInt pos.col, .ref c'] := by simp
        rw [eL] at hcv
        rcases LamX.among_app _ tr hcv with z | z
        · obtain ⟨d, od, z1, z2, z3⟩ := ha2 p' cv z
          exact ⟨d, od, z1, z2, gw.fz _ _ _ (by rw [upd_ne (ne_of_none z3 nC)]; exact z3)⟩
        · exact ⟨c', oc, z, ⟨vs, t, hd, hv⟩, gw.fz _ _ _ upd_same⟩
    rw [set_id hk] at R2
    rw [upd_swap nCP.symm] at g2 R2
    have nf : upd (upd H P (.tbl (ps ++ #[rawInt pos.line, rawInt pos.col, .ref c']))) c' (.frz oc (.own c')) h'.objs.size = none := by
      rw [upd_ne (Nat.ne_of_gt hlt), upd_ne (fun z => by rw [z, hP] at sz; cases sz)]; exact sz
    obtain ⟨g3, R3⟩ := R2.lay nf (o := .dead) (u := .frz (PySem.W.kla_obj "<lambda>" (lamQ x) params body scope (cloFrom X.env.cells scope.names []) ((X.mg "__name__").getD .none) c' ctv) (.own h'.objs.size)) fun _ _ _ => ⟨_, rfl⟩
    exact g _ _ _ I3 (g1.trans (g2.trans g3)) R3 ⟨c', oc, _, ctv, upd_same, by rw [upd_ne (Nat.ne_of_lt hlt), upd_same], vs, t, hd, hv⟩
  | some cv =>
    obtain ⟨c', oc, e, hnm, hco⟩ := ha2 pos cv hc
    subst e
    refine PySem.W.kla_makeFunctionHit (mg := X.mg) (c := c) (P := P) (ps := ps) (closure_ok hfree) I.ok.glob (I.mod.glob.keeps I.bk) hcode (TB.code.keeps I.bk) hP' tr hc bP fun ctv h' tk hx hsz => ?_
    have I1 : Inv X pins σ H { s with heap := h', toks := tk } := I.kept hx
    have sz : H h'.objs.size = none := I.hok.fresh hsz
    have gf : (h'.push (PySem.W.kla_obj "<lambda>" (lamQ x) params body scope (cloFrom X.env.cells scope.names []) ((X.mg "__name__").getD .none) c' ctv)).get? h'.objs.size = some (PySem.W.kla_obj "<lambda>" (lamQ x) params body scope (cloFrom X.env.cells scope.names []) ((X.mg "__name__").getD .none) c' ctv) := Heap.get?_push_size _ rfl
    have I3 := I1.laid (a := h'.objs.size) (o := .frz (PySem.W.kla_obj "<lambda>" (lamQ x) params body scope (cloFrom X.env.cells scope.names []) ((X.mg "__name__").getD .none) c' ctv) (.own h'.objs.size)) (t' := tk)
      (h' := h'.push (PySem.W.kla_obj "<lambda>" (lamQ x) params body scope (cloFrom X.env.cells scope.names []) ((X.mg "__name__").getD .none) c' ctv)) (fun b u e => Heap.get?_push_of_some _ e) (Nat.le_refl _) ⟨gf, _, gf⟩
    obtain ⟨g3, R3⟩ := R.lay sz (o := .dead) (u := .frz (PySem.W.kla_obj "<lambda>" (lamQ x) params body scope (cloFrom X.env.cells scope.names []) ((X.mg "__name__").getD .none) c' ctv) (.own h'.objs.size)) fun _ _ _ => ⟨_, rfl⟩
    exact g _ _ _ I3 g3 R3 ⟨c', oc, _, ctv, upd_same, by rw [upd_ne (ne_of_none hco sz)]; exact hco, hnm⟩
end
end MM

set_option maxRecDepth 100000
set_option maxHeartbeats 4000000

namespace MM
open PySem PySem.Spec PyProof.Rows L2
theorem in_of_lookup {α β : Type} [BEq α] [LawfulBEq α] : ∀ {l : List (α × β)} {a : α} {b : β}, l.lookup a = some b → (a, b) ∈ l
  | [], _, _, h => by cases h
  | (x, y) :: t, a, b, h => by
    rw [List.lookup_cons] at h
    cases q : a == x with
    | true =>
      rw [q] at h
      cases h
      rw [eq_of_beq q]
      exact List.mem_cons_self
    | false => rw [q] at h; exact List.mem_cons_of_mem _ (in_of_lookup h)
theorem pair_at {α β : Type} {F : α → β → Prop} : ∀ {a : List α} {b : List β} {i : Nat} {x : α}, Paired F a b → a[i]? = some x → ∃ y, b[i]? = some y ∧ F x y
  | _, _, i, _, .nil, h => by simp at h
  | _, _, 0, _, .cons r _, h => by simp at h; subst h; exact ⟨_, rfl, r⟩
  | _, _, i + 1, _, .cons _ t, h => by
    obtain ⟨y, e, r⟩ := pair_at (i := i) t (by simpa using h)
    exact ⟨y, by simpa using e, r⟩
def lamM (n j : Nat) (b : EM) : List Wv → FM := fun cs ws => if ws.length = j then b (ws.map some ++ (cs.map some ++ List.replicate (n - ws.length - cs.length) none)) else M.no
section
variable {P : Program} {w : World} {K : PySem.W.Frag} {mg : PySem.Str → Option Value} {base : Heap}
theorem lam_body {N ps : List PySem.Str} {params : Arguments} {body : Expr} {scope : Scope} {k : Nat} {b : EM} (S : NdefX.NScope N ps (frOf scope) scope)
    (hb : ∀ (q : PySem.Str) (cl : List (PySem.Str × Addr)) (pm cv ctv : Value) (us : List Value), us.length = ps.length → bindArgs (PySem.W.kla_fn "<lambda>" q params body scope cl pm cv ctv) ⟨us, []⟩ = pure (ps.zip us))
    (hbody : ∀ (A : Around) (outer : List PySem.Env) (s : Shared) (H : Hp) (F : NdefX.NF) (f : Addr), F.scope = scope → Room k (A.deeper (NdefX.envF F f s.heap.objs.size)) → ME (NdefX.ncx CX0 P w K mg base N F f A outer s H E0) body b)
    {A : Around} {outer : List PySem.Env} {s : Shared} {H : Hp} {q : PySem.Str} {cl : List (PySem.Str × Addr)} {cc f : Addr} {pm ctv : Value} {us : List Value} {vs cvs : List V} {ws cs : List Wv} {μ : List Addr} {h h' : Hm} {w' : Wv} {Q : VK}
    (hr : Room (k + 1) A) (e0 : Env0 P w K mg base A outer s H) (ho : s.heap.get? f = some (PySem.W.kla_obj "<lambda>" q params body scope cl pm cc ctv)) (hc : s.heap.CodeRec (.ref cc) q)
    (C : NdefX.CellsAt cl (frOf scope) (cvs.map some) s.heap H) (r : Vals vs us) (R : Rel ⟨P, w, K, mg⟩ μ h H) (p : Rps ⟨P, w, K, mg⟩ μ H vs ws) (pc : Rps ⟨P, w, K, mg⟩ μ H cvs cs) (e : lamM N.length ps.length b cs ws h = .ok w' h') (n : Nx ⟨P, w, K, mg⟩ μ H h' w' Q) :
    codeAny (model P w) A (.call (.ref f) ⟨us, []⟩) (CR CX0 outer P w H s Q E0) s := by
  unfold lamM at e
  by_cases hl : ws.length = ps.length
  · rw [if_pos hl] at e
    have hlv : vs.length = ps.length := p.length.trans hl
    let F : NdefX.NF := ⟨"<lambda>", q, params, [], scope, cl, cc⟩
    have lim : s.heap.NoLimit := e0.mod.nolimit.keeps fun b o e => (e0.bs b o e).1
    refine PySem.W.kla_callFunE hr.depth ho rfl S.co S.gen rfl hc ?_
    rw [hb q cl pm (.ref cc) ctv us (by rw [← r.length]; exact hlv)]
    refine wpAny_pure (wpAny_newFunctionEnv S.nocell (fun ⟨n, _⟩ hy => S.par n (List.of_mem_zip hy).1) (fun h₁ hns hsb => ⟨lim.fresh _ hsb, ?_⟩) S.kind)
    show codeAny _ _ (.expr body (NdefX.envF F f s.heap.objs.size)) _ _
    have kp : ∀ b o, s.heap.get? b = some o → h₁.get? b = some o := fun b o e => hsb.extBut b o (Nat.ne_of_lt (Heap.lt_size e)) (Heap.get?_push_of_some _ e)
    have I : Inv (NdefX.ncx CX0 P w K mg base N F f A outer s H E0) [] (NdefX.startF N vs (cvs.map some)) H { s with heap := h₁, toks := s.toks + (ps.zip us).length } := NdefX.inv_startN (F := F) S hr.hd e0 hlv r C hns kp
    have sl : RpS ⟨P, w, K, mg⟩ μ H (NdefX.startF N vs (cvs.map some)) (ws.map some ++ (cs.map some ++ List.replicate (N.length - ws.length - cs.length) none)) := by
      unfold NdefX.startF
      rw [List.length_map, p.length, pc.length]
      exact paired_app (rps_start p) (paired_app (rps_start pc) (rps_none _))
    refine PySem.W.kla_codeExpr (wpAny_mono ((hbody A outer s H F f rfl (hr.deeper _)).run [] _ _ H Q I ⟨μ, _, h, w', h', ⟨R, sl⟩, e, n⟩) (fun v s' hq => ?_) fun e' s' hq => hq)
    obtain ⟨v', H', J, rv, q'⟩ := hq
    exact ⟨v', H', J.os, J.bare, J.base, J.hok, rv, q'⟩
  · rw [if_neg hl] at e; cases e
theorem Rel.again {c : Cfg} {μ : List Addr} {h : Hm} {H : Hp} (R : Rel c μ h H) {k : Nat} {a : Addr} {o : Ob} {u : HO} (hk : μ[k]? = some a) (hu : H a = some u) (ou : ObjU c μ H a o u) : Rel c μ (h.set k o) H := by
  refine ⟨by rw [List.length_set]; exact R.len, R.nd, fun i b o' hb ho => ?_⟩
  by_cases e : i = k
  · subst e
    rw [hk] at hb
    cases hb
    have hl := (List.getElem?_eq_some_iff.mp hk).1
    rw [R.len] at hl
    rw [List.getElem?_set_self hl] at ho
    cases ho
    exact ⟨u, hu, ou⟩
  · rw [List.getElem?_set_ne (fun z => e z.symm)] at ho
    exact R.at_ i b o' hb ho
def cellsC (H : Hp) (cl : List (PySem.Str × Addr)) (fr : List PySem.Str) : Cells := fr.filterMap fun y => match cl.lookup y with
  | some x => match H x with
    | some (.frz o _) => some (x, o)
    | _ => none
  | none => none
theorem cellsC_mem {H : Hp} {cl : List (PySem.Str × Addr)} {fr : List PySem.Str} {x : Addr} {o : Obj} (m : (x, o) ∈ cellsC H cl fr) : ∃ y ∈ fr, cl.lookup y = some x ∧ ∃ u, H x = some (.frz o u) := by
  obtain ⟨y, hy, e⟩ := List.mem_filterMap.mp m
  split at e
  · next x' q =>
    split at e
    · next o' u q2 => cases e; exact ⟨y, hy, q, u, q2⟩
    · cases e
  · cases e
theorem cellsC_has {H : Hp} {cl : List (PySem.Str × Addr)} {fr : List PySem.Str} {y : PySem.Str} {x : Addr} {o : Obj} {u : HO} (hy : y ∈ fr) (e : cl.lookup y = some x) (hx : H x = some (.frz o u)) : ∃ o', (cellsC H cl fr).lookup x = some o' := by
  have m : (x, o) ∈ cellsC H cl fr := List.mem_filterMap.mpr ⟨y, hy, by rw [e]; simp only [hx]⟩
  cases q : (cellsC H cl fr).lookup x with
  | some o' => exact ⟨o', rfl⟩
  | none =>
    have z := List.lookup_eq_none_iff.mp q (x, o) m
    simp at z
structure Lk (P : Program) (w : World) (K : PySem.W.Frag) (mg : PySem.Str → Option Value) (base : Heap) (k : Nat) (e : LKey) (m : List Wv → FM) : Prop where
  run : ∀ {A : Around} {outer : List PySem.Env} {s : Shared} {H : Hp} {f : Addr} {u : HO} {us : List Value} {vs : List V} {cs ws : List Wv} {μ : List Addr} {h h' : Hm} {i : Nat} {w' : Wv} {Q : VK}, Room k A → Env0 P w K mg base A outer s H → H f = some u → μ[i]? = some f → FnU ⟨P, w, K, mg⟩ μ H f e cs u →
    Vals vs us → Rel ⟨P, w, K, mg⟩ μ h H → Rps ⟨P, w, K, mg⟩ μ H vs ws → m cs ws (h.set i .dead) = .ok w' h' → Nx ⟨P, w, K, mg⟩ μ H (h'.set i (.fn e cs)) w' Q → codeAny (model P w) A (.call (.ref f) ⟨us, []⟩) (CR CX0 outer P w H s Q E0) s
theorem Lk.mono {j k : Nat} {e : LKey} {m : List Wv → FM} (o : Lk P w K mg base j e m) (h : j ≤ k) : Lk P w K mg base k e m := ⟨fun hr => o.run (hr.mono h)⟩
theorem lk_of {N ps : List PySem.Str} {params : Arguments} {body : Expr} {scope : Scope} {pos : Pos} {k n j : Nat} {b : EM} {e : LKey} (he : lamAt P e = some (.Lambda params body scope pos)) (S : NdefX.NScope N ps (frOf scope) scope) (hn : N.length = n) (hj : ps.length = j)
    (hb : ∀ (q : PySem.Str) (cl : List (PySem.Str × Addr)) (pm cv ctv : Value) (us : List Value), us.length = ps.length → bindArgs (PySem.W.kla_fn "<lambda>" q params body scope cl pm cv ctv) ⟨us, []⟩ = pure (ps.zip us))
    (hbody : ∀ (A : Around) (outer : List PySem.Env) (s : Shared) (H : Hp) (F : NdefX.NF) (f : Addr), F.scope = scope → Room k (A.deeper (NdefX.envF F f s.heap.objs.size)) → ME (NdefX.ncx CX0 P w K mg base N F f A outer s H E0) body b) :
    Lk P w K mg base (k + 1) e (lamM n j b) := by
  subst hn hj
  refine ⟨fun {A outer s H f u us vs cs ws μ h h' i w' Q} hr e0 hf hi FU r R p em nx => ?_⟩
  have FU0 := FU
  obtain ⟨params', body', scope', pos', q, cl, cc, pm, ctv, oc, cvs, e1, e2, e3, e4, e5, e6, e7, e8⟩ := FU
  have e1 : lamAt P e = _ := e1
  rw [he] at e1
  cases e1
  subst e2
  have tC : ∀ b o, (cellsC H cl (frOf scope)).lookup b = some o → H b = some (.frz o (.own f)) ∧ ∃ v, o.data = .cell (some v) := fun x o z => by
    obtain ⟨y, hy, q1, u1, q2⟩ := cellsC_mem (in_of_lookup z)
    obtain ⟨i, hi⟩ := List.getElem?_of_mem hy
    obtain ⟨v, _, x', z1, o', u', z2, z3, _⟩ := pair_at e7 hi
    rw [q1] at z1
    cases z1
    rw [q2] at z2
    cases z2
    exact ⟨q2, u', z3⟩
  have tC1 := fun b o z => (tC b o z).1
  have nf : (cellsC H cl (frOf scope)).lookup f = none := by
    cases z : (cellsC H cl (frOf scope)).lookup f with
    | none => rfl
    | some o =>
      obtain ⟨z1, v, z2⟩ := tC f o z
      rw [hf] at z1
      cases z1
      cases z2
  have ho := (e0.hok f _ hf).1
  have hcr : s.heap.CodeRec (.ref cc) q := by
    obtain ⟨vs', t, d1, d2⟩ := e4
    exact ⟨cc, oc, vs', t, rfl, (e0.hok cc _ e3).1, d1, d2⟩
  have cell_at : ∀ y x, cl.lookup y = some x → ∃ o v, H x = some (.frz o (.own f)) ∧ o.data = .cell v ∧ ∃ o', (cellsC H cl (frOf scope)).lookup x = some o' := fun y x z => by
    have hy := e5 y x z
    obtain ⟨i, hi⟩ := List.getElem?_of_mem hy
    obtain ⟨v, _, x', z1, o', u', z2, z3, _⟩ := pair_at e7 hi
    rw [z] at z1
    cases z1
    exact ⟨o', _, z2, z3, cellsC_has hy z z2⟩
  have CA : NdefX.CellsAt cl (frOf scope) (cvs.map some) s.heap (hideC H (cellsC H cl (frOf scope))) := by
    refine ⟨by rw [List.length_map]; exact (Paired.length e7).symm, fun y x z => ?_, fun y z x h1 h2 => e6 y z x h1 h2, fun i y z => ?_⟩
    · obtain ⟨o, v, z1, z2, o', z3⟩ := cell_at y x z
      exact ⟨hideC_in z3, v, o, (e0.hok x _ z1).1, z2⟩
    · obtain ⟨v, hv, x, z1, o, u', z2, z3, z4⟩ := pair_at e7 z
      refine ⟨x, z1, fun v' hv' => ?_⟩
      rw [List.getElem?_map, hv] at hv'
      cases hv'
      exact ⟨u', z4, o, (e0.hok x _ z2).1, z3⟩
  have hn : ∀ {b}, H b = none → hideC H (cellsC H cl (frOf scope)) b = none := fun {b} z => by
    cases y : hideC H (cellsC H cl (frOf scope)) b with
    | none => rfl
    | some v => have := hideC_le y; rw [z] at this; cases this
  have e0' : Env0 P w K mg base A outer s (hideC H (cellsC H cl (frOf scope))) := ⟨e0.frames, e0.mod, fun b o z => ⟨(e0.bs b o z).1, hn (e0.bs b o z).2⟩, e0.bsz, e0.funs, fun b z => hn (e0.frf b z), HOk.hideC e0.hok tC1, e0.bare⟩
  have R' := R.hide tC1 nf hi hf
  have bd := lam_body (Q := fun v H' => ∃ μ', Go ⟨P, w, K, mg⟩ μ (hideC H (cellsC H cl (frOf scope))) μ' H' ∧ Rel ⟨P, w, K, mg⟩ μ' h' H' ∧ Rp ⟨P, w, K, mg⟩ μ' H' v w') S hb hbody hr e0' ho hcr CA r R' (p.hd (hd_hide tC1)) (e8.hd (hd_hide tC1)) em fun μ' v H' g r p => ⟨μ', g, r, p⟩
  refine codeAny_mono bd fun res s' hq => ?_
  cases res with
  | error e => exact (show False from hq).elim
  | ok fl =>
    cases fl with
    | ret u' =>
      obtain ⟨v, H', os, bare, un, hok', rv, μ', g, R2, p2⟩ := hq
      obtain ⟨un', k'⟩ := Un.tellC (f := f) un e0.hok tC1 (fun b o z z2 => by have y := e0.frf b z2; rw [tC1 b o z] at y; cases y) (fun _ _ _ z => by simp at z)
      have g2 := Go.tell g R2 tC1 fun b o z => (k' b o z).2
      obtain ⟨g3, R3⟩ := R2.sub (tellC_sub (f := f) fun b o z => (k' b o z).2)
      refine ⟨v, tellC H' (cellsC H cl (frOf scope)) f, os, bare, un', HOk.tellC hok' k', rv, nx μ' v _ g2 ?_ (p2.go g3)⟩
      exact R3.again (pre_at g2.pre hi) (g2.fz _ _ _ hf) (FU0.mt g2.toGt)
    | next => exact False.elim hq
    | brk => exact False.elim hq
    | cont => exact False.elim hq
end

def callL (tab : List (LKey × (List Wv → FM))) (w : Wv) (ws : List Wv) : M Wv := fun h => match w with
  | .obj i => match h[i]? with
    | some (.fn e cs) => match tab.lookup e with
      | some m => match m cs ws (h.set i .dead) with
        | .ok r h' => .ok r (h'.set i (.fn e cs))
        | _ => .no
      | none => .no
    | _ => .no
  | _ => .no
def isFn (w : Wv) : M Unit := fun h => match w with
  | .obj i => match h[i]? with
    | some (.fn _ _) => .ok () h
    | _ => .no
  | _ => .no
def eCallL (tab : List (LKey × (List Wv → FM))) (i : Nat) (a : AM) : EM := fun ρ => (eVar i ρ).bind fun w => (isFn w).bind fun _ => (a ρ).bind fun ws => callL tab w ws
theorem isFn_ok {w : Wv} {h h' : Hm} {u : Unit} (e : isFn w h = .ok u h') : h' = h ∧ ∃ i k cs, w = .obj i ∧ h[i]? = some (.fn k cs) := by
  unfold isFn at e
  split at e
  · split at e
    · next q => cases e; exact ⟨rfl, _, _, _, rfl, q⟩
    · cases e
  · cases e
theorem callL_ok {tab : List (LKey × (List Wv → FM))} {i : Nat} {ws : List Wv} {h h' : Hm} {w : Wv} (e : callL tab (.obj i) ws h = .ok w h') : ∃ k cs m h3, h[i]? = some (.fn k cs) ∧ tab.lookup k = some m ∧ m cs ws (h.set i .dead) = .ok w h3 ∧ h' = h3.set i (.fn k cs) := by
  unfold callL at e
  simp only at e
  split at e
  · next key cs hk =>
    split at e
    · next m hm =>
      split at e
      · next r h3 e3 => cases e; exact ⟨key, cs, m, h3, hk, hm, e3, rfl⟩
      · cases e
    · cases e
  · cases e
theorem lookupL {tab : List (LKey × (List Wv → FM))} {x : LKey} {f : List Wv → FM} (h : tab.lookup x = some f) : (x, f) ∈ tab := in_of_lookup h
section
variable {X : Cx}
theorem fnU_obj {c : Cfg} {μ : List Addr} {H : Hp} {a : Addr} {e : LKey} {cs : List Wv} {u : HO} (h : FnU c μ H a e cs u) : ∃ (q : PySem.Str) (params : Arguments) (body : Expr) (scope : Scope) (cl : List (PySem.Str × Addr)) (pm ctv : Value) (cc : Addr), u = .frz (PySem.W.kla_obj "<lambda>" q params body scope cl pm cc ctv) (.own a) := by
  obtain ⟨params, body, scope, pos, q, cl, cc, pm, ctv, oc, vs, e1, e2, _⟩ := h
  exact ⟨q, params, body, scope, cl, pm, ctv, cc, e2⟩
theorem me_cl {i k : Nat} {x : PySem.Str} {p pos : Pos} {e : Expr} {es : List Expr} {tab : List (LKey × (List Wv → FM))} {ma : AM} (d : ∀ q ∈ tab, Lk X.prog X.w X.K X.mg X.base k q.1 q.2) (hr : Room k X.A) (hN : X.N[i]? = some x) (hv : Vis X.env.scope x) (ha : MA X (e :: es) ma)
    (hd : (x == ("__debug__" : PySem.Str)) = false := by decide) (hcd : (x == ("__classdict__" : PySem.Str)) = false := by decide) (he : starEach (e :: es) X.env = (false, eval e X.env) :: starEach es X.env := by rfl) (hpl : (backTo pos (starEach es X.env)).any (·.1) = false := by rfl) :
    ME X (.Call (.Name x p) (e :: es) [] pos) (eCallL tab i ma) := by
  refine ⟨fun pins s σ H Q I z => ?_⟩
  obtain ⟨μ, ρ, h, w, h', A, em, n⟩ := z
  obtain ⟨wf, h1, e1, em1⟩ := bind_ok em
  obtain ⟨_, h1', e1', em2⟩ := bind_ok em1
  obtain ⟨ws, h2, e2, em3⟩ := bind_ok em2
  clear em em1 em2
  obtain ⟨rfl, i0, k0, cs0, rfl, hk0⟩ := isFn_ok e1'
  obtain ⟨key, cs, m, h3, hk, hm, e3, rfl⟩ := callL_ok em3
  unfold eVar at e1
  cases q : ρ[i]? with
  | none => rw [q] at e1; cases e1
  | some o =>
    cases o with
    | none => rw [q] at e1; cases e1
    | some w0 =>
      rw [q] at e1
      cases e1
      obtain ⟨v, hvi, rv⟩ := A.sl.at q
      obtain ⟨f, rfl, hi⟩ := rv.obj_inv
      have ofn : ∀ {μ0 : List Addr} {H0 : Hp} {s0 : Shared} {h0 : Hm} {ky : LKey} {c0 : List Wv}, Inv X pins σ H0 s0 → Rel (cfg X) μ0 h0 H0 → μ0[i0]? = some f → h0[i0]? = some (.fn ky c0) → PySem.W.FnAt f s0.heap ∧ ∃ u, H0 f = some u ∧ FnU (cfg X) μ0 H0 f ky c0 u := fun {μ0 H0 s0 h0 ky c0} I0 R0 hi0 hk0 => by
        obtain ⟨u, hu, ou⟩ := R0.get hi0 hk0
        obtain ⟨q0, params, body, scope, cl, pm, ctv, cc, rfl⟩ := fnU_obj ou
        exact ⟨⟨_, _, _, _, (I0.hok f _ hu).1⟩, _, hu, ou⟩
      refine wpAny_Call_Name_kw (thn ((pe_var (pos := p) hN hv hd hcd).run pins s σ H (fun v H1 => v = .ref f ∧ H1 = H) I ⟨.ref f, hvi, rfl, rfl⟩) fun u s1 ⟨v, H1, I1, r1, q1⟩ => ?_)
      obtain ⟨ev, eH⟩ := q1
      subst ev
      subst eH
      obtain rfl : u = Value.ref f := r1
      refine PySem.W.callWith_F (first := []) (ofn I1 A.rel hi hk0).1 (thn (ha.run pos pins s1 σ H1 _ I1 (mA_first A e2 (Q := fun vs H2 => ∃ μ2, Go (cfg X) μ H1 μ2 H2 ∧ At (cfg X) μ2 h2 H2 σ ρ ∧ Rps (cfg X) μ2 H2 vs ws) fun μ1 vs H1 g1 A1 p1 => ⟨μ1, g1, A1, p1⟩)) fun us s2 ⟨vs, H2, I2, r2, μ2, g2, A2, p2⟩ => ?_) he hpl
      obtain ⟨fa, u, hu, ou⟩ := ofn I2 A2.rel (pre_at g2.pre hi) hk
      refine ⟨fa, ?_⟩
      show wpAny _ _ (call (.ref f) us) _ _ _
      have rc := (d _ (lookupL hm)).run (Q := Q) hr I2.env0 hu (pre_at g2.pre hi) ou r2 A2.rel p2 e3 (n.after g2)
      refine wpAny_call (codeAny_mono rc fun res s' hq => ?_)
      cases res with
      | error e => exact (show False from hq).elim
      | ok fl =>
        cases fl with
        | ret u => exact I2.after hq
        | next => exact False.elim hq
        | brk => exact False.elim hq
        | cont => exact False.elim hq
end
end MM

set_option maxRecDepth 100000
set_option maxHeartbeats 4000000

namespace MM
open PySem PySem.Spec PyProof.Rows L2
theorem ifO_ok {α : Type} {p : Prop} [Decidable p] {x : Out α} {a : α} {h' : Hm} (e : (if p then x else .no) = .ok a h') : p ∧ x = .ok a h' := by
  by_cases q : p
  · rw [if_pos q] at e; exact ⟨q, e⟩
  · rw [if_neg q] at e; cases e
structure LamH (X : Cx) (x : PySem.Str) : Prop where
  ex : ∃ c P, LamX.TabB X.base X.mg c P ∧ X.env.code = .ref c ∧ PySem.W.tabIn X.K x = some (c, P)
  qual : X.env.qual ++ "<lambda>" = lamQ x
  fn : ∀ y, X.fn y = true
def hasTab (h : Hm) (k : Nat) (x : PySem.Str) : Bool := match h[k]? with
  | some (.tbl y) => decide (y = x)
  | _ => false
theorem hasTab_ok {h : Hm} {k : Nat} {x : PySem.Str} (e : hasTab h k x = true) : h[k]? = some (.tbl x) := by
  unfold hasTab at e
  split at e
  · next y q => rw [q, of_decide_eq_true e]
  · cases e
def capB (N : List PySem.Str) (sc scope : Scope) (js : List Nat) : Bool :=
  decide (js.map (fun j => N[j]?) = (frOf scope).map some) && scope.names.all fun y => !decide (y.2 = .free) || decide (sc.names.lookup y.1 = some .cell) || decide (sc.names.lookup y.1 = some .free)
structure MAL (X : Cx) (es : List Expr) (params : Arguments) (body : Expr) (scope : Scope) (x : PySem.Str) (m : AM) : Prop where
  run : ∀ (pos : Pos) (pins : List (Addr × Obj)) (s : Shared) (σ : L2.St) (H : Hp) (μ : List Addr) (ρ : Env) (h : Hm) (ws : List Wv) (h1 : Hm) (k : Nat) (Q : List Value → Shared → Prop), Inv X pins σ H s → At (cfg X) μ h H σ ρ → m ρ h = .ok ws h1 → h1[k]? = some (.tbl x) →
    (∀ (us : List Value) (s' : Shared) (H' : Hp) (μ' : List Addr) (vs : List V) (f : Addr), Inv X pins σ H' s' → Go (cfg X) μ H (μ' ++ [f]) H' → At (cfg X) (μ' ++ [f]) (h1 ++ [.dead]) H' σ ρ → Rps (cfg X) (μ' ++ [f]) H' vs ws → Vals vs us → LamAt X H' params body scope (lamQ x) f → Q (us ++ [.ref f]) s') →
    wpAny (model X.prog X.w) X.A (spliced (backTo pos (starEach es X.env))) Q X.xe s
section
variable {X : Cx} {params : Arguments} {body : Expr} {scope : Scope} {x : PySem.Str}
theorem cap_free {js : List Nat} (cp : capB X.N X.env.scope scope js = true) (ok : X.Ok) : ∀ y ∈ scope.names, y.2 = .free → ∃ c, X.env.cells.lookup y.1 = some c := fun y hy e => by
  unfold capB at cp
  simp only [Bool.and_eq_true, decide_eq_true_eq, List.all_eq_true, Bool.or_eq_true, Bool.not_eq_true', decide_eq_false_iff_not] at cp
  rcases cp.2 y hy with (z | z) | z
  · exact absurd e z
  · exact ok.has _ (.inl z)
  · exact ok.has _ (.inr z)
theorem mal_lam {lpos : Pos} {js : List Nat} (L : LamH X x) (cp : capB X.N X.env.scope scope js = true) (hdef : defaultsOf params X.env = ([], []) := by rfl) : MAL X [.Lambda params body scope lpos] params body scope x aNil := by
  refine ⟨fun pos pins s σ H μ ρ h ws h1 k Q I A e hk g => ?_⟩
  cases e
  obtain ⟨c, P, TB, hc, ht⟩ := L.ex
  show wpAny _ _ (spliced ((false, eval (.Lambda params body scope lpos) X.env) :: backTo pos (starEach [] X.env))) _ _ s
  refine Calls.spliced_cons (lam_eval I A.rel hk TB hc ht L.qual hdef (cap_free cp I.ok) fun f H1 s' I1 g1 R1 la => ?_)
  exact Calls.spliced_nil (g [] s' H1 μ [] f I1 g1 (A.go g1 R1) .nil .nil la)
theorem mal_cons {e : Expr} {es : List Expr} {me : EM} {m : AM} (he : ME X e me) (hr : MAL X es params body scope x m) (hs : starEach (e :: es) X.env = (false, eval e X.env) :: starEach es X.env := by rfl) : MAL X (e :: es) params body scope x (aCons me m) := by
  refine ⟨fun pos pins s σ H μ ρ h ws h1 k Q I A em hk g => ?_⟩
  obtain ⟨w, h2, e1, em⟩ := bind_ok em
  obtain ⟨r, h3, e2, em⟩ := bind_ok em
  cases em
  rw [hs]
  show wpAny _ _ (spliced ((false, eval e X.env) :: backTo pos (starEach es X.env))) _ _ s
  refine Calls.spliced_cons (thn (he.run pins s σ H (fun v H1 => ∃ μ1, Go (cfg X) μ H μ1 H1 ∧ At (cfg X) μ1 h2 H1 σ ρ ∧ Rp (cfg X) μ1 H1 v w) I (mE_first A e1 fun μ1 v H1 g1 A1 p1 => ⟨μ1, g1, A1, p1⟩)) fun u s1 ⟨v, H1, I1, r1, μ1, g1, A1, p1⟩ => ?_)
  refine hr.run pos pins s1 σ H1 μ1 ρ h2 r h1 k _ I1 A1 e2 hk fun us s' H' μ' vs f I' g' A' p' r' la => ?_
  exact g (u :: us) s' H' μ' (v :: vs) f I' (g1.trans g') A' (.cons (p1.go g') p') (.cons r1 r') la
def capt (ρ : Env) (js : List Nat) : Option (List Wv) := js.mapM fun j => (ρ[j]?).join
def eCallLam (m : FM) (k : Nat) (x : PySem.Str) (key : LKey) (js : List Nat) (a : AM) : EM := fun ρ => (a ρ).bind fun ws h => if hasTab h k x = true then match capt ρ js with
  | some cs => match m (ws ++ [.obj h.length]) (h ++ [.fn key cs]) with
    | .ok w h' => .ok w (h'.set h.length .dead)
    | _ => .no
  | none => .no
  else .no
theorem capt_ok {ρ : Env} : ∀ {js : List Nat} {cs : List Wv}, capt ρ js = some cs → Paired (fun j w => ρ[j]? = some (some w)) js cs
  | [], cs, e => by
    have e : some [] = some cs := e
    cases e
    exact .nil
  | j :: js, cs, e => by
    obtain ⟨b, bs, h1, h2, rfl⟩ := mapM_some e
    refine .cons ?_ (capt_ok h2)
    cases q : ρ[j]? with
    | none => rw [q] at h1; cases h1
    | some o => rw [q] at h1; have h1 : o = some b := h1; rw [h1]
theorem frOf_mem {scope : Scope} {y : PySem.Str} : y ∈ frOf scope ↔ (y, NameKind.free) ∈ scope.names := by
  unfold frOf
  rw [List.mem_filterMap]
  constructor
  · rintro ⟨⟨a, k⟩, m, e⟩
    cases k <;> first | (cases e; exact m) | cases e
  · intro m
    exact ⟨_, m, rfl⟩
def cellsX (X : Cx) (g : Heap) (fr : List PySem.Str) : Cells := fr.filterMap fun y => match X.env.cells.lookup y with
  | some x => match g.get? x with
    | some o => some (x, o)
    | none => none
  | none => none
theorem cellsX_mem {g : Heap} {fr : List PySem.Str} {c : Addr} {o : Obj} (m : (c, o) ∈ cellsX X g fr) : ∃ y ∈ fr, X.env.cells.lookup y = some c ∧ g.get? c = some o := by
  obtain ⟨y, hy, e⟩ := List.mem_filterMap.mp m
  split at e
  · next x' q =>
    split at e
    · next o' q2 => cases e; exact ⟨y, hy, q, q2⟩
    · cases e
  · cases e
theorem cellsX_has {g : Heap} {fr : List PySem.Str} {y : PySem.Str} {c : Addr} {o : Obj} (hy : y ∈ fr) (e : X.env.cells.lookup y = some c) (hx : g.get? c = some o) : (cellsX X g fr).lookup c = some o := by
  have m : (c, o) ∈ cellsX X g fr := List.mem_filterMap.mpr ⟨y, hy, by rw [e]; simp only [hx]⟩
  cases q : (cellsX X g fr).lookup c with
  | some o' =>
    obtain ⟨_, _, _, z⟩ := cellsX_mem (in_of_lookup q)
    rw [hx] at z
    rw [z]
  | none =>
    have z := List.lookup_eq_none_iff.mp q (c, o) m
    simp at z
theorem me_callLam {y : PySem.Str} {p pos : Pos} {e : Expr} {es : List Expr} {k kt j : Nat} {m : FM} {a : AM} {key : LKey} {js : List Nat} {lpos : Pos} (d : Df X.prog X.w X.K X.mg X.base k y j m) (lj : Arity j m) (hr : Room k X.A) (hg : Gl X y) (L : LamH X x)
    (hkey : lamAt X.prog key = some (.Lambda params body scope lpos)) (cp : capB X.N X.env.scope scope js = true) (ha : MAL X (e :: es) params body scope x a)
    (hdb : (y == ("__debug__" : PySem.Str)) = false := by decide) (he : starEach (e :: es) X.env = (false, eval e X.env) :: starEach es X.env := by rfl) (hpl : (backTo pos (starEach es X.env)).any (·.1) = false := by rfl) :
    ME X (.Call (.Name y p) (e :: es) [] pos) (eCallLam m kt x key js a) := by
  obtain ⟨g, fd, ps, hm, hk, hb, F⟩ := d.ex
  refine ⟨fun pins s σ H Q I z => ?_⟩
  obtain ⟨μ, ρ, h, w, h', A, em, n⟩ := z
  obtain ⟨ws, h1, e1, em⟩ := bind_ok em
  obtain ⟨ht, em⟩ := ifO_ok em
  cases qc : capt ρ js with
  | none => rw [qc] at em; cases em
  | some cs =>
    rw [qc] at em
    simp only at em
    cases qm : m (ws ++ [.obj h1.length]) (h1 ++ [.fn key cs]) with
    | ex _ _ => rw [qm] at em; cases em
    | no => rw [qm] at em; cases em
    | ok w2 h2 =>
      rw [qm] at em
      cases em
      have cpt := capt_ok qc
      unfold capB at cp
      simp only [Bool.and_eq_true, decide_eq_true_eq, List.all_eq_true, Bool.or_eq_true, Bool.not_eq_true', decide_eq_false_iff_not] at cp
      obtain ⟨cp1, cp2⟩ := cp
      have hfree : ∀ y ∈ scope.names, y.2 = .free → ∃ c, X.env.cells.lookup y.1 = some c := fun y hy e => by
        rcases cp2 y hy with (z | z) | z
        · exact absurd e z
        · exact I.ok.has _ (.inl z)
        · exact I.ok.has _ (.inr z)
      have hvis : ∀ y ∈ frOf scope, X.env.scope.names.lookup y = some .cell ∨ X.env.scope.names.lookup y = some .free := fun y hy => by
        rcases cp2 _ (frOf_mem.mp hy) with (z | z) | z
        · exact absurd rfl z
        · exact .inl z
        · exact .inr z
      refine wpAny_Call_Name_kw (ld_glob I hg hm ?_ hdb)
      refine PySem.W.callWith_K (h₀ := X.base) I.ok.mod.kin hk (ha.run pos pins s σ H μ ρ h ws h1 kt _ I A e1 (hasTab_ok ht) fun us s1 H1 μ1 vs f I1 g1 A1 p1 r1 la => ⟨I1.kIn, ?_⟩) he hpl
      show wpAny _ _ (call (.ref g) (us ++ [.ref f])) _ _ _
      obtain ⟨cc, oc, pm, ctv, hf, hcc, hnm⟩ := la.ex
      -- the cells
      have tC : ∀ b o, (cellsX X s1.heap (frOf scope)).lookup b = some o → s1.heap.get? b = some o ∧ H1 b = none := fun b o z => by
        obtain ⟨y, hy, q1, q2⟩ := cellsX_mem (in_of_lookup z)
        exact ⟨q2, I1.freeC y b q1⟩
      have tN := fun b o z => (tC b o z).2
      have nf : (cellsX X s1.heap (frOf scope)).lookup f = none := by
        cases z : (cellsX X s1.heap (frOf scope)).lookup f with
        | none => rfl
        | some o => have := tN f o z; rw [hf] at this; cases this
      have sub := tellC_sub (f := f) tN
      obtain ⟨g2, R2⟩ := A1.rel.sub sub
      have l1 : μ1.length = h1.length := by
        have := A1.rel.len
        rw [List.length_append, List.length_append, List.length_singleton, List.length_singleton] at this
        omega
      have hi : (μ1 ++ [f])[h1.length]? = some f := by rw [List.getElem?_append_right (by omega), l1, Nat.sub_self]; rfl
      have clk : ∀ y c, (cloFrom X.env.cells scope.names []).lookup y = some c → X.env.cells.lookup y = some c ∧ y ∈ frOf scope := fun y c z => by
        refine ⟨NdefX.clo_cm hfree z, ?_⟩
        rcases cloFrom_mem (in_of_lookup z) with q | ⟨q, _⟩
        · cases q
        · exact frOf_mem.mpr q
      -- what they hold
      obtain ⟨vs', hp', hr'⟩ : ∃ cvs, Paired (fun (y : PySem.Str) v => ∃ c, (cloFrom X.env.cells scope.names []).lookup y = some c ∧ CellT (tellC H1 (cellsX X s1.heap (frOf scope)) f) f c v) (frOf scope) cvs ∧ Rps (cfg X) (μ1 ++ [f]) (tellC H1 (cellsX X s1.heap (frOf scope)) f) cvs cs := by
        have all : ∀ (fr : List PySem.Str) (js : List Nat) (cs : List Wv), (∀ y ∈ fr, y ∈ frOf scope) → js.map (fun j => X.N[j]?) = fr.map some → Paired (fun j w => ρ[j]? = some (some w)) js cs → ∃ cvs, Paired (fun (y : PySem.Str) v => ∃ c, (cloFrom X.env.cells scope.names []).lookup y = some c ∧ CellT (tellC H1 (cellsX X s1.heap (frOf scope)) f) f c v) fr cvs ∧ Rps (cfg X) (μ1 ++ [f]) (tellC H1 (cellsX X s1.heap (frOf scope)) f) cvs cs := by
          intro fr
          induction fr with
          | nil =>
            intro js cs _ hj hc
            cases js with
            | nil => cases hc; exact ⟨[], .nil, .nil⟩
            | cons _ _ => cases hj
          | cons y fr ih =>
            intro js cs hin hj hc
            cases js with
            | nil => cases hj
            | cons j js =>
              cases hc with
              | @cons _ _ w ws' c1 ct =>
                rw [List.map_cons, List.map_cons] at hj
                injection hj with hj1 hj2
                obtain ⟨cvs, q1, q2⟩ := ih js _ (fun z hz => hin z (List.mem_cons_of_mem _ hz)) hj2 ct
                obtain ⟨v, hv, pv⟩ := A1.sl.at c1
                have hy := hin y List.mem_cons_self
                have kd := hvis y hy
                obtain ⟨m0, hn, hl⟩ := I1.loc
                obtain ⟨u, ru, lk⟩ := hl j y v hj1 hv (kd.elim (fun z => .inr (.inl z)) fun z => .inr (.inr z))
                rcases lk with ⟨z, _⟩ | ⟨_, c, hc, o, ho, hd⟩
                · have z' : X.env.scope.names.lookup y = some .local := z
                  rcases kd with kd | kd <;> rw [kd] at z' <;> cases z'
                · refine ⟨v :: cvs, .cons ⟨c, NdefX.clo_has hfree (frOf_mem.mp hy) hc, o, u, tellC_in (cellsX_has hy hc ho), hd, ru⟩ q1, .cons (pv.go g2) q2⟩
        exact all _ js cs (fun _ z => z) cp1 cpt
      have R3 : Rel (cfg X) (μ1 ++ [f]) (h1 ++ [.fn key cs]) (tellC H1 (cellsX X s1.heap (frOf scope)) f) := by
        have := R2.again (k := h1.length) (o := .fn key cs) hi (sub _ _ hf) ⟨params, body, scope, lpos, lamQ x, cloFrom X.env.cells scope.names [], cc, pm, ctv, oc, vs', hkey, rfl, sub _ _ hcc, hnm, fun y c z => (clk y c z).2, fun y z c h1 h2 => I1.ok.inj y z c (clk y c h1).1 (clk z c h2).1, hp', hr'⟩
        rwa [List.set_append_right _ _ (Nat.le_refl _), Nat.sub_self] at this
      have e0 := I1.env0
      have new : ∀ b o, (cellsX X s1.heap (frOf scope)).lookup b = some o → X.s_0.heap.objs.size ≤ b ∧ b ≠ X.env.locals := fun b o z => by
        obtain ⟨y, hy, q1, q2⟩ := cellsX_mem (in_of_lookup z)
        exact ⟨I1.ok.cab y b (L.fn y) q1, I1.cne y b q1⟩
      have e1' : Env0 X.prog X.w X.K X.mg X.base X.A X.stack s1 (tellC H1 (cellsX X s1.heap (frOf scope)) f) := by
        refine ⟨e0.frames, e0.mod, fun b o z => ⟨(e0.bs b o z).1, ?_⟩, e0.bsz, e0.funs, fun b z => ?_, HOk.tellC e0.hok tC, e0.bare⟩
        · cases q : (cellsX X s1.heap (frOf scope)).lookup b with
          | none => rw [tellC_out q]; exact (e0.bs b o z).2
          | some o' =>
            exact absurd (Nat.lt_of_lt_of_le (Heap.lt_size z) (Nat.le_trans I1.ok.bsz (new b o' q).1)) (Nat.lt_irrefl _)
        · cases q : (cellsX X s1.heap (frOf scope)).lookup b with
          | none => rw [tellC_out q]; exact e0.frf b z
          | some o' =>
            obtain ⟨n1, n2⟩ := new b o' q
            rcases List.mem_cons.mp (I1.stkSub b z) with z | z
            · exact absurd z n2
            · obtain ⟨_, o2, ho2, _⟩ := I1.ok.funs.mem z
              exact absurd (Nat.lt_of_lt_of_le (Heap.lt_size ho2) n1) (Nat.lt_irrefl _)
      have hw : (ws ++ [Wv.obj h1.length]).length = j := lj _ _ _ _ qm
      have hps : (vs ++ [V.ref f]).length = j := by rw [← hw, List.length_append, List.length_append, p1.length]; rfl
      have ra : Vals (vs ++ [V.ref f]) (us ++ [.ref f]) := r1.append (.cons rfl .nil)
      have rp : Rps (cfg X) (μ1 ++ [f]) (tellC H1 (cellsX X s1.heap (frOf scope)) f) (vs ++ [V.ref f]) (ws ++ [.obj h1.length]) := (Rps.go g2 p1).append (.cons (.obj hi) .nil)
      have spf : ∀ Q', (∀ μ' v H', Go (cfg X) (μ1 ++ [f]) (tellC H1 (cellsX X s1.heap (frOf scope)) f) μ' H' → Rel (cfg X) μ' h2 H' → Rp (cfg X) μ' H' v w → Q' v H') → spF (cfg X) j m (vs ++ [V.ref f]) (tellC H1 (cellsX X s1.heap (frOf scope)) f) Q' E0 := fun Q' nx => ⟨_, _, _, w, h2, R3, rp, hw, qm, nx⟩
      have sp0 := spf (fun v H' => ∃ μ', Go (cfg X) (μ1 ++ [f]) (tellC H1 (cellsX X s1.heap (frOf scope)) f) μ' H' ∧ Rel (cfg X) μ' h2 H' ∧ Rp (cfg X) μ' H' v w) fun μ' v H' a b c => ⟨μ', a, b, c⟩
      have hl : ((us ++ [Value.ref f]) ++ []).length = ps.length := by
        rw [List.append_nil, ← ra.length]
        exact F.len _ _ _ _ sp0
      have hbt := hb s1 (us ++ [.ref f]) I1.kIn hl
      rw [List.append_nil] at hbt
      refine wpAny_call (codeAny_mono (F.run X.A X.stack s1 _ ⟨us ++ [.ref f], []⟩ _ _ _ _ hr e1' hbt ra sp0) fun res s' hq => ?_)
      cases res with
      | error e => exact (show False from hq).elim
      | ok fl =>
        cases fl with
        | next => exact False.elim hq
        | brk => exact False.elim hq
        | cont => exact False.elim hq
        | ret u =>
          obtain ⟨v, H', os, bare, un, hok', rv, μ', g3, R4, p4⟩ := hq
          obtain ⟨un', k'⟩ := Un.hideC (f := f) un hok' tC
          refine I1.after ⟨v, hideC H' (cellsX X s1.heap (frOf scope)), os, bare, un', HOk.hideC hok' k', rv, ?_⟩
          have g4 := Go.hide g3 tN
          exact n μ' v _ (g1.trans g4) (R4.hide k' nf (pre_at g3.pre hi) (g3.fz _ _ _ (sub _ _ hf))) (p4.hd (hd_hide k'))
end
end MM

set_option maxRecDepth 100000
set_option maxHeartbeats 4000000

namespace MM
open PySem PySem.Spec PyProof.Rows L2
abbrev empT : Obj := { cls := .none, data := .fields #[] }
structure OnlyT (T : List Addr) (H : Hp) : Prop where
  tab : ∀ b ∈ T, H b = some (.tbl #[])
  all : ∀ b u, H b = some u → (b ∈ T ∧ u = .tbl #[]) ∨ ∃ o xs, u = .frz o (.lst xs)
theorem law_atT {P : Program} {w : World} {K : PySem.W.Frag} {mg mb : PySem.Str → Option Value} {fa a : Addr} {T : List (Addr × Addr)} {fd : FuncData} {x : PySem.Str} {sp : Sp} {s₁ : Shared} {vs : List Value} {ns : List Int}
    (kX : K.In s₁.heap) (gN : s₁.heap.Ns mainGlobals mg) (bN : s₁.heap.Ns builtinsNs mb) (bB : ∀ x : PySem.Str, x ≠ "__name__" → mb x = bootBuiltins x) (nL : s₁.heap.NoLimit) (g0 : s₁.gens = #[])
    (tE : ∀ p ∈ T, s₁.heap.get? p.2 = some empT) (tK : ∀ p ∈ T, K.lookup p.2 = none) (tC : ∀ p ∈ T, PySem.W.CodeHd s₁.heap p.1 p.2)
    (bM : ∃ (bm : Addr) (ob : Obj), mg "__builtins__" = some (.ref bm) ∧ bm ≠ builtinsNs ∧ s₁.heap.get? bm = some ob ∧ ob.cls = .type "module" ∧ ob.dict = some builtinsNs ∧ ob.data = .plain)
    (oa : s₁.heap.get? a = some { cls := .type "list", data := .seq vs.toArray }) (ia : IntsAre vs ns) (la : ns.length ≤ sizeLine)
    (F : ∀ base : Heap, K.In base → base.Ns mainGlobals mg → (∀ p ∈ T, LamX.TabB base mg p.1 p.2) → RunAt P w K mg base CX0 callerA fa fd [x] sp) (bi : ∀ (s : Shared) (u : Value), BindsTo s fd ⟨[u], []⟩ [(x, u)])
    (pr : ∀ H : Hp, OnlyT (T.map (·.2)) H → SqL K H a (ns.map V.int) → sp [.ref a] H (fun v _ => v = .bl true) fun _ _ _ => False) :
    codeAny (model P w) callerA (.call (.ref fa) ⟨[.ref a], []⟩) (fun r s' => r = .ok (.ret (.bool true)) ∧ OldK s₁.heap s'.heap ∧ s'.os = s₁.os ∧ AllBare s'.gens) s₁ := by
  have rv := vals_ints ia
  have isE : ∀ b ∈ T.map (·.2), s₁.heap.get? b = some empT := fun b m => by
    obtain ⟨p, hp, rfl⟩ := List.mem_map.mp m
    exact tE p hp
  have aT : a ∉ T.map (·.2) := fun m => by
    have z := isE a m
    rw [oa] at z
    cases z
  let S : Option HO := if (K.lookup a).isNone = true then some (.frz { cls := .type "list", data := .seq vs.toArray } (.lst (ns.map V.int))) else none
  let H : Hp := fun b => if b ∈ T.map (·.2) then some (.tbl #[]) else if b = a then S else none
  have hT : ∀ b ∈ T.map (·.2), H b = some (.tbl #[]) := fun b m => if_pos m
  have hA : H a = S := (if_neg aT).trans (if_pos rfl)
  have told : ∀ b u, H b = some u → (b ∈ T.map (·.2) ∧ u = .tbl #[]) ∨ (b = a ∧ K.lookup a = none ∧ u = .frz { cls := .type "list", data := .seq vs.toArray } (.lst (ns.map V.int))) := fun b u z => by
    by_cases m : b ∈ T.map (·.2)
    · rw [hT b m] at z; cases z; exact .inl ⟨m, rfl⟩
    · by_cases e : b = a
      · subst e
        rw [hA] at z
        by_cases n : (K.lookup b).isNone = true
        · have z : S = some u := z
          rw [show S = some _ from if_pos n] at z
          cases z
          exact .inr ⟨rfl, Option.isNone_iff_eq_none.mp n, rfl⟩
        · rw [show S = none from if_neg n] at z; cases z
      · have z : (if b ∈ T.map (·.2) then some (HO.tbl #[]) else if b = a then S else none) = some u := z
        rw [if_neg m, if_neg e] at z; cases z
  have oT : OnlyT (T.map (·.2)) H := ⟨hT, fun b u z => by
    rcases told b u z with z | ⟨_, _, z⟩
    · exact .inl z
    · exact .inr ⟨_, _, z⟩⟩
  have hok : HOk P w H s₁.heap := fun b u z => by
    rcases told b u z with ⟨m, rfl⟩ | ⟨rfl, _, rfl⟩
    · exact isE b m
    · exact ⟨oa, by rw [List.length_map]; exact la, vs, _, rv, oa⟩
  have sq : SqL K H a (ns.map V.int) := by
    cases q : K.lookup a with
    | none => exact .inl (.inr ⟨_, hA.trans (if_pos (by rw [q]; rfl))⟩)
    | some o =>
      have z := kX a o q
      rw [oa] at z
      cases z
      exact .inr ⟨_, vs.toArray, _, q, rfl, rfl, rfl, by rw [List.size_toArray, ia.length]; exact la, by simpa using rv⟩
  have free : ∀ {b : Addr} {o : Obj}, s₁.heap.get? b = some o → (∀ us n, o.data ≠ .seq us n) → o.data ≠ .fields #[] → H b = none := fun {b o} e h1 h2 => by
    cases q : H b with
    | none => rfl
    | some u =>
      rcases told b u q with ⟨m, _⟩ | ⟨rfl, _, _⟩
      · rw [isE b m] at e; cases e; exact absurd rfl h2
      · rw [oa] at e; cases e; exact absurd rfl (h1 _ _)
  have stays : ∀ {b : Addr} {o : Obj}, s₁.heap.get? b = some o → (∀ us n, o.data ≠ .seq us n) → o.data ≠ .fields #[] → (hidT s₁.heap H).get? b = some o := fun e h1 h2 => hidT_get e (free e h1 h2)
  have nk : ∀ {b : Addr} {m : PySem.Str → Option Value}, s₁.heap.Ns b m → (hidT s₁.heap H).Ns b m := fun {b m} ⟨o, es, ep, e, d, r⟩ => ⟨o, es, ep, stays e (fun us n z => by rw [d] at z; cases z) (fun z => by rw [d] at z; cases z), d, r⟩
  have kb : K.In (hidT s₁.heap H) := fun b o e => hidT_get (kX b o e) (by
    cases q : H b with
    | none => rfl
    | some u =>
      rcases told b u q with ⟨m, _⟩ | ⟨rfl, n, _⟩
      · obtain ⟨p, hp, rfl⟩ := List.mem_map.mp m
        rw [tK p hp] at e; cases e
      · rw [n] at e; cases e)
  have mo : Mod K mg (hidT s₁.heap H) := ⟨kb, nk gN, ⟨mb, nk bN, bB⟩, let ⟨mc, h1, h2⟩ := nL; ⟨mc, nk h1, h2⟩⟩
  have TB : ∀ p ∈ T, LamX.TabB (hidT s₁.heap H) mg p.1 p.2 := fun p hp => by
    refine ⟨?_, ?_, fun z => ?_⟩
    · obtain ⟨o, us, fl, tf, fs, tg, iF, tx, tt, e1, r1, r2, r3, rr⟩ := tC p hp
      refine ⟨o, us, fl, tf, fs, tg, iF, tx, tt, stays e1 (fun us n z => by rw [r2] at z; cases z) (fun z => ?_), r1, r2, r3, rr⟩
      rw [r2] at z
      cases z
      simp at r3
    · obtain ⟨bm, ob, b1, b2, b3, b4, b5, b6⟩ := bM
      refine ⟨bm, ob, b1, b2, fun z => ?_, fun z => ?_, stays b3 (fun us n z => by rw [b6] at z; cases z) (fun z => by rw [b6] at z; cases z), b4, b5, b6⟩
      · obtain ⟨o, es, ep, e, hd, _⟩ := gN
        rw [z, e] at b3
        cases b3
        rw [hd] at b6
        cases b6
      · rw [z, tE p hp] at b3
        cases b3
        cases b6
    · obtain ⟨o, es, ep, e, hd, _⟩ := gN
      rw [z, tE p hp] at e
      cases e
      cases hd
  have e0 : Env0 P w K mg (hidT s₁.heap H) callerA [] s₁ H := ⟨rfl, mo, fun b o z => of_hidT z, Nat.le_of_eq (hidT_size _ _), trivial, fun b z => absurd (show b ∈ ([] : List Addr) from z) (by simp), hok, .of_eq g0⟩
  refine codeAny_mono (F _ kb (nk gN) TB [] s₁ H ⟨[.ref a], []⟩ [.ref a] [.ref a] _ _ e0 (bi s₁ (.ref a)) (.cons rfl .nil) (pr H oT sq)) fun r s' h => ?_
  cases r with
  | error e => exact (show False from h).elim
  | ok fl =>
    cases fl with
    | next => exact False.elim h
    | brk => exact False.elim h
    | cont => exact False.elim h
    | ret u =>
      obtain ⟨v, H', os, bare, un, hok', r', q⟩ := h
      have q' : v = .bl true := q
      subst q'
      obtain rfl : u = Value.bool true := r'
      have same : ∀ b o, b ∉ T.map (·.2) → s₁.heap.get? b = some o → s'.heap.get? b = some o := fun b o m z => by
        cases q : H b with
        | none => exact un.keep b o z q (by intro y; exact absurd (show b ∈ ([] : List Addr) from y) (by simp)) (by simp)
        | some u =>
          rcases told b u q with ⟨y, _⟩ | ⟨rfl, _, rfl⟩
          · exact absurd y m
          · obtain ⟨e2, _⟩ := hok' b _ (un.frzs b _ _ q)
            rw [oa] at z
            cases z
            exact e2
      have more : ∀ p ∈ T, ∃ us : Array Value, s'.heap.get? p.2 = some { cls := .none, data := .fields us } := fun p hp => by
        obtain ⟨us, z⟩ := un.tbls p.2 #[] (hT p.2 (List.mem_map.mpr ⟨p, hp, rfl⟩))
        exact ⟨_, hok' p.2 _ z⟩
      refine ⟨rfl, ⟨fun b o e => ?_, fun b o e => ?_⟩, os, bare⟩
      · by_cases m : b ∈ T.map (·.2)
        · obtain ⟨p, hp, rfl⟩ := List.mem_map.mp m
          obtain ⟨us, hm⟩ := more p hp
          rw [tE p hp] at e
          cases e
          exact .inr (.inl ⟨((tC p hp).tab (tE p hp)).isCodeTable, rfl, #[], us, rfl, by rw [Array.empty_append]; exact hm⟩)
        · exact .inl (same b o m e)
      · by_cases m : b ∈ T.map (·.2)
        · obtain ⟨p, hp, rfl⟩ := List.mem_map.mp m
          obtain ⟨us, hm⟩ := more p hp
          exact ⟨_, hm⟩
        · exact ⟨o, same b o m e⟩
def spTab (K : PySem.W.Frag) (m : FM) (T : List (PySem.Str × Addr × Addr)) : Sp := fun vs H Q _ => ∃ (a : Addr) (ns : List Int), vs = [.ref a] ∧ ns.length ≤ 63 ∧ OnlyT (T.map (·.2.2)) H ∧ (T.map (·.2.2)).Nodup ∧ (∀ p ∈ T, PySem.W.tabIn K p.1 = some p.2) ∧ SqL K H a (ns.map V.int) ∧ (∃ h', m [.scr ns] (T.map fun p => .tbl p.1) = .ok (.bl true) h') ∧ ∀ H', Q (.bl true) H'
theorem walk_atT {l : PySem.W.OpenLaw} {n : Nat} {q : Program} {loose : List PySem.Str} {XP : (PySem.Str → Option Value) → Heap → Prop} {YP : World → Heap → Prop} {d : DefRec} {K : Params → PySem.W.Frag} {m : FM} {x : PySem.Str}
    (hn : l.most = some n) (hn2 : n ≤ sizeLine) (hdf : d.params.defaults = [])
    (hY : ∀ (w : World) (h : Heap), YP w h → (K w.params).In h)
    (F : ∀ (w : World) (mg : PySem.Str → Option Value) (fa : Addr) (h : Heap), YP w h → (K w.params).In h → h.Ns mainGlobals mg → mg d.name = some (.ref fa) →
      ∃ (T : List (PySem.Str × Addr × Addr)), (∀ p ∈ T, h.get? p.2.2 = some empT) ∧ (∀ p ∈ T, (K w.params).lookup p.2.2 = none) ∧ (∀ p ∈ T, PySem.W.CodeHd h p.2.1 p.2.2) ∧
        (∀ (H : Hp) (a : Addr) (ns : List Int), ns.length ≤ n → OnlyT (T.map (·.2.2)) H → SqL (K w.params) H a (ns.map V.int) → spTab (K w.params) m T [.ref a] H (fun v _ => v = .bl true) fun _ _ _ => False) ∧
        ∃ fd : FuncData, (∀ (s : Shared) (u : Value), BindsTo s fd ⟨[u], []⟩ [(x, u)]) ∧
          ∀ base : Heap, (K w.params).In base → base.Ns mainGlobals mg → (∀ p ∈ T, LamX.TabB base mg p.2.1 p.2.2) → RunAt l.prog w (K w.params) mg base CX0 callerA fa fd [x] (spTab (K w.params) m T)) :
    PySem.W.WalkO q loose XP YP l.row.toRowW d [] (fun f vs => PySem.call f vs) := by
  refine Att.attach_callB hn hdf fun w s₀ s₁ mg mb fa o pm cd doc a vs ns G Y ho hd hcd hmg hobj hints hlen hbits hg => ?_
  have kX := hY w _ Y
  obtain ⟨T, h1, h2, h3, h4, fd, hb, hF⟩ := F w mg fa _ Y kX G.T.g hmg
  have mT : (T.map (·.2)).map (·.2) = T.map (·.2.2) := by rw [List.map_map]; rfl
  refine law_atT (T := T.map (·.2)) kX G.T.g G.T.b G.T.builtins G.T.nolimit hg ?_ ?_ ?_ G.T.bmain hobj hints (Nat.le_trans hlen hn2) (fun base k g t => hF base k g fun p hp => t _ (List.mem_map.mpr ⟨p, hp, rfl⟩)) hb (fun H hO hS => h4 H a ns hlen (by rw [mT] at hO; exact hO) hS)
  · exact fun p hp => by obtain ⟨q, hq, rfl⟩ := List.mem_map.mp hp; exact h1 q hq
  · exact fun p hp => by obtain ⟨q, hq, rfl⟩ := List.mem_map.mp hp; exact h2 q hq
  · exact fun p hp => by obtain ⟨q, hq, rfl⟩ := List.mem_map.mp hp; exact h3 q hq
theorem spTab_to {c : Cfg} {m : FM} {T : List (PySem.Str × Addr × Addr)} {vs : List V} {H : Hp} {Q : VK} {E : XK} (h : spTab c.K m T vs H Q E) : spF c 1 m vs H Q E := by
  obtain ⟨a, ns, rfl, hl, hO, nd, ht, hS, ⟨h', e⟩, q⟩ := h
  refine ⟨T.map (·.2.2), T.map fun p => .tbl p.1, [.scr ns], _, h', ⟨by rw [List.length_map, List.length_map], nd, fun i b o z z2 => ?_⟩, .cons (.scr ?_) .nil, rfl, e, fun μ v H' g R p => by rw [p.bl_inv]; exact q H'⟩
  · rw [List.getElem?_map] at z z2
    cases hp : T[i]? with
    | none => rw [hp] at z; cases z
    | some p =>
      rw [hp] at z z2
      cases z
      cases z2
      have m := List.mem_of_getElem? hp
      refine ⟨_, hO.tab _ (List.mem_map.mpr ⟨p, m, rfl⟩), ⟨p.2.1, ht p m⟩, #[], rfl, True.intro, fun pos cv z => ?_⟩
      have z : codeAmong pos [] = some cv := z
      simp [codeAmong] at z
  · rcases hS with (z | ⟨ob, z⟩) | z
    · rcases hO.all _ _ z with ⟨_, y⟩ | ⟨_, _, y⟩ <;> cases y
    · exact .inl ⟨ob, z⟩
    · exact .inr z
end MM

set_option maxRecDepth 100000
set_option maxHeartbeats 4000000

namespace MM
open PySem PySem.Spec PyProof.Rows L2
section
variable {X : Cx}
def popM : FT := fun w ws h => match w, ws with
  | .obj i, [] => match lstOf h i with
    | some us => match us.getLast? with
      | some y => .ok y (h.set i (.lst us.dropLast))
      | none => .no
    | none => .no
  | _, _ => .no
def pop0M : FT := fun w ws h => match w, ws with
  | .obj i, [.int 0] => match lstOf h i with
    | some (y :: us) => .ok y (h.set i (.lst us))
    | _ => .no
  | _, _ => .no
theorem lmt_pop0 : LMt (cfg X) "list" pop0M rPopAt := by
  intro μ h H v vs w ws u h' Q R p r e n
  unfold pop0M at e
  split at e
  · next i =>
    split at e
    · next y us q =>
      cases e
      obtain ⟨a, rfl, ha⟩ := p.obj_inv
      obtain ⟨x, rfl, px⟩ := r.one_inv
      cases px
      obtain ⟨xs, hx, rr⟩ := lstOf_to R ha q
      cases rr with
      | cons p2 r2 =>
        exact ⟨a, _, 0, 0, _, rfl, rfl, hx, by decide, by decide, by simp [seqIndex?], rfl, n.put R ha hx (fun _ _ z => by cases z) (fun _ _ g => ⟨_, rfl, r2.mv g⟩) p2⟩
    · cases e
  · cases e
theorem me_pop0 {o e : Expr} {apos cpos : Pos} {mo : EM} {ma : AM} (ho : ME X o mo) (ha : MA X [e] ma) (hbase : attributeBase o "pop" X.env (eval o X.env) = eval o X.env := by rfl)
    (hfew : ((backTo cpos (starEach [e] X.env)).all (fun x => !x.1) && (backToKw cpos (keywordEach [] X.env)).all (fun x => x.1.isSome) && decide ([e].length + ([] : List Keyword).length + (if ([] : List Keyword).isEmpty then 0 else 1) < 30)) = true := by rfl)
    (hline : (apos.endLine == cpos.line) = true := by rfl) (hs : starEach [e] X.env = (false, eval e X.env) :: starEach [] X.env := by rfl) (hplain : (backTo cpos (starEach [] X.env)).any (·.1) = false := by rfl) : ME X (.Call (.Attribute o "pop" apos) [e] [] cpos) (eBm isLst pop0M mo ma) :=
  me_bm PySem.F.plainAttrs_list PySem.F.slot_list_pop PySem.F.type_list_pop mt_popAt lty_list lmt_pop0 ho ha hbase hfew hline hs hplain
end
section
variable {h : Hm} {i : Nat} {us : List Wv} {y : Wv} {Q : Wv → Hm → Prop}
theorem wp_pop0 (e : h[i]? = some (.lst (y :: us))) : wpM (pop0M (.obj i) [.int 0]) h Q ↔ Q y (h.set i (.lst us)) := wp_ok (by
  unfold pop0M lstOf; simp only [e])
end
end MM

set_option maxRecDepth 100000
set_option maxHeartbeats 4000000

namespace MM
open PySem PySem.Spec PyProof.Rows L2
def insM : FT := fun w ws h => match w, ws with
  | .obj l, [.int i, y] => match lstOf h l with
    | some us => if us.length < sizeLine ∧ 0 ≤ i ∧ i < 2 ^ 63 then .ok .non (h.set l (.lst (us.take i.toNat ++ [y] ++ us.drop i.toNat))) else .no
    | none => .no
  | _, _ => .no
section
variable {X : Cx}
theorem lmt_ins : LMt (cfg X) "list" insM (fun x vs H Q => ∃ (l : Addr) (xs : List V) (i : Int) (y : V), x = .ref l ∧ vs = [.int i, y] ∧ H l = some (.lst xs) ∧ xs.length < sizeLine ∧ 0 ≤ i ∧ i < 2 ^ 63 ∧ Q .non (upd H l (.lst (xs.take i.toNat ++ [y] ++ xs.drop i.toNat)))) := by
  intro μ h H v vs w ws u h' Q R p r e n
  unfold insM at e
  split at e
  · next l i y =>
    split at e
    · next us q =>
      obtain ⟨⟨h1, h2, h3⟩, e⟩ := ifO_ok e
      cases e
      obtain ⟨a, rfl, ha⟩ := p.obj_inv
      obtain ⟨xs, hx, rr⟩ := lstOf_to R ha q
      obtain ⟨v1, v2, rfl, p1, p2⟩ := r.two_inv
      refine ⟨a, xs, i, v2, rfl, by rw [p1.int_inv], hx, by rw [rr.length]; exact h1, h2, h3, n.put R ha hx (fun _ _ z => by cases z) (fun _ _ g => ⟨_, rfl, ?_⟩) .non⟩
      exact (((rr.mv g).take i.toNat).append (.cons (p2.mv g) .nil)).append ((rr.mv g).drop i.toNat)
    · cases e
  · cases e
theorem me_insert {o e e2 : Expr} {apos cpos : Pos} {mo : EM} {ma : AM} (ho : ME X o mo) (ha : MA X [e, e2] ma) (hbase : attributeBase o "insert" X.env (eval o X.env) = eval o X.env := by rfl)
    (hfew : ((backTo cpos (starEach [e, e2] X.env)).all (fun x => !x.1) && (backToKw cpos (keywordEach [] X.env)).all (fun x => x.1.isSome) && decide ([e, e2].length + ([] : List Keyword).length + (if ([] : List Keyword).isEmpty then 0 else 1) < 30)) = true := by rfl)
    (hline : (apos.endLine == cpos.line) = true := by rfl) (hs : starEach [e, e2] X.env = (false, eval e X.env) :: starEach [e2] X.env := by rfl) (hplain : (backTo cpos (starEach [e2] X.env)).any (·.1) = false := by rfl) : ME X (.Call (.Attribute o "insert" apos) [e, e2] [] cpos) (eBm isLst insM mo ma) :=
  me_bm PySem.F.plainAttrs_list PySem.F.slot_list_insert PySem.F.type_list_insert mt_insert lty_list lmt_ins ho ha hbase hfew hline hs hplain
end
theorem wp_ins {h : Hm} {l : Nat} {i : Int} {us : List Wv} {y : Wv} {Q : Wv → Hm → Prop} (e : h[l]? = some (.lst us)) (h1 : us.length < sizeLine) (h2 : 0 ≤ i) (h3 : i < 2 ^ 63) : wpM (insM (.obj l) [.int i, y]) h Q ↔ Q .non (h.set l (.lst (us.take i.toNat ++ [y] ++ us.drop i.toNat))) := wp_ok (by
  unfold insM lstOf; simp only [e]; rw [if_pos ⟨h1, h2, h3⟩])
theorem Fun.atC {P : Program} {w : World} {K : PySem.W.Frag} {mg : PySem.Str → Option Value} {base : Heap} {x qual : PySem.Str} {st : Stmt} {f c : Addr} {fd : FuncData} {N ps : List PySem.Str} {k : Nat} {n j : Nat} {b : SM} {A : Around} (F : Fun K x qual st f fd) (S : FnScope N ps (defScope st)) (hn : N.length = n) (hj : ps.length = j) (hc : fd.code = .ref c) (hr : Room (k + 1) A)
    (body : ∀ (outer : List PySem.Env) (s : Shared) (H : Hp) (E : XK), Room k (A.deeper (envOfC qual (defScope st) s.heap.objs.size f (.ref c))) → MSs (cxOf CX0 P w K mg base N qual (defScope st) f (.ref c) A outer s H E).nox (defBody st) b) :
    RunAt P w K mg base CX0 A f fd ps (spF ⟨P, w, K, mg⟩ j (fun_ n j b)) := by
  obtain ⟨oc, od, kV, doc, pm, an, cdv, ct, osl, rfl, lk, hcd⟩ := F.ex
  have hc : cdv = .ref c := hc
  subst hc
  refine run_at lk hcd S (fun vs H Q E h => by rw [hj]; exact spF_len h) hr fun outer s H vs Q E h => ⟨_, (body outer s H E (hr.deeper _)).nox, ?_⟩
  obtain ⟨μ, h, ws, u, h', R, p, l, e, nx⟩ := h
  unfold fun_ at e
  rw [if_pos l] at e
  obtain ⟨⟨fl, ρ'⟩, h1, e1, e⟩ := bind_ok e
  subst hn
  refine ⟨μ, _, h, fl, ρ', h1, at_start R p, e1, fun μ1 σ1 H1 g1 A1 => ?_⟩
  cases fl with
  | nx => cases e; exact nx μ1 _ H1 g1 A1.rel .non
  | ret w => cases e; exact fun v pv => nx μ1 v H1 g1 A1.rel pv
  | bk => cases e
  | ct => cases e
  | xc x => cases e
theorem cap_by {N : List PySem.Str} {sc scope : Scope} {js : List Nat} (h : capB N sc scope js = true) : capB N sc scope js = true := h
theorem lk_nil {P : Program} {w : World} {K : PySem.W.Frag} {mg : PySem.Str → Option Value} {base : Heap} {k : Nat} : ∀ q ∈ ([] : List (LKey × (List Wv → FM))), Lk P w K mg base k q.1 q.2 := fun q h => absurd h (by simp)
theorem lk_cons {P : Program} {w : World} {K : PySem.W.Frag} {mg : PySem.Str → Option Value} {base : Heap} {k j : Nat} {e : LKey} {m : List Wv → FM} {tab : List (LKey × (List Wv → FM))} (d : Lk P w K mg base j e m) (h : j ≤ k) (t : ∀ q ∈ tab, Lk P w K mg base k q.1 q.2) : ∀ q ∈ (e, m) :: tab, Lk P w K mg base k q.1 q.2 := fun q hq => by
  rcases List.mem_cons.mp hq with rfl | hq
  · exact d.mono h
  · exact t q hq
def lamArgs : Expr → Arguments
  | .Lambda a _ _ _ => a
  | _ => ⟨[], [], none, [], [], none, []⟩
def lamBody : Expr → Expr
  | .Lambda _ b _ _ => b
  | e => e
def lamScope : Expr → Scope
  | .Lambda _ _ s _ => s
  | _ => ⟨.function, [], false, false, []⟩
def lamPos : Expr → Pos
  | .Lambda _ _ _ p => p
  | _ => ⟨0, 0, 0, 0⟩
theorem code_of {K : PySem.W.Frag} {h : Heap} {mg : PySem.Str → Option Value} {x qual : PySem.Str} {st : Stmt} {f c P : Addr} {fd : FuncData} (X : K.In h) (G : h.Ns mainGlobals mg) (ht : PySem.W.tabIn K x = some (c, P)) (hm : mg x = some (.ref f)) (F : Fun K x qual st f fd) : fd.code = .ref c := by
  obtain ⟨oc, od, kV, doc, pm, an, cdv, ct, osl, rfl, lk, hcd⟩ := F.ex
  exact PySem.W.law_code X G ht hm (X _ _ lk) rfl
theorem tabs_scr {P : Program} {w : World} {K : PySem.W.Frag} {mg : PySem.Str → Option Value} {fa : Addr} {m : FM} {x : PySem.Str} {h : Heap} {T : List (PySem.Str × Addr × Addr)} (T0 : ∀ ns : List Int, ns.length ≤ 63 → ∃ h', m [.scr ns] (T.map fun p => .tbl p.1) = .ok (.bl true) h')
    (gt : ∀ p ∈ T, h.get? p.2.2 = some empT) (kt : ∀ p ∈ T, K.lookup p.2.2 = none) (ct : ∀ p ∈ T, PySem.W.CodeHd h p.2.1 p.2.2) (tt : ∀ p ∈ T, PySem.W.tabIn K p.1 = some p.2) (nd : (T.map (·.2.2)).Nodup)
    (g : ∃ fd : FuncData, (∀ (s : Shared) (v : Value), BindsTo s fd ⟨[v], []⟩ [(x, v)]) ∧ ∀ base : Heap, K.In base → base.Ns mainGlobals mg → (∀ p ∈ T, LamX.TabB base mg p.2.1 p.2.2) → RunAt P w K mg base CX0 callerA fa fd [x] (spF ⟨P, w, K, mg⟩ 1 m)) :
    ∃ (T : List (PySem.Str × Addr × Addr)), (∀ p ∈ T, h.get? p.2.2 = some empT) ∧ (∀ p ∈ T, K.lookup p.2.2 = none) ∧ (∀ p ∈ T, PySem.W.CodeHd h p.2.1 p.2.2) ∧
      (∀ (H : Hp) (a : Addr) (ns : List Int), ns.length ≤ 63 → OnlyT (T.map (·.2.2)) H → SqL K H a (ns.map V.int) → spTab K m T [.ref a] H (fun v _ => v = .bl true) fun _ _ _ => False) ∧
      ∃ fd : FuncData, (∀ (s : Shared) (u : Value), BindsTo s fd ⟨[u], []⟩ [(x, u)]) ∧ ∀ base : Heap, K.In base → base.Ns mainGlobals mg → (∀ p ∈ T, LamX.TabB base mg p.2.1 p.2.2) → RunAt P w K mg base CX0 callerA fa fd [x] (spTab K m T) := by
  obtain ⟨fd, b, r⟩ := g
  exact ⟨T, gt, kt, ct, fun H a ns hl hO hS => ⟨a, ns, rfl, hl, hO, nd, tt, hS, T0 ns hl, fun _ => rfl⟩, fd, b, fun base k g t outer s H args us vs Q E e0 hb rv hsp => r base k g t outer s H args us vs Q E e0 hb rv (spTab_to (c := ⟨P, w, K, mg⟩) hsp)⟩

theorem tabIn_of {K : PySem.W.Frag} {x : PySem.Str} {f c P : Addr} {oc oc' : Value} {od od' : Option Addr} {fd : FuncData} {sl sl' : Array (Option Value)} {vs : Array Value} (h1 : PySem.W.nsIn K mainGlobals x = some (some (.ref f))) (h2 : K.lookup f = some ⟨oc, od, .func fd, sl⟩) (h3 : fd.code = .ref c)
    (h4 : K.lookup c = some ⟨oc', od', .fields vs, sl'⟩) (h5 : vs[11]? = some (.ref P)) : PySem.W.tabIn K x = some (c, P) := by
  unfold PySem.W.tabIn
  rw [h1]
  simp only [h2, h3, h4]
  rw [h5]
def codeB (o : Obj) (c P : Addr) : Bool := PySem.W.codeHdIn [(c, o)] c P
theorem codeHd_of {K : PySem.W.Frag} {h : Heap} {c P : Addr} {o : Obj} (X : K.In h) (e : K.lookup c = some o) (b : codeB o c P = true) : PySem.W.CodeHd h c P := by
  refine PySem.W.codeHd_of_K X ?_
  have l : List.lookup c [(c, o)] = some o := by rw [List.lookup_cons, beq_self_eq_true]
  unfold codeB PySem.W.codeHdIn at b
  unfold PySem.W.codeHdIn
  rw [l] at b
  rw [e]
  exact b
end MM

set_option maxRecDepth 100000
set_option maxHeartbeats 4000000
namespace GP
open PySem PySem.Spec PyProof.Rows L2 K01 MM
def m_Writing___init__ : FM := fun_ 5 5 ((sSeq (sFldM "Writing" "own_word" (eVar 0) (eVar 1))
    (sSeq (sFldM "Writing" "own_version" (eVar 0) (eVar 2))
    (sSeq (sFldM "Writing" "own_targets" (eVar 0) (eCall listOf (aCons (eVar 3) aNil)))
    (sSeq (sFldM "Writing" "own_need" (eVar 0) (eVar 4))
    (sFldM "Writing" "own_held" (eVar 0) (eLst aNil)))))))
def m_Writing_answered : FM := fun_ 2 2 ((sSeq (sIf (tNotM (tTru (eCall m_is_awaited (aCons (eFld "Writing" "own_targets" (eVar 0)) (aCons (eFld "Writing" "own_held" (eVar 0)) (aCons (eVar 1) aNil)))))) (sRet (eC (.bl false))) sNil)
    (sSeq (sExpr (eBm isLst appM (eFld "Writing" "own_held" (eVar 0)) (aCons (eVar 1) aNil)))
    (sRet (eOp (eqB false) (eCall lenM (aCons (eFld "Writing" "own_held" (eVar 0)) aNil)) (eFld "Writing" "own_need" (eVar 0)))))))
def m_Writing_held : FM := fun_ 1 1 ((sRet (eCall listOf (aCons (eFld "Writing" "own_held" (eVar 0)) aNil))))
def m_Writing_twin : FM := fun_ 2 1 ((sSeq (sSet 1 (eCall (mkC "Writing" m_Writing___init__) (aCons (eFld "Writing" "own_word" (eVar 0)) (aCons (eFld "Writing" "own_version" (eVar 0)) (aCons (eFld "Writing" "own_targets" (eVar 0)) (aCons (eFld "Writing" "own_need" (eVar 0)) aNil))))))
    (sSeq (sFldM "Writing" "own_held" (eVar 1) (eMeth "Writing" "held" m_Writing_held (eVar 0) aNil))
    (sRet (eVar 1)))))
def m_Writing_targets : FM := fun_ 1 1 ((sRet (eCall listOf (aCons (eFld "Writing" "own_targets" (eVar 0)) aNil))))
def m_Writing_word : FM := fun_ 1 1 ((sRet (eFld "Writing" "own_word" (eVar 0))))
def m_Writing_version : FM := fun_ 1 1 ((sRet (eFld "Writing" "own_version" (eVar 0))))
def m_Writing_is_told : FM := fun_ 1 1 ((sRet (eOp geI (eCall lenM (aCons (eFld "Writing" "own_held" (eVar 0)) aNil)) (eFld "Writing" "own_need" (eVar 0)))))
end GP

set_option maxRecDepth 100000
set_option maxHeartbeats 4000000
namespace GR26
open PySem PySem.Spec PyProof.Rows L2 K01 MM GP
def l_law_0 : List Wv → FM := lamM 2 1 (eOp (inM true) (eVar 0) (eVar 1))
def l_law_1 : List Wv → FM := lamM 1 1 (eC (.bl true))
def m_targets : FM := fun_ 7 3 ((sSeq (sSet 3 (eLc (iSeqM (eSl (eVar 0) (oSome (eVar 1)) oNone)) [6] (gN 6) (tTru (eCallL [(("law", [0, 5], [3]), l_law_0), (("law", [0, 7], [1, 0, 3]), l_law_1)] 2 (aCons (eVar 6) aNil))) (eVar 6)))
    (sSeq (sSet 4 (eLst aNil))
    (sSeq (sFor (iSeqM (eSl (eVar 0) oNone (oSome (eVar 1)))) (gN 5) (sIf (tTru (eCallL [(("law", [0, 5], [3]), l_law_0), (("law", [0, 7], [1, 0, 3]), l_law_1)] 2 (aCons (eVar 5) aNil))) (sExpr (eBm isLst appM (eVar 4) (aCons (eTup (aCons (eVar 5) (aCons (eC .non) aNil))) aNil))) (sIf (tTru (eVar 3)) (sExpr (eBm isLst appM (eVar 4) (aCons (eTup (aCons (eBm isLst pop0M (eVar 3) (aCons (eC (.int 0)) aNil)) (aCons (eVar 5) aNil))) aNil))) sNil)))
    (sRet (eVar 4))))))
def m__law_due : FM := fun_ 6 3 ((sSeq (sSet 3 (eLc (iSeqM (eSl (eVar 0) (oSome (eVar 1)) oNone)) [5] (gN 5) (tOf (eOp (inM true) (eVar 5) (eVar 2))) (eVar 5)))
    (sSeq (sSet 4 (eLst aNil))
    (sSeq (sFor (iSeqM (eSl (eVar 0) oNone (oSome (eVar 1)))) (gN 5) (sIf (tOf (eOp (inM true) (eVar 5) (eVar 2))) (sExpr (eBm isLst appM (eVar 4) (aCons (eTup (aCons (eVar 5) (aCons (eC .non) aNil))) aNil))) (sIf (tOf (eOp (eqB true) (eVar 3) (eLst aNil))) (sSeq (sExpr (eBm isLst appM (eVar 4) (aCons (eTup (aCons (eOp ixM (eVar 3) (eC (.int 0))) (aCons (eVar 5) aNil))) aNil)))
    (sSet 3 (eSl (eVar 3) (oSome (eC (.int 1))) oNone))) sNil)))
    (sRet (eVar 4))))))
def m__law_right : FM := fun_ 6 4 ((sSeq (sFor (iArgs rng1 (aCons (eC (.int 2)) aNil)) (gN 4) (sSeq (sSet 5 (eLst (aCons (eMeth "Writing" "targets" m_Writing_targets (eVar 0) aNil) (aCons (eMeth "Writing" "held" m_Writing_held (eVar 0) aNil) aNil))))
    (sSeq (sIf (tOrM (tOf (eOp (eqB true) (eVar 5) (eLst (aCons (eVar 1) (aCons (eVar 2) aNil))))) (tOf (eOp (eqB true) (eCall repB (aCons (eMeth "Writing" "is_told" m_Writing_is_told (eVar 0) aNil) aNil)) (eCall repB (aCons (eOp geI (eCall lenM (aCons (eVar 2) aNil)) (eVar 3)) aNil))))) (sRet (eC (.bl false))) sNil)
    (sSeq (sExpr (eBm isLst appM (eOp ixM (eVar 5) (eC (.int 0))) (aCons (eC .non) aNil)))
    (sExpr (eBm isLst appM (eOp ixM (eVar 5) (eC (.int 1))) (aCons (eC (.str "x")) aNil)))))))
    (sRet (eAnd (eOp (eqB false) (eMeth "Writing" "word" m_Writing_word (eVar 0) aNil) (eC (.str "key"))) (eOp (eqB false) (eMeth "Writing" "version" m_Writing_version (eVar 0) aNil) (eTup (aCons (eTup (aCons (eC (.int 2)) (aCons (eC (.str "a")) (aCons (eC (.int 1)) aNil)))) (aCons (eTup aNil) (aCons (eC (.int 5)) aNil)))))))))
def m_law : FM := fun_ 18 1 ((sSeq (sFor (iArgs rng1 (aCons (eCall max2 (aCons (eC (.int 1)) (aCons (eCall min2 (aCons (eCall lenM (aCons (eVar 0) aNil)) (aCons (eC (.int 10)) aNil))) aNil))) aNil)) (gN 1) (sSeq (sSet 2 (eCall m__law_hand (aCons (eVar 0) (aCons (eVar 1) aNil))))
    (sSeq (sSet 3 (eLst aNil))
    (sSeq (sFor (iStrM (eSl (eC (.str "abcdefgh")) oNone (oSome (eOp addM (eC (.int 1)) (eCall m__law_draw (aCons (eVar 2) (aCons (eC (.int 8)) aNil))))))) (gN 4) (sExpr (eBm isLst insM (eVar 3) (aCons (eCall m__law_draw (aCons (eVar 2) (aCons (eOp addM (eCall lenM (aCons (eVar 3) aNil)) (eC (.int 1))) aNil))) (aCons (eVar 4) aNil)))))
    (sSeq (sSet 5 (eOp addM (eC (.int 1)) (eCall m__law_draw (aCons (eVar 2) (aCons (eCall min2 (aCons (eC (.int 5)) (aCons (eCall lenM (aCons (eVar 3) aNil)) aNil))) aNil)))))
    (sSeq (sSet 6 (eLc (iSeqM (eVar 3)) [4] (gN 4) (tOf (eOp (eqB false) (eCall m__law_draw (aCons (eVar 2) (aCons (eC (.int 3)) aNil))) (eC (.int 0)))) (eVar 4)))
    (sSeq (sSet 7 (eCallLam m_targets 0 "law" ("law", [0, 5], [3]) [6] (aCons (eVar 3) (aCons (eVar 5) aNil))))
    (sSeq (sSet 8 (eLc (iSeqM (eSl (eVar 3) oNone (oSome (eVar 5)))) [4] (gN 4) tYesM (eTup (aCons (eVar 4) (aCons (eC .non) aNil)))))
    (sSeq (sIf (tOrM (tOf (eOp (eqB true) (eVar 7) (eCall m__law_due (aCons (eVar 3) (aCons (eVar 5) (aCons (eVar 6) aNil)))))) (tOf (eOp (eqB true) (eCallLam m_targets 0 "law" ("law", [0, 7], [1, 0, 3]) [] (aCons (eVar 3) (aCons (eVar 5) aNil))) (eVar 8)))) (sRet (eC (.bl false))) sNil)
    (sSeq (sSet 9 (eOp addM (eC (.int 1)) (eCall m__law_draw (aCons (eVar 2) (aCons (eC (.int 5)) aNil)))))
    (sSeq (sSet 10 (eCall listOf (aCons (eVar 7) aNil)))
    (sSeq (sSet 11 (eLst (aCons (eLst (aCons (eCall (mkC "Writing" m_Writing___init__) (aCons (eC (.str "key")) (aCons (eTup (aCons (eTup (aCons (eC (.int 2)) (aCons (eC (.str "a")) (aCons (eC (.int 1)) aNil)))) (aCons (eTup aNil) (aCons (eC (.int 5)) aNil)))) (aCons (eVar 10) (aCons (eVar 9) aNil))))) (aCons (eLst aNil) aNil))) aNil)))
    (sSeq (sExpr (eBm0 isLst clrM (eVar 10)))
    (sFor (iArgs rng1 (aCons (eC (.int 14)) aNil)) (gN 12) (sSeq (sAsg (eOp ixM (eVar 11) (eCall m__law_draw (aCons (eVar 2) (aCons (eCall lenM (aCons (eVar 11) aNil)) aNil)))) (gL 2 (gsCons (gN 13) (gsCons (gN 14) gsNil))))
    (sSeq (sSet 4 (eOp ixM (eOp addM (eVar 3) (eLst (aCons (eC (.str "zz")) aNil))) (eCall m__law_draw (aCons (eVar 2) (aCons (eOp addM (eCall lenM (aCons (eVar 3) aNil)) (eC (.int 1))) aNil)))))
    (sSeq (sSet 15 (eC (.bl false)))
    (sSeq (sIf (tAndM (tOf (eOp (inM false) (eVar 4) (eLc (iSeqM (eVar 7)) [16] (gN 16) tYesM (eOp ixM (eVar 16) (eC (.int 0)))))) (tOf (eOp (inM true) (eVar 4) (eVar 14)))) (sSeq (sExpr (eBm isLst appM (eVar 14) (aCons (eVar 4) aNil)))
    (sSet 15 (eOp (eqB false) (eCall lenM (aCons (eVar 14) aNil)) (eVar 9)))) sNil)
    (sSeq (sIf (tOf (eOp (eqB true) (eCall repB (aCons (eMeth "Writing" "answered" m_Writing_answered (eVar 13) (aCons (eVar 4) aNil)) aNil)) (eCall repB (aCons (eVar 15) aNil)))) (sRet (eC (.bl false))) sNil)
    (sSeq (sIf (tOf (eOp (eqB true) (eLc (iSeqM (eVar 11)) [17] (gN 17) (tNotM (tTru (eCall m__law_right (aCons (eOp ixM (eVar 17) (eC (.int 0))) (aCons (eVar 7) (aCons (eOp ixM (eVar 17) (eC (.int 1))) (aCons (eVar 9) aNil))))))) (eC (.int 1))) (eLst aNil))) (sRet (eC (.bl false))) sNil)
    (sIf (tAndM (tOf (eOp (eqB false) (eCall m__law_draw (aCons (eVar 2) (aCons (eC (.int 5)) aNil))) (eC (.int 0)))) (tOf (eOp ltI (eCall lenM (aCons (eVar 11) aNil)) (eC (.int 4))))) (sExpr (eBm isLst appM (eVar 11) (aCons (eLst (aCons (eMeth "Writing" "twin" m_Writing_twin (eVar 13) aNil) (aCons (eCall listOf (aCons (eVar 14) aNil)) aNil))) aNil))) sNil)))))))))))))))))))))
    (sRet (eC (.bl true)))))
end GR26

set_option maxRecDepth 100000
set_option maxHeartbeats 4000000
namespace GR26
open PySem PySem.Spec PyProof.Rows L2 K01 MM GP
def topS (i : Nat) : Stmt := PySem.Challenge.pw_heldhints_k26_targets_and_writings.main.body.getD i (.Pass ⟨0, 0, 0, 0⟩)
section
variable {P : Program} {w : World} {K : PySem.W.Frag} {mg : PySem.Str → Option Value} {base : Heap} {f : Addr} {fd : FuncData}
def lam_law_0 : Expr := (lamAt PySem.Challenge.pw_heldhints_k26_targets_and_writings ("law", [0, 5], [3])).getD (.Name "" ⟨0, 0, 0, 0⟩)
def lam_law_1 : Expr := (lamAt PySem.Challenge.pw_heldhints_k26_targets_and_writings ("law", [0, 7], [1, 0, 3])).getD (.Name "" ⟨0, 0, 0, 0⟩)
abbrev N__law_hand : List PySem.Str := ["_law_script", "_law_k", "_law_cell", "_law_seed"]
theorem sc__law_hand : FnScope N__law_hand ["_law_script", "_law_k"] (defScope (topS 6)) := ⟨rfl, rfl, rfl, by decide +kernel, rfl, by decide +kernel, by decide +kernel⟩
theorem ok__law_hand (B : Bm mg)  (F : Fun K "_law_hand" "_law_hand" (topS 6) f fd) : FnOk P w K mg base CX0 1 f fd ["_law_script", "_law_k"] (spF ⟨P, w, K, mg⟩ 2 m__law_hand) :=
  Fun.okM F sc__law_hand rfl rfl (k := 0) fun cdv A outer s H E hr =>
    (mss_cons (ms_set (i := 2) sc__law_hand.nd rfl (Or.inl rfl) (me_sub_ix (me_add (me_sliceS (mv 0) (mo_some (mv 1)) (mo_some (me_add (mv 1) me_int))) (me_lst (ma_cons me_int ma_nil))) me_int (fun _ _ => rfl)))
    (mss_cons (ms_set (i := 3) sc__law_hand.nd rfl (Or.inl rfl) (me_mod (me_mul (me_add (me_add (me_mod (mv 2) me_int) (me_mul me_int (mv 1))) me_int) me_int) me_int))
    (mss_one (ms_ret (me_lst (ma_cons (me_mul (me_callTy call_int1 lc_int (by rfl) B.int (by decide +kernel) (ma_cons (me_ge (mv 2) (me_pow me_int me_int)) ma_nil)) (mv 2)) (ma_cons (mv 3) ma_nil)))))))
theorem okl_law_0 (B : Bm mg)  (ky : lamAt P ("law", [0, 5], [3]) = some (.Lambda (lamArgs lam_law_0) (lamBody lam_law_0) (lamScope lam_law_0) (lamPos lam_law_0))) : Lk P w K mg base 1 ("law", [0, 5], [3]) l_law_0 :=
  lk_of (k := 0) (N := ["_law_name", "_law_away"]) (ps := ["_law_name"]) ky (NdefX.nscope_by (by decide +kernel)) rfl rfl (fun q cl pm cv ctv us hl => match us, hl with | [_], _ => rfl) (fun A outer s H F f hsc hr => by
    obtain ⟨_, _, _, _, sc, _, _⟩ := F
    have hsc : sc = lamScope lam_law_0 := hsc
    subst hsc
    exact (me_notIn (hu65 hr) (mv 0) (mv 1)))
theorem okl_law_1 (B : Bm mg)  (ky : lamAt P ("law", [0, 7], [1, 0, 3]) = some (.Lambda (lamArgs lam_law_1) (lamBody lam_law_1) (lamScope lam_law_1) (lamPos lam_law_1))) : Lk P w K mg base 1 ("law", [0, 7], [1, 0, 3]) l_law_1 :=
  lk_of (k := 0) (N := ["_law_name"]) (ps := ["_law_name"]) ky (NdefX.nscope_by (by decide +kernel)) rfl rfl (fun q cl pm cv ctv us hl => match us, hl with | [_], _ => rfl) (fun A outer s H F f hsc hr => by
    obtain ⟨_, _, _, _, sc, _, _⟩ := F
    have hsc : sc = lamScope lam_law_1 := hsc
    subst hsc
    exact me_bl)
abbrev N_targets : List PySem.Str := ["order", "copies", "here", "spare", "told", "home", "house"]
theorem sc_targets : FnScope N_targets ["order", "copies", "here"] (defScope (topS 2)) := ⟨rfl, rfl, rfl, by decide +kernel, rfl, by decide +kernel, by decide +kernel⟩
theorem ok_targets (B : Bm mg) (lk_law_0 : Lk P w K mg base 1 ("law", [0, 5], [3]) l_law_0) (lk_law_1 : Lk P w K mg base 1 ("law", [0, 7], [1, 0, 3]) l_law_1) (F : Fun K "targets" "targets" (topS 2) f fd) : FnOk P w K mg base CX0 2 f fd ["order", "copies", "here"] (spF ⟨P, w, K, mg⟩ 3 m_targets) :=
  Fun.okM F sc_targets rfl rfl (k := 1) fun cdv A outer s H E hr =>
    (mss_cons (ms_setLc (i := 3) (sl := [6]) (by rfl) sc_targets.nd rfl rfl (sw_true rfl rfl rfl rfl) (mi_seq (me_slice (mv 0) (mo_some (mv 1)) mo_none)) (blkOk_by (own := [("house", 6)]) (N := N_targets) (sc := defScope (topS 2)) (by decide +kernel)) (hsl := rfl) (fun _ _ _ _ _ => (mg_name (i := 6) (by decide) sc_targets.nd rfl (Or.inl rfl))) (fun _ _ _ _ _ => (mts_one (mt_tru (me_cl (k := 1) (lk_cons lk_law_0 (by decide) (lk_cons lk_law_1 (by decide) lk_nil)) (hr.mono (by decide)) rfl (by first | exact Or.inl rfl | exact Or.inr (Or.inl rfl) | exact Or.inr (Or.inr rfl)) (ma_cons (mv 6) ma_nil))))) (fun _ _ _ _ _ => (mv 6)))
    (mss_cons (ms_set (i := 4) sc_targets.nd rfl (Or.inl rfl) (me_lst ma_nil))
    (mss_cons (ms_for (sl := [5]) PassesOwn.never (by rfl) (mi_seq (me_slice (mv 0) mo_none (mo_some (mv 1)))) (mg_name (i := 5) (by decide) sc_targets.nd rfl (Or.inl rfl)) (mss_one (ms_if (mt_tru (me_cl (k := 1) (lk_cons lk_law_0 (by decide) (lk_cons lk_law_1 (by decide) lk_nil)) (hr.mono (by decide)) rfl (by first | exact Or.inl rfl | exact Or.inr (Or.inl rfl) | exact Or.inr (Or.inr rfl)) (ma_cons (mv 5) ma_nil))) (mss_one (ms_expr (me_append (mv 4) (ma_cons (me_tup (ma_cons (mv 5) (ma_cons me_non ma_nil))) ma_nil)))) (mss_one (ms_if (mt_tru (mv 3)) (mss_one (ms_expr (me_append (mv 4) (ma_cons (me_tup (ma_cons (me_pop0 (mv 3) (ma_cons me_int ma_nil)) (ma_cons (mv 5) ma_nil))) ma_nil)))) mss_nil)))))
    (mss_one (ms_ret (mv 4))))))
abbrev N__law_draw : List PySem.Str := ["_law_pool", "_law_size", "_law_found"]
theorem sc__law_draw : FnScope N__law_draw ["_law_pool", "_law_size"] (defScope (topS 7)) := ⟨rfl, rfl, rfl, by decide +kernel, rfl, by decide +kernel, by decide +kernel⟩
theorem ok__law_draw (B : Bm mg)  (F : Fun K "_law_draw" "_law_draw" (topS 7) f fd) : FnOk P w K mg base CX0 1 f fd ["_law_pool", "_law_size"] (spF ⟨P, w, K, mg⟩ 2 m__law_draw) :=
  Fun.okM F sc__law_draw rfl rfl (k := 0) fun cdv A outer s H E hr =>
    (mss_cons (ms_if (mt_gt (me_sub_ix (mv 0) me_int (fun _ _ => rfl)) me_int) (mss_cons (ms_set (i := 2) sc__law_draw.nd rfl (Or.inl rfl) (me_mod (me_sub_ix (mv 0) me_int (fun _ _ => rfl)) (mv 1)))
    (mss_cons (ms_asg (sl := []) (me_fdiv (me_sub_ix (mv 0) me_int (fun _ _ => rfl)) (mv 1)) (mg_ix (mv 0) me_int))
    (mss_one (ms_ret (mv 2))))) mss_nil)
    (mss_cons (ms_asg (sl := []) (me_mod (me_add (me_mul (me_sub_ix (mv 0) me_int (fun _ _ => rfl)) me_int) me_int) me_int) (mg_ix (mv 0) me_int))
    (mss_one (ms_ret (me_mod (me_fdiv (me_mod (me_mul (me_sub_ix (mv 0) me_int (fun _ _ => rfl)) (me_sub_ix (mv 0) me_int (fun _ _ => rfl))) me_int) me_int) (mv 1))))))
abbrev N__law_due : List PySem.Str := ["_law_order", "_law_copies", "_law_away", "_law_spare", "_law_found", "_law_name"]
theorem sc__law_due : FnScope N__law_due ["_law_order", "_law_copies", "_law_away"] (defScope (topS 8)) := ⟨rfl, rfl, rfl, by decide +kernel, rfl, by decide +kernel, by decide +kernel⟩
theorem ok__law_due (B : Bm mg)  (F : Fun K "_law_due" "_law_due" (topS 8) f fd) : FnOk P w K mg base CX0 1 f fd ["_law_order", "_law_copies", "_law_away"] (spF ⟨P, w, K, mg⟩ 3 m__law_due) :=
  Fun.okM F sc__law_due rfl rfl (k := 0) fun cdv A outer s H E hr =>
    (mss_cons (ms_setLc (i := 3) (sl := [5]) (by rfl) sc__law_due.nd rfl rfl (sw_true rfl rfl rfl rfl) (mi_seq (me_slice (mv 0) (mo_some (mv 1)) mo_none)) (blkOk_by (own := [("_law_name", 5)]) (N := N__law_due) (sc := defScope (topS 8)) (by decide +kernel)) (hsl := rfl) (fun _ _ _ _ _ => (mg_name (i := 5) (by decide) sc__law_due.nd rfl (Or.inl rfl))) (fun _ _ _ _ _ => (mts_one (mt_notIn (hu65 hr) (mv 5) (mv 2)))) (fun _ _ _ _ _ => (mv 5)))
    (mss_cons (ms_set (i := 4) sc__law_due.nd rfl (Or.inl rfl) (me_lst ma_nil))
    (mss_cons (ms_for (sl := [5]) PassesOwn.never (by rfl) (mi_seq (me_slice (mv 0) mo_none (mo_some (mv 1)))) (mg_name (i := 5) (by decide) sc__law_due.nd rfl (Or.inl rfl)) (mss_one (ms_if (mt_notIn (hu65 hr) (mv 5) (mv 2)) (mss_one (ms_expr (me_append (mv 4) (ma_cons (me_tup (ma_cons (mv 5) (ma_cons me_non ma_nil))) ma_nil)))) (mss_one (ms_if (mt_ne (hu_64 hr) (mv 3) (me_lst ma_nil)) (mss_cons (ms_expr (me_append (mv 4) (ma_cons (me_tup (ma_cons (me_sub_ix (mv 3) me_int (fun _ _ => rfl)) (ma_cons (mv 5) ma_nil))) ma_nil)))
    (mss_one (ms_set (i := 3) sc__law_due.nd rfl (Or.inl rfl) (me_slice (mv 3) (mo_some me_int) mo_none)))) mss_nil)))))
    (mss_one (ms_ret (mv 4))))))
abbrev N_Writing___init__ : List PySem.Str := ["self", "word", "version", "some", "need"]
theorem sc_Writing___init__ : FnScope N_Writing___init__ ["self", "word", "version", "some", "need"] (defScope (inClass (topS 4) 0)) := ⟨rfl, rfl, rfl, by decide +kernel, rfl, by decide +kernel, by decide +kernel⟩
theorem ok_Writing___init__ (B : Bm mg) (kl_Writing : Kl K mg "Writing") (nf_Writing_own_word : NoF K mg "Writing" "own_word") (nf_Writing_own_version : NoF K mg "Writing" "own_version") (nf_Writing_own_targets : NoF K mg "Writing" "own_targets") (nf_Writing_own_need : NoF K mg "Writing" "own_need") (nf_Writing_own_held : NoF K mg "Writing" "own_held") (F : Fun K "__init__" "Writing.__init__" (inClass (topS 4) 0) f fd) : FnOk P w K mg base CX0 1 f fd ["self", "word", "version", "some", "need"] (spF ⟨P, w, K, mg⟩ 5 m_Writing___init__) :=
  Fun.okM F sc_Writing___init__ rfl rfl (k := 0) fun cdv A outer s H E hr =>
    (mss_cons (ms_fld kl_Writing nf_Writing_own_word (mv 0) (mv 1) (by rfl))
    (mss_cons (ms_fld kl_Writing nf_Writing_own_version (mv 0) (mv 2) (by rfl))
    (mss_cons (ms_fld kl_Writing nf_Writing_own_targets (mv 0) (me_callTy (cr_list (by rfl)) lc_list0 (by rfl) B.list (by decide +kernel) (ma_cons (mv 3) ma_nil)) (by rfl))
    (mss_cons (ms_fld kl_Writing nf_Writing_own_need (mv 0) (mv 4) (by rfl))
    (mss_one (ms_fld kl_Writing nf_Writing_own_held (mv 0) (me_lst ma_nil) (by rfl)))))))
abbrev N_is_awaited : List PySem.Str := ["some", "held", "called", "house", "home"]
theorem sc_is_awaited : FnScope N_is_awaited ["some", "held", "called"] (defScope (topS 3)) := ⟨rfl, rfl, rfl, by decide +kernel, rfl, by decide +kernel, by decide +kernel⟩
theorem ok_is_awaited (B : Bm mg)  (F : Fun K "is_awaited" "is_awaited" (topS 3) f fd) : FnOk P w K mg base CX0 1 f fd ["some", "held", "called"] (spF ⟨P, w, K, mg⟩ 3 m_is_awaited) :=
  Fun.okM F sc_is_awaited rfl rfl (k := 0) fun cdv A outer s H E hr =>
    (mss_one (ms_ret (me_and (me_in (hu65 hr) (mv 2) (me_lc (sl := [3, 4]) (by rfl) sc_is_awaited.nd (mi_seq (mv 0)) (blkOk_by (own := [("house", 3), ("home", 4)]) (N := N_is_awaited) (sc := defScope (topS 3)) (by decide +kernel)) (hsl := rfl) (fun _ _ _ _ _ => (mg_tup rfl (mgs_cons (mg_name (i := 3) (by decide) sc_is_awaited.nd rfl (Or.inl rfl)) (mgs_cons (mg_name (i := 4) (by decide) sc_is_awaited.nd rfl (Or.inl rfl)) mgs_nil)))) (fun _ _ _ _ _ => mts_nil) (fun _ _ _ _ _ => (mv 3)))) (me_one (me_notIn (hu65 hr) (mv 2) (mv 1))))))
abbrev N_Writing_answered : List PySem.Str := ["self", "called"]
theorem sc_Writing_answered : FnScope N_Writing_answered ["self", "called"] (defScope (inClass (topS 4) 6)) := ⟨rfl, rfl, rfl, by decide +kernel, rfl, by decide +kernel, by decide +kernel⟩
theorem ok_Writing_answered (B : Bm mg) (d_is_awaited : Df P w K mg base 1 "is_awaited" 3 m_is_awaited) (kl_Writing : Kl K mg "Writing") (nf_Writing_own_targets : NoF K mg "Writing" "own_targets") (nf_Writing_own_held : NoF K mg "Writing" "own_held") (nf_Writing_own_need : NoF K mg "Writing" "own_need") (F : Fun K "answered" "Writing.answered" (inClass (topS 4) 6) f fd) : FnOk P w K mg base CX0 2 f fd ["self", "called"] (spF ⟨P, w, K, mg⟩ 2 m_Writing_answered) :=
  Fun.okM F sc_Writing_answered rfl rfl (k := 1) fun cdv A outer s H E hr =>
    (mss_cons (ms_if (mt_not (mt_tru (me_call d_is_awaited arity_fun (hr.mono (by decide)) (by rfl) pass0 (ma_cons (me_fld kl_Writing nf_Writing_own_targets (mv 0) (by rfl)) (ma_cons (me_fld kl_Writing nf_Writing_own_held (mv 0) (by rfl)) (ma_cons (mv 1) ma_nil)))))) (mss_one (ms_ret me_bl)) mss_nil)
    (mss_cons (ms_expr (me_append (me_fld kl_Writing nf_Writing_own_held (mv 0) (by rfl)) (ma_cons (mv 1) ma_nil)))
    (mss_one (ms_ret (me_eq (hu_64 hr) (me_callB cr_len lc_len (by rfl) B.len PySem.boot_len (ma_cons (me_fld kl_Writing nf_Writing_own_held (mv 0) (by rfl)) ma_nil)) (me_fld kl_Writing nf_Writing_own_need (mv 0) (by rfl)))))))
abbrev N_Writing_held : List PySem.Str := ["self"]
theorem sc_Writing_held : FnScope N_Writing_held ["self"] (defScope (inClass (topS 4) 4)) := ⟨rfl, rfl, rfl, by decide +kernel, rfl, by decide +kernel, by decide +kernel⟩
theorem ok_Writing_held (B : Bm mg) (kl_Writing : Kl K mg "Writing") (nf_Writing_own_held : NoF K mg "Writing" "own_held") (F : Fun K "held" "Writing.held" (inClass (topS 4) 4) f fd) : FnOk P w K mg base CX0 1 f fd ["self"] (spF ⟨P, w, K, mg⟩ 1 m_Writing_held) :=
  Fun.okM F sc_Writing_held rfl rfl (k := 0) fun cdv A outer s H E hr =>
    (mss_one (ms_ret (me_callTy (cr_list (by rfl)) lc_list0 (by rfl) B.list (by decide +kernel) (ma_cons (me_fld kl_Writing nf_Writing_own_held (mv 0) (by rfl)) ma_nil))))
abbrev N_Writing_twin : List PySem.Str := ["self", "other"]
theorem sc_Writing_twin : FnScope N_Writing_twin ["self"] (defScope (inClass (topS 4) 8)) := ⟨rfl, rfl, rfl, by decide +kernel, rfl, by decide +kernel, by decide +kernel⟩
theorem ok_Writing_twin (B : Bm mg) (kl_Writing : Kl K mg "Writing") (nf_Writing_own_word : NoF K mg "Writing" "own_word") (nf_Writing_own_version : NoF K mg "Writing" "own_version") (nf_Writing_own_targets : NoF K mg "Writing" "own_targets") (nf_Writing_own_need : NoF K mg "Writing" "own_need") (cf_Writing : Cf P w K mg base 1 "Writing" 5 m_Writing___init__) (mf_Writing_held : Mf P w K mg base 1 "Writing" "held" 1 m_Writing_held) (nf_Writing_own_held : NoF K mg "Writing" "own_held") (F : Fun K "twin" "Writing.twin" (inClass (topS 4) 8) f fd) : FnOk P w K mg base CX0 3 f fd ["self"] (spF ⟨P, w, K, mg⟩ 1 m_Writing_twin) :=
  Fun.okM F sc_Writing_twin rfl rfl (k := 2) fun cdv A outer s H E hr =>
    (mss_cons (ms_set (i := 1) sc_Writing_twin.nd rfl (Or.inl rfl) (me_make cf_Writing arity_fun (hr.mono (by decide)) (by rfl) pass0 (ma_cons (me_fld kl_Writing nf_Writing_own_word (mv 0) (by rfl)) (ma_cons (me_fld kl_Writing nf_Writing_own_version (mv 0) (by rfl)) (ma_cons (me_fld kl_Writing nf_Writing_own_targets (mv 0) (by rfl)) (ma_cons (me_fld kl_Writing nf_Writing_own_need (mv 0) (by rfl)) ma_nil))))))
    (mss_cons (ms_fld kl_Writing nf_Writing_own_held (mv 1) (me_meth0 mf_Writing_held arity_fun (hr.mono (by decide)) pass0 (mv 0)) (by rfl))
    (mss_one (ms_ret (mv 1)))))
abbrev N_Writing_targets : List PySem.Str := ["self"]
theorem sc_Writing_targets : FnScope N_Writing_targets ["self"] (defScope (inClass (topS 4) 3)) := ⟨rfl, rfl, rfl, by decide +kernel, rfl, by decide +kernel, by decide +kernel⟩
theorem ok_Writing_targets (B : Bm mg) (kl_Writing : Kl K mg "Writing") (nf_Writing_own_targets : NoF K mg "Writing" "own_targets") (F : Fun K "targets" "Writing.targets" (inClass (topS 4) 3) f fd) : FnOk P w K mg base CX0 1 f fd ["self"] (spF ⟨P, w, K, mg⟩ 1 m_Writing_targets) :=
  Fun.okM F sc_Writing_targets rfl rfl (k := 0) fun cdv A outer s H E hr =>
    (mss_one (ms_ret (me_callTy (cr_list (by rfl)) lc_list0 (by rfl) B.list (by decide +kernel) (ma_cons (me_fld kl_Writing nf_Writing_own_targets (mv 0) (by rfl)) ma_nil))))
abbrev N_Writing_word : List PySem.Str := ["self"]
theorem sc_Writing_word : FnScope N_Writing_word ["self"] (defScope (inClass (topS 4) 1)) := ⟨rfl, rfl, rfl, by decide +kernel, rfl, by decide +kernel, by decide +kernel⟩
theorem ok_Writing_word (B : Bm mg) (kl_Writing : Kl K mg "Writing") (nf_Writing_own_word : NoF K mg "Writing" "own_word") (F : Fun K "word" "Writing.word" (inClass (topS 4) 1) f fd) : FnOk P w K mg base CX0 1 f fd ["self"] (spF ⟨P, w, K, mg⟩ 1 m_Writing_word) :=
  Fun.okM F sc_Writing_word rfl rfl (k := 0) fun cdv A outer s H E hr =>
    (mss_one (ms_ret (me_fld kl_Writing nf_Writing_own_word (mv 0) (by rfl))))
abbrev N_Writing_version : List PySem.Str := ["self"]
theorem sc_Writing_version : FnScope N_Writing_version ["self"] (defScope (inClass (topS 4) 2)) := ⟨rfl, rfl, rfl, by decide +kernel, rfl, by decide +kernel, by decide +kernel⟩
theorem ok_Writing_version (B : Bm mg) (kl_Writing : Kl K mg "Writing") (nf_Writing_own_version : NoF K mg "Writing" "own_version") (F : Fun K "version" "Writing.version" (inClass (topS 4) 2) f fd) : FnOk P w K mg base CX0 1 f fd ["self"] (spF ⟨P, w, K, mg⟩ 1 m_Writing_version) :=
  Fun.okM F sc_Writing_version rfl rfl (k := 0) fun cdv A outer s H E hr =>
    (mss_one (ms_ret (me_fld kl_Writing nf_Writing_own_version (mv 0) (by rfl))))
abbrev N_Writing_is_told : List PySem.Str := ["self"]
theorem sc_Writing_is_told : FnScope N_Writing_is_told ["self"] (defScope (inClass (topS 4) 5)) := ⟨rfl, rfl, rfl, by decide +kernel, rfl, by decide +kernel, by decide +kernel⟩
theorem ok_Writing_is_told (B : Bm mg) (kl_Writing : Kl K mg "Writing") (nf_Writing_own_held : NoF K mg "Writing" "own_held") (nf_Writing_own_need : NoF K mg "Writing" "own_need") (F : Fun K "is_told" "Writing.is_told" (inClass (topS 4) 5) f fd) : FnOk P w K mg base CX0 1 f fd ["self"] (spF ⟨P, w, K, mg⟩ 1 m_Writing_is_told) :=
  Fun.okM F sc_Writing_is_told rfl rfl (k := 0) fun cdv A outer s H E hr =>
    (mss_one (ms_ret (me_ge (me_callB cr_len lc_len (by rfl) B.len PySem.boot_len (ma_cons (me_fld kl_Writing nf_Writing_own_held (mv 0) (by rfl)) ma_nil)) (me_fld kl_Writing nf_Writing_own_need (mv 0) (by rfl)))))
abbrev N__law_right : List PySem.Str := ["_law_writing", "_law_some", "_law_held", "_law_need", "_law_turn", "_law_told"]
theorem sc__law_right : FnScope N__law_right ["_law_writing", "_law_some", "_law_held", "_law_need"] (defScope (topS 9)) := ⟨rfl, rfl, rfl, by decide +kernel, rfl, by decide +kernel, by decide +kernel⟩
theorem ok__law_right (B : Bm mg) (mf_Writing_targets : Mf P w K mg base 1 "Writing" "targets" 1 m_Writing_targets) (mf_Writing_held : Mf P w K mg base 1 "Writing" "held" 1 m_Writing_held) (mf_Writing_is_told : Mf P w K mg base 1 "Writing" "is_told" 1 m_Writing_is_told) (mf_Writing_word : Mf P w K mg base 1 "Writing" "word" 1 m_Writing_word) (mf_Writing_version : Mf P w K mg base 1 "Writing" "version" 1 m_Writing_version) (F : Fun K "_law_right" "_law_right" (topS 9) f fd) : FnOk P w K mg base CX0 2 f fd ["_law_writing", "_law_some", "_law_held", "_law_need"] (spF ⟨P, w, K, mg⟩ 4 m__law_right) :=
  Fun.okM F sc__law_right rfl rfl (k := 1) fun cdv A outer s H E hr =>
    (mss_cons (ms_for (sl := [4]) PassesOwn.never (by rfl) (mi_range1 (by rfl) B.range (ma_cons me_int ma_nil)) (mg_name (i := 4) (by decide) sc__law_right.nd rfl (Or.inl rfl)) (mss_cons (ms_set (i := 5) sc__law_right.nd rfl (Or.inl rfl) (me_lst (ma_cons (me_meth0 mf_Writing_targets arity_fun (hr.mono (by decide)) pass0 (mv 0)) (ma_cons (me_meth0 mf_Writing_held arity_fun (hr.mono (by decide)) pass0 (mv 0)) ma_nil))))
    (mss_cons (ms_if (mt_bool (mw_or (mt_ne (hu_64 hr) (mv 5) (me_lst (ma_cons (mv 1) (ma_cons (mv 2) ma_nil)))) (mw_or1 (mt_ne (hu_64 hr) (me_callB cr_repB lc_repB (by rfl) B.repr (by decide +kernel) (ma_cons (me_meth0 mf_Writing_is_told arity_fun (hr.mono (by decide)) pass0 (mv 0)) ma_nil)) (me_callB cr_repB lc_repB (by rfl) B.repr (by decide +kernel) (ma_cons (me_ge (me_callB cr_len lc_len (by rfl) B.len PySem.boot_len (ma_cons (mv 2) ma_nil)) (mv 3)) ma_nil)))))) (mss_one (ms_ret me_bl)) mss_nil)
    (mss_cons (ms_expr (me_append (me_sub_ix (mv 5) me_int (fun _ _ => rfl)) (ma_cons me_non ma_nil)))
    (mss_one (ms_expr (me_append (me_sub_ix (mv 5) me_int (fun _ _ => rfl)) (ma_cons me_str ma_nil))))))))
    (mss_one (ms_ret (me_and (me_eq (hu_64 hr) (me_meth0 mf_Writing_word arity_fun (hr.mono (by decide)) pass0 (mv 0)) me_str) (me_one (me_eq (hu_64 hr) (me_meth0 mf_Writing_version arity_fun (hr.mono (by decide)) pass0 (mv 0)) (me_tup (ma_cons (me_tup (ma_cons me_int (ma_cons me_str (ma_cons me_int ma_nil)))) (ma_cons (me_tup ma_nil) (ma_cons me_int ma_nil))))))))))
abbrev N_law : List PySem.Str := ["_law_script", "_law_k", "_law_pool", "_law_order", "_law_name", "_law_copies", "_law_away", "_law_some", "_law_plain", "_law_need", "_law_handed", "_law_pens", "_law_turn", "_law_writing", "_law_held", "_law_due_here", "_law_one", "_law_pen"]
theorem sc_law : FnScope N_law ["_law_script"] (defScope (topS 10)) := ⟨rfl, rfl, rfl, by decide +kernel, rfl, by decide +kernel, by decide +kernel⟩
theorem ok_law (B : Bm mg) (d__law_hand : Df P w K mg base 1 "_law_hand" 2 m__law_hand) (d__law_draw : Df P w K mg base 1 "_law_draw" 2 m__law_draw) (d_targets : Df P w K mg base 2 "targets" 3 m_targets) (ky_law_0 : lamAt P ("law", [0, 5], [3]) = some (.Lambda (lamArgs lam_law_0) (lamBody lam_law_0) (lamScope lam_law_0) (lamPos lam_law_0))) (d__law_due : Df P w K mg base 1 "_law_due" 3 m__law_due) (ky_law_1 : lamAt P ("law", [0, 7], [1, 0, 3]) = some (.Lambda (lamArgs lam_law_1) (lamBody lam_law_1) (lamScope lam_law_1) (lamPos lam_law_1))) (cf_Writing : Cf P w K mg base 1 "Writing" 5 m_Writing___init__) (mf_Writing_answered : Mf P w K mg base 2 "Writing" "answered" 2 m_Writing_answered) (d__law_right : Df P w K mg base 2 "_law_right" 4 m__law_right) (mf_Writing_twin : Mf P w K mg base 3 "Writing" "twin" 1 m_Writing_twin) {c P0 : Addr} (TB : LamX.TabB base mg c P0) (ht : PySem.W.tabIn K "law" = some (c, P0)) (hc : fd.code = .ref c) (F : Fun K "law" "law" (topS 10) f fd) : RunAt P w K mg base CX0 callerA f fd ["_law_script"] (spF ⟨P, w, K, mg⟩ 1 m_law) :=
  Fun.atC F sc_law rfl rfl hc (k := 3) ⟨rfl, by decide, by decide⟩ fun outer s H E hr =>
    (mss_cons (ms_for (sl := [1]) PassesOwn.never (by rfl) (mi_range1 (by rfl) B.range (ma_cons (me_callB (call_max2 (by rfl)) lc_two (by rfl) B.max (by decide +kernel) (ma_cons me_int (ma_cons (me_callB (call_min2 (by rfl)) lc_two (by rfl) B.min (by decide +kernel) (ma_cons (me_callB cr_len lc_len (by rfl) B.len PySem.boot_len (ma_cons (mv 0) ma_nil)) (ma_cons me_int ma_nil))) ma_nil))) ma_nil)) (mg_name (i := 1) (by decide) sc_law.nd rfl (Or.inl rfl)) (mss_cons (ms_set (i := 2) sc_law.nd rfl (Or.inr rfl) (me_call d__law_hand arity_fun (hr.mono (by decide)) (by rfl) pass0 (ma_cons (mv 0) (ma_cons (mv 1) ma_nil))))
    (mss_cons (ms_set (i := 3) sc_law.nd rfl (Or.inl rfl) (me_lst ma_nil))
    (mss_cons (ms_for (sl := [4]) PassesOwn.never (by rfl) (mi_str (me_slice me_str mo_none (mo_some (me_add me_int (me_call d__law_draw arity_fun (hr.mono (by decide)) (by rfl) pass0 (ma_cons (mv 2) (ma_cons me_int ma_nil))))))) (mg_name (i := 4) (by decide) sc_law.nd rfl (Or.inl rfl)) (mss_one (ms_expr (me_insert (mv 3) (ma_cons (me_call d__law_draw arity_fun (hr.mono (by decide)) (by rfl) pass0 (ma_cons (mv 2) (ma_cons (me_add (me_callB cr_len lc_len (by rfl) B.len PySem.boot_len (ma_cons (mv 3) ma_nil)) me_int) ma_nil))) (ma_cons (mv 4) ma_nil))))))
    (mss_cons (ms_set (i := 5) sc_law.nd rfl (Or.inl rfl) (me_add me_int (me_call d__law_draw arity_fun (hr.mono (by decide)) (by rfl) pass0 (ma_cons (mv 2) (ma_cons (me_callB (call_min2 (by rfl)) lc_two (by rfl) B.min (by decide +kernel) (ma_cons me_int (ma_cons (me_callB cr_len lc_len (by rfl) B.len PySem.boot_len (ma_cons (mv 3) ma_nil)) ma_nil))) ma_nil)))))
    (mss_cons (ms_set (i := 6) sc_law.nd rfl (Or.inr rfl) (me_lc (sl := [4]) (by rfl) sc_law.nd (mi_seq (mv 3)) (blkOk_by (own := [("_law_name", 4)]) (N := N_law) (sc := defScope (topS 10)) (by decide +kernel)) (hsl := rfl) (fun _ _ _ _ _ => (mg_name (i := 4) (by decide) sc_law.nd rfl (Or.inl rfl))) (fun _ _ _ _ _ => (mts_one (mt_eq (hu_64 hr) (me_call d__law_draw arity_fun (hr.mono (by decide)) (by rfl) pass0 (ma_cons (mv 2) (ma_cons me_int ma_nil))) me_int))) (fun _ _ _ _ _ => (mv 4))))
    (mss_cons (ms_set (i := 7) sc_law.nd rfl (Or.inr rfl) (me_callLam d_targets arity_fun (hr.mono (by decide)) (by rfl) ⟨⟨_, _, TB, rfl, ht⟩, (by rfl), fun _ => rfl⟩ ky_law_0 (cap_by (N := N_law) (sc := defScope (topS 10)) (scope := lamScope lam_law_0) (js := [6]) (by decide +kernel)) (mal_cons (mv 3) (mal_cons (mv 5) (mal_lam ⟨⟨_, _, TB, rfl, ht⟩, (by rfl), fun _ => rfl⟩ (cap_by (N := N_law) (sc := defScope (topS 10)) (scope := lamScope lam_law_0) (js := [6]) (by decide +kernel)))))))
    (mss_cons (ms_setLc (i := 8) (sl := [4]) (by rfl) sc_law.nd rfl rfl (sw_true rfl rfl rfl rfl) (mi_seq (me_slice (mv 3) mo_none (mo_some (mv 5)))) (blkOk_by (own := [("_law_name", 4)]) (N := N_law) (sc := defScope (topS 10)) (by decide +kernel)) (hsl := rfl) (fun _ _ _ _ _ => (mg_name (i := 4) (by decide) sc_law.nd rfl (Or.inl rfl))) (fun _ _ _ _ _ => mts_nil) (fun _ _ _ _ _ => (me_tup (ma_cons (mv 4) (ma_cons me_non ma_nil)))))
    (mss_cons (ms_if (mt_bool (mw_or (mt_ne (hu_64 hr) (mv 7) (me_call d__law_due arity_fun (hr.mono (by decide)) (by rfl) pass0 (ma_cons (mv 3) (ma_cons (mv 5) (ma_cons (mv 6) ma_nil))))) (mw_or1 (mt_ne (hu_64 hr) (me_callLam d_targets arity_fun (hr.mono (by decide)) (by rfl) ⟨⟨_, _, TB, rfl, ht⟩, (by rfl), fun _ => rfl⟩ ky_law_1 (cap_by (N := N_law) (sc := defScope (topS 10)) (scope := lamScope lam_law_1) (js := []) (by decide +kernel)) (mal_cons (mv 3) (mal_cons (mv 5) (mal_lam ⟨⟨_, _, TB, rfl, ht⟩, (by rfl), fun _ => rfl⟩ (cap_by (N := N_law) (sc := defScope (topS 10)) (scope := lamScope lam_law_1) (js := []) (by decide +kernel)))))) (mv 8))))) (mss_one (ms_ret me_bl)) mss_nil)
    (mss_cons (ms_set (i := 9) sc_law.nd rfl (Or.inr rfl) (me_add me_int (me_call d__law_draw arity_fun (hr.mono (by decide)) (by rfl) pass0 (ma_cons (mv 2) (ma_cons me_int ma_nil)))))
    (mss_cons (ms_set (i := 10) sc_law.nd rfl (Or.inl rfl) (me_callTy (cr_list (by rfl)) lc_list0 (by rfl) B.list (by decide +kernel) (ma_cons (mv 7) ma_nil)))
    (mss_cons (ms_set (i := 11) sc_law.nd rfl (Or.inl rfl) (me_lst (ma_cons (me_lst (ma_cons (me_make cf_Writing arity_fun (hr.mono (by decide)) (by rfl) pass0 (ma_cons me_str (ma_cons (me_tup (ma_cons (me_tup (ma_cons me_int (ma_cons me_str (ma_cons me_int ma_nil)))) (ma_cons (me_tup ma_nil) (ma_cons me_int ma_nil)))) (ma_cons (mv 10) (ma_cons (mv 9) ma_nil))))) (ma_cons (me_lst ma_nil) ma_nil))) ma_nil)))
    (mss_cons (ms_expr (me_lclr (mv 10)))
    (mss_one (ms_for (sl := [12]) PassesOwn.never (by rfl) (mi_range1 (by rfl) B.range (ma_cons me_int ma_nil)) (mg_name (i := 12) (by decide) sc_law.nd rfl (Or.inl rfl)) (mss_cons (ms_asg (sl := [13, 14]) (me_sub_ix (mv 11) (me_call d__law_draw arity_fun (hr.mono (by decide)) (by rfl) pass0 (ma_cons (mv 2) (ma_cons (me_callB cr_len lc_len (by rfl) B.len PySem.boot_len (ma_cons (mv 11) ma_nil)) ma_nil))) (fun _ _ => rfl)) (mg_unl rfl (mgs_cons (mg_name (i := 13) (by decide) sc_law.nd rfl (Or.inl rfl)) (mgs_cons (mg_name (i := 14) (by decide) sc_law.nd rfl (Or.inl rfl)) mgs_nil))))
    (mss_cons (ms_set (i := 4) sc_law.nd rfl (Or.inl rfl) (me_sub_ix (me_add (mv 3) (me_lst (ma_cons me_str ma_nil))) (me_call d__law_draw arity_fun (hr.mono (by decide)) (by rfl) pass0 (ma_cons (mv 2) (ma_cons (me_add (me_callB cr_len lc_len (by rfl) B.len PySem.boot_len (ma_cons (mv 3) ma_nil)) me_int) ma_nil))) (fun _ _ => rfl)))
    (mss_cons (ms_set (i := 15) sc_law.nd rfl (Or.inl rfl) me_bl)
    (mss_cons (ms_if (mt_bool (mw_and (mt_in (hu65 hr) (mv 4) (me_lc (sl := [16]) (by rfl) sc_law.nd (mi_seq (mv 7)) (blkOk_by (own := [("_law_one", 16)]) (N := N_law) (sc := defScope (topS 10)) (by decide +kernel)) (hsl := rfl) (fun _ _ _ _ _ => (mg_name (i := 16) (by decide) sc_law.nd rfl (Or.inl rfl))) (fun _ _ _ _ _ => mts_nil) (fun _ _ _ _ _ => (me_sub_ix (mv 16) me_int (fun _ _ => rfl))))) (mw_and1 (mt_notIn (hu65 hr) (mv 4) (mv 14))))) (mss_cons (ms_expr (me_append (mv 14) (ma_cons (mv 4) ma_nil)))
    (mss_one (ms_set (i := 15) sc_law.nd rfl (Or.inl rfl) (me_eq (hu_64 hr) (me_callB cr_len lc_len (by rfl) B.len PySem.boot_len (ma_cons (mv 14) ma_nil)) (mv 9))))) mss_nil)
    (mss_cons (ms_if (mt_ne (hu_64 hr) (me_callB cr_repB lc_repB (by rfl) B.repr (by decide +kernel) (ma_cons (me_meth mf_Writing_answered arity_fun (hr.mono (by decide)) pass0 (mv 13) (ma_cons (mv 4) ma_nil)) ma_nil)) (me_callB cr_repB lc_repB (by rfl) B.repr (by decide +kernel) (ma_cons (mv 15) ma_nil))) (mss_one (ms_ret me_bl)) mss_nil)
    (mss_cons (ms_if (mt_ne (hu_64 hr) (me_lc (sl := [17]) (by rfl) sc_law.nd (mi_seq (mv 11)) (blkOk_by (own := [("_law_pen", 17)]) (N := N_law) (sc := defScope (topS 10)) (by decide +kernel)) (hsl := rfl) (fun _ _ _ _ _ => (mg_name (i := 17) (by decide) sc_law.nd rfl (Or.inl rfl))) (fun _ _ _ _ _ => (mts_one (mt_not (mt_tru (me_call d__law_right arity_fun (hr.mono (by decide)) (by rfl) pass0 (ma_cons (me_sub_ix (mv 17) me_int (fun _ _ => rfl)) (ma_cons (mv 7) (ma_cons (me_sub_ix (mv 17) me_int (fun _ _ => rfl)) (ma_cons (mv 9) ma_nil))))))))) (fun _ _ _ _ _ => me_int)) (me_lst ma_nil)) (mss_one (ms_ret me_bl)) mss_nil)
    (mss_one (ms_if (mt_bool (mw_and (mt_eq (hu_64 hr) (me_call d__law_draw arity_fun (hr.mono (by decide)) (by rfl) pass0 (ma_cons (mv 2) (ma_cons me_int ma_nil))) me_int) (mw_and1 (mt_lt (me_callB cr_len lc_len (by rfl) B.len PySem.boot_len (ma_cons (mv 11) ma_nil)) me_int)))) (mss_one (ms_expr (me_append (mv 11) (ma_cons (me_lst (ma_cons (me_meth0 mf_Writing_twin arity_fun (hr.mono (by decide)) pass0 (mv 13)) (ma_cons (me_callTy (cr_list (by rfl)) lc_list0 (by rfl) B.list (by decide +kernel) (ma_cons (mv 14) ma_nil)) ma_nil))) ma_nil)))) mss_nil)))))))))))))))))))))))
    (mss_one (ms_ret me_bl)))
end
end GR26

set_option maxRecDepth 100000
set_option maxHeartbeats 4000000
namespace GR26
open PySem PySem.Spec PyProof.Rows L2 K01 MM GP
def HC_Writing (K : PySem.W.Frag) : Prop := ∃ a : Addr, PySem.W.nsIn K mainGlobals "Writing" = some (some (.ref a)) ∧ Cls K a ∧ NoAttr K a "own_held" ∧ NoAttr K a "own_need" ∧ NoAttr K a "own_targets" ∧ NoAttr K a "own_version" ∧ NoAttr K a "own_word" ∧ (∃ fa fd, Meth K a "answered" fa ∧ Fun K "answered" "Writing.answered" (inClass (topS 4) 6) fa fd) ∧ (∃ fa fd, Meth K a "held" fa ∧ Fun K "held" "Writing.held" (inClass (topS 4) 4) fa fd) ∧ (∃ fa fd, Meth K a "twin" fa ∧ Fun K "twin" "Writing.twin" (inClass (topS 4) 8) fa fd) ∧ (∃ fa fd, Meth K a "targets" fa ∧ Fun K "targets" "Writing.targets" (inClass (topS 4) 3) fa fd) ∧ (∃ fa fd, Meth K a "word" fa ∧ Fun K "word" "Writing.word" (inClass (topS 4) 1) fa fd) ∧ (∃ fa fd, Meth K a "version" fa ∧ Fun K "version" "Writing.version" (inClass (topS 4) 2) fa fd) ∧ (∃ fa fd, Meth K a "is_told" fa ∧ Fun K "is_told" "Writing.is_told" (inClass (topS 4) 5) fa fd) ∧ ∃ fa fd, Mk K a fa ∧ Fun K "__init__" "Writing.__init__" (inClass (topS 4) 0) fa fd
theorem all_mk {l : PySem.W.OpenLaw} {w : World} {K : PySem.W.Frag} {h : Heap} {mg : PySem.Str → Option Value} {fa fL : Addr}  (X : K.In h) (G : h.Ns mainGlobals mg) (hfa : mg "law" = some (.ref fa))
    (b_isinstance : PySem.W.nsIn K mainGlobals "isinstance" = some none)
    (b_len : PySem.W.nsIn K mainGlobals "len" = some none)
    (b_all : PySem.W.nsIn K mainGlobals "all" = some none)
    (b_any : PySem.W.nsIn K mainGlobals "any" = some none)
    (b_int : PySem.W.nsIn K mainGlobals "int" = some none)
    (b_bool : PySem.W.nsIn K mainGlobals "bool" = some none)
    (b_str : PySem.W.nsIn K mainGlobals "str" = some none)
    (b_tuple : PySem.W.nsIn K mainGlobals "tuple" = some none)
    (b_list : PySem.W.nsIn K mainGlobals "list" = some none)
    (b_set : PySem.W.nsIn K mainGlobals "set" = some none)
    (b_dict : PySem.W.nsIn K mainGlobals "dict" = some none)
    (b_sorted : PySem.W.nsIn K mainGlobals "sorted" = some none)
    (b_zip : PySem.W.nsIn K mainGlobals "zip" = some none)
    (b_max : PySem.W.nsIn K mainGlobals "max" = some none)
    (b_min : PySem.W.nsIn K mainGlobals "min" = some none)
    (b_repr : PySem.W.nsIn K mainGlobals "repr" = some none)
    (b_range : PySem.W.nsIn K mainGlobals "range" = some none)
    (b_enumerate : PySem.W.nsIn K mainGlobals "enumerate" = some none)
    (b_reversed : PySem.W.nsIn K mainGlobals "reversed" = some none)
    (b_ord : PySem.W.nsIn K mainGlobals "ord" = some none)
    (b_abs : PySem.W.nsIn K mainGlobals "abs" = some none)
    (b_sum : PySem.W.nsIn K mainGlobals "sum" = some none)
    (h__law_hand : HF K "_law_hand" (topS 6))
    (h_targets : HF K "targets" (topS 2))
    (h__law_draw : HF K "_law_draw" (topS 7))
    (h__law_due : HF K "_law_due" (topS 8))
    (h_is_awaited : HF K "is_awaited" (topS 3))
    (h__law_right : HF K "_law_right" (topS 9))
    (hc_Writing : HC_Writing K)
    (aL : PySem.W.nsIn K mainGlobals "law" = some (some (.ref fL))) (hL : ∃ fd, Fun K "law" "law" (topS 10) fL fd)
    (tb_law : PySem.W.tabIn K "law" = some (c_law, P_law))
    (ky_law_0 : lamAt l.prog ("law", [0, 5], [3]) = some (.Lambda (lamArgs lam_law_0) (lamBody lam_law_0) (lamScope lam_law_0) (lamPos lam_law_0)))
    (ky_law_1 : lamAt l.prog ("law", [0, 7], [1, 0, 3]) = some (.Lambda (lamArgs lam_law_1) (lamBody lam_law_1) (lamScope lam_law_1) (lamPos lam_law_1))) :
    ∃ fd : FuncData, (∀ (s : Shared) (v : Value), BindsTo s fd ⟨[v], []⟩ [("_law_script", v)]) ∧ ∀ base : Heap, K.In base → base.Ns mainGlobals mg → (∀ p ∈ ([("law", c_law, P_law)] : List (PySem.Str × Addr × Addr)), LamX.TabB base mg p.2.1 p.2.2) → RunAt l.prog w K mg base CX0 callerA fa fd ["_law_script"] (spF ⟨l.prog, w, K, mg⟩ 1 m_law) := by
  have e := hfa.symm.trans (PySem.W.mg_of X G aL)
  cases e
  obtain ⟨fd, FL⟩ := hL
  refine ⟨fd, fun s v => ?_, fun base _ gb TBS => ?_⟩
  · obtain ⟨oc, od, kV, doc, pm, an, cdv, ct, osl, rfl, lk, hcd⟩ := FL.ex
    exact .of_eq rfl
  have TB_law : LamX.TabB base mg c_law P_law := TBS ("law", c_law, P_law) (by simp)
  have B : Bm mg := ⟨PySem.W.mg_none_of X G b_isinstance, PySem.W.mg_none_of X G b_len, PySem.W.mg_none_of X G b_all, PySem.W.mg_none_of X G b_any, PySem.W.mg_none_of X G b_int, PySem.W.mg_none_of X G b_bool, PySem.W.mg_none_of X G b_str, PySem.W.mg_none_of X G b_tuple, PySem.W.mg_none_of X G b_list, PySem.W.mg_none_of X G b_set, PySem.W.mg_none_of X G b_dict, PySem.W.mg_none_of X G b_sorted, PySem.W.mg_none_of X G b_zip, PySem.W.mg_none_of X G b_max, PySem.W.mg_none_of X G b_min, PySem.W.mg_none_of X G b_repr, PySem.W.mg_none_of X G b_range, PySem.W.mg_none_of X G b_enumerate, PySem.W.mg_none_of X G b_reversed, PySem.W.mg_none_of X G b_ord, PySem.W.mg_none_of X G b_abs, PySem.W.mg_none_of X G b_sum⟩
  obtain ⟨a_Writing, n_Writing, cl_Writing, na_Writing_own_held, na_Writing_own_need, na_Writing_own_targets, na_Writing_own_version, na_Writing_own_word, ⟨fm_Writing_answered, fdm_Writing_answered, me_Writing_answered, F_Writing_answered⟩, ⟨fm_Writing_held, fdm_Writing_held, me_Writing_held, F_Writing_held⟩, ⟨fm_Writing_twin, fdm_Writing_twin, me_Writing_twin, F_Writing_twin⟩, ⟨fm_Writing_targets, fdm_Writing_targets, me_Writing_targets, F_Writing_targets⟩, ⟨fm_Writing_word, fdm_Writing_word, me_Writing_word, F_Writing_word⟩, ⟨fm_Writing_version, fdm_Writing_version, me_Writing_version, F_Writing_version⟩, ⟨fm_Writing_is_told, fdm_Writing_is_told, me_Writing_is_told, F_Writing_is_told⟩, fi_Writing, fdi_Writing, mk_Writing, F_Writing___init__⟩ := hc_Writing
  have mg_Writing : mg "Writing" = some (.ref a_Writing) := PySem.W.mg_of X G n_Writing
  have kl_Writing : Kl K mg "Writing" := ⟨a_Writing, mg_Writing, cl_Writing⟩
  have gc_Writing : ∃ a, mg "Writing" = some (.ref a) := ⟨a_Writing, mg_Writing⟩
  have nf_Writing_own_held : NoF K mg "Writing" "own_held" := fun a e => by rw [mg_Writing] at e; cases e; exact na_Writing_own_held
  have nf_Writing_own_need : NoF K mg "Writing" "own_need" := fun a e => by rw [mg_Writing] at e; cases e; exact na_Writing_own_need
  have nf_Writing_own_targets : NoF K mg "Writing" "own_targets" := fun a e => by rw [mg_Writing] at e; cases e; exact na_Writing_own_targets
  have nf_Writing_own_version : NoF K mg "Writing" "own_version" := fun a e => by rw [mg_Writing] at e; cases e; exact na_Writing_own_version
  have nf_Writing_own_word : NoF K mg "Writing" "own_word" := fun a e => by rw [mg_Writing] at e; cases e; exact na_Writing_own_word
  have d__law_hand : Df l.prog w K mg base 1 "_law_hand" 2 m__law_hand := by
    obtain ⟨fh, fdh, gh, Fh⟩ := h__law_hand
    exact ⟨fh, fdh, _, PySem.W.mg_of X G gh, Fh.kp, Fh.binds fun _ _ _ _ _ _ us hl => match us, hl with | [_, _], _ => rfl, ok__law_hand B  Fh⟩
  have lk_law_0 : Lk l.prog w K mg base 1 ("law", [0, 5], [3]) l_law_0 := okl_law_0 B  ky_law_0
  have lk_law_1 : Lk l.prog w K mg base 1 ("law", [0, 7], [1, 0, 3]) l_law_1 := okl_law_1 B  ky_law_1
  have d_targets : Df l.prog w K mg base 2 "targets" 3 m_targets := by
    obtain ⟨fh, fdh, gh, Fh⟩ := h_targets
    exact ⟨fh, fdh, _, PySem.W.mg_of X G gh, Fh.kp, Fh.binds fun _ _ _ _ _ _ us hl => match us, hl with | [_, _, _], _ => rfl, ok_targets B lk_law_0 lk_law_1 Fh⟩
  have d__law_draw : Df l.prog w K mg base 1 "_law_draw" 2 m__law_draw := by
    obtain ⟨fh, fdh, gh, Fh⟩ := h__law_draw
    exact ⟨fh, fdh, _, PySem.W.mg_of X G gh, Fh.kp, Fh.binds fun _ _ _ _ _ _ us hl => match us, hl with | [_, _], _ => rfl, ok__law_draw B  Fh⟩
  have d__law_due : Df l.prog w K mg base 1 "_law_due" 3 m__law_due := by
    obtain ⟨fh, fdh, gh, Fh⟩ := h__law_due
    exact ⟨fh, fdh, _, PySem.W.mg_of X G gh, Fh.kp, Fh.binds fun _ _ _ _ _ _ us hl => match us, hl with | [_, _, _], _ => rfl, ok__law_due B  Fh⟩
  have cf_Writing : Cf l.prog w K mg base 1 "Writing" 5 m_Writing___init__ := ⟨a_Writing, fi_Writing, fdi_Writing, _, mg_Writing, mk_Writing, F_Writing___init__.binds fun _ _ _ _ _ _ us hl => match us, hl with | [_, _, _, _, _], _ => rfl, ok_Writing___init__ B kl_Writing nf_Writing_own_word nf_Writing_own_version nf_Writing_own_targets nf_Writing_own_need nf_Writing_own_held F_Writing___init__⟩
  have d_is_awaited : Df l.prog w K mg base 1 "is_awaited" 3 m_is_awaited := by
    obtain ⟨fh, fdh, gh, Fh⟩ := h_is_awaited
    exact ⟨fh, fdh, _, PySem.W.mg_of X G gh, Fh.kp, Fh.binds fun _ _ _ _ _ _ us hl => match us, hl with | [_, _, _], _ => rfl, ok_is_awaited B  Fh⟩
  have mf_Writing_answered : Mf l.prog w K mg base 2 "Writing" "answered" 2 m_Writing_answered := ⟨a_Writing, fm_Writing_answered, fdm_Writing_answered, _, mg_Writing, cl_Writing, me_Writing_answered, F_Writing_answered.binds fun _ _ _ _ _ _ us hl => match us, hl with | [_, _], _ => rfl, ok_Writing_answered B d_is_awaited kl_Writing nf_Writing_own_targets nf_Writing_own_held nf_Writing_own_need F_Writing_answered⟩
  have mf_Writing_held : Mf l.prog w K mg base 1 "Writing" "held" 1 m_Writing_held := ⟨a_Writing, fm_Writing_held, fdm_Writing_held, _, mg_Writing, cl_Writing, me_Writing_held, F_Writing_held.binds fun _ _ _ _ _ _ us hl => match us, hl with | [_], _ => rfl, ok_Writing_held B kl_Writing nf_Writing_own_held F_Writing_held⟩
  have mf_Writing_twin : Mf l.prog w K mg base 3 "Writing" "twin" 1 m_Writing_twin := ⟨a_Writing, fm_Writing_twin, fdm_Writing_twin, _, mg_Writing, cl_Writing, me_Writing_twin, F_Writing_twin.binds fun _ _ _ _ _ _ us hl => match us, hl with | [_], _ => rfl, ok_Writing_twin B kl_Writing nf_Writing_own_word nf_Writing_own_version nf_Writing_own_targets nf_Writing_own_need cf_Writing mf_Writing_held nf_Writing_own_held F_Writing_twin⟩
  have mf_Writing_targets : Mf l.prog w K mg base 1 "Writing" "targets" 1 m_Writing_targets := ⟨a_Writing, fm_Writing_targets, fdm_Writing_targets, _, mg_Writing, cl_Writing, me_Writing_targets, F_Writing_targets.binds fun _ _ _ _ _ _ us hl => match us, hl with | [_], _ => rfl, ok_Writing_targets B kl_Writing nf_Writing_own_targets F_Writing_targets⟩
  have mf_Writing_word : Mf l.prog w K mg base 1 "Writing" "word" 1 m_Writing_word := ⟨a_Writing, fm_Writing_word, fdm_Writing_word, _, mg_Writing, cl_Writing, me_Writing_word, F_Writing_word.binds fun _ _ _ _ _ _ us hl => match us, hl with | [_], _ => rfl, ok_Writing_word B kl_Writing nf_Writing_own_word F_Writing_word⟩
  have mf_Writing_version : Mf l.prog w K mg base 1 "Writing" "version" 1 m_Writing_version := ⟨a_Writing, fm_Writing_version, fdm_Writing_version, _, mg_Writing, cl_Writing, me_Writing_version, F_Writing_version.binds fun _ _ _ _ _ _ us hl => match us, hl with | [_], _ => rfl, ok_Writing_version B kl_Writing nf_Writing_own_version F_Writing_version⟩
  have mf_Writing_is_told : Mf l.prog w K mg base 1 "Writing" "is_told" 1 m_Writing_is_told := ⟨a_Writing, fm_Writing_is_told, fdm_Writing_is_told, _, mg_Writing, cl_Writing, me_Writing_is_told, F_Writing_is_told.binds fun _ _ _ _ _ _ us hl => match us, hl with | [_], _ => rfl, ok_Writing_is_told B kl_Writing nf_Writing_own_held nf_Writing_own_need F_Writing_is_told⟩
  have d__law_right : Df l.prog w K mg base 2 "_law_right" 4 m__law_right := by
    obtain ⟨fh, fdh, gh, Fh⟩ := h__law_right
    exact ⟨fh, fdh, _, PySem.W.mg_of X G gh, Fh.kp, Fh.binds fun _ _ _ _ _ _ us hl => match us, hl with | [_, _, _, _], _ => rfl, ok__law_right B mf_Writing_targets mf_Writing_held mf_Writing_is_told mf_Writing_word mf_Writing_version Fh⟩
  have hcL : fd.code = .ref c_law := code_of X G tb_law hfa FL
  exact ok_law B d__law_hand d__law_draw d_targets ky_law_0 d__law_due ky_law_1 cf_Writing mf_Writing_answered d__law_right mf_Writing_twin TB_law tb_law hcL FL
end GR26

set_option maxRecDepth 100000
set_option maxHeartbeats 4000000
namespace MM
open PySem PySem.Spec PyProof.Rows L2

def wpq := And.intro @wp_fun0 (And.intro @wp_fun1 (And.intro @wp_fun2 (And.intro @wp_fun3 (And.intro @wp_fun4 (And.intro @wp_fun5 (And.intro @wp_fun6 (And.intro @wp_fun7 (And.intro @wp_bind (And.intro @wp_pure (And.intro @wp_no (And.intro @wp_lay (And.intro @wp_var (And.intro @wp_c (And.intro @wp_op (And.intro @wp_aNil (And.intro @wp_aCons (And.intro @wp_call (And.intro @wp_tup (And.intro @wp_lst (And.intro @wp_tOf (And.intro @wp_tTru (And.intro @wp_tru_bl (And.intro @wp_tru_non (And.intro @wp_tru_int (And.intro @wp_tru_tup (And.intro @wp_tAnd (And.intro @wp_tOr (And.intro @wp_tNot (And.intro @wp_tYes (And.intro @wp_eAnd (And.intro @wp_eOr (And.intro @wp_eNot (And.intro @wp_eIf (And.intro @wp_eCh (And.intro @wp_eNeg (And.intro @wp_sNil (And.intro @wp_seq (And.intro @wp_ret (And.intro @wp_retN (And.intro @wp_expr (And.intro @wp_set (And.intro @wp_sIf (And.intro @wp_sNo (And.intro @wp_bk (And.intro @wp_ct (And.intro @wp_asg (And.intro @wp_par (And.intro @wp_gN (And.intro @wp_gsNil (And.intro @wp_gsCons (And.intro @wp_gT (And.intro @wp_sub (And.intro @wp_add_int (And.intro @wp_lt (And.intro @wp_le (And.intro @wp_gt (And.intro @wp_ge (And.intro @wp_eqI (And.intro @wp_neI (And.intro @wp_eqS (And.intro @wp_neS (And.intro @wp_isi (And.intro @wp_len_str (And.intro @wp_len_tup (And.intro @wp_len_scr (And.intro @wp_isN_non (And.intro @wp_isN_int (And.intro @wp_notN_non (And.intro @wp_notN_int (And.intro @wp_fld (And.intro @wp_sFld (And.intro @wp_meth (And.intro @wp_sl (And.intro @wp_oNone (And.intro @wp_oSome (And.intro @wp_sl_tup (And.intro @wp_lc (And.intro @wp_dc (And.intro @wp_sc (And.intro @wp_for (And.intro @wp_iSeq (And.intro @wp_src_tup (And.intro @wp_iStr (And.intro @wp_iArgs (And.intro @List.getElem?_cons_zero.{0} (And.intro @List.getElem?_cons_succ.{0} (And.intro @List.set_cons_zero.{0} (And.intro @List.set_cons_succ.{0} (And.intro @List.map_cons.{0, 0} (And.intro @List.map_nil.{0, 0} (And.intro @List.cons_append.{0} (And.intro @List.nil_append.{0} (And.intro @List.length_cons.{0} (And.intro @List.length_nil.{0} (And.intro @List.replicate_succ.{0} (And.intro @List.replicate_zero.{0} (And.intro @Option.some.injEq.{0} (And.intro @exists_eq_left'.{1} (And.intro @exists_eq_left.{1} (And.intro @Wv.bl.injEq (And.intro @Wv.int.injEq (And.intro @Wv.str.injEq (And.intro @true_and (And.intro @and_true (@Bool.false_eq_true)))))))))))))))))))))))))))))))))))))))))))))))))))))))))))))))))))))))))))))))))))))))))))))))))))))))))
end MM

set_option maxRecDepth 100000
set_option maxHeartbeats 4000000
namespace MM
open PySem PySem.Spec PyProof.Rows L2
def wpx := And.intro @wpB_fx1 (And.intro @wpB_fx2 (And.intro @wpB_fx3 (And.intro @wpB_fx4 (And.intro @wpB_fx5 (And.intro @wpB_fx6 (And.intro @wpB_fx7 (And.intro @wp_sX (And.intro @wp_sIfX (And.intro @wpB_expr (And.intro @wpB_ret (And.intro @wpB_set (And.intro @wpB_nrE (And.intro @wpB_nrT (And.intro @wpB_nrA (And.intro @wpM_nrE (And.intro @wp_nrS (And.intro @wpB_aNil (And.intro @wpB_aCons (And.intro @wpB_call (And.intro @wpB_meth (And.intro @wp_raise0 (And.intro @wp_raise1 (@wpB_pure)))))))))))))))))))))))
end MM

set_option maxRecDepth 100000
set_option maxHeartbeats 4000000
namespace SP
open PySem PySem.Spec PyProof.Rows L2 K01 MM GP
theorem ty_str {h : Hm} {x : PySem.Str} : tyW h (.str x) = some .str := rfl
theorem wp_in_sign {c : Nat} {z : PySem.Str} {h : Hm} {Q : Wv → Hm → Prop} : wpM (inM false (.str ⟨#[c]⟩) (.str z)) h Q ↔ Q (.bl (decide (c ∈ z.cps.toList))) h := wp_ok rfl
theorem word_wp {x : PySem.Str} {h : Hm} {Q : Wv → Hm → Prop} (l : x.length ≤ sizeLine) (q : ∀ g, Q (.bl (wordOk x)) (h ++ g)) : wpM (m_is_word [.str x]) h Q := by
  simp only [m_is_word, MM.wpq, wp_mkC, startM, Ty.nm, if_true, if_false, Nat.reduceAdd, Nat.reduceSub, reduceCtorEq, ty_str, Ty.sub, l]
  have e1 : decide ((1 : Int) ≤ (x.length : Int)) = decide (1 ≤ x.length) := decide_eq_decide.mpr (by omega)
  have e2 : decide ((x.length : Int) ≤ 6) = decide (x.length ≤ 6) := decide_eq_decide.mpr (by omega)
  simp only [decide_true, Bool.true_or, Bool.not_true, MM.wpq, wp_mkC, startM, Ty.nm, if_true, if_false, Nat.reduceAdd, Nat.reduceSub, reduceCtorEq]
  rw [e1, e2]
  have q0 := q []
  rw [List.append_nil] at q0
  by_cases h1 : 1 ≤ x.length
  · by_cases h2 : x.length ≤ 6
    · simp only [h1, h2, decide_true, MM.wpq, wp_mkC, startM, Ty.nm, if_true, if_false, Nat.reduceAdd, Nat.reduceSub, reduceCtorEq, Bool.not_true]
      rw [lc_const (h := h) (its := x.cps.toList.map fun ch => Wv.str ⟨#[ch]⟩) (fun _ => true) (fun w => match w with | .str y => .bl (decide ((y.cps.getD 0 0) ∈ letters.cps.toList)) | _ => .non) (fun k => its_S (h := h) k []) (by simp [sS]) (by rw [List.length_map]; show x.length < _; omega) (fun w wm => ?_)]
      · rw [List.filter_eq_self.mpr (fun _ _ => rfl), List.map_map, wp_all (bs := x.cps.toList.map fun ch => decide (ch ∈ letters.cps.toList)) rdL_last]
        · have := q [.lst (x.cps.toList.map ((fun w => match w with | .str y => .bl (decide ((y.cps.getD 0 0) ∈ letters.cps.toList)) | _ => .non) ∘ fun ch => Wv.str ⟨#[ch]⟩))]
          have ew : wordOk x = (x.cps.toList.map fun ch => decide (ch ∈ letters.cps.toList)).all id := by
            unfold wordOk
            rw [decide_eq_true h1, decide_eq_true h2, List.all_map]
            rfl
          rw [ew] at this
          exact this
        · rw [← mapM_bl, List.map_map]
          rfl
      · obtain ⟨ch, hc, rfl⟩ := List.mem_map.mp wm
        simp only [wipeM, MM.wpq, wp_mkC, startM, Ty.nm, if_true, if_false, Nat.reduceAdd, Nat.reduceSub, reduceCtorEq, wp_in_sign]
        exact fun _ => rfl
    · have ew : wordOk x = false := by unfold wordOk; rw [decide_eq_false h2, Bool.and_false, Bool.false_and]
      simp only [h1, h2, decide_true, decide_false, MM.wpq, wp_mkC, startM, Ty.nm, if_true, if_false, Nat.reduceAdd, Nat.reduceSub, reduceCtorEq, Bool.not_false]
      rw [ew] at q0
      exact q0
  · have ew : wordOk x = false := by unfold wordOk; rw [decide_eq_false h1, Bool.false_and, Bool.false_and]
    simp only [h1, decide_false, MM.wpq, wp_mkC, startM, Ty.nm, if_true, if_false, Nat.reduceAdd, Nat.reduceSub, reduceCtorEq, Bool.not_false]
    rw [ew] at q0
    exact q0

theorem word_len {x : PySem.Str} (h : wordOk x = true) : 1 ≤ x.length ∧ x.length ≤ 6 := by
  unfold wordOk at h
  simp only [Bool.and_eq_true, decide_eq_true_eq] at h
  exact h.1
theorem word_line {x : PySem.Str} (h : wordOk x = true) : x.length ≤ sizeLine := by
  have := word_len h
  rw [sizeLine_eq]; omega
theorem key_wp {x : PySem.Str} {h : Hm} {Q : Wv → Hm → Prop} (l : x.length ≤ sizeLine) (q : ∀ g, Q (.bl (wordOk x)) (h ++ g)) : wpM (m_is_key [.str x]) h Q := by
  simp only [m_is_key, MM.wpq, wp_mkC, startM, Ty.nm, if_true, if_false, Nat.reduceAdd, Nat.reduceSub, reduceCtorEq]
  exact word_wp l q
theorem lkey_wp {x : PySem.Str} {h : Hm} {Q : Wv → Hm → Prop} (w : wordOk x = true) (q : ∀ g, Q .non (h ++ g)) : wpM (m_look_at_key [.str x]) h Q := by
  simp only [m_look_at_key, MM.wpq, wp_mkC, startM, Ty.nm, if_true, if_false, Nat.reduceAdd, Nat.reduceSub, reduceCtorEq]
  refine key_wp (word_line w) fun g => ?_
  simp only [w, MM.wpq, wp_mkC, startM, Ty.nm, if_true, if_false, Nat.reduceAdd, Nat.reduceSub, reduceCtorEq, Bool.not_true]
  exact q g
def plcStep (p : Int) (c : Nat) : Int := (5 * p + (c : Int) - 97 + 1) % 64
def plc (x : PySem.Str) : Int := x.cps.toList.foldl plcStep 0
theorem plcStep_in (p : Int) (c : Nat) : 0 ≤ plcStep p c ∧ plcStep p c < 64 := ⟨Int.emod_nonneg _ (by decide), Int.emod_lt_of_pos _ (by decide)⟩
theorem plc_in : ∀ (l : List Nat) (p : Int), 0 ≤ p → p < 64 → 0 ≤ l.foldl plcStep p ∧ l.foldl plcStep p < 64
  | [], _, a, b => ⟨a, b⟩
  | c :: l, p, _, _ => plc_in l (plcStep p c) (plcStep_in p c).1 (plcStep_in p c).2
theorem wp_ord {c : Nat} {h : Hm} {Q : Wv → Hm → Prop} : wpM (ordM [.str ⟨#[c]⟩]) h Q ↔ Q (.int c) h := wp_ok rfl
theorem wp_ord_a {h : Hm} {Q : Wv → Hm → Prop} : wpM (ordM [.str "a"]) h Q ↔ Q (.int 97) h := wp_ok rfl
theorem wp_mulI {i j : Int} {h : Hm} {Q : Wv → Hm → Prop} (c : bMul i j = true) : wpM (mulM (.int i) (.int j)) h Q ↔ Q (.int (i * j)) h := by
  show wpM (if bMul i j = true then M.pure (.int (i * j)) else M.no) h Q ↔ _
  rw [if_pos c, wp_pure]
theorem bMul_l {i j : Int} (a : i.natAbs < 2 ^ 64) : bMul i j = true := by
  unfold bMul
  rw [decide_eq_true a]
  rfl
theorem bMul_r {i j : Int} (a : j.natAbs < 2 ^ 64) : bMul i j = true := by
  unfold bMul
  rw [decide_eq_true a]
  simp
theorem place_of_wp {x : PySem.Str} {h : Hm} {Q : Wv → Hm → Prop} (w : wordOk x = true) (q : ∀ g, Q (.int (plc x)) (h ++ g)) : wpM (m_place_of [.str x]) h Q := by
  simp only [m_place_of, MM.wpq, wp_mkC, startM, Ty.nm, if_true, if_false, Nat.reduceAdd, Nat.reduceSub, reduceCtorEq]
  refine lkey_wp w fun g => ?_
  refine for_wp (its := x.cps.toList.map fun ch => Wv.str ⟨#[ch]⟩) (fun k ρ h1 => h1 = h ++ g ∧ ∃ lt, ρ = [some (.str x), some (.int ((x.cps.toList.take k).foldl plcStep 0)), lt]) (fun k ρ h1 z => by rw [z.1]; have := its_S (x := x) (h := h ++ g) k []; rwa [List.append_nil] at this) (fun k c ρ h1 e z => ?_) (fun ρ h1 z => ?_) _ 0 _ _ (by simp [sS]) (Nat.zero_le _) ⟨rfl, none, rfl⟩
  · obtain ⟨rfl, lt, rfl⟩ := z
    rw [List.getElem?_map] at e
    obtain ⟨ch, hc, rfl⟩ := Option.map_eq_some_iff.mp e
    have b := plc_in (x.cps.toList.take k) 0 (by decide) (by decide)
    have et : x.cps.toList.take (k + 1) = x.cps.toList.take k ++ [ch] := by
      rw [List.take_succ, hc]; rfl
    generalize hp : (x.cps.toList.take k).foldl plcStep 0 = p at b
    simp only [MM.wpq, wp_mkC, startM, Ty.nm, if_true, if_false, Nat.reduceAdd, Nat.reduceSub, reduceCtorEq]
    rw [wp_mulI (bMul_l (by decide))]
    simp only [MM.wpq, wp_mkC, startM, Ty.nm, if_true, if_false, Nat.reduceAdd, Nat.reduceSub, reduceCtorEq, wp_ord, wp_ord_a]
    unfold modM
    rw [wp_pIc (by decide)]
    refine ⟨rfl, some (.str ⟨#[ch]⟩), ?_⟩
    rw [et, List.foldl_append, hp]
    rfl
  · obtain ⟨rfl, lt, rfl⟩ := z
    simp only [MM.wpq, wp_mkC, startM, Ty.nm, if_true, if_false, Nat.reduceAdd, Nat.reduceSub, reduceCtorEq]
    rw [List.take_of_length_le (by rw [List.length_map]; exact Nat.le_refl _)]
    exact q g

def markOk (p : Int) (x : PySem.Str) : Bool := decide (0 ≤ p) && decide (p ≤ 63) && wordOk x
def mk (m : Int × PySem.Str) : Wv := .tup [.int m.1, .str m.2]
end SP

set_option maxRecDepth 100000
set_option maxHeartbeats 4000000
namespace SP
open PySem PySem.Spec PyProof.Rows L2 K01 MM GP

def enumL (ws : List Wv) : List Wv := ws.zipIdx.map fun p => Wv.tup [.int (p.2 : Nat), p.1]
def sE (s : Src) : Src := ⟨s.cnt, fun k h => (s.at_ k h).map fun o => o.map fun x => .tup [.int k, x]⟩
def Row (h : Hm) (w : Wv) (ws : List Wv) : Prop := ∃ s : Src, s.cnt = ws.length ∧ (∀ g, srcOf w (h ++ g) = .ok s (h ++ g)) ∧ (∀ k g, s.at_ k (h ++ g) = some ws[k]?) ∧ (∀ g, dsq (h ++ g) w = some ws)
theorem Row.app {h : Hm} {w : Wv} {ws : List Wv} (r : Row h w ws) (g : Hm) : Row (h ++ g) w ws := by
  obtain ⟨s, a, b, c, d⟩ := r
  exact ⟨s, a, fun g' => by rw [List.append_assoc]; exact b _, fun k g' => by rw [List.append_assoc]; exact c _ _, fun g' => by rw [List.append_assoc]; exact d _⟩
theorem cutW_to {α : Type} {xs : List α} {i : Nat} (h : i ≤ xs.length) : cutW xs none (some (i : Int)) = xs.take i := by
  unfold cutW
  have e1 : HT.sIx xs.length 0 none = 0 := rfl
  have e2 : HT.sIx xs.length xs.length (some (i : Int)) = i := by
    unfold HT.sIx
    simp only []
    rw [if_neg (by omega)]
    omega
  rw [e1, e2]
  simp

abbrev Mk := Int × PySem.Str
def dmk (m : Mk) : PyData := .tuple [.int m.1, .str m.2]
end SP

set_option maxRecDepth 100000
set_option maxHeartbeats 4000000
namespace SP
open PySem PySem.Spec PyProof.Rows L2 K01 MM GP


def mle (a b : Mk) : Bool := !PySem.W.dataLt (dmk b) (dmk a)
def srtM (ms : List Mk) : List Mk := isort mle ms
structure RingA (h : Hm) (w : Wv) (ms : List Mk) : Prop where
  at_ : ∃ i k, w = .obj i ∧ h[i]? = some (.ins "Ring" [("own_marks", .obj k)]) ∧ h[k]? = some (.lst (ms.map mk))
theorem get_app {h : Hm} {i : Nat} {o : Ob} (e : h[i]? = some o) (g : Hm) : (h ++ g)[i]? = some o := by
  rw [List.getElem?_append_left (List.getElem?_eq_some_iff.mp e).1]; exact e
theorem RingA.app {h : Hm} {w : Wv} {ms : List Mk} (r : RingA h w ms) (g : Hm) : RingA (h ++ g) w ms := by
  obtain ⟨i, k, e0, e1, e2⟩ := r.at_
  exact ⟨i, k, e0, get_app e1 g, get_app e2 g⟩
end SP

set_option maxRecDepth 100000
set_option maxHeartbeats 4000000
namespace SP
open PySem PySem.Spec PyProof.Rows L2 K01 MM GP

def addU (acc : List PySem.Str) (x : PySem.Str) : List PySem.Str := if x ∈ acc then acc else acc ++ [x]
def uniq (xs : List PySem.Str) : List PySem.Str := xs.foldl addU []
def kvT (acc : List PySem.Str) : List (Key × Wv) := acc.map fun x => (Sum.inr x, Wv.bl true)
theorem putU (acc : List PySem.Str) (x : PySem.Str) : putKW (kvT acc) (.inr x : Key) (.bl true) = kvT (addU acc x) := by
  unfold putKW addU
  have ea : ((kvT acc).any fun kv => decide (kv.1 = (Sum.inr x : Key))) = decide (x ∈ acc) := by
    unfold kvT
    rw [List.any_map, Bool.eq_iff_iff, List.any_eq_true, decide_eq_true_eq]
    constructor
    · rintro ⟨y, hy, z⟩
      have z : (Sum.inr y : Key) = Sum.inr x := of_decide_eq_true z
      cases z; exact hy
    · exact fun z => ⟨x, z, decide_eq_true rfl⟩
  rw [ea]
  by_cases z : x ∈ acc
  · rw [if_pos (decide_eq_true z), if_pos z]
    unfold kvT
    rw [List.map_map]
    refine List.map_congr_left fun y _ => ?_
    by_cases q : (Sum.inr y : Key) = Sum.inr x
    · show (if (Sum.inr y : Key) = Sum.inr x then _ else _) = _
      rw [if_pos q]
    · show (if (Sum.inr y : Key) = Sum.inr x then _ else _) = _
      rw [if_neg q]
  · rw [if_neg (by rw [decide_eq_false z]; exact Bool.false_ne_true), if_neg z]
    unfold kvT
    rw [List.map_append]
    rfl
theorem addU_len (acc : List PySem.Str) (x : PySem.Str) : (addU acc x).length ≤ acc.length + 1 := by
  unfold addU
  split
  · omega
  · rw [List.length_append]; exact Nat.le_refl _
theorem dc_names {h : Hm} {ρ : MM.Env} {s : Src} {v : Nat} {ek ev : EM} {Q : List (Key × Wv) → Hm → Prop} : ∀ (xs : List PySem.Str) (n k : Nat) (acc : List PySem.Str), (∀ j, s.at_ (k + j) h = some (xs[j]?.map Wv.str)) → xs.length < n → acc.length + xs.length < 1000000 → (∀ x, ek ((wipeM ρ [v]).set v (some (.str x))) h = .ok (.str x) h) → (∀ x, ev ((wipeM ρ [v]).set v (some (.str x))) h = .ok (.bl true) h) → Q (kvT (xs.foldl addU acc)) h → wpM (dcM s [v] (gN v) tYesM ek ev ρ n k (kvT acc)) h Q
  | _, 0, _, _, _, hn, _, _, _, _ => absurd hn (Nat.not_lt_zero _)
  | [], n + 1, k, acc, hs, _, _, _, _, q => by
    have := hs 0
    refine ⟨kvT acc, h, ?_, q⟩
    unfold dcM
    simp only [Nat.add_zero] at this
    simp only [this, List.getElem?_nil, Option.map_none]
  | x :: xs, n + 1, k, acc, hs, hn, hl, e1, e2, q => by
    have s0 := hs 0
    rw [List.length_cons] at hn hl
    have l2 := addU_len acc x
    obtain ⟨r, h1, e, z⟩ := dc_names (s := s) (h := h) (ρ := ρ) (v := v) (ek := ek) (ev := ev) (Q := Q) xs n (k + 1) (addU acc x) (fun j => by rw [show k + 1 + j = k + (j + 1) from by omega]; exact hs (j + 1)) (by omega) (by omega) e1 e2 q
    refine ⟨r, h1, ?_, z⟩
    unfold dcM
    simp only [Nat.add_zero] at s0
    simp only [s0, List.getElem?_cons_zero, Option.map_some]
    have g1 : gN v (.str x) (wipeM ρ [v]) h = .ok ((wipeM ρ [v]).set v (some (.str x))) h := rfl
    have ln : (kvT acc).length < sizeLine := by unfold kvT; rw [List.length_map, sizeLine_eq]; omega
    rw [bind_run g1, bind_run (show tYesM _ h = .ok true h from rfl), if_pos rfl, bind_run (e1 x), bind_run (e2 x)]
    simp only [MM.keyOf, ln, if_true, putU]
    exact e

def ordM_ (ms : List Mk) (p : Int) : List PySem.Str := uniq ((ms.filter fun m => decide (p ≤ m.1)).map (·.2) ++ (ms.filter fun m => decide (m.1 < p)).map (·.2))
theorem filt_mk (ms : List Mk) (P : Mk → Bool) (B : Wv → Bool) (f : Wv → Wv) (hB : ∀ m, B (mk m) = P m) (hf : ∀ m, f (mk m) = .str m.2) : ((ms.map mk).filter B).map f = ((ms.filter P).map (·.2)).map Wv.str := by
  induction ms with
  | nil => rfl
  | cons m ms ih =>
    rw [List.map_cons, List.filter_cons, List.filter_cons, hB]
    by_cases z : P m = true
    · rw [if_pos z, if_pos z, List.map_cons, ih, hf]; rfl
    · rw [if_neg z, if_neg z, ih]
def sndW : Wv → Wv
  | .tup [_, w] => w
  | _ => .non
def fstI : Wv → Int
  | .tup [.int i, _] => i
  | _ => 0
theorem wp_list_dk {h : Hm} {acc : List PySem.Str} {Q : Wv → Hm → Prop} : wpM (MM.listOf [.obj h.length]) (h ++ [.dk (kvT acc)]) Q ↔ Q (.obj (h.length + 1)) (h ++ [.dk (kvT acc)] ++ [.lst (acc.map Wv.str)]) := by
  refine wp_ok ?_
  have e : (h ++ [Ob.dk (kvT acc)])[h.length]? = some (.dk (kvT acc)) := by rw [List.getElem?_append_right (Nat.le_refl _), Nat.sub_self]; rfl
  have d : dsq (h ++ [Ob.dk (kvT acc)]) (.obj h.length) = none := by
    unfold dsq rdL
    simp only [e]
  unfold MM.listOf
  simp only [d, e]
  unfold lay
  rw [List.length_append]
  have : ((kvT acc).map fun kv => match kv.1 with | .inl i => Wv.int i | .inr x => Wv.str x) = acc.map Wv.str := by
    unfold kvT
    rw [List.map_map]
    rfl
  exact congrArg (fun z => Out.ok (Wv.obj (h.length + 1)) (h ++ [Ob.dk (kvT acc)] ++ [Ob.lst z])) this
theorem wp_add_lst {h : Hm} {i j : Nat} {xs ys : List Wv} {Q : Wv → Hm → Prop} (e1 : lstOf h i = some xs) (e2 : lstOf h j = some ys) (l : xs.length + ys.length ≤ 1000000) : wpM (addM (.obj i) (.obj j)) h Q ↔ Q (.obj h.length) (h ++ [.lst (xs ++ ys)]) := by
  refine wp_ok ?_
  unfold addM
  simp only [e1, e2]
  rw [if_pos (by rw [sizeLine_eq]; omega)]
  rfl
theorem lstOf_new {h : Hm} {ws : List Wv} (g : Hm) : lstOf (h ++ [.lst ws] ++ g) h.length = some ws := by
  unfold lstOf
  rw [List.append_assoc, List.getElem?_append_right (Nat.le_refl _), Nat.sub_self]
  rfl
theorem lstOf_last {h : Hm} {ws : List Wv} : lstOf (h ++ [.lst ws]) h.length = some ws := by
  have := lstOf_new (h := h) (ws := ws) []
  rwa [List.append_nil] at this
theorem order_wp {h : Hm} {w : Wv} {ms : List Mk} {x : PySem.Str} {Q : Wv → Hm → Prop} (r : RingA h w ms) (few : ms.length ≤ 48) (hx : wordOk x = true) (q : ∀ i g, (∀ g', rdL (h ++ g ++ g') i = some ((ordM_ ms (plc x)).map Wv.str)) → Q (.obj i) (h ++ g)) : wpM (m_Ring_order [w, .str x]) h Q := by
  simp only [m_Ring_order, MM.wpq, wp_mkC, startM, Ty.nm, if_true, if_false, Nat.reduceAdd, Nat.reduceSub, reduceCtorEq]
  refine place_of_wp hx fun g => ?_
  have r1 := r.app g
  obtain ⟨i, k, rfl, e1, e2⟩ := r1.at_
  have l1 : rdL (h ++ g) k = some (ms.map mk) := by unfold rdL; simp only [e2]
  rw [wp_getF e1 rfl, wp_src_obj l1]
  rw [lc_const (h := h ++ g) (its := ms.map mk) (fun w => decide (plc x ≤ fstI w)) sndW (fun k' => by have := its_L l1 (n := (ms.map mk).length) k' []; rwa [List.append_nil] at this) (by simp [sL]) (by rw [List.length_map]; omega) (fun w wm => ?_)]
  rotate_left
  · obtain ⟨m, hm, rfl⟩ := List.mem_map.mp wm
    simp only [wipeM, mk, MM.wpq, wp_mkC, startM, Ty.nm, if_true, if_false, Nat.reduceAdd, Nat.reduceSub, reduceCtorEq, fstI, sndW]
    exact ⟨rfl, fun _ => trivial⟩
  rw [filt_mk ms (fun m => decide (plc x ≤ m.1)) _ _ (fun m => rfl) (fun m => rfl)]
  generalize hA : (ms.filter fun m => decide (plc x ≤ m.1)).map (·.2) = A
  have e1' := get_app e1 [Ob.lst (A.map Wv.str)]
  have l2 := rdL_app l1 [Ob.lst (A.map Wv.str)]
  rw [wp_getF e1' rfl, wp_src_obj l2]
  rw [lc_const (h := h ++ g ++ [Ob.lst (A.map Wv.str)]) (its := ms.map mk) (fun w => decide (fstI w < plc x)) sndW (fun k' => by have := its_L l2 (n := (ms.map mk).length) k' []; rwa [List.append_nil] at this) (by simp [sL]) (by rw [List.length_map]; omega) (fun w wm => ?_)]
  rotate_left
  · obtain ⟨m, hm, rfl⟩ := List.mem_map.mp wm
    simp only [wipeM, mk, MM.wpq, wp_mkC, startM, Ty.nm, if_true, if_false, Nat.reduceAdd, Nat.reduceSub, reduceCtorEq, fstI, sndW]
    exact ⟨rfl, fun _ => trivial⟩
  rw [filt_mk ms (fun m => decide (m.1 < plc x)) _ _ (fun m => rfl) (fun m => rfl)]
  generalize hB : (ms.filter fun m => decide (m.1 < plc x)).map (·.2) = B
  have lA : A.length ≤ 48 := by rw [← hA, List.length_map]; exact Nat.le_trans (List.length_filter_le _ _) few
  have lB : B.length ≤ 48 := by rw [← hB, List.length_map]; exact Nat.le_trans (List.length_filter_le _ _) few
  rw [wp_add_lst (lstOf_new _) lstOf_last (by simp only [List.length_map]; omega), ← List.map_append]
  rw [wp_src_obj rdL_last]
  have l3 : ∀ j, (sL ((A ++ B).map Wv.str).length (h ++ g ++ [Ob.lst (A.map Wv.str)] ++ [Ob.lst (B.map Wv.str)]).length).at_ (0 + j) (h ++ g ++ [Ob.lst (A.map Wv.str)] ++ [Ob.lst (B.map Wv.str)] ++ [Ob.lst ((A ++ B).map Wv.str)]) = some ((A ++ B)[j]?.map Wv.str) := fun j => by
    have := its_L (n := ((A ++ B).map Wv.str).length) (rdL_last (h := h ++ g ++ [Ob.lst (A.map Wv.str)] ++ [Ob.lst (B.map Wv.str)]) (ws := (A ++ B).map Wv.str)) j []
    rw [List.append_nil] at this
    rw [Nat.zero_add, this, List.getElem?_map]
  refine dc_names (A ++ B) _ 0 [] l3 ?_ ?_ (fun x => rfl) (fun x => rfl) ?_
  · show (A ++ B).length < ((A ++ B).map Wv.str).length + 1
    rw [List.length_map]; omega
  · show 0 + (A ++ B).length < _
    rw [List.length_append]; omega
  rw [wp_list_dk]
  have eo : (A ++ B).foldl addU [] = ordM_ ms (plc x) := by
    unfold ordM_ uniq
    rw [hA, hB]
  rw [eo]
  generalize hh : h ++ g ++ [Ob.lst (A.map Wv.str)] ++ [Ob.lst (B.map Wv.str)] ++ [Ob.lst ((A ++ B).map Wv.str)] ++ [Ob.dk (kvT (ordM_ ms (plc x)))] = h5
  have h5e : h5 = h ++ (g ++ [Ob.lst (A.map Wv.str)] ++ [Ob.lst (B.map Wv.str)] ++ [Ob.lst ((A ++ B).map Wv.str)] ++ [Ob.dk (kvT (ordM_ ms (plc x)))]) := by
    rw [← hh]; simp
  have h5l : (h ++ g ++ [Ob.lst (A.map Wv.str)] ++ [Ob.lst (B.map Wv.str)] ++ [Ob.lst ((A ++ B).map Wv.str)]).length + 1 = h5.length := by
    rw [← hh]; simp only [List.length_append, List.length_cons, List.length_nil]
  rw [h5l]
  have h6 : h5 ++ [Ob.lst ((ordM_ ms (plc x)).map Wv.str)] = h ++ (g ++ [Ob.lst (A.map Wv.str)] ++ [Ob.lst (B.map Wv.str)] ++ [Ob.lst ((A ++ B).map Wv.str)] ++ [Ob.dk (kvT (ordM_ ms (plc x)))] ++ [Ob.lst ((ordM_ ms (plc x)).map Wv.str)]) := by
    rw [h5e]; simp
  rw [h6]
  refine q _ _ fun g' => ?_
  rw [← h6]
  exact rdL_new g'
end SP

set_option maxRecDepth 100000
set_option maxHeartbeats 4000000
namespace SP
open PySem PySem.Spec PyProof.Rows L2 K01 MM GP

theorem flats_str : ∀ ys : List PySem.Str, (ys.map Wv.str).mapM flatW = some (ys.map V.str)
  | [] => rfl
  | y :: ys => by rw [List.map_cons, List.mapM_cons, flats_str ys]; rfl
theorem inV_str (x : PySem.Str) (ys : List PySem.Str) : inV (.str x) (ys.map V.str) = decide (x ∈ ys) := by
  unfold inV
  rw [List.any_map, Bool.eq_iff_iff, List.any_eq_true, decide_eq_true_eq]
  constructor
  · rintro ⟨y, hy, z⟩
    have z : eqV (.str y) (.str x) = true := z
    simp [eqV] at z
    rw [← z]; exact hy
  · intro z
    exact ⟨x, z, by show eqV (.str x) (.str x) = true; simp [eqV]⟩
theorem wp_in_strs {neg : Bool} {h : Hm} {x : PySem.Str} {w : Wv} {ys : List PySem.Str} {Q : Wv → Hm → Prop} (e : dsq h w = some (ys.map Wv.str)) : wpM (inM neg (.str x) w) h Q ↔ Q (.bl (if neg then !decide (x ∈ ys) else decide (x ∈ ys))) h := by
  refine wp_ok ?_
  have f0 : flatW (.str x) = some (.str x) := rfl
  cases w with
  | tup ws => unfold inM; simp only [e, f0, flats_str, inV_str]
  | obj k => unfold inM; simp only [e, f0, flats_str, inV_str]
  | _ => cases e

def placeOk (p : Int) : Bool := decide (0 ≤ p) && decide (p ≤ 63)

def setU (xs acc : List PySem.Str) : List PySem.Str := xs.foldl (fun acc x => RQ.addL x acc) acc
def hsM (ms : List Mk) : List PySem.Str := isort sleS (setU (ms.map (·.2)) [])
end SP

set_option maxRecDepth 100000
set_option maxHeartbeats 4000000
namespace SP
open PySem PySem.Spec PyProof.Rows L2 K01 MM GP
def sndS : Wv → PySem.Str
  | .tup [_, .str x] => x
  | _ => ""
end SP

set_option maxRecDepth 100000
set_option maxHeartbeats 4000000
namespace SP
open PySem PySem.Spec PyProof.Rows L2 K01 MM GP

def Pool (h : Hm) (p : Nat) : Prop := ∃ a b : Int, h[p]? = some (.lst [.int a, .int b])
theorem wp_asg_ix {h : Hm} {ρ : MM.Env} {o i : EM} {v : Wv} {Q : MM.Env → Hm → Prop} : wpM (gIx o i v ρ) h Q ↔ wpM (o ρ) h fun w h1 => wpM (i ρ) h1 fun j h2 => wpM (setIx w j v) h2 fun _ h3 => Q ρ h3 := by
  unfold gIx; simp only [wp_bind, wp_pure]
theorem wp_mod {i j : Int} {h : Hm} {Q : Wv → Hm → Prop} (c : 0 < j) : wpM (modM (.int i) (.int j)) h Q ↔ Q (.int (i % j)) h := by
  unfold modM; rw [wp_pIc (decide_eq_true c)]
theorem wp_fdiv {i j : Int} {h : Hm} {Q : Wv → Hm → Prop} (c : 0 < j) (l : j.natAbs < 2 ^ 64) : wpM (fdivM (.int i) (.int j)) h Q ↔ Q (.int (i / j)) h := by
  unfold fdivM
  rw [wp_pIc]
  unfold bDiv
  rw [decide_eq_true c, Bool.true_and]
  refine decide_eq_true ?_
  have : j.natAbs.log2 < 64 := (Nat.log2_lt (by omega)).mpr l
  omega
theorem wp_set_ix {h : Hm} {k : Nat} {a b v : Wv} {Q : Unit → Hm → Prop} (e : h[k]? = some (.lst [a, b])) : (wpM (setIx (.obj k) (.int 0) v) h Q ↔ Q () (h.set k (.lst [v, b]))) ∧ (wpM (setIx (.obj k) (.int 1) v) h Q ↔ Q () (h.set k (.lst [a, v]))) := by
  have l : lstOf h k = some [a, b] := by unfold lstOf; simp only [e]
  constructor <;> refine wp_ok ?_ <;> unfold setIx <;> simp only [l] <;> rfl
theorem wp_ix0 {h : Hm} {k : Nat} {a b : Wv} {Q : Wv → Hm → Prop} (e : h[k]? = some (.lst [a, b])) : (wpM (ixM (.obj k) (.int 0)) h Q ↔ Q a h) ∧ (wpM (ixM (.obj k) (.int 1)) h Q ↔ Q b h) := by
  have l : rdL h k = some [a, b] := by unfold rdL; simp only [e]
  exact ⟨wp_ix_obj l rfl, wp_ix_obj l rfl⟩
theorem set_at {h : Hm} {k : Nat} {o o' : Ob} (e : h[k]? = some o) : (h.set k o')[k]? = some o' := by
  rw [List.getElem?_set_self (List.getElem?_eq_some_iff.mp e).1]
theorem take_wp {h : Hm} {p : Nat} {n : Int} {Q : Wv → Hm → Prop} (P : Pool h p) (n0 : 0 < n) (n1 : n.natAbs < 2 ^ 64) (q : ∀ (d a b : Int), 0 ≤ d → d < n → Q (.int d) (h.set p (.lst [.int a, .int b]))) : wpM (m__law_take [.obj p, .int n]) h Q := by
  obtain ⟨a, b, e⟩ := P
  simp only [m__law_take, MM.wpq, wp_mkC, startM, Ty.nm, if_true, if_false, Nat.reduceAdd, Nat.reduceSub, reduceCtorEq, wp_asg_ix]
  rw [(wp_ix0 e).1]
  simp only [MM.wpq, wp_mkC, startM, Ty.nm, if_true, if_false, Nat.reduceAdd, Nat.reduceSub, reduceCtorEq]
  by_cases a0 : 0 < a
  · simp only [a0, decide_true, MM.wpq, wp_mkC, startM, Ty.nm, if_true, if_false, Nat.reduceAdd, Nat.reduceSub, reduceCtorEq]
    rw [(wp_ix0 e).1, wp_mod n0]
    try simp only [MM.wpq, wp_mkC, startM, Ty.nm, if_true, if_false, Nat.reduceAdd, Nat.reduceSub, reduceCtorEq]
    rw [(wp_ix0 e).1, wp_fdiv n0 n1, (wp_set_ix e).1]
    try simp only [MM.wpq, wp_mkC, startM, Ty.nm, if_true, if_false, Nat.reduceAdd, Nat.reduceSub, reduceCtorEq]
    exact q _ _ _ (Int.emod_nonneg _ (by omega)) (Int.emod_lt_of_pos _ n0)
  · simp only [a0, decide_false, MM.wpq, wp_mkC, startM, Ty.nm, if_true, if_false, Nat.reduceAdd, Nat.reduceSub, reduceCtorEq]
    rw [(wp_ix0 e).2, wp_mulI (bMul_r (by decide))]
    try simp only [MM.wpq, wp_mkC, startM, Ty.nm, if_true, if_false, Nat.reduceAdd, Nat.reduceSub, reduceCtorEq]
    rw [wp_mod (by decide), (wp_set_ix e).2]
    have e2 : ∀ o, (h.set p o)[p]? = some o := fun o => set_at e
    try simp only [MM.wpq, wp_mkC, startM, Ty.nm, if_true, if_false, Nat.reduceAdd, Nat.reduceSub, reduceCtorEq]
    rw [(wp_ix0 (e2 _)).2, (wp_ix0 (e2 _)).2, wp_mulI, wp_mod (by decide), wp_fdiv (by decide) (by decide), wp_mod n0]
    · exact q _ _ _ (Int.emod_nonneg _ (by omega)) (Int.emod_lt_of_pos _ n0)
    · refine bMul_l ?_
      have h0 := Int.emod_nonneg (b * 48271 + 11) (show (2147483647 : Int) ≠ 0 by decide)
      have h1 := Int.emod_lt_of_pos (b * 48271 + 11) (show (0 : Int) < 2147483647 by decide)
      omega
theorem wp_pow {i j : Int} {h : Hm} {Q : Wv → Hm → Prop} (c : bPow i j = true) : wpM (powM (.int i) (.int j)) h Q ↔ Q (.int (i ^ j.toNat)) h := by
  unfold powM; rw [wp_pIc c]
theorem wp_int_bl {b : Bool} {h : Hm} {Q : Wv → Hm → Prop} : wpM (intOf [.bl b]) h Q ↔ Q (.int (if b then 1 else 0)) h := wp_ok rfl
end SP

set_option maxRecDepth 100000
set_option maxHeartbeats 4000000
namespace SP
open PySem PySem.Spec PyProof.Rows L2 K01 MM GP
section
variable {h : Hm} {ρ : MM.Env} {Q : Wv → Hm → Prop}



def AllL (h : Hm) : List (PySem.Str × List PySem.Str) → List Nat → Prop
  | [], [] => True
  | p :: ps, i :: is => rdL h i = some (p.2.map Wv.str) ∧ AllL h ps is
  | _, _ => False
def dueK (ps : List (PySem.Str × List PySem.Str)) (is : List Nat) : List (Key × Wv) := List.zipWith (fun p i => (Sum.inr p.1, Wv.obj i)) ps is
theorem AllL.mv {h' : Hm} (m : ∀ i ws, rdL h i = some ws → rdL h' i = some ws) : ∀ {ps : List (PySem.Str × List PySem.Str)} {is : List Nat}, AllL h ps is → AllL h' ps is
  | [], [], _ => trivial
  | [], _ :: _, A => A.elim
  | _ :: _, [], A => A.elim
  | p :: ps, i :: is, A => ⟨m _ _ A.1, AllL.mv m A.2⟩
theorem RingA.set {d : Nat} {o o' : Ob} {w : Wv} {ms : List Mk} (e : h[d]? = some o) (n : ∀ ws, o ≠ .lst ws) (n' : ∀ C fs, o ≠ .ins C fs) (r : RingA h w ms) : RingA (h.set d o') w ms := by
  obtain ⟨i, k, e0, e1, e2⟩ := r.at_
  have i1 : d ≠ i := fun z => by subst z; rw [e] at e1; exact n' _ _ (Option.some.inj e1)
  have i2 : d ≠ k := fun z => by subst z; rw [e] at e2; exact n _ (Option.some.inj e2)
  exact ⟨i, k, e0, by rw [List.getElem?_set_ne i1]; exact e1, by rw [List.getElem?_set_ne i2]; exact e2⟩
end
end SP

set_option maxRecDepth 100000
set_option maxHeartbeats 4000000
namespace SP
open PySem PySem.Spec PyProof.Rows L2 K01 MM GP
abbrev Dl := List (PySem.Str × List PySem.Str)
def Due (h : Hm) (d : Nat) (ps : Dl) : Prop := ∃ is, h[d]? = some (.dk (dueK ps is)) ∧ AllL h ps is
def PrAll (ρ : MM.Env) : List (EM × EM) → Dl → Prop
  | [], [] => True
  | e :: ps, p :: kvs => (e.1 = eC (.str p.1) ∧ ∀ h, e.2 ρ h = .ok (.obj h.length) (h ++ [.lst (p.2.map Wv.str)])) ∧ PrAll ρ ps kvs
  | _, _ => False
theorem AllL.app {h : Hm} : ∀ {a b : Dl} {is js : List Nat}, AllL h a is → AllL h b js → AllL h (a ++ b) (is ++ js)
  | [], _, [], _, _, B => B
  | [], _, _ :: _, _, A, _ => A.elim
  | _ :: _, _, [], _, A, _ => A.elim
  | p :: a, b, i :: is, js, A, B => ⟨A.1, AllL.app A.2 B⟩
theorem Due.app {h : Hm} {d : Nat} {ps : Dl} (D : Due h d ps) (g : Hm) : Due (h ++ g) d ps := by
  obtain ⟨is, e, al⟩ := D
  exact ⟨is, get_app e g, al.mv fun i ws z => rdL_app z g⟩
theorem cutW_map {α β : Type} (f : α → β) (xs : List α) (lo hi : Option Int) : cutW (xs.map f) lo hi = (cutW xs lo hi).map f := by
  unfold cutW
  rw [List.length_map, List.map_take, List.map_drop]
end SP

set_option maxRecDepth 100000
set_option maxHeartbeats 4000000

namespace SP
open PySem PySem.Spec PyProof.Rows L2 K01 MM GP
noncomputable def sameW (a b : Wv) : Bool := @decide (a = b) (Classical.propDecidable _)
theorem sameW_iff {a b : Wv} : sameW a b = true ↔ a = b := @decide_eq_true_iff _ (Classical.propDecidable _)
def Cl : Nat → Wv → Prop
  | _, .non => True
  | _, .int _ => True
  | _, .str x => PyData.strOk x = true
  | n + 1, .tup ws => ∀ w ∈ ws, Cl n w
  | _, _ => False
def dcW : Nat → Wv → PyData
  | _, .int i => .int i
  | _, .str x => .str x
  | n + 1, .tup ws => .tuple (ws.map (dcW n))
  | _, _ => .none
theorem mapM_dat {h : Hm} {m : Nat} {f : Wv → PyData} : ∀ {ws : List Wv}, (∀ w ∈ ws, dat h m w = some (f w)) → ws.mapM (dat h m) = some (ws.map f)
  | [], _ => rfl
  | w :: ws, a => by
    rw [List.mapM_cons, a w List.mem_cons_self, mapM_dat fun v hv => a v (List.mem_cons_of_mem _ hv)]
    rfl
theorem dat_cl {h : Hm} : ∀ {n m : Nat} {w : Wv}, Cl n w → n < m → dat h m w = some (dcW n w)
  | n, m + 1, w, c, l => by
    cases w with
    | non => cases n <;> rfl
    | int i => cases n <;> rfl
    | str x => cases n <;> rfl
    | tup ws =>
      cases n with
      | zero => exact c.elim
      | succ n =>
        have z : ws.mapM (dat h m) = some (ws.map (dcW n)) := mapM_dat fun w hw => dat_cl (c w hw) (by omega)
        show (ws.mapM (dat h m)).map PyData.tuple = _
        rw [z]
        rfl
    | bl b => cases n <;> exact c.elim
    | obj i => cases n <;> exact c.elim
    | glob x => cases n <;> exact c.elim
    | raw v => cases n <;> exact c.elim
    | scr ns => cases n <;> exact c.elim
    | ptp ws => cases n <;> exact c.elim
theorem lay_map {n : Nat} {f : Wv → PyData} : ∀ {ws : List Wv}, (∀ w ∈ ws, (f w).canLay0 = true ∧ (f w).depth ≤ n) → PyData.canLayAll0 (ws.map f) = true ∧ PyData.depthAll (ws.map f) ≤ n
  | [], _ => ⟨by rw [List.map_nil, PyData.canLayAll0], by rw [List.map_nil, PyData.depthAll]; exact Nat.zero_le _⟩
  | w :: ws, a => by
    obtain ⟨b1, b2⟩ := a w List.mem_cons_self
    obtain ⟨c1, c2⟩ := lay_map fun v hv => a v (List.mem_cons_of_mem _ hv)
    refine ⟨by rw [List.map_cons, PyData.canLayAll0, b1, c1]; rfl, ?_⟩
    rw [List.map_cons, PyData.depthAll]
    omega
theorem lay_cl : ∀ {n : Nat} {w : Wv}, Cl n w → (dcW n w).canLay0 = true ∧ (dcW n w).depth ≤ n
  | n, w, c => by
    cases w with
    | non => cases n <;> simp [dcW, PyData.canLay0, PyData.depth]
    | int i => cases n <;> simp [dcW, PyData.canLay0, PyData.depth]
    | str x => cases n <;> exact ⟨by rw [dcW, PyData.canLay0]; exact c, by simp [dcW, PyData.depth]⟩
    | tup ws =>
      cases n with
      | zero => exact c.elim
      | succ n =>
        obtain ⟨a, b⟩ := lay_map (n := n) (f := dcW n) (ws := ws) fun w hw => lay_cl (c w hw)
        refine ⟨by rw [dcW, PyData.canLay0]; exact a, by rw [dcW, PyData.depth]; omega⟩
    | bl b => cases n <;> exact c.elim
    | obj i => cases n <;> exact c.elim
    | glob x => cases n <;> exact c.elim
    | raw v => cases n <;> exact c.elim
    | scr ns => cases n <;> exact c.elim
    | ptp ws => cases n <;> exact c.elim
theorem shaped_cl {n : Nat} {w : Wv} (c : Cl n w) (l : n ≤ 64) : SeqAt.shaped (dcW n w) = true := by
  obtain ⟨a, b⟩ := lay_cl c
  unfold SeqAt.shaped
  rw [a, Bool.true_and]
  exact decide_eq_true (by omega)
theorem eqv_map {n : Nat} (ih : ∀ a b : Wv, Cl n a → Cl n b → (PyData.eqv (dcW n a) (dcW n b) = true ↔ a = b)) : ∀ {xs ys : List Wv}, (∀ w ∈ xs, Cl n w) → (∀ w ∈ ys, Cl n w) → (PyData.eqvAll (xs.map (dcW n)) (ys.map (dcW n)) = true ↔ xs = ys)
  | [], [], _, _ => by simp [PyData.eqvAll]
  | [], _ :: _, _, _ => by simp [PyData.eqvAll]
  | _ :: _, [], _, _ => by simp [PyData.eqvAll]
  | x :: xs, y :: ys, a, b => by
    rw [List.map_cons, List.map_cons, PyData.eqvAll, Bool.and_eq_true, ih x y (a x List.mem_cons_self) (b y List.mem_cons_self), eqv_map ih (fun w hw => a w (List.mem_cons_of_mem _ hw)) (fun w hw => b w (List.mem_cons_of_mem _ hw))]
    simp
theorem eqv_cl : ∀ (n : Nat) (a b : Wv), Cl n a → Cl n b → (PyData.eqv (dcW n a) (dcW n b) = true ↔ a = b)
  | 0, a, b, ca, cb => by
    cases a <;> cases b <;> first | exact ca.elim | exact cb.elim | simp [dcW, PyData.eqv]
  | n + 1, a, b, ca, cb => by
    cases a with
    | tup xs =>
      cases b with
      | tup ys =>
        rw [dcW, dcW, PyData.eqv, eqv_map (eqv_cl n) ca cb]
        simp
      | non => simp [dcW, PyData.eqv]
      | int i => simp [dcW, PyData.eqv]
      | str x => simp [dcW, PyData.eqv]
      | _ => exact cb.elim
    | non => cases b <;> first | exact cb.elim | simp [dcW, PyData.eqv]
    | int i => cases b <;> first | exact cb.elim | simp [dcW, PyData.eqv]
    | str x => cases b <;> first | exact cb.elim | simp [dcW, PyData.eqv]
    | _ => exact ca.elim
theorem eqv_same {n : Nat} {a b : Wv} (ca : Cl n a) (cb : Cl n b) : PyData.eqv (dcW n a) (dcW n b) = sameW a b := by
  rw [Bool.eq_iff_iff, eqv_cl n a b ca cb, sameW_iff]
theorem eqB_cl {h : Hm} {n : Nat} {neg : Bool} {a b : Wv} (ca : Cl n a) (cb : Cl n b) (l : n < 60) : eqB neg a b h = .ok (.bl (if neg then !sameW a b else sameW a b)) h := by
  have da := dat_cl (h := h) ca l
  have db := dat_cl (h := h) cb l
  have sa := shaped_cl ca (by omega)
  have sb := shaped_cl cb (by omega)
  have ev := eqv_same ca cb
  cases a with
  | int i =>
    cases b with
    | int j => show Out.ok (Wv.bl (if neg then !decide (i = j) else decide (i = j))) h = _; rw [show sameW (.int i) (.int j) = decide (i = j) by rw [Bool.eq_iff_iff, sameW_iff, decide_eq_true_iff]; simp]
    | _ => unfold eqB; simp only [da, db, sa, sb, Bool.and_self, if_true, ev]
  | str x =>
    cases b with
    | str y => show Out.ok (Wv.bl (if neg then !decide (x = y) else decide (x = y))) h = _; rw [show sameW (.str x) (.str y) = decide (x = y) by rw [Bool.eq_iff_iff, sameW_iff, decide_eq_true_iff]; simp]
    | _ => unfold eqB; simp only [da, db, sa, sb, Bool.and_self, if_true, ev]
  | bl c => cases n <;> exact ca.elim
  | non => unfold eqB; simp only [da, db, sa, sb, Bool.and_self, if_true, ev]
  | tup ws => unfold eqB; simp only [da, db, sa, sb, Bool.and_self, if_true, ev]
  | obj i => cases n <;> exact ca.elim
  | glob x => cases n <;> exact ca.elim
  | raw v => cases n <;> exact ca.elim
  | scr ns => cases n <;> exact ca.elim
  | ptp ws => cases n <;> exact ca.elim
theorem wp_eqCl {h : Hm} {n : Nat} {neg : Bool} {a b : Wv} {Q : Wv → Hm → Prop} (ca : Cl n a) (cb : Cl n b) (l : n < 60) : wpM (eqB neg a b) h Q ↔ Q (.bl (if neg then !sameW a b else sameW a b)) h := wp_ok (eqB_cl ca cb l)
theorem dat_lst {h : Hm} {n m i : Nat} {ws : List Wv} (e : rdL h i = some ws) (c : ∀ w ∈ ws, Cl n w) (l : n + 1 < m) : dat h m (.obj i) = some (.list (ws.map (dcW n))) := by
  obtain ⟨m, rfl⟩ : ∃ k, m = k + 1 := ⟨m - 1, by omega⟩
  unfold dat
  simp only [e]
  rw [mapM_dat fun w hw => dat_cl (c w hw) (by omega)]
  rfl
noncomputable def sameL (a b : List Wv) : Bool := @decide (a = b) (Classical.propDecidable _)
theorem sameL_iff {a b : List Wv} : sameL a b = true ↔ a = b := @decide_eq_true_iff _ (Classical.propDecidable _)
theorem shaped_lstC {n : Nat} {ws : List Wv} (c : ∀ w ∈ ws, Cl n w) (l : n < 64) : SeqAt.shaped (.list (ws.map (dcW n))) = true := by
  obtain ⟨a, b⟩ := lay_map (n := n) (f := dcW n) (ws := ws) fun w hw => lay_cl (c w hw)
  unfold SeqAt.shaped
  rw [PyData.canLay0, a, PyData.depth, Bool.true_and]
  exact decide_eq_true (by omega)
theorem eqv_lstC {n : Nat} {xs ys : List Wv} (a : ∀ w ∈ xs, Cl n w) (b : ∀ w ∈ ys, Cl n w) : PyData.eqv (.list (xs.map (dcW n))) (.list (ys.map (dcW n))) = sameL xs ys := by
  rw [PyData.eqv, Bool.eq_iff_iff, eqv_map (eqv_cl n) a b, sameL_iff]
theorem wp_eqL {h : Hm} {n i j : Nat} {neg : Bool} {xs ys : List Wv} {Q : Wv → Hm → Prop} (e1 : rdL h i = some xs) (e2 : rdL h j = some ys) (a : ∀ w ∈ xs, Cl n w) (b : ∀ w ∈ ys, Cl n w) (l : n < 50) : wpM (eqB neg (.obj i) (.obj j)) h Q ↔ Q (.bl (if neg then !sameL xs ys else sameL xs ys)) h := by
  refine wp_ok ?_
  unfold eqB
  simp only [dat_lst e1 a (show n + 1 < 60 by omega), dat_lst e2 b (show n + 1 < 60 by omega), shaped_lstC a (by omega), shaped_lstC b (by omega), Bool.and_self, if_true, eqv_lstC a b]
end SP

set_option maxRecDepth 100000
set_option maxHeartbeats 4000000

namespace SP
open PySem PySem.Spec PyProof.Rows L2 K01 MM GP
def kn (ks : List MM.DK) : Wv := .tup (ks.map tupK)
def GD (k : MM.DK) : Prop := ∃ (n : Int) (x : PySem.Str) (l : Int), k = [.inl n, .inr x, .inl l] ∧ 1 ≤ n ∧ n ≤ 1000000000000 ∧ wordOk x = true ∧ 1 ≤ l
theorem GD.d3 {k : MM.DK} (g : GD k) : MS.D3 k := by
  obtain ⟨n, x, l, rfl, _⟩ := g
  exact ⟨n, x, l, rfl⟩
end SP

set_option maxRecDepth 100000
set_option maxHeartbeats 4000000
namespace MM
open PySem PySem.Spec PyProof.Rows L2
section
variable {h : Hm} {ρ : Env}
theorem wp_tru_lst {i : Nat} {ws : List Wv} {Q : Bool → Hm → Prop} (e : h[i]? = some (.lst ws)) : wpM (truM (.obj i)) h Q ↔ Q (!ws.isEmpty) h := wp_ok (by unfold truM; simp only [e])
theorem at_last {o : Ob} : (h ++ [o])[h.length]? = some o := by rw [List.getElem?_append_right (Nat.le_refl _), Nat.sub_self]; rfl
end
end MM

set_option maxRecDepth 100000
set_option maxHeartbeats 4000000

namespace SP
open PySem PySem.Spec PyProof.Rows L2 K01 MM GP
theorem cutW_1 {α : Type} {xs : List α} : cutW xs (some 1) none = xs.drop 1 := by
  cases xs with
  | nil => rfl
  | cons x xs =>
    unfold cutW HT.sIx
    simp
def jn (a b : List MM.DK) : List MM.DK := sortK (a ++ b)
end SP

set_option maxRecDepth 100000
set_option maxHeartbeats 4000000

namespace SP
open PySem PySem.Spec PyProof.Rows L2 K01 MM GP

structure Kx (S : List Nat) (h h' : Hm) : Prop where
  len : h.length ≤ h'.length
  at_ : ∀ j, j < h.length → j ∉ S → h'[j]? = h[j]?
theorem Kx.rfl' {S : List Nat} {h : Hm} : Kx S h h := ⟨Nat.le_refl _, fun _ _ _ => rfl⟩
theorem Kx.app {S : List Nat} {h h1 : Hm} (a : Kx S h h1) (g : Hm) : Kx S h (h1 ++ g) := ⟨by rw [List.length_append]; exact Nat.le_trans a.len (Nat.le_add_right _ _), fun j l n => by rw [List.getElem?_append_left (Nat.lt_of_lt_of_le l a.len)]; exact a.at_ j l n⟩
theorem Kx.trans {S : List Nat} {h h1 h2 : Hm} (a : Kx S h h1) (b : Kx S h1 h2) : Kx S h h2 := ⟨Nat.le_trans a.len b.len, fun j l n => (b.at_ j (Nat.lt_of_lt_of_le l a.len) n).trans (a.at_ j l n)⟩
theorem Kx.mono {S T : List Nat} {h h1 : Hm} (a : Kx S h h1) (s : ∀ j ∈ S, j ∈ T) : Kx T h h1 := ⟨a.len, fun j l n => a.at_ j l fun z => n (s j z)⟩
theorem Kx.set {S : List Nat} {h h1 : Hm} (a : Kx S h h1) {j : Nat} {o : Ob} (m : j ∈ S ∨ h.length ≤ j) : Kx S h (h1.set j o) := ⟨by rw [List.length_set]; exact a.len, fun k l n => by
  rw [List.getElem?_set_ne (fun z => by subst z; rcases m with m | m; exact n m; omega)]
  exact a.at_ k l n⟩
theorem Kx.get {S : List Nat} {h h1 : Hm} (a : Kx S h h1) {j : Nat} {o : Ob} (e : h[j]? = some o) (n : j ∉ S) : h1[j]? = some o := (a.at_ j (List.getElem?_eq_some_iff.mp e).1 n).trans e

def rowsV (ns : List PySem.Str) (v : PySem.Str → Wv) : List (Key × Wv) := ns.map fun x => (.inr x, v x)
abbrev Kf := PySem.Str → List MM.DK
def updK (f : Kf) (x : PySem.Str) (k : List MM.DK) : Kf := fun y => if y = x then k else f y
abbrev rowsK (ns : List PySem.Str) (f : Kf) : List (Key × Wv) := rowsV ns fun x => kn (f x)
def putN (ns : List PySem.Str) (x : PySem.Str) : List PySem.Str := if x ∈ ns then ns else ns ++ [x]
def W5 : List PySem.Str := ["a", "b", "c", "dd", "eeeeee"]
structure KnOk (ns : List PySem.Str) (f : Kf) : Prop where
  nd : ns.Nodup
  sub : ∀ x ∈ ns, x ∈ W5
  asc : ∀ x, Asc (f x)
  good : ∀ x, ∀ k ∈ f x, GD k
  few : ∀ x, (f x).length ≤ 55
theorem KnOk.len {ns : List PySem.Str} {f : Kf} (k : KnOk ns f) : ns.length ≤ 5 := by
  rcases Nat.lt_or_ge 5 ns.length with l | l
  · have := (RQ.nodup_perm k.nd (fun x hx => k.sub x hx) (by show W5.length ≤ _; simp [W5]; omega)).length_eq
    simp [W5] at this
    omega
  · exact l
structure AsAt (h : Hm) (i d t : Nat) (nm : PySem.Str) (ns : List PySem.Str) (f : Kf) (bz : Wv) (tl : List Wv) : Prop where
  ob : h[i]? = some (.ins "Asker" [("own_name", .str nm), ("own_known", .obj d), ("own_busy", bz), ("own_tellings", .obj t)])
  di : h[d]? = some (.dk (rowsK ns f))
  te : h[t]? = some (.lst tl)
theorem AsAt.kx {S : List Nat} {h h' : Hm} {i d t : Nat} {nm : PySem.Str} {ns : List PySem.Str} {f : Kf} {bz : Wv} {tl : List Wv} (A : AsAt h i d t nm ns f bz tl) (k : Kx S h h') (n : i ∉ S ∧ d ∉ S ∧ t ∉ S) : AsAt h' i d t nm ns f bz tl := ⟨k.get A.ob n.1, k.get A.di n.2.1, k.get A.te n.2.2⟩
theorem AsAt.app {h : Hm} {i d t : Nat} {nm : PySem.Str} {ns : List PySem.Str} {f : Kf} {bz : Wv} {tl : List Wv} (A : AsAt h i d t nm ns f bz tl) (g : Hm) : AsAt (h ++ g) i d t nm ns f bz tl := A.kx (S := []) (Kx.rfl'.app g) (by simp)
section
variable {h : Hm} {i d t : Nat} {nm x : PySem.Str} {ns : List PySem.Str} {f : Kf} {bz : Wv} {tl : List Wv} {Q : Wv → Hm → Prop}
def srt5 (ns : List PySem.Str) : List PySem.Str := isort sleS ns
def stW (nm : PySem.Str) (bz : Wv) (tl : List Wv) (ns : List PySem.Str) (f : Kf) : Wv := .tup [.str nm, bz, .tup tl, .tup ((srt5 ns).map fun x => .tup [.str x, kn (f x)])]
end
end SP

set_option maxRecDepth 100000
set_option maxHeartbeats 4000000

namespace SG
open PySem PySem.Spec PyProof.Rows L2 K01 MM GP SP
section
variable {h : Hm} {w a b : Wv} {x : PySem.Str} {t : Ty} {Q : Wv → Hm → Prop} {R : Ex → Hm → Prop}
theorem ty_app {g : Hm} (e : tyW h w = some t) : tyW (h ++ g) w = some t := by
  cases w with
  | obj i =>
    unfold tyW at e ⊢
    simp only at e ⊢
    cases q : h[i]? with
    | none => rw [q] at e; cases e
    | some o => rw [at_app q]; rw [q] at e; exact e
  | _ => exact e
def OddW (h : Hm) (w : Wv) : Prop := (∃ x, w = .str x ∧ x.length ≤ sizeLine ∧ wordOk x = false) ∨ ∃ t, tyW h w = some t ∧ t ≠ .str
theorem OddW.app (o : OddW h w) (g : Hm) : OddW (h ++ g) w := by
  rcases o with o | ⟨t, e, n⟩
  · exact .inl o
  · exact .inr ⟨t, ty_app e, n⟩

def OddP (h : Hm) (w : Wv) : Prop := (∃ p, w = .int p ∧ (decide (0 ≤ p) && decide (p ≤ 63)) = false) ∨ ∃ t, tyW h w = some t ∧ t ≠ .int
theorem OddP.app (o : OddP h w) (g : Hm) : OddP (h ++ g) w := by
  rcases o with o | ⟨t, e, n⟩
  · exact .inl o
  · exact .inr ⟨t, ty_app e, n⟩

def OddM (h : Hm) (w : Wv) : Prop := (∃ t, tyW h w = some t ∧ t ≠ .tup) ∨ (∃ ws, w = .tup ws ∧ ws.length ≠ 2) ∨ (∃ a b, w = .tup [a, b] ∧ OddP h a) ∨ ∃ p b, w = .tup [.int p, b] ∧ (decide (0 ≤ p) && decide (p ≤ 63)) = true ∧ OddW h b
theorem OddM.app (o : OddM h w) (g : Hm) : OddM (h ++ g) w := by
  rcases o with ⟨t, e, n⟩ | o | ⟨a, b, e, o⟩ | ⟨p, b, e, c, o⟩
  · exact .inl ⟨t, ty_app e, n⟩
  · exact .inr (.inl o)
  · exact .inr (.inr (.inl ⟨a, b, e, o.app g⟩))
  · exact .inr (.inr (.inr ⟨p, b, e, c, o.app g⟩))
end
end SG

set_option maxRecDepth 100000
set_option maxHeartbeats 4000000

namespace SC
open PySem PySem.Spec PyProof.Rows L2 K01 MM GP SP SG
def Pl (h : Hm) : Nat → Wv → Prop
  | _, .non => True
  | _, .bl _ => True
  | _, .int _ => True
  | _, .str x => x.length ≤ sizeLine
  | _, .obj i => ∃ t, tyW h (.obj i) = some t
  | n + 1, .tup ws => ws.length < 1000 ∧ ∀ w ∈ ws, Pl h n w
  | _, _ => False
section
variable {h : Hm} {w a b c : Wv} {x : PySem.Str} {t : Ty} {n : Nat} {Q : Wv → Hm → Prop} {R : Ex → Hm → Prop}
theorem Pl.ty (p : Pl h n w) : ∃ t, tyW h w = some t := by
  cases w with
  | obj i => cases n <;> exact p
  | glob x => cases n <;> exact p.elim
  | raw v => cases n <;> exact p.elim
  | scr ns => cases n <;> exact p.elim
  | ptp ws => cases n <;> exact p.elim
  | non => exact ⟨_, rfl⟩
  | bl b => exact ⟨_, rfl⟩
  | int i => exact ⟨_, rfl⟩
  | str y => exact ⟨_, rfl⟩
  | tup ws => exact ⟨_, rfl⟩
theorem Pl.app (g : Hm) : ∀ {n : Nat} {w : Wv}, Pl h n w → Pl (h ++ g) n w
  | 0, w, p => by
    cases w with
    | obj i => exact ⟨p.choose, ty_app p.choose_spec⟩
    | tup ws => exact p.elim
    | _ => exact p
  | n + 1, w, p => by
    cases w with
    | obj i => exact ⟨p.choose, ty_app p.choose_spec⟩
    | tup ws => exact ⟨p.1, fun w hw => (p.2 w hw).app g⟩
    | _ => exact p
theorem Pl.up : ∀ {n m : Nat} {w : Wv}, Pl h n w → n ≤ m → Pl h m w
  | 0, 0, w, p, _ => p
  | 0, m + 1, w, p, _ => by
    cases w with
    | tup ws => exact p.elim
    | _ => exact p
  | n + 1, m + 1, w, p, l => by
    cases w with
    | tup ws => exact ⟨p.1, fun w hw => (p.2 w hw).up (by omega)⟩
    | _ => exact p
def wordW : Wv → Bool
  | .str x => wordOk x
  | _ => false

def dotOf : Wv → Option MM.DK
  | .tup [.int n, .str x, .int l] => if 1 ≤ n ∧ n ≤ 1000000000000 ∧ wordOk x = true ∧ 1 ≤ l then some [.inl n, .inr x, .inl l] else none
  | _ => none

def markB : Wv → Bool
  | .tup [.str x, .int t] => decide (x = "gone") && decide (0 ≤ t)
  | _ => false
def worthB : Wv → Bool
  | .int i => decide (-1000000000 ≤ i) && decide (i ≤ 1000000000)
  | w => markB w
end
end SC

set_option maxRecDepth 100000
set_option maxHeartbeats 4000000

namespace SC
open PySem PySem.Spec PyProof.Rows L2 K01 MM GP SP SG
def ltP (w : Wv) : Wv := match w with
  | .tup [a, b] => match tkOf a, tkOf b with
    | some x, some y => .bl (MS.dlt x y)
    | _, _ => .non
  | _ => .non
section
variable {h : Hm} {w a b c : Wv} {n : Nat} {ks : List MM.DK} {Q : Wv → Hm → Prop}

def knownOf : Wv → Option (List MM.DK)
  | .tup ws => (ws.mapM dotOf).bind fun ks => if ascB ks = true then some ks else none
  | _ => none
structure GK (ks : List MM.DK) : Prop where
  all : ∀ k ∈ ks, GD k
  asc : Asc ks
theorem filter_yes {α : Type} {l : List α} : l.filter (fun _ => true) = l := List.filter_eq_self.mpr fun _ _ => rfl
end
end SC

set_option maxRecDepth 100000
set_option maxHeartbeats 4000000

namespace SC
open PySem PySem.Spec PyProof.Rows L2 K01 MM GP SP SG
section
variable {κ : Type} [DecidableEq κ]
def putAll (kvs : List (κ × Wv)) (ps : List (κ × Wv)) : List (κ × Wv) := ps.foldl (fun a p => putKW a p.1 p.2) kvs
end

section
variable {h : Hm} {ρ : MM.Env}
end
end SC

set_option maxRecDepth 100000
set_option maxHeartbeats 4000000

namespace SC
open PySem PySem.Spec PyProof.Rows L2 K01 MM GP SP SG
instance memDk (k : List Key) (ks : List (List Key)) : Decidable (k ∈ ks) :=
  @List.instDecidableMemOfLawfulBEq (List Key) instBEqOfDecidableEq inferInstance k ks
structure Ver where
  d : MM.DK
  k : List MM.DK
  w : Wv
def vW (v : Ver) : Wv := .tup [tupK v.d, kn v.k, v.w]
structure GV (v : Ver) : Prop where
  d : GD v.d
  k : GK v.k
  w : worthB v.w = true
  out : v.d ∉ v.k
def verOf : Wv → Option Ver
  | .tup [a, b, c] => (dotOf a).bind fun d => (knownOf b).bind fun ks => if worthB c = true ∧ d ∉ ks then some ⟨d, ks, c⟩ else none
  | _ => none
section
variable {h : Hm} {w a b c : Wv} {n : Nat} {ks : List MM.DK} {Q : Wv → Hm → Prop} {R : Ex → Hm → Prop}

def knAll (vs : List Ver) : List MM.DK := vs.flatMap (·.k)
def knW (vs : List Ver) : List (MM.DK × Wv) := putAll [] ((knAll vs).map fun k => (k, Wv.bl true))
def kOfW : Wv → List Wv
  | .tup [_, .tup ks, _] => ks
  | _ => []
end
end SC

set_option maxRecDepth 100000
set_option maxHeartbeats 4000000

namespace SC
open PySem PySem.Spec PyProof.Rows L2 K01 MM GP SP SG
theorem draw_is : m__law_draw = m__law_take := rfl
structure Gp (p : Nat) (h h' : Hm) : Prop where
  kx : Kx [p] h h'
  po : SP.Pool h' p
section
variable {h h' h1 h2 : Hm} {p j : Nat} {o : Ob}
theorem Gp.of (P : SP.Pool h p) : Gp p h h := ⟨.rfl', P⟩
theorem Gp.app (a : Gp p h h') (g : Hm) : Gp p h (h' ++ g) := by
  obtain ⟨x, y, e⟩ := a.po
  exact ⟨a.kx.app g, x, y, at_app e g⟩
theorem Gp.trans (a : Gp p h h1) (b : Gp p h1 h2) : Gp p h h2 := ⟨a.kx.trans b.kx, b.po⟩
theorem Gp.get (a : Gp p h h1) (e : h[j]? = some o) (n : j ≠ p) : h1[j]? = some o := a.kx.get e (by simpa using n)
theorem Gp.rd {ws : List Wv} (a : Gp p h h1) (e : rdL h j = some ws) (n : j ≠ p) : rdL h1 j = some ws := by
  unfold rdL at e ⊢
  split at e <;> first | (next q => rw [a.get q n]; exact e) | cases e
theorem Gp.put (a : Gp p h h1) (o : Ob) (l : h.length ≤ j) (n : j ≠ p) : Gp p h (h1.set j o) := by
  obtain ⟨x, y, e⟩ := a.po
  exact ⟨a.kx.set (.inr l), x, y, by rw [List.getElem?_set_ne n]; exact e⟩
theorem pool_lt (P : SP.Pool h p) : p < h.length := by
  obtain ⟨x, y, e⟩ := P
  exact (List.getElem?_eq_some_iff.mp e).1
theorem draw_wp {n : Int} {Q : Wv → Hm → Prop} (P : SP.Pool h p) (n0 : 0 < n) (n1 : n.natAbs < 2 ^ 64) (q : ∀ d h', Gp p h h' → 0 ≤ d → d < n → Q (.int d) h') : wpM (m__law_draw [.obj p, .int n]) h Q := by
  rw [draw_is]
  refine take_wp P n0 n1 fun d a b d0 d1 => q d _ ⟨Kx.rfl'.set (.inl (by simp)), ?_⟩ d0 d1
  obtain ⟨x, y, e⟩ := P
  exact ⟨a, b, List.getElem?_set_self (List.getElem?_eq_some_iff.mp e).1⟩
end
theorem lst_of {h : Hm} {i : Nat} {ws : List Wv} (e : h[i]? = some (.lst ws)) : lstOf h i = some ws := by unfold lstOf; simp only [e]
theorem rd_of {h : Hm} {i : Nat} {ws : List Wv} (e : h[i]? = some (.lst ws)) : rdL h i = some ws := by unfold rdL; simp only [e]
theorem hand_wp {ns : List Int} {k : Int} {h : Hm} {Q : Wv → Hm → Prop} (k0 : 0 ≤ k) (k1 : k < 2 ^ 60) (l63 : ns.length ≤ 63) (q : ∀ p g, SP.Pool (h ++ g) p → h.length ≤ p → Q (.obj p) (h ++ g)) : wpM (m__law_hand [.scr ns, .int k]) h Q := by
  simp only [m__law_hand, MM.wpq, wp_mkC, startM, Ty.nm, if_true, if_false, Nat.reduceAdd, Nat.reduceSub, reduceCtorEq, wp_slS]
  have sl : ∀ lo hi, slS (.scr ns) lo hi h = .ok (.obj h.length) (h ++ [.lst ((cutW ns lo hi).map Wv.int)]) := fun _ _ => rfl
  rw [wp_ok (sl _ _)]
  try simp only [MM.wpq, wp_mkC, startM, Ty.nm, if_true, if_false, Nat.reduceAdd, Nat.reduceSub, reduceCtorEq]
  refine ⟨by rw [sizeLine_eq]; exact Nat.le_of_ble_eq_true rfl, ?_⟩
  generalize ec : cutW ns (some k) (some (k + 1)) = cs
  have lc : cs.length ≤ 63 := by
    rw [← ec]; unfold cutW
    rw [List.length_take, List.length_drop]
    omega
  rw [wp_add_lst (xs := cs.map Wv.int) (ys := [.int 0]) (lst_of (at_app at_last _)) (lst_of at_last) (by simp; omega)]
  obtain ⟨v, ev⟩ : ∃ v : Int, atI (cs.map Wv.int ++ [.int 0]) 0 = some (.int v) := by
    cases cs with
    | nil => exact ⟨0, rfl⟩
    | cons c cs =>
      refine ⟨c, ?_⟩
      have z : (0 : Int) < (cs.length : Int) + 1 + 1 := by omega
      simp [atI, ixN, z]
  rw [wp_ix_obj rdL_last ev]
  try simp only [MM.wpq, wp_mkC, startM, Ty.nm, if_true, if_false, Nat.reduceAdd, Nat.reduceSub, reduceCtorEq]
  rw [wp_mod (by decide), wp_mulI (bMul_l (by decide))]
  try simp only [MM.wpq, wp_mkC, startM, Ty.nm, if_true, if_false, Nat.reduceAdd, Nat.reduceSub, reduceCtorEq]
  rw [wp_mulI (bMul_r (by decide)), wp_mod (by decide)]
  try simp only [MM.wpq, wp_mkC, startM, Ty.nm, if_true, if_false, Nat.reduceAdd, Nat.reduceSub, reduceCtorEq]
  rw [wp_pow (by decide)]
  try simp only [MM.wpq, wp_mkC, startM, Ty.nm, if_true, if_false, Nat.reduceAdd, Nat.reduceSub, reduceCtorEq, wp_int_bl]
  rw [wp_mulI (bMul_l (by split <;> decide))]
  try simp only [MM.wpq, wp_mkC, startM, Ty.nm, if_true, if_false, Nat.reduceAdd, Nat.reduceSub, reduceCtorEq]
  refine ⟨by rw [sizeLine_eq]; exact Nat.le_of_ble_eq_true rfl, ?_⟩
  have fin : ∀ (v c : Int) (g : Hm), Q (.obj (h ++ g).length) (h ++ g ++ [.lst [.int v, .int c]]) := fun v c g => by
    rw [List.append_assoc]
    refine q _ _ ⟨v, c, ?_⟩ (by rw [List.length_append]; omega)
    rw [← List.append_assoc]
    exact at_last
  have := fin
  simp only [List.append_assoc] at this ⊢
  exact this _ _ _
def SD (k : MM.DK) : Prop := ∃ (n : Int) (x : PySem.Str) (l : Int), k = [.inl n, .inr x, .inl l] ∧ 1 ≤ n ∧ n ≤ 5 ∧ x ∈ (["a", "b", "c"] : List PySem.Str) ∧ 1 ≤ l ∧ l ≤ 2
def U30 : List MM.DK := (List.range 5).flatMap fun (n : Nat) => (["a", "b", "c"] : List PySem.Str).flatMap fun x => (List.range 2).map fun (l : Nat) => [Sum.inl ((1 : Int) + (n : Int)), Sum.inr x, Sum.inl ((1 : Int) + (l : Int))]
theorem SD.mem {k : MM.DK} (u : SD k) : k ∈ U30 := by
  obtain ⟨n, x, l, rfl, a, b, c, d, e⟩ := u
  unfold U30
  rw [List.mem_flatMap]
  refine ⟨(n - 1).toNat, List.mem_range.mpr (by omega), ?_⟩
  rw [List.mem_flatMap]
  refine ⟨x, c, List.mem_map.mpr ⟨(l - 1).toNat, List.mem_range.mpr (by omega), ?_⟩⟩
  rw [show ((1 : Int) + ((n - 1).toNat : Int)) = n by omega, show ((1 : Int) + ((l - 1).toNat : Int)) = l by omega]
theorem few30 {ks : List MM.DK} (a : Asc ks) (u : ∀ k ∈ ks, SD k) : ks.length ≤ 30 := by
  have l30 : U30.length = 30 := by decide +kernel
  rcases Nat.lt_or_ge 30 ks.length with l | l
  · have := (RQ.nodup_perm (asc_nodup a) (fun k hk => (u k hk).mem) (by omega)).length_eq
    omega
  · exact l
section
variable {h : Hm} {p : Nat} {Q : Wv → Hm → Prop}
theorem its_rng {n : Nat} (k : Nat) (h : Hm) : (sR 0 n).at_ k h = some ((List.range n).map fun (k : Nat) => Wv.int (0 + k))[k]? := by
  have := its_R (lo := 0) (n := n) (h := h) k []
  rwa [List.append_nil] at this
end
end SC

set_option maxRecDepth 100000
set_option maxHeartbeats 4000000

namespace SC
open PySem PySem.Spec PyProof.Rows L2 K01 MM GP SP SG
def numD : MM.DK → Int
  | .inl n :: _ => n
  | _ => 0
def numW : Wv → Int
  | .tup (.int n :: _) => n
  | _ => 0
def five : List Wv := [.int 3, .int (-1), .int 0, .tup [.str "gone", .int 2], .tup [.str "gone", .int 7]]
structure SV (v : Ver) : Prop where
  d : SD v.d
  asc : Asc v.k
  k : ∀ k ∈ v.k, SD k
  lt : ∀ k ∈ v.k, numD k < numD v.d
  w : v.w ∈ five
theorem SV.few {v : Ver} (s : SV v) : v.k.length ≤ 30 := few30 s.asc s.k
def bkW (vs : List Ver) : List (MM.DK × Wv) := vs.map fun v => (v.d, vW v)
structure Bk (vs : List Ver) : Prop where
  all : ∀ v ∈ vs, SV v
  nd : (vs.map (·.d)).Nodup
section
variable {h : Hm} {p : Nat} {Q : Wv → Hm → Prop}
end
end SC

set_option maxRecDepth 100000
set_option maxHeartbeats 4000000

namespace SC
open PySem PySem.Spec PyProof.Rows L2 K01 MM GP SP SG
def dsV (vs : List Ver) : List MM.DK := vs.map (·.d)
def noneKn (vs : List Ver) : Bool := !(dsV vs).any fun k => decide (k ∈ knAll vs)
def cellOf : Wv → Option (List Ver)
  | .tup ws => (ws.mapM verOf).bind fun vs => if ascB (dsV vs) = true ∧ noneKn vs = true then some vs else none
  | _ => none
def cW (vs : List Ver) : Wv := .tup (vs.map vW)
structure GC (vs : List Ver) : Prop where
  all : ∀ v ∈ vs, GV v
  asc : Asc (dsV vs)
  out : noneKn vs = true
def firstW : Wv → Wv
  | .tup (a :: _) => a
  | _ => .non
section
variable {h : Hm} {w a b c : Wv} {n : Nat} {vs : List Ver} {Q : Wv → Hm → Prop} {R : Ex → Hm → Prop}
end
end SC

set_option maxRecDepth 100000
set_option maxHeartbeats 4000000

namespace SC
open PySem PySem.Spec PyProof.Rows L2 K01 MM GP SP SG
section
variable {h : Hm} {w a b c : Wv} {n : Nat} {vs : List Ver} {v : Ver} {ρ : MM.Env} {Q : Wv → Hm → Prop} {R : Ex → Hm → Prop}

def cutK (ks : List MM.DK) (n : Int) : List MM.DK := ks.drop (max 0 ((ks.length : Int) - n)).toNat

end
end SC

set_option maxRecDepth 100000
set_option maxHeartbeats 4000000

namespace SC
open PySem PySem.Spec PyProof.Rows L2 K01 MM GP SP SG
theorem bm_wp {t : Wv → Hm → Bool} {f : FT} {o : EM} {a : AM} {ρ : MM.Env} {h : Hm} {Q : Wv → Hm → Prop} (z : wpM (o ρ) h fun w h1 => t w h1 = true ∧ wpM (a ρ) h1 fun ws h2 => wpM (f w ws) h2 Q) : wpM (eBm t f o a ρ) h Q := by
  unfold eBm
  rw [wp_bind]
  refine wp_mono z fun w h1 ⟨e, y⟩ => ?_
  obtain ⟨r, h2, e2, q⟩ := wp_bind.mpr y
  exact ⟨r, h2, (if_pos e).trans e2, q⟩
theorem is_lst {h : Hm} {i : Nat} {ws : List Wv} (e : h[i]? = some (.lst ws)) : isLst (.obj i) h = true := by unfold isLst rdL; simp only [e]; rfl
theorem wp_app {h : Hm} {i : Nat} {ws : List Wv} {x : Wv} {Q : Wv → Hm → Prop} (e : h[i]? = some (.lst ws)) (l : ws.length < 10000) : wpM (appM (.obj i) [x]) h Q ↔ Q .non (h.set i (.lst (ws ++ [x]))) := by
  refine wp_ok ?_
  unfold appM lstOf
  simp only [e]
  try rw [if_pos (by rw [sizeLine_eq]; omega)]
theorem at_L {n i : Nat} {h : Hm} {ws : List Wv} (e : rdL h i = some ws) (k : Nat) : (sL n i).at_ k h = some ws[k]? := by
  have := its_L (n := n) e k []
  rwa [List.append_nil] at this
def liveV (vs : List Ver) : List Ver := vs.filter fun v => !decide (v.d ∈ knAll vs)
section
variable {h : Hm} {i : Nat} {vs : List Ver} {Q : Wv → Hm → Prop}
theorem set_mid {g : Hm} {a b : Ob} : (h ++ a :: g).set h.length b = h ++ b :: g := by
  rw [List.set_append_right _ _ (Nat.le_refl _), Nat.sub_self]; rfl
theorem at_mid {g : Hm} {a : Ob} : (h ++ a :: g)[h.length]? = some a := by
  rw [List.getElem?_append_right (Nat.le_refl _), Nat.sub_self]; rfl
end
end SC

set_option maxRecDepth 100000
set_option maxHeartbeats 4000000

namespace SC
open PySem PySem.Spec PyProof.Rows L2 K01 MM GP SP SG
section
variable {h : Hm} {ρ : MM.Env}
end

def byD (vs : List Ver) (k : MM.DK) : Option Ver := vs.reverse.find? fun v => decide (v.d = k)
def jRow (v : Ver) : MM.DK × Wv := (v.d, vW v)
def jW (vs : List Ver) : List (MM.DK × Wv) := putAll [] (vs.map jRow)
def jV (vs : List Ver) : List Ver := (sortK (dsV vs)).filterMap fun k => if k ∈ knAll vs then none else byD vs k
end SC

set_option maxRecDepth 100000
set_option maxHeartbeats 4000000

namespace SC
open PySem PySem.Spec PyProof.Rows L2 K01 MM GP SP SG
structure Fw (vs : List Ver) : Prop where
  len : vs.length ≤ 900
  kn : ∀ v ∈ vs, v.k.length ≤ 900
section
variable {h : Hm} {i : Nat} {vs : List Ver} {Q : Wv → Hm → Prop}
def allK (vs : List Ver) : List MM.DK := sortK (dsV vs ++ knAll vs)
def worthsV (vs : List Ver) : List Wv := (vs.filter fun v => !markB v.w).map (·.w)
end
end SC

set_option maxRecDepth 100000
set_option maxHeartbeats 400000

namespace SC
open PySem PySem.Spec PyProof.Rows L2 K01 MM GP SP SG
structure Sh (n k : Nat) (d : PyData) : Prop where
  s : d.showable = true
  l : d.shown.length ≤ n
  dp : d.depth ≤ k
  nd : d.hasDict = false
theorem Sh.mono {n m k j : Nat} {d : PyData} (a : Sh n k d) (h1 : n ≤ m) (h2 : k ≤ j) : Sh m j d := ⟨a.s, Nat.le_trans a.l h1, Nat.le_trans a.dp h2, a.nd⟩
def shB (n k : Nat) (d : PyData) : Bool := d.showable && (decide (d.shown.length ≤ n) && (decide (d.depth ≤ k) && !d.hasDict))
end SC

set_option maxRecDepth 100000
set_option maxHeartbeats 1000000

namespace SC
open PySem PySem.Spec PyProof.Rows L2 K01 MM GP SP SG
section
variable {h g : Hm} {C f : PySem.Str} {fs : List (PySem.Str × Wv)} {v : Wv}
theorem setF_mid {Q : Unit → Hm → Prop} (l : fs.length < 1000) : wpM (setF C f (.obj h.length) v) (h ++ .ins C fs :: g) Q ↔ Q () (h ++ .ins C (putW f v fs) :: g) := by
  rw [wp_setF at_mid l, set_mid]
end
abbrev Tgt := PySem.Str × Wv
def tW (a : Tgt) : Wv := .tup [.str a.1, a.2]
def anW (ans : List (PySem.Str × List Ver)) : List (Key × Wv) := ans.map fun a => (.inr a.1, cW a.2)
abbrev Tl := Option (List Wv × List MM.DK)
def tlW : Tl → Wv
  | none => .non
  | some (ws, ks) => .tup [.tup ws, kn ks]
def rdF (t d : Nat) (need : Int) (jn tl : Wv) : List (PySem.Str × Wv) := [("own_word", .str "key"), ("own_targets", .obj t), ("own_need", .int need), ("own_answers", .obj d), ("own_joined", jn), ("own_telling", tl)]
structure RdAt (h : Hm) (i t d : Nat) (ts : List Tgt) (need : Int) (ans : List (PySem.Str × List Ver)) (jn : List Ver) (tl : Tl) : Prop where
  ob : h[i]? = some (.ins "Reading" (rdF t d need (cW jn) (tlW tl)))
  tg : h[t]? = some (.lst (ts.map tW))
  an : h[d]? = some (.dk (anW ans))
section
variable {h : Hm} {i t d j : Nat} {ts : List Tgt} {need : Int} {ans : List (PySem.Str × List Ver)} {jn : List Ver} {tl : Tl} {Q : Wv → Hm → Prop}
theorem RdAt.kx {S : List Nat} {h' : Hm} (A : RdAt h i t d ts need ans jn tl) (k : Kx S h h') (n : i ∉ S ∧ t ∉ S ∧ d ∉ S) : RdAt h' i t d ts need ans jn tl := ⟨k.get A.ob n.1, k.get A.tg n.2.1, k.get A.an n.2.2⟩
theorem RdAt.app (A : RdAt h i t d ts need ans jn tl) (g : Hm) : RdAt (h ++ g) i t d ts need ans jn tl := ⟨at_app A.ob g, at_app A.tg g, at_app A.an g⟩
theorem listOf_lst {ws : List Wv} (e : h[j]? = some (.lst ws)) : wpM (MM.listOf [.obj j]) h Q ↔ Q (.obj h.length) (h ++ [.lst ws]) := wp_ok (by
  unfold MM.listOf dsq rdL
  simp only [e]
  rfl)
theorem at_1 {a b : Ob} {g : Hm} : (h ++ a :: b :: g)[h.length + 1]? = some b := by
  rw [List.getElem?_append_right (by omega), Nat.add_sub_cancel_left]; rfl
theorem at_2 {a b c : Ob} {g : Hm} : (h ++ a :: b :: c :: g)[h.length + 2]? = some c := by
  rw [List.getElem?_append_right (by omega), Nat.add_sub_cancel_left]; rfl

end
end SC

set_option maxRecDepth 100000
set_option maxHeartbeats 1000000

namespace SC
open PySem PySem.Spec PyProof.Rows L2 K01 MM GP SP SG
section
variable {κ : Type} [DecidableEq κ]
end
def nmT (ts : List Tgt) : List PySem.Str := ts.map (·.1)
def nmA (ans : List (PySem.Str × List Ver)) : List PySem.Str := ans.map (·.1)
def cellA (ans : List (PySem.Str × List Ver)) (x : PySem.Str) : List Ver := ((ans.find? fun a => decide (a.1 = x)).map (·.2)).getD []
def homeT (ts : List Tgt) (x : PySem.Str) : Wv := ((ts.find? fun a => decide (a.1 = x)).map (·.2)).getD .non
def tK (a : Tgt) : Key × Wv := (.inr a.1, a.2)
section
variable {h : Hm} {i t d j : Nat} {x : PySem.Str} {ts : List Tgt} {need : Int} {ans : List (PySem.Str × List Ver)} {jn : List Ver} {tl : Tl} {Q : Wv → Hm → Prop}
theorem awaited_wp {l : Nat} (et : h[t]? = some (.lst (ts.map tW))) (el : h[l]? = some (.lst ((nmA ans).map Wv.str))) (few : ts.length < 1000) (q : ∀ g, Q (.bl (decide (x ∈ nmT ts) && !decide (x ∈ nmA ans))) (h ++ g)) : wpM (m_is_awaited [.obj t, .obj l, .str x]) h Q := by
  simp only [m_is_awaited, MM.wpq, wp_mkC, startM, Ty.nm, if_true, if_false, Nat.reduceAdd, Nat.reduceSub, reduceCtorEq]
  rw [wp_src_obj (rd_of et)]
  rw [lc_const (its := ts.map tW) (fun _ => true) firstW (at_L (rd_of et)) (by simp [sL]) (by rw [List.length_map]; omega) (fun u hu => by
    obtain ⟨a, ha, rfl⟩ := List.mem_map.mp hu
    simp only [MM.wpq, wp_mkC, startM, Ty.nm, if_true, if_false, Nat.reduceAdd, Nat.reduceSub, reduceCtorEq, wipeM, tW]
    exact fun _ => rfl), filter_yes]
  have em : (ts.map tW).map firstW = (nmT ts).map Wv.str := by
    unfold nmT
    rw [List.map_map, List.map_map]; rfl
  rw [em, wp_in_strs (ys := nmT ts) (by exact rdL_last)]
  refine ⟨_, rfl, ?_⟩
  by_cases m : x ∈ nmT ts
  · rw [decide_eq_true m] at q ⊢
    simp only [if_true, MM.wpq, wp_mkC, startM, Ty.nm, if_true, if_false, Nat.reduceAdd, Nat.reduceSub, reduceCtorEq]
    rw [wp_in_strs (ys := nmA ans) (by exact rdL_app (rd_of el) _)]
    exact q _
  · rw [decide_eq_false m] at q ⊢
    simp only [MM.wpq, wp_mkC, startM, Ty.nm, if_true, if_false, Nat.reduceAdd, Nat.reduceSub, reduceCtorEq]
    exact q _
noncomputable def unl (ts : List Tgt) (ans : List (PySem.Str × List Ver)) (jn : List Ver) (ys : List PySem.Str) : List Wv := (ys.filter fun y => !sameW (cW (cellA ans y)) (cW jn)).map fun y => .tup [.str y, homeT ts y]
end
end SC

set_option maxRecDepth 100000
set_option maxHeartbeats 4000000

namespace GR26
open PySem PySem.Spec PyProof.Rows L2 K01 MM GP SP SG SC
def t1 : SM := (sSet 3 (eLc (iSeqM (eSl (eVar 0) (oSome (eVar 1)) oNone)) [6] (gN 6) (tTru (eCallL [(("law", [0, 5], [3]), l_law_0), (("law", [0, 7], [1, 0, 3]), l_law_1)] 2 (aCons (eVar 6) aNil))) (eVar 6)))
def t2 : SM := (sSet 4 (eLst aNil))
def t3i : IM := (iSeqM (eSl (eVar 0) oNone (oSome (eVar 1))))
def t3_1 : SM := (sIf (tTru (eCallL [(("law", [0, 5], [3]), l_law_0), (("law", [0, 7], [1, 0, 3]), l_law_1)] 2 (aCons (eVar 5) aNil))) (sExpr (eBm isLst appM (eVar 4) (aCons (eTup (aCons (eVar 5) (aCons (eC .non) aNil))) aNil))) (sIf (tTru (eVar 3)) (sExpr (eBm isLst appM (eVar 4) (aCons (eTup (aCons (eBm isLst pop0M (eVar 3) (aCons (eC (.int 0)) aNil)) (aCons (eVar 5) aNil))) aNil))) sNil))
def t3b : SM := t3_1
def t3 : SM := sFor t3i (gN 5) t3b
def t4 : SM := (sRet (eVar 4))
theorem t_row : m_targets = fun_ 7 3 (sSeq t1 (sSeq t2 (sSeq t3 t4))) := rfl
def d1 : SM := (sSet 3 (eLc (iSeqM (eSl (eVar 0) (oSome (eVar 1)) oNone)) [5] (gN 5) (tOf (eOp (inM true) (eVar 5) (eVar 2))) (eVar 5)))
def d2 : SM := (sSet 4 (eLst aNil))
def d3i : IM := (iSeqM (eSl (eVar 0) oNone (oSome (eVar 1))))
def d3_1 : SM := (sIf (tOf (eOp (inM true) (eVar 5) (eVar 2))) (sExpr (eBm isLst appM (eVar 4) (aCons (eTup (aCons (eVar 5) (aCons (eC .non) aNil))) aNil))) (sIf (tOf (eOp (eqB true) (eVar 3) (eLst aNil))) (sSeq (sExpr (eBm isLst appM (eVar 4) (aCons (eTup (aCons (eOp ixM (eVar 3) (eC (.int 0))) (aCons (eVar 5) aNil))) aNil))) (sSet 3 (eSl (eVar 3) (oSome (eC (.int 1))) oNone))) sNil))
def d3b : SM := d3_1
def d3 : SM := sFor d3i (gN 5) d3b
def d4 : SM := (sRet (eVar 4))
theorem d_row : m__law_due = fun_ 6 3 (sSeq d1 (sSeq d2 (sSeq d3 d4))) := rfl
def r1i : IM := (iArgs rng1 (aCons (eC (.int 2)) aNil))
def r1_1 : SM := (sSet 5 (eLst (aCons (eMeth "Writing" "targets" m_Writing_targets (eVar 0) aNil) (aCons (eMeth "Writing" "held" m_Writing_held (eVar 0) aNil) aNil))))
def r1_2 : SM := (sIf (tOrM (tOf (eOp (eqB true) (eVar 5) (eLst (aCons (eVar 1) (aCons (eVar 2) aNil))))) (tOf (eOp (eqB true) (eCall repB (aCons (eMeth "Writing" "is_told" m_Writing_is_told (eVar 0) aNil) aNil)) (eCall repB (aCons (eOp geI (eCall lenM (aCons (eVar 2) aNil)) (eVar 3)) aNil))))) (sRet (eC (.bl false))) sNil)
def r1_3 : SM := (sExpr (eBm isLst appM (eOp ixM (eVar 5) (eC (.int 0))) (aCons (eC .non) aNil)))
def r1_4 : SM := (sExpr (eBm isLst appM (eOp ixM (eVar 5) (eC (.int 1))) (aCons (eC (.str "x")) aNil)))
def r1b : SM := sSeq r1_1 (sSeq r1_2 (sSeq r1_3 r1_4))
def r1 : SM := sFor r1i (gN 4) r1b
def r2 : SM := (sRet (eAnd (eOp (eqB false) (eMeth "Writing" "word" m_Writing_word (eVar 0) aNil) (eC (.str "key"))) (eOp (eqB false) (eMeth "Writing" "version" m_Writing_version (eVar 0) aNil) (eTup (aCons (eTup (aCons (eC (.int 2)) (aCons (eC (.str "a")) (aCons (eC (.int 1)) aNil)))) (aCons (eTup aNil) (aCons (eC (.int 5)) aNil)))))))
theorem r_row : m__law_right = fun_ 6 4 (sSeq r1 r2) := rfl
def l1i : IM := (iArgs rng1 (aCons (eCall max2 (aCons (eC (.int 1)) (aCons (eCall min2 (aCons (eCall lenM (aCons (eVar 0) aNil)) (aCons (eC (.int 10)) aNil))) aNil))) aNil))
def l1_1 : SM := (sSet 2 (eCall m__law_hand (aCons (eVar 0) (aCons (eVar 1) aNil))))
def l1_2 : SM := (sSet 3 (eLst aNil))
def l1_3i : IM := (iStrM (eSl (eC (.str "abcdefgh")) oNone (oSome (eOp addM (eC (.int 1)) (eCall m__law_draw (aCons (eVar 2) (aCons (eC (.int 8)) aNil)))))))
def l1_3_1 : SM := (sExpr (eBm isLst insM (eVar 3) (aCons (eCall m__law_draw (aCons (eVar 2) (aCons (eOp addM (eCall lenM (aCons (eVar 3) aNil)) (eC (.int 1))) aNil))) (aCons (eVar 4) aNil))))
def l1_3b : SM := l1_3_1
def l1_3 : SM := sFor l1_3i (gN 4) l1_3b
def l1_4 : SM := (sSet 5 (eOp addM (eC (.int 1)) (eCall m__law_draw (aCons (eVar 2) (aCons (eCall min2 (aCons (eC (.int 5)) (aCons (eCall lenM (aCons (eVar 3) aNil)) aNil))) aNil)))))
def l1_5 : SM := (sSet 6 (eLc (iSeqM (eVar 3)) [4] (gN 4) (tOf (eOp (eqB false) (eCall m__law_draw (aCons (eVar 2) (aCons (eC (.int 3)) aNil))) (eC (.int 0)))) (eVar 4)))
def l1_6 : SM := (sSet 7 (eCallLam m_targets 0 "law" ("law", [0, 5], [3]) [6] (aCons (eVar 3) (aCons (eVar 5) aNil))))
def l1_7 : SM := (sSet 8 (eLc (iSeqM (eSl (eVar 3) oNone (oSome (eVar 5)))) [4] (gN 4) tYesM (eTup (aCons (eVar 4) (aCons (eC .non) aNil)))))
def l1_8 : SM := (sIf (tOrM (tOf (eOp (eqB true) (eVar 7) (eCall m__law_due (aCons (eVar 3) (aCons (eVar 5) (aCons (eVar 6) aNil)))))) (tOf (eOp (eqB true) (eCallLam m_targets 0 "law" ("law", [0, 7], [1, 0, 3]) [] (aCons (eVar 3) (aCons (eVar 5) aNil))) (eVar 8)))) (sRet (eC (.bl false))) sNil)
def l1_9 : SM := (sSet 9 (eOp addM (eC (.int 1)) (eCall m__law_draw (aCons (eVar 2) (aCons (eC (.int 5)) aNil)))))
def l1_10 : SM := (sSet 10 (eCall listOf (aCons (eVar 7) aNil)))
def l1_11 : SM := (sSet 11 (eLst (aCons (eLst (aCons (eCall (mkC "Writing" m_Writing___init__) (aCons (eC (.str "key")) (aCons (eTup (aCons (eTup (aCons (eC (.int 2)) (aCons (eC (.str "a")) (aCons (eC (.int 1)) aNil)))) (aCons (eTup aNil) (aCons (eC (.int 5)) aNil)))) (aCons (eVar 10) (aCons (eVar 9) aNil))))) (aCons (eLst aNil) aNil))) aNil)))
def l1_12 : SM := (sExpr (eBm0 isLst clrM (eVar 10)))
def l1_13i : IM := (iArgs rng1 (aCons (eC (.int 14)) aNil))
def l1_13_1 : SM := (sAsg (eOp ixM (eVar 11) (eCall m__law_draw (aCons (eVar 2) (aCons (eCall lenM (aCons (eVar 11) aNil)) aNil)))) (gL 2 (gsCons (gN 13) (gsCons (gN 14) gsNil))))
def l1_13_2 : SM := (sSet 4 (eOp ixM (eOp addM (eVar 3) (eLst (aCons (eC (.str "zz")) aNil))) (eCall m__law_draw (aCons (eVar 2) (aCons (eOp addM (eCall lenM (aCons (eVar 3) aNil)) (eC (.int 1))) aNil)))))
def l1_13_3 : SM := (sSet 15 (eC (.bl false)))
def l1_13_4t : TM := (tAndM (tOf (eOp (inM false) (eVar 4) (eLc (iSeqM (eVar 7)) [16] (gN 16) tYesM (eOp ixM (eVar 16) (eC (.int 0)))))) (tOf (eOp (inM true) (eVar 4) (eVar 14))))
def l1_13_4_1 : SM := (sExpr (eBm isLst appM (eVar 14) (aCons (eVar 4) aNil)))
def l1_13_4_2 : SM := (sSet 15 (eOp (eqB false) (eCall lenM (aCons (eVar 14) aNil)) (eVar 9)))
def l1_13_4b : SM := sSeq l1_13_4_1 l1_13_4_2
def l1_13_4 : SM := sIf l1_13_4t l1_13_4b sNil
def l1_13_5 : SM := (sIf (tOf (eOp (eqB true) (eCall repB (aCons (eMeth "Writing" "answered" m_Writing_answered (eVar 13) (aCons (eVar 4) aNil)) aNil)) (eCall repB (aCons (eVar 15) aNil)))) (sRet (eC (.bl false))) sNil)
def l1_13_6 : SM := (sIf (tOf (eOp (eqB true) (eLc (iSeqM (eVar 11)) [17] (gN 17) (tNotM (tTru (eCall m__law_right (aCons (eOp ixM (eVar 17) (eC (.int 0))) (aCons (eVar 7) (aCons (eOp ixM (eVar 17) (eC (.int 1))) (aCons (eVar 9) aNil))))))) (eC (.int 1))) (eLst aNil))) (sRet (eC (.bl false))) sNil)
def l1_13_7 : SM := (sIf (tAndM (tOf (eOp (eqB false) (eCall m__law_draw (aCons (eVar 2) (aCons (eC (.int 5)) aNil))) (eC (.int 0)))) (tOf (eOp ltI (eCall lenM (aCons (eVar 11) aNil)) (eC (.int 4))))) (sExpr (eBm isLst appM (eVar 11) (aCons (eLst (aCons (eMeth "Writing" "twin" m_Writing_twin (eVar 13) aNil) (aCons (eCall listOf (aCons (eVar 14) aNil)) aNil))) aNil))) sNil)
def l1_13b : SM := sSeq l1_13_1 (sSeq l1_13_2 (sSeq l1_13_3 (sSeq l1_13_4 (sSeq l1_13_5 (sSeq l1_13_6 l1_13_7)))))
def l1_13 : SM := sFor l1_13i (gN 12) l1_13b
def l1b : SM := sSeq l1_1 (sSeq l1_2 (sSeq l1_3 (sSeq l1_4 (sSeq l1_5 (sSeq l1_6 (sSeq l1_7 (sSeq l1_8 (sSeq l1_9 (sSeq l1_10 (sSeq l1_11 (sSeq l1_12 l1_13)))))))))))
def l1 : SM := sFor l1i (gN 1) l1b
def l2 : SM := (sRet (eC (.bl true)))
theorem l_row : m_law = fun_ 18 1 (sSeq l1 l2) := rfl
end GR26

set_option maxRecDepth 100000
set_option maxHeartbeats 1000000

namespace GR26
open PySem PySem.Spec PyProof.Rows L2 K01 MM GP SP SG SC
theorem wp_eCallL {tab : List (LKey × (List Wv → FM))} {i : Nat} {a : AM} {ρ : MM.Env} {h : Hm} {Q : Wv → Hm → Prop} : wpM (eCallL tab i a ρ) h Q ↔ ∃ w, ρ[i]? = some (some w) ∧ (∃ j k cs, w = .obj j ∧ h[j]? = some (.fn k cs)) ∧ wpM (a ρ) h fun ws h2 => wpM (callL tab w ws) h2 Q := by
  unfold eCallL
  rw [wp_bind, wp_var]
  refine exists_congr fun w => and_congr_right fun e => ?_
  rw [wp_bind]
  constructor
  · rintro ⟨u, h1, e1, z⟩
    obtain ⟨rfl, j, k, cs, rfl, e2⟩ := isFn_ok e1
    exact ⟨⟨j, k, cs, rfl, e2⟩, by rw [wp_bind] at z; exact z⟩
  · rintro ⟨⟨j, k, cs, rfl, e2⟩, z⟩
    refine ⟨(), h, by unfold isFn; simp only [e2], ?_⟩
    show wpM _ _ _
    rw [wp_bind]
    exact z
theorem wp_callL {tab : List (LKey × (List Wv → FM))} {j : Nat} {k : LKey} {cs ws : List Wv} {m : List Wv → FM} {h : Hm} {Q : Wv → Hm → Prop} (e : h[j]? = some (.fn k cs)) (hm : tab.lookup k = some m) (z : wpM (m cs ws) (h.set j .dead) fun r h' => Q r (h'.set j (.fn k cs))) : wpM (callL tab (.obj j) ws) h Q := by
  obtain ⟨r, h', e1, q⟩ := z
  refine ⟨r, _, ?_, q⟩
  unfold callL
  simp only [e, hm, e1]
theorem set_back {h : Hm} {j : Nat} {o o' : Ob} (e : h[j]? = some o) : (h.set j o').set j o = h := by
  rw [List.set_set]; exact set_id e
abbrev TAB : List (LKey × (List Wv → FM)) := [(("law", [0, 5], [3]), l_law_0), (("law", [0, 7], [1, 0, 3]), l_law_1)]
def HereOk (h : Hm) (fn : Nat) (here : PySem.Str → Bool) : Prop := (∃ k cs, h[fn]? = some (.fn k cs)) ∧ ∀ (x : PySem.Str) (h1 : Hm) (Q : Wv → Hm → Prop), Kx [] h h1 → Q (.bl (here x)) h1 → wpM (callL TAB (.obj fn) [.str x]) h1 Q
theorem HereOk.kx {h h1 : Hm} {fn : Nat} {here : PySem.Str → Bool} (a : HereOk h fn here) (k : Kx [] h h1) : HereOk h1 fn here := by
  obtain ⟨⟨ky, cs, e⟩, f⟩ := a
  exact ⟨⟨ky, cs, k.get e (by simp)⟩, fun x h2 Q k2 q => f x h2 Q (k.trans k2) q⟩
theorem here_0 {h : Hm} {fn a6 : Nat} {aw : List PySem.Str} (e : h[fn]? = some (.fn ("law", [0, 5], [3]) [.obj a6])) (ea : h[a6]? = some (.lst (aw.map .str))) : HereOk h fn fun x => !decide (x ∈ aw) := by
  refine ⟨⟨_, _, e⟩, fun x h1 Q k q => ?_⟩
  have e1 := k.get e (by simp)
  have ea1 := k.get ea (by simp)
  have ne : a6 ≠ fn := fun z => by rw [z, e] at ea; cases ea
  refine wp_callL (m := l_law_0) e1 rfl ?_
  show wpM ((eOp (inM true) (eVar 0) (eVar 1)) [some (.str x), some (.obj a6)]) _ _
  simp only [MM.wpq, wp_mkC, startM, Ty.nm, if_true, if_false, Nat.reduceAdd, Nat.reduceSub, reduceCtorEq]
  rw [wp_in_strs (ys := aw) (by
    unfold dsq rdL
    simp only [List.getElem?_set_ne (Ne.symm ne), ea1])]
  rw [set_back e1]
  exact q
theorem here_1 {h : Hm} {fn : Nat} (e : h[fn]? = some (.fn ("law", [0, 7], [1, 0, 3]) [])) : HereOk h fn fun _ => true := by
  refine ⟨⟨_, _, e⟩, fun x h1 Q k q => ?_⟩
  have e1 := k.get e (by simp)
  refine wp_callL (m := l_law_1) e1 (by rfl) ?_
  show wpM ((eC (.bl true)) [some (.str x)]) _ _
  simp only [MM.wpq, wp_mkC, startM, Ty.nm, if_true, if_false, Nat.reduceAdd, Nat.reduceSub, reduceCtorEq]
  rw [set_back e1]
  exact q
def tgtF (here : PySem.Str → Bool) : List PySem.Str → List PySem.Str → List Tgt
  | [], _ => []
  | y :: r, sp => if here y = true then (y, .non) :: tgtF here r sp else match sp with
    | [] => tgtF here r []
    | z :: sp' => (z, .str y) :: tgtF here r sp'
theorem sz {n : Nat} (l : n ≤ 1000000) : n ≤ sizeLine := by rw [sizeLine_eq]; omega
theorem tgtF_cons (here : PySem.Str → Bool) (y : PySem.Str) (r sp : List PySem.Str) : tgtF here (y :: r) sp = if here y = true then (y, .non) :: tgtF here r sp else match sp with
    | [] => tgtF here r []
    | z :: sp' => (z, .str y) :: tgtF here r sp' := rfl
theorem tgtF_len (here : PySem.Str → Bool) : ∀ (r sp : List PySem.Str), (tgtF here r sp).length ≤ r.length
  | [], _ => by simp [tgtF]
  | y :: r, sp => by
    unfold tgtF
    split
    · have := tgtF_len here r sp
      simp; omega
    · split
      · have := tgtF_len here r []
        simp; omega
      · next z sp' =>
        have := tgtF_len here r sp'
        simp; omega
theorem tgtF_all (r sp : List PySem.Str) : tgtF (fun _ => true) r sp = r.map fun y => (y, .non) := by
  induction r with
  | nil => rfl
  | cons y r ih => unfold tgtF; rw [if_pos rfl, ih]; rfl
theorem cut_from {α : Type} {xs : List α} {c : Nat} (l : c ≤ xs.length) : cutW xs (some (c : Int)) none = xs.drop c := by
  unfold cutW
  have e : HT.sIx xs.length 0 (some (c : Int)) = c := by
    unfold HT.sIx
    simp only []
    rw [if_neg (by omega)]
    omega
  have e2 : HT.sIx xs.length xs.length none = xs.length := rfl
  rw [e, e2, List.take_of_length_le (by rw [List.length_drop]; omega)]
abbrev Et (o3 : Nat) (c : Int) (fn : Nat) (a3 a4 a5 a6 : Option Wv) : MM.Env := [some (.obj o3), some (.int c), some (.obj fn), a3, a4, a5, a6]
section
variable {h : Hm} {o3 fn : Nat} {order : List PySem.Str} {c : Nat} {here : PySem.Str → Bool} {Q : Wv → Hm → Prop}
def strB (B : PySem.Str → Bool) : Wv → Bool
  | .str x => B x
  | _ => false
theorem filt_str (B : PySem.Str → Bool) (xs : List PySem.Str) : ((xs.map Wv.str).filter (strB B)).map id = (xs.filter B).map .str := by
  induction xs with
  | nil => rfl
  | cons x xs ih =>
    rw [List.map_cons]
    cases hb : B x with
    | true =>
      rw [List.filter_cons_of_pos (by exact hb), List.filter_cons_of_pos hb, List.map_cons, List.map_cons, ih]; rfl
    | false =>
      rw [List.filter_cons_of_neg (by show ¬ (B x = true); rw [hb]; exact Bool.false_ne_true), List.filter_cons_of_neg (by rw [hb]; exact Bool.false_ne_true), ih]
theorem t1_wp {a3 a4 a5 a6 : Option Wv} {Q : Fl × MM.Env → Hm → Prop} (eo : h[o3]? = some (.lst (order.map .str))) (hk : HereOk h fn here) (lc : c ≤ order.length) (few : order.length ≤ 1000) (q : ∀ s h', Kx [] h h' → h.length ≤ s → h'[s]? = some (.lst (((order.drop c).filter here).map .str)) → Q (.nx, Et o3 c fn (some (.obj s)) a4 a5 a6) h') : wpM (t1 (Et o3 c fn a3 a4 a5 a6)) h Q := by
  simp only [t1, MM.wpq, wp_mkC, startM, Ty.nm, if_true, if_false, Nat.reduceAdd, Nat.reduceSub, reduceCtorEq]
  rw [wp_sl_obj (rd_of eo), cutW_map, cut_from lc]
  have e1 : ∀ g, (h ++ [Ob.lst ((order.drop c).map Wv.str)] ++ g)[h.length]? = some (.lst ((order.drop c).map Wv.str)) := fun g => at_app MM.at_last g
  have e2 := e1 []
  rw [List.append_nil] at e2
  rw [wp_src_obj (rd_of e2)]
  rw [lc_const (its := (order.drop c).map Wv.str) (strB here) id (fun k => by simp only [sL, rd_of e2, Option.map_some]) (by simp [sL]) (by rw [List.length_map, List.length_drop]; omega) (fun w hw => ?_)]
  · rw [filt_str]
    refine q _ _ ((Kx.rfl'.app _).app _) (by simp) MM.at_last
  · obtain ⟨x, _, rfl⟩ := List.mem_map.mp hw
    have hk1 := hk.kx (Kx.rfl'.app [Ob.lst ((order.drop c).map Wv.str)])
    obtain ⟨ky, cs, ef⟩ := hk1.1
    simp only [MM.wpq, wp_mkC, startM, Ty.nm, if_true, if_false, Nat.reduceAdd, Nat.reduceSub, reduceCtorEq, wipeM, wp_eCallL]
    refine ⟨⟨_, _, _, rfl, ef⟩, ?_⟩
    refine hk1.2 x _ _ Kx.rfl' ?_
    try simp only [MM.wpq, wp_mkC, startM, Ty.nm, if_true, if_false, Nat.reduceAdd, Nat.reduceSub, reduceCtorEq]
    exact ⟨rfl, fun _ => rfl⟩
structure Lp (h0 h : Hm) (r s : Nat) (acc : List Tgt) (sp : List PySem.Str) : Prop where
  kx : Kx [] h0 h
  rs : h[r]? = some (.lst (acc.map tW))
  sp : h[s]? = some (.lst (sp.map .str))
  ne : r ≠ s
  lo : h0.length ≤ r ∧ h0.length ≤ s
theorem isl {i : Nat} {ws : List Wv} {h : Hm} (e : h[i]? = some (.lst ws)) : isLst (.obj i) h = true := is_lst e
theorem wp_strs_tru {i : Nat} {sp : List PySem.Str} {Q : Bool → Hm → Prop} {h : Hm} (e : h[i]? = some (.lst (sp.map .str))) : wpM (truM (.obj i)) h Q ↔ Q (!sp.isEmpty) h := by
  rw [wp_tru_lst e]
  cases sp <;> rfl
theorem t3_wp {a5 a6 : Option Wv} {s r : Nat} {sp : List PySem.Str} {Q : Fl × MM.Env → Hm → Prop} {h0 : Hm} (eo : h[o3]? = some (.lst (order.map .str))) (hk : HereOk h fn here) (lc : c ≤ order.length) (few : order.length ≤ 1000) (L : Lp h0 h r s [] sp) (oo : o3 < h0.length) (of : fn < h0.length) (k0 : HereOk h0 fn here)
    (q : ∀ h' b5, Kx [] h0 h' → h'[r]? = some (.lst ((tgtF here (order.take c) sp).map tW)) → Q (.nx, Et o3 c fn (some (.obj s)) (some (.obj r)) b5 a6) h') : wpM (t3 (Et o3 c fn (some (.obj s)) (some (.obj r)) a5 a6)) h Q := by
  unfold t3
  rw [wp_for]
  simp only [t3i, MM.wpq, wp_mkC, startM, Ty.nm, if_true, if_false, Nat.reduceAdd, Nat.reduceSub, reduceCtorEq]
  rw [wp_sl_obj (rd_of eo), cutW_map, cutW_to lc]
  have e2 : (h ++ [Ob.lst ((order.take c).map Wv.str)])[h.length]? = some (.lst ((order.take c).map Wv.str)) := MM.at_last
  rw [wp_src_obj (rd_of e2)]
  have lh := L.kx.len
  have L1 : Lp h0 (h ++ [Ob.lst ((order.take c).map Wv.str)]) r s [] sp := ⟨L.kx.app _, at_app L.rs _, at_app L.sp _, L.ne, L.lo⟩
  have lr := (List.getElem?_eq_some_iff.mp L.rs).1
  have ls := (List.getElem?_eq_some_iff.mp L.sp).1
  generalize h ++ [Ob.lst ((order.take c).map Wv.str)] = hb at e2 L1 ⊢
  generalize hbl : h.length = bl at e2 ⊢
  have lt : (order.take c).length = c := by rw [List.length_take]; omega
  refine for_wp (its := (order.take c).map Wv.str) (fun k ρ h1 => (∃ acc sp1, Lp h0 h1 r s acc sp1 ∧ tgtF here (order.take c) sp = acc ++ tgtF here ((order.take c).drop k) sp1 ∧ acc.length ≤ k) ∧ h1[bl]? = some (.lst ((order.take c).map Wv.str)) ∧ ∃ b5, ρ = Et o3 c fn (some (.obj s)) (some (.obj r)) b5 a6) (fun k ρ h1 z => at_L (rd_of z.2.1) k) (fun k w ρ h1 ek z => ?_) (fun ρ h1 z => ?_) _ 0 _ _ (by simp [sL]) (Nat.zero_le _) ⟨⟨[], sp, L1, rfl, by simp⟩, e2, a5, rfl⟩
  · obtain ⟨⟨acc, sp1, L, et, la⟩, eb, b5, rfl⟩ := z
    rw [List.getElem?_map] at ek
    obtain ⟨y, ey, rfl⟩ := Option.map_eq_some_iff.mp ek
    have kl := (List.getElem?_eq_some_iff.mp ey).1
    have ed : (order.take c).drop k = y :: (order.take c).drop (k + 1) := by
      rw [List.drop_eq_getElem_cons kl]
      congr 1
      exact (List.getElem?_eq_some_iff.mp ey).2
    have hk1 := k0.kx L.kx
    obtain ⟨ky, cs, ef⟩ := hk1.1
    have put : ∀ (b : Tgt) (sp2 : List PySem.Str) (h2 : Hm), Lp h0 h2 r s acc sp2 → h2[bl]? = some (.lst ((order.take c).map Wv.str)) → Lp h0 (h2.set r (.lst (acc.map tW ++ [tW b]))) r s (acc ++ [b]) sp2 ∧ (h2.set r (.lst (acc.map tW ++ [tW b])))[bl]? = some (.lst ((order.take c).map Wv.str)) := fun b sp2 h2 L2 eb2 => by
      refine ⟨⟨L2.kx.set (.inr L2.lo.1), by rw [List.getElem?_set_self (List.getElem?_eq_some_iff.mp L2.rs).1, List.map_append]; rfl, by rw [List.getElem?_set_ne L2.ne]; exact L2.sp, L2.ne, L2.lo⟩, ?_⟩
      rw [List.getElem?_set_ne (fun z => by omega)]
      exact eb2
    rw [wp_gN]
    simp only [t3b, t3_1, MM.wpq, wp_mkC, startM, Ty.nm, if_true, if_false, Nat.reduceAdd, Nat.reduceSub, reduceCtorEq, wp_eCallL]
    refine ⟨⟨_, _, _, rfl, ef⟩, ?_⟩
    refine hk1.2 y _ _ Kx.rfl' ?_
    rw [ed, tgtF_cons] at et
    try simp only [MM.wpq, wp_mkC, startM, Ty.nm, if_true, if_false, Nat.reduceAdd, Nat.reduceSub, reduceCtorEq]
    have l9 : (acc.map tW).length < 10000 := by rw [List.length_map]; omega
    cases hy : here y with
    | true =>
      simp only [hy, if_true] at et
      simp only [MM.wpq, wp_mkC, startM, Ty.nm, if_true, if_false, Nat.reduceAdd, Nat.reduceSub, reduceCtorEq]
      refine bm_wp ?_
      simp only [MM.wpq, wp_mkC, startM, Ty.nm, if_true, if_false, Nat.reduceAdd, Nat.reduceSub, reduceCtorEq]
      refine ⟨isl L.rs, sz (by simp), ?_⟩
      rw [wp_app L.rs l9]
      try simp only [MM.wpq, wp_mkC, startM, Ty.nm, if_true, if_false, Nat.reduceAdd, Nat.reduceSub, reduceCtorEq]
      obtain ⟨L2, eb2⟩ := put (y, .non) sp1 h1 L eb
      exact ⟨⟨acc ++ [((y, .non) : Tgt)], sp1, L2, by rw [et, List.append_assoc]; rfl, by simp; omega⟩, eb2, _, rfl⟩
    | false =>
      simp only [hy, Bool.false_eq_true, if_false] at et
      simp only [MM.wpq, wp_mkC, startM, Ty.nm, if_true, if_false, Nat.reduceAdd, Nat.reduceSub, reduceCtorEq]
      rw [wp_strs_tru L.sp]
      cases sp1 with
      | nil =>
        simp only [List.isEmpty_nil, Bool.not_true, MM.wpq, wp_mkC, startM, Ty.nm, if_true, if_false, Nat.reduceAdd, Nat.reduceSub, reduceCtorEq]
        exact ⟨⟨acc, [], L, et, by omega⟩, eb, _, rfl⟩
      | cons z sp2 =>
        simp only [List.isEmpty_cons, Bool.not_false, MM.wpq, wp_mkC, startM, Ty.nm, if_true, if_false, Nat.reduceAdd, Nat.reduceSub, reduceCtorEq]
        refine bm_wp ?_
        simp only [MM.wpq, wp_mkC, startM, Ty.nm, if_true, if_false, Nat.reduceAdd, Nat.reduceSub, reduceCtorEq]
        refine ⟨isl L.rs, ?_⟩
        refine bm_wp ?_
        simp only [MM.wpq, wp_mkC, startM, Ty.nm, if_true, if_false, Nat.reduceAdd, Nat.reduceSub, reduceCtorEq]
        refine ⟨isl L.sp, ?_⟩
        rw [wp_pop0 L.sp]
        try simp only [MM.wpq, wp_mkC, startM, Ty.nm, if_true, if_false, Nat.reduceAdd, Nat.reduceSub, reduceCtorEq]
        refine ⟨sz (by simp), ?_⟩
        have L2 : Lp h0 (h1.set s (.lst (sp2.map Wv.str))) r s acc sp2 := ⟨L.kx.set (.inr L.lo.2), by rw [List.getElem?_set_ne (fun z => L.ne z.symm)]; exact L.rs, List.getElem?_set_self (List.getElem?_eq_some_iff.mp L.sp).1, L.ne, L.lo⟩
        have eb2 : (h1.set s (.lst (sp2.map Wv.str)))[bl]? = some (.lst ((order.take c).map Wv.str)) := by rw [List.getElem?_set_ne (fun z => by omega)]; exact eb
        rw [wp_app L2.rs l9]
        try simp only [MM.wpq, wp_mkC, startM, Ty.nm, if_true, if_false, Nat.reduceAdd, Nat.reduceSub, reduceCtorEq]
        obtain ⟨L3, eb3⟩ := put (z, .str y) sp2 _ L2 eb2
        exact ⟨⟨acc ++ [((z, .str y) : Tgt)], sp2, L3, by rw [et, List.append_assoc]; rfl, by simp; omega⟩, eb3, _, rfl⟩
  · obtain ⟨⟨acc, sp1, L, et, _⟩, eb, b5, rfl⟩ := z
    rw [List.length_map, List.drop_of_length_le (Nat.le_refl _)] at et
    have : tgtF here [] sp1 = [] := rfl
    rw [this, List.append_nil] at et
    rw [et] at q
    exact q _ _ L.kx L.rs
theorem targets_wp {Q : Wv → Hm → Prop} (eo : h[o3]? = some (.lst (order.map .str))) (hk : HereOk h fn here) (lc : c ≤ order.length) (few : order.length ≤ 1000)
    (q : ∀ r h', Kx [] h h' → h.length ≤ r → h'[r]? = some (.lst ((tgtF here (order.take c) ((order.drop c).filter here)).map tW)) → Q (.obj r) h') : wpM (m_targets [.obj o3, .int c, .obj fn]) h Q := by
  rw [t_row]
  simp only [MM.wpq, wp_mkC, startM, Ty.nm, if_true, if_false, Nat.reduceAdd, Nat.reduceSub, reduceCtorEq]
  have oo := (List.getElem?_eq_some_iff.mp eo).1
  obtain ⟨ky, cs, ef⟩ := hk.1
  have of := (List.getElem?_eq_some_iff.mp ef).1
  refine t1_wp eo hk lc few fun s h1 k1 ls es => ?_
  simp only [t2, MM.wpq, wp_mkC, startM, Ty.nm, if_true, if_false, Nat.reduceAdd, Nat.reduceSub, reduceCtorEq]
  refine ⟨sz (by simp), ?_⟩
  have ls1 := (List.getElem?_eq_some_iff.mp es).1
  have k2 : Kx [] h (h1 ++ [Ob.lst []]) := k1.app _
  have l1 := k1.len
  refine t3_wp (h0 := h) (sp := (order.drop c).filter here) (k2.get eo (by simp)) (hk.kx k2) lc few ⟨k2, MM.at_last, at_app es _, by omega, by omega, ls⟩ oo of hk fun h' b5 k3 er => ?_
  simp only [t4, MM.wpq, wp_mkC, startM, Ty.nm, if_true, if_false, Nat.reduceAdd, Nat.reduceSub, reduceCtorEq]
  exact q _ _ k3 (by omega) er
end
end GR26

set_option maxRecDepth 100000
set_option maxHeartbeats 1000000

namespace GR26
open PySem PySem.Spec PyProof.Rows L2 K01 MM GP SP SG SC
theorem callLam_wp {m : FM} {k : Nat} {x : PySem.Str} {key : LKey} {js : List Nat} {a : AM} {ρ : MM.Env} {h : Hm} {Q : Wv → Hm → Prop} (z : wpM (a ρ) h fun ws h1 => hasTab h1 k x = true ∧ ∃ cs, capt ρ js = some cs ∧ wpM (m (ws ++ [.obj h1.length])) (h1 ++ [.fn key cs]) fun w h' => Q w (h'.set h1.length .dead)) : wpM (eCallLam m k x key js a ρ) h Q := by
  obtain ⟨ws, h1, e1, ht, cs, ec, w, h2, e2, q⟩ := z
  refine ⟨w, h2.set h1.length .dead, ?_, q⟩
  unfold eCallLam
  rw [bind_run e1]
  show (if hasTab h1 k x = true then _ else _) = _
  rw [if_pos ht]
  simp only [ec, e2]
def eight : List PySem.Str := ["a", "b", "c", "d", "e", "f", "g", "h"]
def Nm (xs : List PySem.Str) : Prop := ∀ x ∈ xs, x ∈ eight
theorem eight_ok : ∀ x ∈ eight, PyData.strOk x = true := by decide +kernel
theorem cl0 {x : PySem.Str} (m : x ∈ eight) : SP.Cl 0 (.str x) := by
  have : PyData.strOk x = true := eight_ok x m
  unfold SP.Cl
  exact this
theorem nm_cl {xs : List PySem.Str} (n : Nm xs) : ∀ w ∈ xs.map Wv.str, SP.Cl 0 w := fun w hw => by
  obtain ⟨x, hx, rfl⟩ := List.mem_map.mp hw
  exact cl0 (n x hx)
theorem tW_cl {b : Tgt} (h1 : b.1 ∈ eight) (h2 : b.2 = .non ∨ ∃ y ∈ eight, b.2 = .str y) : SP.Cl 1 (tW b) := fun w hw => by
  simp only [List.mem_cons, List.not_mem_nil, or_false] at hw
  rcases hw with rfl | rfl
  · exact cl0 h1
  · rcases h2 with e | ⟨y, hy, e⟩ <;> rw [e]
    · trivial
    · exact cl0 hy
theorem tgtF_ok {here : PySem.Str → Bool} : ∀ {r sp : List PySem.Str}, Nm r → Nm sp → ∀ b ∈ tgtF here r sp, b.1 ∈ eight ∧ (b.2 = .non ∨ ∃ y ∈ eight, b.2 = .str y)
  | [], sp, _, _, b, hb => by cases hb
  | y :: r, sp, n1, n2, b, hb => by
    have n1' : Nm r := fun x hx => n1 x (List.mem_cons_of_mem _ hx)
    rw [tgtF_cons] at hb
    by_cases c : here y = true
    · rw [if_pos c] at hb
      rcases List.mem_cons.mp hb with rfl | hb
      · exact ⟨n1 y List.mem_cons_self, .inl rfl⟩
      · exact tgtF_ok n1' n2 b hb
    · rw [if_neg c] at hb
      cases sp with
      | nil => exact tgtF_ok n1' n2 b hb
      | cons z sp =>
        rcases List.mem_cons.mp hb with rfl | hb
        · exact ⟨n2 z List.mem_cons_self, .inr ⟨y, n1 y List.mem_cons_self, rfl⟩⟩
        · exact tgtF_ok n1' (fun x hx => n2 x (List.mem_cons_of_mem _ hx)) b hb
theorem tgtF_cl {here : PySem.Str → Bool} {r sp : List PySem.Str} (n1 : Nm r) (n2 : Nm sp) : ∀ w ∈ (tgtF here r sp).map tW, SP.Cl 1 w := fun w hw => by
  obtain ⟨b, hb, rfl⟩ := List.mem_map.mp hw
  obtain ⟨h1, h2⟩ := tgtF_ok n1 n2 b hb
  exact tW_cl h1 h2
abbrev Ed (o3 : Nat) (c : Int) (aw : Nat) (a3 a4 a5 : Option Wv) : MM.Env := [some (.obj o3), some (.int c), some (.obj aw), a3, a4, a5]
section
variable {h : Hm} {o3 aw : Nat} {order away : List PySem.Str} {c : Nat} {Q : Wv → Hm → Prop}
theorem d1_wp {a3 a4 a5 : Option Wv} {Q : Fl × MM.Env → Hm → Prop} (eo : h[o3]? = some (.lst (order.map .str))) (ea : h[aw]? = some (.lst (away.map .str))) (lc : c ≤ order.length) (few : order.length ≤ 1000) (q : ∀ s h', Kx [] h h' → h.length ≤ s → h'[s]? = some (.lst (((order.drop c).filter fun x => !decide (x ∈ away)).map .str)) → Q (.nx, Ed o3 c aw (some (.obj s)) a4 a5) h') : wpM (d1 (Ed o3 c aw a3 a4 a5)) h Q := by
  simp only [d1, MM.wpq, wp_mkC, startM, Ty.nm, if_true, if_false, Nat.reduceAdd, Nat.reduceSub, reduceCtorEq]
  rw [wp_sl_obj (rd_of eo), cutW_map, cut_from lc]
  have e2 : (h ++ [Ob.lst ((order.drop c).map Wv.str)])[h.length]? = some (.lst ((order.drop c).map Wv.str)) := MM.at_last
  have ea2 : (h ++ [Ob.lst ((order.drop c).map Wv.str)])[aw]? = some (.lst (away.map .str)) := at_app ea _
  rw [wp_src_obj (rd_of e2)]
  rw [lc_const (its := (order.drop c).map Wv.str) (strB fun x => !decide (x ∈ away)) id (fun k => by simp only [sL, rd_of e2, Option.map_some]) (by simp [sL]) (by rw [List.length_map, List.length_drop]; omega) (fun w hw => ?_)]
  · rw [filt_str]
    refine q _ _ ((Kx.rfl'.app _).app _) (by simp) MM.at_last
  · obtain ⟨x, _, rfl⟩ := List.mem_map.mp hw
    simp only [MM.wpq, wp_mkC, startM, Ty.nm, if_true, if_false, Nat.reduceAdd, Nat.reduceSub, reduceCtorEq, wipeM]
    rw [wp_in_strs (ys := away) (by exact rd_of ea2)]
    simp only [if_true]
    exact ⟨_, rfl, trivial, rfl, fun _ => rfl⟩
theorem same_nil {xs : List PySem.Str} : sameL (xs.map Wv.str) [] = xs.isEmpty := by
  rw [Bool.eq_iff_iff, sameL_iff]
  cases xs <;> simp
theorem d3_wp {a5 : Option Wv} {s r : Nat} {sp : List PySem.Str} {Q : Fl × MM.Env → Hm → Prop} {h0 : Hm} (eo : h[o3]? = some (.lst (order.map .str))) (ea : h0[aw]? = some (.lst (away.map .str))) (lc : c ≤ order.length) (few : order.length ≤ 1000) (no : Nm order) (ns : Nm sp) (L : Lp h0 h r s [] sp)
    (q : ∀ h' b3 b5, Kx [] h0 h' → h'[r]? = some (.lst ((tgtF (fun x => !decide (x ∈ away)) (order.take c) sp).map tW)) → Q (.nx, Ed o3 c aw b3 (some (.obj r)) b5) h') : wpM (d3 (Ed o3 c aw (some (.obj s)) (some (.obj r)) a5)) h Q := by
  unfold d3
  rw [wp_for]
  simp only [d3i, MM.wpq, wp_mkC, startM, Ty.nm, if_true, if_false, Nat.reduceAdd, Nat.reduceSub, reduceCtorEq]
  rw [wp_sl_obj (rd_of eo), cutW_map, cutW_to lc]
  have e2 : (h ++ [Ob.lst ((order.take c).map Wv.str)])[h.length]? = some (.lst ((order.take c).map Wv.str)) := MM.at_last
  rw [wp_src_obj (rd_of e2)]
  have lh := L.kx.len
  have L1 : Lp h0 (h ++ [Ob.lst ((order.take c).map Wv.str)]) r s [] sp := ⟨L.kx.app _, at_app L.rs _, at_app L.sp _, L.ne, L.lo⟩
  have lr := (List.getElem?_eq_some_iff.mp L.rs).1
  have ls := (List.getElem?_eq_some_iff.mp L.sp).1
  generalize h ++ [Ob.lst ((order.take c).map Wv.str)] = hb at e2 L1 ⊢
  generalize hbl : h.length = bl at e2 ⊢
  have lt : (order.take c).length = c := by rw [List.length_take]; omega
  refine for_wp (its := (order.take c).map Wv.str) (fun k ρ h1 => ∃ s, (∃ acc sp1, Lp h0 h1 r s acc sp1 ∧ tgtF (fun x => !decide (x ∈ away)) (order.take c) sp = acc ++ tgtF (fun x => !decide (x ∈ away)) ((order.take c).drop k) sp1 ∧ acc.length ≤ k ∧ Nm sp1) ∧ h1[bl]? = some (.lst ((order.take c).map Wv.str)) ∧ ∃ b5, ρ = Ed o3 c aw (some (.obj s)) (some (.obj r)) b5) (fun k ρ h1 z => at_L (rd_of z.choose_spec.2.1) k) (fun k w ρ h1 ek z => ?_) (fun ρ h1 z => ?_) _ 0 _ _ (by simp [sL]) (Nat.zero_le _) ⟨s, ⟨[], sp, L1, rfl, by simp, ns⟩, e2, a5, rfl⟩
  · obtain ⟨s, ⟨acc, sp1, L, et, la, n1⟩, eb, b5, rfl⟩ := z
    rw [List.getElem?_map] at ek
    obtain ⟨y, ey, rfl⟩ := Option.map_eq_some_iff.mp ek
    have kl := (List.getElem?_eq_some_iff.mp ey).1
    have ed : (order.take c).drop k = y :: (order.take c).drop (k + 1) := by
      rw [List.drop_eq_getElem_cons kl]
      congr 1
      exact (List.getElem?_eq_some_iff.mp ey).2
    have put : ∀ (b : Tgt) (s2 : Nat) (sp2 : List PySem.Str) (h2 : Hm), Lp h0 h2 r s2 acc sp2 → h2[bl]? = some (.lst ((order.take c).map Wv.str)) → Lp h0 (h2.set r (.lst (acc.map tW ++ [tW b]))) r s2 (acc ++ [b]) sp2 ∧ (h2.set r (.lst (acc.map tW ++ [tW b])))[bl]? = some (.lst ((order.take c).map Wv.str)) := fun b s2 sp2 h2 L2 eb2 => by
      refine ⟨⟨L2.kx.set (.inr L2.lo.1), by rw [List.getElem?_set_self (List.getElem?_eq_some_iff.mp L2.rs).1, List.map_append]; rfl, by rw [List.getElem?_set_ne L2.ne]; exact L2.sp, L2.ne, L2.lo⟩, ?_⟩
      rw [List.getElem?_set_ne (fun z => by omega)]
      exact eb2
    rw [wp_gN]
    simp only [d3b, d3_1, MM.wpq, wp_mkC, startM, Ty.nm, if_true, if_false, Nat.reduceAdd, Nat.reduceSub, reduceCtorEq]
    rw [wp_in_strs (ys := away) (by exact rd_of (L.kx.get ea (by simp)))]
    rw [ed, tgtF_cons] at et
    have l9 : (acc.map tW).length < 10000 := by rw [List.length_map]; omega
    refine ⟨_, rfl, ?_⟩
    simp only [if_true]
    cases hy : decide (y ∈ away) with
    | false =>
      simp only [hy, Bool.not_false, if_true] at et
      simp only [Bool.not_false, MM.wpq, wp_mkC, startM, Ty.nm, if_true, if_false, Nat.reduceAdd, Nat.reduceSub, reduceCtorEq]
      refine bm_wp ?_
      simp only [MM.wpq, wp_mkC, startM, Ty.nm, if_true, if_false, Nat.reduceAdd, Nat.reduceSub, reduceCtorEq]
      refine ⟨isl L.rs, sz (by simp), ?_⟩
      rw [wp_app L.rs l9]
      try simp only [MM.wpq, wp_mkC, startM, Ty.nm, if_true, if_false, Nat.reduceAdd, Nat.reduceSub, reduceCtorEq]
      obtain ⟨L2, eb2⟩ := put (y, .non) s sp1 h1 L eb
      exact ⟨s, ⟨acc ++ [((y, .non) : Tgt)], sp1, L2, by rw [et, List.append_assoc]; rfl, by simp; omega, n1⟩, eb2, _, rfl⟩
    | true =>
      simp only [hy, Bool.not_true, Bool.false_eq_true, if_false] at et
      simp only [Bool.not_true, Bool.false_eq_true, MM.wpq, wp_mkC, startM, Ty.nm, if_true, if_false, Nat.reduceAdd, Nat.reduceSub, reduceCtorEq]
      refine ⟨sz (by simp), ?_⟩
      have LA : Lp h0 (h1 ++ [Ob.lst []]) r s acc sp1 := ⟨L.kx.app _, at_app L.rs _, at_app L.sp _, L.ne, L.lo⟩
      have ebA : (h1 ++ [Ob.lst []])[bl]? = some (.lst ((order.take c).map Wv.str)) := at_app eb _
      rw [wp_eqL (n := 0) (xs := sp1.map Wv.str) (ys := []) (rd_of LA.sp) (rd_of MM.at_last) (nm_cl n1) (fun w hw => by cases hw) (by decide), same_nil]
      refine ⟨_, rfl, ?_⟩
      cases sp1 with
      | nil =>
        simp only [List.isEmpty_nil, Bool.not_true, if_true, Bool.false_eq_true, MM.wpq, wp_mkC, startM, Ty.nm, if_true, if_false, Nat.reduceAdd, Nat.reduceSub, reduceCtorEq]
        exact ⟨s, ⟨acc, [], LA, et, by omega, n1⟩, ebA, _, rfl⟩
      | cons z sp2 =>
        simp only [List.isEmpty_cons, Bool.not_false, if_true, MM.wpq, wp_mkC, startM, Ty.nm, if_true, if_false, Nat.reduceAdd, Nat.reduceSub, reduceCtorEq]
        refine bm_wp ?_
        simp only [MM.wpq, wp_mkC, startM, Ty.nm, if_true, if_false, Nat.reduceAdd, Nat.reduceSub, reduceCtorEq]
        refine ⟨isl LA.rs, ?_⟩
        rw [wp_ix_obj (rd_of LA.sp) (show atI ((z :: sp2).map Wv.str) 0 = some (.str z) by simp [atI, ixN])]
        try simp only [MM.wpq, wp_mkC, startM, Ty.nm, if_true, if_false, Nat.reduceAdd, Nat.reduceSub, reduceCtorEq]
        refine ⟨sz (by simp), ?_⟩
        rw [wp_app LA.rs l9]
        try simp only [MM.wpq, wp_mkC, startM, Ty.nm, if_true, if_false, Nat.reduceAdd, Nat.reduceSub, reduceCtorEq]
        obtain ⟨L3, eb3⟩ := put (z, .str y) s (z :: sp2) _ LA ebA
        have L3s : ((h1 ++ [Ob.lst []]).set r (.lst (acc.map tW ++ [.tup [.str z, .str y]])))[s]? = some (.lst ((z :: sp2).map Wv.str)) := L3.sp
        rw [wp_sl_obj (rd_of L3s)]
        rw [show cutW ((z :: sp2).map Wv.str) (some 1) none = sp2.map Wv.str by rw [cutW_1]; rfl]
        have n2 : Nm sp2 := fun x hx => n1 x (List.mem_cons_of_mem _ hx)
        have lL := L3.kx.len
        have lr3 := (List.getElem?_eq_some_iff.mp L3.rs).1
        refine ⟨_, ⟨acc ++ [((z, .str y) : Tgt)], sp2, ⟨L3.kx.app _, at_app L3.rs _, MM.at_last, Nat.ne_of_lt lr3, L3.lo.1, lL⟩, by rw [et, List.append_assoc]; rfl, by simp; omega, n2⟩, at_app eb3 _, _, rfl⟩
  · obtain ⟨s, ⟨acc, sp1, L, et, _⟩, eb, b5, rfl⟩ := z
    rw [List.length_map, List.drop_of_length_le (Nat.le_refl _)] at et
    have : tgtF (fun x => !decide (x ∈ away)) [] sp1 = [] := rfl
    rw [this, List.append_nil] at et
    rw [et] at q
    exact q _ _ _ L.kx L.rs
theorem due_wp (eo : h[o3]? = some (.lst (order.map .str))) (ea : h[aw]? = some (.lst (away.map .str))) (lc : c ≤ order.length) (few : order.length ≤ 1000) (no : Nm order)
    (q : ∀ r h', Kx [] h h' → h.length ≤ r → h'[r]? = some (.lst ((tgtF (fun x => !decide (x ∈ away)) (order.take c) ((order.drop c).filter fun x => !decide (x ∈ away))).map tW)) → Q (.obj r) h') : wpM (m__law_due [.obj o3, .int c, .obj aw]) h Q := by
  rw [d_row]
  simp only [MM.wpq, wp_mkC, startM, Ty.nm, if_true, if_false, Nat.reduceAdd, Nat.reduceSub, reduceCtorEq]
  refine d1_wp eo ea lc few fun s h1 k1 ls es => ?_
  simp only [d2, MM.wpq, wp_mkC, startM, Ty.nm, if_true, if_false, Nat.reduceAdd, Nat.reduceSub, reduceCtorEq]
  refine ⟨sz (by simp), ?_⟩
  have ls1 := (List.getElem?_eq_some_iff.mp es).1
  have k2 : Kx [] h (h1 ++ [Ob.lst []]) := k1.app _
  have l1 := k1.len
  refine d3_wp (h0 := h) (sp := (order.drop c).filter fun x => !decide (x ∈ away)) (k2.get eo (by simp)) ea lc few no (fun x hx => no x (List.mem_of_mem_drop (List.mem_filter.mp hx).1)) ⟨k2, MM.at_last, at_app es _, by omega, by omega, ls⟩ fun h' b3 b5 k3 er => ?_
  simp only [d4, MM.wpq, wp_mkC, startM, Ty.nm, if_true, if_false, Nat.reduceAdd, Nat.reduceSub, reduceCtorEq]
  exact q _ _ k3 (by omega) er
end
end GR26

set_option maxRecDepth 100000
set_option maxHeartbeats 1000000

namespace GR26
open PySem PySem.Spec PyProof.Rows L2 K01 MM GP SP SG SC
def verW : Wv := .tup [.tup [.int 2, .str "a", .int 1], .tup [], .int 5]
def wrF (t d : Nat) (need : Int) : List (PySem.Str × Wv) := [("own_word", .str "key"), ("own_version", verW), ("own_targets", .obj t), ("own_need", .int need), ("own_held", .obj d)]
structure WrAt (h : Hm) (i t d : Nat) (ts : List Tgt) (need : Int) (hd : List PySem.Str) : Prop where
  ob : h[i]? = some (.ins "Writing" (wrF t d need))
  tg : h[t]? = some (.lst (ts.map tW))
  he : h[d]? = some (.lst (hd.map .str))
section
variable {h : Hm} {i t d j : Nat} {ts : List Tgt} {need : Int} {hd : List PySem.Str} {x : PySem.Str} {Q : Wv → Hm → Prop}
theorem WrAt.kx {S : List Nat} {h' : Hm} (A : WrAt h i t d ts need hd) (k : Kx S h h') (n : i ∉ S ∧ t ∉ S ∧ d ∉ S) : WrAt h' i t d ts need hd := ⟨k.get A.ob n.1, k.get A.tg n.2.1, k.get A.he n.2.2⟩
theorem WrAt.app (A : WrAt h i t d ts need hd) (g : Hm) : WrAt (h ++ g) i t d ts need hd := ⟨at_app A.ob g, at_app A.tg g, at_app A.he g⟩
theorem wmake_wp (et : h[j]? = some (.lst (ts.map tW))) (q : Q (.obj h.length) (h ++ [.ins "Writing" (wrF (h.length + 1) (h.length + 2) need), .lst (ts.map tW), .lst []])) : wpM (mkC "Writing" m_Writing___init__ [.str "key", verW, .obj j, .int need]) h Q := by
  have e1 : ∀ o g, (h ++ o :: g)[j]? = some (.lst (ts.map tW)) := fun o g => at_app et _
  rw [wp_mkC]
  simp only [m_Writing___init__, MM.wpq, wp_mkC, startM, Ty.nm, if_true, if_false, Nat.reduceAdd, Nat.reduceSub, reduceCtorEq]
  rw [setF_mid (Nat.le_of_ble_eq_true rfl), setF_mid (Nat.le_of_ble_eq_true rfl)]
  rw [listOf_lst (e1 _ _)]
  simp only [List.append_assoc, List.cons_append, List.nil_append]
  rw [setF_mid (Nat.le_of_ble_eq_true rfl), setF_mid (Nat.le_of_ble_eq_true rfl)]
  refine ⟨Nat.zero_le _, ?_⟩
  simp only [List.append_assoc, List.cons_append, List.nil_append]
  rw [setF_mid (Nat.le_of_ble_eq_true rfl)]
  simp only [List.length_append, List.length_cons, List.length_nil]
  exact q
theorem wtargets_wp (A : WrAt h i t d ts need hd) : wpM (m_Writing_targets [.obj i]) h Q ↔ Q (.obj h.length) (h ++ [.lst (ts.map tW)]) := by
  simp only [m_Writing_targets, MM.wpq, wp_mkC, startM, Ty.nm, if_true, if_false, Nat.reduceAdd, Nat.reduceSub, reduceCtorEq]
  rw [wp_getF A.ob rfl, listOf_lst A.tg]
theorem wheld_wp (A : WrAt h i t d ts need hd) : wpM (m_Writing_held [.obj i]) h Q ↔ Q (.obj h.length) (h ++ [.lst (hd.map .str)]) := by
  simp only [m_Writing_held, MM.wpq, wp_mkC, startM, Ty.nm, if_true, if_false, Nat.reduceAdd, Nat.reduceSub, reduceCtorEq]
  rw [wp_getF A.ob rfl, listOf_lst A.he]
theorem wword_wp (A : WrAt h i t d ts need hd) : wpM (m_Writing_word [.obj i]) h Q ↔ Q (.str "key") h := by
  simp only [m_Writing_word, MM.wpq, wp_mkC, startM, Ty.nm, if_true, if_false, Nat.reduceAdd, Nat.reduceSub, reduceCtorEq]
  rw [wp_getF A.ob rfl]
theorem wversion_wp (A : WrAt h i t d ts need hd) : wpM (m_Writing_version [.obj i]) h Q ↔ Q verW h := by
  simp only [m_Writing_version, MM.wpq, wp_mkC, startM, Ty.nm, if_true, if_false, Nat.reduceAdd, Nat.reduceSub, reduceCtorEq]
  rw [wp_getF A.ob rfl]
theorem wtold_wp (A : WrAt h i t d ts need hd) : wpM (m_Writing_is_told [.obj i]) h Q ↔ Q (.bl (decide (need ≤ (hd.length : Int)))) h := by
  simp only [m_Writing_is_told, MM.wpq, wp_mkC, startM, Ty.nm, if_true, if_false, Nat.reduceAdd, Nat.reduceSub, reduceCtorEq]
  rw [wp_getF A.ob rfl, wp_len_obj (rd_of A.he), List.length_map]
  try simp only [MM.wpq, wp_mkC, startM, Ty.nm, if_true, if_false, Nat.reduceAdd, Nat.reduceSub, reduceCtorEq]
  rw [wp_getF A.ob rfl]
  try simp only [MM.wpq, wp_mkC, startM, Ty.nm, if_true, if_false, Nat.reduceAdd, Nat.reduceSub, reduceCtorEq]
  try rfl
theorem awaited2_wp {l : Nat} (et : h[t]? = some (.lst (ts.map tW))) (el : h[l]? = some (.lst (hd.map Wv.str))) (few : ts.length < 1000) (q : ∀ g, Q (.bl (decide (x ∈ nmT ts) && !decide (x ∈ hd))) (h ++ g)) : wpM (m_is_awaited [.obj t, .obj l, .str x]) h Q := by
  have e : nmA (hd.map fun y => (y, ([] : List Ver))) = hd := by
    unfold nmA
    rw [List.map_map]
    exact List.map_id _
  exact awaited_wp (x := x) (ans := hd.map fun y => (y, [])) (Q := Q) et (by rw [e]; exact el) few (by rw [e]; exact q)
theorem wanswered_wp (A : WrAt h i t d ts need hd) (few : ts.length < 1000) (fh : hd.length < 1000) (nd : d ≠ i ∧ d ≠ t) (q : ∀ h', Kx [d] h h' → (h'[d]? = some (.lst ((if x ∈ nmT ts ∧ x ∉ hd then hd ++ [x] else hd).map .str))) → Q (.bl (decide (x ∈ nmT ts ∧ x ∉ hd) && decide (((hd.length : Int) + 1) = need))) h') : wpM (m_Writing_answered [.obj i, .str x]) h Q := by
  simp only [m_Writing_answered, MM.wpq, wp_mkC, startM, Ty.nm, if_true, if_false, Nat.reduceAdd, Nat.reduceSub, reduceCtorEq]
  rw [wp_getF A.ob rfl]
  try simp only [MM.wpq, wp_mkC, startM, Ty.nm, if_true, if_false, Nat.reduceAdd, Nat.reduceSub, reduceCtorEq]
  rw [wp_getF A.ob rfl]
  try simp only [MM.wpq, wp_mkC, startM, Ty.nm, if_true, if_false, Nat.reduceAdd, Nat.reduceSub, reduceCtorEq]
  refine awaited2_wp A.tg A.he few fun g => ?_
  have A1 := A.app g
  try simp only [MM.wpq, wp_mkC, startM, Ty.nm, if_true, if_false, Nat.reduceAdd, Nat.reduceSub, reduceCtorEq]
  by_cases c : x ∈ nmT ts ∧ x ∉ hd
  · rw [if_pos c, decide_eq_true c, Bool.true_and] at q
    rw [decide_eq_true c.1, decide_eq_false c.2]
    simp only [Bool.not_false, Bool.and_self, Bool.not_true, MM.wpq, wp_mkC, startM, Ty.nm, if_true, if_false, Nat.reduceAdd, Nat.reduceSub, reduceCtorEq]
    refine bm_wp ?_
    simp only [MM.wpq, wp_mkC, startM, Ty.nm, if_true, if_false, Nat.reduceAdd, Nat.reduceSub, reduceCtorEq]
    rw [wp_getF A1.ob rfl]
    try simp only [MM.wpq, wp_mkC, startM, Ty.nm, if_true, if_false, Nat.reduceAdd, Nat.reduceSub, reduceCtorEq]
    refine ⟨is_lst A1.he, ?_⟩
    rw [wp_app A1.he (by rw [List.length_map]; omega)]
    have eo : ((h ++ g).set d (.lst (hd.map Wv.str ++ [.str x])))[i]? = some (.ins "Writing" (wrF t d need)) := by rw [List.getElem?_set_ne nd.1]; exact A1.ob
    have ed : ((h ++ g).set d (.lst (hd.map Wv.str ++ [.str x])))[d]? = some (.lst (hd.map Wv.str ++ [.str x])) := List.getElem?_set_self (List.getElem?_eq_some_iff.mp A1.he).1
    try simp only [MM.wpq, wp_mkC, startM, Ty.nm, if_true, if_false, Nat.reduceAdd, Nat.reduceSub, reduceCtorEq]
    rw [wp_getF eo rfl]
    try simp only [MM.wpq, wp_mkC, startM, Ty.nm, if_true, if_false, Nat.reduceAdd, Nat.reduceSub, reduceCtorEq]
    rw [wp_len_obj (rd_of ed)]
    try simp only [MM.wpq, wp_mkC, startM, Ty.nm, if_true, if_false, Nat.reduceAdd, Nat.reduceSub, reduceCtorEq]
    rw [wp_getF eo rfl]
    try simp only [MM.wpq, wp_mkC, startM, Ty.nm, if_true, if_false, Nat.reduceAdd, Nat.reduceSub, reduceCtorEq]
    have := q _ ((Kx.rfl'.app g).set (.inl (by simp)) : Kx [d] h ((h ++ g).set d (.lst (hd.map Wv.str ++ [.str x])))) (by rw [ed, List.map_append]; rfl)
    rw [List.length_append, List.length_map, List.length_singleton]
    exact this
  · rw [if_neg c, decide_eq_false c, Bool.false_and] at q
    have : (decide (x ∈ nmT ts) && !decide (x ∈ hd)) = false := by
      by_cases c1 : x ∈ nmT ts
      · by_cases c2 : x ∈ hd
        · simp [c2]
        · exact absurd ⟨c1, c2⟩ c
      · simp [c1]
    rw [this]
    simp only [Bool.not_false, MM.wpq, wp_mkC, startM, Ty.nm, if_true, if_false, Nat.reduceAdd, Nat.reduceSub, reduceCtorEq]
    exact q _ (Kx.rfl'.app g) A1.he
theorem wtwin_wp (A : WrAt h i t d ts need hd) (q : ∀ g, WrAt (h ++ g) h.length (h.length + 1) (h.length + 3) ts need hd → Q (.obj h.length) (h ++ g)) : wpM (m_Writing_twin [.obj i]) h Q := by
  simp only [m_Writing_twin, MM.wpq, startM, Ty.nm, if_true, if_false, Nat.reduceAdd, Nat.reduceSub, reduceCtorEq]
  rw [wp_getF A.ob rfl, wp_getF A.ob rfl, wp_getF A.ob rfl, wp_getF A.ob rfl]
  refine wmake_wp A.tg ?_
  try simp only [MM.wpq, startM, Ty.nm, if_true, if_false, Nat.reduceAdd, Nat.reduceSub, reduceCtorEq]
  have A1 := A.app [.ins "Writing" (wrF (h.length + 1) (h.length + 2) need), .lst (ts.map tW), .lst []]
  rw [wp_isC A1.ob rfl]
  try simp only [MM.wpq, startM, Ty.nm, if_true, if_false, Nat.reduceAdd, Nat.reduceSub, reduceCtorEq]
  rw [wheld_wp A1]
  try simp only [MM.wpq, startM, Ty.nm, if_true, if_false, Nat.reduceAdd, Nat.reduceSub, reduceCtorEq]
  have em : (h ++ [.ins "Writing" (wrF (h.length + 1) (h.length + 2) need), .lst (ts.map tW), .lst []] ++ [Ob.lst (hd.map Wv.str)]) = h ++ .ins "Writing" (wrF (h.length + 1) (h.length + 2) need) :: [.lst (ts.map tW), .lst [], .lst (hd.map Wv.str)] := by simp
  rw [em, setF_mid (by show (5 : Nat) < 1000; decide)]
  try simp only [MM.wpq, startM, Ty.nm, if_true, if_false, Nat.reduceAdd, Nat.reduceSub, reduceCtorEq]
  rw [List.length_append]
  refine q (.ins "Writing" (putW "own_held" (.obj (h.length + 3)) (wrF (h.length + 1) (h.length + 2) need)) :: [.lst (ts.map tW), .lst [], .lst (hd.map Wv.str)]) ⟨at_mid, at_1, ?_⟩
  rw [List.getElem?_append_right (by omega), Nat.add_sub_cancel_left]; rfl
end
end GR26

set_option maxRecDepth 100000
set_option maxHeartbeats 1000000

namespace GR26
open PySem PySem.Spec PyProof.Rows L2 K01 MM GP SP SG SC
theorem lay2 {n m : Nat} {xs ys : List Wv} (cx : ∀ w ∈ xs, SP.Cl n w) (cy : ∀ w ∈ ys, SP.Cl m w) (ln : n < 50) (lm : m < 50) : SeqAt.shaped (.list [.list (xs.map (dcW n)), .list (ys.map (dcW m))]) = true := by
  obtain ⟨a1, b1⟩ := lay_map (n := n) (f := dcW n) (ws := xs) fun w hw => lay_cl (cx w hw)
  obtain ⟨a2, b2⟩ := lay_map (n := m) (f := dcW m) (ws := ys) fun w hw => lay_cl (cy w hw)
  unfold SeqAt.shaped
  simp only [PyData.canLay0, PyData.canLayAll0, PyData.depth, PyData.depthAll, a1, a2, Bool.and_self, Bool.true_and]
  exact decide_eq_true (by omega)
theorem eq_nest {h : Hm} {n m k u a b a' b' : Nat} {xs ys : List Wv} {Q : Wv → Hm → Prop} (e1 : rdL h k = some [.obj a, .obj b]) (e2 : rdL h u = some [.obj a', .obj b']) (ea : rdL h a = some xs) (ea' : rdL h a' = some xs) (eb : rdL h b = some ys) (eb' : rdL h b' = some ys)
    (cx : ∀ w ∈ xs, SP.Cl n w) (cy : ∀ w ∈ ys, SP.Cl m w) (ln : n < 50) (lm : m < 50) : wpM (eqB true (.obj k) (.obj u)) h Q ↔ Q (.bl false) h := by
  have dd : ∀ {k a b : Nat}, rdL h k = some [.obj a, .obj b] → rdL h a = some xs → rdL h b = some ys → dat h 60 (.obj k) = some (.list [.list (xs.map (dcW n)), .list (ys.map (dcW m))]) := fun {k a b} e ea eb => by
    show (match rdL h k with | some ws => (ws.mapM (dat h 59)).map PyData.list | none => none) = _
    rw [e]
    have d1 : dat h 59 (.obj a) = some (.list (xs.map (dcW n))) := dat_lst ea cx (by omega)
    have d2 : dat h 59 (.obj b) = some (.list (ys.map (dcW m))) := dat_lst eb cy (by omega)
    simp only [List.mapM_cons, List.mapM_nil, d1, d2]
    rfl
  refine wp_ok ?_
  have ev : PyData.eqv (.list [.list (xs.map (dcW n)), .list (ys.map (dcW m))]) (.list [.list (xs.map (dcW n)), .list (ys.map (dcW m))]) = true := by
    have s1 := eqv_lstC cx cx
    have s2 := eqv_lstC cy cy
    rw [sameL_iff.mpr rfl] at s1 s2
    rw [PyData.eqv]
    simp only [PyData.eqvAll, s1, s2, Bool.and_self]
  unfold eqB
  simp only [dd e1 ea eb, dd e2 ea' eb', lay2 cx cy ln lm, Bool.and_self, if_true, ev]
  rfl
theorem ver_cl : SP.Cl 2 verW := by
  intro w hw
  simp only [List.mem_cons, List.not_mem_nil, or_false] at hw
  rcases hw with rfl | rfl | rfl
  · intro u hu
    simp only [List.mem_cons, List.not_mem_nil, or_false] at hu
    rcases hu with rfl | rfl | rfl
    · trivial
    · show PyData.strOk "a" = true
      decide +kernel
    · trivial
  · intro u hu; cases hu
  · trivial
theorem wp_repB {c : Bool} {h : Hm} {Q : Wv → Hm → Prop} : wpM (repB [.bl c]) h Q ↔ Q (.str (if c then "True" else "False")) h := wp_ok rfl
theorem wp_neStr {x : PySem.Str} {h : Hm} {Q : Wv → Hm → Prop} : wpM (eqB true (.str x) (.str x)) h Q ↔ Q (.bl false) h := wp_ok (by
  show Out.ok (Wv.bl (if true = true then !decide (x = x) else decide (x = x))) h = _
  simp)
section
variable {h : Hm} {i t d s l : Nat} {ts : List Tgt} {need : Int} {hd : List PySem.Str} {Q : Wv → Hm → Prop}
abbrev Er (i s l : Nat) (need : Int) (a4 a5 : Option Wv) : MM.Env := [some (.obj i), some (.obj s), some (.obj l), some (.int need), a4, a5]
theorem r1b_wp {a4 a5 : Option Wv} {Q : Fl × MM.Env → Hm → Prop} (W : WrAt h i t d ts need hd) (es : h[s]? = some (.lst (ts.map tW))) (el : h[l]? = some (.lst (hd.map .str))) (ct : ∀ w ∈ ts.map tW, SP.Cl 1 w) (ch : ∀ w ∈ hd.map Wv.str, SP.Cl 0 w) (ft : ts.length < 1000) (fh : hd.length < 1000)
    (q : ∀ h' b5, Kx [] h h' → Q (.nx, Er i s l need a4 b5) h') : wpM (r1b (Er i s l need a4 a5)) h Q := by
  simp only [r1b, r1_1, r1_2, r1_3, r1_4, MM.wpq, wp_mkC, startM, Ty.nm, if_true, if_false, Nat.reduceAdd, Nat.reduceSub, reduceCtorEq]
  rw [wp_isC W.ob rfl]
  try simp only [MM.wpq, wp_mkC, startM, Ty.nm, if_true, if_false, Nat.reduceAdd, Nat.reduceSub, reduceCtorEq]
  rw [wtargets_wp W]
  try simp only [MM.wpq, wp_mkC, startM, Ty.nm, if_true, if_false, Nat.reduceAdd, Nat.reduceSub, reduceCtorEq]
  have W1 := W.app [Ob.lst (ts.map tW)]
  rw [wp_isC W1.ob rfl]
  try simp only [MM.wpq, wp_mkC, startM, Ty.nm, if_true, if_false, Nat.reduceAdd, Nat.reduceSub, reduceCtorEq]
  rw [wheld_wp W1]
  try simp only [MM.wpq, wp_mkC, startM, Ty.nm, if_true, if_false, Nat.reduceAdd, Nat.reduceSub, reduceCtorEq]
  refine ⟨sz (by simp), sz (by simp), ?_⟩
  have ea : (h ++ [Ob.lst (ts.map tW)])[h.length]? = some (.lst (ts.map tW)) := MM.at_last
  have lh1 : (h ++ [Ob.lst (ts.map tW)]).length = h.length + 1 := by simp
  have eb : (h ++ [Ob.lst (ts.map tW)] ++ [Ob.lst (hd.map Wv.str)])[h.length + 1]? = some (.lst (hd.map .str)) := by rw [← lh1]; exact MM.at_last
  rw [lh1]
  have K2 : Kx [] h (h ++ [Ob.lst (ts.map tW)] ++ [Ob.lst (hd.map Wv.str)]) := (Kx.rfl'.app _).app _
  have ea2 := at_app ea [Ob.lst (hd.map Wv.str)]
  have l2 : (h ++ [Ob.lst (ts.map tW)] ++ [Ob.lst (hd.map Wv.str)]).length = h.length + 2 := by simp
  generalize h ++ [Ob.lst (ts.map tW)] ++ [Ob.lst (hd.map Wv.str)] = h2 at K2 ea2 eb l2 ⊢
  have ek : (h2 ++ [Ob.lst [.obj h.length, .obj (h.length + 1)]])[h2.length]? = some (.lst [.obj h.length, .obj (h.length + 1)]) := MM.at_last
  have K3 : Kx [] h (h2 ++ [Ob.lst [.obj h.length, .obj (h.length + 1)]]) := K2.app _
  have ea3 := at_app ea2 [Ob.lst [Wv.obj h.length, .obj (h.length + 1)]]
  have eb3 := at_app eb [Ob.lst [Wv.obj h.length, .obj (h.length + 1)]]
  have l3 : (h2 ++ [Ob.lst [Wv.obj h.length, .obj (h.length + 1)]]).length = h.length + 3 := by simp [l2]
  generalize h2 ++ [Ob.lst [Wv.obj h.length, .obj (h.length + 1)]] = h3 at K3 ea3 eb3 ek l3 ⊢
  have eu : (h3 ++ [Ob.lst [.obj s, .obj l]])[h3.length]? = some (.lst [.obj s, .obj l]) := MM.at_last
  have K4 : Kx [] h (h3 ++ [Ob.lst [.obj s, .obj l]]) := K3.app _
  have ea4 := at_app ea3 [Ob.lst [Wv.obj s, .obj l]]
  have eb4 := at_app eb3 [Ob.lst [Wv.obj s, .obj l]]
  have ek4 := at_app ek [Ob.lst [Wv.obj s, .obj l]]
  have l4 : (h3 ++ [Ob.lst [Wv.obj s, .obj l]]).length = h.length + 4 := by simp [l3]
  generalize h3 ++ [Ob.lst [Wv.obj s, .obj l]] = h4 at K4 ea4 eb4 ek4 eu l4 ⊢
  have es4 := K4.get es (by simp)
  have el4 := K4.get el (by simp)
  have W4 := W.kx K4 (by simp)
  rw [eq_nest (n := 1) (m := 0) (rd_of ek4) (rd_of eu) (rd_of ea4) (rd_of es4) (rd_of eb4) (rd_of el4) ct ch (by decide) (by decide)]
  refine ⟨_, rfl, ?_⟩
  simp only [Bool.false_eq_true, if_false]
  rw [wp_isC W4.ob rfl]
  try simp only [MM.wpq, wp_mkC, startM, Ty.nm, if_true, if_false, Nat.reduceAdd, Nat.reduceSub, reduceCtorEq]
  rw [wtold_wp W4, wp_repB]
  try simp only [MM.wpq, wp_mkC, startM, Ty.nm, if_true, if_false, Nat.reduceAdd, Nat.reduceSub, reduceCtorEq]
  rw [wp_len_obj (rd_of el4), List.length_map]
  try simp only [MM.wpq, wp_mkC, startM, Ty.nm, if_true, if_false, Nat.reduceAdd, Nat.reduceSub, reduceCtorEq]
  rw [wp_repB, wp_neStr]
  try simp only [MM.wpq, wp_mkC, startM, Ty.nm, if_true, if_false, Nat.reduceAdd, Nat.reduceSub, reduceCtorEq]
  refine bm_wp ?_
  simp only [MM.wpq, wp_mkC, startM, Ty.nm, if_true, if_false, Nat.reduceAdd, Nat.reduceSub, reduceCtorEq]
  rw [wp_ix_obj (rd_of ek4) (show atI [Wv.obj h.length, .obj (h.length + 1)] 0 = some (.obj h.length) from rfl)]
  refine ⟨is_lst ea4, ?_⟩
  rw [wp_app ea4 (by rw [List.length_map]; omega)]
  try simp only [MM.wpq, wp_mkC, startM, Ty.nm, if_true, if_false, Nat.reduceAdd, Nat.reduceSub, reduceCtorEq]
  have K5 : Kx [] h (h4.set h.length (.lst (ts.map tW ++ [.non]))) := K4.set (.inr (Nat.le_refl _))
  have ek5 : (h4.set h.length (.lst (ts.map tW ++ [.non])))[h2.length]? = some (.lst [.obj h.length, .obj (h.length + 1)]) := by rw [List.getElem?_set_ne (by omega)]; exact ek4
  have eb5 : (h4.set h.length (.lst (ts.map tW ++ [.non])))[h.length + 1]? = some (.lst (hd.map .str)) := by rw [List.getElem?_set_ne (by omega)]; exact eb4
  refine bm_wp ?_
  simp only [MM.wpq, wp_mkC, startM, Ty.nm, if_true, if_false, Nat.reduceAdd, Nat.reduceSub, reduceCtorEq]
  rw [wp_ix_obj (rd_of ek5) (show atI [Wv.obj h.length, .obj (h.length + 1)] 1 = some (.obj (h.length + 1)) from rfl)]
  refine ⟨is_lst eb5, ?_⟩
  rw [wp_app eb5 (by rw [List.length_map]; omega)]
  exact q _ _ (K5.set (.inr (by omega)))
theorem right_wp (W : WrAt h i t d ts need hd) (es : h[s]? = some (.lst (ts.map tW))) (el : h[l]? = some (.lst (hd.map .str))) (ct : ∀ w ∈ ts.map tW, SP.Cl 1 w) (ch : ∀ w ∈ hd.map Wv.str, SP.Cl 0 w) (ft : ts.length < 1000) (fh : hd.length < 1000)
    (q : ∀ h', Kx [] h h' → Q (.bl true) h') : wpM (m__law_right [.obj i, .obj s, .obj l, .int need]) h Q := by
  rw [r_row]
  simp only [MM.wpq, wp_mkC, startM, Ty.nm, if_true, if_false, Nat.reduceAdd, Nat.reduceSub, reduceCtorEq]
  unfold r1
  rw [wp_for]
  simp only [r1i, MM.wpq, wp_mkC, startM, Ty.nm, if_true, if_false, Nat.reduceAdd, Nat.reduceSub, reduceCtorEq]
  rw [wp_rng1 (by decide)]
  refine for_wp (its := (List.range (2 : Int).toNat).map fun (k : Nat) => Wv.int (0 + k)) (fun k ρ h1 => Kx [] h h1 ∧ ∃ b4 b5, ρ = Er i s l need b4 b5) (fun k ρ h2 z => its_rng k h2) (fun k w ρ h1 ek z => ?_) (fun ρ h1 z => ?_) _ 0 _ _ (by simp [sR]) (Nat.zero_le _) ⟨Kx.rfl', _, _, rfl⟩
  · obtain ⟨k1, b4, b5, rfl⟩ := z
    rw [wp_gN]
    exact r1b_wp (W.kx k1 (by simp)) (k1.get es (by simp)) (k1.get el (by simp)) ct ch ft fh fun h' b5 k2 => ⟨k1.trans k2, _, _, rfl⟩
  · obtain ⟨k1, b4, b5, rfl⟩ := z
    have W1 := W.kx k1 (by simp)
    simp only [r2, MM.wpq, wp_mkC, startM, Ty.nm, if_true, if_false, Nat.reduceAdd, Nat.reduceSub, reduceCtorEq]
    rw [wp_isC W1.ob rfl]
    try simp only [MM.wpq, wp_mkC, startM, Ty.nm, if_true, if_false, Nat.reduceAdd, Nat.reduceSub, reduceCtorEq]
    rw [wword_wp W1]
    try simp only [MM.wpq, wp_mkC, startM, Ty.nm, if_true, if_false, Nat.reduceAdd, Nat.reduceSub, reduceCtorEq]
    simp only [decide_true, if_true]
    rw [wp_isC W1.ob rfl]
    try simp only [MM.wpq, wp_mkC, startM, Ty.nm, if_true, if_false, Nat.reduceAdd, Nat.reduceSub, reduceCtorEq]
    rw [wversion_wp W1]
    try simp only [MM.wpq, wp_mkC, startM, Ty.nm, if_true, if_false, Nat.reduceAdd, Nat.reduceSub, reduceCtorEq]
    refine ⟨sz (by simp), sz (by simp), sz (by simp), ?_⟩
    show wpM (eqB false verW verW) h1 Q
    rw [wp_eqCl ver_cl ver_cl (by decide), sameW_iff.mpr rfl]
    exact q _ k1
end
end GR26

set_option maxRecDepth 100000
set_option maxHeartbeats 1000000

namespace GR26
open PySem PySem.Spec PyProof.Rows L2 K01 MM GP SP SG SC
structure Pen where
  pe : Nat
  i : Nat
  t : Nat
  d : Nat
  l : Nat
  hd : List PySem.Str
def Pen.adr (P : Pen) : List Nat := [P.pe, P.i, P.t, P.d, P.l]
structure PenAt (h : Hm) (k : Nat) (ts : List Tgt) (need : Int) (P : Pen) : Prop where
  pl : h[P.pe]? = some (.lst [.obj P.i, .obj P.l])
  wr : WrAt h P.i P.t P.d ts need P.hd
  lh : h[P.l]? = some (.lst (P.hd.map .str))
  nm : ∀ x ∈ P.hd, x ∈ nmT ts
  few : P.hd.length ≤ k
theorem PenAt.kx {S : List Nat} {h h' : Hm} {k : Nat} {ts : List Tgt} {need : Int} {P : Pen} (A : PenAt h k ts need P) (K : Kx S h h') (n : ∀ j ∈ P.adr, j ∉ S) : PenAt h' k ts need P :=
  ⟨K.get A.pl (n _ (by simp [Pen.adr])), A.wr.kx K ⟨n _ (by simp [Pen.adr]), n _ (by simp [Pen.adr]), n _ (by simp [Pen.adr])⟩, K.get A.lh (n _ (by simp [Pen.adr])), A.nm, A.few⟩
theorem PenAt.lt {h : Hm} {k : Nat} {ts : List Tgt} {need : Int} {P : Pen} (A : PenAt h k ts need P) : ∀ j ∈ P.adr, j < h.length := fun j hj => by
  simp only [Pen.adr, List.mem_cons, List.not_mem_nil, or_false] at hj
  rcases hj with rfl | rfl | rfl | rfl | rfl
  · exact (List.getElem?_eq_some_iff.mp A.pl).1
  · exact (List.getElem?_eq_some_iff.mp A.wr.ob).1
  · exact (List.getElem?_eq_some_iff.mp A.wr.tg).1
  · exact (List.getElem?_eq_some_iff.mp A.wr.he).1
  · exact (List.getElem?_eq_some_iff.mp A.lh).1
structure TsOk (order : List PySem.Str) (ts : List Tgt) : Prop where
  nm : Nm order
  few : order.length ≤ 8
  cl : ∀ w ∈ ts.map tW, SP.Cl 1 w
  ei : ∀ x ∈ nmT ts, x ∈ eight
  l8 : ts.length ≤ 8
structure Inv (h : Hm) (k p o3 s7 pl : Nat) (order : List PySem.Str) (ts : List Tgt) (need : Int) (pens : List Pen) : Prop where
  po : SP.Pool h p
  tb : h[0]? = some (.tbl "law")
  ok : TsOk order ts
  od : h[o3]? = some (.lst (order.map .str))
  sm : h[s7]? = some (.lst (ts.map tW))
  pn : h[pl]? = some (.lst (pens.map fun P => .obj P.pe))
  at_ : ∀ P ∈ pens, PenAt h k ts need P
  dj : (0 :: p :: o3 :: s7 :: pl :: pens.flatMap Pen.adr).Nodup
  one : 1 ≤ pens.length
  four : pens.length ≤ 4
section
variable {h h' : Hm} {k p o3 s7 pl : Nat} {order : List PySem.Str} {ts : List Tgt} {need : Int} {P R : Pen} {pens : List Pen}
theorem pool_kx {S : List Nat} (P : SP.Pool h p) (K : Kx S h h') (n : p ∉ S) : SP.Pool h' p := by
  obtain ⟨x, y, e⟩ := P
  exact ⟨x, y, K.get e n⟩
theorem Inv.ns (I : Inv h k p o3 s7 pl order ts need pens) : (p ≠ 0 ∧ p ≠ o3 ∧ p ≠ s7 ∧ p ≠ pl) ∧ ∀ P ∈ pens, ∀ j ∈ P.adr, j ≠ 0 ∧ j ≠ p ∧ j ≠ o3 ∧ j ≠ s7 ∧ j ≠ pl := by
  have dj := I.dj
  simp only [List.nodup_cons, List.mem_cons, not_or] at dj
  obtain ⟨⟨a1, a2, a3, a4, a5⟩, ⟨b1, b2, b3, b4⟩, ⟨c1, c2, c3⟩, ⟨d1, d2⟩, e1, e2⟩ := dj
  refine ⟨⟨fun z => a1 z.symm, b1, b2, b3⟩, fun P hP j hj => ?_⟩
  have m : j ∈ pens.flatMap Pen.adr := List.mem_flatMap.mpr ⟨P, hP, hj⟩
  exact ⟨fun z => a5 (by rw [← z]; exact m), fun z => b4 (by rw [← z]; exact m), fun z => c3 (by rw [← z]; exact m), fun z => d2 (by rw [← z]; exact m), fun z => e1 (by rw [← z]; exact m)⟩
theorem Inv.gp (I : Inv h k p o3 s7 pl order ts need pens) (g : Gp p h h') : Inv h' k p o3 s7 pl order ts need pens := by
  obtain ⟨⟨n0, n1, n2, n3⟩, nP⟩ := I.ns
  exact ⟨g.po, g.get I.tb (Ne.symm n0), I.ok, g.get I.od (Ne.symm n1), g.get I.sm (Ne.symm n2), g.get I.pn (Ne.symm n3), fun P hP => (I.at_ P hP).kx g.kx fun j hj => by simpa using (nP P hP j hj).2.1, I.dj, I.one, I.four⟩
theorem Inv.kx0 (I : Inv h k p o3 s7 pl order ts need pens) (K : Kx [] h h') : Inv h' k p o3 s7 pl order ts need pens := I.gp ⟨K.mono (by simp), pool_kx I.po K (by simp)⟩
theorem Inv.next (I : Inv h k p o3 s7 pl order ts need pens) : Inv h (k + 1) p o3 s7 pl order ts need pens := ⟨I.po, I.tb, I.ok, I.od, I.sm, I.pn, fun P hP => by
  obtain ⟨a, b, c, d, e⟩ := I.at_ P hP
  exact ⟨a, b, c, d, by omega⟩, I.dj, I.one, I.four⟩
theorem Inv.upd {l1 l2 : List Pen} (I : Inv h k p o3 s7 pl order ts need (l1 ++ P :: l2)) (K : Kx [P.d, P.l] h h') (ad : R.adr = P.adr) (A : PenAt h' (k + 1) ts need R) : Inv h' (k + 1) p o3 s7 pl order ts need (l1 ++ R :: l2) := by
  obtain ⟨⟨n0, n1, n2, n3⟩, nP⟩ := I.ns
  have hP : P ∈ l1 ++ P :: l2 := by simp
  have nd := nP P hP P.d (by simp [Pen.adr])
  have nl := nP P hP P.l (by simp [Pen.adr])
  have pm : (l1 ++ R :: l2).map (fun P => Wv.obj P.pe) = (l1 ++ P :: l2).map (fun P => Wv.obj P.pe) := by
    have : R.pe = P.pe := by
      have := congrArg (fun l => l[0]?) ad
      simpa [Pen.adr] using this
    rw [List.map_append, List.map_append, List.map_cons, List.map_cons, this]
  have fm : (l1 ++ R :: l2).flatMap Pen.adr = (l1 ++ P :: l2).flatMap Pen.adr := by
    rw [List.flatMap_append, List.flatMap_append, List.flatMap_cons, List.flatMap_cons, ad]
  have dj2 : ((l1 ++ P :: l2).flatMap Pen.adr).Nodup := by
    have := I.dj
    simp only [List.nodup_cons] at this
    exact this.2.2.2.2.2
  rw [List.flatMap_append, List.flatMap_cons, List.nodup_append, List.nodup_append] at dj2
  have others : ∀ O, O ∈ l1 ∨ O ∈ l2 → ∀ j ∈ O.adr, j ∉ [P.d, P.l] := fun O hO j hj hm => by
    have hm' : j ∈ P.adr := by
      simp only [List.mem_cons, List.not_mem_nil, or_false] at hm
      rcases hm with rfl | rfl <;> simp [Pen.adr]
    rcases hO with m | m
    · exact dj2.2.2 j (List.mem_flatMap.mpr ⟨O, m, hj⟩) j (List.mem_append_left _ hm') rfl
    · exact dj2.2.1.2.2 j hm' j (List.mem_flatMap.mpr ⟨O, m, hj⟩) rfl
  refine ⟨pool_kx I.po K (by simp only [List.mem_cons, List.not_mem_nil, or_false, not_or]; exact ⟨fun z => nd.2.1 z.symm, fun z => nl.2.1 z.symm⟩), K.get I.tb (by simp only [List.mem_cons, List.not_mem_nil, or_false, not_or]; exact ⟨fun z => nd.1 z.symm, fun z => nl.1 z.symm⟩), I.ok,
    K.get I.od (by simp only [List.mem_cons, List.not_mem_nil, or_false, not_or]; exact ⟨fun z => nd.2.2.1 z.symm, fun z => nl.2.2.1 z.symm⟩), K.get I.sm (by simp only [List.mem_cons, List.not_mem_nil, or_false, not_or]; exact ⟨fun z => nd.2.2.2.1 z.symm, fun z => nl.2.2.2.1 z.symm⟩),
    by rw [pm]; exact K.get I.pn (by simp only [List.mem_cons, List.not_mem_nil, or_false, not_or]; exact ⟨fun z => nd.2.2.2.2 z.symm, fun z => nl.2.2.2.2 z.symm⟩), fun O hO => ?_, by rw [fm]; exact I.dj, by simp; omega, by have := I.four; simp at this ⊢; omega⟩
  have : O = R ∨ O ∈ l1 ∨ O ∈ l2 := by
    rcases List.mem_append.mp hO with m | m
    · exact .inr (.inl m)
    · rcases List.mem_cons.mp m with m | m
      · exact .inl m
      · exact .inr (.inr m)
  rcases this with rfl | m
  · exact A
  · have AO := I.next.at_ O (by
      rcases m with m | m
      · simp [m]
      · simp [m])
    exact AO.kx K (others O m)
theorem Inv.add (I : Inv h k p o3 s7 pl order ts need pens) (K : Kx [] h h') (new : ∀ j ∈ R.adr, h.length ≤ j) (nd : R.adr.Nodup) (A : PenAt h' k ts need R) (l4 : pens.length < 4) : Inv (h'.set pl (.lst ((pens.map fun P => .obj P.pe) ++ [.obj R.pe]))) k p o3 s7 pl order ts need (pens ++ [R]) := by
  have I1 := I.kx0 K
  obtain ⟨⟨n0, n1, n2, n3⟩, nP⟩ := I.ns
  have dj := I.dj
  have dj0 := dj
  simp only [List.nodup_cons, List.mem_cons, not_or] at dj
  obtain ⟨⟨a1, a2, a3, a4, a5⟩, ⟨b1, b2, b3, b4⟩, ⟨c1, c2, c3⟩, ⟨d1, d2⟩, e1, e2⟩ := dj
  have lts : ∀ j ∈ (0 :: p :: o3 :: s7 :: pl :: pens.flatMap Pen.adr), j < h.length := fun j hj => by
    simp only [List.mem_cons] at hj
    rcases hj with rfl | rfl | rfl | rfl | rfl | hj
    · exact (List.getElem?_eq_some_iff.mp I.tb).1
    · exact pool_lt I.po
    · exact (List.getElem?_eq_some_iff.mp I.od).1
    · exact (List.getElem?_eq_some_iff.mp I.sm).1
    · exact (List.getElem?_eq_some_iff.mp I.pn).1
    · obtain ⟨P, hP, hj⟩ := List.mem_flatMap.mp hj
      exact (I.at_ P hP).lt j hj
  have K2 : Kx [pl] h' (h'.set pl (.lst ((pens.map fun P => .obj P.pe) ++ [.obj R.pe]))) := Kx.rfl'.set (.inl (by simp))
  refine ⟨pool_kx I1.po K2 (by simpa using n3), K2.get I1.tb (by simpa using a4), I.ok, K2.get I1.od (by simpa using c2), K2.get I1.sm (by simpa using d1), ?_, fun O hO => ?_, ?_, by simp, by simp; omega⟩
  · rw [List.getElem?_set_self (List.getElem?_eq_some_iff.mp I1.pn).1, List.map_append]; rfl
  · rcases List.mem_append.mp hO with m | m
    · exact (I1.at_ O m).kx K2 fun j hj => by simpa using (nP O m j hj).2.2.2.2
    · rw [List.mem_singleton.mp m]
      refine A.kx K2 fun j hj z => ?_
      have := new j hj
      have := lts pl (by simp)
      simp at z
      omega
  · have : (0 :: p :: o3 :: s7 :: pl :: (pens ++ [R]).flatMap Pen.adr) = (0 :: p :: o3 :: s7 :: pl :: pens.flatMap Pen.adr) ++ R.adr := by simp
    rw [this, List.nodup_append]
    exact ⟨dj0, nd, fun a ha b hb z => by
      have := lts a ha
      have := new b hb
      omega⟩
end
end GR26

set_option maxRecDepth 100000
set_option maxHeartbeats 1000000

namespace GR26
open PySem PySem.Spec PyProof.Rows L2 K01 MM GP SP SG SC
abbrev T (a0 a1 : Option Wv) (p o3 : Nat) (a4 a5 a6 : Option Wv) (s7 : Nat) (a8 : Option Wv) (need : Int) (a10 : Option Wv) (pl : Nat) (a12 a13 a14 a15 a16 a17 : Option Wv) : MM.Env := [a0, a1, some (.obj p), some (.obj o3), a4, a5, a6, some (.obj s7), a8, some (.int need), a10, some (.obj pl), a12, a13, a14, a15, a16, a17]
theorem at_nat {ws : List Wv} {d : Int} (d0 : 0 ≤ d) (d1 : d < ws.length) : ∃ w, w ∈ ws ∧ atI ws d = some w := by
  have lt : d.toNat < ws.length := by omega
  refine ⟨ws[d.toNat], List.getElem_mem lt, ?_⟩
  unfold atI ixN
  rw [if_pos d0, if_pos (by omega)]
  exact List.getElem?_eq_getElem lt
section
variable {h : Hm} {k p o3 s7 pl : Nat} {order : List PySem.Str} {ts : List Tgt} {need : Int} {P : Pen} {pens l1 l2 : List Pen} {x : PySem.Str} {a0 a1 a4 a5 a6 a8 a10 a12 a13 a14 a15 a16 a17 : Option Wv} {Q : Fl × MM.Env → Hm → Prop}
theorem w1_wp (I : Inv h k p o3 s7 pl order ts need pens) (q : ∀ h' l1 P l2, Inv h' k p o3 s7 pl order ts need (l1 ++ P :: l2) → Q (.nx, T a0 a1 p o3 a4 a5 a6 s7 a8 need a10 pl a12 (some (.obj P.i)) (some (.obj P.l)) a15 a16 a17) h') : wpM (l1_13_1 (T a0 a1 p o3 a4 a5 a6 s7 a8 need a10 pl a12 a13 a14 a15 a16 a17)) h Q := by
  simp only [l1_13_1, MM.wpq, wp_mkC, startM, Ty.nm, if_true, if_false, Nat.reduceAdd, Nat.reduceSub, reduceCtorEq]
  rw [wp_len_obj (rd_of I.pn)]
  rw [List.length_map]
  have one := I.one
  have four := I.four
  refine draw_wp I.po (by omega) (by omega) fun d h1 g d0 d1 => ?_
  have I1 := I.gp g
  obtain ⟨w, hw, e⟩ := at_nat (ws := pens.map fun P => Wv.obj P.pe) d0 (by rw [List.length_map]; exact d1)
  obtain ⟨P, hP, rfl⟩ := List.mem_map.mp hw
  rw [wp_ix_obj (rd_of I1.pn) e]
  have A := I1.at_ P hP
  rw [wp_gL (rd_of A.pl)]
  simp only [MM.wpq, wp_mkC, startM, Ty.nm, if_true, if_false, Nat.reduceAdd, Nat.reduceSub, reduceCtorEq]
  obtain ⟨l1, l2, rfl⟩ := List.append_of_mem hP
  exact q h1 l1 P l2 I1
theorem w2_wp (I : Inv h k p o3 s7 pl order ts need pens) (q : ∀ h' x, Inv h' k p o3 s7 pl order ts need pens → Q (.nx, T a0 a1 p o3 (some (.str x)) a5 a6 s7 a8 need a10 pl a12 a13 a14 a15 a16 a17) h') : wpM (l1_13_2 (T a0 a1 p o3 a4 a5 a6 s7 a8 need a10 pl a12 a13 a14 a15 a16 a17)) h Q := by
  simp only [l1_13_2, MM.wpq, wp_mkC, startM, Ty.nm, if_true, if_false, Nat.reduceAdd, Nat.reduceSub, reduceCtorEq]
  refine ⟨sz (by simp), ?_⟩
  have lt := I.ok.few
  rw [wp_add_lst (xs := order.map Wv.str) (ys := [.str "zz"]) (lst_of (at_app I.od _)) (lst_of MM.at_last) (by rw [List.length_map]; simp; omega)]
  have I1 := (I.kx0 (Kx.rfl'.app [Ob.lst [Wv.str "zz"]]))
  have I2 := I1.kx0 (Kx.rfl'.app [Ob.lst (order.map Wv.str ++ [Wv.str "zz"])])
  rw [wp_len_obj (rd_of I2.od)]
  try simp only [MM.wpq, wp_mkC, startM, Ty.nm, if_true, if_false, Nat.reduceAdd, Nat.reduceSub, reduceCtorEq]
  rw [List.length_map]
  refine draw_wp I2.po (by omega) (by omega) fun d h1 g d0 d1 => ?_
  obtain ⟨w, hw, e⟩ := at_nat (ws := order.map Wv.str ++ [Wv.str "zz"]) d0 (by simp; omega)
  have e5 := g.get (MM.at_last (h := h ++ [Ob.lst [Wv.str "zz"]]) (o := Ob.lst (order.map Wv.str ++ [Wv.str "zz"]))) (by have := pool_lt I1.po; omega)
  rw [wp_ix_obj (rd_of e5) e]
  obtain ⟨x, rfl⟩ : ∃ x, w = .str x := by
    rcases List.mem_append.mp hw with m | m
    · obtain ⟨y, _, rfl⟩ := List.mem_map.mp m
      exact ⟨y, rfl⟩
    · exact ⟨"zz", List.mem_singleton.mp m⟩
  exact q h1 x (I2.gp g)
theorem w4_wp (I : Inv h k p o3 s7 pl order ts need (l1 ++ P :: l2)) (hk : k ≤ 100) (q : ∀ h', Kx [P.l] h h' → h'[P.l]? = some (.lst ((if x ∈ nmT ts ∧ x ∉ P.hd then P.hd ++ [x] else P.hd).map .str)) → ∀ b16, Q (.nx, T a0 a1 p o3 (some (.str x)) a5 a6 s7 a8 need a10 pl a12 a13 (some (.obj P.l)) (some (.bl (decide (x ∈ nmT ts ∧ x ∉ P.hd) && decide (((P.hd.length : Int) + 1) = need)))) b16 a17) h') : wpM (l1_13_4 (T a0 a1 p o3 (some (.str x)) a5 a6 s7 a8 need a10 pl a12 a13 (some (.obj P.l)) (some (.bl false)) a16 a17)) h Q := by
  have A := I.at_ P (by simp)
  have few := A.few
  simp only [l1_13_4, l1_13_4t, MM.wpq, wp_mkC, startM, Ty.nm, if_true, if_false, Nat.reduceAdd, Nat.reduceSub, reduceCtorEq]
  rw [wp_src_obj (rd_of I.sm)]
  rw [lc_const (its := ts.map tW) (fun _ => true) firstW (at_L (rd_of I.sm)) (by simp [sL]) (by rw [List.length_map]; have := I.ok.l8; omega) (fun u hu => by
    obtain ⟨a, ha, rfl⟩ := List.mem_map.mp hu
    simp only [MM.wpq, wp_mkC, startM, Ty.nm, if_true, if_false, Nat.reduceAdd, Nat.reduceSub, reduceCtorEq, wipeM, tW]
    rw [wp_ix_tup (show atI [Wv.str a.1, a.2] 0 = some (.str a.1) from rfl)]
    exact fun _ => ⟨rfl, rfl⟩), filter_yes]
  have em : (ts.map tW).map firstW = (nmT ts).map Wv.str := by
    unfold nmT
    rw [List.map_map, List.map_map]; rfl
  rw [em, wp_in_strs (ys := nmT ts) (by exact rdL_last)]
  refine ⟨_, rfl, ?_⟩
  have K1 : Kx [] h (h ++ [Ob.lst ((nmT ts).map Wv.str)]) := Kx.rfl'.app _
  have el1 := at_app A.lh [Ob.lst ((nmT ts).map Wv.str)]
  generalize h ++ [Ob.lst ((nmT ts).map Wv.str)] = h1 at K1 el1 ⊢
  by_cases m : x ∈ nmT ts
  · simp only [decide_eq_true m, if_true, Bool.false_eq_true, if_false]
    rw [wp_in_strs (ys := P.hd) (by exact rd_of el1)]
    refine ⟨_, rfl, ?_⟩
    by_cases m2 : x ∈ P.hd
    · have c : ¬ (x ∈ nmT ts ∧ x ∉ P.hd) := fun z => z.2 m2
      rw [if_neg c, decide_eq_false c, Bool.false_and] at q
      simp only [decide_eq_true m2, Bool.not_true, if_true, Bool.false_eq_true, if_false, MM.wpq, wp_mkC, startM, Ty.nm, if_true, if_false, Nat.reduceAdd, Nat.reduceSub, reduceCtorEq]
      exact q _ (K1.mono (by simp)) el1 _
    · have c : x ∈ nmT ts ∧ x ∉ P.hd := ⟨m, m2⟩
      rw [if_pos c, decide_eq_true c, Bool.true_and] at q
      simp only [decide_eq_false m2, Bool.not_false, if_true]
      simp only [l1_13_4b, l1_13_4_1, l1_13_4_2, MM.wpq, wp_mkC, startM, Ty.nm, if_true, if_false, Nat.reduceAdd, Nat.reduceSub, reduceCtorEq]
      refine bm_wp ?_
      simp only [MM.wpq, wp_mkC, startM, Ty.nm, if_true, if_false, Nat.reduceAdd, Nat.reduceSub, reduceCtorEq]
      refine ⟨is_lst el1, ?_⟩
      rw [wp_app el1 (by rw [List.length_map]; omega)]
      have e2 : (h1.set P.l (.lst (P.hd.map Wv.str ++ [.str x])))[P.l]? = some (.lst (P.hd.map Wv.str ++ [.str x])) := List.getElem?_set_self (List.getElem?_eq_some_iff.mp el1).1
      try simp only [MM.wpq, wp_mkC, startM, Ty.nm, if_true, if_false, Nat.reduceAdd, Nat.reduceSub, reduceCtorEq]
      rw [wp_len_obj (rd_of e2)]
      try simp only [MM.wpq, wp_mkC, startM, Ty.nm, if_true, if_false, Nat.reduceAdd, Nat.reduceSub, reduceCtorEq]
      rw [List.length_append, List.length_map, List.length_singleton]
      have := q _ ((K1.mono (by simp)).set (.inl (by simp)) : Kx [P.l] h (h1.set P.l (.lst (P.hd.map Wv.str ++ [.str x])))) (by rw [e2, List.map_append]; rfl)
      exact this _
  · have c : ¬ (x ∈ nmT ts ∧ x ∉ P.hd) := fun z => m z.1
    rw [if_neg c, decide_eq_false c, Bool.false_and] at q
    simp only [decide_eq_false m, Bool.false_eq_true, if_false, MM.wpq, wp_mkC, startM, Ty.nm, if_true, if_false, Nat.reduceAdd, Nat.reduceSub, reduceCtorEq]
    exact q _ (K1.mono (by simp)) el1 _
theorem w45_wp {rest : SM} (I : Inv h k p o3 s7 pl order ts need (l1 ++ P :: l2)) (hk : k ≤ 100) (q : ∀ h' R b15 b16, Inv h' (k + 1) p o3 s7 pl order ts need (l1 ++ R :: l2) → R.i = P.i → R.l = P.l → wpM (rest (T a0 a1 p o3 (some (.str x)) a5 a6 s7 a8 need a10 pl a12 (some (.obj P.i)) (some (.obj P.l)) b15 b16 a17)) h' Q) : wpM (sSeq l1_13_4 (sSeq l1_13_5 rest) (T a0 a1 p o3 (some (.str x)) a5 a6 s7 a8 need a10 pl a12 (some (.obj P.i)) (some (.obj P.l)) (some (.bl false)) a16 a17)) h Q := by
  have A := I.at_ P (by simp)
  have few := A.few
  have nP := I.ns.2 P (by simp)
  have nd : P.adr.Nodup := by
    have := I.dj
    simp only [List.nodup_cons] at this
    have := this.2.2.2.2.2
    rw [List.flatMap_append, List.flatMap_cons, List.nodup_append, List.nodup_append] at this
    exact this.2.1.1
  simp only [Pen.adr, List.nodup_cons, List.mem_cons, List.not_mem_nil, or_false, not_or, List.nodup_nil, and_true, not_false_iff] at nd
  obtain ⟨⟨n1, n2, n3, n4⟩, ⟨n5, n6, n7⟩, ⟨n8, n9⟩, n10⟩ := nd
  rw [wp_seq]
  refine w4_wp I hk fun h1 K1 e1 b16 => ?_
  have W1 := A.wr.kx K1 (by simp; exact ⟨n7, n9, n10⟩)
  show wpM (sSeq l1_13_5 rest _) _ _
  rw [wp_seq]
  simp only [l1_13_5, MM.wpq, wp_mkC, startM, Ty.nm, if_true, if_false, Nat.reduceAdd, Nat.reduceSub, reduceCtorEq]
  rw [wp_isC W1.ob rfl]
  try simp only [MM.wpq, wp_mkC, startM, Ty.nm, if_true, if_false, Nat.reduceAdd, Nat.reduceSub, reduceCtorEq]
  refine wanswered_wp W1 (by have := I.ok.l8; omega) (by omega) ⟨Ne.symm n6, Ne.symm n8⟩ fun h2 K2 e2 => ?_
  rw [wp_repB]
  try simp only [MM.wpq, wp_mkC, startM, Ty.nm, if_true, if_false, Nat.reduceAdd, Nat.reduceSub, reduceCtorEq]
  rw [wp_repB, wp_neStr]
  try simp only [MM.wpq, wp_mkC, startM, Ty.nm, if_true, if_false, Nat.reduceAdd, Nat.reduceSub, reduceCtorEq]
  have K12 : Kx [P.d, P.l] h h2 := (K1.mono (by simp)).trans (K2.mono (by simp))
  have e1' := K2.get e1 (by simpa using Ne.symm n10)
  refine q h2 ⟨P.pe, P.i, P.t, P.d, P.l, if x ∈ nmT ts ∧ x ∉ P.hd then P.hd ++ [x] else P.hd⟩ _ _ (I.upd K12 rfl ⟨K12.get A.pl (by simp; exact ⟨n3, n4⟩), ⟨K12.get A.wr.ob (by simp; exact ⟨n6, n7⟩), K12.get A.wr.tg (by simp; exact ⟨n8, n9⟩), e2⟩, e1', ?_, ?_⟩) rfl rfl
  · intro y hy
    by_cases c : x ∈ nmT ts ∧ x ∉ P.hd
    · simp only [if_pos c] at hy
      rcases List.mem_append.mp hy with m | m
      · exact A.nm y m
      · rw [List.mem_singleton.mp m]; exact c.1
    · simp only [if_neg c] at hy
      exact A.nm y hy
  · show (if x ∈ nmT ts ∧ x ∉ P.hd then P.hd ++ [x] else P.hd).length ≤ k + 1
    split
    · simp; omega
    · omega
end
end GR26

set_option maxRecDepth 100000
set_option maxHeartbeats 1000000

namespace GR26
open PySem PySem.Spec PyProof.Rows L2 K01 MM GP SP SG SC
section
variable {h : Hm} {k p o3 s7 pl : Nat} {order : List PySem.Str} {ts : List Tgt} {need : Int} {P : Pen} {pens l1 l2 : List Pen} {x : PySem.Str} {a0 a1 a4 a5 a6 a8 a10 a12 a13 a14 a15 a16 a17 : Option Wv} {Q : Fl × MM.Env → Hm → Prop}
theorem hd_cl (ok : TsOk order ts) (n : ∀ x ∈ P.hd, x ∈ nmT ts) : ∀ w ∈ P.hd.map Wv.str, SP.Cl 0 w := fun w hw => by
  obtain ⟨x, hx, rfl⟩ := List.mem_map.mp hw
  exact cl0 (ok.ei x (n x hx))
theorem w6_wp (I : Inv h k p o3 s7 pl order ts need pens) (hk : k ≤ 100) (q : ∀ h' b17, Kx [] h h' → Q (.nx, T a0 a1 p o3 a4 a5 a6 s7 a8 need a10 pl a12 a13 a14 a15 a16 b17) h') : wpM (l1_13_6 (T a0 a1 p o3 a4 a5 a6 s7 a8 need a10 pl a12 a13 a14 a15 a16 a17)) h Q := by
  have ok := I.ok
  simp only [l1_13_6, MM.wpq, wp_mkC, startM, Ty.nm, if_true, if_false, Nat.reduceAdd, Nat.reduceSub, reduceCtorEq]
  rw [wp_src_obj (rd_of I.pn)]
  refine lc_wp (its := pens.map fun P => Wv.obj P.pe) (fun t acc h1 => Kx [] h h1 ∧ acc = []) (fun t acc h1 z => at_L (rd_of (z.1.get I.pn (by simp))) t) (fun t acc h1 z => by rw [z.2]; rw [sizeLine_eq]; decide) (fun t w acc h1 ek z => ?_) (fun acc h1 z => ?_) _ 0 [] h (by simp [sL]) (Nat.zero_le _) ⟨Kx.rfl', rfl⟩
  · obtain ⟨K, rfl⟩ := z
    rw [List.getElem?_map] at ek
    obtain ⟨P, eP, rfl⟩ := Option.map_eq_some_iff.mp ek
    have A := (I.kx0 K).at_ P (List.mem_of_getElem? eP)
    have few := A.few
    simp only [MM.wpq, wp_mkC, startM, Ty.nm, if_true, if_false, Nat.reduceAdd, Nat.reduceSub, reduceCtorEq, wipeM]
    rw [wp_ix_obj (rd_of A.pl) (show atI [Wv.obj P.i, .obj P.l] 0 = some (.obj P.i) from rfl)]
    try simp only [MM.wpq, wp_mkC, startM, Ty.nm, if_true, if_false, Nat.reduceAdd, Nat.reduceSub, reduceCtorEq]
    rw [wp_ix_obj (rd_of A.pl) (show atI [Wv.obj P.i, .obj P.l] 1 = some (.obj P.l) from rfl)]
    try simp only [MM.wpq, wp_mkC, startM, Ty.nm, if_true, if_false, Nat.reduceAdd, Nat.reduceSub, reduceCtorEq]
    refine right_wp A.wr (I.kx0 K).sm A.lh ok.cl (hd_cl ok A.nm) (by have := ok.l8; omega) (by omega) fun h2 K2 => ?_
    try simp only [MM.wpq, wp_mkC, startM, Ty.nm, if_true, if_false, Nat.reduceAdd, Nat.reduceSub, reduceCtorEq, Bool.not_true, Bool.false_eq_true, if_false]
    exact K.trans K2
  · obtain ⟨K, rfl⟩ := z
    refine ⟨sz (by simp), ?_⟩
    rw [wp_eqL (n := 0) (xs := []) (ys := []) (rd_of (at_app MM.at_last _)) (rd_of MM.at_last) (fun w hw => by cases hw) (fun w hw => by cases hw) (by decide), sameL_iff.mpr rfl]
    refine ⟨_, rfl, ?_⟩
    simp only [Bool.not_true, if_true, Bool.false_eq_true, if_false, MM.wpq, wp_mkC, startM, Ty.nm, if_true, if_false, Nat.reduceAdd, Nat.reduceSub, reduceCtorEq]
    exact q _ _ ((K.app _).app _)
theorem w7_wp (I : Inv h k p o3 s7 pl order ts need (l1 ++ P :: l2)) (hk : k ≤ 100) (q : ∀ h' pens', Inv h' k p o3 s7 pl order ts need pens' → Q (.nx, T a0 a1 p o3 a4 a5 a6 s7 a8 need a10 pl a12 (some (.obj P.i)) (some (.obj P.l)) a15 a16 a17) h') : wpM (l1_13_7 (T a0 a1 p o3 a4 a5 a6 s7 a8 need a10 pl a12 (some (.obj P.i)) (some (.obj P.l)) a15 a16 a17)) h Q := by
  simp only [l1_13_7, MM.wpq, wp_mkC, startM, Ty.nm, if_true, if_false, Nat.reduceAdd, Nat.reduceSub, reduceCtorEq]
  refine draw_wp I.po (by decide) (by decide) fun d h1 g d0 d1 => ?_
  have I1 := I.gp g
  try simp only [MM.wpq, wp_mkC, startM, Ty.nm, if_true, if_false, Nat.reduceAdd, Nat.reduceSub, reduceCtorEq]
  by_cases c : d = 0
  · simp only [c, decide_true, if_true]
    rw [wp_len_obj (rd_of I1.pn), List.length_map]
    try simp only [MM.wpq, wp_mkC, startM, Ty.nm, if_true, if_false, Nat.reduceAdd, Nat.reduceSub, reduceCtorEq]
    by_cases c4 : (((l1 ++ P :: l2).length : Nat) : Int) < 4
    · simp only [decide_eq_true c4, if_true]
      refine bm_wp ?_
      simp only [MM.wpq, wp_mkC, startM, Ty.nm, if_true, if_false, Nat.reduceAdd, Nat.reduceSub, reduceCtorEq]
      have A := I1.at_ P (by simp)
      refine ⟨is_lst I1.pn, ?_⟩
      rw [wp_isC A.wr.ob rfl]
      try simp only [MM.wpq, wp_mkC, startM, Ty.nm, if_true, if_false, Nat.reduceAdd, Nat.reduceSub, reduceCtorEq]
      refine wtwin_wp A.wr fun g2 W2 => ?_
      try simp only [MM.wpq, wp_mkC, startM, Ty.nm, if_true, if_false, Nat.reduceAdd, Nat.reduceSub, reduceCtorEq]
      have el := at_app A.lh g2
      rw [listOf_lst el]
      try simp only [MM.wpq, wp_mkC, startM, Ty.nm, if_true, if_false, Nat.reduceAdd, Nat.reduceSub, reduceCtorEq]
      refine ⟨sz (by simp), ?_⟩
      have K1 : Kx [] h1 (h1 ++ g2 ++ [Ob.lst (P.hd.map Wv.str)] ++ [Ob.lst [.obj h1.length, .obj (h1 ++ g2).length]]) := ((Kx.rfl'.app _).app _).app _
      have I2 := I1.kx0 K1
      rw [wp_app I2.pn (by rw [List.length_map]; have := I.four; omega)]
      have lg : (h1 ++ g2).length = h1.length + g2.length := List.length_append
      have l4 := (List.getElem?_eq_some_iff.mp W2.he).1
      have lb : (h1 ++ g2 ++ [Ob.lst (P.hd.map Wv.str)]).length = (h1 ++ g2).length + 1 := by rw [List.length_append]; rfl
      have I3 := I1.add (R := ⟨(h1 ++ g2 ++ [Ob.lst (P.hd.map Wv.str)]).length, h1.length, h1.length + 1, h1.length + 3, (h1 ++ g2).length, P.hd⟩) K1 (fun j hj => by
        simp only [Pen.adr, List.mem_cons, List.not_mem_nil, or_false] at hj
        omega) (by
        simp only [Pen.adr, List.nodup_cons, List.mem_cons, List.not_mem_nil, or_false, not_or, List.nodup_nil, and_true, not_false_iff]
        omega) ⟨MM.at_last, (W2.app _).app _, at_app MM.at_last _, A.nm, A.few⟩ (by omega)
      exact q _ _ I3
    · simp only [decide_eq_false c4, Bool.false_eq_true, if_false, MM.wpq, wp_mkC, startM, Ty.nm, if_true, if_false, Nat.reduceAdd, Nat.reduceSub, reduceCtorEq]
      exact q _ _ I1
  · simp only [c, decide_false, Bool.false_eq_true, if_false, MM.wpq, wp_mkC, startM, Ty.nm, if_true, if_false, Nat.reduceAdd, Nat.reduceSub, reduceCtorEq]
    exact q _ _ I1
theorem turn_wp (I : Inv h k p o3 s7 pl order ts need pens) (hk : k ≤ 50) (q : ∀ h' pens' b4 b13 b14 b15 b16 b17, Inv h' (k + 1) p o3 s7 pl order ts need pens' → Q (.nx, T a0 a1 p o3 b4 a5 a6 s7 a8 need a10 pl a12 b13 b14 b15 b16 b17) h') : wpM (l1_13b (T a0 a1 p o3 a4 a5 a6 s7 a8 need a10 pl a12 a13 a14 a15 a16 a17)) h Q := by
  unfold l1_13b
  rw [wp_seq]
  refine w1_wp I fun h1 l1 P l2 I1 => ?_
  show wpM (sSeq l1_13_2 _ _) _ _
  rw [wp_seq]
  refine w2_wp I1 fun h2 x I2 => ?_
  show wpM (sSeq l1_13_3 _ _) _ _
  rw [wp_seq]
  unfold l1_13_3
  rw [wp_set, wp_c]
  show wpM (sSeq l1_13_4 (sSeq l1_13_5 (sSeq l1_13_6 l1_13_7)) _) _ _
  refine w45_wp I2 (by omega) fun h' R b15 b16 I3 e1 e2 => ?_
  rw [wp_seq]
  refine w6_wp I3 (by omega) fun h6 b17 K6 => ?_
  show wpM (l1_13_7 _) _ _
  rw [← e1, ← e2]
  exact w7_wp (I3.kx0 K6) (by omega) fun h7 pens' I7 => q h7 pens' _ _ _ _ _ _ I7
end
end GR26

set_option maxRecDepth 100000
set_option maxHeartbeats 1000000

namespace GR26
open PySem PySem.Spec PyProof.Rows L2 K01 MM GP SP SG SC
theorem wp_seq3 {a b c : SM} {ρ : MM.Env} {h : Hm} {Q : Fl × MM.Env → Hm → Prop} : wpM (sSeq a (sSeq b c) ρ) h Q ↔ wpM (sSeq (sSeq a b) c ρ) h Q := by
  simp only [wp_seq]
section
variable {h : Hm} {p : Nat} {a0 a1 a2 a3 a4 a5 a6 a7 a8 a9 a10 a11 a12 a13 a14 a15 a16 a17 : Option Wv} {Q : Fl × MM.Env → Hm → Prop}
theorem cut_8 : ∀ n ∈ List.range 9, ((cutS "abcdefgh" none (some ((n : Int)))).cps.toList.map fun c => (⟨#[c]⟩ : PySem.Str)) = eight.take n := by decide +kernel
theorem signs_at {x : PySem.Str} {ys : List PySem.Str} (e : (x.cps.toList.map fun c => (⟨#[c]⟩ : PySem.Str)) = ys) (k : Nat) (h : Hm) : (sS x).at_ k h = some ((ys.map Wv.str)[k]?) := by
  rw [← e, List.map_map, List.getElem?_map]
  show some (x.cps[k]?.map fun ch => Wv.str ⟨#[ch]⟩) = _
  rw [Array.getElem?_toList]
  rfl
theorem order_wp (P : SP.Pool h p) (p0 : 0 < p) (q : ∀ o3 h' order b4, Gp p h h' → h.length ≤ o3 → h'[o3]? = some (.lst (order.map .str)) → Nm order → 1 ≤ order.length → order.length ≤ 8 → Q (.nx, [a0, a1, some (.obj p), some (.obj o3), b4, a5, a6, a7, a8, a9, a10, a11, a12, a13, a14, a15, a16, a17]) h') : wpM (sSeq l1_2 l1_3 [a0, a1, some (.obj p), a3, a4, a5, a6, a7, a8, a9, a10, a11, a12, a13, a14, a15, a16, a17]) h Q := by
  have pl := pool_lt P
  rw [wp_seq]
  simp only [l1_2, MM.wpq, wp_mkC, startM, Ty.nm, if_true, if_false, Nat.reduceAdd, Nat.reduceSub, reduceCtorEq]
  refine ⟨sz (by simp), ?_⟩
  have G0 : Gp p h (h ++ [Ob.lst []]) := (Gp.of P).app _
  show wpM (l1_3 _) _ _
  unfold l1_3
  rw [wp_for]
  simp only [l1_3i, MM.wpq, wp_mkC, startM, Ty.nm, if_true, if_false, Nat.reduceAdd, Nat.reduceSub, reduceCtorEq]
  refine draw_wp G0.po (by decide) (by decide) fun d h1 g1 d0 d1 => ?_
  try simp only [MM.wpq, wp_mkC, startM, Ty.nm, if_true, if_false, Nat.reduceAdd, Nat.reduceSub, reduceCtorEq]
  obtain ⟨n, hn⟩ : ∃ n : Nat, (1 + d) = (n : Int) := ⟨(1 + d).toNat, by omega⟩
  rw [hn]
  have e8 := cut_8 n (List.mem_range.mpr (by omega))
  have sl : slM (.str "abcdefgh") none (some (n : Int)) h1 = .ok (.str (cutS "abcdefgh" none (some (n : Int)))) h1 := by
    unfold slM
    simp only
    rw [if_pos (show ("abcdefgh" : PySem.Str).length ≤ sizeLine by rw [sizeLine_eq]; decide +kernel)]
    rfl
  rw [wp_ok sl]
  have sc := signs_at e8
  have l8 : (eight.take n).length = n := by rw [List.length_take]; show min n 8 = n; omega
  have cn : (sS (cutS "abcdefgh" none (some (n : Int)))).cnt = n := by
    have := congrArg List.length e8
    rw [List.length_map, l8] at this
    show (cutS "abcdefgh" none (some (n : Int))).cps.size = n
    simpa using this
  have e0 : h1[h.length]? = some (.lst []) := g1.get MM.at_last (by omega)
  try simp only [MM.wpq, wp_mkC, startM, Ty.nm, if_true, if_false, Nat.reduceAdd, Nat.reduceSub, reduceCtorEq]
  have its : ∀ k h, (sS (cutS "abcdefgh" none (some (n : Int)))).at_ k h = some (((eight.take n).map Wv.str)[k]?) := fun k h => sc k h
  generalize sS (cutS "abcdefgh" none (some (n : Int))) = S at cn its
  refine for_wp (its := (eight.take n).map Wv.str) (fun t ρ h2 => (∃ order : List PySem.Str, Gp p h h2 ∧ h2[h.length]? = some (.lst (order.map .str)) ∧ Nm order ∧ order.length = t) ∧ ∃ b4, ρ = [a0, a1, some (.obj p), some (.obj h.length), b4, a5, a6, a7, a8, a9, a10, a11, a12, a13, a14, a15, a16, a17]) (fun k ρ h2 z => its k h2) (fun t w ρ h2 ek z => ?_) (fun ρ h2 z => ?_) _ 0 _ _ (by rw [List.length_map, l8]; omega) (Nat.zero_le _) ⟨⟨[], G0.trans g1, e0, (fun x hx => by cases hx), rfl⟩, a4, rfl⟩
  · obtain ⟨⟨order, G, e3, nm, lo⟩, b4, rfl⟩ := z
    rw [List.getElem?_map] at ek
    obtain ⟨y, ey, rfl⟩ := Option.map_eq_some_iff.mp ek
    have tl := (List.getElem?_eq_some_iff.mp ey).1
    have hy : y ∈ eight := List.mem_of_mem_take (List.mem_of_getElem? ey)
    rw [wp_gN]
    simp only [l1_3b, l1_3_1, MM.wpq, wp_mkC, startM, Ty.nm, if_true, if_false, Nat.reduceAdd, Nat.reduceSub, reduceCtorEq]
    refine bm_wp ?_
    simp only [MM.wpq, wp_mkC, startM, Ty.nm, if_true, if_false, Nat.reduceAdd, Nat.reduceSub, reduceCtorEq]
    refine ⟨is_lst e3, ?_⟩
    rw [wp_len_obj (rd_of e3), List.length_map]
    try simp only [MM.wpq, wp_mkC, startM, Ty.nm, if_true, if_false, Nat.reduceAdd, Nat.reduceSub, reduceCtorEq]
    refine draw_wp G.po (by omega) (by omega) fun d2 h3 g3 d20 d21 => ?_
    try simp only [MM.wpq, wp_mkC, startM, Ty.nm, if_true, if_false, Nat.reduceAdd, Nat.reduceSub, reduceCtorEq]
    have e4 := g3.get e3 (by omega)
    rw [wp_ins e4 (by rw [List.length_map, lo]; exact Nat.lt_of_lt_of_le (by omega : t < 1000000) (by rw [sizeLine_eq]; omega)) d20 (by omega)]
    have G4 := (G.trans g3).put (.lst ((order.map Wv.str).take d2.toNat ++ [.str y] ++ (order.map Wv.str).drop d2.toNat)) (Nat.le_refl _) (by omega)
    refine ⟨⟨order.take d2.toNat ++ [y] ++ order.drop d2.toNat, G4, ?_, fun x hx => ?_, ?_⟩, _, rfl⟩
    · rw [List.getElem?_set_self (List.getElem?_eq_some_iff.mp e4).1, List.map_append, List.map_append, List.map_take, List.map_drop]; rfl
    · simp only [List.mem_append, List.mem_singleton] at hx
      rcases hx with (m | rfl) | m
      · exact nm x (List.mem_of_mem_take m)
      · exact hy
      · exact nm x (List.mem_of_mem_drop m)
    · simp only [List.length_append, List.length_take, List.length_drop, List.length_singleton]
      omega
  · obtain ⟨⟨order, G, e3, nm, lo⟩, b4, rfl⟩ := z
    rw [List.length_map, l8] at lo
    exact q _ _ order _ G (Nat.le_refl _) e3 nm (by omega) (by omega)
abbrev Z (p o3 : Nat) (a0 a1 a4 a5 a6 a7 a8 a9 a10 a11 a12 a13 a14 a15 a16 a17 : Option Wv) : MM.Env := [a0, a1, some (.obj p), some (.obj o3), a4, a5, a6, a7, a8, a9, a10, a11, a12, a13, a14, a15, a16, a17]
theorem away_wp {o3 : Nat} {order : List PySem.Str} (P : SP.Pool h p) (ne : o3 ≠ p) (eo : h[o3]? = some (.lst (order.map .str))) (nm : Nm order) (few : order.length ≤ 8) (q : ∀ h' aw (away : List PySem.Str), Gp p h h' → h.length ≤ aw → h'[aw]? = some (.lst (away.map .str)) → Q (.nx, Z p o3 a0 a1 a4 a5 (some (.obj aw)) a7 a8 a9 a10 a11 a12 a13 a14 a15 a16 a17) h') : wpM (l1_5 (Z p o3 a0 a1 a4 a5 a6 a7 a8 a9 a10 a11 a12 a13 a14 a15 a16 a17)) h Q := by
  simp only [l1_5, MM.wpq, wp_mkC, startM, Ty.nm, if_true, if_false, Nat.reduceAdd, Nat.reduceSub, reduceCtorEq]
  rw [wp_src_obj (rd_of eo)]
  refine lc_wp (its := order.map Wv.str) (fun k acc h1 => Gp p h h1 ∧ (∃ away : List PySem.Str, acc = away.map .str) ∧ acc.length ≤ k ∧ k ≤ order.length) (fun k acc h1 z => at_L (rd_of (z.1.get eo ne)) k) (fun k acc h1 z => by rw [sizeLine_eq]; have := z.2.2; omega) (fun k w acc h1 ek z => ?_) (fun acc h1 z => ?_) _ 0 [] h (by simp [sL]) (Nat.zero_le _) ⟨Gp.of P, ⟨[], rfl⟩, by simp, Nat.zero_le _⟩
  · obtain ⟨G, ⟨away, rfl⟩, lk, _⟩ := z
    rw [List.getElem?_map] at ek
    obtain ⟨y, ey, rfl⟩ := Option.map_eq_some_iff.mp ek
    have kl := (List.getElem?_eq_some_iff.mp ey).1
    simp only [MM.wpq, wp_mkC, startM, Ty.nm, if_true, if_false, Nat.reduceAdd, Nat.reduceSub, reduceCtorEq, wipeM]
    refine draw_wp G.po (by decide) (by decide) fun d h2 g2 d0 d1 => ?_
    try simp only [MM.wpq, wp_mkC, startM, Ty.nm, if_true, if_false, Nat.reduceAdd, Nat.reduceSub, reduceCtorEq]
    by_cases c : d = 0
    · simp only [c, decide_true, if_true]
      exact ⟨G.trans g2, ⟨away ++ [y], by rw [List.map_append]; rfl⟩, by rw [List.length_append]; simp at lk ⊢; omega, kl⟩
    · simp only [c, decide_false, Bool.false_eq_true, if_false]
      exact ⟨G.trans g2, ⟨away, rfl⟩, by omega, kl⟩
  · obtain ⟨G, ⟨away, rfl⟩, _⟩ := z
    have := G.kx.len
    exact q _ _ away (G.app _) this MM.at_last
theorem lamcall_wp {o3 c : Nat} {order : List PySem.Str} {key : LKey} {js : List Nat} {cs : List Wv} {here : PySem.Str → Bool} {ρ : MM.Env} {Q : Wv → Hm → Prop} (e3 : ρ[3]? = some (some (.obj o3))) (e5 : ρ[5]? = some (some (.int (c : Int)))) (cp : capt ρ js = some cs) (eo : h[o3]? = some (.lst (order.map .str))) (tb : h[0]? = some (.tbl "law")) (hk : HereOk (h ++ [.fn key cs]) h.length here) (lc : c ≤ order.length) (few : order.length ≤ 1000)
    (q : ∀ r h', Kx [] h h' → h.length ≤ r → h'[r]? = some (.lst ((tgtF here (order.take c) ((order.drop c).filter here)).map tW)) → Q (.obj r) h') : wpM (eCallLam m_targets 0 "law" key js (aCons (eVar 3) (aCons (eVar 5) aNil)) ρ) h Q := by
  refine callLam_wp ?_
  simp only [MM.wpq, wp_mkC, startM, Ty.nm, if_true, if_false, Nat.reduceAdd, Nat.reduceSub, reduceCtorEq]
  refine ⟨_, e3, _, e5, ?_, cs, cp, ?_⟩
  · unfold hasTab
    simp only [tb, decide_true]
  · show wpM (m_targets [.obj o3, .int c, .obj h.length]) _ _
    refine targets_wp (at_app eo _) hk lc few fun r h' K lr er => ?_
    rw [List.length_append, List.length_singleton] at lr
    have K2 : Kx [] h h' := ⟨by have := K.len; rw [List.length_append] at this; omega, fun j l n => (K.at_ j (by rw [List.length_append]; omega) n).trans (List.getElem?_append_left l)⟩
    exact q r _ (K2.set (.inr (Nat.le_refl _))) (by omega) (by rw [List.getElem?_set_ne (by omega)]; exact er)
theorem wp_clr {i : Nat} {ws : List Wv} {Q : Wv → Hm → Prop} (e : h[i]? = some (.lst ws)) : wpM (clrM (.obj i) []) h Q ↔ Q .non (h.set i (.lst [])) := wp_ok (by unfold clrM; simp only [lst_of e])
theorem bm0_wp {t : Wv → Hm → Bool} {f : FT} {o : EM} {ρ : MM.Env} {Q : Wv → Hm → Prop} (z : wpM (o ρ) h fun w h1 => t w h1 = true ∧ wpM (f w []) h1 Q) : wpM (eBm0 t f o ρ) h Q := by
  obtain ⟨w, h1, e1, tt, u, h2, e2, q⟩ := z
  refine ⟨u, h2, ?_, q⟩
  unfold eBm0
  rw [bind_run e1]
  show (if t w h1 = true then _ else _) = _
  rw [if_pos tt]
  exact e2
end
end GR26

set_option maxRecDepth 100000
set_option maxHeartbeats 1000000

namespace GR26
open PySem PySem.Spec PyProof.Rows L2 K01 MM GP SP SG SC
section
variable {h : Hm} {a0 a1 a2 a3 a4 a5 a6 a7 a8 a9 a10 a11 a12 a13 a14 a15 a16 a17 : Option Wv} {Q : Fl × MM.Env → Hm → Prop}
theorem pens_wp {p o3 s7 : Nat} {c : Int} {aw : Option Wv} {order : List PySem.Str} {ts : List Tgt} (P : SP.Pool h p) (tb : h[0]? = some (.tbl "law")) (ok : TsOk order ts) (eo : h[o3]? = some (.lst (order.map .str))) (es : h[s7]? = some (.lst (ts.map tW))) (nd : [0, p, o3, s7].Nodup)
    (q : ∀ h' b4 b9 b10 b11 b12 b13 b14 b15 b16 b17, h'[0]? = some (.tbl "law") → Q (.nx, Z p o3 a0 a1 b4 a5 a6 (some (.obj s7)) a8 b9 b10 b11 b12 b13 b14 b15 b16 b17) h') :
    wpM (sSeq l1_9 (sSeq l1_10 (sSeq l1_11 (sSeq l1_12 l1_13))) (Z p o3 a0 a1 a4 a5 a6 (some (.obj s7)) a8 a9 a10 a11 a12 a13 a14 a15 a16 a17)) h Q := by
  have ndL : (0 ≠ p ∧ 0 ≠ o3 ∧ 0 ≠ s7) ∧ (p ≠ o3 ∧ p ≠ s7) ∧ o3 ≠ s7 := by
    simp only [List.nodup_cons, List.mem_cons, List.not_mem_nil, or_false, not_or, List.nodup_nil, and_true, not_false_iff] at nd
    exact nd
  obtain ⟨⟨n1, n2, n3⟩, ⟨n4, n5⟩, n6⟩ := ndL
  rw [wp_seq]
  unfold l1_9
  rw [wp_set, wp_op, wp_c, wp_call, wp_aCons, wp_var]
  refine ⟨.obj p, rfl, ?_⟩
  rw [wp_aCons, wp_c, wp_aNil]
  refine draw_wp P (by decide) (by decide) fun d h1 g d0 d1 => ?_
  rw [wp_ok (show addM (.int 1) (.int d) h1 = .ok (.int (1 + d)) h1 from rfl)]
  show wpM (sSeq l1_10 _ _) _ _
  rw [wp_seq]
  simp only [l1_10, MM.wpq, wp_mkC, startM, Ty.nm, if_true, if_false, Nat.reduceAdd, Nat.reduceSub, reduceCtorEq]
  have es1 := g.get es (Ne.symm n5)
  have eo1 := g.get eo (Ne.symm n4)
  have tb1 := g.get tb n1
  rw [listOf_lst es1]
  have K2 : Kx [] h1 (h1 ++ [Ob.lst (ts.map tW)]) := Kx.rfl'.app _
  have eh : (h1 ++ [Ob.lst (ts.map tW)])[h1.length]? = some (.lst (ts.map tW)) := MM.at_last
  have l2 : (h1 ++ [Ob.lst (ts.map tW)]).length = h1.length + 1 := by simp
  generalize h1 ++ [Ob.lst (ts.map tW)] = h2 at K2 eh l2 ⊢
  simp only [l1_11, MM.wpq, startM, Ty.nm, if_true, if_false, Nat.reduceAdd, Nat.reduceSub, reduceCtorEq]
  refine ⟨sz (by simp), sz (by simp), sz (by simp), ?_⟩
  refine wmake_wp eh ?_
  have W0 : WrAt (h2 ++ [.ins "Writing" (wrF (h2.length + 1) (h2.length + 2) (1 + d)), .lst (ts.map tW), .lst []]) h2.length (h2.length + 1) (h2.length + 2) ts (1 + d) [] := ⟨at_mid, at_1, at_2⟩
  have K3 : Kx [] h1 (h2 ++ [.ins "Writing" (wrF (h2.length + 1) (h2.length + 2) (1 + d)), .lst (ts.map tW), .lst []]) := K2.app _
  have eh3 := at_app eh [.ins "Writing" (wrF (h2.length + 1) (h2.length + 2) (1 + d)), .lst (ts.map tW), .lst []]
  have l3 : (h2 ++ [Ob.ins "Writing" (wrF (h2.length + 1) (h2.length + 2) (1 + d)), .lst (ts.map tW), .lst []]).length = h2.length + 3 := by simp
  generalize h2 ++ [Ob.ins "Writing" (wrF (h2.length + 1) (h2.length + 2) (1 + d)), .lst (ts.map tW), .lst []] = h3 at W0 K3 eh3 l3 ⊢
  try simp only [MM.wpq, startM, Ty.nm, if_true, if_false, Nat.reduceAdd, Nat.reduceSub, reduceCtorEq]
  refine ⟨sz (by simp), sz (by simp), sz (by simp), ?_⟩
  have l4 : (h3 ++ [Ob.lst ([] : List Wv)]).length = h3.length + 1 := by simp
  have l5 : (h3 ++ [Ob.lst ([] : List Wv)] ++ [Ob.lst [Wv.obj h2.length, .obj h3.length]]).length = h3.length + 2 := by simp
  have W5 := ((W0.app [Ob.lst ([] : List Wv)]).app [Ob.lst [Wv.obj h2.length, .obj h3.length]]).app [Ob.lst [Wv.obj (h3 ++ [Ob.lst ([] : List Wv)]).length]]
  have eL : (h3 ++ [Ob.lst ([] : List Wv)] ++ [Ob.lst [Wv.obj h2.length, .obj h3.length]] ++ [Ob.lst [Wv.obj (h3 ++ [Ob.lst ([] : List Wv)]).length]])[h3.length]? = some (.lst []) := at_app (at_app MM.at_last _) _
  have eP : (h3 ++ [Ob.lst ([] : List Wv)] ++ [Ob.lst [Wv.obj h2.length, .obj h3.length]] ++ [Ob.lst [Wv.obj (h3 ++ [Ob.lst ([] : List Wv)]).length]])[(h3 ++ [Ob.lst ([] : List Wv)]).length]? = some (.lst [Wv.obj h2.length, .obj h3.length]) := at_app MM.at_last _
  have eN : (h3 ++ [Ob.lst ([] : List Wv)] ++ [Ob.lst [Wv.obj h2.length, .obj h3.length]] ++ [Ob.lst [Wv.obj (h3 ++ [Ob.lst ([] : List Wv)]).length]])[(h3 ++ [Ob.lst ([] : List Wv)] ++ [Ob.lst [Wv.obj h2.length, .obj h3.length]]).length]? = some (.lst [Wv.obj (h3 ++ [Ob.lst ([] : List Wv)]).length]) := MM.at_last
  have eh5 := at_app (at_app (at_app eh3 [Ob.lst ([] : List Wv)]) [Ob.lst [Wv.obj h2.length, .obj h3.length]]) [Ob.lst [Wv.obj (h3 ++ [Ob.lst ([] : List Wv)]).length]]
  have K5 : Kx [] h1 (h3 ++ [Ob.lst ([] : List Wv)] ++ [Ob.lst [Wv.obj h2.length, .obj h3.length]] ++ [Ob.lst [Wv.obj (h3 ++ [Ob.lst ([] : List Wv)]).length]]) := ((K3.app _).app _).app _
  rw [l5] at eN ⊢
  rw [l4] at eP eN eL eh5 K5 W5 ⊢
  generalize h3 ++ [Ob.lst ([] : List Wv)] ++ [Ob.lst [Wv.obj h2.length, .obj h3.length]] ++ [Ob.lst [Wv.obj (h3.length + 1)]] = h5 at eP eN eL eh5 K5 W5 ⊢
  simp only [l1_12, MM.wpq, startM, Ty.nm, if_true, if_false, Nat.reduceAdd, Nat.reduceSub, reduceCtorEq]
  refine bm0_wp ?_
  simp only [MM.wpq, startM, Ty.nm, if_true, if_false, Nat.reduceAdd, Nat.reduceSub, reduceCtorEq]
  refine ⟨is_lst eh5, ?_⟩
  rw [wp_clr eh5]
  have K6 : Kx [] h1 (h5.set h1.length (.lst [])) := K5.set (.inr (Nat.le_refl _))
  have K56 : Kx [h1.length] h5 (h5.set h1.length (.lst [])) := Kx.rfl'.set (.inl (by simp))
  generalize h5.set h1.length (.lst []) = h6 at K6 K56 ⊢
  have P6 : SP.Pool h6 p := pool_kx g.po K6 (by simp)
  have lt1 := pool_lt g.po
  have lto := (List.getElem?_eq_some_iff.mp eo1).1
  have lts := (List.getElem?_eq_some_iff.mp es1).1
  have I0 : Inv h6 0 p o3 s7 (h3.length + 2) order ts (1 + d) [⟨h3.length + 1, h2.length, h2.length + 1, h2.length + 2, h3.length, []⟩] := by
    refine ⟨P6, K6.get tb1 (by simp), ok, K6.get eo1 (by simp), K6.get es1 (by simp), K56.get eN (by simp; omega), fun O hO => ?_, ?_, by simp, by simp⟩
    · rw [List.mem_singleton.mp hO]
      exact ⟨K56.get eP (by simp; omega), W5.kx K56 (by simp; omega), K56.get eL (by simp; omega), (fun x hx => by cases hx), Nat.zero_le _⟩
    · show (0 :: p :: o3 :: s7 :: (h3.length + 2) :: ([h3.length + 1, h2.length, h2.length + 1, h2.length + 2, h3.length] ++ [])).Nodup
      rw [List.append_nil]
      simp only [List.nodup_cons, List.mem_cons, List.not_mem_nil, or_false, not_or, List.nodup_nil, and_true, not_false_iff]
      omega
  simp only [l1_13, MM.wpq, startM, Ty.nm, if_true, if_false, Nat.reduceAdd, Nat.reduceSub, reduceCtorEq]
  simp only [l1_13i, MM.wpq, startM, Ty.nm, if_true, if_false, Nat.reduceAdd, Nat.reduceSub, reduceCtorEq]
  rw [wp_rng1 (by decide)]
  refine for_wp (its := (List.range (14 : Int).toNat).map fun (k : Nat) => Wv.int (0 + k)) (fun t ρ h3' => t ≤ 14 ∧ ∃ pens, Inv h3' t p o3 s7 (h3.length + 2) order ts (1 + d) pens ∧ ∃ b4 b12 b13 b14 b15 b16 b17, ρ = T a0 a1 p o3 b4 a5 a6 s7 a8 (1 + d) (some (.obj h1.length)) (h3.length + 2) b12 b13 b14 b15 b16 b17) (fun k ρ h2 z => its_rng k h2) (fun k w ρ h3 ek z => ?_) (fun ρ h3 z => ?_) _ 0 _ _ (by simp [sR]) (Nat.zero_le _) ⟨Nat.zero_le _, _, I0, _, _, _, _, _, _, _, rfl⟩
  · obtain ⟨_, pens, I, b4, b12, b13, b14, b15, b16, b17, rfl⟩ := z
    have kl := (List.getElem?_eq_some_iff.mp ek).1
    rw [List.length_map, List.length_range] at kl
    have kl : k < 14 := kl
    rw [wp_gN]
    exact turn_wp I (by omega) fun h' pens' c4 c13 c14 c15 c16 c17 I' => ⟨kl, pens', I', _, _, _, _, _, _, _, rfl⟩
  · obtain ⟨_, pens, I, b4, b12, b13, b14, b15, b16, b17, rfl⟩ := z
    exact q _ _ _ _ _ _ _ _ _ _ _ I.tb
end
end GR26

set_option maxRecDepth 100000
set_option maxHeartbeats 1000000

namespace GR26
open PySem PySem.Spec PyProof.Rows L2 K01 MM GP SP SG SC
section
variable {h : Hm} {a0 a1 a2 a3 a4 a5 a6 a7 a8 a9 a10 a11 a12 a13 a14 a15 a16 a17 : Option Wv} {Q : Fl × MM.Env → Hm → Prop}
theorem plain_wp {p o3 c : Nat} {order : List PySem.Str} (eo : h[o3]? = some (.lst (order.map .str))) (lc : c ≤ order.length) (few : order.length ≤ 8) (q : ∀ r h', Kx [] h h' → h.length ≤ r → h'[r]? = some (.lst (((order.take c).map fun y => ((y, .non) : Tgt)).map tW)) → Q (.nx, Z p o3 a0 a1 a4 (some (.int c)) a6 a7 (some (.obj r)) a9 a10 a11 a12 a13 a14 a15 a16 a17) h') : wpM (l1_7 (Z p o3 a0 a1 a4 (some (.int c)) a6 a7 a8 a9 a10 a11 a12 a13 a14 a15 a16 a17)) h Q := by
  simp only [l1_7, MM.wpq, wp_mkC, startM, Ty.nm, if_true, if_false, Nat.reduceAdd, Nat.reduceSub, reduceCtorEq]
  rw [wp_sl_obj (rd_of eo), cutW_map, cutW_to lc]
  have e2 : (h ++ [Ob.lst ((order.take c).map Wv.str)])[h.length]? = some (.lst ((order.take c).map Wv.str)) := MM.at_last
  rw [wp_src_obj (rd_of e2)]
  rw [lc_const (its := (order.take c).map Wv.str) (fun _ => true) (fun w => .tup [w, .non]) (at_L (rd_of e2)) (by simp [sL]) (by rw [List.length_map, List.length_take]; omega) (fun u hu => by
    obtain ⟨x, _, rfl⟩ := List.mem_map.mp hu
    simp only [MM.wpq, wp_mkC, startM, Ty.nm, if_true, if_false, Nat.reduceAdd, Nat.reduceSub, reduceCtorEq, wipeM]
    exact fun _ => sz (by simp)), filter_yes]
  rw [List.map_map]
  refine q _ _ ((Kx.rfl'.app _).app _) (by simp) ?_
  rw [MM.at_last, List.map_map]; rfl
theorem body_wp {ls : List Int} {kk : Int} (l63 : ls.length ≤ 63) (k0 : 0 ≤ kk) (k1 : kk < 2 ^ 60) (tb : h[0]? = some (.tbl "law")) (q : ∀ h' b2 b3 b4 b5 b6 b7 b8 b9 b10 b11 b12 b13 b14 b15 b16 b17, h'[0]? = some (.tbl "law") → Q (.nx, [some (.scr ls), some (.int kk), b2, b3, b4, b5, b6, b7, b8, b9, b10, b11, b12, b13, b14, b15, b16, b17]) h') : wpM (l1b [some (.scr ls), some (.int kk), a2, a3, a4, a5, a6, a7, a8, a9, a10, a11, a12, a13, a14, a15, a16, a17]) h Q := by
  have l0 := (List.getElem?_eq_some_iff.mp tb).1
  unfold l1b
  rw [wp_seq]
  unfold l1_1
  rw [wp_set, wp_call, wp_aCons, wp_var]
  refine ⟨.scr ls, rfl, ?_⟩
  rw [wp_aCons, wp_var]
  refine ⟨.int kk, rfl, ?_⟩
  rw [wp_aNil]
  refine hand_wp k0 k1 l63 fun p g P lp => ?_
  have tb1 : (h ++ g)[0]? = some (.tbl "law") := at_app tb g
  generalize h ++ g = h1 at P tb1 ⊢
  show wpM (sSeq l1_2 (sSeq l1_3 (sSeq l1_4 (sSeq l1_5 (sSeq l1_6 (sSeq l1_7 (sSeq l1_8 (sSeq l1_9 (sSeq l1_10 (sSeq l1_11 (sSeq l1_12 l1_13))))))))))  _) _ _
  rw [wp_seq3]
  rw [wp_seq]
  refine order_wp P (by omega) fun o3 h2 order b4 G lo eo nm o1 o8 => ?_
  show wpM (sSeq l1_4 _ _) _ _
  rw [wp_seq]
  have tb2 := G.get tb1 (by omega)
  have lh1 := (List.getElem?_eq_some_iff.mp tb1).1
  have pl1 := pool_lt P
  have ne : o3 ≠ p := by omega
  unfold l1_4
  rw [wp_set, wp_op, wp_c, wp_call, wp_aCons, wp_var]
  refine ⟨.obj p, rfl, ?_⟩
  rw [wp_aCons, wp_call, wp_aCons, wp_c, wp_aCons, wp_call, wp_aCons, wp_var]
  refine ⟨.obj o3, rfl, ?_⟩
  rw [wp_aNil, wp_len_obj (rd_of eo), List.length_map, wp_aNil]
  obtain ⟨m, em, m1, m5⟩ : ∃ m : Int, min2 [.int 5, .int (order.length : Int)] h2 = .ok (.int m) h2 ∧ 1 ≤ m ∧ m ≤ order.length := ⟨if (order.length : Int) < 5 then (order.length : Int) else 5, rfl, by split <;> omega, by split <;> omega⟩
  rw [wp_ok em, wp_aNil]
  refine draw_wp G.po (by omega) (by omega) fun d h3 g3 d0 d1 => ?_
  obtain ⟨c, hc⟩ : ∃ c : Nat, 1 + d = (c : Int) := ⟨(1 + d).toNat, by omega⟩
  rw [wp_ok (show addM (.int 1) (.int d) h3 = .ok (.int (1 + d)) h3 from rfl), hc]
  have lc : c ≤ order.length := by omega
  have eo3 := g3.get eo ne
  have tb3 := g3.get tb2 (by omega)
  show wpM (sSeq l1_5 _ _) _ _
  rw [wp_seq]
  refine away_wp g3.po ne eo3 nm o8 fun h4 aw away G4 la ea => ?_
  have eo4 := G4.get eo3 ne
  have tb4 := G4.get tb3 (by omega)
  show wpM (sSeq l1_6 _ _) _ _
  rw [wp_seq]
  unfold l1_6
  rw [wp_set]
  have law' := (List.getElem?_eq_some_iff.mp ea).1
  have lo4 := (List.getElem?_eq_some_iff.mp eo4).1
  refine lamcall_wp (here := fun x => !decide (x ∈ away)) (c := c) rfl rfl rfl eo4 tb4 (here_0 MM.at_last (at_app ea _)) lc (by omega) fun s7 h5 K5 l5 e5 => ?_
  have eo5 := K5.get eo4 (by simp)
  have tb5 := K5.get tb4 (by simp)
  have ea5 := K5.get ea (by simp)
  have P5 : SP.Pool h5 p := pool_kx G4.po K5 (by simp)
  show wpM (sSeq l1_7 _ _) _ _
  rw [wp_seq]
  refine plain_wp eo5 lc o8 fun r8 h6 K6 l6 e6 => ?_
  have eo6 := K6.get eo5 (by simp)
  have tb6 := K6.get tb5 (by simp)
  have ea6 := K6.get ea5 (by simp)
  have es6 := K6.get e5 (by simp)
  have P6 : SP.Pool h6 p := pool_kx P5 K6 (by simp)
  show wpM (sSeq l1_8 _ _) _ _
  rw [wp_seq]
  have nd : Nm ((order.drop c).filter fun x => !decide (x ∈ away)) := fun x hx => nm x (List.mem_of_mem_drop (List.mem_filter.mp hx).1)
  have nt : Nm (order.take c) := fun x hx => nm x (List.mem_of_mem_take hx)
  have cl := tgtF_cl (here := fun x => !decide (x ∈ away)) nt nd
  have cl2 := tgtF_cl (here := fun _ => true) nt (fun x hx => nm x (List.mem_of_mem_drop (List.mem_filter.mp hx).1) : Nm ((order.drop c).filter fun _ => true))
  generalize ets : tgtF (fun x => !decide (x ∈ away)) (order.take c) ((order.drop c).filter fun x => !decide (x ∈ away)) = ts at e5 es6 cl
  unfold l1_8
  rw [wp_sIf, wp_tOr, wp_tOf, wp_op, wp_var]
  refine ⟨.obj s7, rfl, ?_⟩
  rw [wp_call, wp_aCons, wp_var]
  refine ⟨.obj o3, rfl, ?_⟩
  rw [wp_aCons, wp_var]
  refine ⟨.int c, rfl, ?_⟩
  rw [wp_aCons, wp_var]
  refine ⟨.obj aw, rfl, ?_⟩
  rw [wp_aNil]
  refine due_wp eo6 ea6 lc (by omega) nm fun r7 h7 K7 l7 e7 => ?_
  rw [ets] at e7
  rw [wp_eqL (n := 1) (rd_of (K7.get es6 (by simp))) (rd_of e7) cl cl (by decide), sameL_iff.mpr rfl]
  refine ⟨_, rfl, ?_⟩
  rw [if_neg (by decide)]
  rw [wp_tOf, wp_op]
  refine lamcall_wp (here := fun _ => true) (c := c) rfl rfl rfl (K7.get eo6 (by simp)) (K7.get tb6 (by simp)) (here_1 MM.at_last) lc (by omega) fun s9 h8 K8 l8 e8 => ?_
  rw [wp_var]
  refine ⟨.obj r8, rfl, ?_⟩
  rw [tgtF_all] at e8 cl2
  have K78 := K7.trans K8
  rw [wp_eqL (n := 1) (rd_of e8) (rd_of (K78.get e6 (by simp))) cl2 cl2 (by decide), sameL_iff.mpr rfl]
  refine ⟨_, rfl, ?_⟩
  rw [if_neg (by decide), wp_sNil]
  have ok : TsOk order ts := by
    refine ⟨nm, o8, cl, fun x hx => ?_, ?_⟩
    · rw [← ets] at hx
      obtain ⟨b, hb, rfl⟩ := List.mem_map.mp hx
      exact (tgtF_ok nt nd b hb).1
    · rw [← ets]
      have := tgtF_len (fun x => !decide (x ∈ away)) (order.take c) ((order.drop c).filter fun x => !decide (x ∈ away))
      rw [List.length_take] at this
      omega
  have p4 := pool_lt G4.po
  refine pens_wp (c := c) (aw := none) (pool_kx P6 K78 (by simp)) (K78.get tb6 (by simp)) ok (K78.get eo6 (by simp)) (K78.get es6 (by simp)) ?_ fun h' b4 b9 b10 b11 b12 b13 b14 b15 b16 b17 tb' => q h' _ _ _ _ _ _ _ _ _ _ _ _ _ _ _ _ tb'
  simp only [List.nodup_cons, List.mem_cons, List.not_mem_nil, or_false, not_or, List.nodup_nil, and_true, not_false_iff]
  omega
end
abbrev E18 (a0 a1 a2 a3 a4 a5 a6 a7 a8 a9 a10 a11 a12 a13 a14 a15 a16 a17 : Option Wv) : MM.Env := [a0, a1, a2, a3, a4, a5, a6, a7, a8, a9, a10, a11, a12, a13, a14, a15, a16, a17]
theorem law_wp (ls : List Int) (l63 : ls.length ≤ 63) : wpM (m_law [.scr ls]) [.tbl "law"] fun r _ => r = .bl true := by
  rw [l_row, wp_fun1]
  simp only [l1, MM.wpq, wp_mkC, startM, Ty.nm, if_true, if_false, Nat.reduceAdd, Nat.reduceSub, reduceCtorEq]
  simp only [l1i, MM.wpq, wp_mkC, startM, Ty.nm, if_true, if_false, Nat.reduceAdd, Nat.reduceSub, reduceCtorEq]
  generalize eh0 : ([.tbl "law"] : Hm) = hh
  have tb0 : hh[0]? = some (.tbl "law") := by rw [← eh0]; rfl
  have e1 : min2 [.int ls.length, .int 10] hh = .ok (.int (if (10 : Int) < ls.length then 10 else ls.length)) hh := rfl
  rw [wp_ok e1]
  generalize hc : (if (10 : Int) < ls.length then (10 : Int) else ls.length) = c
  have c24 : c ≤ 10 := by rw [← hc]; split <;> omega
  have e2 : max2 [.int 1, .int c] hh = .ok (.int (if c > 1 then c else 1)) hh := rfl
  rw [wp_ok e2]
  obtain ⟨m, em, m2, m24⟩ : ∃ m : Int, (if c > 1 then c else 1) = m ∧ 1 ≤ m ∧ m ≤ 10 := ⟨_, rfl, by split <;> omega, by split <;> omega⟩
  rw [em, wp_rng1 (by unfold rgB; rw [Bool.and_eq_true, decide_eq_true_eq, decide_eq_true_eq]; omega)]
  refine for_wp (its := (List.range m.toNat).map fun (k : Nat) => Wv.int (0 + k)) (fun t ρ h8 => (t ≤ m.toNat ∧ h8[0]? = some (.tbl "law")) ∧ ∃ b1 b2 b3 b4 b5 b6 b7 b8 b9 b10 b11 b12 b13 b14 b15 b16 b17, ρ = E18 (some (.scr ls)) b1 b2 b3 b4 b5 b6 b7 b8 b9 b10 b11 b12 b13 b14 b15 b16 b17) (fun k ρ h1 z => its_rng k h1) (fun t w ρ h8 ek z => ?_) (fun ρ h8 z => ?_) _ 0 _ _ (by simp [sR]) (Nat.zero_le _) ⟨⟨Nat.zero_le _, tb0⟩, _, _, _, _, _, _, _, _, _, _, _, _, _, _, _, _, _, rfl⟩
  · obtain ⟨⟨tl, tb⟩, b1, b2, b3, b4, b5, b6, b7, b8, b9, b10, b11, b12, b13, b14, b15, b16, b17, rfl⟩ := z
    have tl := (List.getElem?_eq_some_iff.mp ek).1
    rw [List.length_map, List.length_range] at tl
    rw [List.getElem?_map, List.getElem?_range tl] at ek
    cases ek
    rw [wp_gN]
    show wpM (l1b [some (.scr ls), some (.int (0 + (t : Int))), b2, b3, b4, b5, b6, b7, b8, b9, b10, b11, b12, b13, b14, b15, b16, b17]) h8 _
    refine body_wp l63 (by omega) (by omega) tb fun h9 c2 c3 c4 c5 c6 c7 c8 c9 c10 c11 c12 c13 c14 c15 c16 c17 tb9 => ?_
    exact ⟨⟨tl, tb9⟩, _, _, _, _, _, _, _, _, _, _, _, _, _, _, _, _, _, rfl⟩
  · obtain ⟨_, b1, b2, b3, b4, b5, b6, b7, b8, b9, b10, b11, b12, b13, b14, b15, b16, b17, rfl⟩ := z
    simp only [l2, MM.wpq, wp_mkC, startM, Ty.nm, if_true, if_false, Nat.reduceAdd, Nat.reduceSub, reduceCtorEq]
theorem law_true : ∀ ns : List Int, ns.length ≤ 63 → ∃ h', m_law [.scr ns] [.tbl "law"] = .ok (.bl true) h' := fun ns l => by
  obtain ⟨r, h', e, rfl⟩ := law_wp ns l
  exact ⟨h', e⟩
end GR26

open PySem PySem.W PyProof.Rows
set_option maxRecDepth 100000 in
set_option maxHeartbeats 0 in
theorem PySem.Challenge.cw_heldhints_k26_targets_and_writings_holds : PySem.Challenge.rw_heldhints_k26_targets_and_writings.Holds := by
  w_on; o_law; k_head; (case hw => w_witness2)
  k_fill
  refine MM.walk_atT (l := PySem.Challenge.rw_heldhints_k26_targets_and_writings) (n := 63) (x := "_law_script") (m := GR26.m_law) rfl (by decide) rfl (fun w h Y => PySem.W.km_in_of Y) ?F
  case F =>
    intro w mg fa h Y KX G hmg
    have TS := PySem.W.km_tabs_of Y
    refine' MM.tabs_scr (T := [("law", _, _)]) GR26.law_true ?gtab ?ktab ?ctab ?ttab ?ndt (GR26.all_mk KX G hmg ?b_isinstance ?b_len ?b_all ?b_any ?b_int ?b_bool ?b_str ?b_tuple ?b_list ?b_set ?b_dict ?b_sorted ?b_zip ?b_max ?b_min ?b_repr ?b_range ?b_enumerate ?b_reversed ?b_ord ?b_abs ?b_sum ?h__law_hand ?h_targets ?h__law_draw ?h__law_due ?h_is_awaited ?h__law_right ?hc_Writing ?aL ?hL ?tb_law ?ky_law_0 ?ky_law_1)
    (case tb_law => (refine' MM.tabIn_of ?i1 ?i2 ?i3 ?i4 ?i5; (case i1 => k_is); (case i2 => k_is); (case i3 => exact rfl); (case i4 => k_is); (case i5 => exact rfl)))
    (case ky_law_0 => exact rfl)
    (case ky_law_1 => exact rfl)
    (case b_isinstance => k_is)
    (case b_len => k_is)
    (case b_all => k_is)
    (case b_any => k_is)
    (case b_int => k_is)
    (case b_bool => k_is)
    (case b_str => k_is)
    (case b_tuple => k_is)
    (case b_list => k_is)
    (case b_set => k_is)
    (case b_dict => k_is)
    (case b_sorted => k_is)
    (case b_zip => k_is)
    (case b_max => k_is)
    (case b_min => k_is)
    (case b_repr => k_is)
    (case b_range => k_is)
    (case b_enumerate => k_is)
    (case b_reversed => k_is)
    (case b_ord => k_is)
    (case b_abs => k_is)
    (case b_sum => k_is)
    (case h__law_hand => (refine' ⟨_, _, ?i1, L2.fun_mk ?i3 ?i4 ?i5⟩; (case i1 => k_is); (case i3 => k_is); (case i4 => k_is); (case i5 => k_is)))
    (case h_targets => (refine' ⟨_, _, ?i1, L2.fun_mk ?i3 ?i4 ?i5⟩; (case i1 => k_is); (case i3 => k_is); (case i4 => k_is); (case i5 => k_is)))
    (case h__law_draw => (refine' ⟨_, _, ?i1, L2.fun_mk ?i3 ?i4 ?i5⟩; (case i1 => k_is); (case i3 => k_is); (case i4 => k_is); (case i5 => k_is)))
    (case h__law_due => (refine' ⟨_, _, ?i1, L2.fun_mk ?i3 ?i4 ?i5⟩; (case i1 => k_is); (case i3 => k_is); (case i4 => k_is); (case i5 => k_is)))
    (case h_is_awaited => (refine' ⟨_, _, ?i1, L2.fun_mk ?i3 ?i4 ?i5⟩; (case i1 => k_is); (case i3 => k_is); (case i4 => k_is); (case i5 => k_is)))
    (case h__law_right => (refine' ⟨_, _, ?i1, L2.fun_mk ?i3 ?i4 ?i5⟩; (case i1 => k_is); (case i3 => k_is); (case i4 => k_is); (case i5 => k_is)))
    (case hc_Writing => (refine' ⟨_, ?n, ⟨?pg, ?hd, ?po, ?sa⟩, ?f0, ?f1, ?f2, ?f3, ?f4, ⟨_, _, ⟨?a0, ?b0, ?c0⟩, L2.fun_mk ?l0 ?k0 ?m0⟩, ⟨_, _, ⟨?a1, ?b1, ?c1⟩, L2.fun_mk ?l1 ?k1 ?m1⟩, ⟨_, _, ⟨?a2, ?b2, ?c2⟩, L2.fun_mk ?l2 ?k2 ?m2⟩, ⟨_, _, ⟨?a3, ?b3, ?c3⟩, L2.fun_mk ?l3 ?k3 ?m3⟩, ⟨_, _, ⟨?a4, ?b4, ?c4⟩, L2.fun_mk ?l4 ?k4 ?m4⟩, ⟨_, _, ⟨?a5, ?b5, ?c5⟩, L2.fun_mk ?l5 ?k5 ?m5⟩, ⟨_, _, ⟨?a6, ?b6, ?c6⟩, L2.fun_mk ?l6 ?k6 ?m6⟩, _, _, ⟨?mk, ?ini, ?ifn, ?ikp⟩, L2.fun_mk ?li ?ki ?mi⟩; (case n => k_is); (case pg => k_is); (case hd => k_is); (case po => k_is); (case sa => k_is); (case f0 => (show PySem.W.findIn _ (.ref _) _ = some none; k_is)); (case f1 => (show PySem.W.findIn _ (.ref _) _ = some none; k_is)); (case f2 => (show PySem.W.findIn _ (.ref _) _ = some none; k_is)); (case f3 => (show PySem.W.findIn _ (.ref _) _ = some none; k_is)); (case f4 => (show PySem.W.findIn _ (.ref _) _ = some none; k_is)); (case a0 => k_is); (case b0 => k_is); (case c0 => k_is); (case l0 => k_is); (case k0 => k_is); (case m0 => k_is); (case a1 => k_is); (case b1 => k_is); (case c1 => k_is); (case l1 => k_is); (case k1 => k_is); (case m1 => k_is); (case a2 => k_is); (case b2 => k_is); (case c2 => k_is); (case l2 => k_is); (case k2 => k_is); (case m2 => k_is); (case a3 => k_is); (case b3 => k_is); (case c3 => k_is); (case l3 => k_is); (case k3 => k_is); (case m3 => k_is); (case a4 => k_is); (case b4 => k_is); (case c4 => k_is); (case l4 => k_is); (case k4 => k_is); (case m4 => k_is); (case a5 => k_is); (case b5 => k_is); (case c5 => k_is); (case l5 => k_is); (case k5 => k_is); (case m5 => k_is); (case a6 => k_is); (case b6 => k_is); (case c6 => k_is); (case l6 => k_is); (case k6 => k_is); (case m6 => k_is); (case mk => k_is); (case ini => k_is); (case ifn => k_is); (case ikp => k_is); (case li => k_is); (case ki => k_is); (case mi => k_is)))
    (case aL => k_is)
    (case hL => (refine' ⟨_, L2.fun_mk ?i3 ?i4 ?i5⟩; (case i3 => k_is); (case i4 => k_is); (case i5 => k_is)))
    (case gtab => (intro p hp; simp only [List.mem_cons, List.not_mem_nil, or_false] at hp; subst hp; exact TS _ (by decide)))
    (case ktab => (intro p hp; simp only [List.mem_cons, List.not_mem_nil, or_false] at hp; subst hp; kernel_rfl))
    (case ctab => (intro p hp; simp only [List.mem_cons, List.not_mem_nil, or_false] at hp; subst hp; (refine' MM.codeHd_of KX ?q1 ?q2; (case q1 => k_is); (case q2 => exact rfl))))
    (case ttab => (intro p hp; simp only [List.mem_cons, List.not_mem_nil, or_false] at hp; subst hp; (refine' MM.tabIn_of ?i1 ?i2 ?i3 ?i4 ?i5; (case i1 => k_is); (case i2 => k_is); (case i3 => exact rfl); (case i4 => k_is); (case i5 => exact rfl))))
    (case ndt => decide)

