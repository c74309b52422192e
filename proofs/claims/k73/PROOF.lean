import PyProof.Rows.All
import Wide.All
import OpenK.AllK
import Wide.FinOn
import HandS.ForMost
import HandS.TupSets
import KE.KSortTupUse
import HandS.SetBool
import HandS.Comp
import HandS.TupAny
import HandS.TupLe
import HandS.Zip
import HandS.IsInst
import HandS.Style
import HandS.AnyAll
import HandS.Walk
import HandS.Defaults
import KE.SortCalls
import HandS.DictComp
import PyProof.P3In
import KE.KDictSum
import HandS.Conv
import HandS.Deep
import PyProof.P3Eq
import PySem.Challenge.RW_heldhints_k73_whole_joins_in_any_order
set_option Elab.async false
set_option linter.all false
set_option maxRecDepth 100000
set_option maxHeartbeats 4000000
/-! Sets of tuples whose items are numbers and texts. -/
namespace MS
open PySem PySem.Spec PyProof.Rows L2
abbrev MH (P : Program) (w : World) (k : List Key) : Int := tupleKeyHash (mixKind P w) k
abbrev MT (P : Program) (w : World) (h : Heap) (k : List Key) (a : Addr) : Prop := IsTupleKey (mixKind P w) h k a
abbrev Row := Addr × List Key
def enc (P : Program) (w : World) (p : Row) : Int × Value := (MH P w p.2, Value.ref p.1)
def hs (P : Program) (w : World) (L : List Row) : List Int := L.map fun p => MH P w p.2
section
variable {P : Program} {w : World} {A : Around} {E : Value → Shared → Prop} {s : Shared}
/-! ### the items are leaves -/
def Leaf (v : Value) : Prop := (∃ i t, v = Value.int i t) ∨ ∃ x t, v = Value.str x t
theorem leaves {k : List Key} {vs : List Value} (h : ItemsAre (mixKind P w) k vs) : ∀ v ∈ vs, Leaf v := by
  induction h with
  | nil => exact fun v z => nomatch z
  | cons h1 _ ih =>
    intro v z
    rcases List.mem_cons.mp z with rfl | z
    · rcases keyIs_shape h1 with ⟨i, t, _, e⟩ | ⟨x, t, _, e⟩
      · exact .inl ⟨i, t, e⟩
      · exact .inr ⟨x, t, e⟩
    · exact ih v z
theorem leaf_cls {v : Value} (h : Leaf v) (n : Nat) : ofAClassStatement n v = pure false := by
  rcases h with ⟨i, t, rfl⟩ | ⟨x, t, rfl⟩ <;> cases n <;> rfl
theorem leaf_by {v : Value} (h : Leaf v) (n : Nat) : ∃ b, hashByValue n v = pure b := by
  rcases h with ⟨i, t, rfl⟩ | ⟨x, t, rfl⟩
  · exact ⟨true, by cases n <;> rfl⟩
  · exact ⟨false, by cases n <;> rfl⟩
theorem mt_cls {k : List Key} {b : Addr} {Q : Bool → Shared → Prop} (z : MT P w s.heap k b) (q : Q false s) : wpAny (model P w) A (ofAClassStatement 8 (.ref b)) Q E s := by
  have ty := z.typeIs
  obtain ⟨o, its, n, g, _, dt, it⟩ := z
  unfold ofAClassStatement
  refine wpAny_bind (wpAny_typeOf ty ?_)
  have e : (("tuple" : String) == "tuple") = true := by decide
  dsimp only
  simp only [e, if_true, Bool.not_true, Bool.false_eq_true, if_false]
  try refine wpAny_bind (wpAny_pure ?_)
  try simp only [if_false, Bool.not_true, Bool.false_eq_true]
  show wpAny _ _ (seqItems? (.ref b) >>= _) _ _ s
  refine wpAny_bind (wpAny_seqItems g dt ?_)
  dsimp only
  refine wpAny_bind ?_
  show wpAny _ _ (forIn its _ _) _ _ s
  rw [← Array.forIn_toList]
  refine wpAny_forIn_list _ (fun l r s' => r.1 = none ∧ s' = s ∧ ∀ v ∈ l, Leaf v) _ (fun v l r s' hI => ?_) (fun r s' hI => ?_) _ _ ⟨rfl, rfl, leaves it⟩
  · obtain ⟨e1, rfl, al⟩ := hI
    rw [leaf_cls (al v List.mem_cons_self)]
    refine wpAny_bind (wpAny_pure ?_)
    simp only [if_false, Bool.false_eq_true]
    exact wpAny_pure ⟨rfl, rfl, fun u hu => al u (List.mem_cons_of_mem _ hu)⟩
  · obtain ⟨r1, r2⟩ := r
    obtain ⟨e1, rfl, _⟩ := hI
    simp only at e1
    subst e1
    exact wpAny_pure q
theorem mt_by {k : List Key} {b : Addr} {Q : Bool → Shared → Prop} (z : MT P w s.heap k b) (q : ∀ c, Q c s) : wpAny (model P w) A (hashByValue 8 (.ref b)) Q E s := by
  have ty := z.typeIs
  obtain ⟨o, its, n, g, _, dt, it⟩ := z
  unfold hashByValue
  refine wpAny_bind (wpAny_specialOf ty F.slot_tuple_hash.lookup ?_)
  show wpAny _ _ (seqItems? (.ref b) >>= _) _ _ s
  refine wpAny_bind (wpAny_seqItems g dt ?_)
  refine wpAny_bind ?_
  show wpAny _ _ (forIn its _ _) _ _ s
  rw [← Array.forIn_toList]
  refine wpAny_forIn_list _ (fun l r s' => r.1 = none ∧ s' = s ∧ ∀ v ∈ l, Leaf v) _ (fun v l r s' hI => ?_) (fun r s' hI => ?_) _ _ ⟨rfl, rfl, leaves it⟩
  · obtain ⟨e1, rfl, al⟩ := hI
    obtain ⟨c, hc⟩ := leaf_by (al v List.mem_cons_self) 7
    rw [hc]
    refine wpAny_bind (wpAny_pure ?_)
    cases c with
    | true =>
      simp only [if_false, Bool.not_true, Bool.false_eq_true]
      exact wpAny_pure ⟨rfl, rfl, fun u hu => al u (List.mem_cons_of_mem _ hu)⟩
    | false =>
      simp only [if_true, Bool.not_false]
      exact wpAny_pure (wpAny_pure (q false))
  · obtain ⟨r1, r2⟩ := r
    obtain ⟨e1, rfl, _⟩ := hI
    simp only at e1
    subst e1
    exact wpAny_pure (q true)
theorem mt_unseen {k : List Key} {b : Addr} {Q : Bool → Shared → Prop} (z : MT P w s.heap k b) {ys : List Value} (al : ∀ y ∈ ys, ∃ k' c, y = Value.ref c ∧ MT P w s.heap k' c) (q : Q false s) : wpAny (model P w) A (searchCouldBeSeen (.ref b) ys) Q E s := by
  unfold searchCouldBeSeen
  refine wpAny_bind (wpAny_forIn_list _ (fun l r s' => r.1 = none ∧ s' = s ∧ ∀ y ∈ l, ∃ k' c, y = Value.ref c ∧ MT P w s.heap k' c) _ (fun v l r s' hI => ?_) (fun r s' hI => ?_) _ _ ⟨rfl, rfl, al⟩)
  · obtain ⟨e1, rfl, al'⟩ := hI
    obtain ⟨k', c, rfl, z'⟩ := al' v List.mem_cons_self
    have tl : ∀ y ∈ l, ∃ k' c, y = Value.ref c ∧ MT P w s'.heap k' c := fun u hu => al' u (List.mem_cons_of_mem _ hu)
    dsimp only
    by_cases very : (b == c || (carriedByValue (.ref b) && carriedByValue (.ref c))) = true
    · exact wp_if_pos very (wpAny_pure ⟨rfl, rfl, tl⟩)
    · refine wp_if_neg very (wpAny_bind (wpAny_eqIsQuiet_tuple z ?_))
      simp only [if_false, Bool.not_true, Bool.false_eq_true]
      refine wpAny_bind (wpAny_eqIsQuiet_tuple z' ?_)
      simp only [if_false, Bool.not_true, Bool.false_eq_true]
      refine wpAny_bind (mt_cls z ?_)
      simp only [if_false, Bool.false_eq_true]
      refine wpAny_bind (mt_cls z' ?_)
      simp only [if_false, Bool.false_eq_true]
      exact wpAny_pure ⟨rfl, rfl, tl⟩
  · obtain ⟨r1, r2⟩ := r
    obtain ⟨e1, rfl, _⟩ := hI
    simp only at e1
    subst e1
    exact wpAny_pure q
/-! ### such a set -/
structure SR (P : Program) (w : World) (h : Heap) (a : Addr) (L : List Row) (es : Array (Int × Value)) (ep : Nat) (t : SetTable) : Prop where
  ob : ∃ o, h.get? a = some o ∧ o.ExactSet ∧ o.data = .set es ep t
  rw_ : es.toList = L.map (enc P w)
  tab : TabOk t (hs P w L)
  nd : (L.map (·.2)).Nodup
  led : w.params.followText "set-order" = true ∨ t.led = true
  room : L.length * 5 < t.mask * 3
  few : L.length < 64
def Tups (P : Program) (w : World) (h : Heap) (L : List Row) : Prop := ∀ p ∈ L, MT P w h p.2 p.1
variable {a : Addr} {L : List Row} {es : Array (Int × Value)} {ep : Nat} {t : SetTable}
theorem enc_len {L : List Row} {es : Array (Int × Value)} (h : es.toList = L.map (enc P w)) : es.size = L.length := by
  have z := congrArg List.length h
  simpa using z
theorem fits_of {n m : Nat} (h1 : t.place.size = n) (h2 : t.dummies = #[]) (h3 : n = m) (h4 : m ≤ t.mask) : t.fits m = true := by
  unfold SetTable.fits SetTable.fill
  rw [h2, Bool.and_eq_true, beq_iff_eq, decide_eq_true_eq]
  show t.place.size = m ∧ t.place.size + 0 ≤ t.mask
  omega
theorem SR.fits {h : Heap} (R : SR P w h a L es ep t) : t.fits es.size = true := by
  have z := R.tab.sz
  have y := R.room
  unfold hs at z
  rw [List.length_map] at z
  exact fits_of z R.tab.dm (enc_len R.rw_).symm (by rw [enc_len R.rw_]; omega)
theorem SR.at_ {h : Heap} (R : SR P w h a L es ep t) {i : Nat} {p : Row} (z : L[i]? = some p) : es[i]? = some (enc P w p) := by
  rw [← Array.getElem?_toList, R.rw_, List.getElem?_map, z] <;> rfl
theorem SR.odd {h : Heap} (R : SR P w h a L es ep t) : ¬ t.gaveWay = true := by
  unfold SetTable.gaveWay
  rw [mask_odd R.tab.mok]
  decide
/-- the first state of a hash's way -/
abbrev st0 (m : Nat) (h : Int) : SetTable.Probe := runAt m (SetTable.bits h % (m + 1)) (SetTable.bits h)
theorem clean (m : Nat) : ∀ (n : Nat) (p : SetTable.Probe), p.dummy = none → (nth m p n).dummy = none
  | 0, _, z => z
  | n + 1, p, z => clean m n (adv m p) (by unfold adv; split <;> exact z)
/-- looking for k from the c-th step on -/
theorem seek (R : SR P w s.heap a L es ep t) (tu : Tups P w s.heap L) {x : Addr} {k : List Key} (zx : MT P w s.heap k x) (hu : A.units < cLine) {N : Nat} (lim : N < 10 * SetTable.turns t.mask)
    (free : way t.mask (MH P w k) N ∉ t.place.toList) (full : ∀ c, c < N → way t.mask (MH P w k) c ∈ t.place.toList) {Q : SetFound → Shared → Prop}
    (yes : k ∈ L.map (·.2) → Q (.there none) s) (no : k ∉ L.map (·.2) → Q (.free (way t.mask (MH P w k) N) false) s) :
    ∀ (fu c : Nat) (sd : Option SetTable.Probe), sd.getD (t.probeStart (MH P w k)) = nth t.mask (st0 t.mask (MH P w k)) c → c ≤ N → N - c < fu →
      (∀ (i : Nat) (p : Row), L[i]? = some p → p.2 = k → ∃ c', c ≤ c' ∧ c' < N ∧ t.place.toList[i]? = some (way t.mask (MH P w k) c')) →
      wpAny (model P w) A (setSearchFrom a (.ref x) (MH P w k) true fu sd) Q E s := by
  intro fu
  induction fu with
  | zero => exact fun c sd _ _ z _ => absurd z (Nat.not_lt_zero _)
  | succ fu ih =>
    intro c sd esd cN lt ahead
    obtain ⟨o, go, ex, dt⟩ := R.ob
    have step : ∀ q, nth t.mask (nth t.mask (st0 t.mask (MH P w k)) c) q = nth t.mask (st0 t.mask (MH P w k)) (c + q) := fun q => (nth_add t.mask c _ q).symm
    have stepj : ∀ q, (nth t.mask (nth t.mask (st0 t.mask (MH P w k)) c) q).j = way t.mask (MH P w k) (c + q) := fun q => congrArg SetTable.Probe.j (step q)
    have hAt : ∀ (i : Nat) (p : Row), L[i]? = some p → (es[i]?.map (·.1)).getD 0 = MH P w p.2 := fun i p z => by
      rw [R.at_ z] <;> rfl
    have sp := go_spec t R.tab.ris R.tab.dm (fun i => (es[i]?.map (·.1)).getD 0) (MH P w k) (10 * SetTable.turns t.mask) (N - c) _ (clean t.mask c (st0 t.mask (MH P w k)) rfl) (by omega)
      (fun q hq => by rw [stepj]; exact full (c + q) (by omega)) (by rw [stepj, show c + (N - c) = N by omega]; exact free)
    rw [setSearchFrom_succ]
    refine wpAny_bind (wpAny_setState_of go dt R.fits (wp_if_neg R.odd ?_))
    try refine wpAny_bind (wpAny_pure ?_)
    rcases sp with ⟨q, i, hq, hi, _, passed, pr⟩ | ⟨passed, pr⟩
    · have pr' : t.probe (fun i => (es[i]?.map (·.1)).getD 0) (MH P w k) (sd.getD (t.probeStart (MH P w k))) = some (.candidate (way t.mask (MH P w k) (c + q)) i (nth t.mask (st0 t.mask (MH P w k)) (c + (q + 1)))) := by
        rw [esd, ← stepj, ← step]
        exact pr
      rw [pr']
      dsimp only
      rw [stepj] at hi
      have iL : i < L.length := by
        have y1 : i < t.place.toList.length := (List.getElem?_eq_some_iff.mp hi).1
        have y2 := R.tab.sz
        unfold hs at y2
        rw [List.length_map] at y2
        rw [Array.length_toList] at y1
        omega
      obtain ⟨p, gp⟩ : ∃ p, L[i]? = some p := ⟨L[i], List.getElem?_eq_getElem iL⟩
      have mp : p ∈ L := List.mem_of_getElem? gp
      have on : wpAny (model P w) A (searchRest a (.ref x) (MH P w k) true fu es t (way t.mask (MH P w k) (c + q)) i (nth t.mask (st0 t.mask (MH P w k)) (c + (q + 1)))) Q E s := by
        unfold searchRest
        rw [R.at_ gp]
        refine wpAny_bind (wpAny_holding (wpAny_eqBool_tuple hu (tu p mp) zx (wpAny_bind (wpAny_setState_of go dt R.fits ?_))))
        dsimp only
        by_cases same : p.2 = k
        · exact wp_if_pos (by simp [same]) (wpAny_pure (yes (List.mem_map.mpr ⟨p, mp, same⟩)))
        · refine wp_if_neg (by simp [same]) ?_
          try refine wpAny_bind (wpAny_pure ?_)
          have live : t.slot (way t.mask (MH P w k) (c + q)) = .live i := slot_live R.tab.ris hi
          rw [sameMem]
          dsimp only
          simp only [if_true, live, R.at_ gp]
          refine wpAny_bind (wpAny_isSame_ref_self (wpAny_bind (wpAny_pure ?_)))
          simp only [if_true]
          refine wp_if_neg (by simp [same]) (ih (c + (q + 1)) _ rfl (by omega) (by omega) fun i' p' g' k' => ?_)
          obtain ⟨c', b1, b2, b3⟩ := ahead i' p' g' k'
          refine ⟨c', ?_, b2, b3⟩
          rcases Nat.lt_trichotomy c' (c + q) with y | y | y
          · exact absurd ((hAt i' p' g').trans (congrArg (MH P w) k')) (passed (c' - c) i' (by omega) (by rw [stepj, show c + (c' - c) = c' by omega]; exact b3))
          · rw [y] at b3
            have sl := slot_live R.tab.ris b3
            rw [live] at sl
            injection sl with sl
            rw [← sl, gp] at g'
            exact absurd ((congrArg Prod.snd (Option.some.inj g')).trans k') same
          · omega
      by_cases ld : t.led = true
      · refine wp_if_neg (by simp [ld]) ?_
        try refine wpAny_bind (wpAny_pure ?_)
        exact on
      · refine wp_if_pos (by simp [ld]) (wpAny_bind (mt_unseen zx (fun y hy => ?_) ?_))
        · obtain ⟨e, me, rfl⟩ := List.mem_map.mp hy
          have me' : e ∈ es.toList := by
            have z : e ∈ es ∧ e.1 = MH P w k := by simpa using me
            simpa using z.1
          rw [R.rw_] at me'
          obtain ⟨p2, mp2, rfl⟩ := List.mem_map.mp me'
          exact ⟨p2.2, p2.1, rfl, tu p2 mp2⟩
        · refine wp_if_neg (by decide) ?_
          try refine wpAny_bind (wpAny_pure ?_)
          exact on
    · have pr' : t.probe (fun i => (es[i]?.map (·.1)).getD 0) (MH P w k) (sd.getD (t.probeStart (MH P w k))) = some (.empty (way t.mask (MH P w k) N) none) := by
        rw [esd, show way t.mask (MH P w k) N = (nth t.mask (nth t.mask (st0 t.mask (MH P w k)) c) (N - c)).j by rw [stepj, show c + (N - c) = N by omega]]
        exact pr
      rw [pr']
      dsimp only
      refine wpAny_pure (no fun hm => ?_)
      obtain ⟨p, mp, kp⟩ := List.mem_map.mp hm
      obtain ⟨i, il, gi⟩ := List.getElem_of_mem mp
      have g' : L[i]? = some p := by rw [List.getElem?_eq_getElem il, gi]
      obtain ⟨c', b1, b2, b3⟩ := ahead i p g' kp
      exact passed (c' - c) i (by omega) (by rw [stepj, show c + (c' - c) = c' by omega]; exact b3) ((hAt i p g').trans (congrArg (MH P w) kp))
theorem seek0 (R : SR P w s.heap a L es ep t) (tu : Tups P w s.heap L) {x : Addr} {k : List Key} (zx : MT P w s.heap k x) (hu : A.units < cLine) {Q : SetFound → Shared → Prop}
    (yes : k ∈ L.map (·.2) → Q (.there none) s)
    (no : ∀ N, k ∉ L.map (·.2) → way t.mask (MH P w k) N ∉ t.place.toList → (∀ c, c < N → way t.mask (MH P w k) c ∈ t.place.toList) → Q (.free (way t.mask (MH P w k) N) false) s) :
    wpAny (model P w) A (setSearch a (.ref x) (MH P w k) true) Q E s := by
  have y := R.room
  have len : (hs P w L).length = L.length := by unfold hs; rw [List.length_map]
  obtain ⟨N, lim, free, full⟩ := R.tab.first (by rw [len]; omega) (MH P w k)
  have small : 10 * SetTable.turns t.mask ≤ 1420 := by
    unfold SetTable.turns
    rcases R.tab.mok with e | e | e <;> omega
  refine seek R tu zx hu lim free full yes (fun z => no N z free full) 100000 0 none rfl (Nat.zero_le _) (by omega) fun i p gp kp => ?_
  have gi : (hs P w L)[i]? = some (MH P w k) := by
    unfold hs
    rw [List.getElem?_map, gp, ← kp] <;> rfl
  have ip : i < t.place.toList.length := by
    have y1 := (List.getElem?_eq_some_iff.mp gp).1
    have y2 := R.tab.sz
    rw [len] at y2
    rw [Array.length_toList]
    omega
  have gj := List.getElem?_eq_getElem ip
  obtain ⟨c, b1, b2⟩ := R.tab.before free gi gj
  exact ⟨c, Nat.zero_le _, b1, by rw [gj, b2]⟩
end
end MS

set_option Elab.async false
set_option linter.all false
set_option maxRecDepth 100000
set_option maxHeartbeats 4000000
namespace MS
open PySem PySem.Spec PyProof.Rows L2
theorem range_all {α : Type} (L : List α) : ∀ n, n ≤ L.length → (List.range n).filterMap (fun i => L[i]?) = L.take n
  | 0, _ => rfl
  | n + 1, z => by
    have y : n < L.length := z
    rw [List.range_succ, List.filterMap_append, range_all L n (Nat.le_of_lt y), List.take_succ, List.getElem?_eq_getElem y]
    rw [List.filterMap_cons_some (List.getElem?_eq_getElem y)] <;> rfl
section
variable {P : Program} {w : World} {A : Around} {E : Value → Shared → Prop} {s : Shared}
variable {a : Addr} {L : List Row} {es : Array (Int × Value)} {ep : Nat} {t : SetTable}
theorem reorder {L : List Row} {es : Array (Int × Value)} (e : es.toList = L.map (enc P w)) {ord : Array Nat} (pm : ord.toList.Perm (List.range L.length)) :
    ∃ L2 : List Row, (ord.filterMap (es[·]?)).toList = L2.map (enc P w) ∧ L2.Perm L ∧ hs P w L2 = ord.toList.map fun i => (es.map (·.1)).getD i 0 := by
  have ent : ∀ i, es[i]? = (L[i]?).map (enc P w) := fun i => by rw [← Array.getElem?_toList, e, List.getElem?_map]
  refine ⟨ord.toList.filterMap (fun i => L[i]?), ?_, ?_, ?_⟩
  · have z : (ord.filterMap (es[·]?)).toList = ord.toList.filterMap (fun i => es[i]?) := by first | rw [Array.toList_filterMap] | simp
    rw [z, List.map_filterMap]
    exact congrArg (fun f => ord.toList.filterMap f) (funext ent)
  · have z := pm.filterMap (fun i => L[i]?)
    rw [range_all L L.length (Nat.le_refl _), List.take_length] at z
    exact z
  · have key : ∀ l : List Nat, (∀ i ∈ l, i < L.length) → hs P w (l.filterMap fun i => L[i]?) = l.map fun i => (es.map (·.1)).getD i 0 := by
      intro l
      induction l with
      | nil => exact fun _ => rfl
      | cons i l ih =>
        intro z
        have il := z i List.mem_cons_self
        rw [List.filterMap_cons_some (List.getElem?_eq_getElem il), List.map_cons, ← ih fun j hj => z j (List.mem_cons_of_mem _ hj)]
        have y : (es.map (·.1))[i]? = some (MH P w (L[i]).2) := by
          rw [Array.getElem?_map, ent i, List.getElem?_eq_getElem il] <;> rfl
        have y2 : (es.map (·.1)).getD i 0 = MH P w (L[i]).2 := by simp [Array.getD_eq_getD_getElem?, y]
        rw [y2]
        rfl
    exact key _ fun i hi => List.mem_range.mp (pm.mem_iff.mp hi)
theorem relay {o : Obj} (go : s.heap.get? a = some o) (ex : o.ExactSet) (dt : o.data = .set es ep t) (er : es.toList = L.map (enc P w)) (sz : t.place.size = es.size) (dm : t.dummies = #[]) (fl : es.size ≤ t.mask)
    (nd : (L.map (·.2)).Nodup) (ld : w.params.followText "set-order" = true ∨ t.led = true) (few : L.length < 64) {wd M : Nat} (hw : SetTable.sizeAbove wd - 1 = M) (hM : MaskOk M) (big : SetTable.sizeAbove wd ≤ 128) (rm : L.length * 5 < M * 3) {Q : Unit → Shared → Prop}
    (q : ∀ h' L' es' ep' t', Heap.SameBut a s.heap h' → SR P w h' a L' es' ep' t' → L'.Perm L → Q () { s with heap := h' }) : wpAny (model P w) A (setRelay a wd) Q E s := by
  have el := enc_len er
  obtain ⟨t', ord, e1, pm, tb, em, eld, _, _⟩ := relaid_ok t (hs := es.map (·.1)) (wanted := wd) hw hM (by rw [Array.size_map, el]; omega)
  rw [Array.size_map, el] at pm
  obtain ⟨L2, r1, r2, r3⟩ := reorder er pm
  rw [← r3] at tb
  have s2 : (ord.filterMap (es[·]?)).size = es.size := by rw [enc_len r1, r2.length_eq, el]
  rw [setRelay_eq]
  refine wpAny_bind (wpAny_setState_of go dt (fits_of sz dm rfl fl) (wp_if_neg (by rw [sizeLine_eq]; omega) ?_))
  try refine wpAny_bind (wpAny_pure ?_)
  rw [e1]
  refine wpAny_bind (wp_if_neg (by rw [s2]; simp) ?_)
  try refine wpAny_bind (wpAny_pure ?_)
  refine wpAny_pure (wpAny_storeSet_of go dt ?_ (by rw [s2, el, sizeLine_eq]; omega))
  refine q _ L2 (ord.filterMap (es[·]?)) (ep + 1) t' (Heap.SameBut.update ..) ⟨⟨_, store_at go dt, ⟨ex.1, ex.2.1, ex.2.2⟩, rfl⟩, r1, tb, (r2.map (·.2)).nodup_iff.mpr nd, by rw [eld]; exact ld, by rw [r2.length_eq, em]; exact rm, by rw [r2.length_eq]; exact few⟩ r2
/-- the mark «plain» is of no account -/
theorem tab_plain {t : SetTable} {l : List Int} (h : TabOk t l) (b : Bool) : TabOk (if b = true then t else { t with plain := false }) l := by
  cases b with
  | true => exact h
  | false => exact ⟨h.ris, h.dm, h.sz, h.mok, h.bd, h.reach⟩
theorem mt_but {h h' : Heap} {k : List Key} {b : Addr} {o : Obj} (z : MT P w h k b) (go : h.get? a = some o) (dt : o.data = .set es ep t) (sb : Heap.SameBut a h h') : MT P w h' k b := by
  obtain ⟨o', its, n, g, c, d, it⟩ := z
  refine ⟨o', its, n, (sb.2 b ?_).trans g, c, d, it⟩
  rintro rfl
  rw [go] at g
  cases g
  rw [dt] at d
  cases d
theorem SR.but {h h' : Heap} (R : SR P w h a L es ep t) {k : List Key} {b : Addr} (z : MT P w h k b) (sb : Heap.SameBut a h h') : MT P w h' k b := by
  obtain ⟨o, go, _, dt⟩ := R.ob
  exact mt_but z go dt sb
/-- adding a tuple -/
theorem add (R : SR P w s.heap a L es ep t) (tu : Tups P w s.heap L) {x : Addr} {k : List Key} (zx : MT P w s.heap k x) (hu : A.units < cLine) (few : L.length + 1 < 64) {Q : Bool → Shared → Prop}
    (q : ∀ b h' L' es' ep' t', Heap.SameBut a s.heap h' → SR P w h' a L' es' ep' t' → (k ∈ L.map (·.2) → L' = L) → (k ∉ L.map (·.2) → L'.Perm ((x, k) :: L)) → Q b { s with heap := h' }) :
    wpAny (model P w) A (setAddHashed a (.ref x) (MH P w k)) Q E s := by
  obtain ⟨o, go, ex, dt⟩ := R.ob
  have el := enc_len R.rw_
  have rm := R.room
  have hl : (hs P w L).length = L.length := by unfold hs; rw [List.length_map]
  unfold setAddHashed
  refine wpAny_holding ?_
  rw [show (100000 : Nat) = 99999 + 1 from rfl, setAddHashedIn_succ]
  refine wpAny_bind (wpAny_setState_of go dt R.fits (wp_if_neg (by simp [byScan, Value.scannable]) ?_))
  try refine wpAny_bind (wpAny_pure ?_)
  refine wpAny_bind (seek0 R tu zx hu (fun z => ?_) fun N nz free full => ?_)
  · exact wpAny_pure (q false s.heap L es ep t (Heap.SameBut.refl a s.heap) R (fun _ => rfl) fun y => absurd z y)
  · dsimp only
    refine wpAny_bind (wpAny_setState_of go dt R.fits ?_)
    dsimp only
    obtain ⟨f1, f2, f3, f4, f5, _, _, _, f9⟩ := R.tab.put free full
    generalize hpt : t.put (way t.mask (MH P w k) N) = pt at f1 f3 f4 f5 f9 ⊢
    obtain ⟨t1, j⟩ := pt
    dsimp only at f1 f3 f4 f5 f9 ⊢
    subst f1
    generalize hj : SetTable.below t.place (way t.mask (MH P w k) N) = j at f2 f3 ⊢
    -- the rows, with the new one
    have pm : (L.take j ++ (x, k) :: L.drop j).Perm ((x, k) :: L) := by
      have z : (L.take j ++ (x, k) :: L.drop j).Perm ((x, k) :: (L.take j ++ L.drop j)) := List.perm_middle
      rw [List.take_append_drop] at z
      exact z
    have er : (SetTable.insertAt es j (MH P w k, Value.ref x)).toList = (L.take j ++ (x, k) :: L.drop j).map (enc P w) := by
      rw [SetTable.toList_insertAt, R.rw_, List.map_append, List.map_cons, List.map_take, List.map_drop] <;> rfl
    have eh : (hs P w L).take j ++ MH P w k :: (hs P w L).drop j = hs P w (L.take j ++ (x, k) :: L.drop j) := by
      unfold hs
      rw [List.map_append, List.map_cons, List.map_take, List.map_drop]
    rw [eh] at f3
    have nd1 : ((L.take j ++ (x, k) :: L.drop j).map (·.2)).Nodup := (pm.map (·.2)).nodup_iff.mpr (List.nodup_cons.mpr ⟨nz, R.nd⟩)
    have len1 := pm.length_eq
    rw [List.length_cons] at len1
    have ez := enc_len er
    generalize SetTable.insertAt es j (MH P w k, Value.ref x) = es1 at er ez ⊢
    generalize L.take j ++ (x, k) :: L.drop j = L1 at pm er f3 nd1 len1 ez
    -- whatever the hash hangs on
    have rest : ∀ c : Bool, wpAny (model P w) A (do
        let t := if c = true then t1 else { t1 with plain := false }
        storeSet a es1 t
        if !false && t.tooFull then setRelay a (SetTable.grown (es.size + 1))
        return true) Q E s := fun c => by
      have tb := tab_plain f3 c
      have m2 : (if c = true then t1 else { t1 with plain := false }).mask = t.mask := by cases c <;> exact f4
      have l2 : (if c = true then t1 else { t1 with plain := false }).led = t.led := by cases c <;> exact f5
      have i2 : (if c = true then t1 else { t1 with plain := false }).fill = L.length + 1 := by
        rw [hl] at f9
        cases c <;> exact f9
      generalize (if c = true then t1 else { t1 with plain := false } : SetTable) = t2 at tb m2 l2 i2 ⊢
      dsimp only
      refine wpAny_bind (wpAny_storeSet_of go dt ?_ (by rw [ez, sizeLine_eq]; omega))
      have sb : Heap.SameBut a s.heap (s.heap.update a (Obj.putSet es1 t2)) := Heap.SameBut.update ..
      have go1 := store_at (es' := es1) (t' := t2) go dt
      generalize s.heap.update a (Obj.putSet es1 t2) = h1 at sb go1 ⊢
      have ld : w.params.followText "set-order" = true ∨ t2.led = true := by rw [l2]; exact R.led
      have pz : t2.place.size = es1.size := by
        have z := tb.sz
        unfold hs at z
        rw [List.length_map] at z
        rw [z, ez]
      have tf : t2.tooFull = decide ((L.length + 1) * 5 ≥ t.mask * 3) := by
        unfold SetTable.tooFull
        rw [i2, m2]
      by_cases full2 : (L.length + 1) * 5 ≥ t.mask * 3
      · have two : (t.mask = 7 ∧ L.length = 4) ∨ (t.mask = 31 ∧ L.length = 18) := by
          rcases R.tab.mok with e | e | e
          · exact .inl ⟨e, by omega⟩
          · exact .inr ⟨e, by omega⟩
          · omega
        have run : ∀ M, SetTable.sizeAbove (SetTable.grown (es.size + 1)) - 1 = M → MaskOk M → SetTable.sizeAbove (SetTable.grown (es.size + 1)) ≤ 128 → L1.length * 5 < M * 3 →
            wpAny (model P w) A (setRelay a (SetTable.grown (es.size + 1))) (fun _ s' => wpAny (model P w) A (pure true) Q E s') E { s with heap := h1 } := fun M y1 y2 y3 y4 =>
          relay (s := { s with heap := h1 }) go1 ⟨ex.1, ex.2.1, ex.2.2⟩ rfl er pz tb.dm (by rw [ez, m2]; omega) nd1 ld (by omega) y1 y2 y3 y4 fun h2 L2 es2 ep2 t3 sb2 R2 pm2 =>
            wpAny_pure (q true h2 L2 es2 ep2 t3 (sb.trans sb2) R2 (fun z => absurd z nz) fun _ => pm2.trans pm)
        have big : (!false && t2.tooFull) = true := by rw [tf, decide_eq_true full2]; rfl
        first
          | refine wpAny_bind (wp_if_pos big ?_)
          | (refine wp_if_pos big ?_; refine wpAny_bind ?_)
        rcases two with ⟨e1, e2⟩ | ⟨e1, e2⟩
        · exact run 31 (by rw [el, e2, size_20]) (.inr (.inl rfl)) (by rw [el, e2, size_20]; decide) (by omega)
        · exact run 127 (by rw [el, e2, size_76]) (.inr (.inr rfl)) (by rw [el, e2, size_76]; decide) (by omega)
      · have sm : ¬ (!false && t2.tooFull) = true := by rw [tf, decide_eq_false full2]; decide
        first
          | refine wp_if_neg sm ?_
          | (refine wpAny_bind ?_; refine wp_if_neg sm ?_; refine wpAny_pure ?_)
        exact wpAny_pure (q true h1 L1 es1 (ep + 1) t2 sb ⟨⟨_, go1, ⟨ex.1, ex.2.1, ex.2.2⟩, rfl⟩, er, tb, nd1, ld, by rw [m2]; omega, by omega⟩ (fun z => absurd z nz) fun _ => pm)
    by_cases pl : t1.plain = true
    · first
        | (refine wpAny_bind ?_; refine wp_if_pos pl ?_; exact mt_by zx fun c => rest c)
        | exact wp_if_pos pl (wpAny_bind (mt_by zx fun c => rest c))
    · first
        | (refine wpAny_bind ?_; refine wp_if_neg pl ?_; exact wpAny_pure (rest true))
        | exact wp_if_neg pl (rest true)
        | exact wp_if_neg pl (wpAny_bind (wpAny_pure (rest true)))
theorem mt_keep {h h' : Heap} {k : List Key} {b : Addr} (z : MT P w h k b) (kp : ∀ c o, h.get? c = some o → h'.get? c = some o) : MT P w h' k b := by
  obtain ⟨o, its, n, g, r⟩ := z
  exact ⟨o, its, n, kp b o g, r⟩
theorem SR.move {h h' : Heap} (R : SR P w h a L es ep t) (ka : ∀ o, h.get? a = some o → h'.get? a = some o) : SR P w h' a L es ep t := by
  obtain ⟨o, go, r⟩ := R.ob
  exact ⟨⟨o, ka o go, r⟩, R.rw_, R.tab, R.nd, R.led, R.room, R.few⟩
/-- a new set's object -/
abbrev newO (w : World) : Obj := { cls := .type "set", dict := none, data := .set #[] 0 (.fresh 0 0 (!w.params.followText "set-order")) }
theorem sr_new {h : Heap} (go : h.get? a = some (newO w)) : SR P w h a [] #[] 0 (.fresh 0 0 (!w.params.followText "set-order")) := by
  refine ⟨⟨_, go, ⟨rfl, rfl, rfl⟩, rfl⟩, rfl, ⟨List.Pairwise.nil, rfl, rfl, .inl rfl, (fun x z => nomatch z), fun i h j z => by simp [hs] at z⟩, List.nodup_nil, ?_, (by show 0 * 5 < 7 * 3; decide), (by show 0 < 64; decide)⟩
  show _ ∨ (!w.params.followText "set-order") = true
  cases w.params.followText "set-order"
  · exact .inr rfl
  · exact .inl rfl
/-- what a set has of some rows -/
structure Of (ks : List Row) (L : List Row) : Prop where
  sub : ∀ p ∈ L, p ∈ ks
  all : ∀ p ∈ ks, p.2 ∈ L.map (·.2)
  len : L.length ≤ ks.length
theorem Of.nil : Of [] [] := ⟨(fun p z => nomatch z), (fun p z => nomatch z), Nat.le_refl _⟩
theorem Of.snoc {ks L L' : List Row} {x : Row} (g : Of ks L) (c1 : x.2 ∈ L.map (·.2) → L' = L) (c2 : x.2 ∉ L.map (·.2) → L'.Perm (x :: L)) : Of (ks ++ [x]) L' := by
  rcases Classical.em (x.2 ∈ L.map (·.2)) with c | c
  · rw [c1 c]
    refine ⟨fun p z => List.mem_append_left _ (g.sub p z), fun p z => ?_, by rw [List.length_append]; exact Nat.le_trans g.len (Nat.le_add_right _ _)⟩
    rcases List.mem_append.mp z with z | z
    · exact g.all p z
    · rw [List.mem_singleton.mp z]
      exact c
  · have pm := c2 c
    refine ⟨fun p z => ?_, fun p z => ?_, ?_⟩
    · rcases List.mem_cons.mp (pm.mem_iff.mp z) with e | z
      · rw [e]
        exact List.mem_append_right _ List.mem_cons_self
      · exact List.mem_append_left _ (g.sub p z)
    · have y : p.2 ∈ (x :: L).map (·.2) := by
        rcases List.mem_append.mp z with z | z
        · exact List.mem_cons_of_mem _ (g.all p z)
        · rw [List.mem_singleton.mp z]
          exact List.mem_cons_self
      exact (pm.map (·.2)).mem_iff.mpr y
    · rw [pm.length_eq, List.length_append]
      exact Nat.succ_le_succ g.len
end
end MS

set_option Elab.async false
set_option linter.all false
set_option maxRecDepth 100000
set_option maxHeartbeats 4000000
namespace MS
open PySem PySem.Spec PyProof.Rows L2
section
variable {P : Program} {w : World} {A : Around} {E : Value → Shared → Prop} {s : Shared}
def Keeps (h h' : Heap) : Prop := ∀ b o, h.get? b = some o → h'.get? b = some o
theorem tups_keep {h h' : Heap} {L : List Row} (z : Tups P w h L) (k : Keeps h h') : Tups P w h' L := fun p hp => mt_keep (z p hp) k
/-- the loop of set.update over any walk -/
theorem upd_loop {I S : Addr} {fp wr : List Addr} {G : Array GenState → Array GenState → Prop} {Pv : Nat → Value → Prop} {St : Nat → Shared → Prop} {R : Result → Shared → Prop} {ks : List Row} {h0 : Heap}
    (W : WalksS P w A.in1 I fp wr G ks.length Pv St) (sf : S ∉ fp) (few : ks.length < 64) (val : ∀ i v, Pv i v → ∃ p, ks[i]? = some p ∧ v = .ref p.1) (tk : Tups P w h0 ks) (s0 : h0.get? S = none) (w0 : ∀ b ∈ wr, h0.get? b = none) (hu : A.in1.units < cLine) :
    ∀ (k i : Nat) (s : Shared), ks.length - i = k → i ≤ ks.length → St i s → Keeps h0 s.heap → (∃ L es ep t, SR P w s.heap S L es ep t ∧ Of (ks.take i) L) →
      (∀ s' L es ep t, Moved (S :: wr) G s s' → SR P w s'.heap S L es ep t → Of ks L → Keeps h0 s'.heap → R (.ok (.ret .none)) s') → codeAny (model P w) A (.builtin "set.update.loop" ⟨[.ref S, .ref I], []⟩) R s := by
  have sw : S ∉ wr := fun z => sf (W.sub _ z)
  have more : ∀ b ∈ wr, b ∈ S :: wr := fun b z => List.mem_cons_of_mem _ z
  have on : ∀ {s s' : Shared}, Moved wr G s s' → Keeps h0 s.heap → Keeps h0 s'.heap := fun m kp b o z => m.heap b o (fun y => by rw [w0 b y] at z; cases z) (kp b o z)
  intro k
  induction k with
  | zero =>
    intro i s e il st kp ⟨L, es, ep, t, R0, g⟩ fin
    obtain rfl : i = ks.length := by omega
    rw [List.take_length] at g
    refine codeAny_builtin F.entry_set_update_loop ?_
    rw [Around.under_plainId F.plain_set_update_loop _]
    show wpAny _ A.in1 (pyNext (.ref I) >>= _) _ _ s
    refine wpAny_bind (W.done s _ _ st fun s' m => ?_)
    show wpAny _ A.in1 (ret Value.none) _ _ s'
    exact wpAny_pure (fin s' L es ep t (m.mono more) (R0.move fun o z => m.heap S o sw z) g (on m kp))
  | succ k ih =>
    intro i s e il st kp ⟨L, es, ep, t, R0, g⟩ fin
    refine codeAny_builtin F.entry_set_update_loop ?_
    rw [Around.under_plainId F.plain_set_update_loop _]
    show wpAny _ A.in1 (pyNext (.ref I) >>= _) _ _ s
    refine wpAny_bind (W.item i s _ _ (by omega) st fun v s' hp st' m => ?_)
    obtain ⟨p, gp, rfl⟩ := val i v hp
    have kp' := on m kp
    have R1 : SR P w s'.heap S L es ep t := R0.move fun o z => m.heap S o sw z
    have tL : Tups P w s'.heap L := fun q hq => mt_keep (tk q (List.mem_of_mem_take (g.sub q hq))) kp'
    have zx : MT P w s'.heap p.2 p.1 := mt_keep (tk p (List.mem_of_getElem? gp)) kp'
    have gl := g.len
    rw [List.length_take] at gl
    show wpAny _ A.in1 (holding [Value.ref p.1] (setAdd S (.ref p.1)) >>= _) _ _ s'
    unfold setAdd
    refine wpAny_bind (wpAny_holding (wpAny_holding (wpAny_bind (wpAny_pyHash_tuple hu zx ?_))))
    refine add (s := { s' with toks := s'.toks + (p.2.length + 1) }) R1 tL zx hu (by omega) fun b h' L' es' ep' t' sb R2 c1 c2 => ?_
    have g' : Of (ks.take (i + 1)) L' := by
      rw [List.take_succ, gp]
      exact g.snoc c1 c2
    have kp2 : Keeps h0 h' := fun b o z => (sb.2 b (fun y => by rw [y, s0] at z; cases z)).trans (kp' b o z)
    refine wpAny_pure ⟨plainId_quiet F.plain_set_update_loop _, ih (i + 1) _ (by omega) (by omega) (W.frame _ s' _ _ st' (Nat.le_add_right _ _) fun b hb o z => ?_) kp2 ⟨L', es', ep', t', R2, g'⟩ fun s2 L2 es2 ep2 t2 m2 R3 g2 kp3 => ?_⟩
    · rw [sb.2 b (fun y : b = S => sf (by rw [← y]; exact hb))]
      exact z
    · refine fin s2 L2 es2 ep2 t2 (Moved.trans W.gtrans ((m.mono more).then_heap (Nat.le_add_right _ _) fun b o hb z => ?_) m2) R3 g2 kp3
      rw [sb.2 b (fun y : b = S => hb (by rw [y]; exact List.mem_cons_self))]
      exact z

/-- set(xs), xs a list -/
theorem call_set_list {l : Addr} {items : Array Value} (ks : List Row) {Q : Value → Shared → Prop} (hh : A.handled = none) (hl : s.heap.IsList l items) (hit : items.toList = ks.map fun p => Value.ref p.1) (tk : Tups P w s.heap ks) (few : ks.length < 64) (hu : A.units + 3 < cLine)
    (fin : ∀ (h' : Heap) (n : Nat) L es ep t, SR P w h' s.heap.objs.size L es ep t → Of ks L → Keeps s.heap h' → Q (.ref s.heap.objs.size) { s with heap := h', toks := n }) : wpAny (model P w) A (call (.type "set") [.ref l]) Q E s := by
  have isz : items.size = ks.length := by
    have z := congrArg List.length hit
    simpa using z
  obtain ⟨c0, tl0, mro0⟩ := F.called_set.mro
  have made0 := F.called_set.made
  have sub0 := F.called_set.sub
  refine wpAny_call (codeAny_of_tree ?_)
  show wpAny _ _ (callAny (.type "set") _) _ _ _
  refine wpAny_pure ⟨Code.quiet_builtin _ (by decide +kernel), codeAny_builtin F.entry_type_call ?_⟩
  rw [Around.under_plain (weight_type_call_type "set" [.ref l] []) rfl]
  have nt0 := F.called_set.notType
  have cc0 := F.called_set.canCreate
  have tc0 := F.typeCall_set_1 (.ref l)
  repeat (any_goals (first | assumption | wp_step))
  refine codeAny_mono (code_set_led1 (.ref l) (E := E) (Q₁ := fun ob s1 => ob = .ref s.heap.objs.size ∧ s1 = { s with heap := s.heap.push (newO w) }) ⟨rfl, rfl⟩) fun r s1 hr => ?_
  cases r with
  | error e => exact hr
  | ok fl =>
    cases fl with
    | ret ob =>
      obtain ⟨rfl, rfl⟩ := hr
      have gS : (s.heap.push (newO w)).get? s.heap.objs.size = some (newO w) := Heap.get?_push_size _ rfl
      have tS : Shared.TypeIs { s with heap := s.heap.push (newO w) } (.ref s.heap.objs.size) "set" := ⟨_, gS, rfl⟩
      have il0 := F.called_set.init.lookup
      have ib0 := F.called_set.init.bind (.ref s.heap.objs.size)
      repeat (any_goals (first | assumption | wp_step))
      refine codeAny_mono (codeAny_call_builtin (R := wants (fun r s2 => r = .none ∧ ∃ h' n L es ep t, s2 = { s with heap := h', toks := n } ∧ SR P w h' s.heap.objs.size L es ep t ∧ Of ks L ∧ Keeps s.heap h') E) F.called_set.init.plain F.entry_set_init (check_set_init_1 tS ?_)) fun r2 s2 hr2 => ?_
      · obtain ⟨ol, gl, cl, nl, dl⟩ := hl
        obtain ⟨ocls, odict, odata, oslots⟩ := ol
        simp only at cl dl
        subst cl; subst dl
        have gl1 : (s.heap.push (newO w)).get? l = some { cls := .type "list", dict := odict, data := .seq items nl, slots := oslots } := Heap.get?_push_of_some _ gl
        have no1 := F.sub_list_set
        have no2 := F.sub_list_frozenset
        have no3 : (Value.type "list" == Value.type "dict") = false := by decide
        have is1 : (s.heap.push (newO w)).IsList l items := ⟨_, gl1, rfl, nl, rfl⟩
        unfold Builtin.«set.__init__» noKeywords Builtin.Frozenset.updateFrom
        generalize ePI : pyIter = PI
        wp_walk
        subst ePI
        refine wpAny_pyIter_list is1 (wpAny_bind (wpAny_runValue ?_))
        have lS : l < s.heap.objs.size := Heap.lt_size gl
        have h3 : A.in1.in1.in1.handled = none := by simp [hh]
        have sz1 : (s.heap.push (newO w)).objs.size = s.heap.objs.size + 1 := Heap.size_push ..
        have off : ∀ b, s.heap.objs.size ≤ b → s.heap.get? b = none := fun b hb => by
          cases z : s.heap.get? b with
          | none => rfl
          | some o => exact absurd (Nat.lt_of_lt_of_le (Heap.lt_size z) hb) (Nat.lt_irrefl _)
        have val : ∀ (i : Nat) (v : Value), items[i]? = some v → ∃ p, ks[i]? = some p ∧ v = .ref p.1 := fun i v hv => by
          have z : items.toList[i]? = some v := by rw [Array.getElem?_toList]; exact hv
          rw [hit, List.getElem?_map] at z
          obtain ⟨p, z1, z2⟩ := Option.map_eq_some_iff.mp z
          exact ⟨p, z1, z2.symm⟩
        have WW := (Walks.list (prog := P) (w := w) h3 (s.heap.push (newO w)).objs.size l (by rw [sz1]; exact Nat.ne_of_lt (Nat.lt_succ_of_lt lS)) items).toS
        rw [isz] at WW
        refine upd_loop (S := s.heap.objs.size) (ks := ks) (h0 := s.heap) WW (by rw [sz1]; simp only [List.mem_cons, List.not_mem_nil, or_false, not_or]; exact ⟨Nat.ne_of_lt (Nat.lt_succ_self _), Nat.ne_of_gt lS⟩) few val tk (off _ (Nat.le_refl _)) (fun b hb => off b (by rw [List.mem_singleton.mp hb, sz1]; exact Nat.le_succ _)) hu (ks.length - 0) 0 _ (by omega) (Nat.zero_le _)
          ⟨⟨_, Heap.get?_push_size _ rfl, rfl, rfl⟩, (is1.push _)⟩ (fun b o z => Heap.get?_push_of_some _ (Heap.get?_push_of_some _ z)) ⟨[], #[], 0, _, sr_new (Heap.get?_push_of_some _ gS), Of.nil⟩ ?_
        intro s' L es ep t m R1 g1 kp
        obtain ⟨h', g2, d', n', os'⟩ := s'
        obtain rfl : g2 = s.gens := m.gens
        obtain rfl : d' = s.drawn := m.drawn
        obtain rfl : os' = s.os := m.os
        show wpAny _ _ _ _ _ _
        refine wpAny_pure ?_
        show wpAny _ _ (ret Value.none) _ _ _
        exact wpAny_pure ⟨rfl, h', n', L, es, ep, t, rfl, R1, g1, kp⟩
      · cases r2 with
        | error e => exact hr2
        | ok fl2 =>
          cases fl2 with
          | ret r =>
            obtain ⟨rfl, h', n, L, es, ep, t, rfl, R1, g1, kp⟩ := hr2
            repeat (any_goals (first | assumption | wp_step))
            exact fin _ _ _ _ _ _ R1 g1 kp
          | _ => exact hr2.elim
    | _ => exact hr.elim

/-- set(xs), xs a tuple -/
theorem call_set_tuple {l : Addr} {items : Array Value} (ks : List Row) {Q : Value → Shared → Prop} (hh : A.handled = none) (hl : s.heap.IsTuple l items) (hit : items.toList = ks.map fun p => Value.ref p.1) (tk : Tups P w s.heap ks) (few : ks.length < 64) (hu : A.units + 3 < cLine)
    (fin : ∀ (h' : Heap) (n : Nat) L es ep t, SR P w h' s.heap.objs.size L es ep t → Of ks L → Keeps s.heap h' → Q (.ref s.heap.objs.size) { s with heap := h', toks := n }) : wpAny (model P w) A (call (.type "set") [.ref l]) Q E s := by
  have isz : items.size = ks.length := by
    have z := congrArg List.length hit
    simpa using z
  obtain ⟨c0, tl0, mro0⟩ := F.called_set.mro
  have made0 := F.called_set.made
  have sub0 := F.called_set.sub
  refine wpAny_call (codeAny_of_tree ?_)
  show wpAny _ _ (callAny (.type "set") _) _ _ _
  refine wpAny_pure ⟨Code.quiet_builtin _ (by decide +kernel), codeAny_builtin F.entry_type_call ?_⟩
  rw [Around.under_plain (weight_type_call_type "set" [.ref l] []) rfl]
  have nt0 := F.called_set.notType
  have cc0 := F.called_set.canCreate
  have tc0 := F.typeCall_set_1 (.ref l)
  repeat (any_goals (first | assumption | wp_step))
  refine codeAny_mono (code_set_led1 (.ref l) (E := E) (Q₁ := fun ob s1 => ob = .ref s.heap.objs.size ∧ s1 = { s with heap := s.heap.push (newO w) }) ⟨rfl, rfl⟩) fun r s1 hr => ?_
  cases r with
  | error e => exact hr
  | ok fl =>
    cases fl with
    | ret ob =>
      obtain ⟨rfl, rfl⟩ := hr
      have gS : (s.heap.push (newO w)).get? s.heap.objs.size = some (newO w) := Heap.get?_push_size _ rfl
      have tS : Shared.TypeIs { s with heap := s.heap.push (newO w) } (.ref s.heap.objs.size) "set" := ⟨_, gS, rfl⟩
      have il0 := F.called_set.init.lookup
      have ib0 := F.called_set.init.bind (.ref s.heap.objs.size)
      repeat (any_goals (first | assumption | wp_step))
      refine codeAny_mono (codeAny_call_builtin (R := wants (fun r s2 => r = .none ∧ ∃ h' n L es ep t, s2 = { s with heap := h', toks := n } ∧ SR P w h' s.heap.objs.size L es ep t ∧ Of ks L ∧ Keeps s.heap h') E) F.called_set.init.plain F.entry_set_init (check_set_init_1 tS ?_)) fun r2 s2 hr2 => ?_
      · obtain ⟨ol, gl, cl, nl, dl⟩ := hl
        obtain ⟨ocls, odict, odata, oslots⟩ := ol
        simp only at cl dl
        subst cl; subst dl
        have gl1 : (s.heap.push (newO w)).get? l = some { cls := .type "tuple", dict := odict, data := .seq items nl, slots := oslots } := Heap.get?_push_of_some _ gl
        have no1 := F.sub_tuple_set
        have no2 := F.sub_tuple_frozenset
        have no3 : (Value.type "tuple" == Value.type "dict") = false := by decide
        have is1 : (s.heap.push (newO w)).IsTuple l items := ⟨_, gl1, rfl, nl, rfl⟩
        unfold Builtin.«set.__init__» noKeywords Builtin.Frozenset.updateFrom
        generalize ePI : pyIter = PI
        wp_walk
        subst ePI
        refine wpAny_pyIter_tuple is1 (wpAny_bind (wpAny_runValue ?_))
        have lS : l < s.heap.objs.size := Heap.lt_size gl
        have h3 : A.in1.in1.in1.handled = none := by simp [hh]
        have sz1 : (s.heap.push (newO w)).objs.size = s.heap.objs.size + 1 := Heap.size_push ..
        have off : ∀ b, s.heap.objs.size ≤ b → s.heap.get? b = none := fun b hb => by
          cases z : s.heap.get? b with
          | none => rfl
          | some o => exact absurd (Nat.lt_of_lt_of_le (Heap.lt_size z) hb) (Nat.lt_irrefl _)
        have val : ∀ (i : Nat) (v : Value), items[i]? = some v → ∃ p, ks[i]? = some p ∧ v = .ref p.1 := fun i v hv => by
          have z : items.toList[i]? = some v := by rw [Array.getElem?_toList]; exact hv
          rw [hit, List.getElem?_map] at z
          obtain ⟨p, z1, z2⟩ := Option.map_eq_some_iff.mp z
          exact ⟨p, z1, z2.symm⟩
        have WW := (Walks.tuple (prog := P) (w := w) h3 (s.heap.push (newO w)).objs.size l (by rw [sz1]; exact Nat.ne_of_lt (Nat.lt_succ_of_lt lS)) items).toS
        rw [isz] at WW
        refine upd_loop (S := s.heap.objs.size) (ks := ks) (h0 := s.heap) WW (by rw [sz1]; simp only [List.mem_cons, List.not_mem_nil, or_false, not_or]; exact ⟨Nat.ne_of_lt (Nat.lt_succ_self _), Nat.ne_of_gt lS⟩) few val tk (off _ (Nat.le_refl _)) (fun b hb => off b (by rw [List.mem_singleton.mp hb, sz1]; exact Nat.le_succ _)) hu (ks.length - 0) 0 _ (by omega) (Nat.zero_le _)
          ⟨⟨_, Heap.get?_push_size _ rfl, rfl, rfl⟩, (is1.push _)⟩ (fun b o z => Heap.get?_push_of_some _ (Heap.get?_push_of_some _ z)) ⟨[], #[], 0, _, sr_new (Heap.get?_push_of_some _ gS), Of.nil⟩ ?_
        intro s' L es ep t m R1 g1 kp
        obtain ⟨h', g2, d', n', os'⟩ := s'
        obtain rfl : g2 = s.gens := m.gens
        obtain rfl : d' = s.drawn := m.drawn
        obtain rfl : os' = s.os := m.os
        show wpAny _ _ _ _ _ _
        refine wpAny_pure ?_
        show wpAny _ _ (ret Value.none) _ _ _
        exact wpAny_pure ⟨rfl, h', n', L, es, ep, t, rfl, R1, g1, kp⟩
      · cases r2 with
        | error e => exact hr2
        | ok fl2 =>
          cases fl2 with
          | ret r =>
            obtain ⟨rfl, h', n, L, es, ep, t, rfl, R1, g1, kp⟩ := hr2
            repeat (any_goals (first | assumption | wp_step))
            exact fin _ _ _ _ _ _ R1 g1 kp
          | _ => exact hr2.elim
    | _ => exact hr.elim
end
end MS

set_option Elab.async false
set_option linter.all false
set_option maxRecDepth 100000
set_option maxHeartbeats 4000000
namespace MS
open PySem PySem.Spec PyProof.Rows L2
open PyProof.Rows.G (sh1 tupKindC tupKeyC tupKeyC_of list_sort_tups)
/-- a dot's items -/
def D3 (k : List Key) : Prop := ∃ (n : Int) (x : PySem.Str) (l : Int), k = [.inl n, .inr x, .inl l]
def code (k : List Key) : List (Int ⊕ List Nat) := k.map fun | .inl i => .inl i | .inr x => .inr x.cps.toList
/-- the order of dots -/
def dlt (a b : List Key) : Bool := lexLt itemOrd (code a) (code b)
section
variable {P : Program} {w : World} {A : Around} {E : Value → Shared → Prop} {s : Shared}
theorem d3_items {k : List Key} {vs : List Value} (h : ItemsAre (mixKind P w) k vs) (d : D3 k) : ∃ n t x u l y, vs = [Value.int n t, Value.str x u, Value.int l y] ∧ k = [.inl n, .inr x, .inl l] := by
  obtain ⟨n, x, l, rfl⟩ := d
  cases h with
  | cons h1 h =>
    cases h with
    | cons h2 h =>
      cases h with
      | cons h3 h =>
        cases h
        rcases keyIs_shape (show keyIs (.inl n) _ = true from h1) with ⟨i, t, e1, rfl⟩ | ⟨z, t, e1, _⟩
        · rcases keyIs_shape (show keyIs (.inr x) _ = true from h2) with ⟨z, u, e2, _⟩ | ⟨z, u, e2, rfl⟩
          · cases e2
          · rcases keyIs_shape (show keyIs (.inl l) _ = true from h3) with ⟨j, y, e3, rfl⟩ | ⟨z', y, e3, _⟩
            · cases e1
              cases e2
              cases e3
              exact ⟨_, _, _, _, _, _, rfl, rfl⟩
            · cases e3
        · cases e1
theorem mt_key {h : Heap} {k : List Key} {a : Addr} (z : MT P w h k a) (d : D3 k) : tupKeyC h sh1 (.ref a) = some (code k) := by
  obtain ⟨o, its, n, g, c, dt, it⟩ := z
  obtain ⟨n, t, x, u, l, y, e, rfl⟩ := d3_items it d
  refine tupKeyC_of g c dt ?_
  rw [e]
  rfl
theorem mt_tup {h : Heap} {k : List Key} {a : Addr} (z : MT P w h k a) (d : D3 k) : ∃ f, TupOf h sh1 (.ref a) f := by
  obtain ⟨o, its, n, g, c, dt, it⟩ := z
  obtain ⟨n, t, x, u, l, y, e, rfl⟩ := d3_items it d
  refine ⟨Value.int n t, a, o, its, _, rfl, g, c, dt, ?_, fun _ => ⟨n, t, rfl⟩, fun z => ?_⟩
  · rw [← Array.getElem?_toList, e]
    rfl
  · exact absurd z (by decide)
theorem tups_of {h : Heap} : ∀ (vs : List Value), (∀ v ∈ vs, ∃ f, TupOf h sh1 v f) → ∃ fs, TupsOf h sh1 vs fs
  | [], _ => ⟨[], .nil⟩
  | v :: vs, z => by
    obtain ⟨f, hf⟩ := z v List.mem_cons_self
    obtain ⟨fs, hfs⟩ := tups_of vs fun u hu => z u (List.mem_cons_of_mem _ hu)
    exact ⟨f :: fs, .cons hf hfs⟩
theorem sorted_vals {h : Heap} {vs : List Value} {arr : Array Keyed} (pm : arr.Perm (pairsOf vs)) (so : SortedToK (tupKindC h sh1) arr (pairsOf vs).size) :
    (arr.map (·.2)).toList.Perm vs ∧ (arr.map (·.2)).toList.Pairwise fun u v => lexLt itemOrd ((tupKeyC h sh1 v).getD []) ((tupKeyC h sh1 u).getD []) = false := by
  have pl : arr.toList.Perm (vs.zip vs) := by
    have z := Array.perm_iff_toList_perm.mp pm
    rw [pairsOf_toList] at z
    exact z
  have eq : ∀ p ∈ arr.toList, p.1 = p.2 := fun p hp => (mem_zip_self (pl.mem_iff.mp hp)).1
  have sz : arr.size = (pairsOf vs).size := by
    have z := pm.size_eq
    exact z
  refine ⟨?_, ?_⟩
  · have z := pl.map Prod.snd
    rw [List.map_snd_zip (Nat.le_refl _)] at z
    rw [Array.toList_map]
    exact z
  · rw [Array.toList_map, List.pairwise_map, List.pairwise_iff_getElem]
    intro i j hi hj hij
    rw [Array.length_toList] at hi hj
    have z := so i j (Nat.le_of_lt hij) (by rw [← sz]; exact hj)
    have ki : KK (tupKindC h sh1) arr i = (tupKeyC h sh1 (arr[i]).1).getD [] := by
      unfold KK
      rw [Array.getElem?_eq_getElem hi]
    have kj : KK (tupKindC h sh1) arr j = (tupKeyC h sh1 (arr[j]).1).getD [] := by
      unfold KK
      rw [Array.getElem?_eq_getElem hj]
    rw [ki, kj] at z
    have ei := eq (arr[i]) (by simp)
    have ej := eq (arr[j]) (by simp)
    rw [ei, ej] at z
    simp only [Array.getElem_toList]
    exact z
variable {a : Addr} {L : List Row} {es : Array (Int × Value)} {ep : Nat} {t : SetTable}
/-- sorted(set) -/
theorem sorted_set {Q : Value → Shared → Prop} (R : SR P w s.heap a L es ep t) (tu : Tups P w s.heap L) (dd : ∀ p ∈ L, D3 p.2) (hh : A.handled = none)
    (q : ∀ s' p (out : Array Value) (c : Nat) (L' : List Row), Keeps s.heap s'.heap → s'.gens = s.gens → s'.os = s.os → s.heap.objs.size ≤ p → s'.heap.get? p = some (seqObj "list" out c) → out.toList = L'.map (fun z => Value.ref z.1) → L'.Perm L →
      L'.Pairwise (fun x y => dlt y.2 x.2 = false) → Q (.ref p) s') : wpAny (model P w) A (call (.builtin "sorted") [.ref a]) Q E s := by
  obtain ⟨o, go, ex, dt⟩ := R.ob
  have el := enc_len R.rw_
  have few := R.few
  refine Calls.call_function_entry kind_sorted plain_sorted entry_sorted (args_sorted1 _) ?_
  unfold Builtin.«sorted»
  refine wpAny_bind (m := checkCount "sorted" 1 1 _) (wpAny_pure ?_)
  refine wpAny_bind (collect_set (A := A.in1) hh ⟨o, go, ex.1, dt⟩ R.fits (by unfold scanBound; omega) R.tab.ris R.led fun s1 vs k1 z1 g1 o1 pm => ?_)
  have ev : es.toList.map (·.2) = L.map fun z => Value.ref z.1 := by
    rw [R.rw_, List.map_map] <;> rfl
  rw [ev] at pm
  have vl : vs.length < 64 := by rw [pm.length_eq, List.length_map]; exact few
  refine wpAny_bind (wpAny_newList ?_ (by rw [sizeLine_eq]; omega))
  have gL : (s1.heap.push (seqObj "list" vs.toArray 0)).get? s1.heap.objs.size = some (seqObj "list" vs.toArray 0) := Heap.get?_push_size _ rfl
  have kk : Keeps s.heap (s1.heap.push (seqObj "list" vs.toArray 0)) := fun b u e => Heap.get?_push_of_some _ (k1 b u e)
  have tu2 := tups_keep tu kk
  have inL : ∀ v ∈ vs, ∃ z ∈ L, v = Value.ref z.1 := fun v hv => by
    obtain ⟨z, hz, e⟩ := List.mem_map.mp (pm.mem_iff.mp hv)
    exact ⟨z, hz, e.symm⟩
  obtain ⟨fs, hfs⟩ := tups_of (h := s1.heap.push (seqObj "list" vs.toArray 0)) vs fun v hv => by
    obtain ⟨z, hz, rfl⟩ := inL v hv
    exact mt_tup (tu2 z hz) (dd z hz)
  refine wpAny_bind (wpAny_holding (wpAny_call_entry slot_list_sort ⟨_, gL, rfl⟩ entry_list_sort (list_sort_tups (s := { s1 with heap := s1.heap.push (seqObj "list" vs.toArray 0) }) gL hfs (fun v hv => ?_) (by rw [sizeLine_eq]; omega) fun st' b1 b2 b3 => ⟨_, rfl, ?_⟩) (args_list_sort _)))
  · obtain ⟨z, hz, rfl⟩ := inL v hv
    exact ⟨_, mt_key (tu2 z hz) (dd z hz)⟩
  · obtain ⟨pm2, so⟩ := sorted_vals b1 b2
    generalize (arrOf st').map (·.2) = out at pm2 so ⊢
    obtain ⟨c, hc⟩ := sortedHeap_at (vs := vs) (out := out) gL
    have pmL : out.toList.Perm (L.map fun z => Value.ref z.1) := pm2.trans pm
    obtain ⟨L', pL, eL⟩ := perm_lift (fun z : Row => Value.ref z.1) pmL L rfl
    refine wpAny_pure ⟨_, rfl, q _ s1.heap.objs.size out c L' (fun b u e => ?_) g1 o1 z1 hc eL.symm pL ?_⟩
    · have y := k1 b u e
      have lt := Heap.lt_size y
      show (sortedHeap (s1.heap.push (seqObj "list" vs.toArray 0)) s1.heap.objs.size vs out).get? b = some u
      rw [sortedHeap_old (Nat.ne_of_lt lt) (by rw [size_push']; exact Nat.lt_succ_of_lt lt)]
      exact Heap.get?_push_of_some _ y
    · rw [← eL, List.pairwise_map] at so
      refine List.Pairwise.imp_of_mem (fun {x y} hx hy z => ?_) so
      have mx := pL.mem_iff.mp hx
      have my := pL.mem_iff.mp hy
      rw [mt_key (tu2 x mx) (dd x mx), mt_key (tu2 y my) (dd y my)] at z
      exact z
end
/-! ### over the layer -/
def MSO (P : Program) (w : World) (a : Addr) (L : List Row) : HO := .ext fun h => ∃ es ep t, SR P w h a L es ep t
theorem mso_ok {P : Program} {w : World} {H : Hp} {h : Heap} {a : Addr} {L : List Row} {es : Array (Int × Value)} {ep : Nat} {t : SetTable} (R : SR P w h a L es ep t) : ObjOk P w H h a (MSO P w a L) := by
  obtain ⟨o, go, _⟩ := R.ob
  refine ⟨⟨es, ep, t, R⟩, ⟨o, go⟩, fun h1 h2 z k => ?_⟩
  obtain ⟨es', ep', t', R'⟩ := z
  exact ⟨es', ep', t', R'.move k⟩
def Dots (K : PySem.W.Frag) (H : Hp) (ps : List Row) : Prop := ∀ p ∈ ps, SqT K H p.1 (p.2.map kV)
section
variable {X : Cx}
theorem dots_mt {pins : List (Addr × Obj)} {σ : L2.St} {H : Hp} {s : Shared} {ps : List Row} (I : Inv X pins σ H s) (h : Dots X.K H ps) : Tups X.prog X.w s.heap ps := fun p hp => by
  obtain ⟨its, r, ⟨o, ho, hc, n, hd⟩, _⟩ := I.tuple (h p hp)
  exact ⟨o, its.toArray, n, ho, hc, hd, by simpa using items_are r⟩
theorem refs_vals : ∀ {ks : List Row} {us : List Value}, Vals (ks.map fun p => V.ref p.1) us → us = ks.map fun p => Value.ref p.1
  | [], _, .nil => rfl
  | p :: ks, _, .cons r t => by
    cases r
    rw [refs_vals t] <;> rfl
theorem vals_refs : ∀ (ks : List Row), Vals (ks.map fun p => V.ref p.1) (ks.map fun p => Value.ref p.1)
  | [] => .nil
  | p :: ks => .cons rfl (vals_refs ks)
/-- set(xs) -/
def rSetM (K : PySem.W.Frag) (P : Program) (w : World) : List V → Hp → VK → Prop := fun xs H Q => ∃ (l : Addr) (ks : List Row), xs = [V.ref l] ∧ (SqL K H l (ks.map fun p => V.ref p.1) ∨ SqT K H l (ks.map fun p => V.ref p.1)) ∧ Dots K H ks ∧ ks.length < 64 ∧
  ∀ a L, H a = none → Of ks L → Q (.ref a) (upd H a (MSO P w a L))
theorem cr_setM (hc : X.calm = true) (hu : X.A.units + 64 < cLine) : CallR X (.type "set") (rSetM X.K X.prog X.w) := by
  intro pins s σ H xs us Q I r h
  obtain ⟨l, ks, rfl, hl, hk, few, q⟩ := h
  rw [Vals.ref1 r]
  have hn : H s.heap.objs.size = none := I.hok.fresh (Nat.le_refl _)
  have tk := dots_mt I hk
  have fin : ∀ (h' : Heap) (n : Nat) L es ep t, SR X.prog X.w h' s.heap.objs.size L es ep t → Of ks L → Keeps s.heap h' → EP X pins σ Q (.ref s.heap.objs.size) { s with heap := h', toks := n } := fun h' n L es ep t R g k =>
    ⟨.ref s.heap.objs.size, _, I.laid (t' := n) k (Nat.le_refl _) (mso_ok R), rfl, q _ L hn g⟩
  rcases hl with hl | hl
  · obtain ⟨its, rv, pl, hz⟩ := I.list hl
    exact call_set_list (P := X.prog) (w := X.w) ks (I.ok.hd hc) pl.isList (by simpa using refs_vals rv) tk few (by omega) fin
  · obtain ⟨its, rv, pl, hz⟩ := I.tuple hl
    exact call_set_tuple (P := X.prog) (w := X.w) ks (I.ok.hd hc) pl (by simpa using refs_vals rv) tk few (by omega) fin
/-- sorted(set) -/
def rSortM (K : PySem.W.Frag) (P : Program) (w : World) : List V → Hp → VK → Prop := fun vs H Q => ∃ (a : Addr) (L : List Row), vs = [V.ref a] ∧ H a = some (MSO P w a L) ∧ Dots K H L ∧ (∀ p ∈ L, D3 p.2) ∧
  ∀ (L' : List Row) (p : Addr), L'.Perm L → (L'.map (·.2)).Nodup → L'.length < 64 → L'.Pairwise (fun x y => dlt y.2 x.2 = false) → H p = none → Q (.ref p) (upd H p (.lst (L'.map fun q => V.ref q.1)))
theorem cr_sortM (hc : X.calm = true) : CallR X (.builtin "sorted") (rSortM X.K X.prog X.w) := by
  intro pins s σ H vs us Q I r h
  obtain ⟨a, L, rfl, ha, hk, d3, q⟩ := h
  obtain ⟨es, ep, t, R⟩ : ∃ es ep t, SR X.prog X.w s.heap a L es ep t := (I.hok a _ ha).1
  rw [Vals.ref1 r]
  refine sorted_set R (dots_mt I hk) d3 (I.ok.hd hc) fun s' p out c L' k g o hp hg hout pm pw => ?_
  have few : L'.length < 64 := by rw [pm.length_eq]; exact R.few
  have len : (L'.map fun q => V.ref q.1).length ≤ sizeLine := by rw [List.length_map, sizeLine_eq]; omega
  have hn : H p = none := I.hok.fresh hp
  have hv : Vals (L'.map fun q => V.ref q.1) out.toList := by rw [hout]; exact vals_refs L'
  have J : Inv X pins σ (upd H p (.lst (L'.map fun q => V.ref q.1))) { s with heap := s'.heap, gens := s'.gens, drawn := s'.drawn, toks := s'.toks } :=
    I.call (ch := []) (Un.laid k hp hn) (I.hok.laid k hp ⟨len, out.toList, c, hv, hg⟩) (by rw [g]; exact I.bare) (fun _ z => nomatch z)
  have e : s' = { s with heap := s'.heap, gens := s'.gens, drawn := s'.drawn, toks := s'.toks } := by
    cases s'
    cases s
    cases o
    rfl
  rw [e]
  exact ⟨.ref p, _, J, rfl, q L' p pm ((pm.map (·.2)).nodup_iff.mpr R.nd) few pw hn⟩
end
end MS

set_option Elab.async false
set_option linter.all false
set_option maxRecDepth 100000
set_option maxHeartbeats 4000000
namespace MS
open PySem PySem.Spec PyProof.Rows L2
/-! ### set.add -/
section
variable {P : Program} {w : World} {A : Around} {E : Value → Shared → Prop} {s : Shared} {a : Addr} {L : List Row} {es : Array (Int × Value)} {ep : Nat} {t : SetTable}
theorem add_call {x : Addr} {k : List Key} {Q : Value → Shared → Prop} (R : SR P w s.heap a L es ep t) (tu : Tups P w s.heap L) (zx : MT P w s.heap k x) (hu : A.units + 1 < cLine) (few : L.length + 1 < 64)
    (q : ∀ h' n L' es' ep' t', Heap.SameBut a s.heap h' → SR P w h' a L' es' ep' t' → (k ∈ L.map (·.2) → L' = L) → (k ∉ L.map (·.2) → L'.Perm ((x, k) :: L)) → Q .none { s with heap := h', toks := n }) :
    wpAny (model P w) A (call (.builtin "set.add") [.ref a, .ref x]) Q E s := by
  obtain ⟨o, go, ex, dt⟩ := R.ob
  have ty : s.TypeIs (.ref a) "set" := ⟨o, go, ex.1⟩
  refine wpAny_call_entry F.slot_set_add ty F.entry_set_add ?_ (F.args_set_add_2 _ _)
  unfold Builtin.«set.add» Builtin.Frozenset.oneOther
  simp only [List.isEmpty_nil, bind_assoc]
  unfold Builtin.Frozenset.addrOf setAdd
  refine wpAny_bind (wpAny_pure ?_)
  try dsimp only
  refine wpAny_bind (wpAny_pure ?_)
  try dsimp only
  refine wpAny_bind (wpAny_holding (wpAny_bind (wpAny_pyHash_tuple (show A.in1.units < cLine from hu) zx ?_)))
  refine add (s := { s with toks := s.toks + (k.length + 1) }) R tu zx (show A.in1.units < cLine from hu) few fun b h' L' es' ep' t' sb R' c1 c2 => ?_
  show wpAny _ _ (ret Value.none) _ _ _
  exact wpAny_pure ⟨_, rfl, q h' _ L' es' ep' t' sb R' c1 c2⟩
end
section
variable {X : Cx}
theorem add_ok {pins : List (Addr × Obj)} {σ : L2.St} {H : Hp} {s : Shared} {E : Value → Shared → Prop} {D a : Addr} {k : List Key} {L : List Row} {Q : Value → Shared → Prop} (I : Inv X pins σ H s) (hD : H D = some (MSO X.prog X.w D L)) (dL : Dots X.K H L) (ha : SqT X.K H a (k.map kV)) (few : L.length + 1 < 64) (hu : X.A.units + 1 < cLine)
    (h : ∀ s' L', (k ∈ L.map (·.2) → L' = L) → (k ∉ L.map (·.2) → L'.Perm ((a, k) :: L)) → Inv X pins σ (upd H D (MSO X.prog X.w D L')) s' → Q .none s') : wpAny (model X.prog X.w) X.A (call (.builtin "set.add") [.ref D, .ref a]) Q E s := by
  obtain ⟨es, ep, t, R⟩ : ∃ es ep t, SR X.prog X.w s.heap D L es ep t := (I.hok D _ hD).1
  have zx : MT X.prog X.w s.heap k a := dots_mt I (ps := [(a, k)]) (fun p hp => by rw [List.mem_singleton.mp hp]; exact ha) (a, k) List.mem_cons_self
  refine add_call R (dots_mt I dL) zx hu few fun h' n L' es' ep' t' sb R' c1 c2 => h _ L' c1 c2 ?_
  obtain ⟨o', go', _⟩ := R'.ob
  exact I.write (e := D) (t' := n) (by rw [hD]; trivial) (.inl rfl) (fun b u hb hu => (sb.2 b hb).trans hu) ⟨o', go'⟩ (mso_ok R')
end
/-! ### the loops of {.. for .. for ..} -/
section
variable {prog : Program} {w : World} {A : Around} {R : Result → Shared → Prop} {s : Shared} {e x0 y0 x1 y1 : Expr} {sc : Scope} {pos : Pos} {it acc : Value} {env : Env}
abbrev SC (e x0 y0 x1 y1 : Expr) (sc : Scope) (pos : Pos) : Expr := .SetComp e [⟨x0, y0, [], 0⟩, ⟨x1, y1, [], 0⟩] sc pos
theorem turn_out : compTurn (SC e x0 y0 x1 y1 sc pos) 0 it acc env = (do
      standAt y0.pos
      match ← pyNext it with
      | none => pure (.done .next)
      | some v =>
        letOwnedTupleGo x0 it v
        assign x0 env v
        let mut ok := true
        for c in ([] : List Expr) do
          if ok then ok ← isTrue c env (eval c env)
        if ok then
          let z ← eval y1 env
          standAt y1.pos
          let z ← foldedSetIterable y1 env z
          let _ ← runOwn (.compStart (SC e x0 y0 x1 y1 sc pos) 1 (← holding [z] (pyIter z)) acc env) env
        again (.compLoop (SC e x0 y0 x1 y1 sc pos) 0 it acc env)) := by rfl
theorem turn_in : compTurn (SC e x0 y0 x1 y1 sc pos) 1 it acc env = (do
      standAt y1.pos
      match ← pyNext it with
      | none => pure (.done .next)
      | some v =>
        letOwnedTupleGo x1 it v
        assign x1 env v
        let mut ok := true
        for c in ([] : List Expr) do
          if ok then ok ← isTrue c env (eval c env)
        if ok then
          (do let v ← eval e env; standAt e.pos; let _ ← call (.builtin "set.add") [acc, v])
        again (.compLoop (SC e x0 y0 x1 y1 sc pos) 1 it acc env)) := by rfl
abbrev NB (M : Model) (A : Around) (env : Env) (R : Result → Shared → Prop) : Value → Shared → Prop := notedBy M A env fun e s' => R (.error e) s'
theorem loop_out (hf : ∀ z, foldedSetIterable y1 env z = pure z) (J : Nat → Shared → Prop)
    (turn : ∀ n s, J n s → wpAny (model prog w) A (pyNext it) (fun r s1 => match r with
      | none => R (.ok .next) s1
      | some v => wpAny (model prog w) A (letOwnedTupleGo x0 it v) (fun _ s2 => wpAny (model prog w) A (assign x0 env v) (fun _ s3 =>
          wpAny (model prog w) A (eval y1 env) (fun z s4 => wpAny (model prog w) A (pyIter z) (fun i1 s5 => codeAny (model prog w) A (.compStart (SC e x0 y0 x1 y1 sc pos) 1 i1 acc env)
            (fun r s' => match r with | .ok _ => ∃ m, m < n ∧ J m s' | .error _ => False) s5) (NB (model prog w) A env R) s4) (NB (model prog w) A env R) s3) (NB (model prog w) A env R) s2) (NB (model prog w) A env R) s1) (NB (model prog w) A env R) s)
    (n : Nat) (h : J n s) : codeAny (model prog w) A (.compLoop (SC e x0 y0 x1 y1 sc pos) 0 it acc env) R s := by
  refine codeAny_loop rfl J (fun n s hJ => ?_) n h
  show wpAny _ A ((compTurn (SC e x0 y0 x1 y1 sc pos) 0 it acc env).onRaise (fun x => do noteFrame x env; theTreesLotGoes x)) _ _ s
  refine wpAny_noted ?_
  rw [turn_out]
  refine wpAny_bind (wpAny_standAt (wpAny_bind (wpAny_mono (turn n s hJ) (fun r s1 q1 => ?_) fun _ _ z => z)))
  cases r with
  | none => exact wpAny_pure q1
  | some v =>
    refine wpAny_bind (wpAny_mono q1 (fun _ s2 q2 => wpAny_bind (wpAny_mono q2 (fun _ s3 q3 => ?_) fun _ _ z => z)) fun _ _ z => z)
    refine wpAny_bind (wpAny_pure ?_)
    refine wpAny_bind (wpAny_mono q3 (fun z s4 q4 => ?_) fun _ _ z => z)
    refine wpAny_bind (wpAny_standAt (wpAny_bind (wpAny_of_eq (hf z) (wpAny_bind (wpAny_holding (wpAny_mono q4 (fun i1 s5 q5 => ?_) fun _ _ z => z))))))
    refine wpAny_bind (wpAny_runOwn ?_)
    rw [Around.mark_none]
    refine codeAny_mono q5 fun r s' hr => ?_
    cases r with
    | error e => exact hr.elim
    | ok f =>
      first
        | exact wpAny_pure ⟨rfl, hr⟩
        | exact wpAny_bind (wpAny_pure (wpAny_pure ⟨rfl, hr⟩))
theorem loop_in (J : Nat → Shared → Prop)
    (turn : ∀ n s, J n s → wpAny (model prog w) A (pyNext it) (fun r s1 => match r with
      | none => R (.ok .next) s1
      | some v => wpAny (model prog w) A (letOwnedTupleGo x1 it v) (fun _ s2 => wpAny (model prog w) A (assign x1 env v) (fun _ s3 =>
          wpAny (model prog w) A (eval e env) (fun z s4 => wpAny (model prog w) A (call (.builtin "set.add") [acc, z]) (fun _ s5 => ∃ m, m < n ∧ J m s5) (NB (model prog w) A env R) s4) (NB (model prog w) A env R) s3) (NB (model prog w) A env R) s2) (NB (model prog w) A env R) s1) (NB (model prog w) A env R) s)
    (n : Nat) (h : J n s) : codeAny (model prog w) A (.compLoop (SC e x0 y0 x1 y1 sc pos) 1 it acc env) R s := by
  refine codeAny_loop rfl J (fun n s hJ => ?_) n h
  show wpAny _ A ((compTurn (SC e x0 y0 x1 y1 sc pos) 1 it acc env).onRaise (fun x => do noteFrame x env; theTreesLotGoes x)) _ _ s
  refine wpAny_noted ?_
  rw [turn_in]
  refine wpAny_bind (wpAny_standAt (wpAny_bind (wpAny_mono (turn n s hJ) (fun r s1 q1 => ?_) fun _ _ z => z)))
  cases r with
  | none => exact wpAny_pure q1
  | some v =>
    refine wpAny_bind (wpAny_mono q1 (fun _ s2 q2 => wpAny_bind (wpAny_mono q2 (fun _ s3 q3 => ?_) fun _ _ z => z)) fun _ _ z => z)
    refine wpAny_bind (wpAny_pure ?_)
    exact wpAny_bind (wpAny_bind (wpAny_mono q3 (fun z s4 q4 => wpAny_bind (wpAny_standAt (wpAny_bind (wpAny_mono q4 (fun _ s5 q5 => wpAny_pure (wpAny_pure ⟨rfl, q5⟩)) fun _ _ z => z)))) fun _ _ z => z))
theorem start_in (h0 : codeAny (model prog w) A (.compLoop (SC e x0 y0 x1 y1 sc pos) 1 it acc env) R s)
    (h : wpAny (model prog w) A (pyIter it) (fun i' s' => codeAny (model prog w) A (.compLoop (SC e x0 y0 x1 y1 sc pos) 1 i' acc env) R s') (NB (model prog w) A env R) s) :
    codeAny (model prog w) A (.compStart (SC e x0 y0 x1 y1 sc pos) 1 it acc env) R s := by
  refine codeAny_of_tree ?_
  show wpAny _ _ ((compStart (SC e x0 y0 x1 y1 sc pos) 1 it acc env).onRaise (fun x => do noteFrame x env; standAt theWindowsPlace)) _ _ s
  refine wpAny_notedAt ?_
  unfold compStart
  show wpAny _ _ (ask >>= _) _ _ s
  refine wpAny_bind (wpAny_askSetting (wpAny_ite ?_))
  split
  · first
      | exact wpAny_bind (wpAny_pure (wpAny_pure (And.intro rfl h0)))
      | exact wpAny_pure (And.intro rfl h0)
  · first
      | exact wpAny_bind (wpAny_rule (wpAny_bind (wpAny_standAt (wpAny_bind (wpAny_mono h (fun i' s' q => wpAny_pure (And.intro rfl q)) fun _ _ z => z)))))
      | (refine wpAny_bind (wpAny_rule ?_); show wpAny _ _ (standAt y1.pos >>= _) _ _ s; exact wpAny_bind (wpAny_standAt (wpAny_bind (wpAny_mono h (fun i' s' q => wpAny_pure (And.intro rfl q)) fun _ _ z => z))))
end
end MS

set_option Elab.async false
set_option linter.all false
set_option maxRecDepth 100000
set_option maxHeartbeats 4000000
namespace MS
open PySem PySem.Spec PyProof.Rows L2
/-! ### one turn of a walked thing, in any context that lets no exception out -/
section
variable {Y : Cx} {pl : List (Addr × Obj)} {tg : Expr} {J : It} {fp : List Addr} {it : Addr} {tn : Nat → Heap → Prop}
def Stand (Y : Cx) (pl : List (Addr × Obj)) (tn : Nat → Heap → Prop) (fp : List Addr) (i : Nat) (ρ : L2.St) (G : Hp) (z : Shared) : Prop := Inv Y pl ρ G z ∧ tn i z.heap ∧ ∀ b ∈ fp, G b = none
theorem settle (T : Turn Y.prog Y.w Y.K tg J fp it tn) {i : Nat} {z0 z : Shared} {ρ ρ0 : L2.St} {G : Hp} (I : Inv Y (pl ++ pinsAt fp z0.heap) ρ G z) (h0 : tn i z0.heap) (hl : ρ0.length = ρ.length)
    (hk : ∀ (j : Nat) v, ρ0[j]? = some (some v) → ρ[j]? = some (some v)) : Stand Y pl tn fp i ρ0 G z := by
  have still : ∀ b ∈ fp, ∀ o, z0.heap.get? b = some o → z.heap.get? b = some o ∧ G b = none := fun b hb o e => by
    obtain ⟨y1, y2, _⟩ := I.pin (b, o) (List.mem_append_right _ (List.mem_append_right _ (mem_pinsAt hb e)))
    exact ⟨y1, y2⟩
  refine ⟨I.unpinned.weak hl hk, T.keep _ _ _ h0 fun b hb o e => (still b hb o e).1, fun b hb => ?_⟩
  obtain ⟨o, e, _⟩ := T.obj _ _ h0 b hb
  exact (still b hb o e).2
theorem next_turn (T : Turn Y.prog Y.w Y.K tg J fp it tn) (hc : Y.calm = true) (hx : ∀ e z, Y.xe e z → False) {g : TG} (pg : PG Y tg g) {i : Nat} {ρ : L2.St} {G : Hp} {z : Shared} {R : L2.St → Hp → Prop} (a : Stand Y pl tn fp i ρ G z)
    (ok : ∀ G' : Hp, (∀ b ∈ fp, G' b = none) → ∀ b ∈ fp, FpOk Y pl G' b) (go : J.go i G) (h : ∀ x G', J.yld i G x G' → g x ρ G' R) {Q : Option Value → Shared → Prop} {E F : Value → Shared → Prop}
    (q : ∀ u z1, wpAny (model Y.prog Y.w) Y.A (letOwnedTupleGo tg (.ref it) u) (fun _ z2 => wpAny (model Y.prog Y.w) Y.A (assign tg Y.env u) (fun _ z3 => ∃ z0 : Shared, tn (i + 1) z0.heap ∧ (∀ b ∈ fp, ∃ o, z0.heap.get? b = some o ∧ ∀ v, o.data ≠ .cell v) ∧ ∃ ρ' G', Inv Y (pl ++ pinsAt fp z0.heap) ρ' G' z3 ∧ R ρ' G') F z2) F z1 → Q (some u) z1) :
    wpAny (model Y.prog Y.w) Y.A (pyNext (.ref it)) Q E z := by
  obtain ⟨I, st, nn⟩ := a
  refine thnF (T.item Y rfl rfl rfl hc i pl z ρ G (fun _ _ => False) I (ok G nn) st go) fun r z1 y => ?_
  obtain ⟨u, rfl, y⟩ := y
  refine q u z1 (thnF y fun _ z2 y2 => ?_)
  obtain ⟨x, G2, I2, r2, e2, st2, n2⟩ := y2
  have I2' := I2.pinned (ok G2 n2) (T.obj _ _ st2)
  refine wpAny_mono (pg.run _ z2 ρ G2 x u _ I2' r2 (h x G2 e2)) (fun _ z3 y3 => ?_) fun e z' y' => (hx e z' y').elim
  obtain ⟨ρ', G', I3, y3⟩ := y3
  exact ⟨z2, st2, T.obj _ _ st2, ρ', G', I3, y3⟩
end
/-! ### {elt for tg in iter for tg1 in iter1}, of dots -/
section
variable {X : Cx}
def tSc2 (K : PySem.W.Frag) (P : Program) (w : World) (wi : TI) (g : TG) (wi1 : TI) (g1 : TG) (te : TE) (vs vs1 : List Nat) : TE := fun σ H Q => wi σ H fun J H1 => ∀ D, H1 D = none → ∃ W : Nat → Nat → Hp → Prop, (∃ m, W 0 m (upd H1 D (MSO P w D []))) ∧
  ∀ i m H, W i m H → (J.stop i H ∧ Q (.ref D) H) ∨ (J.go i H ∧ ∃ Nx : Hp → Prop, (∀ H', Nx H' → ∃ m', m' < m ∧ W (i + 1) m' H') ∧ ∀ x H', J.yld i H x H' → g x (wipe σ vs) H' fun σ2 H2 => wipe σ2 vs = wipe σ vs ∧
    wi1 σ2 H2 fun J1 H4 => ∃ W1 : Nat → Nat → Hp → Prop, (∃ m, W1 0 m H4) ∧ ∀ j k H, W1 j k H → (J1.stop j H ∧ Nx H) ∨ (J1.go j H ∧ ∃ Nx1 : Hp → Prop, (∀ H', Nx1 H' → ∃ k', k' < k ∧ W1 (j + 1) k' H') ∧ ∀ x H', J1.yld j H x H' →
      g1 x (wipe σ2 vs1) H' fun σ3 H5 => wipe σ3 vs1 = wipe σ2 vs1 ∧ te σ3 H5 fun y H7 => ∃ (a : Addr) (k : List Key) (L : List Row), y = .ref a ∧ SqT K H7 a (k.map kV) ∧ H7 D = some (MSO P w D L) ∧ Dots K H7 L ∧ L.length + 1 < 64 ∧
        ∀ L', (k ∈ L.map (·.2) → L' = L) → (k ∉ L.map (·.2) → L'.Perm ((a, k) :: L)) → Nx1 (upd H7 D (MSO P w D L'))))
theorem sc2_core {pins : List (Addr × Obj)} {s : Shared} {σ : L2.St} {H : Hp} {Q : VK} {e x0 y0 x1 y1 : Expr} {sc : Scope} {own : List (PySem.Str × Nat)} {vs1 : List Nat} {pos pos' : Pos} {wi wi1 : TI} {g g1 : TG} {te : TE} {use : Option (Value → Sem Unit)} {Qf : Value → Shared → Prop}
    (hc : X.calm = true) (hN : X.N.Nodup) (hu : X.A.units + 1 < cLine) (I : Inv X pins σ H s) (hi : PI X x0 y0 wi) (ok : BlkOk X.N X.env.scope sc own) (hv : ∀ i ∈ vs1, i ∈ own.map (·.2))
    (hg : ∀ (s : Shared) (H : Hp) (C : Addr) (cl : List (PySem.Str × Addr)) (f : List Addr), PG (X.blk s H sc (compEnvC sc cl C X.env) f) x0 g)
    (he : ∀ (s : Shared) (H : Hp) (C : Addr) (cl : List (PySem.Str × Addr)) (f : List Addr), PE (X.blk s H sc (compEnvC sc cl C X.env) f) e te)
    (hi1 : ∀ (s : Shared) (H : Hp) (C : Addr) (cl : List (PySem.Str × Addr)) (f : List Addr), PI (X.blk s H sc (compEnvC sc cl C X.env) f) x1 y1 wi1)
    (hg1 : ∀ (s : Shared) (H : Hp) (C : Addr) (cl : List (PySem.Str × Addr)) (f : List Addr), PG (X.blk s H sc (compEnvC sc cl C X.env) f) x1 g1)
    (hs : ∀ x, foldedSetIterable y0 X.env x = pure x) (hs1 : ∀ env x, foldedSetIterable y1 env x = pure x)
    (h : tSc2 X.K X.prog X.w wi g wi1 g1 te (own.map (·.2)) vs1 σ H Q)
    (fin : ∀ D C s' m H', Inv X pins σ H' s' → Q (.ref D) H' → s'.heap.Ns C m → FpOk X pins H' C → compPost (model X.prog X.w) X.A X.xe use Qf (.ref D) C (.ok .next) s') :
    wpAny (model X.prog X.w) X.A (comprehension (SC e x0 y0 x1 y1 sc pos) sc X.env pos' (newSet (.type "set")) false (eval y0 X.env) use) Qf X.xe s := by
  have fre : ∀ y ∈ sc.names, y.2 = .free → ∃ c, X.env.cells.lookup y.1 = some c := fun y hy q => I.ok.has _ (ok.free y hy q)
  refine wpAny_comprehension_free (use := use) rfl hs (closure_ok fre) ok.kind (fun y hy q => (ok.uniq y hy).trans (by rw [q])) ?_
  refine thn (hi.run pins s σ H _ I h) fun _ z1 k1 => thn k1 fun iv z2 k2 => ?_
  obtain ⟨it, fp, tn, J, H2, rfl, I2, T, t2, f2, q⟩ := k2
  refine PpSet.newSet_ok (newEnv_comp ?_)
  obtain ⟨W, ⟨m0, w0⟩, turn⟩ := q z2.heap.objs.size (I2.hok.fresh (Nat.le_refl _))
  generalize hD : z2.heap.objs.size = D at w0 turn ⊢
  generalize hz3 : ({ z2 with heap := z2.heap.push { cls := .type "set", dict := none, data := .set #[] 0 (.fresh 0 0 (!X.w.params.followText "set-order")) } } : Shared) = z3
  have grow : Keeps z2.heap z3.heap := fun b o y => by rw [← hz3]; exact Heap.get?_push_of_some _ y
  have I3 : Inv X pins σ (upd H2 D (MSO X.prog X.w D [])) z3 := by
    rw [← hz3]
    refine I2.laid (t' := z2.toks) (fun b o y => Heap.get?_push_of_some _ y) (Nat.le_of_eq hD) (mso_ok (sr_new ?_))
    rw [← hD]
    exact Heap.get?_push_size _ rfl
  have f3 : ∀ b ∈ fp, FpOk X pins (upd H2 D (MSO X.prog X.w D [])) b ∧ b < z3.heap.objs.size := fun b hb => by
    obtain ⟨o, y, _⟩ := T.obj _ _ t2 b hb
    refine ⟨⟨?_, (f2 b hb).2⟩, Heap.lt_size (grow _ _ y)⟩
    have ne : b ≠ D := by
      rw [← hD]
      exact Nat.ne_of_lt (Heap.lt_size y)
    exact (upd_ne ne).trans (f2 b hb).1
  have I4 := block_start I3 ok hN f3
  have t3 : tn 0 z3.heap := T.keep _ _ _ t2 fun b _ o y => grow b o y
  generalize hH3 : upd H2 D (MSO X.prog X.w D []) = H3 at I3 f3 I4 w0
  have pg := hg z3 H3 z3.heap.objs.size (cellsFrom (z3.heap.objs.size + 1) sc.names (cloFrom X.env.cells sc.names [])) fp
  have pe := he z3 H3 z3.heap.objs.size (cellsFrom (z3.heap.objs.size + 1) sc.names (cloFrom X.env.cells sc.names [])) fp
  have pj := hi1 z3 H3 z3.heap.objs.size (cellsFrom (z3.heap.objs.size + 1) sc.names (cloFrom X.env.cells sc.names [])) fp
  have pk := hg1 z3 H3 z3.heap.objs.size (cellsFrom (z3.heap.objs.size + 1) sc.names (cloFrom X.env.cells sc.names [])) fp
  show codeAny _ _ (.compStart (SC e x0 y0 x1 y1 sc pos) 0 (.ref it) (.ref D) (compEnvC sc (cellsFrom (z3.heap.objs.size + 1) sc.names (cloFrom X.env.cells sc.names [])) z3.heap.objs.size X.env)) (compPost (model X.prog X.w) X.A X.xe use Qf (.ref D) z3.heap.objs.size) { z3 with heap := pushCells (z3.heap.push { cls := .type "dict", data := .dict #[] }) sc.names }
  generalize hen : compEnvC sc (cellsFrom (z3.heap.objs.size + 1) sc.names (cloFrom X.env.cells sc.names [])) z3.heap.objs.size X.env = en at I4 pg pe pj pk ⊢
  have lo : en.locals = z3.heap.objs.size := by rw [← hen]; rfl
  generalize hz4 : ({ z3 with heap := pushCells (z3.heap.push { cls := .type "dict", data := .dict #[] }) sc.names } : Shared) = z4 at I4 ⊢
  have t4 : tn 0 z4.heap := T.keep _ _ _ t3 fun b _ o y => by rw [← hz4]; exact pushCells_keeps _ _ _ _ (Heap.get?_push_of_some _ y)
  have nox : ∀ a z, (X.blk z3 H3 sc en fp).xe a z → False := fun a z y => y
  have okB : ∀ G' : Hp, (∀ b ∈ fp, G' b = none) → ∀ b ∈ fp, FpOk (X.blk z3 H3 sc en fp) [] G' b := fun G' nn b hb =>
    ⟨nn b hb, (I4.ok.exf b hb).1, I4.ok.exfs b hb, .inl hb, fun x c y => (I4.ok.exf b hb).2 x c y, (fun p hp => absurd (show p ∈ ([] : List (Addr × Obj)) from hp) (by simp))⟩
  have loop : codeAny (model X.prog X.w) X.A (.compLoop (SC e x0 y0 x1 y1 sc pos) 0 (.ref it) (.ref D) en) (compPost (model X.prog X.w) X.A X.xe use Qf (.ref D) z3.heap.objs.size) z4 := by
    refine loop_out (hs1 en) (fun n z => ∃ i G, Stand (X.blk z3 H3 sc en fp) [] tn fp i (wipe σ (own.map (·.2))) G z ∧ W i n G) ?_ m0 ⟨0, H3, ⟨I4, t4, fun b hb => (f3 b hb).1.1⟩, w0⟩
    rintro n z5 ⟨i, G5, S5, w5⟩
    rcases turn i n G5 w5 with ⟨stop, done⟩ | ⟨go, Nx, nxt, step⟩
    · obtain ⟨I5, t5, n5⟩ := S5
      refine thnF (T.done (X.blk z3 H3 sc en fp) rfl rfl rfl hc i [] z5 _ G5 (fun _ _ => False) I5 (okB G5 n5) t5 stop) fun r z6 y => ?_
      obtain ⟨rfl, I6⟩ := y
      have J7 : Inv X pins σ G5 z6 := I3.call' (ch := fp) I6.os I6.base I6.hok I6.bare fun b hb => by
        obtain ⟨_, a1, _, a3, a4, a5⟩ := (f3 b hb).1
        exact ⟨a3, a1, a4, a5⟩
      have nl : G5 z3.heap.objs.size = none := by
        rw [← lo]
        exact I6.free
      obtain ⟨m, ns, _⟩ := I6.loc
      have ns' : z6.heap.Ns z3.heap.objs.size m := by
        rw [← lo]
        exact ns
      exact fin D z3.heap.objs.size z6 m G5 J7 done ns' (I3.fpOk (Nat.le_refl _) nl)
    · refine next_turn (Y := X.blk z3 H3 sc en fp) T hc nox pg S5 okB go step (F := fun _ _ => False) fun u z6 k6 => ?_
      refine thnF k6 fun _ z7 k7 => thnF k7 fun _ z8 k8 => ?_
      obtain ⟨z0, t0, ob0, σ8, G8, I8, same8, q8⟩ := k8
      -- back at the outer loop's start
      have back : ∀ {ρ : L2.St} {z' : Shared} {G' : Hp}, Inv (X.blk z3 H3 sc en fp) ([] ++ pinsAt fp z0.heap) ρ G' z' → ρ.length = σ8.length → (∀ (j : Nat) v, j ∉ own.map (·.2) → σ8[j]? = some (some v) → ρ[j]? = some (some v)) → Nx G' →
          ∃ m, m < n ∧ ∃ i G, Stand (X.blk z3 H3 sc en fp) [] tn fp i (wipe σ (own.map (·.2))) G z' ∧ W i m G := fun {ρ z' G'} I' hl hk nx => by
        obtain ⟨m', hm, w'⟩ := nxt G' nx
        refine ⟨m', hm, i + 1, G', settle (Y := X.blk z3 H3 sc en fp) T I' t0 (by rw [← same8, wipe_length, hl]) (fun j v y => ?_), w'⟩
        rw [← same8] at y
        obtain ⟨c1, c2⟩ := wipe_some y
        exact hk j v c2 c1
      refine thnF (pj.run _ z8 σ8 G8 _ I8 q8) fun _ z9 k9 => thnF k9 fun _ z10 k10 => ?_
      obtain ⟨it1, fp1, tn1, J1, G10, rfl, I10, T1, t10, f10, W1, ⟨m1, w1⟩, turn1⟩ := k10
      have ok1 : ∀ G' : Hp, (∀ b ∈ fp1, G' b = none) → ∀ b ∈ fp1, FpOk (X.blk z3 H3 sc en fp) ([] ++ pinsAt fp z0.heap) G' b := fun G' nn b hb => ⟨nn b hb, (f10 b hb).2⟩
      have inner : codeAny (model X.prog X.w) X.A (.compLoop (SC e x0 y0 x1 y1 sc pos) 1 (.ref it1) (.ref D) en)
          (fun r z' => match r with
            | .ok _ => ∃ m, m < n ∧ ∃ i G, Stand (X.blk z3 H3 sc en fp) [] tn fp i (wipe σ (own.map (·.2))) G z' ∧ W i m G
            | .error _ => False) z10 := by
        refine loop_in (fun k z => ∃ j G, Stand (X.blk z3 H3 sc en fp) ([] ++ pinsAt fp z0.heap) tn1 fp1 j (wipe σ8 vs1) G z ∧ W1 j k G) ?_ m1 ⟨0, G10, ⟨I10.weak (wipe_length _ _) (fun j v y => (wipe_some y).1), t10, fun b hb => (f10 b hb).1⟩, w1⟩
        rintro k z11 ⟨j, G11, S11, w11⟩
        rcases turn1 j k G11 w11 with ⟨stop1, nx⟩ | ⟨go1, Nx1, nxt1, step1⟩
        · obtain ⟨I11, t11, n11⟩ := S11
          refine thnF (T1.done (X.blk z3 H3 sc en fp) rfl rfl rfl hc j _ z11 (wipe σ8 vs1) G11 (fun _ _ => False) I11 (ok1 G11 n11) t11 stop1) fun r z12 y => ?_
          obtain ⟨rfl, I12⟩ := y
          exact back I12 (wipe_length _ _) (fun j v c y => by rw [wipe_out fun c' => c (hv j c')]; exact y) nx
        · refine next_turn (Y := X.blk z3 H3 sc en fp) T1 hc nox pk S11 ok1 go1 step1 (F := fun _ _ => False) fun u1 z12 k12 => ?_
          refine thnF k12 fun _ z13 k13 => thnF k13 fun _ z14 k14 => ?_
          obtain ⟨z15, t15, _, σ15, G15, I15, same15, q15⟩ := k14
          refine thnF (pe.run _ z14 σ15 G15 _ I15 q15) fun v z16 k16 => ?_
          obtain ⟨y, G16, I16, r16, a, kk, L, rfl, ha, hL, dL, few, nx⟩ := k16
          cases r16
          refine add_ok (X := X.blk z3 H3 sc en fp) I16 hL dL ha few hu fun z17 L' c1 c2 I17 => ?_
          obtain ⟨m', hm, w'⟩ := nxt1 _ (nx L' c1 c2)
          exact ⟨m', hm, j + 1, _, settle (Y := X.blk z3 H3 sc en fp) T1 I17 t15 (by rw [← same15, wipe_length]) (fun j v y => by rw [← same15] at y; exact (wipe_some y).1), w'⟩
      exact start_in inner (T1.self X.A 0 _ _ _ t10 inner)
  exact PpSet.codeAny_compStart_set loop (T.self X.A 0 _ _ _ t4 loop)
theorem pe_sc2 {e x0 y0 x1 y1 : Expr} {sc : Scope} {own : List (PySem.Str × Nat)} {vs1 : List Nat} {pos : Pos} {wi wi1 : TI} {g g1 : TG} {te : TE} (hc : X.calm = true) (hN : X.N.Nodup) (hu : X.A.units + 1 < cLine) (hi : PI X x0 y0 wi) (ok : BlkOk X.N X.env.scope sc own) (hv : ∀ i ∈ vs1, i ∈ own.map (·.2))
    (hg : ∀ (s : Shared) (H : Hp) (C : Addr) (cl : List (PySem.Str × Addr)) (f : List Addr), PG (X.blk s H sc (compEnvC sc cl C X.env) f) x0 g)
    (hi1 : ∀ (s : Shared) (H : Hp) (C : Addr) (cl : List (PySem.Str × Addr)) (f : List Addr), PI (X.blk s H sc (compEnvC sc cl C X.env) f) x1 y1 wi1)
    (hg1 : ∀ (s : Shared) (H : Hp) (C : Addr) (cl : List (PySem.Str × Addr)) (f : List Addr), PG (X.blk s H sc (compEnvC sc cl C X.env) f) x1 g1)
    (he : ∀ (s : Shared) (H : Hp) (C : Addr) (cl : List (PySem.Str × Addr)) (f : List Addr), PE (X.blk s H sc (compEnvC sc cl C X.env) f) e te)
    (hs : ∀ x, foldedSetIterable y0 X.env x = pure x := by intro _; rfl) (hs1 : ∀ env x, foldedSetIterable y1 env x = pure x := by intro _ _; rfl) :
    PE X (SC e x0 y0 x1 y1 sc pos) (tSc2 X.K X.prog X.w wi g wi1 g1 te (own.map (·.2)) vs1) := by
  refine ⟨fun pins s σ H Q I h => ?_⟩
  rw [PpSet.eval_SetComp]
  refine sc2_core hc hN hu I hi ok hv hg he hi1 hg1 hs hs1 h fun D C z' m G I' q ns f => ⟨m, ns, fun _ sb => ?_⟩
  exact ⟨.ref D, G, I'.turned (t' := z'.toks) (fun b o hb y => (sb.2 b hb).trans y) f.1 f.2.1 f.2.2.2.1 f.2.2.2.2.1 f.2.2.2.2.2, rfl, q⟩
end
end MS

set_option Elab.async false
set_option linter.all false
set_option maxRecDepth 100000
set_option maxHeartbeats 4000000
namespace L2
open PySem PySem.Spec PyProof.Rows
/-- a def's promise at one place alone -/
def RunAt (P : Program) (w : World) (K : PySem.W.Frag) (mg : Str → Option Value) (base : Heap) (CX : CXT) (A : Around) (f : Addr) (fd : FuncData) (ps : List Str) (sp : Sp) : Prop :=
  ∀ (outer : List Env) (s : Shared) (H : Hp) (args : Args) (us : List Value) (vs : List V) (Q : VK) (E : XK), Env0 P w K mg base A outer s H → BindsTo s fd args (ps.zip us) → Vals vs us → sp vs H Q E → codeAny (model P w) A (.call (.ref f) args) (CR CX outer P w H s Q E) s
theorem run_at {CX : CXT} {P : Program} {w : World} {K : PySem.W.Frag} {mg : Str → Option Value} {base : Heap} {k : Nat} {f : Addr} {name qual : Str} {params : Arguments} {body : List Stmt} {sc : Scope} {dV kV doc pm cdv ct oc : Value} {an od : Option Addr}
    {osl : Array (Option Value)} {N ps : List Str} {sp : Sp} {A : Around} (lk : K.lookup f = some ⟨oc, od, .func (PySem.W.fnOf name qual params body sc dV kV doc pm an cdv ct), osl⟩) (hcd : PySem.W.codeIn K cdv qual = true) (S : FnScope N ps sc)
    (len : ∀ vs H Q E, sp vs H Q E → vs.length = ps.length) (hr : Room (k + 1) A)
    (bd : ∀ (outer : List Env) (s : Shared) (H : Hp) (vs : List V) (Q : VK) (E : XK), sp vs H Q E → ∃ t, PSs (cxOf CX P w K mg base N qual sc f cdv A outer s H E) body t ∧ t { nx := fun _ H' => Q .non H', rt := Q } (start N vs) H) :
    RunAt P w K mg base CX A f (PySem.W.fnOf name qual params body sc dV kV doc pm an cdv ct) ps sp := by
  intro outer s H args us vs Q E e0 hb r hsp
  have l0 := len _ _ _ _ hsp
  have kx : K.In s.heap := e0.mod.kin.keeps fun b o z => (e0.bs b o z).1
  have nl : s.heap.NoLimit := e0.mod.nolimit.keeps fun b o z => (e0.bs b o z).1
  have kd : ∀ y ∈ ps.zip us, sc.names.lookup y.1 = some .local ∨ (sc.names.lookup y.1 = some .cell ∧ ((cellsFrom (s.heap.objs.size + 1) sc.names []).lookup y.1).isSome = true) := fun ⟨n, v⟩ hy => by
    rcases S.par n (List.of_mem_zip hy).1 with z | z
    · exact .inl z
    · exact .inr ⟨z, PySem.W.cellsFrom_some _ _ _ (.inl z)⟩
  refine codeAny_call_function hr.depth (kx _ _ lk) rfl S.co S.gen rfl (PySem.W.codeRec_of kx hcd) (hb _ _ _ _ ?_)
  refine wpAny_newFunctionEnv_cells S.kind kd fun env he s1 x => ?_
  subst he
  refine ⟨nl.keeps x.toInCall.keep, codeAny_func ?_⟩
  obtain ⟨t, ht, hq⟩ := bd outer s H vs Q E hsp
  have J : Inv (cxOf CX P w K mg base N qual sc f cdv A outer s H E) [] (start N vs) H s1 := inv_start S hr.hd e0 l0 r x
  refine wpAny_mono (ht.run [] s1 (start N vs) H _ J hq) (fun fl s' hs => ?_) fun e s' hs => hs
  cases fl with
  | ret u =>
    obtain ⟨v, σ', H', J, rv, q⟩ := hs
    exact ⟨v, H', J.os, J.bare, J.base, J.hok, rv, q⟩
  | next =>
    obtain ⟨σ', H', J, q⟩ := hs
    exact ⟨V.non, H', J.os, J.bare, J.base, J.hok, rfl, q⟩
  | brk =>
    obtain ⟨_, _, _, q⟩ := hs
    exact False.elim q
  | cont =>
    obtain ⟨_, _, _, q⟩ := hs
    exact False.elim q
theorem Fun.at {P : Program} {w : World} {K : PySem.W.Frag} {mg : Str → Option Value} {base : Heap} {x qual : Str} {st : Stmt} {f : Addr} {fd : FuncData} {N ps : List Str} {k : Nat} {sp : Sp} {A : Around} (F : Fun K x qual st f fd) (S : FnScope N ps (defScope st)) (len : ∀ vs H Q E, sp vs H Q E → vs.length = ps.length) (hr : Room (k + 1) A)
    (bd : ∀ (cdv : Value) (outer : List Env) (s : Shared) (H : Hp) (vs : List V) (Q : VK) (E : XK), sp vs H Q E →
      ∃ t, PSs (cxOf CX0 P w K mg base N qual (defScope st) f cdv A outer s H E).nox (defBody st) t ∧ t { nx := fun _ H' => Q .non H', rt := Q } (start N vs) H) : RunAt P w K mg base CX0 A f fd ps sp := by
  obtain ⟨oc, od, kV, doc, pm, an, cdv, ct, osl, rfl, lk, hcd⟩ := F.ex
  refine run_at lk hcd S len hr fun outer s H vs Q E hsp => ?_
  obtain ⟨t, h, q⟩ := bd cdv outer s H vs Q E hsp
  exact ⟨t, h.nox, q⟩
theorem law_at {P : Program} {w : World} {K : PySem.W.Frag} {mg mb : Str → Option Value} {CX : CXT} {fa a : Addr} {fd : FuncData} {x : Str} {sp : Sp} {s₁ : Shared} {vs : List Value} {ns : List Int}
    (kX : K.In s₁.heap) (gN : s₁.heap.Ns mainGlobals mg) (bN : s₁.heap.Ns builtinsNs mb) (bB : ∀ x : Str, x ≠ "__name__" → mb x = bootBuiltins x) (nL : s₁.heap.NoLimit) (g0 : s₁.gens = #[])
    (oa : s₁.heap.get? a = some { cls := .type "list", data := .seq vs.toArray }) (ia : IntsAre vs ns) (la : ns.length ≤ sizeLine)
    (F : ∀ base : Heap, K.In base → base.Ns mainGlobals mg → RunAt P w K mg base CX callerA fa fd [x] sp) (bi : ∀ (s : Shared) (u : Value), BindsTo s fd ⟨[u], []⟩ [(x, u)])
    (pr : ∀ H : Hp, Only H → SqL K H a (ns.map V.int) → sp [.ref a] H (fun v _ => v = .bl true) fun _ _ _ => False)
    (cx : ∀ H e s', CX [] H s₁ (fun _ _ _ => False) e s' → False) :
    codeAny (model P w) callerA (.call (.ref fa) ⟨[.ref a], []⟩) (fun r s' => r = .ok (.ret (.bool true)) ∧ OldK s₁.heap s'.heap ∧ s'.os = s₁.os ∧ AllBare s'.gens) s₁ := by
  have rv := vals_ints ia
  have lv := ia.length
  have kern : ∀ H : Hp, Only H → SqL K H a (ns.map V.int) → HOk P w H s₁.heap → (∀ b, H b ≠ none → b = a) → (H a ≠ none → K.lookup a = none) →
      codeAny (model P w) callerA (.call (.ref fa) ⟨[.ref a], []⟩) (fun r s' => r = .ok (.ret (.bool true)) ∧ OldK s₁.heap s'.heap ∧ s'.os = s₁.os ∧ AllBare s'.gens) s₁ := by
    intro H yO yS yok yA yK
    have up : ∀ {b : Addr} {o : Obj}, s₁.heap.get? b = some o → H b = none → (hidT s₁.heap H).get? b = some o := fun z n => hidT_get z n
    have off : ∀ {b : Addr} {o : Obj} {es : Array DictEntry} {ep : Nat}, s₁.heap.get? b = some o → o.data = .dict es ep → H b = none := fun {b o es ep} z d => by
      cases q : H b with
      | none => rfl
      | some u =>
        have z' : b = a := yA b (by rw [q]; simp)
        subst z'
        rw [oa] at z; cases z
        have d' : Data.seq vs.toArray _ = Data.dict es ep := d
        cases d'
    have nk : ∀ {b : Addr} {m : Str → Option Value}, s₁.heap.Ns b m → (hidT s₁.heap H).Ns b m := fun {b m} ⟨o, es, ep, z, d, r⟩ => ⟨o, es, ep, up z (off z d), d, r⟩
    have kb : K.In (hidT s₁.heap H) := fun b o z => up (kX b o z) (by
      cases q : H b with
      | none => rfl
      | some u =>
        have z' : b = a := yA b (by rw [q]; simp)
        subst z'
        rw [yK (by rw [q]; simp)] at z; cases z)
    have mo : Mod K mg (hidT s₁.heap H) := ⟨kb, nk gN, ⟨mb, nk bN, bB⟩, let ⟨mc, h1, h2⟩ := nL; ⟨mc, nk h1, h2⟩⟩
    have e0 : Env0 P w K mg (hidT s₁.heap H) callerA [] s₁ H := ⟨rfl, mo, fun b o z => of_hidT z, Nat.le_of_eq (hidT_size _ _), trivial, fun b z => absurd (show b ∈ ([] : List Addr) from z) (by simp), yok, .of_eq g0⟩
    refine codeAny_mono (F _ kb (nk gN) [] s₁ H ⟨[.ref a], []⟩ [.ref a] [.ref a] _ _ e0 (bi s₁ (.ref a)) (.cons rfl .nil) (pr H yO yS)) fun r s' h => ?_
    cases r with
    | error e => exact (cx H e s' h).elim
    | ok fl =>
      cases fl with
      | next => exact False.elim h
      | brk => exact False.elim h
      | cont => exact False.elim h
      | ret u =>
        obtain ⟨v, H', os, bare, un, hok', r', q⟩ := h
        have q' : v = .bl true := q
        subst q'
        obtain rfl : u = Value.bool true := r'
        refine ⟨rfl, OldK.of_keep fun b o z => ?_, os, bare⟩
        cases q : H b with
        | none => exact un.keep b o z q (by intro y; exact absurd (show b ∈ ([] : List Addr) from y) (by simp)) (by simp)
        | some u =>
          rcases yO b with y | ⟨ob, xs, y⟩
          · rw [q] at y; cases y
          · have y2 := un.frzs b ob _ y
            obtain ⟨e1, _⟩ := yok b _ y
            obtain ⟨e2, _⟩ := hok' b _ y2
            rw [z] at e1; cases e1
            exact e2
  cases hk : K.lookup a with
  | some o =>
    have z := kX a o hk
    rw [oa] at z
    cases z
    refine kern (fun _ => none) (fun _ => .inl rfl) (.inr ⟨_, vs.toArray, _, hk, rfl, rfl, rfl, by rw [List.size_toArray, lv]; exact la, by simpa using rv⟩) (fun b u y => by have y' : (none : Option HO) = some u := y; cases y') (fun b y => absurd rfl y) fun y => absurd rfl y
  | none =>
    refine kern (fun b => if b = a then some (.frz { cls := .type "list", data := .seq vs.toArray } (.lst (ns.map V.int))) else none) (fun b => ?_) (.inl (.inr ⟨{ cls := .type "list", data := .seq vs.toArray }, if_pos rfl⟩)) (fun b u y => ?_) (fun b y => ?_) fun _ => hk
    · by_cases hb : b = a
      · exact .inr ⟨_, _, if_pos hb⟩
      · exact .inl (if_neg hb)
    · by_cases hb : b = a
      · have y' := (if_pos hb).symm.trans y
        cases y'
        subst hb
        exact ⟨oa, by rw [List.length_map]; exact la, vs, _, rv, oa⟩
      · have y' := (if_neg hb).symm.trans y
        cases y'
    · by_cases hb : b = a
      · exact hb
      · exact absurd (if_neg hb) y
theorem walk_at {l : PySem.W.OpenLaw} {n : Nat} {q : Program} {loose : List Str} {XP : (Str → Option Value) → Heap → Prop} {YP : World → Heap → Prop} {d : DefRec} {K : Params → PySem.W.Frag} {CX : World → CXT} {sp : World → Sp} {x : Str}
    (hn : l.most = some n) (hn2 : n ≤ sizeLine) (hdf : d.params.defaults = [])
    (hY : ∀ (w : World) (h : Heap), YP w h → (K w.params).In h)
    (F : ∀ (w : World) (mg : Str → Option Value) (fa : Addr) (h : Heap), (K w.params).In h → h.Ns mainGlobals mg → mg d.name = some (.ref fa) →
      ∃ fd : FuncData, (∀ (s : Shared) (u : Value), BindsTo s fd ⟨[u], []⟩ [(x, u)]) ∧
        ∀ base : Heap, (K w.params).In base → base.Ns mainGlobals mg → RunAt l.prog w (K w.params) mg base (CX w) callerA fa fd [x] (sp w))
    (hsp : ∀ (w : World) (H : Hp) (a : Addr) (ns : List Int), ns.length ≤ n → Only H → SqL (K w.params) H a (ns.map V.int) → sp w [.ref a] H (fun v _ => v = .bl true) fun _ _ _ => False)
    (hCX : ∀ (w : World) (H : Hp) (s : Shared) (e : Value) (s' : Shared), CX w [] H s (fun _ _ _ => False) e s' → False) :
    PySem.W.WalkO q loose XP YP l.row.toRowW d [] (fun f vs => PySem.call f vs) := by
  refine Att.attach_call hn hdf fun w s₀ s₁ mg mb fa o pm cd doc a vs ns G Y ho hd hcd hmg hobj hints hlen hg => ?_
  have kX := hY w _ Y
  obtain ⟨fd, hb, hF⟩ := F w mg fa _ kX G.T.g hmg
  exact law_at kX G.T.g G.T.b G.T.builtins G.T.nolimit hg hobj hints (Nat.le_trans hlen hn2) hF hb (fun H hO hS => hsp w H a ns hlen hO hS) fun H e s' => hCX w H s₁ e s'
section
variable {X : Cx} {pins : List (Addr × Obj)} {σ : St} {H : Hp} {s : Shared}
theorem noDict_dp {K : PySem.W.Frag} : ∀ {d : PyData} {v : V}, Dp K H v d → d.hasDict = false := by
  have key : ∀ (n : Nat), (∀ (d : PyData) (v : V), d.depth ≤ n → Dp K H v d → d.hasDict = false) := by
    intro n
    induction n with
    | zero =>
      intro d v hd h
      cases h with
      | non => simp [PyData.hasDict]
      | bl b => simp [PyData.hasDict]
      | int i => simp [PyData.hasDict]
      | str x => simp [PyData.hasDict]
      | lst h1 h2 => simp [PyData.depth] at hd
      | tup h1 h2 => simp [PyData.depth] at hd
    | succ n ih =>
      have all : ∀ (ds : List PyData) (vs : List V), PyData.depthAll ds ≤ n → DpAll K H vs ds → PyData.hasDictAll ds = false := by
        intro ds
        induction ds with
        | nil => intro vs _ _; simp [PyData.hasDictAll]
        | cons d ds ih2 =>
          intro vs hd h
          cases h with
          | cons h1 h2 =>
            simp only [PyData.depthAll] at hd
            rw [PyData.hasDictAll, ih d _ (Nat.le_trans (Nat.le_max_left _ _) hd) h1, ih2 _ (Nat.le_trans (Nat.le_max_right _ _) hd) h2]
            rfl
      intro d v hd h
      cases h with
      | non => simp [PyData.hasDict]
      | bl b => simp [PyData.hasDict]
      | int i => simp [PyData.hasDict]
      | str x => simp [PyData.hasDict]
      | lst h1 h2 =>
        rw [PyData.hasDict]
        refine all _ _ ?_ h2
        simp only [PyData.depth] at hd
        omega
      | tup h1 h2 =>
        rw [PyData.hasDict]
        refine all _ _ ?_ h2
        simp only [PyData.depth] at hd
        omega
  intro d v h
  exact key d.depth d v (Nat.le_refl _) h
end
end L2
namespace MS
open PySem PySem.Spec PyProof.Rows L2
section
variable {X : Cx}
/-! ### repr of data without a dict -/
def rRepD (K : PySem.W.Frag) : List V → Hp → VK → Prop := fun xs H Q => ∃ (a : Addr) (d : PyData), xs = [.ref a] ∧ Dp K H (.ref a) d ∧ d.showable = true ∧ d.shown.length ≤ sizeLine ∧ d.depth ≤ 40 ∧ Q (.str d.shown) H
theorem call_repD {k : Nat} (hr : Room k X.A) (hG : X.A.guards = some []) : CallR X (.builtin "repr") (rRepD X.K) := by
  intro pins s σ H xs us Q I r h
  obtain ⟨a, d, rfl, hd, sh, sz, dp, q⟩ := h
  rw [Vals.ref1 r]
  obtain ⟨as, rd⟩ := Dp.reads I d (.ref a) (.ref a) hd rfl
  have hu := hr.units
  exact repr_of_reads' rd sh (fun z => by rw [noDict_dp hd] at z; cases z) hG (by omega) (fun b o z => z) (fun h' u tk kp => ⟨.str _, H, I.kept (t' := tk) kp, ⟨u, rfl⟩, q⟩) sz
/-! ### < of dots -/
def rLtD (K : PySem.W.Frag) : R2 := fun x y H Q => ∃ (a b : Addr) (k l : List Key), x = .ref a ∧ y = .ref b ∧ D3 k ∧ D3 l ∧ SqT K H a (k.map kV) ∧ SqT K H b (l.map kV) ∧ Q (.bl (dlt k l)) H
theorem dlt3 (n m l j : Int) (x y : PySem.Str) : dlt [.inl n, .inr x, .inl l] [.inl m, .inr y, .inl j] =
    (if n = m then if x = y then decide (l < j) else decide (x.cps.toList < y.cps.toList) else decide (n < m)) := by
  unfold dlt code
  simp only [List.map_cons, List.map_nil]
  by_cases h1 : n = m
  · subst h1
    rw [if_pos rfl, lex_self]
    by_cases h2 : x = y
    · subst h2
      rw [if_pos rfl, lex_self]
      by_cases h3 : l = j
      · subst h3
        rw [lex_self]
        simp [PyProof.Rows.lexLt]
      · rw [lex_diff (by intro z; exact h3 (Sum.inl.inj z))]
        rfl
    · rw [if_neg h2, lex_diff (by
        intro z
        apply h2
        have := Sum.inr.inj z
        cases x; cases y
        simp only at this
        rw [Array.toList_inj] at this
        rw [this])]
      rfl
  · rw [if_neg h1, lex_diff (by intro z; exact h1 (Sum.inl.inj z))]
    rfl
theorem vals3 {n l : Int} {x : PySem.Str} {us : List Value} (r : Vals (([.inl n, .inr x, .inl l] : List Key).map kV) us) : ∃ t u y, us = [Value.int n t, Value.str x u, Value.int l y] := by
  cases r with
  | cons r1 r =>
    cases r with
    | cons r2 r =>
      cases r with
      | cons r3 r =>
        cases r
        obtain ⟨t, rfl⟩ := (show ∃ t, _ = Value.int n t from r1)
        obtain ⟨u, rfl⟩ := (show ∃ t, _ = Value.str x t from r2)
        obtain ⟨y, rfl⟩ := (show ∃ t, _ = Value.int l t from r3)
        exact ⟨t, u, y, rfl⟩
theorem op_ltD (hu : X.A.units < cLine) : OpR X (compareOp .Lt) (rLtD X.K) := by
  intro pins s σ H x y v u Q I rx ry h
  obtain ⟨a, b, k, l, rfl, rfl, ⟨n, x, i, rfl⟩, ⟨m, y, j, rfl⟩, ha, hb, q⟩ := h
  cases rx
  cases ry
  obtain ⟨its, r1, p1, _⟩ := I.tuple ha
  obtain ⟨its2, r2, p2, _⟩ := I.tuple hb
  obtain ⟨t1, t2, t3, rfl⟩ := vals3 r1
  obtain ⟨u1, u2, u3, rfl⟩ := vals3 r2
  have R := Ob.RcOp.tuples_lt (A := X.A) (s := s) (e := fun c => if c = 0 then n == m else if c = 1 then x == y else i == j) (r := fun c => if c = 0 then decide (n < m) else if c = 1 then decide (x.cps.toList < y.cps.toList) else decide (i < j)) p1 p2 hu (fun c h1 h2 => by
    match c, h1, h2 with
    | 0, _, _ => exact SeqAt.EqAt.int_int _ _ _ _
    | 1, _, _ => exact SeqAt.EqAt.str_str _ _ _ _
    | 2, _, _ => exact SeqAt.EqAt.int_int _ _ _ _
    | c + 3, h1, _ => simp at h1; omega) (fun c h1 h2 _ => by
    match c, h1, h2 with
    | 0, _, _ => exact Ob.RcOp.lt_int _ _ _ _
    | 1, _, _ => exact fun prog w E Q z => PyProof.Rows.lt_str z
    | 2, _, _ => exact Ob.RcOp.lt_int _ _ _ _
    | c + 3, h1, _ => simp at h1; omega)
  have e : Ob.lexAt (fun c => if c = 0 then n == m else if c = 1 then x == y else i == j) (fun c => if c = 0 then decide (n < m) else if c = 1 then decide (x.cps.toList < y.cps.toList) else decide (i < j)) (decide ([Value.int n t1, Value.str x t2, Value.int i t3].toArray.size < [Value.int m u1, Value.str y u2, Value.int j u3].toArray.size)) 0
      (min [Value.int n t1, Value.str x t2, Value.int i t3].toArray.size [Value.int m u1, Value.str y u2, Value.int j u3].toArray.size) = dlt [.inl n, .inr x, .inl i] [.inl m, .inr y, .inl j] := by
    rw [dlt3]
    show Ob.lexAt _ _ false 0 3 = _
    rw [Ob.lexAt_succ, Ob.lexAt_succ, Ob.lexAt_succ, Ob.lexAt_zero]
    simp only [beq_iff_eq, if_true, show (0 + 1 : Nat) ≠ 0 by decide, show (0 + 1 + 1 : Nat) ≠ 0 by decide, show (0 + 1 + 1 : Nat) ≠ 1 by decide, if_false, Nat.zero_add]
    by_cases h1 : n = m
    · simp only [h1, if_true]
      by_cases h2 : x = y
      · simp only [h2, if_true]
        by_cases h3 : i = j
        · simp [h3]
        · simp [h3]
      · simp [h2]
    · simp [h1]
  rw [e] at R
  have z : wpAny (model X.prog X.w) X.A (compareOp .Lt (.ref a) (.ref b)) (EP X pins σ Q) X.xe s := R X.prog X.w X.xe (EP X pins σ Q) ⟨.bl _, H, I, rfl, q⟩
  exact z
/-! ### xs != [] -/
def rNeNil (K : PySem.W.Frag) : R2 := fun x y H Q => ∃ (a b : Addr) (xs : List V), x = .ref a ∧ y = .ref b ∧ SqL K H a xs ∧ SqL K H b [] ∧ Q (.bl (!xs.isEmpty)) H
theorem op_neNil (hu : X.A.units < cLine) : OpR X (compareOp .NotEq) (rNeNil X.K) := by
  intro pins s σ H x y v u Q I rx ry h
  obtain ⟨a, b, xs, rfl, rfl, ha, hb, q⟩ := h
  cases rx
  cases ry
  obtain ⟨its, r1, p1, _⟩ := I.list ha
  obtain ⟨its2, r2, p2, _⟩ := I.list hb
  cases r2
  obtain ⟨⟨cls, dd, data, sl⟩, n, ho, hc, _, hd⟩ := p1
  obtain ⟨⟨cls2, dd2, data2, sl2⟩, n2, ho2, hc2, _, hd2⟩ := p2
  simp only at hc hd hc2 hd2
  subst hc hd hc2 hd2
  cases r1 with
  | nil =>
    exact richCompare_meets_room (op := .NotEq) ⟨_, ho, rfl⟩ ⟨_, ho2, rfl⟩ PySem.F.slot_list_ne PySem.F.entry_list_ne (PySem.F.args_list_ne_2 _ _) (SeqAt.list_neAt a b _ _ n n2 dd dd2 sl sl2 rfl fun _ => false)
      ⟨ho, ho2, (fun j h1 h2 => absurd h1 (by simp)), (fun z => nomatch z), ⟨.bl _, H, I, rfl, q⟩⟩ hu
  | cons r t =>
    exact richCompare_meets_room (op := .NotEq) ⟨_, ho, rfl⟩ ⟨_, ho2, rfl⟩ PySem.F.slot_list_ne PySem.F.entry_list_ne (PySem.F.args_list_ne_2 _ _) (SeqAt.list_ne_lengthsAt a b _ _ n n2 dd dd2 sl sl2 (by simp))
      ⟨ho, ho2, (fun z => nomatch z), ⟨.bl _, H, I, rfl, q⟩⟩ hu
end
end MS
namespace MS
open PySem PySem.Spec PyProof.Rows L2
/-! ### t[::-1] -/
section
variable {prog : Program} {w : World} {A : Around} {E : Value → Shared → Prop} {s : Shared}
theorem back_applied {sl : Addr} {vs : Value} {n : Nat} {Q : Int × Int × Nat → Shared → Prop} (hs : s.heap.IsSliceOf sl .none .none vs) (pv : IsPart vs (some (-1))) (h : Q ((n : Int) - 1, -1, n) s) :
    wpAny (model prog w) A (Builtin.Slice.sliceApplied (.ref sl) (pure (n : Int))) Q E s := by
  obtain ⟨os, ho, _, hd⟩ := id hs
  unfold Builtin.Slice.sliceApplied Builtin.Slice.sliceFields
  refine wpAny_bind (wpAny_bind (wpAny_field ho hd (x := .none) rfl (wpAny_bind (wpAny_field ho hd (x := .none) rfl (wpAny_bind (wpAny_field ho hd (x := vs) rfl (wpAny_pure ?_)))))))
  refine wpAny_bind (HT.slicePart_ pv ?_)
  show wpAny _ _ (if ((-1 : Int) == 0) = true then _ else _) _ _ s
  rw [if_neg (by decide)]
  refine wpAny_bind (HT.slicePart_ .none (wpAny_bind (HT.slicePart_ .none (wpAny_bind (wpAny_pure ?_)))))
  have e : Builtin.Slice.slicePlaces ((n : Int) - 1) (-1) (-1) = n := by
    unfold Builtin.Slice.slicePlaces
    rw [if_neg (by decide)]
    split
    · rw [show (-(-1) : Int) = 1 by decide, Int.ediv_one]
      omega
    · omega
  show wpAny _ _ (pure ((n : Int) - 1, (-1 : Int), Builtin.Slice.slicePlaces ((n : Int) - 1) (-1) (-1))) _ _ s
  rw [e]
  exact wpAny_pure h
theorem fm_same {α β : Type} {f g : α → Option β} : ∀ {l : List α}, (∀ k ∈ l, f k = g k) → l.filterMap f = l.filterMap g
  | [], _ => rfl
  | a :: l, h => by
    have ih := fm_same (l := l) fun k hk => h k (List.mem_cons_of_mem _ hk)
    rw [List.filterMap_cons, List.filterMap_cons, h a List.mem_cons_self, ih]
theorem back_pick (xs : Array Value) : (((List.range xs.size).filterMap fun (k : Nat) => xs[(((xs.size : Nat) : Int) - 1 + (k : Int) * (-1)).toNat]?).toArray) = xs.toList.reverse.toArray := by
  have e : (List.range xs.size).filterMap (fun (k : Nat) => xs[(((xs.size : Nat) : Int) - 1 + (k : Int) * (-1)).toNat]?) = ((List.range xs.size).map fun k => xs.size - 1 - k).filterMap (xs[·]?) := by
    rw [List.filterMap_map]
    refine fm_same fun k hk => ?_
    have := List.mem_range.mp hk
    show xs[_]? = xs[xs.size - 1 - k]?
    congr 1
    omega
  rw [e, PySem.W.krv_range, List.filterMap_reverse, PySem.W.krv_all]
theorem back_item {t sl : Addr} {items : Array Value} {vs : Value} {Q : Value → Shared → Prop} (ht : IsTup s.heap t items) (hs : s.heap.IsSliceOf sl .none .none vs) (pv : IsPart vs (some (-1)))
    (h : Q (.ref s.heap.objs.size) { s with heap := s.heap.push { cls := .type "tuple", data := .seq items.toList.reverse.toArray } }) (hz : items.size ≤ sizeLine) : wpAny (model prog w) A (getItem (.ref t) (.ref sl)) Q E s := by
  have fit : sizeOk (.seq items.toList.reverse.toArray) := by
    show items.toList.reverse.toArray.size ≤ sizeLine
    simpa using hz
  obtain ⟨os, ho, hc, _⟩ := id hs
  have ty : s.TypeIs (.ref sl) "slice" := ⟨os, ho, hc⟩
  unfold getItem
  try with_reducible refine wpAny_holding ?_
  first | refine wpAny_bind (wpAny_pure ?_) | skip
  refine wpAny_bind (wpAny_sequenceKey ht.typeIs (by decide) ?_)
  refine wpAny_bind (wpAny_callSpecial?_slot (name := Str.ofString "__getitem__") ht.typeIs PyProof.Rows.slot_tuple_getitem
    (wpAny_call_entry PyProof.Rows.slot_tuple_getitem ht.typeIs entry_tuple_getitem ?_ (args_tuple_getitem _ _)))
  show wpAny _ _ (Builtin.Tuple.tupleItemsOf (.ref t) >>= _) _ _ s
  refine wpAny_bind (tupleItemsOf_ ht (wpAny_bind (wpAny_typeOf ty ?_)))
  rw [if_pos (by decide)]
  refine wpAny_bind (back_applied hs pv ?_)
  show wpAny _ _ (if ((((items.size : Nat) : Int) - 1 == 0) && (-1 : Int) == 1 && items.size == items.size) = true then _ else _) _ _ s
  have no : ¬ (((((items.size : Nat) : Int) - 1 == 0) && (-1 : Int) == 1 && items.size == items.size) = true) := by
    rw [show ((-1 : Int) == 1) = false from rfl, Bool.and_false, Bool.false_and]
    exact Bool.false_ne_true
  rw [if_neg no, back_pick]
  first
    | exact wpAny_bind (m := Builtin.Tuple.tupleExact _) (wpAny_newObj_type (wpAny_pure ⟨_, rfl, wpAny_pure h⟩) fit)
    | exact wpAny_bind (m := Builtin.Tuple.tupleExact _) (wpAny_newObj_type (wpAny_bind (wpAny_pure (wpAny_pure ⟨_, rfl, wpAny_pure h⟩))) fit)
    | exact wpAny_bind (wpAny_bind (m := Builtin.Tuple.tupleExact _) (wpAny_newObj_type (wpAny_pure (wpAny_pure ⟨_, rfl, wpAny_pure h⟩)) fit))
    | exact wpAny_bind (wpAny_bind (m := Builtin.Tuple.tupleExact _) (wpAny_newObj_type (wpAny_pure ⟨_, rfl, wpAny_pure h⟩) fit))
end
section
variable {X : Cx}
def tRevT (K : PySem.W.Frag) (te : TE) : TE := fun σ H Q => te σ H fun x H1 => ∃ a xs, x = .ref a ∧ SqT K H1 a xs ∧ ∀ p, H1 p = none → Q (.ref p) (upd H1 p (.tup xs.reverse))
theorem pe_revT {e : Expr} {te : TE} {k : Nat} {p1 p2 p3 pos : Pos} (he : PE X e te) : PE X (.Subscript e (.Slice none none (some (.UnaryOp .USub (.Constant (.int 1) k p1) p2)) p3) pos) (tRevT X.K te) := by
  refine ⟨fun pins s σ H Q I h => ?_⟩
  refine Subscript_ (thn (he.run pins s σ H _ I h) fun v s1 z1 => ?_)
  obtain ⟨x, H1, I1, r1, a, xs, rfl, hx, q⟩ := z1
  cases r1
  have part : PO X (some (.UnaryOp .USub (.Constant (.int 1) k p1) p2)) (tPart (tUn (rU fun i => .int (-i)) (tC (.int 1)))) := po_some (pe_un un_neg pe_int)
  refine wpAny_Slice (thn (po_none.run pins s1 σ H1 (fun o G => o = none ∧ G = H1) I1 ⟨rfl, rfl⟩) fun vl s2 z2 => ?_)
  obtain ⟨l, H2, I2, pl, rfl, rfl⟩ := z2
  refine thn (po_none.run pins s2 σ H2 (fun o G => o = none ∧ G = H2) I2 ⟨rfl, rfl⟩) fun vu s3 z3 => ?_
  obtain ⟨u, H3, I3, pu, rfl, rfl⟩ := z3
  refine thn (part.run pins s3 σ H3 (fun o G => o = some (-1) ∧ G = H3) I3 ⟨1, rfl, -1, rfl, rfl, rfl⟩) fun vs s4 z4 => ?_
  obtain ⟨o, H4, I4, ps, rfl, rfl⟩ := z4
  have I5 : Inv X pins σ H4 { s4 with heap := s4.heap.push { cls := .type "slice", data := .fields #[vl, vu, vs] } } := I4.kept (t' := s4.toks) fun b ob y => Heap.get?_push_of_some _ y
  cases pl
  cases pu
  obtain ⟨its, r, ht, hz⟩ := I5.tuple hx
  have len := r.length
  show wpAny (model X.prog X.w) X.A (subscriptTail e (.Slice none none (some (.UnaryOp .USub (.Constant (.int 1) k p1) p2)) p3) (.ref a) (.ref s4.heap.objs.size)) (EP X pins σ Q) X.xe { s4 with heap := s4.heap.push { cls := .type "slice", data := .fields #[.none, .none, vs] } }
  refine tail_any (ops := [.ref a, .ref s4.heap.objs.size]) ht.typeIs PyProof.Rows.slot_tuple_getitem.lookup ?_ (by with_unfolding_all rfl)
  refine back_item ht (Heap.IsSliceOf.new _ .none .none vs) ps ?_ (by rw [List.size_toArray]; omega)
  refine ⟨.ref _, _, I5.laid (t' := s4.toks) (o := .tup xs.reverse) (fun b ob y => Heap.get?_push_of_some _ y) (Nat.le_refl _) ?_, rfl, q _ (I5.hok.fresh (Nat.le_refl _))⟩
  exact ⟨by rw [List.length_reverse]; exact hz, _, r.reverse, IsTup.new _ _⟩
end
end MS

set_option Elab.async false
set_option linter.all false
set_option maxRecDepth 100000
set_option maxHeartbeats 4000000
namespace K01
open PySem PySem.Spec PyProof.Rows L2 MS
abbrev DK := List Key
/-! ### the order of dots -/
theorem code_inj : ∀ {a b : DK}, MS.code a = MS.code b → a = b
  | [], [], _ => rfl
  | [], _ :: _, h => by simp [MS.code] at h
  | _ :: _, [], h => by simp [MS.code] at h
  | x :: a, y :: b, h => by
    simp only [MS.code, List.map_cons, List.cons.injEq] at h
    have ih : a = b := code_inj (by simpa [MS.code] using h.2)
    subst ih
    cases x with
    | inl n =>
      cases y with
      | inl m =>
        have z := h.1
        simp only [Sum.inl.injEq] at z
        rw [z]
      | inr m => have z := h.1; simp at z
    | inr n =>
      cases y with
      | inl m => have z := h.1; simp at z
      | inr m =>
        have z := h.1
        simp only [Sum.inr.injEq] at z
        cases n
        cases m
        simp only [Array.toList_inj] at z
        rw [z]
theorem dlt_irr (a : DK) : dlt a a = false := lex_irrefl _
theorem dlt_tr {a b c : DK} (h1 : dlt a b = true) (h2 : dlt b c = true) : dlt a c = true := lex_trans _ _ _ h1 h2
theorem dlt_tot {a b : DK} (h1 : dlt a b = false) (h2 : dlt b a = false) : a = b := code_inj (lex_total _ _ h1 h2)
def Asc (ks : List DK) : Prop := ks.Pairwise fun a b => dlt a b = true
def ascB (ks : List DK) : Bool := (List.zipWith dlt ks (ks.drop 1)).all id
theorem ascB_two (a b : DK) (r : List DK) : ascB (a :: b :: r) = (dlt a b && ascB (b :: r)) := by
  unfold ascB
  rfl
theorem ascB_iff : ∀ {ks : List DK}, ascB ks = true ↔ Asc ks
  | [] => ⟨fun _ => .nil, fun _ => rfl⟩
  | [a] => ⟨fun _ => .cons (fun _ z => nomatch z) .nil, fun _ => rfl⟩
  | a :: b :: r => by
    rw [ascB_two, Bool.and_eq_true, ascB_iff (ks := b :: r)]
    constructor
    · rintro ⟨h1, h2⟩
      refine .cons (fun c hc => ?_) h2
      rcases List.mem_cons.mp hc with rfl | hc
      · exact h1
      · cases h2 with
        | cons h3 _ => exact dlt_tr h1 (h3 c hc)
    · intro h
      cases h with
      | cons h1 h2 => exact ⟨h1 b List.mem_cons_self, h2⟩
theorem asc_nodup {ks : List DK} (h : Asc ks) : ks.Nodup := by
  refine List.Pairwise.imp (fun {a b} z e => ?_) h
  subst e
  rw [dlt_irr] at z
  cases z
theorem canon : ∀ {l m : List DK}, Asc l → Asc m → (∀ k, k ∈ l ↔ k ∈ m) → l = m
  | [], [], _, _, _ => rfl
  | [], b :: t, _, _, h => nomatch (h b).mpr List.mem_cons_self
  | a :: r, [], _, _, h => nomatch (h a).mp List.mem_cons_self
  | a :: r, b :: t, .cons p1 h1, .cons p2 h2, h => by
    have ab : a = b := by
      rcases List.mem_cons.mp ((h a).mp List.mem_cons_self) with z | z
      · exact z
      · rcases List.mem_cons.mp ((h b).mpr List.mem_cons_self) with y | y
        · exact y.symm
        · have c := dlt_tr (p1 b y) (p2 a z)
          rw [dlt_irr] at c
          cases c
    subst ab
    have e : r = t := canon h1 h2 fun k => by
      constructor
      · intro z
        rcases List.mem_cons.mp ((h k).mp (List.mem_cons_of_mem _ z)) with y | y
        · subst y
          have c := p1 k z
          rw [dlt_irr] at c
          cases c
        · exact y
      · intro z
        rcases List.mem_cons.mp ((h k).mpr (List.mem_cons_of_mem _ z)) with y | y
        · subst y
          have c := p2 k z
          rw [dlt_irr] at c
          cases c
        · exact y
    rw [e]
theorem asc_of {L : List MS.Row} (pw : L.Pairwise fun x y => dlt y.2 x.2 = false) (nd : (L.map (·.2)).Nodup) : Asc (L.map (·.2)) := by
  induction L with
  | nil => exact .nil
  | cons a r ih =>
    cases pw with
    | cons p1 p2 =>
      rw [List.map_cons, List.nodup_cons] at nd
      refine .cons (fun k hk => ?_) (ih p2 nd.2)
      obtain ⟨b, hb, rfl⟩ := List.mem_map.mp hk
      cases z : dlt a.2 b.2 with
      | true => rfl
      | false =>
        have e := dlt_tot z (p1 b hb)
        rw [e] at nd
        exact absurd hk nd.1
/-! ### dots as data -/
def kD : Key → PyData
  | .inl n => .int n
  | .inr x => .str x
def dD (k : DK) : PyData := .tuple (k.map kD)
def TupOf (K : PySem.W.Frag) (H : Hp) (p : Addr) (ks : List DK) : Prop := ∃ L : List MS.Row, SqT K H p (L.map fun q => V.ref q.1) ∧ Dots K H L ∧ L.map (·.2) = ks
theorem dp_keys {K : PySem.W.Frag} {H : Hp} : ∀ k : DK, DpAll K H (k.map kV) (k.map kD)
  | [] => .nil
  | .inl n :: k => .cons (.int n) (dp_keys k)
  | .inr x :: k => .cons (.str x) (dp_keys k)
theorem dp_dot {K : PySem.W.Frag} {H : Hp} {a : Addr} {k : DK} (h : SqT K H a (k.map kV)) : Dp K H (.ref a) (dD k) := .tup h (dp_keys k)
theorem dp_dots {K : PySem.W.Frag} {H : Hp} : ∀ {L : List MS.Row}, Dots K H L → DpAll K H (L.map fun q => V.ref q.1) ((L.map (·.2)).map dD)
  | [], _ => .nil
  | p :: L, h => .cons (dp_dot (h p List.mem_cons_self)) (dp_dots fun q hq => h q (List.mem_cons_of_mem _ hq))
theorem TupOf.dp {K : PySem.W.Frag} {H : Hp} {p : Addr} {ks : List DK} (h : TupOf K H p ks) : Dp K H (.ref p) (.tuple (ks.map dD)) := by
  obtain ⟨L, h1, h2, rfl⟩ := h
  exact .tup h1 (dp_dots h2)
theorem same_sqT {K : PySem.W.Frag} {H H' : Hp} {a : Addr} {xs : List V} (s : Same H H') (h : SqT K H a xs) : SqT K H' a xs := by
  rcases h with (h | ⟨o, h⟩) | h
  · exact .inl (.inl (s _ _ h))
  · exact .inl (.inr ⟨o, s _ _ h⟩)
  · exact .inr h
theorem dots_same {K : PySem.W.Frag} {H H' : Hp} {L : List MS.Row} (s : Same H H') (h : Dots K H L) : Dots K H' L := fun p hp => same_sqT s (h p hp)
theorem TupOf.same {K : PySem.W.Frag} {H H' : Hp} {p : Addr} {ks : List DK} (s : Same H H') (h : TupOf K H p ks) : TupOf K H' p ks := by
  obtain ⟨L, h1, h2, h3⟩ := h
  exact ⟨L, same_sqT s h1, dots_same s h2, h3⟩
/-- all but the object at p stay -/
def Ext (p : Addr) (H H' : Hp) : Prop := ∀ b o, b ≠ p → H b = some o → H' b = some o
theorem Ext.refl {p : Addr} {H : Hp} : Ext p H H := fun _ _ _ h => h
theorem Ext.trans {p : Addr} {H H' H'' : Hp} (a : Ext p H H') (b : Ext p H' H'') : Ext p H H'' := fun c o n h => b c o n (a c o n h)
theorem Ext.of {p : Addr} {H H' : Hp} (s : Same H H') : Ext p H H' := fun b o _ h => s b o h
theorem Ext.put {p : Addr} {H : Hp} {o : HO} : Ext p H (upd H p o) := fun b u n h => by
  rw [upd_ne n]
  exact h
theorem Ext.sqT {K : PySem.W.Frag} {H H' : Hp} {p a : Addr} {xs ys : List V} (e : Ext p H H') (hp : H p = some (.lst ys)) (h : SqT K H a xs) : SqT K H' a xs := by
  rcases h with (h | ⟨o, h⟩) | h
  · exact .inl (.inl (e _ _ (fun z => by subst z; rw [hp] at h; cases h) h))
  · exact .inl (.inr ⟨o, e _ _ (fun z => by subst z; rw [hp] at h; cases h) h⟩)
  · exact .inr h
theorem Ext.dots {K : PySem.W.Frag} {H H' : Hp} {p : Addr} {L : List MS.Row} {ys : List V} (e : Ext p H H') (hp : H p = some (.lst ys)) (h : Dots K H L) : Dots K H' L := fun q hq => e.sqT hp (h q hq)
theorem Ext.tupOf {K : PySem.W.Frag} {H H' : Hp} {p a : Addr} {ks : List DK} {ys : List V} (e : Ext p H H') (hp : H p = some (.lst ys)) (h : TupOf K H a ks) : TupOf K H' a ks := by
  obtain ⟨L, h1, h2, h3⟩ := h
  exact ⟨L, e.sqT hp h1, e.dots hp h2, h3⟩
/-! ### things, as is_dot and is_known see them -/
mutual
def short : PyData → Bool
  | .str x => decide (x.length ≤ 1000)
  | .list ds => shortAll ds
  | .tuple ds => shortAll ds
  | _ => true
def shortAll : List PyData → Bool
  | [] => true
  | d :: ds => short d && shortAll ds
end
def Rd (K : PySem.W.Frag) (H : Hp) (v : V) (d : PyData) : Prop := short d = true ∧ (Dp K H v d ∨ ∃ p, v = .ref p ∧ H p = some (.dK []) ∧ d = .dict [])
mutual
theorem dp_same {K : PySem.W.Frag} {H H' : Hp} (s : Same H H') : ∀ (d : PyData) (v : V), Dp K H v d → Dp K H' v d
  | .none, _, h => by cases h; exact .non
  | .bool b, _, h => by cases h; exact .bl b
  | .int i, _, h => by cases h; exact .int i
  | .str x, _, h => by cases h; exact .str x
  | .list ds, _, h => by
    cases h with
    | lst h1 h2 => exact .lst (s.seq h1) (dpAll_same s ds _ h2)
  | .tuple ds, _, h => by
    cases h with
    | tup h1 h2 => exact .tup (same_sqT s h1) (dpAll_same s ds _ h2)
  | .dict _, _, h => by cases h
theorem dpAll_same {K : PySem.W.Frag} {H H' : Hp} (s : Same H H') : ∀ (ds : List PyData) (vs : List V), DpAll K H vs ds → DpAll K H' vs ds
  | [], _, h => by cases h; exact .nil
  | d :: ds, _, h => by
    cases h with
    | cons h1 h2 => exact .cons (dp_same s d _ h1) (dpAll_same s ds _ h2)
end
theorem Rd.same {K : PySem.W.Frag} {H H' : Hp} {v : V} {d : PyData} (s : Same H H') (h : Rd K H v d) : Rd K H' v d := by
  obtain ⟨h0, h⟩ := h
  refine ⟨h0, ?_⟩
  rcases h with h | ⟨p, h1, h2, h3⟩
  · exact .inl (dp_same s d v h)
  · exact .inr ⟨p, h1, s _ _ h2, h3⟩
def tyN : PyData → String
  | .none => "NoneType"
  | .bool _ => "bool"
  | .int _ => "int"
  | .str _ => "str"
  | .list _ => "list"
  | .tuple _ => "tuple"
  | .dict _ => "dict"
theorem tyx_tup {K : PySem.W.Frag} {H : Hp} {a : Addr} {xs : List V} (h : SqT K H a xs) : TyX K H (.ref a) (.type "tuple") := by
  rcases h with (h | ⟨o, h⟩) | ⟨o, its, n, h, hc, _⟩
  · exact .base (.tup h)
  · exact .fTuple h
  · exact .kTuple h hc
theorem tyx_lst {K : PySem.W.Frag} {H : Hp} {a : Addr} {xs : List V} (h : SqL K H a xs) : TyX K H (.ref a) (.type "list") := by
  rcases h with (h | ⟨o, h⟩) | ⟨o, its, n, h, hc, _⟩
  · exact .base (.lst h)
  · exact .base (.frz h)
  · exact .kList h hc
theorem tyx_of {K : PySem.W.Frag} {H : Hp} {v : V} {d : PyData} (h : Rd K H v d) : TyX K H v (.type (tyN d)) := by
  obtain ⟨_, h⟩ := h
  rcases h with h | ⟨p, rfl, h, rfl⟩
  · cases h with
    | non => exact .base .non
    | bl b => exact .base (.bl b)
    | int i => exact .base (.int i)
    | str x => exact .base (.str x)
    | lst h1 _ => exact tyx_lst h1
    | tup h1 _ => exact tyx_tup h1
  · exact .base (.dK h)
theorem kb_bool (d : PyData) : kitB (tyN d) "bool" = some (match d with | .bool _ => true | _ => false) := by
  cases d with
  | none => exact (by decide +kernel : kitB "NoneType" "bool" = some false)
  | bool _ => exact (by decide +kernel : kitB "bool" "bool" = some true)
  | int _ => exact (by decide +kernel : kitB "int" "bool" = some false)
  | str _ => exact (by decide +kernel : kitB "str" "bool" = some false)
  | list _ => exact (by decide +kernel : kitB "list" "bool" = some false)
  | tuple _ => exact (by decide +kernel : kitB "tuple" "bool" = some false)
  | dict _ => exact (by decide +kernel : kitB "dict" "bool" = some false)
theorem kb_int (d : PyData) : kitB (tyN d) "int" = some (match d with | .bool _ => true | .int _ => true | _ => false) := by
  cases d with
  | none => exact (by decide +kernel : kitB "NoneType" "int" = some false)
  | bool _ => exact (by decide +kernel : kitB "bool" "int" = some true)
  | int _ => exact (by decide +kernel : kitB "int" "int" = some true)
  | str _ => exact (by decide +kernel : kitB "str" "int" = some false)
  | list _ => exact (by decide +kernel : kitB "list" "int" = some false)
  | tuple _ => exact (by decide +kernel : kitB "tuple" "int" = some false)
  | dict _ => exact (by decide +kernel : kitB "dict" "int" = some false)
theorem kb_str (d : PyData) : kitB (tyN d) "str" = some (match d with | .str _ => true | _ => false) := by
  cases d with
  | none => exact (by decide +kernel : kitB "NoneType" "str" = some false)
  | bool _ => exact (by decide +kernel : kitB "bool" "str" = some false)
  | int _ => exact (by decide +kernel : kitB "int" "str" = some false)
  | str _ => exact (by decide +kernel : kitB "str" "str" = some true)
  | list _ => exact (by decide +kernel : kitB "list" "str" = some false)
  | tuple _ => exact (by decide +kernel : kitB "tuple" "str" = some false)
  | dict _ => exact (by decide +kernel : kitB "dict" "str" = some false)
theorem kb_tup (d : PyData) : kitB (tyN d) "tuple" = some (match d with | .tuple _ => true | _ => false) := by
  cases d with
  | none => exact (by decide +kernel : kitB "NoneType" "tuple" = some false)
  | bool _ => exact (by decide +kernel : kitB "bool" "tuple" = some false)
  | int _ => exact (by decide +kernel : kitB "int" "tuple" = some false)
  | str _ => exact (by decide +kernel : kitB "str" "tuple" = some false)
  | list _ => exact (by decide +kernel : kitB "list" "tuple" = some false)
  | tuple _ => exact (by decide +kernel : kitB "tuple" "tuple" = some true)
  | dict _ => exact (by decide +kernel : kitB "dict" "tuple" = some false)
/-- what is_dot and is_known look at: the items of a tuple, or nothing -/
inductive Lk (K : PySem.W.Frag) (H : Hp) : V → Option (List PyData) → Prop
  | no {v : V} {T : String} (h : TyX K H v (.type T)) (b : kitB T "tuple" = some false) : Lk K H v none
  | tup {a : Addr} {xs : List V} {ds : List PyData} (h : SqT K H a xs) (r : Paired (Rd K H) xs ds) : Lk K H (.ref a) (some ds)
def look : PyData → Option (List PyData)
  | .tuple ds => some ds
  | _ => none
theorem dpAll_rd {K : PySem.W.Frag} {H : Hp} : ∀ {vs : List V} {ds : List PyData}, DpAll K H vs ds → shortAll ds = true → Paired (Rd K H) vs ds
  | _, _, .nil, _ => .nil
  | _, _, .cons h t, z => by
    rw [shortAll, Bool.and_eq_true] at z
    exact .cons ⟨z.1, .inl h⟩ (dpAll_rd t z.2)
theorem lk_of {K : PySem.W.Frag} {H : Hp} {v : V} {d : PyData} (h : Rd K H v d) : Lk K H v (look d) := by
  have ty := tyx_of h
  have kb := kb_tup d
  obtain ⟨h0, h⟩ := h
  rcases h with h | ⟨p, rfl, h, rfl⟩
  · cases h with
    | non => exact .no ty kb
    | bl b => exact .no ty kb
    | int i => exact .no ty kb
    | str x => exact .no ty kb
    | lst h1 _ => exact .no ty kb
    | tup h1 h2 => exact .tup h1 (dpAll_rd h2 (by rw [short] at h0; exact h0))
  · exact .no ty kb
theorem paired_same {K : PySem.W.Frag} {H H' : Hp} (s : Same H H') : ∀ {xs : List V} {ds : List PyData}, Paired (Rd K H) xs ds → Paired (Rd K H') xs ds
  | _, _, .nil => .nil
  | _, _, .cons h t => .cons (h.same s) (paired_same s t)
theorem plen {α β : Type} {F : α → β → Prop} : ∀ {l1 : List α} {l2 : List β}, Paired F l1 l2 → l1.length = l2.length
  | _, _, .nil => rfl
  | _, _, .cons _ t => by rw [List.length_cons, List.length_cons, plen t]
theorem pget {α β : Type} {F : α → β → Prop} : ∀ {l1 : List α} {l2 : List β}, Paired F l1 l2 → ∀ {i : Nat} {a : α}, l1[i]? = some a → ∃ b, l2[i]? = some b ∧ F a b
  | _, _, .nil, i, a, h => by simp at h
  | _, _, .cons r t, 0, a, h => by
    simp at h
    subst h
    exact ⟨_, rfl, r⟩
  | _, _, .cons r t, i + 1, a, h => by
    obtain ⟨b, h1, h2⟩ := pget t (i := i) (a := a) (by simpa using h)
    exact ⟨b, by simpa using h1, h2⟩
def letters : PySem.Str := "abcdefghijklmnopqrstuvwxyz"
def dWh : PyData → Bool
  | .int _ => true
  | _ => false
def wordOk (x : PySem.Str) : Bool := decide (1 ≤ x.length) && decide (x.length ≤ 6) && x.cps.toList.all fun c => decide (c ∈ letters.cps.toList)
def dWord : PyData → Bool
  | .str x => wordOk x
  | _ => false
def dDot3 : PyData → PyData → PyData → Bool
  | .int n, .str x, .int l => wordOk x && (decide (1 ≤ n) && decide (n ≤ 1000000000000) && decide (1 ≤ l))
  | _, _, _ => false
def dotL : List PyData → Bool
  | [a, b, c] => dDot3 a b c
  | _ => false
def dotO (o : Option (List PyData)) : Bool := (o.map dotL).getD false
def dDot (d : PyData) : Bool := dotO (look d)
def keyD : PyData → DK
  | .tuple [.int n, .str x, .int l] => [.inl n, .inr x, .inl l]
  | _ => []
def knownO (o : Option (List PyData)) : Bool := (o.map fun ds => ds.all dDot && ascB (ds.map keyD)).getD false
theorem dot_shape {d : PyData} (h : dDot d = true) : ∃ n x l, d = .tuple [.int n, .str x, .int l] := by
  cases d with
  | tuple ds =>
    have h : dotL ds = true := h
    match ds, h with
    | [a, b, c], h =>
      have h : dDot3 a b c = true := h
      cases a <;> cases b <;> cases c <;> first | exact ⟨_, _, _, rfl⟩ | (simp [dDot3] at h)
    | [], h => simp [dotL] at h
    | [_], h => simp [dotL] at h
    | [_, _], h => simp [dotL] at h
    | _ :: _ :: _ :: _ :: _, h => simp [dotL] at h
  | _ => simp [dDot, dotO, look] at h
theorem dots_of {K : PySem.W.Frag} {H : Hp} : ∀ {xs : List V} {ds : List PyData}, Paired (Rd K H) xs ds → ds.all dDot = true → ∃ L : List MS.Row, xs = (L.map fun q => V.ref q.1) ∧ Dots K H L ∧ L.map (·.2) = ds.map keyD ∧ (∀ p ∈ L, D3 p.2) ∧ ds = (L.map (·.2)).map dD
  | _, _, .nil, _ => ⟨[], rfl, (fun _ z => nomatch z), rfl, (fun _ z => nomatch z), rfl⟩
  | _, _, .cons (a := v) (b := d) h t, al => by
    rw [List.all_cons, Bool.and_eq_true] at al
    obtain ⟨L, rfl, h2, h3, h4, h5⟩ := dots_of t al.2
    obtain ⟨n, x, l, rfl⟩ := dot_shape al.1
    rcases h.2 with h | ⟨p, _, _, z⟩
    · cases h with
      | @tup a xs ds h1 h6 =>
        cases h6 with
        | cons q1 h6 =>
          cases h6 with
          | cons q2 h6 =>
            cases h6 with
            | cons q3 h6 =>
              cases h6
              cases q1
              cases q2
              cases q3
              refine ⟨(a, [.inl n, .inr x, .inl l]) :: L, rfl, fun p hp => ?_, ?_, fun p hp => ?_, ?_⟩
              · rcases List.mem_cons.mp hp with rfl | hp
                · exact h1
                · exact h2 p hp
              · rw [List.map_cons, List.map_cons, h3]
                rfl
              · rcases List.mem_cons.mp hp with rfl | hp
                · exact ⟨n, x, l, rfl⟩
                · exact h4 p hp
              · rw [List.map_cons, List.map_cons, ← h5]
                rfl
    · cases z
end K01

set_option Elab.async false
set_option linter.all false
set_option maxRecDepth 100000
set_option maxHeartbeats 4000000
namespace K01
open PySem PySem.Spec PyProof.Rows L2 MS
/-- the built-in names that the text leaves alone -/
structure Bt (mg : PySem.Str → Option Value) : Prop where
  isi : mg "isinstance" = none
  len : mg "len" = none
  all : mg "all" = none
  int : mg "int" = none
  bool : mg "bool" = none
  str : mg "str" = none
  tuple : mg "tuple" = none
  list : mg "list" = none
  set : mg "set" = none
  sorted : mg "sorted" = none
  zip : mg "zip" = none
  max : mg "max" = none
  min : mg "min" = none
  repr : mg "repr" = none
  range : mg "range" = none
/-- a callee: where it stands, what it keeps -/
structure Ca (P : Program) (w : World) (K : PySem.W.Frag) (mg : PySem.Str → Option Value) (base : Heap) (k : Nat) (x : PySem.Str) (ps : List PySem.Str) (sp : Sp) : Prop where
  ex : ∃ f fd, FnOk P w K mg base CX0 k f fd ps sp ∧ mg x = some (.ref f) ∧ PySem.W.keepIn K (.ref f) = true ∧ Binds K fd ps []
theorem pe_ca {X : Cx} {x : PySem.Str} {ps : List PySem.Str} {sp : Sp} {k : Nat} {e : Expr} {es : List Expr} {t : TA} {p pos : Pos} (c : Ca X.prog X.w X.K X.mg X.base k x ps sp) (hr : Room k X.A) (hg : Gl X x) (hx : Passes CX0 X E0) (ha : PA X (e :: es) t)
    (hdb : (x == ("__debug__" : PySem.Str)) = false := by decide) (he : starEach (e :: es) X.env = (false, eval e X.env) :: starEach es X.env := by rfl) (hpl : (backTo pos (starEach es X.env)).any (·.1) = false := by rfl) : PE X (.Call (.Name x p) (e :: es) [] pos) (tCall sp [] E0 t) := by
  obtain ⟨f, fd, F, g, kp, b⟩ := c.ex
  exact pe_call F hr hg g kp b .nil hx ha hdb he hpl
theorem pe_ca0 {X : Cx} {x : PySem.Str} {ps : List PySem.Str} {sp : Sp} {k : Nat} {p pos : Pos} (c : Ca X.prog X.w X.K X.mg X.base k x ps sp) (hr : Room k X.A) (hg : Gl X x) (hx : Passes CX0 X E0)
    (hdb : (x == ("__debug__" : PySem.Str)) = false := by decide) : PE X (.Call (.Name x p) [] [] pos) (tCall sp [] E0 tNil) := by
  obtain ⟨f, fd, F, g, kp, b⟩ := c.ex
  exact pe_call0 F hr hg g kp b .nil hx hdb
theorem newo {H : Hp} {p : Addr} {o : HO} (n : H p = none) : Same H (upd H p o) ∧ (upd H p o) p = some o := ⟨fun b x e => by
  rw [upd_ne (ne_of_none e n)]
  exact e, upd_same⟩
theorem same_but {H H' : Hp} {D : Addr} {o : HO} (n : H D = none) (s : Same H H') : Same H (upd H' D o) := fun b x e => by
  rw [upd_ne (ne_of_none e n)]
  exact s b x e
theorem take_snoc {α : Type} {l : List α} {i : Nat} {x : α} (h : l[i]? = some x) : l.take (i + 1) = l.take i ++ [x] := by
  obtain ⟨h1, h2⟩ := List.getElem?_eq_some_iff.mp h
  rw [List.take_succ, List.getElem?_eq_getElem h1, h2]
  rfl
/-! ### is_whole -/
def spWhole (K : PySem.W.Frag) : Sp := fun vs H Q _ => ∃ (v : V) (d : PyData), vs = [v] ∧ Rd K H v d ∧ Q (.bl (dWh d)) H
/-! ### is_word -/
def spWord (K : PySem.W.Frag) : Sp := fun vs H Q _ => ∃ (v : V) (d : PyData), vs = [v] ∧ Rd K H v d ∧ ∀ H', Same H H' → Q (.bl (dWord d)) H'
theorem sl_from {K : PySem.W.Frag} {H : Hp} {a : Addr} {xs : List V} {Q : VK} {lo : Int} {j : Nat} (hj : HT.sIx xs.length 0 (some lo) = j) (h : SqT K H a xs) (q : ∀ b H', Same H H' → SqT K H' b (xs.drop j) → Q (.ref b) H') : rSlA K (.ref a) (some lo) none H Q := by
  refine ⟨a, xs, rfl, h, fun z => ?_, fun z p hp => ?_⟩
  · have e : j = 0 := by rw [← hj]; exact z.1
    subst e
    exact q a H (Same.refl _) h
  · obtain ⟨s1, e1⟩ := newo (o := .tup (cutV xs (some lo) none)) hp
    refine q p _ s1 (.inl (.inl ?_))
    rw [e1]
    unfold cutV
    rw [hj, HT.sIx_none, List.take_of_length_le (by rw [List.length_drop]; exact Nat.le_refl _)]
theorem walk_zipT {K : PySem.W.Frag} {a b : Addr} {xs ys : List V} {n : Nat} (hn : n = min xs.length ys.length) : Walk (RZ.ItzT K a b) n (fun H => SqT K H a xs ∧ SqT K H b ys) (YPair (fun i => xs[i]?) (fun i => ys[i]?)) := by
  subst hn
  refine ⟨fun i G hi q => ?_, fun G q => ⟨xs, ys, q.1, q.2, by omega⟩, fun i G v G' hi q y => ?_⟩
  · have h1 : i < xs.length := by omega
    have h2 : i < ys.length := by omega
    exact ⟨xs, ys, xs[i], ys[i], q.1, q.2, List.getElem?_eq_getElem h1, List.getElem?_eq_getElem h2⟩
  · obtain ⟨T, x, z, c1, c2, c3, c4, c5⟩ := y
    exact ⟨T, x, z, c1, c2, c3, c4 xs q.1, c5 ys q.2⟩
theorem op_ltDK {X : Cx} {K : PySem.W.Frag} (hK : X.K = K) (hu : X.A.units < cLine) : OpR X (compareOp .Lt) (rLtD K) := by
  subst hK
  exact op_ltD hu
theorem hu_lt {k : Nat} {A : Around} (h : Room k A) : A.units < cLine := by
  have := h.un
  omega
/-! ### rises -/
def spRis (K : PySem.W.Frag) : Sp := fun vs H Q _ => ∃ (a : Addr) (ks : List DK), vs = [.ref a] ∧ TupOf K H a ks ∧ (∀ k ∈ ks, D3 k) ∧ ks.length ≤ 1000 ∧ ∀ H', Same H H' → Q (.bl (ascB ks)) H'
/-! ### is_dot -/
theorem dot3_1 {a b c : PyData} (h : dWh a = false) : dDot3 a b c = false := by
  cases a with
  | int n => exact absurd h (by simp [dWh])
  | _ => rfl
theorem dot3_2 {a b c : PyData} (h : dWord b = false) : dDot3 a b c = false := by
  cases a with
  | int n =>
    cases b with
    | str x =>
      cases c with
      | int l =>
        have z : wordOk x = false := h
        show (wordOk x && _) = false
        rw [z, Bool.false_and]
      | _ => rfl
    | _ => rfl
  | _ => rfl
theorem dot3_3 {a b c : PyData} (h : dWh c = false) : dDot3 a b c = false := by
  cases a with
  | int n =>
    cases b with
    | str x =>
      cases c with
      | int l => exact absurd h (by simp [dWh])
      | _ => rfl
    | _ => rfl
  | _ => rfl
theorem len3 {α β : Type} {F : α → β → Prop} {xs : List α} {ds : List β} (h : Paired F xs ds) (z : xs.length = 3) : ∃ x1 x2 x3 d1 d2 d3, xs = [x1, x2, x3] ∧ ds = [d1, d2, d3] ∧ F x1 d1 ∧ F x2 d2 ∧ F x3 d3 := by
  match xs, ds, h, z with
  | [x1, x2, x3], [d1, d2, d3], .cons r1 (.cons r2 (.cons r3 .nil)), _ => exact ⟨x1, x2, x3, d1, d2, d3, rfl, rfl, r1, r2, r3⟩
theorem dotO_no {ds : List PyData} (h : ds.length ≠ 3) : dotO (some ds) = false := by
  match ds, h with
  | [], _ => rfl
  | [_], _ => rfl
  | [_, _], _ => rfl
  | [_, _, _], l => exact absurd rfl l
  | _ :: _ :: _ :: _ :: _, _ => rfl
def spDot (K : PySem.W.Frag) : Sp := fun vs H Q _ => ∃ (v : V) (o : Option (List PyData)), vs = [v] ∧ Lk K H v o ∧ ∀ H', Same H H' → Q (.bl (dotO o)) H'
abbrev ND : List PySem.Str := ["thing", "number", "house", "life"]
theorem known_no {ds : List PyData} (h : ds.all dDot = false) : knownO (some ds) = false := by
  show (ds.all dDot && _) = false
  rw [h, Bool.false_and]
theorem known_yes {ds : List PyData} (h : ds.all dDot = true) : knownO (some ds) = ascB (ds.map keyD) := by
  show (ds.all dDot && _) = _
  rw [h, Bool.true_and]
def spKn (K : PySem.W.Frag) : Sp := fun vs H Q _ => ∃ (v : V) (o : Option (List PyData)), vs = [v] ∧ Lk K H v o ∧ (∀ ds, o = some ds → ds.length < 64) ∧ ∀ H', Same H H' → Q (.bl (knownO o)) H'
/-! ### the law's own look -/
def dGe : PyData → Int → Bool
  | .int n, m => decide (m ≤ n)
  | _, _ => false
def spLw (K : PySem.W.Frag) : Sp := fun vs H Q _ => ∃ (v : V) (d : PyData) (m : Int), vs = [v, .int m] ∧ Rd K H v d ∧ Q (.bl (dGe d m)) H
theorem cr_setMK {X : Cx} {K : PySem.W.Frag} {P : Program} {w : World} (hK : X.K = K) (hP : X.prog = P) (hw : X.w = w) (hc : X.calm = true) (hu : X.A.units + 64 < cLine) : CallR X (.type "set") (rSetM K P w) := by
  subst hK hP hw
  exact cr_setM hc hu
theorem cr_sortMK {X : Cx} {K : PySem.W.Frag} {P : Program} {w : World} (hK : X.K = K) (hP : X.prog = P) (hw : X.w = w) (hc : X.calm = true) : CallR X (.builtin "sorted") (rSortM K P w) := by
  subst hK hP hw
  exact cr_sortM hc
theorem hu_64 {k : Nat} {A : Around} (h : Room k A) : A.units + 64 < cLine := by
  have := h.un
  omega
theorem dot3_ge (a c : PyData) (x : PySem.Str) (hw : wordOk x = true) : dDot3 a (.str x) c = (dGe a 1 && ((match a with | .int n => decide (n ≤ 1000000000000) | _ => false) && dGe c 1)) := by
  cases a with
  | int n =>
    cases c with
    | int l =>
      show (wordOk x && _) = _
      rw [hw, Bool.true_and, Bool.and_assoc]
      rfl
    | _ => show false = _; simp [dGe]
  | _ => rfl
abbrev NLD : List PySem.Str := ["_law_thing", "_law_first", "_law_name", "_law_last", "_law_sign"]
/-! ### _law_is_known -/
theorem word_ok {x : PySem.Str} (h : wordOk x = true) : PyData.canLay0 (.str x) = true := by
  unfold wordOk at h
  rw [Bool.and_eq_true] at h
  have h2 := List.all_eq_true.mp h.2
  rw [PyData.canLay0]
  show x.cps.all _ = true
  rw [← Array.all_toList, List.all_eq_true]
  intro c hc
  have z : c ∈ letters.cps.toList := of_decide_eq_true (h2 c hc)
  have al : letters.cps.toList.all (fun c => decide (c < 0x110000)) = true := by decide +kernel
  exact List.all_eq_true.mp al c z
theorem lay_dots : ∀ {ds : List PyData}, ds.all dDot = true → PyData.canLayAll0 ds = true ∧ PyData.depthAll ds ≤ 1
  | [], _ => ⟨by rw [PyData.canLayAll0], by rw [PyData.depthAll]; exact Nat.zero_le _⟩
  | d :: ds, h => by
    rw [List.all_cons, Bool.and_eq_true] at h
    obtain ⟨c1, c2⟩ := lay_dots h.2
    obtain ⟨n, x, l, rfl⟩ := dot_shape h.1
    have hw : wordOk x = true := by
      have z : (wordOk x && _) = true := h.1
      rw [Bool.and_eq_true] at z
      exact z.1
    refine ⟨?_, ?_⟩
    · rw [PyData.canLayAll0, c1, Bool.and_true, PyData.canLay0, PyData.canLayAll0, PyData.canLayAll0, PyData.canLayAll0, PyData.canLayAll0, word_ok hw, PyData.canLay0, PyData.canLay0]
      rfl
    · rw [PyData.depthAll]
      have : PyData.depth (.tuple [.int n, .str x, .int l]) = 1 := by simp [PyData.depth, PyData.depthAll]
      omega
theorem shaped_dots {ds : List PyData} (h : ds.all dDot = true) : SeqAt.shaped (.list ds) = true := by
  obtain ⟨c1, c2⟩ := lay_dots h
  unfold SeqAt.shaped
  rw [PyData.canLay0, c1, PyData.depth, Bool.true_and]
  exact decide_eq_true (by omega)
theorem eqv_dot {n m l j : Int} {x y : PySem.Str} : PyData.eqv (.tuple [.int n, .str x, .int l]) (.tuple [.int m, .str y, .int j]) = decide (([.inl n, .inr x, .inl l] : DK) = [.inl m, .inr y, .inl j]) := by
  simp only [PyData.eqv, PyData.eqvAll, Bool.and_true]
  by_cases h1 : n = m
  · by_cases h2 : x = y
    · by_cases h3 : l = j
      · subst h1 h2 h3
        simp
      · simp [h1, h2, h3]
    · simp [h1, h2]
  · simp [h1]
theorem eqv_dots : ∀ {ks ms : List DK}, (∀ k ∈ ks, D3 k) → (∀ k ∈ ms, D3 k) → PyData.eqvAll (ks.map dD) (ms.map dD) = decide (ks = ms)
  | [], [], _, _ => by simp [PyData.eqvAll]
  | [], m :: ms, _, _ => by simp [PyData.eqvAll]
  | k :: ks, [], _, _ => by simp [PyData.eqvAll]
  | k :: ks, m :: ms, h1, h2 => by
    obtain ⟨n, x, l, rfl⟩ := h1 k List.mem_cons_self
    obtain ⟨n', x', l', rfl⟩ := h2 m List.mem_cons_self
    have ih := eqv_dots (ks := ks) (ms := ms) (fun k hk => h1 k (List.mem_cons_of_mem _ hk)) fun k hk => h2 k (List.mem_cons_of_mem _ hk)
    rw [List.map_cons, List.map_cons, PyData.eqvAll, ih]
    show (PyData.eqv (.tuple [.int n, .str x, .int l]) (.tuple [.int n', .str x', .int l']) && _) = _
    rw [eqv_dot, ← Bool.decide_and]
    exact decide_eq_decide.mpr ⟨fun z => by rw [z.1, z.2], fun z => List.cons.inj z⟩
theorem hu_1 {k : Nat} {A : Around} (h : Room k A) : A.units + 1 < cLine := by
  have := h.un
  omega
theorem pe_sc2K {X : Cx} {K : PySem.W.Frag} {P : Program} {w : World} (hK : X.K = K) (hP : X.prog = P) (hw : X.w = w) {e x0 y0 x1 y1 : Expr} {sc : Scope} {own : List (PySem.Str × Nat)} {vs1 : List Nat} {pos : Pos} {wi wi1 : TI} {g g1 : TG} {te : TE} (hc : X.calm = true) (hN : X.N.Nodup) (hu : X.A.units + 1 < cLine) (hi : PI X x0 y0 wi) (ok : BlkOk X.N X.env.scope sc own) (hv : ∀ i ∈ vs1, i ∈ own.map (·.2))
    (hg : ∀ (s : Shared) (H : Hp) (C : Addr) (cl : List (PySem.Str × Addr)) (f : List Addr), PG (X.blk s H sc (compEnvC sc cl C X.env) f) x0 g)
    (hi1 : ∀ (s : Shared) (H : Hp) (C : Addr) (cl : List (PySem.Str × Addr)) (f : List Addr), PI (X.blk s H sc (compEnvC sc cl C X.env) f) x1 y1 wi1)
    (hg1 : ∀ (s : Shared) (H : Hp) (C : Addr) (cl : List (PySem.Str × Addr)) (f : List Addr), PG (X.blk s H sc (compEnvC sc cl C X.env) f) x1 g1)
    (he : ∀ (s : Shared) (H : Hp) (C : Addr) (cl : List (PySem.Str × Addr)) (f : List Addr), PE (X.blk s H sc (compEnvC sc cl C X.env) f) e te)
    (hs : ∀ x, foldedSetIterable y0 X.env x = pure x := by intro _; rfl) (hs1 : ∀ env x, foldedSetIterable y1 env x = pure x := by intro _ _; rfl) :
    PE X (SC e x0 y0 x1 y1 sc pos) (tSc2 K P w wi g wi1 g1 te (own.map (·.2)) vs1) := by
  subst hK hP hw
  exact pe_sc2 hc hN hu hi ok hv hg hi1 hg1 he hs hs1
theorem pi_tupK {X : Cx} {K : PySem.W.Frag} {tg l : Expr} {tl : TE} (hK : X.K = K) (hl : PE X l tl) : PI X tg l (iTup K tl) := by
  subst hK
  exact pi_tup hl
theorem ix_tupK {X : Cx} {K : PySem.W.Frag} (hK : X.K = K) : IxR X (rIxT K) := by
  subst hK
  exact ix_tup
/-- rows behind tuples -/
theorem rows_of {K : PySem.W.Frag} {H : Hp} : ∀ (ts : List (Addr × List DK)), (∀ t ∈ ts, TupOf K H t.1 t.2) → ∃ Ls : List (Addr × List MS.Row), Ls.map (fun t => (t.1, t.2.map (·.2))) = ts ∧ ∀ t ∈ Ls, SqT K H t.1 (t.2.map fun q => V.ref q.1) ∧ Dots K H t.2
  | [], _ => ⟨[], rfl, fun _ z => nomatch z⟩
  | t :: ts, h => by
    obtain ⟨Ls, e, a⟩ := rows_of ts fun u hu => h u (List.mem_cons_of_mem _ hu)
    obtain ⟨L, h1, h2, h3⟩ := h t List.mem_cons_self
    refine ⟨(t.1, L) :: Ls, by rw [List.map_cons, e, h3], fun u hu => ?_⟩
    rcases List.mem_cons.mp hu with rfl | hu
    · exact ⟨h1, h2⟩
    · exact a u hu
def rowsTo (Ls : List (Addr × List MS.Row)) (i : Nat) : List MS.Row := ((Ls.take i).map (·.2)).flatten
theorem rowsTo_succ {Ls : List (Addr × List MS.Row)} {i : Nat} {t : Addr × List MS.Row} (h : Ls[i]? = some t) : rowsTo Ls (i + 1) = rowsTo Ls i ++ t.2 := by
  unfold rowsTo
  rw [take_snoc h, List.map_append, List.flatten_append]
  simp
theorem rowsTo_len {Ls : List (Addr × List MS.Row)} : ∀ {i : Nat}, (rowsTo Ls i).length ≤ (rowsTo Ls Ls.length).length := by
  intro i
  unfold rowsTo
  rw [List.take_of_length_le (Nat.le_refl _)]
  have e : Ls = Ls.take i ++ Ls.drop i := (List.take_append_drop i Ls).symm
  conv => rhs; rw [e, List.map_append, List.flatten_append, List.length_append]
  omega
theorem rowsTo_mem {Ls : List (Addr × List MS.Row)} {i : Nat} {p : MS.Row} (h : p ∈ rowsTo Ls i) : ∃ t ∈ Ls, p ∈ t.2 := by
  unfold rowsTo at h
  obtain ⟨l, hl, hp⟩ := List.mem_flatten.mp h
  obtain ⟨t, ht, rfl⟩ := List.mem_map.mp hl
  exact ⟨t, List.mem_of_mem_take ht, hp⟩
/-! ### together -/
def allOf (ts : List (Addr × List DK)) : List DK := (ts.map (·.2)).flatten
def spTog (K : PySem.W.Frag) : Sp := fun vs H Q _ => ∃ (l : Addr) (ts : List (Addr × List DK)), vs = [.ref l] ∧ SqL K H l (ts.map fun t => V.ref t.1) ∧ (∀ t ∈ ts, TupOf K H t.1 t.2) ∧ (∀ k ∈ allOf ts, D3 k) ∧ (allOf ts).length < 63 ∧
  ∀ H' r ms, Same H H' → TupOf K H' r ms → Asc ms → (∀ k, k ∈ ms ↔ k ∈ allOf ts) → ms.length < 64 → Q (.ref r) H'
abbrev NTG : List PySem.Str := ["some", "known", "dot"]
theorem tupOf_drop {K : PySem.W.Frag} {H H' : Hp} {b : Addr} {L : List MS.Row} {j : Nat} (s : Same H H') (d : Dots K H L) (h : SqT K H' b ((L.map fun q => V.ref q.1).drop j)) : TupOf K H' b ((L.map (·.2)).drop j) := by
  refine ⟨L.drop j, by rw [List.map_drop]; exact h, fun p hp => same_sqT s (d p (List.mem_of_mem_drop hp)), ?_⟩
  rw [List.map_drop]
/-! ### cut -/
def spCut (K : PySem.W.Frag) : Sp := fun vs H Q _ => ∃ (a : Addr) (m : V) (ks : List DK), vs = [.ref a, m] ∧ TupOf K H a ks ∧ ((m = .non ∧ Q (.ref a) H) ∨ ∃ n : Nat, m = .int (n : Int) ∧ ∀ r H', Same H H' → TupOf K H' r (ks.drop (ks.length - n)) → Q (.ref r) H')
/-! ### next_number -/
def fstI : DK → Int
  | .inl n :: _ => n
  | _ => 0
def IsMax (m : Int) (l : List Int) : Prop := m ∈ l ∧ ∀ y ∈ l, y ≤ m
theorem isMax_one {m n : Int} {l : List Int} (h1 : IsMax m l) (h2 : IsMax n l) : m = n := by
  have a := h1.2 n h2.1
  have b := h2.2 m h1.1
  omega
def spNext (K : PySem.W.Frag) : Sp := fun vs H Q _ => ∃ (n : Int) (a : Addr) (ks : List DK), vs = [.int n, .ref a] ∧ TupOf K H a ks ∧ (∀ k ∈ ks, D3 k) ∧ ks.length ≤ 1000 ∧ ∀ H' m, Same H H' → IsMax m (n :: ks.map fstI) → Q (.int (m + 1)) H'
abbrev NNX : List PySem.Str := ["own", "known", "dot"]
/-- the pool, as the draws leave it -/
def Pool (H : Hp) (p : Addr) : Prop := ∃ x y : Int, H p = some (.lst [.int x, .int y]) ∧ 0 ≤ x ∧ 0 ≤ y ∧ y < 2147483647
theorem Pool.is {H : Hp} {p : Addr} (h : Pool H p) : ∃ ys, H p = some (.lst ys) := by
  obtain ⟨x, y, h, _⟩ := h
  exact ⟨_, h⟩
theorem Pool.same {H H' : Hp} {p : Addr} (s : Same H H') (h : Pool H p) : Pool H' p := by
  obtain ⟨x, y, h, z⟩ := h
  exact ⟨x, y, s _ _ h, z⟩
theorem first_int (ns : List Int) (lo hi : Option Int) : ∃ m : Int, atI (cutV (ns.map V.int) lo hi ++ [V.int 0]) 0 = some (V.int m) := by
  have al : ∀ v ∈ cutV (ns.map V.int) lo hi, ∃ m, v = V.int m := fun v hv => by
    unfold cutV at hv
    obtain ⟨m, _, e⟩ := List.mem_map.mp (List.mem_of_mem_drop (List.mem_of_mem_take hv))
    exact ⟨m, e.symm⟩
  generalize cutV (ns.map V.int) lo hi = l at al
  cases l with
  | nil => exact ⟨0, atI_nat (j := 0) rfl⟩
  | cons v r =>
    obtain ⟨m, rfl⟩ := al v List.mem_cons_self
    exact ⟨m, atI_nat (j := 0) rfl⟩
/-! ### _law_hand -/
def spHand (K : PySem.W.Frag) : Sp := fun vs H Q _ => ∃ (a : Addr) (i : Int) (ns : List Int), vs = [.ref a, .int i] ∧ SqL K H a (ns.map V.int) ∧ ns.length ≤ 63 ∧ 0 ≤ i ∧ i < 100 ∧ ∀ H' p, Same H H' → H p = none → Pool H' p → Q (.ref p) H'
abbrev NHA : List PySem.Str := ["_law_script", "_law_k", "_law_cell", "_law_seed"]
/-! ### _law_draw -/
def spDraw : Sp := fun vs H Q _ => ∃ (p : Addr) (n : Int), vs = [.ref p, .int n] ∧ Pool H p ∧ 1 ≤ n ∧ n ≤ 1000 ∧ ∀ H' r, Ext p H H' → Pool H' p → (∀ b, b ≠ p → H' b = H b) → 0 ≤ r → r < n → Q (.int r) H'
abbrev NDR : List PySem.Str := ["_law_pool", "_law_size", "_law_found"]
theorem atI_ok {α : Type} {xs : List α} {r : Int} (h0 : 0 ≤ r) (h1 : r < (xs.length : Int)) : ∃ v, v ∈ xs ∧ atI xs r = some v := by
  obtain ⟨j, rfl⟩ : ∃ j : Nat, r = (j : Int) := ⟨r.toNat, by omega⟩
  have hj : j < xs.length := by omega
  exact ⟨xs[j], List.getElem_mem hj, atI_nat (List.getElem?_eq_getElem hj)⟩
/-- a dot that can be drawn -/
def Men (k : DK) : Prop := ∃ (n : Int) (c : Nat) (l : Int), k = [.inl n, .inr ⟨#[c]⟩, .inl l] ∧ n ∈ [(1 : Int), 2, 9, 10, 12] ∧ c ∈ [97, 98, 99] ∧ l ∈ [(1 : Int), 2]
theorem Men.d3 {k : DK} (h : Men k) : D3 k := by
  obtain ⟨n, c, l, rfl, _⟩ := h
  exact ⟨_, _, _, rfl⟩
/-! ### _law_dot -/
def spLdot : Sp := fun vs H Q _ => ∃ p : Addr, vs = [.ref p] ∧ Pool H p ∧ ∀ H' a k, Ext p H H' → Pool H' p → H a = none → H' a = some (.tup (k.map kV)) → Men k → Q (.ref a) H'
/-! ### _law_known -/
def spLkn (K : PySem.W.Frag) : Sp := fun vs H Q _ => ∃ p : Addr, vs = [.ref p, .int 6] ∧ Pool H p ∧ ∀ H' a ks, Ext p H H' → Pool H' p → TupOf K H' a ks → Asc ks → ks.length ≤ 6 → (∀ k ∈ ks, Men k) → Q (.ref a) H'
abbrev NKN : List PySem.Str := ["_law_pool", "_law_most", "_law_turn"]
theorem papp {α β : Type} {F : α → β → Prop} : ∀ {l1 l3 : List α} {l2 l4 : List β}, Paired F l1 l2 → Paired F l3 l4 → Paired F (l1 ++ l3) (l2 ++ l4)
  | _, _, _, _, .nil, h => h
  | _, _, _, _, .cons r t, h => .cons r (papp t h)
def smallD (d : PyData) : Prop := ∀ es, look d = some es → es.length < 60
/-! ### _law_odd -/
def spOdd (K : PySem.W.Frag) : Sp := fun vs H Q _ => vs = [] ∧ ∀ H' p xs ds, Same H H' → SqL K H' p xs → Paired (Rd K H') xs ds → (∀ d ∈ ds, smallD d) → Q (.ref p) H'
def oddD : List PyData := [.none, .int 0, .str "", .tuple [], .list [], .dict [], .tuple [.int 1, .str "a"], .tuple [.int 1, .str "a", .int 1, .int 1], .list [.int 1, .str "a", .int 1], .tuple [.int 0, .str "a", .int 1], .tuple [.bool true, .str "a", .int 1], .tuple [.int 1, .str "A", .int 1]] ++ [.tuple [.int 1, .str "", .int 1], .tuple [.int 1, .str "abcdefg", .int 1], .tuple [.int 1, .str "abcdef", .int 1], .tuple [.int 1, .str "a", .int 0], .tuple [.int 1, .str "a", .bool true], .tuple [.int (10 ^ (12 : Int).toNat), .str "z", .int 9]] ++ [.tuple [.int (10 ^ (12 : Int).toNat + 1), .str "a", .int 1], .tuple [.int 1, .none, .int 1], .tuple [.str "1", .str "a", .int 1], .tuple [.int 1, .str "a\n", .int 1], .tuple [.int (-1), .str "a", .int 1], .tuple [.int 1, .str "a", .none]]
theorem odd_small : ∀ d ∈ oddD, smallD d := by
  have z : oddD.all (fun d => decide (((look d).getD []).length < 60)) = true := by decide +kernel
  intro d hd es he
  have y := of_decide_eq_true (List.all_eq_true.mp z d hd)
  rw [he] at y
  exact y
/-! ### repr of a truth -/
def rRepB : List V → Hp → VK → Prop := fun xs H Q => ∃ b : Bool, xs = [.bl b] ∧ Q (.str (if b then "True" else "False" : String)) H
theorem call_repB {X : Cx} : CallR X (.builtin "repr") rRepB := by
  intro pins s σ H xs us Q I r h
  obtain ⟨b, rfl, q⟩ := h
  obtain ⟨u, rfl, rx⟩ := vals1 r
  cases (show u = Value.bool b from rx)
  refine PySem.P.repr_of_bool ⟨.str (if b then "True" else "False" : String), H, I.tok _, ⟨s.toks, by cases b <;> rfl⟩, q⟩
/-! ### a callee with a default -/
structure CaD (P : Program) (w : World) (K : PySem.W.Frag) (mg : PySem.Str → Option Value) (base : Heap) (k : Nat) (x : PySem.Str) (ps : List PySem.Str) (sp : Sp) (ds : List V) : Prop where
  ex : ∃ f fd us, FnOk P w K mg base CX0 k f fd ps sp ∧ mg x = some (.ref f) ∧ PySem.W.keepIn K (.ref f) = true ∧ Binds K fd ps us ∧ Vals ds us
theorem pe_caD {X : Cx} {x : PySem.Str} {ps : List PySem.Str} {sp : Sp} {ds : List V} {k : Nat} {e : Expr} {es : List Expr} {t : TA} {p pos : Pos} (c : CaD X.prog X.w X.K X.mg X.base k x ps sp ds) (hr : Room k X.A) (hg : Gl X x) (hx : Passes CX0 X E0) (ha : PA X (e :: es) t)
    (hdb : (x == ("__debug__" : PySem.Str)) = false := by decide) (he : starEach (e :: es) X.env = (false, eval e X.env) :: starEach es X.env := by rfl) (hpl : (backTo pos (starEach es X.env)).any (·.1) = false := by rfl) : PE X (.Call (.Name x p) (e :: es) [] pos) (tCall sp ds E0 t) := by
  obtain ⟨f, fd, us, F, g, kp, b, v⟩ := c.ex
  exact pe_call F hr hg g kp b v hx ha hdb he hpl
/-! ### drawn dots -/
def okD (d : PyData) : Bool := d.showable && (decide (d.shown.length ≤ 20) && (short d && (dDot d && decide (d.depth ≤ 1))))
theorem menAll : ([(1 : Int), 2, 9, 10, 12].all fun n => [97, 98, 99].all fun c => [(1 : Int), 2].all fun l => okD (dD [.inl n, .inr ⟨#[c]⟩, .inl l])) = true := by decide +kernel
theorem men_ok {k : DK} (h : Men k) : (dD k).showable = true ∧ (dD k).shown.length ≤ 20 ∧ short (dD k) = true ∧ dDot (dD k) = true ∧ (dD k).depth ≤ 1 ∧ keyD (dD k) = k := by
  obtain ⟨n, c, l, rfl, hn, hc, hl⟩ := h
  have z := List.all_eq_true.mp (List.all_eq_true.mp (List.all_eq_true.mp menAll n hn) c hc) l hl
  unfold okD at z
  simp only [Bool.and_eq_true, decide_eq_true_eq] at z
  exact ⟨z.1, z.2.1, z.2.2.1, z.2.2.2.1, z.2.2.2.2, rfl⟩
def AllMen (ks : List DK) : Prop := ∀ k ∈ ks, Men k
theorem men_rd {K : PySem.W.Frag} {H : Hp} : ∀ {L : List MS.Row}, Dots K H L → (∀ q ∈ L, Men q.2) → Paired (Rd K H) (L.map fun q => V.ref q.1) ((L.map (·.2)).map dD)
  | [], _, _ => .nil
  | p :: L, d, m => .cons ⟨(men_ok (m p List.mem_cons_self)).2.2.1, .inl (dp_dot (d p List.mem_cons_self))⟩ (men_rd (fun q hq => d q (List.mem_cons_of_mem _ hq)) fun q hq => m q (List.mem_cons_of_mem _ hq))
theorem men_lk {K : PySem.W.Frag} {H : Hp} {a : Addr} {ks : List DK} (t : TupOf K H a ks) (m : AllMen ks) : Lk K H (.ref a) (some (ks.map dD)) := by
  obtain ⟨L, h1, h2, rfl⟩ := t
  exact .tup h1 (men_rd h2 fun q hq => m _ (List.mem_map_of_mem hq))
theorem men_all {ks : List DK} (m : AllMen ks) : (ks.map dD).all dDot = true := by
  rw [List.all_eq_true]
  intro d hd
  obtain ⟨k, hk, rfl⟩ := List.mem_map.mp hd
  exact (men_ok (m k hk)).2.2.2.1
theorem men_known {ks : List DK} (m : AllMen ks) : knownO (some (ks.map dD)) = ascB ks := by
  rw [known_yes (men_all m), List.map_map]
  have e : ks.map (keyD ∘ dD) = ks := by
    conv => rhs; rw [← List.map_id ks]
    apply List.map_congr_left
    intro k hk
    exact (men_ok (m k hk)).2.2.2.2.2
  rw [e]
/-! ### how long what is shown is -/
theorem textFrom_le : ∀ (ts : List PySem.Str) (k : Nat) (acc : PySem.Str), (textFrom k acc ts).length ≤ acc.length + piled ts
  | [], k, acc => by rw [piled_nil]; exact Nat.le_refl _
  | t :: r, k, acc => by
    have ih := textFrom_le r (k + 1) (acc ++ (if k > 0 then ", " else "" : String) ++ t)
    rw [piled_cons]
    have e : (acc ++ (if k > 0 then ", " else "" : String) ++ t).length = acc.length + (if k > 0 then 2 else 0) + t.length := by
      rw [strLen_append, strLen_append]
      split <;> rfl
    rw [e] at ih
    show (textFrom (k + 1) (acc ++ (if k > 0 then ", " else "" : String) ++ t) r).length ≤ _
    have two : (if k > 0 then 2 else 0) ≤ 2 := by split <;> omega
    omega
theorem listText_le (ts : List PySem.Str) : (listText ts).length ≤ 2 + piled ts := by
  unfold listText
  rw [strLen_append]
  have := textFrom_le ts 0 "["
  have e1 : (("[" : String) : PySem.Str).length = 1 := rfl
  have e2 : (("]" : String) : PySem.Str).length = 1 := rfl
  omega
theorem tupleText_le (ts : List PySem.Str) : (tupleText ts).length ≤ 3 + piled ts := by
  unfold tupleText
  rw [strLen_append, strLen_append]
  have e1 : (("(" : String) : PySem.Str).length = 1 := rfl
  have e2 : (((if ts.length == 1 then ",)" else ")" : String)) : PySem.Str).length ≤ 2 := by split <;> decide
  have e3 : (Str.join ", " ts).length ≤ piled ts := by
    cases ts with
    | nil => exact Nat.zero_le _
    | cons t r =>
      have := join_length_add (t :: r) (by simp)
      omega
  omega
theorem show_all {n : Nat} : ∀ {ds : List PyData}, (∀ d ∈ ds, d.showable = true ∧ d.shown.length ≤ n ∧ d.depth ≤ 5) → PyData.showableAll ds = true ∧ piled (PyData.shownAll ds) ≤ (n + 2) * ds.length ∧ PyData.depthAll ds ≤ 5
  | [], _ => ⟨by rw [PyData.showableAll], by rw [PyData.shownAll, piled_nil]; exact Nat.zero_le _, by rw [PyData.depthAll]; exact Nat.zero_le _⟩
  | d :: ds, h => by
    obtain ⟨h1, h2, h3⟩ := h d List.mem_cons_self
    obtain ⟨c1, c2, c3⟩ := show_all (ds := ds) fun e he => h e (List.mem_cons_of_mem _ he)
    refine ⟨by rw [PyData.showableAll, h1, c1]; rfl, ?_, by rw [PyData.depthAll]; omega⟩
    rw [PyData.shownAll, piled_cons, List.length_cons, Nat.mul_succ]
    omega
theorem show_tup {ks : List DK} (m : AllMen ks) (few : ks.length ≤ 60) : (PyData.tuple (ks.map dD)).showable = true ∧ (PyData.tuple (ks.map dD)).shown.length ≤ 2000 ∧ (PyData.tuple (ks.map dD)).depth ≤ 6 := by
  obtain ⟨c1, c2, c3⟩ := show_all (n := 20) (ds := ks.map dD) fun d hd => by
    obtain ⟨k, hk, rfl⟩ := List.mem_map.mp hd
    obtain ⟨z1, z2, _, _, z3, _⟩ := men_ok (m k hk)
    exact ⟨z1, z2, by omega⟩
  rw [List.length_map] at c2
  refine ⟨by rw [PyData.showable]; exact c1, ?_, by rw [PyData.depth]; omega⟩
  rw [PyData.shown]
  have := tupleText_le (PyData.shownAll (ks.map dD))
  omega
theorem show_tup' {ks : List DK} (m : AllMen ks) (few : ks.length ≤ 60) : (PyData.tuple (ks.map dD)).showable = true ∧ (PyData.tuple (ks.map dD)).shown.length ≤ sizeLine ∧ (PyData.tuple (ks.map dD)).depth ≤ 40 := by
  obtain ⟨a, b, c⟩ := show_tup m few
  exact ⟨a, by rw [sizeLine_eq]; omega, by omega⟩
def tupsD (kss : List (List DK)) : PyData := .list (kss.map fun ks => .tuple (ks.map dD))
theorem dep_tup (ks : List DK) (m : AllMen ks) : (PyData.tuple (ks.map dD)).depth ≤ 2 := by
  have : ∀ (ds : List PyData), (∀ d ∈ ds, d.depth ≤ 1) → PyData.depthAll ds ≤ 1 := by
    intro ds
    induction ds with
    | nil => intro _; rw [PyData.depthAll]; exact Nat.zero_le _
    | cons d ds ih =>
      intro h
      have a := h d List.mem_cons_self
      have b := ih fun e he => h e (List.mem_cons_of_mem _ he)
      rw [PyData.depthAll]
      omega
  have z := this (ks.map dD) fun d hd => by
    obtain ⟨k, hk, rfl⟩ := List.mem_map.mp hd
    exact (men_ok (m k hk)).2.2.2.2.1
  rw [PyData.depth]
  omega
theorem show_tups {kss : List (List DK)} (m : ∀ ks ∈ kss, AllMen ks ∧ ks.length ≤ 6) (few : kss.length ≤ 10) : (tupsD kss).showable = true ∧ (tupsD kss).shown.length ≤ sizeLine ∧ (tupsD kss).depth ≤ 40 := by
  obtain ⟨c1, c2, c3⟩ := show_all (n := 2000) (ds := kss.map fun ks => .tuple (ks.map dD)) fun d hd => by
    obtain ⟨ks, hk, rfl⟩ := List.mem_map.mp hd
    obtain ⟨z1, z2⟩ := m ks hk
    obtain ⟨y1, y2, _⟩ := show_tup z1 (by omega)
    have := dep_tup ks z1
    exact ⟨y1, y2, by omega⟩
  rw [List.length_map] at c2
  unfold tupsD
  refine ⟨by rw [PyData.showable]; exact c1, ?_, by rw [PyData.depth]; omega⟩
  rw [PyData.shown, sizeLine_eq]
  have := listText_le (PyData.shownAll (kss.map fun ks => .tuple (ks.map dD)))
  have : 2002 * kss.length ≤ 20020 := by omega
  omega
theorem show_bools (a b : Bool) : (PyData.list [.bool a, .bool b]).showable = true ∧ (PyData.list [.bool a, .bool b]).shown.length ≤ sizeLine ∧ (PyData.list [.bool a, .bool b]).depth ≤ 40 := by
  have z : ∀ a b : Bool, ((PyData.list [.bool a, .bool b]).showable && (decide ((PyData.list [.bool a, .bool b]).shown.length ≤ 100) && decide ((PyData.list [.bool a, .bool b]).depth ≤ 40))) = true := by decide +kernel
  have y := z a b
  simp only [Bool.and_eq_true, decide_eq_true_eq] at y
  exact ⟨y.1, by rw [sizeLine_eq]; omega, y.2.2⟩
/-! ### order, further -/
theorem asc_last {ks : List DK} (h : Asc ks) : ascB (ks ++ ks.drop (ks.length - 1)) = ks.isEmpty := by
  cases ks with
  | nil => rfl
  | cons k r =>
    show _ = false
    cases z : ascB ((k :: r) ++ (k :: r).drop ((k :: r).length - 1)) with
    | false => rfl
    | true =>
      have nd := asc_nodup (ascB_iff.mp z)
      have hl : (k :: r).length - 1 < (k :: r).length := by rw [List.length_cons]; omega
      have e : (k :: r).drop ((k :: r).length - 1) = [(k :: r)[(k :: r).length - 1]] := by
        rw [List.drop_eq_getElem_cons hl, List.drop_of_length_le (by omega)]
      rw [e] at nd
      exact absurd rfl ((List.nodup_append.mp nd).2.2 _ (List.getElem_mem hl) _ List.mem_cons_self)
theorem asc_rev {ks : List DK} (h : Asc ks) (l : 1 < ks.length) : ascB ks.reverse = false := by
  cases z : ascB ks.reverse with
  | false => rfl
  | true =>
    have y := ascB_iff.mp z
    unfold Asc at y
    rw [List.pairwise_reverse] at y
    match ks, l, h, y with
    | a :: b :: r, _, .cons p1 _, .cons p2 _ =>
      have c := dlt_tr (p1 b List.mem_cons_self) (p2 b List.mem_cons_self)
      rw [dlt_irr] at c
      cases c
/-! ### tuples of dots, further -/
theorem shaped_tup {ds : List PyData} (h : ds.all dDot = true) : SeqAt.shaped (.tuple ds) = true := by
  obtain ⟨c1, c2⟩ := lay_dots h
  unfold SeqAt.shaped
  rw [PyData.canLay0, c1, PyData.depth, Bool.true_and]
  exact decide_eq_true (by omega)
theorem eqv_nil (ks : List DK) : PyData.eqv (.tuple (ks.map dD)) (.tuple []) = ks.isEmpty := by
  cases ks with
  | nil => simp [PyData.eqv, PyData.eqvAll]
  | cons k r => simp [PyData.eqv, PyData.eqvAll]
theorem cat_tups {K : PySem.W.Frag} {H : Hp} {a b : Addr} {ks ms : List DK} {Q : VK} (ha : TupOf K H a ks) (hb : TupOf K H b ms) (l : ks.length + ms.length ≤ 1000) (q : ∀ r H', Same H H' → TupOf K H' r (ks ++ ms) → Q (.ref r) H') : rCatA K (.ref a) (.ref b) H Q := by
  have ha' := ha
  have hb' := hb
  obtain ⟨L, h1, h2, rfl⟩ := ha
  obtain ⟨M, g1, g2, rfl⟩ := hb
  refine ⟨a, b, _, _, rfl, rfl, h1, g1, ?_, fun z => ?_, fun _ z => ?_, fun _ _ p np => ?_⟩
  · rw [List.length_map, List.length_map] at l ⊢
    rw [sizeLine_eq]
    omega
  · have e : L = [] := List.map_eq_nil_iff.mp z
    subst e
    exact q b H (Same.refl _) hb'
  · have e : M = [] := List.map_eq_nil_iff.mp z
    subst e
    refine q a H (Same.refl _) ?_
    rw [List.map_nil, List.append_nil]
    exact ha'
  · obtain ⟨s, e⟩ := newo (o := .tup ((L.map fun q => V.ref q.1) ++ M.map fun q => V.ref q.1)) np
    refine q p _ s ⟨L ++ M, .inl (.inl (by rw [e, List.map_append])), fun t ht => ?_, by rw [List.map_append]⟩
    rcases List.mem_append.mp ht with ht | ht
    · exact same_sqT s (h2 t ht)
    · exact same_sqT s (g2 t ht)
theorem rev_tup {K : PySem.W.Frag} {H : Hp} {a : Addr} {ks : List DK} {Q : VK} (ha : TupOf K H a ks) (q : ∀ r H', Same H H' → TupOf K H' r ks.reverse → Q (.ref r) H') : ∃ b xs, V.ref a = .ref b ∧ SqT K H b xs ∧ ∀ p, H p = none → Q (.ref p) (upd H p (.tup xs.reverse)) := by
  obtain ⟨L, h1, h2, rfl⟩ := ha
  refine ⟨a, _, rfl, h1, fun p np => ?_⟩
  obtain ⟨s, e⟩ := newo (o := .tup (L.map fun q => V.ref q.1).reverse) np
  refine q p _ s ⟨L.reverse, .inl (.inl (by rw [e, List.map_reverse])), fun t ht => same_sqT s (h2 t (List.mem_reverse.mp ht)), by rw [List.map_reverse]⟩
theorem cut_tup {K : PySem.W.Frag} {H : Hp} {a : Addr} {ks : List DK} {Q : VK} {lo : Int} {j : Nat} (hj : HT.sIx ks.length 0 (some lo) = j) (ha : TupOf K H a ks) (q : ∀ r H', Same H H' → TupOf K H' r (ks.drop j) → Q (.ref r) H') : rSlA K (.ref a) (some lo) none H Q := by
  obtain ⟨L, h1, h2, rfl⟩ := ha
  rw [List.length_map] at hj
  exact sl_from (by rw [List.length_map]; exact hj) h1 fun b H' s hb => q b H' s (tupOf_drop s h2 hb)
theorem same_ext {p : Addr} {H Ha Hb : Hp} (s : Same H Ha) (e : Ext p Ha Hb) (n : H p = none) : Same H Hb := fun b o h => e b o (fun z => by rw [z, n] at h; cases h) (s b o h)
theorem TupOf.sq {K : PySem.W.Frag} {H : Hp} {a : Addr} {ks : List DK} (h : TupOf K H a ks) : ∃ xs, SqT K H a xs ∧ xs.length = ks.length := by
  obtain ⟨L, h1, _, rfl⟩ := h
  exact ⟨_, h1, by rw [List.length_map, List.length_map]⟩
theorem dp_tups {K : PySem.W.Frag} {H : Hp} : ∀ {ts : List (Addr × List DK)}, (∀ t ∈ ts, TupOf K H t.1 t.2) → DpAll K H (ts.map fun t => V.ref t.1) ((ts.map fun t => t.2).map fun ks => .tuple (ks.map dD))
  | [], _ => .nil
  | t :: ts, h => .cons (h t List.mem_cons_self).dp (dp_tups fun u hu => h u (List.mem_cons_of_mem _ hu))
theorem allOf_len : ∀ {ts : List (Addr × List DK)}, (∀ t ∈ ts, t.2.length ≤ 6) → (allOf ts).length ≤ 6 * ts.length
  | [], _ => Nat.zero_le _
  | t :: ts, h => by
    have a := h t List.mem_cons_self
    have b := allOf_len (ts := ts) fun u hu => h u (List.mem_cons_of_mem _ hu)
    show (t.2 ++ allOf ts).length ≤ _
    rw [List.length_append, List.length_cons]
    omega
theorem allOf_take {ts : List (Addr × List DK)} {j : Nat} {t : Addr × List DK} (h : ts[j]? = some t) : allOf (ts.take (j + 1)) = allOf (ts.take j) ++ t.2 := by
  unfold allOf
  rw [take_snoc h, List.map_append, List.flatten_append]
  simp
theorem allOf_mem {ts : List (Addr × List DK)} {k : DK} : k ∈ allOf ts ↔ ∃ t ∈ ts, k ∈ t.2 := by
  unfold allOf
  simp only [List.mem_flatten, List.mem_map]
  constructor
  · rintro ⟨_, ⟨t, ht, rfl⟩, hk⟩
    exact ⟨t, ht, hk⟩
  · rintro ⟨t, ht, hk⟩
    exact ⟨_, ⟨t, ht, rfl⟩, hk⟩
theorem ext_upd {p D : Addr} {G H : Hp} {o : HO} (n : G D = none) (e : Ext p G H) : Ext p G (upd H D o) := fun b u nb hb => by
  have z : b ≠ D := fun z => by
    rw [z, n] at hb
    cases hb
  rw [upd_ne z]
  exact e _ _ nb hb
theorem pool_upd {p D : Addr} {H : Hp} {o : HO} (ne : D ≠ p) (h : Pool H p) : Pool (upd H D o) p := by
  obtain ⟨u, v, hu, r⟩ := h
  exact ⟨u, v, by rw [upd_ne (Ne.symm ne)]; exact hu, r⟩
theorem neg_one_ix (n : Nat) : HT.sIx n 0 (some (-1)) = n - 1 := by
  show (if (-1 : Int) < 0 then ((-1 : Int) + (n : Int)).toNat else min (-1 : Int).toNat n) = n - 1
  rw [if_pos (by decide)]
  omega
theorem pos_ix {n i : Nat} (h : (0 : Int) < (n : Int) - (0 + (i : Int))) : HT.sIx n 0 (some ((n : Int) - (0 + (i : Int)))) = n - i := by
  show (if ((n : Int) - (0 + (i : Int))) < 0 then ((n : Int) - (0 + (i : Int)) + (n : Int)).toNat else min ((n : Int) - (0 + (i : Int))).toNat n) = n - i
  rw [if_neg (by omega)]
  omega
theorem drop_all {α : Type} {l : List α} {i : Nat} (h : ¬ (0 : Int) < (l.length : Int) - (0 + (i : Int))) : l.drop (l.length - i) = l := by
  rw [show l.length - i = 0 by omega]
  rfl
theorem call_repDK {X : Cx} {K : PySem.W.Frag} {k : Nat} (hK : X.K = K) (hr : Room k X.A) (hG : X.A.guards = some []) : CallR X (.builtin "repr") (rRepD K) := by
  subst hK
  exact call_repD hr hG
theorem sl_tupAK {X : Cx} {K : PySem.W.Frag} (hK : X.K = K) : SlR X (rSlA K) := by
  subst hK
  exact sl_tupA
theorem op_catAK {X : Cx} {K : PySem.W.Frag} (hK : X.K = K) : OpR X (binaryOp .Add) (rCatA K) := by
  subst hK
  exact op_catA
theorem op_eqDK {X : Cx} {K : PySem.W.Frag} (hK : X.K = K) (hu : X.A.units + 64 < cLine) : OpR X (compareOp .Eq) (rEqD K) := by
  subst hK
  exact op_eqD hu
theorem pe_revTK {X : Cx} {K : PySem.W.Frag} {e : Expr} {te : TE} {k : Nat} {p1 p2 p3 pos : Pos} (hK : X.K = K) (he : PE X e te) : PE X (.Subscript e (.Slice none none (some (.UnaryOp .USub (.Constant (.int 1) k p1) p2)) p3) pos) (tRevT K te) := by
  subst hK
  exact pe_revT he
abbrev NL : List PySem.Str := ["_law_script", "_law_thing", "_law_one", "_law_k", "_law_pool", "_law_some", "_law_turn", "_law_kept", "_law_due", "_law_size", "_law_left", "_law_own"]
def spLaw (K : PySem.W.Frag) : Sp := fun vs H Q _ => ∃ (a : Addr) (ns : List Int), vs = [.ref a] ∧ SqL K H a (ns.map V.int) ∧ ns.length ≤ 63 ∧ ∀ H', Q (.bl true) H'
def HF (K : PySem.W.Frag) (x : PySem.Str) (st : Stmt) : Prop := ∃ f fd, PySem.W.nsIn K mainGlobals x = some (some (.ref f)) ∧ Fun K x x st f fd
end K01

set_option Elab.async false
set_option linter.all false
set_option maxRecDepth 100000
set_option maxHeartbeats 4000000
namespace VS
open PySem PySem.Spec PyProof.Rows L2 MS K01
/-! ### sorted() of tuples whose first items are unlike dots -/
abbrev VRow := Addr × DK
section
variable {P : Program} {w : World} {A : Around} {E : Value → Shared → Prop} {s : Shared}
def VerAt (P : Program) (w : World) (h : Heap) (z : VRow) : Prop := ∃ (o : Obj) (its : Array Value) (n : Nat) (d : Addr), h.get? z.1 = some o ∧ o.cls = .type "tuple" ∧ o.data = .seq its n ∧ its[0]? = some (.ref d) ∧ MT P w h z.2 d
theorem mt_one {h : Heap} {k l : DK} {d : Addr} (a : MT P w h k d) (b : MT P w h l d) (dk : D3 k) (dl : D3 l) : k = l := by
  obtain ⟨o, its, n, g, c, dt, it⟩ := a
  obtain ⟨o', its', n', g', c', dt', it'⟩ := b
  rw [g] at g'
  obtain rfl := Option.some.inj g'
  rw [dt] at dt'
  have e : its = its' := by injection dt'
  subst e
  obtain ⟨n1, t1, x1, u1, l1, y1, e1, rfl⟩ := d3_items it dk
  obtain ⟨n2, t2, x2, u2, l2, y2, e2, rfl⟩ := d3_items it' dl
  rw [e1] at e2
  simp only [List.cons.injEq, Value.int.injEq, Value.str.injEq, and_true] at e2
  rw [e2.1.1, e2.2.1.1, e2.2.2.1]
theorem ver_one {h : Heap} {z y : VRow} (a : VerAt P w h z) (b : VerAt P w h y) (e : z.1 = y.1) (dz : D3 z.2) (dy : D3 y.2) : z.2 = y.2 := by
  obtain ⟨o, its, n, d, g, c, dt, f, m⟩ := a
  obtain ⟨o', its', n', d', g', c', dt', f', m'⟩ := b
  rw [e, g'] at g
  obtain rfl := Option.some.inj g
  rw [dt] at dt'
  have e2 : its = its' := by injection dt'
  subst e2
  rw [f] at f'
  have e3 : d = d' := by
    have := Option.some.inj f'
    injection this
  subst e3
  exact mt_one m m' dz dy
theorem rc_lt {k l : DK} {a b : Addr} (ha : MT P w s.heap k a) (hb : MT P w s.heap l b) (dk : D3 k) (dl : D3 l) (hu : A.units < cLine) : Ob.RcOp .Lt A s (.ref a) (.ref b) (dlt k l) := by
  obtain ⟨o, its, n, g, c, dt, it⟩ := ha
  obtain ⟨o', its', n', g', c', dt', it'⟩ := hb
  obtain ⟨i1, t1, x1, u1, j1, y1, e1, rfl⟩ := d3_items it dk
  obtain ⟨i2, t2, x2, u2, j2, y2, e2, rfl⟩ := d3_items it' dl
  have f1 : its = #[Value.int i1 t1, Value.str x1 u1, Value.int j1 y1] := Array.ext' e1
  have f2 : its' = #[Value.int i2 t2, Value.str x2 u2, Value.int j2 y2] := Array.ext' e2
  subst f1 f2
  have R := Ob.RcOp.tuples_lt (A := A) (s := s) (e := fun c => if c = 0 then i1 == i2 else if c = 1 then x1 == x2 else j1 == j2) (r := fun c => if c = 0 then decide (i1 < i2) else if c = 1 then decide (x1.cps.toList < x2.cps.toList) else decide (j1 < j2)) ⟨o, g, c, n, dt⟩ ⟨o', g', c', n', dt'⟩ hu (fun c h1 h2 => by
    match c, h1, h2 with
    | 0, _, _ => exact SeqAt.EqAt.int_int _ _ _ _
    | 1, _, _ => exact SeqAt.EqAt.str_str _ _ _ _
    | 2, _, _ => exact SeqAt.EqAt.int_int _ _ _ _
    | c + 3, h1, _ => simp at h1; omega) (fun c h1 h2 _ => by
    match c, h1, h2 with
    | 0, _, _ => exact Ob.RcOp.lt_int _ _ _ _
    | 1, _, _ => exact fun prog w E Q z => PyProof.Rows.lt_str z
    | 2, _, _ => exact Ob.RcOp.lt_int _ _ _ _
    | c + 3, h1, _ => simp at h1; omega)
  have e : Ob.lexAt (fun c => if c = 0 then i1 == i2 else if c = 1 then x1 == x2 else j1 == j2) (fun c => if c = 0 then decide (i1 < i2) else if c = 1 then decide (x1.cps.toList < x2.cps.toList) else decide (j1 < j2)) false 0 3 = dlt [.inl i1, .inr x1, .inl j1] [.inl i2, .inr x2, .inl j2] := by
    rw [dlt3, Ob.lexAt_succ, Ob.lexAt_succ, Ob.lexAt_succ, Ob.lexAt_zero]
    simp only [beq_iff_eq, if_true, show (0 + 1 : Nat) ≠ 0 by decide, show (0 + 1 + 1 : Nat) ≠ 0 by decide, show (0 + 1 + 1 : Nat) ≠ 1 by decide, if_false, Nat.zero_add]
    by_cases h1 : i1 = i2
    · simp only [h1, if_true]
      by_cases h2 : x1 = x2
      · simp only [h2, if_true]
        by_cases h3 : j1 = j2
        · simp [h3]
        · simp [h3]
      · simp [h2]
    · simp [h1]
  rw [← e]
  exact R
noncomputable def verKind (ws : List VRow) : KeyKind where
  toKeyOrd := listOrd itemOrd
  keyOf := fun v => match v with
    | .ref a => (ws.find? fun z => z.1 == a).map fun z => MS.code z.2
    | _ => none
  dflt := []
theorem key_of {ws : List VRow} {v : Value} {k : List (Int ⊕ List Nat)} (h : (verKind ws).keyOf v = some k) : ∃ z ∈ ws, v = .ref z.1 ∧ k = MS.code z.2 := by
  cases v with
  | ref a =>
    have h : (ws.find? fun z => z.1 == a).map (fun z => MS.code z.2) = some k := h
    obtain ⟨z, hz, e⟩ := Option.map_eq_some_iff.mp h
    have y := List.find?_some hz
    exact ⟨z, List.mem_of_find?_eq_some hz, by rw [eq_of_beq y], e.symm⟩
  | _ => exact absurd (show (none : Option (List (Int ⊕ List Nat))) = some k from h) (by simp)
theorem key_in {ws : List VRow} {z : VRow} (hz : z ∈ ws) (one : ∀ y ∈ ws, y.1 = z.1 → y.2 = z.2) : (verKind ws).keyOf (.ref z.1) = some (MS.code z.2) := by
  show (ws.find? fun y => y.1 == z.1).map (fun y => MS.code y.2) = _
  cases h : ws.find? fun y => y.1 == z.1 with
  | none =>
    have := List.find?_eq_none.mp h z hz
    simp at this
  | some y =>
    have e := List.find?_some h
    rw [Option.map_some, one y (List.mem_of_find?_eq_some h) (eq_of_beq e)]
theorem lex_same {b fin : Bool} {Q : Bool → Shared → Prop} : ∀ (ps : List Value) (i : Nat), Q fin s → PySem.W.KatLex P w A b fin Q (ps.zip ps) i s
  | [], i, h => PySem.W.kat_nil h
  | p :: ps, i, h => PySem.W.kat_cons (SeqAt.EqAt.same p P w _ _ (PySem.W.kat_yes (lex_same ps (i + 1) h)))
theorem ver_sorts {ws : List VRow} (hv : ∀ z ∈ ws, VerAt P w s.heap z) (dd : ∀ z ∈ ws, D3 z.2) (nd : (ws.map fun z => z.2).Nodup) (hu : A.units < cLine) : PySem.W.SortsAt P w A s (verKind ws) (ws.map fun z => Value.ref z.1) := by
  have one : ∀ z ∈ ws, ∀ y ∈ ws, y.1 = z.1 → y.2 = z.2 := fun z hz y hy e => ver_one (hv y hy) (hv z hz) e (dd y hy) (dd z hz)
  refine ⟨fun v hm => ?_, PyProof.Rows.tuples' false, ?_, fun h2 E Q hq => ?_⟩
  · obtain ⟨z, hz, rfl⟩ := List.mem_map.mp hm
    exact ⟨_, key_in hz (one z hz)⟩
  · intro E x y ka kb Q ha hb hq
    obtain ⟨z, hz, rfl, rfl⟩ := key_of ha
    obtain ⟨y, hy, rfl, rfl⟩ := key_of hb
    have hq : Q (dlt z.2 y.2) s := hq
    by_cases e : z.2 = y.2
    · have ez : z.1 = y.1 := by
        obtain ⟨i, hi, ei⟩ := List.getElem_of_mem hz
        obtain ⟨j, hj, ej⟩ := List.getElem_of_mem hy
        have q1 : (ws.map fun z => z.2)[i]'(by rw [List.length_map]; exact hi) = (ws.map fun z => z.2)[j]'(by rw [List.length_map]; exact hj) := by
          rw [List.getElem_map, List.getElem_map, ei, ej, e]
        have q2 : i = j := (List.getElem_inj nd).mp q1
        subst q2
        rw [← ei, ← ej]
      rw [e, dlt_irr] at hq
      obtain ⟨o, its, n, d, g, c, dt, f, m⟩ := hv y hy
      rw [ez]
      refine PySem.W.kat_lt g dt g dt ?_
      rw [show decide (its.size < its.size) = false from decide_eq_false (Nat.lt_irrefl _)]
      exact lex_same _ 0 hq
    · obtain ⟨o, its, n, d, g, c, dt, f, m⟩ := hv z hz
      obtain ⟨o', its', n', d', g', c', dt', f', m'⟩ := hv y hy
      refine PySem.W.kat_lt g dt g' dt' ?_
      obtain ⟨r, er⟩ : ∃ r, its.toList = Value.ref d :: r := by
        rw [← Array.getElem?_toList] at f
        cases h : its.toList with
        | nil => rw [h] at f; simp at f
        | cons p r => rw [h] at f; exact ⟨r, by rw [show p = Value.ref d from Option.some.inj f]⟩
      obtain ⟨r', er'⟩ : ∃ r, its'.toList = Value.ref d' :: r := by
        rw [← Array.getElem?_toList] at f'
        cases h : its'.toList with
        | nil => rw [h] at f'; simp at f'
        | cons p r => rw [h] at f'; exact ⟨r, by rw [show p = Value.ref d' from Option.some.inj f']⟩
      rw [er, er', List.zip_cons_cons]
      refine PySem.W.kat_cons (wpAny_eqBool_tuple hu m m' ?_)
      rw [decide_eq_false e]
      refine PySem.W.kat_no ?_
      refine PySem.W.kat_one _ _ (rc_lt m m' (dd z hz) (dd y hy) hu P w _ _ ?_)
      exact hq
  · obtain ⟨fs, hf, lf, tf⟩ : ∃ fs, PySem.W.KatTups s.heap (ws.map fun z => Value.ref z.1) fs ∧ fs.length = ws.length ∧ ∀ v ∈ fs, ∃ a, v = .ref a ∧ ∃ o, s.heap.get? a = some o ∧ o.cls = .type "tuple" := by
      clear nd one hq h2
      induction ws with
      | nil => exact ⟨[], PySem.W.KatTups.nil, rfl, fun _ z => nomatch z⟩
      | cons z ws ih =>
        obtain ⟨fs, h1, h2, h3⟩ := ih (fun y hy => hv y (List.mem_cons_of_mem _ hy)) fun y hy => dd y (List.mem_cons_of_mem _ hy)
        obtain ⟨o, its, n, d, g, c, dt, f, m⟩ := hv z List.mem_cons_self
        refine ⟨.ref d :: fs, PySem.W.KatTups.cons g c dt f h1, by rw [List.length_cons, List.length_cons, h2], fun v hm => ?_⟩
        rcases List.mem_cons.mp hm with rfl | hm
        · obtain ⟨o2, its2, n2, g2, c2, _⟩ := m
          exact ⟨d, rfl, o2, g2, c2⟩
        · exact h3 v hm
    rw [List.length_map] at h2
    refine PySem.W.kat_kind (T := .type "tuple") hf (by omega) (fun v hm => ?_) rfl hq
    obtain ⟨a, rfl, o, g, c⟩ := tf v hm
    rw [← c]
    exact (PySem.W.Looks.ld g).andThen .now
end
end VS

set_option Elab.async false
set_option linter.all false
set_option maxRecDepth 100000
set_option maxHeartbeats 4000000
namespace VS
open PySem PySem.Spec PyProof.Rows L2 MS K01
section
variable {X : Cx}
/-- in the layer: a tuple whose first item is the dot -/
def VerH (K : PySem.W.Frag) (H : Hp) (z : VRow) : Prop := ∃ (d : Addr) (rest : List V), SqT K H z.1 (.ref d :: rest) ∧ SqT K H d (z.2.map kV)
def rSortV (K : PySem.W.Frag) : List V → Hp → VK → Prop := fun vs H Q => ∃ (l : Addr) (ws : List VRow), vs = [V.ref l] ∧ SqL K H l (ws.map fun z => V.ref z.1) ∧ (∀ z ∈ ws, VerH K H z) ∧ (∀ z ∈ ws, D3 z.2) ∧ (ws.map fun z => z.2).Nodup ∧ ws.length ≤ 1000 ∧
  ∀ (ws' : List VRow) (p : Addr), ws'.Perm ws → Asc (ws'.map fun z => z.2) → H p = none → Q (.ref p) (upd H p (.lst (ws'.map fun z => V.ref z.1)))
theorem vrefs : ∀ {ws : List VRow} {us : List Value}, Vals (ws.map fun z => V.ref z.1) us → us = ws.map fun z => Value.ref z.1
  | [], _, .nil => rfl
  | z :: ws, _, .cons r t => by
    cases r
    rw [vrefs t]
    rfl
theorem vrefs' : ∀ (ws : List VRow), Vals (ws.map fun z => V.ref z.1) (ws.map fun z => Value.ref z.1)
  | [] => .nil
  | z :: ws => .cons rfl (vrefs' ws)
theorem each_refs : ∀ (ws : List VRow), PySem.W.EachIs (fun v (z : VRow) => v = Value.ref z.1) (ws.map fun z => Value.ref z.1) ws
  | [] => .nil
  | z :: ws => .cons rfl (each_refs ws)
theorem of_each : ∀ {vs : List Value} {ws : List VRow}, PySem.W.EachIs (fun v (z : VRow) => v = Value.ref z.1) vs ws → vs = ws.map fun z => Value.ref z.1
  | _, _, .nil => rfl
  | _, _, .cons h t => by rw [h, of_each t]; rfl
theorem each_keys {κ : KeyKind} {k : VRow → κ.α} : ∀ {ws : List VRow}, (∀ z ∈ ws, κ.keyOf (.ref z.1) = some (k z)) → PySem.W.EachIs (fun v (z : VRow) => κ.keyOf v = some (k z)) (ws.map fun z => Value.ref z.1) ws
  | [], _ => .nil
  | z :: ws, h => .cons (h z List.mem_cons_self) (each_keys fun y hy => h y (List.mem_cons_of_mem _ hy))
theorem cr_sortV {k : Nat} (hr : Room k X.A) : CallR X (.builtin "sorted") (rSortV X.K) := by
  intro pins s σ H vs us Q I r h
  obtain ⟨l, ws, rfl, hl, hv, dd, nd, few, q⟩ := h
  rw [Vals.ref1 r]
  obtain ⟨its, rv, pl, hz⟩ := I.list hl
  have ei := vrefs rv
  subst ei
  have big : (ws.map fun z => Value.ref z.1).length ≤ sizeLine := by rw [List.length_map, sizeLine_eq]; omega
  have va : ∀ z ∈ ws, VerAt X.prog X.w s.heap z := fun z hz => by
    obtain ⟨d, rest, h1, h2⟩ := hv z hz
    obtain ⟨us, r1, ⟨o, ho, hc, n, hd⟩, _⟩ := I.tuple h1
    cases r1 with
    | cons r1 r2 =>
      cases r1
      refine ⟨o, _, n, d, ho, hc, hd, by simp, dots_mt I (ps := [(d, z.2)]) (fun p hp => by rw [List.mem_singleton.mp hp]; exact h2) (d, z.2) List.mem_cons_self⟩
  have un := hr.un
  have S := ver_sorts (P := X.prog) (w := X.w) (A := X.A.in1.in1) (s := { s with heap := PySem.W.sortingHeap (PySem.W.copyHeap s.heap (ws.map fun z => Value.ref z.1)) (s.heap.objs.size + 1) (ws.map fun z => Value.ref z.1) }) (ws := ws) (fun z hz => by
    obtain ⟨o, its, n, d, g, c, dt, f, o2, its2, n2, g2, c2, dt2, it2⟩ := va z hz
    exact ⟨o, its, n, d, PySem.W.sorting_copy_old g, c, dt, f, o2, its2, n2, PySem.W.sorting_copy_old g2, c2, dt2, it2⟩) dd nd (by show X.A.units + 1 + 1 < cLine; omega)
  refine PySem.W.sorted_vals pl.isList S big ?_
  have one : ∀ z ∈ ws, ∀ y ∈ ws, y.1 = z.1 → y.2 = z.2 := fun z hz y hy e => ver_one (va y hy) (va z hz) e (dd y hy) (dd z hz)
  have e := of_each (PySem.W.sortVals_each (κ := verKind ws) (rev := false) (R := fun v (z : VRow) => v = Value.ref z.1) (fun z : VRow => MS.code z.2) (each_refs ws) (each_keys fun z hz => key_in hz (one z hz)))
  rw [e]
  generalize hw : ws.mergeSort (PySem.W.sortLe (verKind ws).toKeyOrd false fun z : VRow => MS.code z.2) = ws'
  have pm : ws'.Perm ws := by rw [← hw]; exact List.mergeSort_perm _ _
  have pw : ws'.Pairwise fun x y => dlt y.2 x.2 = false := by
    rw [← hw]
    refine List.Pairwise.imp (fun {x y} z => ?_) (PySem.W.sort_pairwise (PySem.W.sortLe_total (verKind ws).toKeyOrd false fun z : VRow => MS.code z.2) ws)
    have z' : (!dlt y.2 x.2) = true := z
    cases hc : dlt y.2 x.2 with
    | false => rfl
    | true => rw [hc] at z'; cases z'
  have asc : Asc (ws'.map fun z => z.2) := asc_of pw ((pm.map fun z => z.2).nodup_iff.mpr nd)
  obtain ⟨ep, he⟩ := PyProof.Rows.sortedAll_at s.heap (ws.map fun z => Value.ref z.1) (ws'.map fun z => Value.ref z.1).toArray
  have len : (ws'.map fun z => V.ref z.1).length ≤ sizeLine := by rw [List.length_map, pm.length_eq, sizeLine_eq]; omega
  exact ⟨.ref _, upd H (s.heap.objs.size + 1) (.lst (ws'.map fun z => V.ref z.1)), I.laid (t' := s.toks) (fun _ _ => PyProof.Rows.sortedAll_old) (Nat.le_succ _) ⟨len, _, ep, vrefs' ws', he⟩, rfl, q ws' _ pm asc (I.hok.fresh (Nat.le_succ _))⟩
end
end VS

set_option Elab.async false
set_option linter.all false
set_option maxRecDepth 100000
set_option maxHeartbeats 4000000
namespace VS
open PySem PySem.Spec PyProof.Rows L2 MS K01
section
variable {X : Cx}
/-! ### x in t, x not in t: data in a tuple -/
def rInDT (K : PySem.W.Frag) (neg : Bool) : R2 := fun x y H Q => ∃ d ds, Dp K H x d ∧ Dp K H y (.tuple ds) ∧ SeqAt.shaped d = true ∧ SeqAt.shaped (.tuple ds) = true ∧ Q (.bl (if neg = true then !ds.any fun z => PyData.eqv z d else ds.any fun z => PyData.eqv z d)) H
theorem op_inDT {K : PySem.W.Frag} (hK : X.K = K) (hu : X.A.units + 65 < cLine) : OpR X (compareOp .In) (rInDT K false) := by
  subst hK
  intro pins s σ H x y v u Q I rx ry h
  obtain ⟨d, ds, hd, he, sd, se, q⟩ := h
  obtain ⟨as, r1⟩ := Dp.reads I d x v hd rx
  obtain ⟨bs, r2⟩ := Dp.reads I (.tuple ds) y u he ry
  exact SeqAt.in_tuple_reads r2 r1 (SeqAt.canLay_of_shaped se) (SeqAt.canLay_of_shaped sd) (room_in_shaped sd hu) ⟨.bl _, H, I, rfl, q⟩
theorem op_notInDT {K : PySem.W.Frag} (hK : X.K = K) (hu : X.A.units + 65 < cLine) : OpR X (compareOp .NotIn) (rInDT K true) := by
  subst hK
  intro pins s σ H x y v u Q I rx ry h
  obtain ⟨d, ds, hd, he, sd, se, q⟩ := h
  obtain ⟨as, r1⟩ := Dp.reads I d x v hd rx
  obtain ⟨bs, r2⟩ := Dp.reads I (.tuple ds) y u he ry
  exact SeqAt.notIn_tuple_reads r2 r1 (SeqAt.canLay_of_shaped se) (SeqAt.canLay_of_shaped sd) (room_in_shaped sd hu) ⟨.bl _, H, I, rfl, q⟩
end
theorem eqv_dD {k l : DK} (hk : D3 k) (hl : D3 l) : PyData.eqv (dD k) (dD l) = decide (k = l) := by
  obtain ⟨n, x, i, rfl⟩ := hk
  obtain ⟨m, y, j, rfl⟩ := hl
  exact eqv_dot
theorem any_dD {k : DK} (hk : D3 k) {ks : List DK} (h : ∀ l ∈ ks, D3 l) : (ks.map dD).any (fun z => PyData.eqv z (dD k)) = true ↔ k ∈ ks := by
  rw [List.any_map, List.any_eq_true]
  constructor
  · rintro ⟨l, hl, e⟩
    have e : PyData.eqv (dD l) (dD k) = true := e
    rw [eqv_dD (h l hl) hk] at e
    rw [← of_decide_eq_true e]
    exact hl
  · intro hm
    refine ⟨k, hm, ?_⟩
    show PyData.eqv (dD k) (dD k) = true
    rw [eqv_dD hk hk]
    exact decide_eq_true rfl
/-! ### {kx: vx for x0 in y0 for x1 in y1}, keys dots -/
section
variable {X : Cx}
theorem set_t {pins : List (Addr × Obj)} {σ : L2.St} {H : Hp} {s : Shared} {E : Value → Shared → Prop} {D b : Addr} {kvs : List (List Key × V)} {k : List Key} {v : V} {r : Value} {Q : Unit → Shared → Prop} (hu : X.A.units < cLine) (I : Inv X pins σ H s) (hD : H D = some (.dT kvs)) (hz : kvs.length < sizeLine)
    (eb : H b = some (.tup (k.map kV))) (rv : RelV v r) (h : ∀ s', Inv X pins σ (upd H D (.dT (putK kvs k v))) s' → Q () s') : wpAny (model X.prog X.w) X.A (dictSet D (.ref b) r) Q E s := by
  obtain ⟨z, hd, xs, rel, dd⟩ := dt_of I.hok hD
  have hx : xs.length ≤ sizeLine := by rw [← Paired.length rel]; exact z
  have hl : (putK kvs k v).length ≤ sizeLine := by have := length_putK kvs k v; omega
  refine wpAny_dictSet_heap (hsz := hx) hu (L2.key_of I.hok eb) dd fun h' dd' hs => h _ ?_
  obtain ⟨q, es, ep, hq, h2, h3, h4, _, h5⟩ := dd'
  refine d_write I (by rw [hD]; exact True.intro) hs ⟨q, hq⟩ ⟨hl, hd, _, (rel.put k eb rv).keeps fun c ys ec => ?_, q, es, ep, hq, h2, h3, h4, h5⟩
  rw [upd_ne (ne_of ec hD (fun z => nomatch z))]
  exact ec
end
section
variable {prog : Program} {w : World} {A : Around} {R : Result → Shared → Prop} {s : Shared} {kx vx x0 y0 x1 y1 : Expr} {sc : Scope} {pos : Pos} {it : Value} {D : Addr} {env : Env}
abbrev DC (kx vx x0 y0 x1 y1 : Expr) (sc : Scope) (pos : Pos) : Expr := .DictComp kx vx [⟨x0, y0, [], 0⟩, ⟨x1, y1, [], 0⟩] sc pos
theorem dturn_out : compTurn (DC kx vx x0 y0 x1 y1 sc pos) 0 it (.ref D) env = (do
      standAt y0.pos
      match ← pyNext it with
      | none => pure (.done .next)
      | some v =>
        letOwnedTupleGo x0 it v
        assign x0 env v
        let mut ok := true
        for c in ([] : List Expr) do
          if ok then ok ← isTrue c env (eval c env)
        if ok then
          let z ← eval y1 env
          standAt y1.pos
          let z ← foldedSetIterable y1 env z
          let _ ← runOwn (.compStart (DC kx vx x0 y0 x1 y1 sc pos) 1 (← holding [z] (pyIter z)) (.ref D) env) env
        again (.compLoop (DC kx vx x0 y0 x1 y1 sc pos) 0 it (.ref D) env)) := by rfl
theorem dturn_in : compTurn (DC kx vx x0 y0 x1 y1 sc pos) 1 it (.ref D) env = (do
      standAt y1.pos
      match ← pyNext it with
      | none => pure (.done .next)
      | some v =>
        letOwnedTupleGo x1 it v
        assign x1 env v
        let mut ok := true
        for c in ([] : List Expr) do
          if ok then ok ← isTrue c env (eval c env)
        if ok then
          (do
            let kv ← eval kx env
            let vv ← holding [kv] (eval vx env)
            standAt { kx.pos with endLine := vx.pos.endLine, endCol := vx.pos.endCol }
            holding [kv, vv] (dictSet D kv vv))
        again (.compLoop (DC kx vx x0 y0 x1 y1 sc pos) 1 it (.ref D) env)) := by rfl
theorem dloop_out (hf : ∀ z, foldedSetIterable y1 env z = pure z) (J : Nat → Shared → Prop)
    (turn : ∀ n s, J n s → wpAny (model prog w) A (pyNext it) (fun r s1 => match r with
      | none => R (.ok .next) s1
      | some v => wpAny (model prog w) A (letOwnedTupleGo x0 it v) (fun _ s2 => wpAny (model prog w) A (assign x0 env v) (fun _ s3 =>
          wpAny (model prog w) A (eval y1 env) (fun z s4 => wpAny (model prog w) A (pyIter z) (fun i1 s5 => codeAny (model prog w) A (.compStart (DC kx vx x0 y0 x1 y1 sc pos) 1 i1 (.ref D) env)
            (fun r s' => match r with | .ok _ => ∃ m, m < n ∧ J m s' | .error _ => False) s5) (NB (model prog w) A env R) s4) (NB (model prog w) A env R) s3) (NB (model prog w) A env R) s2) (NB (model prog w) A env R) s1) (NB (model prog w) A env R) s)
    (n : Nat) (h : J n s) : codeAny (model prog w) A (.compLoop (DC kx vx x0 y0 x1 y1 sc pos) 0 it (.ref D) env) R s := by
  refine codeAny_loop rfl J (fun n s hJ => ?_) n h
  show wpAny _ A ((compTurn (DC kx vx x0 y0 x1 y1 sc pos) 0 it (.ref D) env).onRaise (fun x => do noteFrame x env; theTreesLotGoes x)) _ _ s
  refine wpAny_noted ?_
  rw [dturn_out]
  refine wpAny_bind (wpAny_standAt (wpAny_bind (wpAny_mono (turn n s hJ) (fun r s1 q1 => ?_) fun _ _ z => z)))
  cases r with
  | none => exact wpAny_pure q1
  | some v =>
    refine wpAny_bind (wpAny_mono q1 (fun _ s2 q2 => wpAny_bind (wpAny_mono q2 (fun _ s3 q3 => ?_) fun _ _ z => z)) fun _ _ z => z)
    refine wpAny_bind (wpAny_pure ?_)
    refine wpAny_bind (wpAny_mono q3 (fun z s4 q4 => ?_) fun _ _ z => z)
    refine wpAny_bind (wpAny_standAt (wpAny_bind (wpAny_of_eq (hf z) (wpAny_bind (wpAny_holding (wpAny_mono q4 (fun i1 s5 q5 => ?_) fun _ _ z => z))))))
    refine wpAny_bind (wpAny_runOwn ?_)
    rw [Around.mark_none]
    refine codeAny_mono q5 fun r s' hr => ?_
    cases r with
    | error e => exact hr.elim
    | ok f =>
      first
        | exact wpAny_pure ⟨rfl, hr⟩
        | exact wpAny_bind (wpAny_pure (wpAny_pure ⟨rfl, hr⟩))
theorem dloop_in (J : Nat → Shared → Prop)
    (turn : ∀ n s, J n s → wpAny (model prog w) A (pyNext it) (fun r s1 => match r with
      | none => R (.ok .next) s1
      | some v => wpAny (model prog w) A (letOwnedTupleGo x1 it v) (fun _ s2 => wpAny (model prog w) A (assign x1 env v) (fun _ s3 =>
          wpAny (model prog w) A (eval kx env) (fun kv s4 => wpAny (model prog w) A (eval vx env) (fun vv s5 => wpAny (model prog w) A (dictSet D kv vv) (fun _ s6 => ∃ m, m < n ∧ J m s6) (NB (model prog w) A env R) s5) (NB (model prog w) A env R) s4) (NB (model prog w) A env R) s3) (NB (model prog w) A env R) s2) (NB (model prog w) A env R) s1) (NB (model prog w) A env R) s)
    (n : Nat) (h : J n s) : codeAny (model prog w) A (.compLoop (DC kx vx x0 y0 x1 y1 sc pos) 1 it (.ref D) env) R s := by
  refine codeAny_loop rfl J (fun n s hJ => ?_) n h
  show wpAny _ A ((compTurn (DC kx vx x0 y0 x1 y1 sc pos) 1 it (.ref D) env).onRaise (fun x => do noteFrame x env; theTreesLotGoes x)) _ _ s
  refine wpAny_noted ?_
  rw [dturn_in]
  refine wpAny_bind (wpAny_standAt (wpAny_bind (wpAny_mono (turn n s hJ) (fun r s1 q1 => ?_) fun _ _ z => z)))
  cases r with
  | none => exact wpAny_pure q1
  | some v =>
    refine wpAny_bind (wpAny_mono q1 (fun _ s2 q2 => wpAny_bind (wpAny_mono q2 (fun _ s3 q3 => ?_) fun _ _ z => z)) fun _ _ z => z)
    refine wpAny_bind (wpAny_pure ?_)
    exact wpAny_bind (wpAny_bind (wpAny_mono q3 (fun kv s4 q4 => wpAny_bind (wpAny_holding (wpAny_mono q4 (fun vv s5 q5 => wpAny_bind (wpAny_standAt (wpAny_holding (wpAny_mono q5 (fun _ s6 q6 => wpAny_pure ⟨rfl, q6⟩) fun _ _ z => z)))) fun _ _ z => z))) fun _ _ z => z))
theorem dstart_in (h0 : codeAny (model prog w) A (.compLoop (DC kx vx x0 y0 x1 y1 sc pos) 1 it (.ref D) env) R s)
    (h : wpAny (model prog w) A (pyIter it) (fun i' s' => codeAny (model prog w) A (.compLoop (DC kx vx x0 y0 x1 y1 sc pos) 1 i' (.ref D) env) R s') (NB (model prog w) A env R) s) :
    codeAny (model prog w) A (.compStart (DC kx vx x0 y0 x1 y1 sc pos) 1 it (.ref D) env) R s := by
  refine codeAny_of_tree ?_
  show wpAny _ _ ((compStart (DC kx vx x0 y0 x1 y1 sc pos) 1 it (.ref D) env).onRaise (fun x => do noteFrame x env; standAt theWindowsPlace)) _ _ s
  refine wpAny_notedAt ?_
  unfold compStart
  show wpAny _ _ (ask >>= _) _ _ s
  refine wpAny_bind (wpAny_askSetting (wpAny_ite ?_))
  split
  · first
      | exact wpAny_bind (wpAny_pure (wpAny_pure (And.intro rfl h0)))
      | exact wpAny_pure (And.intro rfl h0)
  · first
      | exact wpAny_bind (wpAny_rule (wpAny_bind (wpAny_standAt (wpAny_bind (wpAny_mono h (fun i' s' q => wpAny_pure (And.intro rfl q)) fun _ _ z => z)))))
      | (refine wpAny_bind (wpAny_rule ?_); show wpAny _ _ (standAt y1.pos >>= _) _ _ s; exact wpAny_bind (wpAny_standAt (wpAny_bind (wpAny_mono h (fun i' s' q => wpAny_pure (And.intro rfl q)) fun _ _ z => z))))
end
end VS

set_option Elab.async false
set_option linter.all false
set_option maxRecDepth 100000
set_option maxHeartbeats 4000000
namespace VS
open PySem PySem.Spec PyProof.Rows L2 MS K01
/-! ### the rule -/
section
variable {X : Cx}
def tDc2 (wi : TI) (g : TG) (wi1 : TI) (g1 : TG) (tk tv : TE) (vs vs1 : List Nat) : TE := fun σ H Q => wi σ H fun J H1 => ∀ D, H1 D = none → ∃ W : Nat → Nat → Hp → Prop, (∃ m, W 0 m (upd H1 D (.dT []))) ∧
  ∀ i m H, W i m H → (J.stop i H ∧ Q (.ref D) H) ∨ (J.go i H ∧ ∃ Nx : Hp → Prop, (∀ H', Nx H' → ∃ m', m' < m ∧ W (i + 1) m' H') ∧ ∀ x H', J.yld i H x H' → g x (wipe σ vs) H' fun σ2 H2 => wipe σ2 vs = wipe σ vs ∧
    wi1 σ2 H2 fun J1 H4 => ∃ W1 : Nat → Nat → Hp → Prop, (∃ m, W1 0 m H4) ∧ ∀ j k H, W1 j k H → (J1.stop j H ∧ Nx H) ∨ (J1.go j H ∧ ∃ Nx1 : Hp → Prop, (∀ H', Nx1 H' → ∃ k', k' < k ∧ W1 (j + 1) k' H') ∧ ∀ x H', J1.yld j H x H' →
      g1 x (wipe σ2 vs1) H' fun σ3 H5 => wipe σ3 vs1 = wipe σ2 vs1 ∧ tk σ3 H5 fun y H6 => tv σ3 H6 fun v H7 => ∃ (a : Addr) (k : List Key) (kvs : List (List Key × V)), y = .ref a ∧ H7 a = some (.tup (k.map kV)) ∧ H7 D = some (.dT kvs) ∧ kvs.length < sizeLine ∧
        Nx1 (upd H7 D (.dT (putK kvs k v)))))
theorem dc2_core {pins : List (Addr × Obj)} {s : Shared} {σ : L2.St} {H : Hp} {Q : VK} {kx vx x0 y0 x1 y1 : Expr} {sc : Scope} {own : List (PySem.Str × Nat)} {vs1 : List Nat} {pos pos' : Pos} {wi wi1 : TI} {g g1 : TG} {tk tv : TE} {use : Option (Value → Sem Unit)} {Qf : Value → Shared → Prop}
    (hc : X.calm = true) (hN : X.N.Nodup) (hu : X.A.units < cLine) (I : Inv X pins σ H s) (hi : PI X x0 y0 wi) (ok : BlkOk X.N X.env.scope sc own) (hv : ∀ i ∈ vs1, i ∈ own.map (·.2))
    (hg : ∀ (s : Shared) (H : Hp) (C : Addr) (cl : List (PySem.Str × Addr)) (f : List Addr), PG (X.blk s H sc (compEnvC sc cl C X.env) f) x0 g)
    (hk : ∀ (s : Shared) (H : Hp) (C : Addr) (cl : List (PySem.Str × Addr)) (f : List Addr), PE (X.blk s H sc (compEnvC sc cl C X.env) f) kx tk)
    (he : ∀ (s : Shared) (H : Hp) (C : Addr) (cl : List (PySem.Str × Addr)) (f : List Addr), PE (X.blk s H sc (compEnvC sc cl C X.env) f) vx tv)
    (hi1 : ∀ (s : Shared) (H : Hp) (C : Addr) (cl : List (PySem.Str × Addr)) (f : List Addr), PI (X.blk s H sc (compEnvC sc cl C X.env) f) x1 y1 wi1)
    (hg1 : ∀ (s : Shared) (H : Hp) (C : Addr) (cl : List (PySem.Str × Addr)) (f : List Addr), PG (X.blk s H sc (compEnvC sc cl C X.env) f) x1 g1)
    (hs : ∀ x, foldedSetIterable y0 X.env x = pure x) (hs1 : ∀ env x, foldedSetIterable y1 env x = pure x)
    (h : tDc2 wi g wi1 g1 tk tv (own.map (·.2)) vs1 σ H Q)
    (fin : ∀ D C s' m H', Inv X pins σ H' s' → Q (.ref D) H' → s'.heap.Ns C m → FpOk X pins H' C → compPost (model X.prog X.w) X.A X.xe use Qf (.ref D) C (.ok .next) s') :
    wpAny (model X.prog X.w) X.A (comprehension (DC kx vx x0 y0 x1 y1 sc pos) sc X.env pos' newDict false (eval y0 X.env) use) Qf X.xe s := by
  have fre : ∀ y ∈ sc.names, y.2 = .free → ∃ c, X.env.cells.lookup y.1 = some c := fun y hy q => I.ok.has _ (ok.free y hy q)
  refine wpAny_comprehension_free (use := use) rfl hs (closure_ok fre) ok.kind (fun y hy q => (ok.uniq y hy).trans (by rw [q])) ?_
  refine thn (hi.run pins s σ H _ I h) fun _ z1 k1 => thn k1 fun iv z2 k2 => ?_
  obtain ⟨it, fp, tn, J, H2, rfl, I2, T, t2, f2, q⟩ := k2
  refine wpAny_newObj_type (newEnv_comp ?_)
  obtain ⟨W, ⟨m0, w0⟩, turn⟩ := q z2.heap.objs.size (I2.hok.fresh (Nat.le_refl _))
  generalize hD : z2.heap.objs.size = D at w0 turn ⊢
  generalize hz3 : ({ z2 with heap := z2.heap.push { cls := .type "dict", data := .dict #[] } } : Shared) = z3
  have grow : Keeps z2.heap z3.heap := fun b o y => by rw [← hz3]; exact Heap.get?_push_of_some _ y
  have I3 : Inv X pins σ (upd H2 D (.dT [])) z3 := by
    rw [← hz3]
    refine I2.laid (t' := z2.toks) (fun b o y => Heap.get?_push_of_some _ y) (Nat.le_of_eq hD) ?_
    rw [← hD]
    exact dt_empty z2.heap I2.big
  have f3 : ∀ b ∈ fp, FpOk X pins (upd H2 D (.dT [])) b ∧ b < z3.heap.objs.size := fun b hb => by
    obtain ⟨o, y, _⟩ := T.obj _ _ t2 b hb
    refine ⟨⟨?_, (f2 b hb).2⟩, Heap.lt_size (grow _ _ y)⟩
    have ne : b ≠ D := by
      rw [← hD]
      exact Nat.ne_of_lt (Heap.lt_size y)
    exact (upd_ne ne).trans (f2 b hb).1
  have I4 := block_start I3 ok hN f3
  have t3 : tn 0 z3.heap := T.keep _ _ _ t2 fun b _ o y => grow b o y
  generalize hH3 : upd H2 D (.dT []) = H3 at I3 f3 I4 w0
  have pg := hg z3 H3 z3.heap.objs.size (cellsFrom (z3.heap.objs.size + 1) sc.names (cloFrom X.env.cells sc.names [])) fp
  have pq := hk z3 H3 z3.heap.objs.size (cellsFrom (z3.heap.objs.size + 1) sc.names (cloFrom X.env.cells sc.names [])) fp
  have pe := he z3 H3 z3.heap.objs.size (cellsFrom (z3.heap.objs.size + 1) sc.names (cloFrom X.env.cells sc.names [])) fp
  have pj := hi1 z3 H3 z3.heap.objs.size (cellsFrom (z3.heap.objs.size + 1) sc.names (cloFrom X.env.cells sc.names [])) fp
  have pk := hg1 z3 H3 z3.heap.objs.size (cellsFrom (z3.heap.objs.size + 1) sc.names (cloFrom X.env.cells sc.names [])) fp
  show codeAny _ _ (.compStart (DC kx vx x0 y0 x1 y1 sc pos) 0 (.ref it) (.ref D) (compEnvC sc (cellsFrom (z3.heap.objs.size + 1) sc.names (cloFrom X.env.cells sc.names [])) z3.heap.objs.size X.env)) (compPost (model X.prog X.w) X.A X.xe use Qf (.ref D) z3.heap.objs.size) { z3 with heap := pushCells (z3.heap.push { cls := .type "dict", data := .dict #[] }) sc.names }
  generalize hen : compEnvC sc (cellsFrom (z3.heap.objs.size + 1) sc.names (cloFrom X.env.cells sc.names [])) z3.heap.objs.size X.env = en at I4 pg pq pe pj pk ⊢
  have lo : en.locals = z3.heap.objs.size := by rw [← hen]; rfl
  generalize hz4 : ({ z3 with heap := pushCells (z3.heap.push { cls := .type "dict", data := .dict #[] }) sc.names } : Shared) = z4 at I4 ⊢
  have t4 : tn 0 z4.heap := T.keep _ _ _ t3 fun b _ o y => by rw [← hz4]; exact pushCells_keeps _ _ _ _ (Heap.get?_push_of_some _ y)
  have nox : ∀ a z, (X.blk z3 H3 sc en fp).xe a z → False := fun a z y => y
  have okB : ∀ G' : Hp, (∀ b ∈ fp, G' b = none) → ∀ b ∈ fp, FpOk (X.blk z3 H3 sc en fp) [] G' b := fun G' nn b hb =>
    ⟨nn b hb, (I4.ok.exf b hb).1, I4.ok.exfs b hb, .inl hb, fun x c y => (I4.ok.exf b hb).2 x c y, (fun p hp => absurd (show p ∈ ([] : List (Addr × Obj)) from hp) (by simp))⟩
  have loop : codeAny (model X.prog X.w) X.A (.compLoop (DC kx vx x0 y0 x1 y1 sc pos) 0 (.ref it) (.ref D) en) (compPost (model X.prog X.w) X.A X.xe use Qf (.ref D) z3.heap.objs.size) z4 := by
    refine dloop_out (hs1 en) (fun n z => ∃ i G, Stand (X.blk z3 H3 sc en fp) [] tn fp i (wipe σ (own.map (·.2))) G z ∧ W i n G) ?_ m0 ⟨0, H3, ⟨I4, t4, fun b hb => (f3 b hb).1.1⟩, w0⟩
    rintro n z5 ⟨i, G5, S5, w5⟩
    rcases turn i n G5 w5 with ⟨stop, done⟩ | ⟨go, Nx, nxt, step⟩
    · obtain ⟨I5, t5, n5⟩ := S5
      refine thnF (T.done (X.blk z3 H3 sc en fp) rfl rfl rfl hc i [] z5 _ G5 (fun _ _ => False) I5 (okB G5 n5) t5 stop) fun r z6 y => ?_
      obtain ⟨rfl, I6⟩ := y
      have J7 : Inv X pins σ G5 z6 := I3.call' (ch := fp) I6.os I6.base I6.hok I6.bare fun b hb => by
        obtain ⟨_, a1, _, a3, a4, a5⟩ := (f3 b hb).1
        exact ⟨a3, a1, a4, a5⟩
      have nl : G5 z3.heap.objs.size = none := by
        rw [← lo]
        exact I6.free
      obtain ⟨m, ns, _⟩ := I6.loc
      have ns' : z6.heap.Ns z3.heap.objs.size m := by
        rw [← lo]
        exact ns
      exact fin D z3.heap.objs.size z6 m G5 J7 done ns' (I3.fpOk (Nat.le_refl _) nl)
    · refine next_turn (Y := X.blk z3 H3 sc en fp) T hc nox pg S5 okB go step (F := fun _ _ => False) fun u z6 k6 => ?_
      refine thnF k6 fun _ z7 k7 => thnF k7 fun _ z8 k8 => ?_
      obtain ⟨z0, t0, ob0, σ8, G8, I8, same8, q8⟩ := k8
      -- back at the outer loop's start
      have back : ∀ {ρ : L2.St} {z' : Shared} {G' : Hp}, Inv (X.blk z3 H3 sc en fp) ([] ++ pinsAt fp z0.heap) ρ G' z' → ρ.length = σ8.length → (∀ (j : Nat) v, j ∉ own.map (·.2) → σ8[j]? = some (some v) → ρ[j]? = some (some v)) → Nx G' →
          ∃ m, m < n ∧ ∃ i G, Stand (X.blk z3 H3 sc en fp) [] tn fp i (wipe σ (own.map (·.2))) G z' ∧ W i m G := fun {ρ z' G'} I' hl hk nx => by
        obtain ⟨m', hm, w'⟩ := nxt G' nx
        refine ⟨m', hm, i + 1, G', settle (Y := X.blk z3 H3 sc en fp) T I' t0 (by rw [← same8, wipe_length, hl]) (fun j v y => ?_), w'⟩
        rw [← same8] at y
        obtain ⟨c1, c2⟩ := wipe_some y
        exact hk j v c2 c1
      refine thnF (pj.run _ z8 σ8 G8 _ I8 q8) fun _ z9 k9 => thnF k9 fun _ z10 k10 => ?_
      obtain ⟨it1, fp1, tn1, J1, G10, rfl, I10, T1, t10, f10, W1, ⟨m1, w1⟩, turn1⟩ := k10
      have ok1 : ∀ G' : Hp, (∀ b ∈ fp1, G' b = none) → ∀ b ∈ fp1, FpOk (X.blk z3 H3 sc en fp) ([] ++ pinsAt fp z0.heap) G' b := fun G' nn b hb => ⟨nn b hb, (f10 b hb).2⟩
      have inner : codeAny (model X.prog X.w) X.A (.compLoop (DC kx vx x0 y0 x1 y1 sc pos) 1 (.ref it1) (.ref D) en)
          (fun r z' => match r with
            | .ok _ => ∃ m, m < n ∧ ∃ i G, Stand (X.blk z3 H3 sc en fp) [] tn fp i (wipe σ (own.map (·.2))) G z' ∧ W i m G
            | .error _ => False) z10 := by
        refine dloop_in (fun k z => ∃ j G, Stand (X.blk z3 H3 sc en fp) ([] ++ pinsAt fp z0.heap) tn1 fp1 j (wipe σ8 vs1) G z ∧ W1 j k G) ?_ m1 ⟨0, G10, ⟨I10.weak (wipe_length _ _) (fun j v y => (wipe_some y).1), t10, fun b hb => (f10 b hb).1⟩, w1⟩
        rintro k z11 ⟨j, G11, S11, w11⟩
        rcases turn1 j k G11 w11 with ⟨stop1, nx⟩ | ⟨go1, Nx1, nxt1, step1⟩
        · obtain ⟨I11, t11, n11⟩ := S11
          refine thnF (T1.done (X.blk z3 H3 sc en fp) rfl rfl rfl hc j _ z11 (wipe σ8 vs1) G11 (fun _ _ => False) I11 (ok1 G11 n11) t11 stop1) fun r z12 y => ?_
          obtain ⟨rfl, I12⟩ := y
          exact back I12 (wipe_length _ _) (fun j v c y => by rw [wipe_out fun c' => c (hv j c')]; exact y) nx
        · refine next_turn (Y := X.blk z3 H3 sc en fp) T1 hc nox pk S11 ok1 go1 step1 (F := fun _ _ => False) fun u1 z12 k12 => ?_
          refine thnF k12 fun _ z13 k13 => thnF k13 fun _ z14 k14 => ?_
          obtain ⟨z15, t15, _, σ15, G15, I15, same15, q15⟩ := k14
          refine thnF (pq.run _ z14 σ15 G15 _ I15 q15) fun kv z16 k16 => ?_
          obtain ⟨y, G16, I16, r16, q16⟩ := k16
          refine thnF (pe.run _ z16 σ15 G16 _ I16 q16) fun vv z18 k18 => ?_
          obtain ⟨yv, G18, I18, r18, a, kk, kvs, rfl, ha, hL, few, nx⟩ := k18
          cases r16
          refine set_t (X := X.blk z3 H3 sc en fp) hu I18 hL few ha r18 fun z17 I17 => ?_
          obtain ⟨m', hm, w'⟩ := nxt1 _ nx
          exact ⟨m', hm, j + 1, _, settle (Y := X.blk z3 H3 sc en fp) T1 I17 t15 (by rw [← same15, wipe_length]) (fun j v y => by rw [← same15] at y; exact (wipe_some y).1), w'⟩
      exact dstart_in inner (T1.self X.A 0 _ _ _ t10 inner)
  exact codeAny_compStart_dict loop (T.self X.A 0 _ _ _ t4 loop)
theorem pe_dc2 {kx vx x0 y0 x1 y1 : Expr} {sc : Scope} {own : List (PySem.Str × Nat)} {vs1 : List Nat} {pos : Pos} {wi wi1 : TI} {g g1 : TG} {tk tv : TE} (hc : X.calm = true) (hN : X.N.Nodup) (hu : X.A.units < cLine) (hi : PI X x0 y0 wi) (ok : BlkOk X.N X.env.scope sc own) (hv : ∀ i ∈ vs1, i ∈ own.map (·.2))
    (hg : ∀ (s : Shared) (H : Hp) (C : Addr) (cl : List (PySem.Str × Addr)) (f : List Addr), PG (X.blk s H sc (compEnvC sc cl C X.env) f) x0 g)
    (hi1 : ∀ (s : Shared) (H : Hp) (C : Addr) (cl : List (PySem.Str × Addr)) (f : List Addr), PI (X.blk s H sc (compEnvC sc cl C X.env) f) x1 y1 wi1)
    (hg1 : ∀ (s : Shared) (H : Hp) (C : Addr) (cl : List (PySem.Str × Addr)) (f : List Addr), PG (X.blk s H sc (compEnvC sc cl C X.env) f) x1 g1)
    (hk : ∀ (s : Shared) (H : Hp) (C : Addr) (cl : List (PySem.Str × Addr)) (f : List Addr), PE (X.blk s H sc (compEnvC sc cl C X.env) f) kx tk)
    (he : ∀ (s : Shared) (H : Hp) (C : Addr) (cl : List (PySem.Str × Addr)) (f : List Addr), PE (X.blk s H sc (compEnvC sc cl C X.env) f) vx tv)
    (hs : ∀ x, foldedSetIterable y0 X.env x = pure x := by intro _; rfl) (hs1 : ∀ env x, foldedSetIterable y1 env x = pure x := by intro _ _; rfl) :
    PE X (DC kx vx x0 y0 x1 y1 sc pos) (tDc2 wi g wi1 g1 tk tv (own.map (·.2)) vs1) := by
  refine ⟨fun pins s σ H Q I h => ?_⟩
  rw [arm_eval_DictComp]
  refine dc2_core hc hN hu I hi ok hv hg hk he hi1 hg1 hs hs1 h fun D C z' m G I' q ns f => ⟨m, ns, fun _ sb => ?_⟩
  exact ⟨.ref D, G, I'.turned (t' := z'.toks) (fun b o hb y => (sb.2 b hb).trans y) f.1 f.2.1 f.2.2.2.1 f.2.2.2.2.1 f.2.2.2.2.2, rfl, q⟩
end
end VS

set_option Elab.async false
set_option linter.all false
set_option maxRecDepth 100000
set_option maxHeartbeats 4000000
namespace VS
open PySem PySem.Spec PyProof.Rows L2 MS K01
section
variable {X : Cx}
def tDc1 (wi : TI) (g : TG) (tk tv : TE) (vs : List Nat) : TE := fun σ H Q => wi σ H fun J H1 => ∀ D, H1 D = none → ∃ W : Nat → Nat → Hp → Prop, (∃ m, W 0 m (upd H1 D (.dT []))) ∧
  ∀ i m H, W i m H → (J.stop i H ∧ Q (.ref D) H) ∨ (J.go i H ∧ ∃ Nx : Hp → Prop, (∀ H', Nx H' → ∃ m', m' < m ∧ W (i + 1) m' H') ∧ ∀ x H', J.yld i H x H' → g x (wipe σ vs) H' fun σ2 H2 => wipe σ2 vs = wipe σ vs ∧
    tk σ2 H2 fun y H6 => tv σ2 H6 fun v H7 => ∃ (a : Addr) (k : List Key) (kvs : List (List Key × V)), y = .ref a ∧ H7 a = some (.tup (k.map kV)) ∧ H7 D = some (.dT kvs) ∧ kvs.length < sizeLine ∧ Nx (upd H7 D (.dT (putK kvs k v))))
theorem dc1_core {pins : List (Addr × Obj)} {s : Shared} {σ : L2.St} {H : Hp} {Q : VK} {kx vx x0 y0 : Expr} {sc : Scope} {own : List (PySem.Str × Nat)} {pos pos' : Pos} {wi : TI} {g : TG} {tk tv : TE} {use : Option (Value → Sem Unit)} {Qf : Value → Shared → Prop}
    (hc : X.calm = true) (hN : X.N.Nodup) (hu : X.A.units < cLine) (I : Inv X pins σ H s) (hi : PI X x0 y0 wi) (ok : BlkOk X.N X.env.scope sc own)
    (hg : ∀ (s : Shared) (H : Hp) (C : Addr) (cl : List (PySem.Str × Addr)) (f : List Addr), PG (X.blk s H sc (compEnvC sc cl C X.env) f) x0 g)
    (hk : ∀ (s : Shared) (H : Hp) (C : Addr) (cl : List (PySem.Str × Addr)) (f : List Addr), PE (X.blk s H sc (compEnvC sc cl C X.env) f) kx tk)
    (he : ∀ (s : Shared) (H : Hp) (C : Addr) (cl : List (PySem.Str × Addr)) (f : List Addr), PE (X.blk s H sc (compEnvC sc cl C X.env) f) vx tv)
    (hs : ∀ x, foldedSetIterable y0 X.env x = pure x)
    (h : tDc1 wi g tk tv (own.map (·.2)) σ H Q)
    (fin : ∀ D C s' m H', Inv X pins σ H' s' → Q (.ref D) H' → s'.heap.Ns C m → FpOk X pins H' C → compPost (model X.prog X.w) X.A X.xe use Qf (.ref D) C (.ok .next) s') :
    wpAny (model X.prog X.w) X.A (comprehension (.DictComp kx vx [⟨x0, y0, [], 0⟩] sc pos) sc X.env pos' newDict false (eval y0 X.env) use) Qf X.xe s := by
  have fre : ∀ y ∈ sc.names, y.2 = .free → ∃ c, X.env.cells.lookup y.1 = some c := fun y hy q => I.ok.has _ (ok.free y hy q)
  refine wpAny_comprehension_free (use := use) rfl hs (closure_ok fre) ok.kind (fun y hy q => (ok.uniq y hy).trans (by rw [q])) ?_
  refine thn (hi.run pins s σ H _ I h) fun _ z1 k1 => thn k1 fun iv z2 k2 => ?_
  obtain ⟨it, fp, tn, J, H2, rfl, I2, T, t2, f2, q⟩ := k2
  refine wpAny_newObj_type (newEnv_comp ?_)
  obtain ⟨W, ⟨m0, w0⟩, turn⟩ := q z2.heap.objs.size (I2.hok.fresh (Nat.le_refl _))
  generalize hD : z2.heap.objs.size = D at w0 turn ⊢
  generalize hz3 : ({ z2 with heap := z2.heap.push { cls := .type "dict", data := .dict #[] } } : Shared) = z3
  have grow : Keeps z2.heap z3.heap := fun b o y => by rw [← hz3]; exact Heap.get?_push_of_some _ y
  have I3 : Inv X pins σ (upd H2 D (.dT [])) z3 := by
    rw [← hz3]
    refine I2.laid (t' := z2.toks) (fun b o y => Heap.get?_push_of_some _ y) (Nat.le_of_eq hD) ?_
    rw [← hD]
    exact dt_empty z2.heap I2.big
  have f3 : ∀ b ∈ fp, FpOk X pins (upd H2 D (.dT [])) b ∧ b < z3.heap.objs.size := fun b hb => by
    obtain ⟨o, y, _⟩ := T.obj _ _ t2 b hb
    refine ⟨⟨?_, (f2 b hb).2⟩, Heap.lt_size (grow _ _ y)⟩
    have ne : b ≠ D := by
      rw [← hD]
      exact Nat.ne_of_lt (Heap.lt_size y)
    exact (upd_ne ne).trans (f2 b hb).1
  have I4 := block_start I3 ok hN f3
  have t3 : tn 0 z3.heap := T.keep _ _ _ t2 fun b _ o y => grow b o y
  generalize hH3 : upd H2 D (.dT []) = H3 at I3 f3 I4 w0
  have pg := hg z3 H3 z3.heap.objs.size (cellsFrom (z3.heap.objs.size + 1) sc.names (cloFrom X.env.cells sc.names [])) fp
  have pq := hk z3 H3 z3.heap.objs.size (cellsFrom (z3.heap.objs.size + 1) sc.names (cloFrom X.env.cells sc.names [])) fp
  have pe := he z3 H3 z3.heap.objs.size (cellsFrom (z3.heap.objs.size + 1) sc.names (cloFrom X.env.cells sc.names [])) fp
  show codeAny _ _ (.compStart (.DictComp kx vx [⟨x0, y0, [], 0⟩] sc pos) 0 (.ref it) (.ref D) (compEnvC sc (cellsFrom (z3.heap.objs.size + 1) sc.names (cloFrom X.env.cells sc.names [])) z3.heap.objs.size X.env)) (compPost (model X.prog X.w) X.A X.xe use Qf (.ref D) z3.heap.objs.size) { z3 with heap := pushCells (z3.heap.push { cls := .type "dict", data := .dict #[] }) sc.names }
  generalize hen : compEnvC sc (cellsFrom (z3.heap.objs.size + 1) sc.names (cloFrom X.env.cells sc.names [])) z3.heap.objs.size X.env = en at I4 pg pq pe ⊢
  have lo : en.locals = z3.heap.objs.size := by rw [← hen]; rfl
  generalize hz4 : ({ z3 with heap := pushCells (z3.heap.push { cls := .type "dict", data := .dict #[] }) sc.names } : Shared) = z4 at I4 ⊢
  have t4 : tn 0 z4.heap := T.keep _ _ _ t3 fun b _ o y => by rw [← hz4]; exact pushCells_keeps _ _ _ _ (Heap.get?_push_of_some _ y)
  have nox : ∀ a z, (X.blk z3 H3 sc en fp).xe a z → False := fun a z y => y
  have okB : ∀ G' : Hp, (∀ b ∈ fp, G' b = none) → ∀ b ∈ fp, FpOk (X.blk z3 H3 sc en fp) [] G' b := fun G' nn b hb =>
    ⟨nn b hb, (I4.ok.exf b hb).1, I4.ok.exfs b hb, .inl hb, fun x c y => (I4.ok.exf b hb).2 x c y, (fun p hp => absurd (show p ∈ ([] : List (Addr × Obj)) from hp) (by simp))⟩
  have loop : codeAny (model X.prog X.w) X.A (.compLoop (.DictComp kx vx [⟨x0, y0, [], 0⟩] sc pos) 0 (.ref it) (.ref D) en) (compPost (model X.prog X.w) X.A X.xe use Qf (.ref D) z3.heap.objs.size) z4 := by
    refine compLoop_anyD (fun n z => ∃ i G, Stand (X.blk z3 H3 sc en fp) [] tn fp i (wipe σ (own.map (·.2))) G z ∧ W i n G) ?_ m0 ⟨0, H3, ⟨I4, t4, fun b hb => (f3 b hb).1.1⟩, w0⟩
    rintro n z5 ⟨i, G5, S5, w5⟩
    rcases turn i n G5 w5 with ⟨stop, done⟩ | ⟨go, Nx, nxt, step⟩
    · obtain ⟨I5, t5, n5⟩ := S5
      refine thnF (T.done (X.blk z3 H3 sc en fp) rfl rfl rfl hc i [] z5 _ G5 (fun _ _ => False) I5 (okB G5 n5) t5 stop) fun r z6 y => ?_
      obtain ⟨rfl, I6⟩ := y
      have J7 : Inv X pins σ G5 z6 := I3.call' (ch := fp) I6.os I6.base I6.hok I6.bare fun b hb => by
        obtain ⟨_, a1, _, a3, a4, a5⟩ := (f3 b hb).1
        exact ⟨a3, a1, a4, a5⟩
      have nl : G5 z3.heap.objs.size = none := by
        rw [← lo]
        exact I6.free
      obtain ⟨m, ns, _⟩ := I6.loc
      have ns' : z6.heap.Ns z3.heap.objs.size m := by
        rw [← lo]
        exact ns
      exact fin D z3.heap.objs.size z6 m G5 J7 done ns' (I3.fpOk (Nat.le_refl _) nl)
    · refine next_turn (Y := X.blk z3 H3 sc en fp) T hc nox pg S5 okB go step (F := fun _ _ => False) fun u z6 k6 => ?_
      refine thnF k6 fun _ z7 k7 => thnF k7 fun _ z8 k8 => ?_
      obtain ⟨z0, t0, ob0, σ8, G8, I8, same8, q8⟩ := k8
      show wpAny _ _ (pure true) _ _ _
      refine wpAny_pure ?_
      rw [if_pos rfl]
      refine thnF (pq.run _ z8 σ8 G8 _ I8 q8) fun kv z9 k9 => ?_
      obtain ⟨y, G9, I9, r9, q9⟩ := k9
      refine thnF (pe.run _ z9 σ8 G9 _ I9 q9) fun vv z10 k10 => ?_
      obtain ⟨yv, G10, I10, r10, a, kk, kvs, rfl, ha, hL, few, nx⟩ := k10
      cases r9
      refine set_t (X := X.blk z3 H3 sc en fp) hu I10 hL few ha r10 fun z11 I11 => ?_
      obtain ⟨m', hm, w'⟩ := nxt _ nx
      exact ⟨m', hm, i + 1, _, settle (Y := X.blk z3 H3 sc en fp) T I11 t0 (by rw [← same8, wipe_length]) (fun j v y => by rw [← same8] at y; exact (wipe_some y).1), w'⟩
  exact codeAny_compStart_dict loop (T.self X.A 0 _ _ _ t4 loop)
theorem pe_dc1 {kx vx x0 y0 : Expr} {sc : Scope} {own : List (PySem.Str × Nat)} {pos : Pos} {wi : TI} {g : TG} {tk tv : TE} (hc : X.calm = true) (hN : X.N.Nodup) (hu : X.A.units < cLine) (hi : PI X x0 y0 wi) (ok : BlkOk X.N X.env.scope sc own)
    (hg : ∀ (s : Shared) (H : Hp) (C : Addr) (cl : List (PySem.Str × Addr)) (f : List Addr), PG (X.blk s H sc (compEnvC sc cl C X.env) f) x0 g)
    (hk : ∀ (s : Shared) (H : Hp) (C : Addr) (cl : List (PySem.Str × Addr)) (f : List Addr), PE (X.blk s H sc (compEnvC sc cl C X.env) f) kx tk)
    (he : ∀ (s : Shared) (H : Hp) (C : Addr) (cl : List (PySem.Str × Addr)) (f : List Addr), PE (X.blk s H sc (compEnvC sc cl C X.env) f) vx tv)
    (hs : ∀ x, foldedSetIterable y0 X.env x = pure x := by intro _; rfl) :
    PE X (.DictComp kx vx [⟨x0, y0, [], 0⟩] sc pos) (tDc1 wi g tk tv (own.map (·.2))) := by
  refine ⟨fun pins s σ H Q I h => ?_⟩
  rw [arm_eval_DictComp]
  refine dc1_core hc hN hu I hi ok hg hk he hs h fun D C z' m G I' q ns f => ⟨m, ns, fun _ sb => ?_⟩
  exact ⟨.ref D, G, I'.turned (t' := z'.toks) (fun b o hb y => (sb.2 b hb).trans y) f.1 f.2.1 f.2.2.2.1 f.2.2.2.2.1 f.2.2.2.2.2, rfl, q⟩
end
end VS

set_option Elab.async false
set_option linter.all false
set_option maxRecDepth 100000
set_option maxHeartbeats 4000000
namespace VS
open PySem PySem.Spec PyProof.Rows L2 MS K01
open PyProof.Rows.G (sh1 tupKindC tupKeyC tupKeyC_of list_sort_tups)
/-! ### sorted(d), its keys dots -/
section
variable {P : Program} {w : World} {A : Around} {E : Value → Shared → Prop} {s : Shared}
/-- where a walk into a new list ends -/
def Ends1 (s : Shared) (Pv : Nat → Value → Prop) (n : Nat) (q : Result) (z : Shared) : Prop := ∃ (h1 : Heap) (tk : Nat) (acc : Array Value) (c : Nat), q = .ok (.ret (.ref s.heap.objs.size)) ∧ z = { s with heap := h1, toks := tk } ∧ Keeps s.heap h1 ∧
  h1.get? s.heap.objs.size = some { cls := .type "list", dict := none, data := .seq acc c, slots := #[] } ∧ ItemsOf Pv acc n
theorem collect_sz {T : String} {r d : Addr} {n : Nat} {Pv : Nat → Value → Prop} {OK : Heap → Prop} {R : List Value → Shared → Prop} (S : PySem.W.KdlSrc P w T r d n Pv OK) (hh : A.handled = none) (ok : OK s.heap) (fit : n ≤ sizeLine)
    (q : ∀ (h1 : Heap) (tk : Nat) (acc : Array Value), Keeps s.heap h1 → s.heap.objs.size < h1.objs.size → ItemsOf Pv acc n → R acc.toList { s with heap := h1, toks := tk }) : wpAny (model P w) A (collect (.ref r)) R E s := by
  obtain ⟨lr, ld⟩ := S.there _ ok
  unfold collect
  refine wpAny_bind (wpAny_runValue (codeAny_builtin PySem.F.entry_proto_collect ?_))
  rw [Around.under_plainId PySem.F.plain_proto_collect _]
  show wpAny _ A.in1 (newList [] >>= fun l => again (.builtin "list.__iadd__" ⟨[l, .ref r], []⟩)) _ _ s
  refine wpAny_bind (wpAny_newObj_type (wpAny_pure ⟨plainId_quiet PySem.F.plain_list_iadd _, codeAny_builtin PySem.F.entry_list_iadd ?_⟩))
  rw [Around.under_plainId PySem.F.plain_list_iadd _]
  have new : (s.heap.push { cls := .type "list", data := .seq ([] : List Value).toArray }).get? s.heap.objs.size = some { cls := .type "list", data := .seq #[] } := Heap.get?_push_size _ rfl
  show wpAny _ A.in1 (Builtin.List.listExtendWith (.ref s.heap.objs.size) (.ref r) (.ref s.heap.objs.size)) _ _ _
  have walk := PySem.W.kdl_extend (A := A) (s := { s with heap := s.heap.push { cls := .type "list", data := .seq ([] : List Value).toArray } }) (R := Ends1 s Pv n) S hh (S.keep _ _ ok fun b _ o y => Heap.get?_push_of_some _ y) s.heap.objs.size (Nat.ne_of_gt lr) (Nat.ne_of_gt ld) (.ref s.heap.objs.size) 0 new
    (fun h1 tk acc c kp gS it => ⟨h1, tk, acc, c, rfl, rfl, fun b o y => kp b o (Nat.ne_of_lt (Heap.lt_size y)) (Heap.get?_push_of_some _ y), gS, it⟩) fit
  refine wpAny_mono walk (fun f z x => ?_) fun e z x => by obtain ⟨_, _, _, _, y, _⟩ := x; cases y
  cases f with
  | done f =>
    obtain ⟨h1, tk, acc, c, y, rfl, kp, gS, it⟩ := x
    cases y
    show wpAny _ A (load s.heap.objs.size >>= _) _ _ _
    exact wpAny_bind (wpAny_load gS (wpAny_pure (q h1 tk acc kp (Heap.lt_size gS) it)))
  | again c1 =>
    refine ⟨x.1, codeAny_mono x.2 fun x2 z2 y => ?_⟩
    obtain ⟨h1, tk, acc, c, rfl, rfl, kp, gS, it⟩ := y
    show wpAny _ A (load s.heap.objs.size >>= _) _ _ _
    exact wpAny_bind (wpAny_load gS (wpAny_pure (q h1 tk acc kp (Heap.lt_size gS) it)))
theorem sorted_by {L : List MS.Row} {x : Addr} {Q : Value → Shared → Prop} (tu : Tups P w s.heap L) (dd : ∀ p ∈ L, D3 p.2) (few : L.length ≤ 1000)
    (col : ∀ (A' : Around) (R : List Value → Shared → Prop), A'.handled = A.handled → (∀ h' tk, Keeps s.heap h' → s.heap.objs.size < h'.objs.size → R (L.map fun z => Value.ref z.1) { s with heap := h', toks := tk }) → wpAny (model P w) A' (collect (.ref x)) R E s)
    (q : ∀ s' p (out : Array Value) (c : Nat) (L' : List MS.Row), Keeps s.heap s'.heap → s'.gens = s.gens → s'.os = s.os → s.heap.objs.size ≤ p → s'.heap.get? p = some (seqObj "list" out c) → out.toList = L'.map (fun z => Value.ref z.1) → L'.Perm L →
      L'.Pairwise (fun x y => dlt y.2 x.2 = false) → Q (.ref p) s') : wpAny (model P w) A (call (.builtin "sorted") [.ref x]) Q E s := by
  refine Calls.call_function_entry kind_sorted plain_sorted entry_sorted (args_sorted1 _) ?_
  unfold Builtin.«sorted»
  refine wpAny_bind (m := checkCount "sorted" 1 1 _) (wpAny_pure ?_)
  refine wpAny_bind (col A.in1 _ rfl fun h1 tk k1 lt1 => ?_)
  refine wpAny_bind (wpAny_newList ?_ (by rw [List.length_map, sizeLine_eq]; omega))
  have le1 : s.heap.objs.size ≤ h1.objs.size := Nat.le_of_lt lt1
  have gL : (h1.push (seqObj "list" (L.map fun z => Value.ref z.1).toArray 0)).get? h1.objs.size = some (seqObj "list" (L.map fun z => Value.ref z.1).toArray 0) := Heap.get?_push_size _ rfl
  have kk : Keeps s.heap (h1.push (seqObj "list" (L.map fun z => Value.ref z.1).toArray 0)) := fun b u e => Heap.get?_push_of_some _ (k1 b u e)
  have tu2 := tups_keep tu kk
  have inL : ∀ v ∈ (L.map fun z => Value.ref z.1), ∃ z ∈ L, v = Value.ref z.1 := fun v hv => by
    obtain ⟨z, hz, e⟩ := List.mem_map.mp hv
    exact ⟨z, hz, e.symm⟩
  obtain ⟨fs, hfs⟩ := tups_of (h := h1.push (seqObj "list" (L.map fun z => Value.ref z.1).toArray 0)) (L.map fun z => Value.ref z.1) fun v hv => by
    obtain ⟨z, hz, rfl⟩ := inL v hv
    exact mt_tup (tu2 z hz) (dd z hz)
  refine wpAny_bind (wpAny_holding (wpAny_call_entry slot_list_sort ⟨_, gL, rfl⟩ entry_list_sort (list_sort_tups (s := { s with heap := h1.push (seqObj "list" (L.map fun z => Value.ref z.1).toArray 0), toks := tk }) gL hfs (fun v hv => ?_) (by rw [List.length_map, sizeLine_eq]; omega) fun st' b1 b2 b3 => ⟨_, rfl, ?_⟩) (args_list_sort _)))
  · obtain ⟨z, hz, rfl⟩ := inL v hv
    exact ⟨_, mt_key (tu2 z hz) (dd z hz)⟩
  · obtain ⟨pm2, so⟩ := sorted_vals b1 b2
    generalize (arrOf st').map (·.2) = out at pm2 so ⊢
    obtain ⟨c, hc⟩ := sortedHeap_at (vs := L.map fun z => Value.ref z.1) (out := out) gL
    obtain ⟨L', pL, eL⟩ := perm_lift (fun z : MS.Row => Value.ref z.1) pm2 L rfl
    refine wpAny_pure ⟨_, rfl, q _ h1.objs.size out c L' (fun b u e => ?_) rfl rfl le1 hc eL.symm pL ?_⟩
    · have y := k1 b u e
      have lt := Heap.lt_size y
      show (sortedHeap (h1.push (seqObj "list" (L.map fun z => Value.ref z.1).toArray 0)) h1.objs.size (L.map fun z => Value.ref z.1) out).get? b = some u
      rw [sortedHeap_old (Nat.ne_of_lt lt) (by rw [size_push']; exact Nat.lt_succ_of_lt lt)]
      exact Heap.get?_push_of_some _ y
    · rw [← eL, List.pairwise_map] at so
      refine List.Pairwise.imp_of_mem (fun {x y} hx hy z => ?_) so
      have mx := pL.mem_iff.mp hx
      have my := pL.mem_iff.mp hy
      rw [mt_key (tu2 x mx) (dd x mx), mt_key (tu2 y my) (dd y my)] at z
      exact z
end
section
variable {X : Cx}
/-- sorted(d) -/
def rSortD : List V → Hp → VK → Prop := fun vs H Q => ∃ (d : Addr) (kvs : List (List Key × V)), vs = [V.ref d] ∧ H d = some (.dT kvs) ∧ (∀ e ∈ kvs, D3 e.1) ∧ kvs.length ≤ 1000 ∧
  ∀ (L : List MS.Row) (p : Addr), (∀ q ∈ L, H q.1 = some (.tup (q.2.map kV))) → (L.map fun q => q.2).Perm (kvs.map fun e => e.1) → L.Pairwise (fun x y => dlt y.2 x.2 = false) → H p = none → Q (.ref p) (upd H p (.lst (L.map fun q => V.ref q.1)))
theorem rows_keys {H : Hp} : ∀ {kvs : List (List Key × V)} {bs : List Addr}, IsKeys H kvs bs → ∃ L : List MS.Row, L.map (fun q => q.1) = bs ∧ L.map (fun q => q.2) = kvs.map (fun e => e.1) ∧ ∀ q ∈ L, H q.1 = some (.tup (q.2.map kV))
  | [], _, .nil => ⟨[], rfl, rfl, fun _ z => nomatch z⟩
  | e :: kvs, _, .cons (b := b) h t => by
    obtain ⟨L, h1, h2, h3⟩ := rows_keys t
    refine ⟨(b, e.1) :: L, by rw [List.map_cons, h1], by rw [List.map_cons, h2, List.map_cons], fun q hq => ?_⟩
    rcases List.mem_cons.mp hq with rfl | hq
    · exact h
    · exact h3 q hq
theorem cr_sortD (hc : X.calm = true) : CallR X (.builtin "sorted") rSortD := by
  intro pins s σ H vs us Q I r h
  obtain ⟨d, kvs, rfl, hd, d3, few, q⟩ := h
  rw [Vals.ref1 r]
  obtain ⟨z, hs, ks, pr, o, es, ep, ho, hx, hdt, he, hn⟩ := (show ObjOk X.prog X.w H s.heap d (.dT kvs) from I.hok d _ hd)
  have l1 : es.size = ks.length := size_of_entries he
  have l2 : kvs.length = ks.length := Paired.length pr
  obtain ⟨L, e1, e2, e3⟩ := rows_keys (isKeys_of pr)
  have dd : ∀ p ∈ L, D3 p.2 := fun p hp => by
    have y : p.2 ∈ kvs.map fun e => e.1 := by rw [← e2]; exact List.mem_map_of_mem hp
    obtain ⟨e, he, y⟩ := List.mem_map.mp y
    rw [← y]
    exact d3 e he
  have lL : L.length = kvs.length := by
    have y := congrArg List.length e2
    rw [List.length_map, List.length_map] at y
    exact y
  have tu : Tups X.prog X.w s.heap L := dots_mt I fun p hp => .inl (.inl (e3 p hp))
  refine sorted_by tu dd (by omega) (fun A' R hA k => ?_) fun s' p out c L' kp g o' hp hg hout pm pw => ?_
  · refine collect_sz (kdl_raw hs hx hdt) (hA.trans (I.ok.hd hc)) ho (by rw [sizeLine_eq]; omega) fun h1 tk acc kp lt it => ?_
    have ea : acc.toList = L.map fun z => Value.ref z.1 := by
      have hl : acc.toList.length = ks.length := by rw [Array.length_toList, it.1]; exact l1
      have e4 : (L.map fun z => Value.ref z.1) = ks.map fun x => Value.ref x.2.1 := by
        have y := congrArg (List.map Value.ref) e1
        rw [List.map_map, List.map_map] at y
        exact y
      rw [e4]
      apply List.ext_getElem?
      intro j
      rw [List.getElem?_map]
      cases hj : acc.toList[j]? with
      | none =>
        have y := List.getElem?_eq_none_iff.mp hj
        rw [List.getElem?_eq_none (by omega)]
        rfl
      | some v =>
        obtain ⟨en, hen, hv⟩ := it.2 j v (by rw [← Array.getElem?_toList]; exact hj)
        have qe := entry_at he j
        rw [hen] at qe
        cases hb : ks[j]? with
        | none =>
          rw [hb] at qe
          exact nomatch (show some en = none from qe)
        | some b =>
          rw [hb] at qe
          have e5 : en = entryOfKey (tupleKind (mixKind X.prog X.w)) b := Option.some.inj qe
          rw [hv, e5]
          rfl
    rw [ea]
    exact k h1 tk kp lt
  · have hf : H p = none := I.hok.fresh hp
    have len : (L'.map fun q => V.ref q.1).length ≤ sizeLine := by rw [List.length_map, pm.length_eq, sizeLine_eq]; omega
    have hv : Vals (L'.map fun q => V.ref q.1) out.toList := by rw [hout]; exact vals_refs L'
    have J : Inv X pins σ (upd H p (.lst (L'.map fun q => V.ref q.1))) { s with heap := s'.heap, gens := s'.gens, drawn := s'.drawn, toks := s'.toks } :=
      I.call (ch := []) (Un.laid kp hp hf) (I.hok.laid kp hp ⟨len, out.toList, c, hv, hg⟩) (by rw [g]; exact I.bare) (fun _ z => nomatch z)
    have e : s' = { s with heap := s'.heap, gens := s'.gens, drawn := s'.drawn, toks := s'.toks } := by
      cases s'
      cases s
      cases o'
      rfl
    rw [e]
    refine ⟨.ref p, _, J, rfl, q L' p (fun t ht => e3 t (pm.mem_iff.mp ht)) ?_ pw hf⟩
    rw [← e2]
    exact pm.map fun q => q.2
end
end VS

set_option Elab.async false
set_option linter.all false
set_option maxRecDepth 100000
set_option maxHeartbeats 4000000
namespace VS
open PySem PySem.Spec PyProof.Rows L2 MS K01
section
variable {X : Cx}
/-! ### a list or a tuple, whichever it is -/
def iSeq (K : PySem.W.Frag) (tl : TE) : TI := fun σ H R => tl σ H fun x H1 => ∃ a, x = .ref a ∧ (((∃ xs, SqL K H1 a xs) ∧ R (Itl K a) H1) ∨ ((∃ xs, SqT K H1 a xs) ∧ R (Itt K a) H1))
theorem pi_seq {K : PySem.W.Frag} {tg l : Expr} {tl : TE} (hK : X.K = K) (hl : PE X l tl) : PI X tg l (iSeq K tl) := by
  subst hK
  refine ⟨fun pins s σ H R I h => thn (hl.run pins s σ H _ I h) fun v z1 y1 => ?_⟩
  obtain ⟨x, G, J, rx, a, rfl, c⟩ := y1
  cases rx
  have grow : ∀ o : Obj, Inv X pins σ G { z1 with heap := z1.heap.push o } := fun o => J.kept (t' := z1.toks) fun b u y => Heap.get?_push_of_some _ y
  have own : ∀ b ∈ [z1.heap.objs.size], FpOk X pins G b := fun b hb => by
    rw [List.mem_singleton.mp hb]
    exact J.fpOk (Nat.le_refl _) (J.hok.fresh (Nat.le_refl _))
  rcases c with ⟨⟨xs, hx⟩, q⟩ | ⟨⟨xs, hx⟩, q⟩
  · obtain ⟨its, rv, pl, _⟩ := J.list hx
    exact wpAny_pyIter_list pl.isList ⟨z1.heap.objs.size, [z1.heap.objs.size], _, _, G, rfl, grow _, turn_list a _, ⟨_, Heap.get?_push_size _ rfl, rfl, rfl⟩, own, q⟩
  · obtain ⟨its, rv, pt, _⟩ := J.tuple hx
    exact wpAny_pyIter_tuple (show z1.heap.IsTuple a its.toArray from pt) ⟨z1.heap.objs.size, [z1.heap.objs.size], _, _, G, rfl, grow _, turn_tuple a _, ⟨_, Heap.get?_push_size _ rfl, rfl, rfl⟩, own, q⟩
theorem sl_seq {K : PySem.W.Frag} (hK : X.K = K) : SlR X (fun x lo hi H Q => rSlA K x lo hi H Q ∨ rSlL K x lo hi H Q) := by
  subst hK
  intro pins s σ H x v vl vu lo hi sl Q I rx hs pl pu h
  rcases h with h | h
  · exact sl_tupA pins s σ H x v vl vu lo hi sl Q I rx hs pl pu h
  · exact sl_list pins s σ H x v vl vu lo hi sl Q I rx hs pl pu h
theorem sl_fromL {K : PySem.W.Frag} {H : Hp} {a : Addr} {xs : List V} {Q : VK} {lo : Int} {j : Nat} (hj : HT.sIx xs.length 0 (some lo) = j) (h : SqL K H a xs) (q : ∀ b H', Same H H' → SqL K H' b (xs.drop j) → Q (.ref b) H') : rSlL K (.ref a) (some lo) none H Q := by
  refine ⟨a, xs, rfl, h, fun p hp => ?_⟩
  obtain ⟨s1, e1⟩ := newo (o := .lst (cutV xs (some lo) none)) hp
  refine q p _ s1 (.inl (.inl ?_))
  rw [e1]
  unfold cutV
  rw [hj, HT.sIx_none, List.take_of_length_le (by rw [List.length_drop]; exact Nat.le_refl _)]
end
end VS

set_option Elab.async false
set_option linter.all false
set_option maxRecDepth 100000
set_option maxHeartbeats 4000000
namespace VS
open PySem PySem.Spec PyProof.Rows L2 MS K01
section
variable {J J1 : It} {n n1 : Nat} {G G1 : Hp → Prop} {Y Y1 : Nat → Hp → V → Hp → Prop}
/-- a dict comprehension of one clause over a walk -/
theorem dc1_it (w : Walk J n G Y) {g : TG} {tk tv : TE} {vs : List Nat} {σ : L2.St} {H1 : Hp} {D : Addr} {Qd : Hp → Prop} (Pv : Nat → Hp → Prop) (h0 : Pv 0 (upd H1 D (.dT []))) (hG : ∀ i H, i ≤ n → Pv i H → G H)
    (hs : ∀ i x H H', i < n → Pv i H → Y i H x H' → g x (wipe σ vs) H' fun σ2 H2 => wipe σ2 vs = wipe σ vs ∧ tk σ2 H2 fun y H6 => tv σ2 H6 fun v H7 => ∃ (a : Addr) (k : List Key) (kvs : List (List Key × V)), y = .ref a ∧ H7 a = some (.tup (k.map kV)) ∧ H7 D = some (.dT kvs) ∧ kvs.length < sizeLine ∧ Pv (i + 1) (upd H7 D (.dT (putK kvs k v)))) (hd : ∀ H, Pv n H → Qd H) :
    ∃ W : Nat → Nat → Hp → Prop, (∃ m, W 0 m (upd H1 D (.dT []))) ∧ ∀ i m H, W i m H → (J.stop i H ∧ Qd H) ∨ (J.go i H ∧ ∃ Nx : Hp → Prop, (∀ H', Nx H' → ∃ m', m' < m ∧ W (i + 1) m' H') ∧ ∀ x H', J.yld i H x H' → g x (wipe σ vs) H' fun σ2 H2 => wipe σ2 vs = wipe σ vs ∧
      tk σ2 H2 fun y H6 => tv σ2 H6 fun v H7 => ∃ (a : Addr) (k : List Key) (kvs : List (List Key × V)), y = .ref a ∧ H7 a = some (.tup (k.map kV)) ∧ H7 D = some (.dT kvs) ∧ kvs.length < sizeLine ∧ Nx (upd H7 D (.dT (putK kvs k v)))) := by
  refine ⟨fun i m H => m = n - i ∧ i ≤ n ∧ Pv i H, ⟨n, by simp, Nat.zero_le _, h0⟩, ?_⟩
  rintro i m H ⟨rfl, hi, p⟩
  have q := hG i H hi p
  by_cases hlt : i < n
  · exact .inr ⟨w.goes i H hlt q, Pv (i + 1), fun H' p' => ⟨n - (i + 1), by omega, rfl, hlt, p'⟩, fun x H' y => hs i x H H' hlt p (w.yields i H x H' hlt q y)⟩
  · have e : i = n := by omega
    subst e
    exact .inl ⟨w.stops H q, hd H p⟩
/-- the outer loop of a list comprehension of two clauses -/
theorem lc2_it (w : Walk J n G Y) {g : TG} {tt : TT} {wi1 : TI} {g1 : TG} {tt1 : TT} {te : TE} {vs vs1 : List Nat} {σ : L2.St} {H1 : Hp} {D : Addr} {Qd : Hp → Prop} (Pv : Nat → Hp → Prop) (h0 : Pv 0 (upd H1 D (.lst []))) (hG : ∀ i H, i ≤ n → Pv i H → G H)
    (hs : ∀ i x H H', i < n → Pv i H → Y i H x H' → g x (wipe σ vs) H' fun σ2 H2 => wipe σ2 vs = wipe σ vs ∧ tt σ2 H2 fun b H3 => if b = true then wi1 σ2 H3 fun J1 H4 => ∃ W1 : Nat → Nat → Hp → Prop, (∃ m, W1 0 m H4) ∧ ∀ j k H, W1 j k H →
      (J1.stop j H ∧ Pv (i + 1) H) ∨ (J1.go j H ∧ ∃ Nx1 : Hp → Prop, (∀ H', Nx1 H' → ∃ k', k' < k ∧ W1 (j + 1) k' H') ∧ ∀ x H', J1.yld j H x H' → g1 x (wipe σ2 vs1) H' fun σ3 H5 => wipe σ3 vs1 = wipe σ2 vs1 ∧ tt1 σ3 H5 fun b H6 =>
        if b = true then te σ3 H6 fun y H7 => ∃ acc, H7 D = some (.lst acc) ∧ acc.length < sizeLine ∧ Nx1 (upd H7 D (.lst (acc ++ [y]))) else Nx1 H6)
      else Pv (i + 1) H3) (hd : ∀ H, Pv n H → Qd H) :
    ∃ W : Nat → Nat → Hp → Prop, (∃ m, W 0 m (upd H1 D (.lst []))) ∧ ∀ i m H, W i m H →
  (J.stop i H ∧ Qd H) ∨ (J.go i H ∧ ∃ Nx : Hp → Prop, (∀ H', Nx H' → ∃ m', m' < m ∧ W (i + 1) m' H') ∧ ∀ x H', J.yld i H x H' → g x (wipe σ vs) H' fun σ2 H2 => wipe σ2 vs = wipe σ vs ∧ tt σ2 H2 fun b H3 =>
    if b = true then wi1 σ2 H3 fun J1 H4 => ∃ W1 : Nat → Nat → Hp → Prop, (∃ m, W1 0 m H4) ∧ ∀ j k H, W1 j k H →
      (J1.stop j H ∧ Nx H) ∨ (J1.go j H ∧ ∃ Nx1 : Hp → Prop, (∀ H', Nx1 H' → ∃ k', k' < k ∧ W1 (j + 1) k' H') ∧ ∀ x H', J1.yld j H x H' → g1 x (wipe σ2 vs1) H' fun σ3 H5 => wipe σ3 vs1 = wipe σ2 vs1 ∧ tt1 σ3 H5 fun b H6 =>
        if b = true then te σ3 H6 fun y H7 => ∃ acc, H7 D = some (.lst acc) ∧ acc.length < sizeLine ∧ Nx1 (upd H7 D (.lst (acc ++ [y]))) else Nx1 H6)
    else Nx H3) := by
  refine ⟨fun i m H => m = n - i ∧ i ≤ n ∧ Pv i H, ⟨n, by simp, Nat.zero_le _, h0⟩, ?_⟩
  rintro i m H ⟨rfl, hi, p⟩
  have q := hG i H hi p
  by_cases hlt : i < n
  · exact .inr ⟨w.goes i H hlt q, Pv (i + 1), fun H' p' => ⟨n - (i + 1), by omega, rfl, hlt, p'⟩, fun x H' y => hs i x H H' hlt p (w.yields i H x H' hlt q y)⟩
  · have e : i = n := by omega
    subst e
    exact .inl ⟨w.stops H q, hd H p⟩
/-- its inner loop -/
theorem lc2_in (w : Walk J1 n1 G1 Y1) {g1 : TG} {tt1 : TT} {te : TE} {vs1 : List Nat} {σ : L2.St} {H4 : Hp} {D : Addr} {Nx : Hp → Prop} (Pv : Nat → Hp → Prop) (h0 : Pv 0 H4) (hG : ∀ i H, i ≤ n1 → Pv i H → G1 H)
    (hs : ∀ j x H H', j < n1 → Pv j H → Y1 j H x H' → g1 x (wipe σ vs1) H' fun σ3 H5 => wipe σ3 vs1 = wipe σ vs1 ∧ tt1 σ3 H5 fun b H6 =>
        if b = true then te σ3 H6 fun y H7 => ∃ acc, H7 D = some (.lst acc) ∧ acc.length < sizeLine ∧ Pv (j + 1) (upd H7 D (.lst (acc ++ [y]))) else Pv (j + 1) H6) (hd : ∀ H, Pv n1 H → Nx H) :
    ∃ W1 : Nat → Nat → Hp → Prop, (∃ m, W1 0 m H4) ∧ ∀ j k H, W1 j k H →
      (J1.stop j H ∧ Nx H) ∨ (J1.go j H ∧ ∃ Nx1 : Hp → Prop, (∀ H', Nx1 H' → ∃ k', k' < k ∧ W1 (j + 1) k' H') ∧ ∀ x H', J1.yld j H x H' → g1 x (wipe σ vs1) H' fun σ3 H5 => wipe σ3 vs1 = wipe σ vs1 ∧ tt1 σ3 H5 fun b H6 =>
        if b = true then te σ3 H6 fun y H7 => ∃ acc, H7 D = some (.lst acc) ∧ acc.length < sizeLine ∧ Nx1 (upd H7 D (.lst (acc ++ [y]))) else Nx1 H6) := by
  refine ⟨fun i m H => m = n1 - i ∧ i ≤ n1 ∧ Pv i H, ⟨n1, by simp, Nat.zero_le _, h0⟩, ?_⟩
  rintro i m H ⟨rfl, hi, p⟩
  have q := hG i H hi p
  by_cases hlt : i < n1
  · exact .inr ⟨w.goes i H hlt q, Pv (i + 1), fun H' p' => ⟨n1 - (i + 1), by omega, rfl, hlt, p'⟩, fun x H' y => hs i x H H' hlt p (w.yields i H x H' hlt q y)⟩
  · have e : i = n1 := by omega
    subst e
    exact .inl ⟨w.stops H q, hd H p⟩
end
theorem yes_if {σ : L2.St} {H : Hp} {A B : Hp → Prop} (h : A H) : tYes σ H (fun b H3 => if b = true then A H3 else B H3) := by
  dsimp only [tYes]
  rw [if_pos rfl]
  exact h
theorem kit_any1 {K : PySem.W.Frag} {t c : Value} {r : List Value} (h : PySem.W.kitOne K t c = some true) : PySem.W.kitAny K t (c :: r) = some true := by
  unfold PySem.W.kitAny
  rw [h]
theorem put_in {kvs : List (DK × V)} {k : DK} {v : V} {e : DK × V} (h : e ∈ putK kvs k v) : e = (k, v) ∨ (e ∈ kvs ∧ e.1 ≠ k) := by
  unfold putK at h
  split at h
  · obtain ⟨f, hf, e1⟩ := List.mem_map.mp h
    by_cases z : f.1 = k
    · rw [if_pos z] at e1
      left
      rw [← e1, z]
    · rw [if_neg z] at e1
      right
      rw [← e1]
      exact ⟨hf, z⟩
  · rename_i no
    rcases List.mem_append.mp h with h | h
    · right
      refine ⟨h, fun z => no ?_⟩
      exact List.any_eq_true.mpr ⟨e, h, decide_eq_true z⟩
    · left
      exact List.mem_singleton.mp h
open Classical in
theorem put_keys {kvs : List (DK × V)} {k : DK} {v : V} : (putK kvs k v).map (fun e => e.1) = if k ∈ kvs.map (fun e => e.1) then kvs.map (fun e => e.1) else kvs.map (fun e => e.1) ++ [k] := by
  have iff : (kvs.any fun kv => decide (kv.1 = k)) = true ↔ k ∈ kvs.map (fun e => e.1) := by
    rw [List.any_eq_true, List.mem_map]
    exact ⟨fun ⟨e, h1, h2⟩ => ⟨e, h1, of_decide_eq_true h2⟩, fun ⟨e, h1, h2⟩ => ⟨e, h1, decide_eq_true h2⟩⟩
  unfold putK
  by_cases h : k ∈ kvs.map (fun e => e.1)
  · rw [if_pos (iff.mpr h), if_pos h, List.map_map]
    apply List.map_congr_left
    intro e _
    show (if e.1 = k then (e.1, v) else e).1 = e.1
    split <;> rfl
  · rw [if_neg (fun z => h (iff.mp z)), if_neg h, List.map_append]
    rfl
theorem put_nodup {kvs : List (DK × V)} {k : DK} {v : V} (h : (kvs.map fun e => e.1).Nodup) : ((putK kvs k v).map fun e => e.1).Nodup := by
  rw [put_keys]
  split
  · exact h
  · rename_i no
    rw [List.nodup_append]
    refine ⟨h, by simp, fun a ha b hb z => no ?_⟩
    rw [List.mem_singleton.mp hb] at z
    rw [← z]
    exact ha
theorem val_in {kvs : List (DK × V)} {k : DK} (h : k ∈ kvs.map fun e => e.1) : ∃ v, valV kvs k = some v ∧ (k, v) ∈ kvs := by
  obtain ⟨e, he, hk⟩ := List.mem_map.mp h
  unfold valV
  cases z : kvs.find? fun kv => decide (kv.1 = k) with
  | none =>
    have y := List.find?_eq_none.mp z e he
    exact absurd (decide_eq_true hk) y
  | some f =>
    have y := List.find?_some z
    have y : f.1 = k := of_decide_eq_true y
    refine ⟨f.2, rfl, ?_⟩
    rw [← y]
    exact List.mem_of_find?_eq_some z
theorem val_no {kvs : List (DK × V)} {k : DK} (h : k ∉ kvs.map fun e => e.1) : valV kvs k = none := by
  unfold valV
  cases z : kvs.find? fun kv => decide (kv.1 = k) with
  | none => rfl
  | some f =>
    have y := List.find?_some z
    have y : f.1 = k := of_decide_eq_true y
    exact absurd (List.mem_map.mpr ⟨f, List.mem_of_find?_eq_some z, y⟩) h
theorem val_some {kvs : List (DK × V)} {k : DK} : (valV kvs k).isSome = true ↔ k ∈ kvs.map fun e => e.1 := by
  by_cases h : k ∈ kvs.map fun e => e.1
  · obtain ⟨v, e, _⟩ := val_in h
    rw [e]
    exact ⟨fun _ => h, fun _ => rfl⟩
  · rw [val_no h]
    exact Iff.intro (fun z => Bool.noConfusion z) (fun z => absurd z h)
end VS

set_option Elab.async false
set_option linter.all false
set_option maxRecDepth 100000
set_option maxHeartbeats 4000000
namespace VS
open PySem PySem.Spec PyProof.Rows L2 MS K01
section
variable {X : Cx}
/-! ### xs == [] -/
def rEqNil (K : PySem.W.Frag) : R2 := fun x y H Q => ∃ (a b : Addr) (xs : List V), x = .ref a ∧ y = .ref b ∧ SqL K H a xs ∧ SqL K H b [] ∧ Q (.bl xs.isEmpty) H
theorem op_eqNil {K : PySem.W.Frag} (hK : X.K = K) (hu : X.A.units < cLine) : OpR X (compareOp .Eq) (rEqNil K) := by
  subst hK
  intro pins s σ H x y v u Q I rx ry h
  obtain ⟨a, b, xs, rfl, rfl, ha, hb, q⟩ := h
  cases rx
  cases ry
  obtain ⟨its, r1, p1, _⟩ := I.list ha
  obtain ⟨its2, r2, p2, _⟩ := I.list hb
  cases r2
  obtain ⟨⟨cls, dd, data, sl⟩, n, ho, hc, _, hd⟩ := p1
  obtain ⟨⟨cls2, dd2, data2, sl2⟩, n2, ho2, hc2, _, hd2⟩ := p2
  simp only at hc hd hc2 hd2
  subst hc hd hc2 hd2
  cases r1 with
  | nil =>
    exact richCompare_meets_room (op := .Eq) ⟨_, ho, rfl⟩ ⟨_, ho2, rfl⟩ PySem.F.slot_list_eq PySem.F.entry_list_eq (PySem.F.args_list_eq_2 _ _) (SeqAt.list_eqAt a b _ _ n n2 dd dd2 sl sl2 rfl fun _ => false)
      ⟨ho, ho2, (fun j h1 h2 => absurd h1 (by simp)), (fun z => nomatch z), ⟨.bl _, H, I, rfl, q⟩⟩ hu
  | cons r t =>
    exact richCompare_meets_room (op := .Eq) ⟨_, ho, rfl⟩ ⟨_, ho2, rfl⟩ PySem.F.slot_list_eq PySem.F.entry_list_eq (PySem.F.args_list_eq_2 _ _) (SeqAt.list_eq_lengthsAt a b _ _ n n2 dd dd2 sl sl2 (by simp))
      ⟨ho, ho2, (fun z => nomatch z), ⟨.bl _, H, I, rfl, q⟩⟩ hu
theorem op_neNilK {K : PySem.W.Frag} (hK : X.K = K) (hu : X.A.units < cLine) : OpR X (compareOp .NotEq) (rNeNil K) := by
  subst hK
  exact op_neNil hu
theorem op_neDK {K : PySem.W.Frag} (hK : X.K = K) (hu : X.A.units + 64 < cLine) : OpR X (compareOp .NotEq) (rNeD K) := by
  subst hK
  exact op_neD hu
end
theorem perm_lift {α β : Type} (g : α → β) : ∀ {m l : List β}, m.Perm l → ∀ {L : List α}, L.map g = l → ∃ L' : List α, L'.Perm L ∧ L'.map g = m := by
  intro m l h
  induction h with
  | nil => intro L e; exact ⟨L, .refl _, e⟩
  | cons x _ ih =>
    intro L e
    cases L with
    | nil => cases e
    | cons a L =>
      rw [List.map_cons, List.cons.injEq] at e
      obtain ⟨L', p, e'⟩ := ih e.2
      exact ⟨a :: L', p.cons a, by rw [List.map_cons, e', e.1]⟩
  | swap x y l =>
    intro L e
    match L, e with
    | a :: b :: L, e =>
      simp only [List.map_cons, List.cons.injEq] at e
      exact ⟨b :: a :: L, .swap _ _ _, by rw [List.map_cons, List.map_cons, e.1, e.2.1, e.2.2]⟩
  | trans _ _ ih1 ih2 =>
    intro L e
    obtain ⟨L2, p2, e2⟩ := ih2 e
    obtain ⟨L1, p1, e1⟩ := ih1 e2
    exact ⟨L1, p1.trans p2, e1⟩
end VS

set_option Elab.async false
set_option linter.all false
set_option maxRecDepth 100000
set_option maxHeartbeats 4000000
namespace K01
open PySem PySem.Spec PyProof.Rows L2 MS
def topS (i : Nat) : Stmt := PySem.Challenge.pw_heldhints_k73_whole_joins_in_any_order.main.body.getD i (.Pass ⟨0, 0, 0, 0⟩)
section
variable {P : Program} {w : World} {K : PySem.W.Frag} {mg : PySem.Str → Option Value} {base : Heap} {f : Addr} {fd : FuncData} {k : Nat}
theorem sc_whole : FnScope ["thing"] ["thing"] (defScope (topS 3)) := ⟨rfl, rfl, rfl, by decide +kernel, rfl, by decide +kernel, by decide +kernel⟩
theorem ok_whole (B : Bt mg) (F : Fun K "is_whole" "is_whole" (topS 3) f fd) : FnOk P w K mg base CX0 (k + 1) f fd ["thing"] (spWhole K) := by
  refine F.ok sc_whole (fun vs H Q E h => ?_) (fun cdv A outer s H vs Q E hr h => ?_)
  · obtain ⟨v, d, rfl, _⟩ := h; rfl
  · obtain ⟨v, d, rfl, hd, q⟩ := h
    refine ⟨_, pss_one (ps_ret (pe_and (pe_callB call_isi (by rfl) B.isi boot_isinstance (pa_cons (pv 0) (pa_cons (pe_bltn (v := .ty "int") (by rfl) B.int (by decide +kernel) rfl) pa_nil)))
      (pe_one (pe_not (pe_callB call_isi (by rfl) B.isi boot_isinstance (pa_cons (pv 0) (pa_cons (pe_bltn (v := .ty "bool") (by rfl) B.bool (by decide +kernel) rfl) pa_nil))))))), ?_⟩
    have ty := tyx_of hd
    refine ⟨v, rfl, v, .ty "int", _, _, _, rfl, .ty "int", ty, kit_ty (kb_int d), _, rfl, ?_⟩
    cases d with
    | int i => exact iteT ⟨v, rfl, v, .ty "bool", _, _, _, rfl, .ty "bool", ty, kit_ty (kb_bool _), _, rfl, q⟩
    | bool b => exact iteT ⟨v, rfl, v, .ty "bool", _, _, _, rfl, .ty "bool", ty, kit_ty (kb_bool _), _, rfl, q⟩
    | _ => exact iteF q
theorem sc_word : FnScope ["thing", "letter"] ["thing"] (defScope (topS 4)) := ⟨rfl, rfl, rfl, by decide +kernel, rfl, by decide +kernel, by decide +kernel⟩
theorem ok_word (B : Bt mg) (gL : ∃ t, mg "LETTERS" = some (.str letters t)) (gM : ∃ t, mg "LONGEST_WORD" = some (.int 6 t)) (F : Fun K "is_word" "is_word" (topS 4) f fd) : FnOk P w K mg base CX0 (k + 1) f fd ["thing"] (spWord K) := by
  obtain ⟨tL, gL⟩ := gL
  obtain ⟨tM, gM⟩ := gM
  refine F.ok sc_word (fun vs H Q E h => ?_) (fun cdv A outer s H vs Q E hr h => ?_)
  · obtain ⟨v, d, rfl, _⟩ := h; rfl
  · obtain ⟨v, d, rfl, hd, q⟩ := h
    refine ⟨_, pss_cons (ps_if (PW.pt (pw_or (pt_not (pt_val (pe_callB call_isi (by rfl) B.isi boot_isinstance (pa_cons (pv 0) (pa_cons (pe_bltn (v := .ty "str") (by rfl) B.str (by decide +kernel) rfl) pa_nil)))))
        (pw_or1 (pt_not (pt_chain op_le op_le pe_int (pe_callB call_len_str (by rfl) B.len PySem.boot_len (pa_cons (pv 0) pa_nil)) (pe_glob (v := .int 6) (by rfl) gM ⟨_, rfl⟩)))))) (pss_one (ps_ret pe_bl)) pss_nil)
      (pss_one (ps_ret (pe_callB (cr_all (by rfl)) (by rfl) B.all boot_all (pa_cons (pe_lc (own := [("letter", 1)]) (g := gName 1) (tt := tYes) (by rfl) sc_word.nd (pi_str (pv 0)) (blkOk_by (own := [("letter", 1)]) (N := ["thing", "letter"]) (sc := defScope (topS 4)) (by decide +kernel))
        (fun _ _ _ _ _ => pg_name (i := 1) sc_word.nd rfl (Or.inl rfl)) (fun _ _ _ _ _ => pts_nil) (fun _ _ _ _ _ => pe_cmpR op_in_sign (pv 1) (pe_glob (v := .str letters) (by rfl) gL ⟨_, rfl⟩) (by rfl))) pa_nil)))), ?_⟩
    have ty := tyx_of hd
    refine ⟨v, rfl, v, .ty "str", _, _, _, rfl, .ty "str", ty, kit_ty (kb_str d), _, rfl, ?_⟩
    have no : ∀ {d : PyData}, (∀ x, d ≠ .str x) → dWord d = false := fun {d} z => by cases d <;> first | rfl | exact absurd rfl (z _)
    cases d with
    | str x =>
      have hv : v = .str x := by
        rcases hd.2 with z | ⟨_, _, _, z⟩
        · cases z; rfl
        · cases z
      subst hv
      have hx : x.length ≤ 1000 := by
        have z := hd.1
        rw [short] at z
        exact of_decide_eq_true z
      refine iteF ⟨_, rfl, x, rfl, (by rw [sizeLine_eq]; omega), 1, (x.length : Int), rfl, rfl, _, rfl, ?_⟩
      have e1 : decide ((1 : Int) ≤ (x.length : Int)) = decide (1 ≤ x.length) := decide_eq_decide.mpr (by omega)
      have e2 : decide ((x.length : Int) ≤ 6) = decide (x.length ≤ 6) := decide_eq_decide.mpr (by omega)
      have qf : (decide (1 ≤ x.length) && decide (x.length ≤ 6)) = false → Q (.bl false) H := fun z => by
        have y := q H (Same.refl _)
        have e : dWord (.str x) = false := by
          show wordOk x = false
          unfold wordOk
          rw [z]
          rfl
        rw [e] at y
        exact y
      rw [e1]
      by_cases h1 : 1 ≤ x.length
      · rw [decide_eq_true h1]
        refine iteT ⟨_, _, rfl, rfl, _, rfl, ?_⟩
        rw [e2]
        by_cases h2 : x.length ≤ 6
        · rw [decide_eq_true h2]
          refine iteF ⟨_, rfl, x, rfl, fun D hD => lc_it (walk_str (z := x)) (fun i H' => Same H H' ∧ H' D = some (.lst (((x.cps.toList.take i).map fun c => decide (c ∈ letters.cps.toList)).map V.bl))) ⟨(newo hD).1, (newo hD).2⟩ (fun _ _ _ _ => trivial) (fun i y H1 H2 hi hP hy => ?_) (fun H1 hP => ?_)⟩
          · obtain ⟨rfl, c, hc, rfl⟩ := hy
            obtain ⟨sm, hl⟩ := hP
            refine ⟨rfl, ?_⟩
            dsimp only [tYes]
            rw [if_pos rfl]
            have hc' : x.cps.toList[i]? = some c := by rw [Array.getElem?_toList]; exact hc
            refine ⟨_, rfl, c, letters, rfl, rfl, _, hl, ?_, same_but hD sm, ?_⟩
            · rw [List.length_map, List.length_map, List.length_take, sizeLine_eq]
              have : x.cps.toList.length = x.length := rfl
              omega
            · rw [upd_same, take_snoc hc', List.map_append, List.map_append]
              rfl
          · obtain ⟨sm, hl⟩ := hP
            have e0 : x.cps.toList.take x.cps.size = x.cps.toList := List.take_of_length_le (by simp)
            rw [e0] at hl
            refine ⟨D, _, rfl, .inl (.inl hl), ?_⟩
            have y := q H1 sm
            have e : dWord (.str x) = ((x.cps.toList.map fun c => decide (c ∈ letters.cps.toList)).all id) := by
              show wordOk x = _
              unfold wordOk
              rw [decide_eq_true h1, decide_eq_true h2, List.all_map]
              rfl
            rw [e] at y
            exact y
        · rw [decide_eq_false h2]
          exact iteT (qf (by rw [decide_eq_false h2, Bool.and_false]))
      · rw [decide_eq_false h1]
        exact iteF ⟨_, rfl, iteT (qf (by rw [decide_eq_false h1, Bool.false_and]))⟩
    | _ => exact iteT (iteT (q H (Same.refl _)))
theorem sc_ris : FnScope ["row", "one", "other"] ["row"] (defScope (topS 5)) := ⟨rfl, rfl, rfl, by decide +kernel, rfl, by decide +kernel, by decide +kernel⟩
theorem ok_ris (B : Bt mg) (F : Fun K "rises" "rises" (topS 5) f fd) : FnOk P w K mg base CX0 (k + 1) f fd ["row"] (spRis K) := by
  refine F.ok sc_ris (fun vs H Q E h => ?_) (fun cdv A outer s H vs Q E hr h => ?_)
  · obtain ⟨a, ks, rfl, _⟩ := h; rfl
  · obtain ⟨a, ks, rfl, ht, d3, few, q⟩ := h
    obtain ⟨L, hL, dL, rfl⟩ := ht
    refine ⟨_, pss_one (ps_ret (pe_callB (cr_all (by rfl)) (by rfl) B.all boot_all (pa_cons (pe_lc (own := [("one", 1), ("other", 2)]) (g := gTup K 2 (gCons (gName 1) (gCons (gName 2) gNil))) (tt := tYes) (by rfl) sc_ris.nd
      (RZ.pi_zipA (by rfl) B.zip (pa_cons (pv 0) (pa_cons (pe_slice sl_tupA (pv 0) (po_some pe_int) po_none) pa_nil))) (blkOk_by (own := [("one", 1), ("other", 2)]) (N := ["row", "one", "other"]) (sc := defScope (topS 5)) (by decide +kernel))
      (fun _ _ _ _ _ => pg_tup rfl (pgs_cons (pg_name (i := 1) sc_ris.nd rfl (Or.inl rfl)) (pgs_cons (pg_name (i := 2) sc_ris.nd rfl (Or.inl rfl)) pgs_nil))) (fun _ _ _ _ _ => pts_nil) (fun _ _ _ _ _ => pe_cmpR (op_ltDK (K := K) rfl (hu_lt hr)) (pv 1) (pv 2) (nomark _))) pa_nil))), ?_⟩
    rw [List.length_map] at few
    refine ⟨_, rfl, _, rfl, 1, rfl, ?_⟩
    dsimp only [tNoPart]
    refine sl_from (j := min 1 L.length) (by rw [List.length_map]; exact HT.sIx_nat _ _ 1) hL fun b H1 s1 hb => ?_
    have eb : (L.map fun p => V.ref p.1).drop (min 1 L.length) = (L.drop 1).map fun p => V.ref p.1 := by
      rw [List.map_drop]
      cases L with
      | nil => rfl
      | cons p r => simp
    rw [eb] at hb
    have hL1 := same_sqT s1 hL
    refine ⟨a, b, _, _, rfl, .inr ⟨hL1, hb, fun D hD => lc_it (walk_zipT (n := L.length - 1) (xs := L.map fun p => V.ref p.1) (ys := (L.drop 1).map fun p => V.ref p.1) (by rw [List.length_map, List.length_map, List.length_drop]; omega))
      (fun i H' => Same H1 H' ∧ H' D = some (.lst (((List.zipWith dlt (L.map (·.2)) ((L.map (·.2)).drop 1)).take i).map V.bl))) ⟨(newo hD).1, (newo hD).2⟩ (fun i H' _ hP => ⟨same_sqT hP.1 hL1, same_sqT hP.1 hb⟩) (fun i y G1 G2 hi hP hy => ?_) (fun G1 hP => ?_)⟩⟩
    · obtain ⟨T, x, z, rfl, nT, rfl, hx, hz⟩ := hy
      obtain ⟨sm, hl⟩ := hP
      obtain ⟨sT, eT⟩ := newo (o := .tup [x, z]) nT
      have hlt : i < L.length := by omega
      have hlt2 : i + 1 < L.length := by omega
      dsimp only at hx hz
      rw [List.getElem?_map, List.getElem?_eq_getElem hlt] at hx
      rw [List.getElem?_map, List.getElem?_drop, Nat.add_comm 1 i, List.getElem?_eq_getElem hlt2] at hz
      obtain rfl := (Option.some.inj hx).symm
      obtain rfl := (Option.some.inj hz).symm
      refine ⟨T, _, rfl, .inl (.inl eT), rfl, _, _, rfl, _, _, rfl, rfl, rfl, ?_⟩
      dsimp only [tYes]
      rw [if_pos rfl]
      have m1 : L[i] ∈ L := List.getElem_mem hlt
      have m2 : L[i + 1] ∈ L := List.getElem_mem hlt2
      have sG : Same H (upd G1 T (.tup [V.ref L[i].1, V.ref L[i + 1].1])) := s1.trans (sm.trans sT)
      refine ⟨_, rfl, _, rfl, L[i].1, L[i + 1].1, L[i].2, L[i + 1].2, rfl, rfl, d3 _ (List.mem_map_of_mem m1), d3 _ (List.mem_map_of_mem m2), same_sqT sG (dL _ m1), same_sqT sG (dL _ m2), _, sT _ _ hl, ?_, same_but hD (sm.trans sT), ?_⟩
      · rw [List.length_map, List.length_take, List.length_zipWith, List.length_map, sizeLine_eq]
        omega
      · have e : (List.zipWith dlt (L.map (·.2)) ((L.map (·.2)).drop 1))[i]? = some (dlt L[i].2 L[i + 1].2) := by
          rw [List.getElem?_zipWith, List.getElem?_map, List.getElem?_eq_getElem hlt, List.getElem?_drop, Nat.add_comm 1 i, List.getElem?_map, List.getElem?_eq_getElem hlt2]
          rfl
        rw [upd_same, take_snoc e, List.map_append]
        rfl
    · obtain ⟨sm, hl⟩ := hP
      rw [List.take_of_length_le (by rw [List.length_zipWith, List.length_map, List.length_drop, List.length_map]; omega)] at hl
      exact ⟨D, _, rfl, .inl (.inl hl), q G1 (s1.trans sm)⟩
theorem sc_dot : FnScope ND ["thing"] (defScope (topS 8)) := ⟨rfl, rfl, rfl, by decide +kernel, rfl, by decide +kernel, by decide +kernel⟩
theorem ok_dot (B : Bt mg) (gG : ∃ t, mg "GREATEST_NUMBER" = some (.int 1000000000000 t)) (cW : Ca P w K mg base 1 "is_whole" ["thing"] (spWhole K)) (cV : Ca P w K mg base 1 "is_word" ["thing"] (spWord K)) (F : Fun K "is_dot" "is_dot" (topS 8) f fd) : FnOk P w K mg base CX0 2 f fd ["thing"] (spDot K) := by
  obtain ⟨tG, gG⟩ := gG
  refine F.ok sc_dot (fun vs H Q E h => ?_) (fun cdv A outer s H vs Q E hr h => ?_)
  · obtain ⟨v, o, rfl, _⟩ := h; rfl
  · obtain ⟨v, o, rfl, hv, q⟩ := h
    refine ⟨_, pss_cons (ps_if (PW.pt (pw_or (pt_not (pt_val (pe_callB call_isi (by rfl) B.isi boot_isinstance (pa_cons (pv 0) (pa_cons (pe_bltn (v := .ty "tuple") (by rfl) B.tuple (by decide +kernel) rfl) pa_nil)))))
        (pw_or1 (pt_cmpR op_ne (pe_callB call_len_seq (by rfl) B.len PySem.boot_len (pa_cons (pv 0) pa_nil)) pe_int (nomark _))))) (pss_one (ps_ret pe_bl)) pss_nil)
      (pss_cons (ps_asg (pv 0) (pg_tup (by rfl) (pgs_cons (pg_name (i := 1) sc_dot.nd rfl (.inl rfl)) (pgs_cons (pg_name (i := 2) sc_dot.nd rfl (.inl rfl)) (pgs_cons (pg_name (i := 3) sc_dot.nd rfl (.inl rfl)) pgs_nil)))))
      (pss_cons (ps_if (PW.pt (pw_or (pt_not (pt_val (pe_ca cW hr (by rfl) pass0 (pa_cons (pv 1) pa_nil)))) (pw_or (pt_not (pt_val (pe_ca cW hr (by rfl) pass0 (pa_cons (pv 3) pa_nil)))) (pw_or1 (pt_not (pt_val (pe_ca cV hr (by rfl) pass0 (pa_cons (pv 2) pa_nil)))))))) (pss_one (ps_ret pe_bl)) pss_nil)
      (pss_one (ps_ret (pe_and (pe_chain op_le op_le pe_int (pv 1) (pe_glob (v := .int 1000000000000) (by rfl) gG ⟨_, rfl⟩)) (pe_one (pe_cmpR op_ge (pv 3) pe_int (nomark _)))))))), ?_⟩
    cases hv with
    | no ty b => exact ⟨v, rfl, v, .ty "tuple", _, _, _, rfl, .ty "tuple", ty, kit_ty b, _, rfl, iteT (iteT (q H (Same.refl _)))⟩
    | @tup a xs ds hx hp =>
      refine ⟨_, rfl, _, .ty "tuple", _, _, true, rfl, .ty "tuple", tyx_tup hx, kit_ty (by decide +kernel), _, rfl, iteF ⟨_, rfl, a, xs, rfl, .inr hx, rfl, _, rfl, ?_⟩⟩
      by_cases h3 : xs.length = 3
      · rw [decide_eq_true (show V.int (xs.length : Int) = V.int 3 by rw [h3]; rfl)]
        refine iteF ?_
        obtain ⟨x1, x2, x3, d1, d2, d3, rfl, rfl, r1, r2, r3⟩ := len3 hp h3
        · clear h3
          refine ⟨_, rfl, a, _, rfl, hx, rfl, _, _, rfl, _, _, rfl, _, _, rfl, rfl, ?_⟩
          refine ⟨_, rfl, x1, d1, rfl, r1, _, rfl, ?_⟩
          cases h1 : dWh d1 with
          | false =>
            refine iteT (iteT ?_)
            have y := q H (Same.refl _)
            rw [show dotO (some [d1, d2, d3]) = false from dot3_1 h1] at y
            exact y
          | true =>
            refine iteF ⟨_, rfl, x3, d3, rfl, r3, _, rfl, ?_⟩
            cases h3 : dWh d3 with
            | false =>
              refine iteT (iteT ?_)
              have y := q H (Same.refl _)
              rw [show dotO (some [d1, d2, d3]) = false from dot3_3 h3] at y
              exact y
            | true =>
              refine iteF ⟨_, rfl, x2, d2, rfl, r2, fun H1 s1 => ⟨_, rfl, ?_⟩⟩
              cases h2 : dWord d2 with
              | false =>
                refine iteT ?_
                have y := q H1 s1
                rw [show dotO (some [d1, d2, d3]) = false from dot3_2 h2] at y
                exact y
              | true =>
                refine iteF ?_
                obtain ⟨n, rfl⟩ : ∃ n, d1 = .int n := by cases d1 <;> first | exact ⟨_, rfl⟩ | (simp [dWh] at h1)
                obtain ⟨l, rfl⟩ : ∃ n, d3 = .int n := by cases d3 <;> first | exact ⟨_, rfl⟩ | (simp [dWh] at h3)
                obtain ⟨x, rfl⟩ : ∃ n, d2 = .str n := by cases d2 <;> first | exact ⟨_, rfl⟩ | (simp [dWord] at h2)
                have hx1 : x1 = .int n := by
                  rcases r1.2 with z | ⟨_, _, _, z⟩
                  · cases z; rfl
                  · cases z
                have hx3 : x3 = .int l := by
                  rcases r3.2 with z | ⟨_, _, _, z⟩
                  · cases z; rfl
                  · cases z
                subst hx1 hx3
                have y := q H1 s1
                have hw : wordOk x = true := h2
                have ed : dotO (some [.int n, .str x, .int l]) = (decide (1 ≤ n) && decide (n ≤ 1000000000000) && decide (1 ≤ l)) := by
                  show (wordOk x && _) = _
                  rw [hw, Bool.true_and]
                rw [ed] at y
                refine ⟨_, rfl, 1, n, rfl, rfl, _, rfl, ?_⟩
                cases e1 : decide (1 ≤ n) with
                | false =>
                  rw [e1] at y
                  exact iteF ⟨_, rfl, iteF y⟩
                | true =>
                  rw [e1] at y
                  refine iteT ⟨_, _, rfl, rfl, _, rfl, ?_⟩
                  cases e2 : decide (n ≤ 1000000000000) with
                  | false =>
                    rw [e2] at y
                    exact iteF y
                  | true =>
                    rw [e2] at y
                    exact iteT ⟨_, rfl, _, _, rfl, rfl, y⟩
      · rw [decide_eq_false (show ¬ V.int (xs.length : Int) = V.int 3 from fun z => h3 (by have := V.int.inj z; omega))]
        refine iteT ?_
        have y := q H (Same.refl _)
        have e : dotO (some ds) = false := dotO_no (by rw [← plen hp]; exact h3)
        rw [e] at y
        exact y
theorem sc_kn : FnScope ["thing", "dot"] ["thing"] (defScope (topS 9)) := ⟨rfl, rfl, rfl, by decide +kernel, rfl, by decide +kernel, by decide +kernel⟩
theorem ok_kn (B : Bt mg) (cD : Ca P w K mg base 2 "is_dot" ["thing"] (spDot K)) (cR : Ca P w K mg base 1 "rises" ["row"] (spRis K)) (F : Fun K "is_known" "is_known" (topS 9) f fd) : FnOk P w K mg base CX0 3 f fd ["thing"] (spKn K) := by
  refine F.ok sc_kn (fun vs H Q E h => ?_) (fun cdv A outer s H vs Q E hr h => ?_)
  · obtain ⟨v, o, rfl, _⟩ := h; rfl
  · obtain ⟨v, o, rfl, hv, few, q⟩ := h
    refine ⟨_, pss_cons (ps_if (PW.pt (pw_or (pt_not (pt_val (pe_callB call_isi (by rfl) B.isi boot_isinstance (pa_cons (pv 0) (pa_cons (pe_bltn (v := .ty "tuple") (by rfl) B.tuple (by decide +kernel) rfl) pa_nil)))))
        (pw_or1 (pt_not (pt_val (pe_callB (cr_all (by rfl)) (by rfl) B.all boot_all (pa_cons (pe_lc (own := [("dot", 1)]) (g := gName 1) (tt := tYes) (by rfl) sc_kn.nd (pi_tup (pv 0)) (blkOk_by (own := [("dot", 1)]) (N := ["thing", "dot"]) (sc := defScope (topS 9)) (by decide +kernel))
          (fun _ _ _ _ _ => pg_name (i := 1) sc_kn.nd rfl (Or.inl rfl)) (fun _ _ _ _ _ => pts_nil) (fun _ _ _ _ _ => pe_ca cD hr (by rfl) pass0 (pa_cons (pv 1) pa_nil))) pa_nil))))))) (pss_one (ps_ret pe_bl)) pss_nil)
      (pss_one (ps_ret (pe_ca cR (hr.mono (by decide)) (by rfl) pass0 (pa_cons (pv 0) pa_nil)))), ?_⟩
    cases hv with
    | no ty b => exact ⟨v, rfl, v, .ty "tuple", _, _, _, rfl, .ty "tuple", ty, kit_ty b, _, rfl, iteT (iteT (q H (Same.refl _)))⟩
    | @tup a xs ds hx hp =>
      have few := few ds rfl
      have len := plen hp
      refine ⟨_, rfl, _, .ty "tuple", _, _, true, rfl, .ty "tuple", tyx_tup hx, kit_ty (by decide +kernel), _, rfl, iteF ⟨_, rfl, a, rfl, ⟨xs, hx⟩, fun D hD => lc_it (walk_tup (xs := xs)) (fun i H' => Same H H' ∧ H' D = some (.lst (((ds.take i).map dDot).map V.bl))) ⟨(newo hD).1, (newo hD).2⟩ (fun i H' _ hP => same_sqT hP.1 hx) (fun i y G1 G2 hi hP hy => ?_) (fun G1 hP => ?_)⟩⟩
      · obtain ⟨rfl, hy⟩ := hy
        obtain ⟨sm, hl⟩ := hP
        obtain ⟨d, hd, rd⟩ := pget hp hy
        refine ⟨rfl, ?_⟩
        dsimp only [tYes]
        rw [if_pos rfl]
        refine ⟨_, rfl, y, look d, rfl, lk_of (rd.same sm), fun G2 s2 => ⟨_, s2 _ _ hl, ?_, same_but hD (sm.trans s2), ?_⟩⟩
        · rw [List.length_map, List.length_map, List.length_take, sizeLine_eq]
          omega
        · rw [upd_same, take_snoc hd, List.map_append, List.map_append]
          rfl
      · obtain ⟨sm, hl⟩ := hP
        rw [List.take_of_length_le (by omega)] at hl
        refine ⟨D, _, rfl, .inl (.inl hl), _, rfl, ?_⟩
        rw [List.all_map]
        cases al : ds.all dDot with
        | false =>
          have y := q G1 sm
          rw [known_no al] at y
          have al' : ds.all (id ∘ dDot) = false := al
          rw [al']
          exact iteT y
        | true =>
          have al' : ds.all (id ∘ dDot) = true := al
          rw [al']
          refine iteF ?_
          obtain ⟨L, rfl, dL, e1, d3, e2⟩ := dots_of hp al
          refine ⟨_, rfl, a, ds.map keyD, rfl, ⟨L, same_sqT sm hx, dots_same sm dL, e1⟩, ?_, ?_, fun G2 s2 => ?_⟩
          · rw [← e1]
            intro k hk
            obtain ⟨p, hp', rfl⟩ := List.mem_map.mp hk
            exact d3 p hp'
          · rw [List.length_map]
            omega
          · have y := q G2 (sm.trans s2)
            rw [known_yes al] at y
            exact y
theorem sc_tog : FnScope NTG ["some"] (defScope (topS 10)) := ⟨rfl, rfl, rfl, by decide +kernel, rfl, by decide +kernel, by decide +kernel⟩
theorem ok_tog (B : Bt mg) (F : Fun K "together" "together" (topS 10) f fd) : FnOk P w K mg base CX0 (k + 1) f fd ["some"] (spTog K) := by
  refine F.ok sc_tog (fun vs H Q E h => ?_) (fun cdv A outer s H vs Q E hr h => ?_)
  · obtain ⟨l, ts, rfl, _⟩ := h; rfl
  · obtain ⟨l, ts, rfl, hl, ht, d3, few, q⟩ := h
    obtain ⟨Ls, rfl, hLs⟩ := rows_of ts ht
    clear ht
    refine ⟨_, pss_one (ps_ret (pe_callTy call_tuple_of (by rfl) B.tuple boot_tuple (pa_cons (pe_callB (cr_sortMK (K := K) (P := P) (w := w) rfl rfl rfl (by rfl)) (by rfl) B.sorted boot_sorted (pa_cons
      (pe_sc2K (K := K) (P := P) (w := w) rfl rfl rfl (own := [("known", 1), ("dot", 2)]) (vs1 := [2]) (g := gName 1) (g1 := gName 2) (wi1 := iTup K (tVar 1)) (te := tVar 2) (by rfl) sc_tog.nd (hu_1 hr) (pi_list (pv 0))
        (blkOk_by (own := [("known", 1), ("dot", 2)]) (N := NTG) (sc := defScope (topS 10)) (by decide +kernel)) (by decide) (fun _ _ _ _ _ => pg_name (i := 1) sc_tog.nd rfl (Or.inl rfl)) (fun _ _ _ _ _ => pi_tupK rfl (pv 1)) (fun _ _ _ _ _ => pg_name (i := 2) sc_tog.nd rfl (Or.inl rfl)) (fun _ _ _ _ _ => pv 2)) pa_nil)) pa_nil))), ?_⟩
    have tot : (rowsTo Ls Ls.length).length < 63 := by
      have e : (rowsTo Ls Ls.length).length = (allOf (Ls.map fun t => (t.1, t.2.map (·.2)))).length := by
        unfold rowsTo allOf
        rw [List.take_of_length_le (Nat.le_refl _), List.map_map, List.length_flatten, List.length_flatten, List.map_map, List.map_map]
        congr 1
        apply List.map_congr_left
        intro t _
        show t.2.length = (t.2.map (·.2)).length
        rw [List.length_map]
      omega
    have eL : (Ls.map fun t => (t.1, t.2.map (·.2))).map (fun t => V.ref t.1) = Ls.map fun t => V.ref t.1 := by
      rw [List.map_map]
      rfl
    rw [eL] at hl
    refine ⟨_, rfl, l, rfl, ⟨_, hl⟩, fun D hD => ?_⟩
    refine ⟨fun i m H' => m = Ls.length - i ∧ i ≤ Ls.length ∧ Same H H' ∧ ∃ L, H' D = some (MSO P w D L) ∧ Of (rowsTo Ls i) L, ⟨_, rfl, Nat.zero_le _, (newo hD).1, [], (newo hD).2, Of.nil⟩, ?_⟩
    rintro i m H1 ⟨rfl, hi, s1, L, eD, of⟩
    have dotsAt : ∀ {G : Hp} {i : Nat} {L : List MS.Row}, Same H G → (∀ p ∈ L, p ∈ rowsTo Ls i) → Dots K G L := fun sG sub p hp => by
      obtain ⟨t, h1, h2⟩ := rowsTo_mem (sub p hp)
      exact same_sqT sG ((hLs t h1).2 p h2)
    by_cases hlt : i < Ls.length
    · right
      have hg : Ls[i]? = some Ls[i] := List.getElem?_eq_getElem hlt
      have hgm : (Ls.map fun t => V.ref t.1)[i]? = some (V.ref Ls[i].1) := by rw [List.getElem?_map, hg]; rfl
      obtain ⟨ht1, ht2⟩ := hLs _ (List.getElem_mem hlt)
      refine ⟨⟨_, _, s1.seq hl, hgm⟩, fun H' => Same H H' ∧ ∃ L, H' D = some (MSO P w D L) ∧ Of (rowsTo Ls (i + 1)) L, fun H' z => ⟨_, by omega, rfl, hlt, z⟩, fun x H' hy => ?_⟩
      obtain ⟨rfl, hy⟩ := hy
      have hx := hy _ (s1.seq hl)
      rw [hgm] at hx
      obtain rfl := Option.some.inj hx
      refine ⟨rfl, _, rfl, Ls[i].1, rfl, ⟨_, same_sqT s1 ht1⟩, ?_⟩
      generalize Ls[i] = t at ht1 ht2 hg ⊢
      refine ⟨fun j m H' => m = t.2.length - j ∧ j ≤ t.2.length ∧ Same H H' ∧ ∃ L, H' D = some (MSO P w D L) ∧ Of (rowsTo Ls i ++ t.2.take j) L, ⟨_, rfl, Nat.zero_le _, s1, L, eD, by rw [List.take_zero, List.append_nil]; exact of⟩, ?_⟩
      rintro j m H2 ⟨rfl, hj, s2, M, eM, ofM⟩
      by_cases hjt : j < t.2.length
      · right
        have hgj : t.2[j]? = some t.2[j] := List.getElem?_eq_getElem hjt
        have hgjm : (t.2.map fun q => V.ref q.1)[j]? = some (V.ref t.2[j].1) := by rw [List.getElem?_map, hgj]; rfl
        have hd := ht2 _ (List.getElem_mem hjt)
        generalize t.2[j] = p at hgj hgjm hd
        refine ⟨⟨_, _, same_sqT s2 ht1, hgjm⟩, fun H' => Same H H' ∧ ∃ L, H' D = some (MSO P w D L) ∧ Of (rowsTo Ls i ++ t.2.take (j + 1)) L, fun H' z => ⟨_, by omega, rfl, hjt, z⟩, fun x H' hy => ?_⟩
        obtain ⟨rfl, hy⟩ := hy
        have hx := hy _ (same_sqT s2 ht1)
        rw [hgjm] at hx
        obtain rfl := Option.some.inj hx
        have sub : ∀ q ∈ M, q ∈ rowsTo Ls (i + 1) := fun q hq => by
          rw [rowsTo_succ hg]
          rcases List.mem_append.mp (ofM.sub q hq) with z | z
          · exact List.mem_append_left _ z
          · exact List.mem_append_right _ (List.mem_of_mem_take z)
        refine ⟨rfl, _, rfl, p.1, p.2, M, rfl, same_sqT s2 hd, eM, dotsAt s2 sub, ?_, fun M' c1 c2 => ⟨same_but hD s2, M', upd_same, ?_⟩⟩
        · have l1 := ofM.len
          rw [List.length_append, List.length_take] at l1
          have l2 := rowsTo_len (Ls := Ls) (i := i + 1)
          rw [rowsTo_succ hg, List.length_append] at l2
          omega
        · rw [take_snoc hgj, ← List.append_assoc]
          exact ofM.snoc c1 c2
      · left
        have e : j = t.2.length := by omega
        subst e
        refine ⟨⟨_, same_sqT s2 ht1, by rw [List.length_map]; exact Nat.le_refl _⟩, s2, M, eM, ?_⟩
        rw [rowsTo_succ hg]
        rw [List.take_of_length_le (Nat.le_refl _)] at ofM
        exact ofM
    · left
      have e : i = Ls.length := by omega
      subst e
      refine ⟨⟨_, s1.seq hl, by rw [List.length_map]; exact Nat.le_refl _⟩, ?_⟩
      have keyM : ∀ k, k ∈ (rowsTo Ls Ls.length).map (·.2) ↔ k ∈ allOf (Ls.map fun t => (t.1, t.2.map (·.2))) := fun k => by
        unfold rowsTo allOf
        rw [List.take_of_length_le (Nat.le_refl _), List.map_map]
        simp only [List.mem_map, List.mem_flatten]
        constructor
        · rintro ⟨p, ⟨_, ⟨t, ht, rfl⟩, hp⟩, rfl⟩
          exact ⟨_, ⟨t, ht, rfl⟩, List.mem_map_of_mem hp⟩
        · rintro ⟨_, ⟨t, ht, rfl⟩, hk⟩
          obtain ⟨p, hp, rfl⟩ := List.mem_map.mp hk
          exact ⟨p, ⟨_, ⟨t, ht, rfl⟩, hp⟩, rfl⟩
      have dL := dotsAt s1 of.sub
      refine ⟨D, L, rfl, eD, dL, fun p hp => d3 _ ((keyM p.2).mp (List.mem_map_of_mem (of.sub p hp))), fun M r pm nd lM pw nr => ?_⟩
      obtain ⟨s5, e5⟩ := newo (o := .lst (M.map fun q => V.ref q.1)) nr
      generalize upd H1 r (.lst (M.map fun q => V.ref q.1)) = G5 at s5 e5 ⊢
      refine ⟨r, _, rfl, .inl ⟨.inl (.inl e5), fun z nz => ?_⟩⟩
      obtain ⟨s6, e6⟩ := newo (o := .tup (M.map fun q => V.ref q.1)) nz
      generalize upd G5 z (.tup (M.map fun q => V.ref q.1)) = G6 at s6 e6 ⊢
      refine q G6 z (M.map (·.2)) (s1.trans (s5.trans s6)) ⟨M, .inl (.inl e6), fun p hp => same_sqT (s5.trans s6) (dL p (pm.mem_iff.mp hp)), rfl⟩ (asc_of pw nd) (fun k => ?_) (by rw [List.length_map]; exact lM)
      rw [← keyM]
      constructor
      · intro y
        obtain ⟨p, hp, rfl⟩ := List.mem_map.mp y
        exact List.mem_map_of_mem (of.sub p (pm.mem_iff.mp hp))
      · intro y
        obtain ⟨p, hp, rfl⟩ := List.mem_map.mp y
        exact (pm.map (·.2)).mem_iff.mpr (of.all p hp)
abbrev FCut (K : PySem.W.Frag) (f : Addr) (fd : FuncData) : Prop := FunD K "cut" "cut" (defArgs (topS 11)) (defBody (topS 11)) (defScope (topS 11)) [.non] [] f fd
theorem sc_cut : FnScope ["known", "most"] ["known", "most"] (defScope (topS 11)) := ⟨rfl, rfl, rfl, by decide +kernel, rfl, by decide +kernel, by decide +kernel⟩
theorem sc_next : FnScope NNX ["own", "known"] (defScope (topS 12)) := ⟨rfl, rfl, rfl, by decide +kernel, rfl, by decide +kernel, by decide +kernel⟩
theorem ok_next (B : Bt mg) (F : Fun K "next_number" "next_number" (topS 12) f fd) : FnOk P w K mg base CX0 (k + 1) f fd ["own", "known"] (spNext K) := by
  refine F.ok sc_next (fun vs H Q E h => ?_) (fun cdv A outer s H vs Q E hr h => ?_)
  · obtain ⟨n, a, ks, rfl, _⟩ := h; rfl
  · obtain ⟨n, a, ks, rfl, ht, d3, few, q⟩ := h
    obtain ⟨L, hL, dL, rfl⟩ := ht
    refine ⟨_, pss_one (ps_ret (pe_op op_add (pe_callB (cr_max (by rfl)) (by rfl) B.max boot_max (pa_cons (pe_op op_cat (pe_lst (pa_cons (pv 0) pa_nil))
      (pe_lc (own := [("dot", 2)]) (g := gName 2) (tt := tYes) (by rfl) sc_next.nd (pi_tup (pv 1)) (blkOk_by (own := [("dot", 2)]) (N := NNX) (sc := defScope (topS 12)) (by decide +kernel))
        (fun _ _ _ _ _ => pg_name (i := 2) sc_next.nd rfl (Or.inl rfl)) (fun _ _ _ _ _ => pts_nil) (fun _ _ _ _ _ => pe_ix (ix_tupK (K := K) rfl) (pv 2) pe_int (fun _ _ => rfl)))) pa_nil)) pe_int)), ?_⟩
    rw [List.length_map] at few
    refine ⟨_, rfl, (by show 1 ≤ sizeLine; decide), fun l1 nl => ?_⟩
    obtain ⟨s1, e1⟩ := newo (o := .lst [V.int n]) nl
    generalize upd H l1 (.lst [V.int n]) = H1 at s1 e1 ⊢
    have hL1 := same_sqT s1 hL
    refine ⟨_, rfl, a, rfl, ⟨_, hL1⟩, fun D hD => lc_it (walk_tup (K := K) (a := a) (xs := L.map fun q : MS.Row => V.ref q.1)) (fun i H' => Same H1 H' ∧ H' D = some (.lst ((((L.map (·.2)).take i).map fstI).map V.int))) ⟨(newo hD).1, (newo hD).2⟩ (fun i H' _ hP => same_sqT hP.1 hL1) (fun i y G1 G2 hi hP hy => ?_) (fun G1 hP => ?_)⟩
    · obtain ⟨rfl, hy⟩ := hy
      obtain ⟨sm, hl⟩ := hP
      rw [List.length_map] at hi
      rw [List.getElem?_map, List.getElem?_eq_getElem hi] at hy
      obtain rfl := (Option.some.inj hy).symm
      have hm : L[i] ∈ L := List.getElem_mem hi
      have hd := same_sqT (s1.trans sm) (dL _ hm)
      have hk : (L.map (·.2))[i]? = some L[i].2 := by rw [List.getElem?_map, List.getElem?_eq_getElem hi]; rfl
      obtain ⟨u, x, v, ek⟩ := d3 L[i].2 (List.mem_map_of_mem hm)
      refine ⟨rfl, ?_⟩
      dsimp only [tYes]
      rw [if_pos rfl]
      rw [ek] at hd hk
      refine ⟨_, rfl, L[i].1, _, 0, V.int u, rfl, rfl, hd, atI_nat (j := 0) rfl, _, hl, ?_, same_but hD sm, ?_⟩
      · rw [List.length_map, List.length_map, List.length_take, List.length_map, sizeLine_eq]
        omega
      · rw [upd_same, take_snoc hk, List.map_append, List.map_append]
        rfl
    · obtain ⟨sm, hl⟩ := hP
      rw [List.length_map, List.take_of_length_le (by rw [List.length_map]; exact Nat.le_refl _)] at hl
      refine ⟨l1, D, _, _, rfl, rfl, sm _ _ e1, hl, ?_, fun c nc => ?_⟩
      · rw [List.length_map, List.length_map, List.length_map, sizeLine_eq]
        show 1 + L.length ≤ 16777216
        omega
      · obtain ⟨s2, e2⟩ := newo (o := .lst ([V.int n] ++ ((L.map (·.2)).map fstI).map V.int)) nc
        generalize upd G1 c (.lst ([V.int n] ++ ((L.map (·.2)).map fstI).map V.int)) = G2 at s2 e2 ⊢
        refine ⟨c, n :: (L.map fun q : MS.Row => q.2).map fstI, rfl, .inl (.inl e2), by simp, fun m hm hle => ?_⟩
        exact ⟨m, 1, rfl, rfl, q G2 m (s1.trans (sm.trans s2)) ⟨hm, hle⟩⟩
theorem sc_hand : FnScope NHA ["_law_script", "_law_k"] (defScope (topS 31)) := ⟨rfl, rfl, rfl, by decide +kernel, rfl, by decide +kernel, by decide +kernel⟩
theorem ok_hand (B : Bt mg) (F : Fun K "_law_hand" "_law_hand" (topS 31) f fd) : FnOk P w K mg base CX0 (k + 1) f fd ["_law_script", "_law_k"] (spHand K) := by
  refine F.ok sc_hand (fun vs H Q E h => ?_) (fun cdv A outer s H vs Q E hr h => ?_)
  · obtain ⟨a, i, ns, rfl, _⟩ := h; rfl
  · obtain ⟨a, i, ns, rfl, hS, h63, i0, i1, q⟩ := h
    refine ⟨_, pss_cons (ps_set (i := 2) sc_hand.nd rfl (.inl rfl) (pe_ix ix_list (pe_op op_cat (pe_slice sl_list (pv 0) (po_some (pv 1)) (po_some (pe_op op_add (pv 1) pe_int))) (pe_lst (pa_cons pe_int pa_nil))) pe_int (fun _ _ => rfl)))
      (pss_cons (ps_set (i := 3) sc_hand.nd rfl (.inl rfl) (pe_op op_mod (pe_op op_mul (pe_op op_add (pe_op op_add (pe_op op_mod (pv 2) pe_int) (pe_op op_mul pe_int (pv 1))) pe_int) pe_int) pe_int))
      (pss_one (ps_ret (pe_lst (pa_cons (pe_op op_mul (pe_callTy call_int1 (by rfl) B.int boot_int (pa_cons (pe_cmpR op_ge (pv 2) (pe_op op_pow pe_int pe_int) (nomark _)) pa_nil)) (pv 2)) (pa_cons (pv 3) pa_nil)))))), ?_⟩
    refine ⟨_, rfl, _, rfl, i, rfl, _, rfl, _, _, rfl, rfl, _, rfl, a, _, rfl, hS, fun c nc => ?_⟩
    obtain ⟨s1, e1⟩ := newo (o := .lst (cutV (ns.map V.int) (some i) (some (i + 1)))) nc
    have l1 := cutV_length (ns.map V.int) (some i) (some (i + 1))
    rw [List.length_map] at l1
    generalize upd H c (.lst (cutV (ns.map V.int) (some i) (some (i + 1)))) = H1 at s1 e1 ⊢
    refine ⟨(by show 1 ≤ sizeLine; decide), fun d nd => ?_⟩
    obtain ⟨s2, e2⟩ := newo (o := .lst [V.int 0]) nd
    generalize upd H1 d (.lst [V.int 0]) = H2 at s2 e2 ⊢
    refine ⟨c, d, _, _, rfl, rfl, s2 _ _ e1, e2, (by rw [sizeLine_eq]; show _ + 1 ≤ 16777216; omega), fun e ne => ?_⟩
    obtain ⟨s3, e3⟩ := newo (o := .lst (cutV (ns.map V.int) (some i) (some (i + 1)) ++ [V.int 0])) ne
    generalize upd H2 e (.lst (cutV (ns.map V.int) (some i) (some (i + 1)) ++ [V.int 0])) = H3 at s3 e3 ⊢
    obtain ⟨m, hm⟩ := first_int ns (some i) (some (i + 1))
    refine ⟨e, _, 0, _, rfl, rfl, .inl (.inl e3), hm, ?_⟩
    have b1 : 0 ≤ m % 2147483647 := Int.emod_nonneg _ (by decide)
    have b2 : m % 2147483647 < 2147483647 := Int.emod_lt_of_pos _ (by decide)
    refine ⟨_, rfl, m, 2147483647, rfl, rfl, (show (0 : Int) < 2147483647 by decide), _, rfl, 7919, i, rfl, rfl, .inl ⟨by decide, by decide⟩, _, _, rfl, rfl, _, 1, rfl, rfl, _, 48271, rfl, rfl, .inl ⟨by omega, by omega⟩, _, 2147483629, rfl, rfl, (show (0 : Int) < 2147483629 by decide), ?_⟩
    refine ⟨_, rfl, 10, 18, rfl, rfl, ⟨by decide, by decide, by decide⟩, _, _, rfl, rfl, .inr ⟨_, rfl, _, rfl, ?_⟩⟩
    have b3 : 0 ≤ ((m % 2147483647 + 7919 * i + 1) * 48271 % 2147483629) := Int.emod_nonneg _ (by decide)
    have b4 : ((m % 2147483647 + 7919 * i + 1) * 48271 % 2147483629) < 2147483629 := Int.emod_lt_of_pos _ (by decide)
    have ep : (10 : Int) ^ (18 : Int).toNat = 1000000000000000000 := by decide
    rw [ep]
    cases hb : decide ((1000000000000000000 : Int) ≤ m) with
    | true =>
      have hm0 : (1000000000000000000 : Int) ≤ m := of_decide_eq_true hb
      refine ⟨1, m, rfl, rfl, .inl ⟨by decide, by decide⟩, _, rfl, (by show 2 ≤ sizeLine; decide), fun p np => ?_⟩
      obtain ⟨s4, e4⟩ := newo (o := .lst [V.int (1 * m), V.int ((m % 2147483647 + 7919 * i + 1) * 48271 % 2147483629)]) np
      refine q _ p (s1.trans (s2.trans (s3.trans s4))) ?_ ⟨1 * m, ((m % 2147483647 + 7919 * i + 1) * 48271 % 2147483629), e4, by omega, b3, by omega⟩
      cases z : H p with
      | none => rfl
      | some o =>
        rw [s3 _ _ (s2 _ _ (s1 _ _ z))] at np
        cases np
    | false =>
      refine ⟨0, m, rfl, rfl, .inl ⟨by decide, by decide⟩, _, rfl, (by show 2 ≤ sizeLine; decide), fun p np => ?_⟩
      obtain ⟨s4, e4⟩ := newo (o := .lst [V.int (0 * m), V.int ((m % 2147483647 + 7919 * i + 1) * 48271 % 2147483629)]) np
      refine q _ p (s1.trans (s2.trans (s3.trans s4))) ?_ ⟨0 * m, ((m % 2147483647 + 7919 * i + 1) * 48271 % 2147483629), e4, by omega, b3, by omega⟩
      cases z : H p with
      | none => rfl
      | some o =>
        rw [s3 _ _ (s2 _ _ (s1 _ _ z))] at np
        cases np
theorem sc_draw : FnScope NDR ["_law_pool", "_law_size"] (defScope (topS 32)) := ⟨rfl, rfl, rfl, by decide +kernel, rfl, by decide +kernel, by decide +kernel⟩
theorem ok_draw (F : Fun K "_law_draw" "_law_draw" (topS 32) f fd) : FnOk P w K mg base CX0 (k + 1) f fd ["_law_pool", "_law_size"] spDraw := by
  refine F.ok sc_draw (fun vs H Q E h => ?_) (fun cdv A outer s H vs Q E hr h => ?_)
  · obtain ⟨p, n, rfl, _⟩ := h; rfl
  · obtain ⟨p, n, rfl, ⟨x, y, hp, x0, y0, y1⟩, n1, n2, q⟩ := h
    refine ⟨_, pss_cons (ps_if (pt_cmpR op_gt (pe_ix ix_list (pv 0) pe_int (fun _ _ => rfl)) pe_int (nomark _))
        (pss_cons (ps_set (i := 2) sc_draw.nd rfl (.inl rfl) (pe_op op_mod (pe_ix ix_list (pv 0) pe_int (fun _ _ => rfl)) (pv 1)))
        (pss_cons (ps_asg (pe_op op_fdiv (pe_ix ix_list (pv 0) pe_int (fun _ _ => rfl)) (pv 1)) (pg_sub (pv 0) pe_int set_list)) (pss_one (ps_ret (pv 2))))) pss_nil)
      (pss_cons (ps_asg (pe_op op_mod (pe_op op_add (pe_op op_mul (pe_ix ix_list (pv 0) pe_int (fun _ _ => rfl)) pe_int) pe_int) pe_int) (pg_sub (pv 0) pe_int set_list))
      (pss_one (ps_ret (pe_op op_mod (pe_op op_fdiv (pe_op op_mod (pe_op op_mul (pe_ix ix_list (pv 0) pe_int (fun _ _ => rfl)) (pe_ix ix_list (pv 0) pe_int (fun _ _ => rfl))) pe_int) pe_int) (pv 1))))), ?_⟩
    have hS : SqL K H p [.int x, .int y] := .inl (.inl hp)
    have oth : ∀ {o : HO} b, b ≠ p → upd H p o b = H b := fun b hb => upd_ne hb
    refine ⟨_, rfl, p, _, 0, _, rfl, rfl, hS, atI_nat (j := 0) rfl, x, 0, rfl, rfl, _, rfl, ?_⟩
    cases hb : decide ((0 : Int) < x) with
    | true =>
      refine iteT ⟨_, rfl, p, _, 0, _, rfl, rfl, hS, atI_nat (j := 0) rfl, _, rfl, x, n, rfl, rfl, (show (0 : Int) < n by omega), ?_⟩
      refine ⟨_, rfl, p, _, 0, _, rfl, rfl, hS, atI_nat (j := 0) rfl, _, rfl, x, n, rfl, rfl, ⟨by omega, by omega⟩, _, rfl, p, _, 0, 0, rfl, rfl, hp, rfl, _, rfl, ?_⟩
      exact q _ _ Ext.put ⟨x / n, y, upd_same, Int.ediv_nonneg x0 (by omega), y0, y1⟩ oth (Int.emod_nonneg _ (by omega)) (Int.emod_lt_of_pos _ (by omega))
    | false =>
      refine iteF ⟨_, rfl, p, _, 1, _, rfl, rfl, hS, atI_nat (j := 1) rfl, y, 48271, rfl, rfl, .inl ⟨by omega, by omega⟩, _, 11, rfl, rfl, _, 2147483647, rfl, rfl, (show (0 : Int) < 2147483647 by decide), _, rfl, p, _, 1, 1, rfl, rfl, hp, rfl, ?_⟩
      have z0 : 0 ≤ ((y * 48271 + 11) % 2147483647) := Int.emod_nonneg _ (by decide)
      have z1 : ((y * 48271 + 11) % 2147483647) < 2147483647 := Int.emod_lt_of_pos _ (by decide)
      have hp2 : (upd H p (.lst ([V.int x, V.int y].set 1 (V.int ((y * 48271 + 11) % 2147483647))))) p = some (.lst [V.int x, V.int ((y * 48271 + 11) % 2147483647)]) := upd_same
      have hS2 : SqL K (upd H p (.lst ([V.int x, V.int y].set 1 (V.int ((y * 48271 + 11) % 2147483647))))) p [.int x, .int ((y * 48271 + 11) % 2147483647)] := .inl (.inl hp2)
      refine ⟨_, rfl, p, _, 1, _, rfl, rfl, hS2, atI_nat (j := 1) rfl, _, rfl, p, _, 1, _, rfl, rfl, hS2, atI_nat (j := 1) rfl, _, _, rfl, rfl, .inl ⟨by omega, by omega⟩, _, 2147483629, rfl, rfl, (show (0 : Int) < 2147483629 by decide), _, 64, rfl, rfl, ⟨by decide, by decide⟩, _, rfl, _, n, rfl, rfl, (show (0 : Int) < n by omega), ?_⟩
      exact q _ _ Ext.put ⟨x, ((y * 48271 + 11) % 2147483647), upd_same, x0, z0, z1⟩ oth (Int.emod_nonneg _ (by omega)) (Int.emod_lt_of_pos _ (by omega))
theorem cut_mk {K : PySem.W.Frag} {f T : Addr} {o : Obj} {n : Nat} {oc : Value} {od an : Option Addr} {osl : Array (Option Value)} {kV doc pm cdv ct : Value} (l : K.lookup f = some ⟨oc, od, .func (PySem.W.fnOf "cut" "cut" (defArgs (topS 11)) (defBody (topS 11)) (defScope (topS 11)) (.ref T) kV doc pm an cdv ct), osl⟩)
    (c : PySem.W.codeIn K cdv "cut" = true) (k : PySem.W.keepIn K (.ref f) = true) (lT : K.lookup T = some o) (oT : o.data = .seq [Value.none].toArray n) : FCut K f (PySem.W.fnOf "cut" "cut" (defArgs (topS 11)) (defBody (topS 11)) (defScope (topS 11)) (.ref T) kV doc pm an cdv ct) :=
  ⟨⟨oc, od, .ref T, kV, doc, pm, an, cdv, ct, osl, rfl, l, c, .inr ⟨by simp, T, o, [.none], n, rfl, lT, oT, .cons rfl .nil⟩, .inl rfl⟩, k⟩
end
end K01

set_option Elab.async false
set_option linter.all false
set_option maxRecDepth 100000
set_option maxHeartbeats 4000000
namespace K01
open PySem PySem.Spec PyProof.Rows L2 MS
/-! ### marks and worths, as data -/
def gone : PySem.Str := "gone"
def mark2 : PyData → PyData → Bool
  | .str x, .int t => decide (x = gone) && decide (0 ≤ t)
  | _, _ => false
def markL : List PyData → Bool
  | [a, b] => mark2 a b
  | _ => false
def markO (o : Option (List PyData)) : Bool := (o.map markL).getD false
def dMark (d : PyData) : Bool := markO (look d)
def dWorth : PyData → Bool
  | .int n => decide (-1000000000 ≤ n) && decide (n ≤ 1000000000)
  | d => dMark d
theorem len2 {α β : Type} {F : α → β → Prop} {xs : List α} {ds : List β} (h : Paired F xs ds) (z : xs.length = 2) : ∃ x1 x2 d1 d2, xs = [x1, x2] ∧ ds = [d1, d2] ∧ F x1 d1 ∧ F x2 d2 := by
  match xs, ds, h, z with
  | [x1, x2], [d1, d2], .cons r1 (.cons r2 .nil), _ => exact ⟨x1, x2, d1, d2, rfl, rfl, r1, r2⟩
theorem markO_no {ds : List PyData} (h : ds.length ≠ 2) : markO (some ds) = false := by
  match ds, h with
  | [], _ => rfl
  | [_], _ => rfl
  | [_, _], l => exact absurd rfl l
  | _ :: _ :: _ :: _, _ => rfl
theorem mark_2 {a b : PyData} (h : dWh b = false) : markL [a, b] = false := by
  cases a with
  | str x =>
    cases b with
    | int t => exact absurd h (by simp [dWh])
    | _ => rfl
  | _ => rfl
section
variable {P : Program} {w : World} {K : PySem.W.Frag} {mg : PySem.Str → Option Value} {base : Heap} {f : Addr} {fd : FuncData} {k : Nat}
def spMark (K : PySem.W.Frag) : Sp := fun vs H Q _ => ∃ (v : V) (o : Option (List PyData)), vs = [v] ∧ Lk K H v o ∧ Q (.bl (markO o)) H
abbrev NMK : List PySem.Str := ["thing", "word", "time"]
theorem sc_mark : FnScope NMK ["thing"] (defScope (topS 20)) := ⟨rfl, rfl, rfl, by decide +kernel, rfl, by decide +kernel, by decide +kernel⟩
theorem ok_mark (B : Bt mg) (gG : ∃ t, mg "GONE" = some (.str gone t)) (cW : Ca P w K mg base 1 "is_whole" ["thing"] (spWhole K)) (F : Fun K "is_mark" "is_mark" (topS 20) f fd) : FnOk P w K mg base CX0 2 f fd ["thing"] (spMark K) := by
  obtain ⟨tG, gG⟩ := gG
  refine F.ok sc_mark (fun vs H Q E h => ?_) (fun cdv A outer s H vs Q E hr h => ?_)
  · obtain ⟨v, o, rfl, _⟩ := h; rfl
  · obtain ⟨v, o, rfl, hv, q⟩ := h
    refine ⟨_, pss_cons (ps_if (PW.pt (pw_or (pt_not (pt_val (pe_callB call_isi (by rfl) B.isi boot_isinstance (pa_cons (pv 0) (pa_cons (pe_bltn (v := .ty "tuple") (by rfl) B.tuple (by decide +kernel) rfl) pa_nil)))))
        (pw_or1 (pt_cmpR op_ne (pe_callB call_len_seq (by rfl) B.len PySem.boot_len (pa_cons (pv 0) pa_nil)) pe_int (nomark _))))) (pss_one (ps_ret pe_bl)) pss_nil)
      (pss_cons (ps_asg (pv 0) (pg_tup (by rfl) (pgs_cons (pg_name (i := 1) sc_mark.nd rfl (.inl rfl)) (pgs_cons (pg_name (i := 2) sc_mark.nd rfl (.inl rfl)) pgs_nil))))
      (pss_cons (ps_if (PW.pt (pw_or (pt_not (pt_val (pe_callB call_isi (by rfl) B.isi boot_isinstance (pa_cons (pv 1) (pa_cons (pe_bltn (v := .ty "str") (by rfl) B.str (by decide +kernel) rfl) pa_nil))))) (pw_or1 (pt_not (pt_val (pe_ca cW hr (by rfl) pass0 (pa_cons (pv 2) pa_nil))))))) (pss_one (ps_ret pe_bl)) pss_nil)
      (pss_one (ps_ret (pe_and (pe_cmpR op_eq (pv 1) (pe_glob (v := .str gone) (by rfl) gG ⟨_, rfl⟩) (nomark _)) (pe_one (pe_cmpR op_ge (pv 2) pe_int (nomark _)))))))), ?_⟩
    cases hv with
    | no ty b => exact ⟨v, rfl, v, .ty "tuple", _, _, _, rfl, .ty "tuple", ty, kit_ty b, _, rfl, iteT (iteT q)⟩
    | @tup a xs ds hx hp =>
      refine ⟨_, rfl, _, .ty "tuple", _, _, true, rfl, .ty "tuple", tyx_tup hx, kit_ty (by decide +kernel), _, rfl, iteF ⟨_, rfl, a, xs, rfl, .inr hx, rfl, _, rfl, ?_⟩⟩
      by_cases h2 : xs.length = 2
      · rw [decide_eq_true (show V.int (xs.length : Int) = V.int 2 by rw [h2]; rfl)]
        refine iteF ?_
        obtain ⟨x1, x2, d1, d2, rfl, rfl, r1, r2⟩ := len2 hp h2
        clear h2
        have q : Q (.bl (markL [d1, d2])) H := q
        refine ⟨_, rfl, a, _, rfl, hx, rfl, _, _, rfl, _, _, rfl, rfl, ?_⟩
        refine ⟨_, rfl, x1, .ty "str", _, _, _, rfl, .ty "str", tyx_of r1, kit_ty (kb_str d1), _, rfl, ?_⟩
        cases d1 with
        | str x =>
          refine iteF ⟨_, rfl, x2, d2, rfl, r2, _, rfl, ?_⟩
          cases h : dWh d2 with
          | false =>
            rw [mark_2 h] at q
            exact iteT q
          | true =>
            refine iteF ?_
            obtain ⟨t, rfl⟩ : ∃ n, d2 = .int n := by cases d2 <;> first | exact ⟨_, rfl⟩ | (simp [dWh] at h)
            have e1 : x1 = .str x := by
              rcases r1.2 with z | ⟨_, _, _, z⟩
              · cases z; rfl
              · cases z
            have e2 : x2 = .int t := by
              rcases r2.2 with z | ⟨_, _, _, z⟩
              · cases z; rfl
              · cases z
            subst e1 e2
            have q : Q (.bl (decide (x = gone) && decide (0 ≤ t))) H := q
            refine ⟨_, rfl, rfl, _, rfl, ?_⟩
            by_cases e : x = gone
            · subst e
              rw [decide_eq_true rfl]
              rw [decide_eq_true rfl] at q
              exact iteT ⟨_, rfl, _, _, rfl, rfl, q⟩
            · rw [decide_eq_false (fun z => e (V.str.inj z))]
              rw [decide_eq_false e] at q
              exact iteF q
        | _ => exact iteT (iteT q)
      · rw [decide_eq_false (show ¬ V.int (xs.length : Int) = V.int 2 from fun z => h2 (by have := V.int.inj z; omega))]
        refine iteT ?_
        rw [markO_no (ds := ds) (by rw [← plen hp]; exact h2)] at q
        exact q
end
end K01

set_option Elab.async false
set_option linter.all false
set_option maxRecDepth 100000
set_option maxHeartbeats 4000000
namespace K01
open PySem PySem.Spec PyProof.Rows L2 MS
def verL : List PyData → Bool
  | [a, b, c] => dDot a && (knownO (look b) && (dWorth c && !((look b).getD []).any fun z => PyData.eqv z a))
  | _ => false
def verO (o : Option (List PyData)) : Bool := (o.map verL).getD false
theorem hu_65 {k : Nat} {A : Around} (h : Room k A) : A.units + 65 < cLine := by
  have := h.un
  omega
theorem verO_no {ds : List PyData} (h : ds.length ≠ 3) : verO (some ds) = false := by
  match ds, h with
  | [], _ => rfl
  | [_], _ => rfl
  | [_, _], _ => rfl
  | [_, _, _], l => exact absurd rfl l
  | _ :: _ :: _ :: _ :: _, _ => rfl
theorem known_tup {d : PyData} (h : knownO (look d) = true) : ∃ ds, d = .tuple ds ∧ ds.all dDot = true := by
  cases d with
  | tuple ds =>
    have h : (ds.all dDot && _) = true := h
    rw [Bool.and_eq_true] at h
    exact ⟨ds, rfl, h.1⟩
  | _ => exact absurd h (by simp [look, knownO])
theorem rd_dp {K : PySem.W.Frag} {H : Hp} {v : V} {d : PyData} (h : Rd K H v d) (n : ∀ kvs, d ≠ .dict kvs) : Dp K H v d := by
  rcases h.2 with z | ⟨_, _, _, z⟩
  · exact z
  · exact absurd z (n _)
theorem dot_shaped {d : PyData} (h : dDot d = true) : SeqAt.shaped d = true := by
  obtain ⟨c1, c2⟩ := lay_dots (ds := [d]) (by rw [List.all_cons, h]; rfl)
  rw [PyData.canLayAll0, Bool.and_eq_true] at c1
  rw [PyData.depthAll] at c2
  unfold SeqAt.shaped
  rw [c1.1, Bool.true_and]
  exact decide_eq_true (by omega)
section
variable {P : Program} {w : World} {K : PySem.W.Frag} {mg : PySem.Str → Option Value} {base : Heap} {f : Addr} {fd : FuncData} {k : Nat}
def spWorth (K : PySem.W.Frag) : Sp := fun vs H Q _ => ∃ (v : V) (d : PyData), vs = [v] ∧ Rd K H v d ∧ Q (.bl (dWorth d)) H
theorem sc_worth : FnScope ["thing"] ["thing"] (defScope (topS 21)) := ⟨rfl, rfl, rfl, by decide +kernel, rfl, by decide +kernel, by decide +kernel⟩
theorem ok_worth (gG : ∃ t, mg "GREATEST_WORTH" = some (.int 1000000000 t)) (cW : Ca P w K mg base 1 "is_whole" ["thing"] (spWhole K)) (cM : Ca P w K mg base 2 "is_mark" ["thing"] (spMark K)) (F : Fun K "is_worth" "is_worth" (topS 21) f fd) : FnOk P w K mg base CX0 3 f fd ["thing"] (spWorth K) := by
  obtain ⟨tG, gG⟩ := gG
  refine F.ok sc_worth (fun vs H Q E h => ?_) (fun cdv A outer s H vs Q E hr h => ?_)
  · obtain ⟨v, d, rfl, _⟩ := h; rfl
  · obtain ⟨v, d, rfl, hd, q⟩ := h
    refine ⟨_, pss_cons (ps_if (pt_val (pe_ca cW (hr.mono (by decide)) (by rfl) pass0 (pa_cons (pv 0) pa_nil))) (pss_one (ps_ret (pe_chain op_le op_le (pe_un un_neg (pe_glob (v := .int 1000000000) (by rfl) gG ⟨_, rfl⟩)) (pv 0) (pe_glob (v := .int 1000000000) (by rfl) gG ⟨_, rfl⟩)))) pss_nil)
      (pss_one (ps_ret (pe_ca cM hr (by rfl) pass0 (pa_cons (pv 0) pa_nil)))), ?_⟩
    refine ⟨_, rfl, v, d, rfl, hd, _, rfl, ?_⟩
    have lk := lk_of hd
    cases d with
    | int n =>
      have hv : v = .int n := by
        rcases hd.2 with z | ⟨_, _, _, z⟩
        · cases z; rfl
        · cases z
      subst hv
      have q : Q (.bl (decide (-1000000000 ≤ n) && decide (n ≤ 1000000000))) H := q
      refine iteT ⟨1000000000, rfl, _, rfl, _, n, rfl, rfl, _, rfl, ?_⟩
      cases e1 : decide (-1000000000 ≤ n) with
      | false =>
        rw [e1] at q
        exact iteF q
      | true =>
        rw [e1] at q
        exact iteT ⟨_, _, rfl, rfl, q⟩
    | _ => exact iteF ⟨_, rfl, v, _, rfl, lk, q⟩
def spVer (K : PySem.W.Frag) : Sp := fun vs H Q _ => ∃ (v : V) (o : Option (List PyData)), vs = [v] ∧ Lk K H v o ∧ (∀ ds d es, o = some ds → d ∈ ds → look d = some es → es.length < 64) ∧ ∀ H', Same H H' → Q (.bl (verO o)) H'
abbrev NVR : List PySem.Str := ["thing", "dot", "known", "worth"]
theorem sc_ver : FnScope NVR ["thing"] (defScope (topS 22)) := ⟨rfl, rfl, rfl, by decide +kernel, rfl, by decide +kernel, by decide +kernel⟩
theorem ok_ver (B : Bt mg) (cD : Ca P w K mg base 2 "is_dot" ["thing"] (spDot K)) (cK : Ca P w K mg base 3 "is_known" ["thing"] (spKn K)) (cW : Ca P w K mg base 3 "is_worth" ["thing"] (spWorth K)) (F : Fun K "is_version" "is_version" (topS 22) f fd) : FnOk P w K mg base CX0 4 f fd ["thing"] (spVer K) := by
  refine F.ok sc_ver (fun vs H Q E h => ?_) (fun cdv A outer s H vs Q E hr h => ?_)
  · obtain ⟨v, o, rfl, _⟩ := h; rfl
  · obtain ⟨v, o, rfl, hv, few, q⟩ := h
    refine ⟨_, pss_cons (ps_if (PW.pt (pw_or (pt_not (pt_val (pe_callB call_isi (by rfl) B.isi boot_isinstance (pa_cons (pv 0) (pa_cons (pe_bltn (v := .ty "tuple") (by rfl) B.tuple (by decide +kernel) rfl) pa_nil)))))
        (pw_or1 (pt_cmpR op_ne (pe_callB call_len_seq (by rfl) B.len PySem.boot_len (pa_cons (pv 0) pa_nil)) pe_int (nomark _))))) (pss_one (ps_ret pe_bl)) pss_nil)
      (pss_cons (ps_asg (pv 0) (pg_tup (by rfl) (pgs_cons (pg_name (i := 1) sc_ver.nd rfl (.inl rfl)) (pgs_cons (pg_name (i := 2) sc_ver.nd rfl (.inl rfl)) (pgs_cons (pg_name (i := 3) sc_ver.nd rfl (.inl rfl)) pgs_nil)))))
      (pss_cons (ps_if (PW.pt (pw_or (pt_not (pt_val (pe_ca cD (hr.mono (by decide)) (by rfl) pass0 (pa_cons (pv 1) pa_nil)))) (pw_or (pt_not (pt_val (pe_ca cK hr (by rfl) pass0 (pa_cons (pv 2) pa_nil)))) (pw_or1 (pt_not (pt_val (pe_ca cW hr (by rfl) pass0 (pa_cons (pv 3) pa_nil)))))))) (pss_one (ps_ret pe_bl)) pss_nil)
      (pss_one (ps_ret (pe_cmpR (VS.op_notInDT (K := K) rfl (hu_65 hr)) (pv 1) (pv 2) (by rfl)))))), ?_⟩
    cases hv with
    | no ty b => exact ⟨v, rfl, v, .ty "tuple", _, _, _, rfl, .ty "tuple", ty, kit_ty b, _, rfl, iteT (iteT (q H (Same.refl _)))⟩
    | @tup a xs ds hx hp =>
      refine ⟨_, rfl, _, .ty "tuple", _, _, true, rfl, .ty "tuple", tyx_tup hx, kit_ty (by decide +kernel), _, rfl, iteF ⟨_, rfl, a, xs, rfl, .inr hx, rfl, _, rfl, ?_⟩⟩
      by_cases h3 : xs.length = 3
      · rw [decide_eq_true (show V.int (xs.length : Int) = V.int 3 by rw [h3]; rfl)]
        refine iteF ?_
        obtain ⟨x1, x2, x3, d1, d2, d3, rfl, rfl, r1, r2, r3⟩ := len3 hp h3
        clear h3
        have q : ∀ H', Same H H' → Q (.bl (dDot d1 && (knownO (look d2) && (dWorth d3 && !((look d2).getD []).any fun z => PyData.eqv z d1)))) H' := q
        refine ⟨_, rfl, a, _, rfl, hx, rfl, _, _, rfl, _, _, rfl, _, _, rfl, rfl, ?_⟩
        refine ⟨_, rfl, x1, look d1, rfl, lk_of r1, fun H1 s1 => ⟨_, rfl, ?_⟩⟩
        change if (!dDot d1) = true then _ else _
        cases h1 : dDot d1 with
        | false =>
          rw [h1] at q
          exact iteT (iteT (q H1 s1))
        | true =>
          rw [h1] at q
          refine iteF ⟨_, rfl, x2, look d2, rfl, lk_of (r2.same s1), (fun es he => few _ d2 es rfl (by simp) he), fun H2 s2 => ⟨_, rfl, ?_⟩⟩
          cases h2 : knownO (look d2) with
          | false =>
            rw [h2] at q
            exact iteT (iteT (q H2 (s1.trans s2)))
          | true =>
            rw [h2] at q
            refine iteF ⟨_, rfl, x3, d3, rfl, r3.same (s1.trans s2), _, rfl, ?_⟩
            cases h3 : dWorth d3 with
            | false =>
              rw [h3] at q
              exact iteT (q H2 (s1.trans s2))
            | true =>
              rw [h3] at q
              obtain ⟨es, rfl, al⟩ := known_tup h2
              have dp1 : Dp K H2 x1 d1 := rd_dp (r1.same (s1.trans s2)) fun kvs z => by rw [z] at h1; simp [dDot, look, dotO] at h1
              have dp2 : Dp K H2 x2 (.tuple es) := rd_dp (r2.same (s1.trans s2)) fun kvs z => by cases z
              refine iteF ⟨_, rfl, _, rfl, d1, es, dp1, dp2, dot_shaped h1, shaped_tup al, ?_⟩
              exact q H2 (s1.trans s2)
      · rw [decide_eq_false (show ¬ V.int (xs.length : Int) = V.int 3 from fun z => h3 (by have := V.int.inj z; omega))]
        refine iteT ?_
        have y := q H (Same.refl _)
        rw [verO_no (ds := ds) (by rw [← plen hp]; exact h3)] at y
        exact y
end
end K01

set_option Elab.async false
set_option linter.all false
set_option maxRecDepth 100000
set_option maxHeartbeats 4000000
namespace K01
open PySem PySem.Spec PyProof.Rows L2 MS
/-- dots that stand in the layer's own heap -/
def DotsH (H : Hp) (L : List MS.Row) : Prop := ∀ q ∈ L, H q.1 = some (.tup (q.2.map kV))
theorem DotsH.same {H H' : Hp} {L : List MS.Row} (s : Same H H') (h : DotsH H L) : DotsH H' L := fun q hq => s _ _ (h q hq)
theorem DotsH.dots {K : PySem.W.Frag} {H : Hp} {L : List MS.Row} (h : DotsH H L) : Dots K H L := fun q hq => .inl (.inl (h q hq))
/-- a version: its tuple, its dot, what it knows, its worth -/
structure Ver where
  a : Addr
  d : MS.Row
  kn : Addr
  L : List MS.Row
  wv : V
def VerOk (K : PySem.W.Frag) (H : Hp) (z : Ver) : Prop := SqT K H z.a [.ref z.d.1, .ref z.kn, z.wv] ∧ H z.d.1 = some (.tup (z.d.2.map kV)) ∧ SqT K H z.kn (z.L.map fun q => V.ref q.1) ∧ DotsH H z.L
theorem VerOk.same {K : PySem.W.Frag} {H H' : Hp} {z : Ver} (s : Same H H') (h : VerOk K H z) : VerOk K H' z := ⟨same_sqT s h.1, s _ _ h.2.1, same_sqT s h.2.2.1, h.2.2.2.same s⟩
def knownOf (zs : List Ver) : List DK := (zs.map fun z => z.L.map fun q => q.2).flatten
theorem knownOf_mem {zs : List Ver} {k : DK} : k ∈ knownOf zs ↔ ∃ z ∈ zs, k ∈ z.L.map fun q => q.2 := by
  unfold knownOf
  simp only [List.mem_flatten, List.mem_map]
  constructor
  · rintro ⟨_, ⟨z, hz, rfl⟩, hk⟩
    exact ⟨z, hz, List.mem_map.mp hk⟩
  · rintro ⟨z, hz, hk⟩
    exact ⟨_, ⟨z, hz, rfl⟩, List.mem_map.mpr hk⟩
theorem put_mem {kvs : List (List Key × V)} {k l : DK} {v : V} : l ∈ (putK kvs k v).map (fun e => e.1) ↔ l = k ∨ l ∈ kvs.map (fun e => e.1) := by
  unfold putK
  split
  · rename_i h
    obtain ⟨e, he, hk⟩ := List.any_eq_true.mp h
    have hk : e.1 = k := of_decide_eq_true hk
    have ef : (kvs.map fun kv => if kv.1 = k then (kv.1, v) else kv).map (fun e => e.1) = kvs.map fun e => e.1 := by
      rw [List.map_map]
      apply List.map_congr_left
      intro p _
      show (if p.1 = k then (p.1, v) else p).1 = p.1
      split <;> rfl
    rw [ef]
    constructor
    · exact .inr
    · rintro (z | z)
      · rw [z, ← hk]
        exact List.mem_map_of_mem he
      · exact z
  · rw [List.map_append, List.mem_append, List.map_cons, List.map_nil, List.mem_singleton]
    exact Or.comm
section
variable {P : Program} {w : World} {K : PySem.W.Frag} {mg : PySem.Str → Option Value} {base : Heap} {f : Addr} {fd : FuncData} {k : Nat}
/-! ### all_known -/
def spAk (K : PySem.W.Frag) : Sp := fun vs H Q _ => ∃ (a : Addr) (zs : List Ver), vs = [.ref a] ∧ (SqL K H a (zs.map fun z => V.ref z.a) ∨ SqT K H a (zs.map fun z => V.ref z.a)) ∧ (∀ z ∈ zs, VerOk K H z) ∧ zs.length ≤ 1000 ∧ (∀ z ∈ zs, z.L.length ≤ 1000) ∧
  ∀ H' D kvs, Same H H' → H D = none → H' D = some (.dT kvs) → (∀ k, k ∈ kvs.map (fun e => e.1) ↔ k ∈ knownOf zs) → kvs.length ≤ 1000000 → Q (.ref D) H'
abbrev NAK : List PySem.Str := ["versions", "version", "dot"]
theorem sc_ak : FnScope NAK ["versions"] (defScope (topS 23)) := ⟨rfl, rfl, rfl, by decide +kernel, rfl, by decide +kernel, by decide +kernel⟩
theorem ak_turns {a : Addr} {zs : List Ver} {H : Hp} {Q : VK} {J : It} {D : Addr} (hD : H D = none) (vk : ∀ z ∈ zs, VerOk K H z) (lz : zs.length ≤ 1000) (ll : ∀ z ∈ zs, z.L.length ≤ 1000) (W : Walk J zs.length (fun G => Same H G) (YAt (zs.map fun z => V.ref z.a)))
    (q : ∀ H' kvs, Same H H' → H' D = some (.dT kvs) → (∀ k, k ∈ kvs.map (fun e => e.1) ↔ k ∈ knownOf zs) → kvs.length ≤ 1000000 → Q (.ref D) H') :
    ∃ W : Nat → Nat → Hp → Prop, (∃ m, W 0 m (upd H D (.dT []))) ∧ ∀ i m G, W i m G → (J.stop i G ∧ Q (.ref D) G) ∨ (J.go i G ∧ ∃ Nx : Hp → Prop, (∀ H', Nx H' → ∃ m', m' < m ∧ W (i + 1) m' H') ∧ ∀ x H', J.yld i G x H' → gName 1 x (wipe [some (.ref a), none, none] [1, 2]) H' fun σ2 H2 => wipe σ2 [1, 2] = wipe [some (.ref a), none, none] [1, 2] ∧
      iTup K (tOp (rIxT K) (tVar 1) (tC (.int 1))) σ2 H2 fun J1 H4 => ∃ W1 : Nat → Nat → Hp → Prop, (∃ m, W1 0 m H4) ∧ ∀ j k H, W1 j k H → (J1.stop j H ∧ Nx H) ∨ (J1.go j H ∧ ∃ Nx1 : Hp → Prop, (∀ H', Nx1 H' → ∃ k', k' < k ∧ W1 (j + 1) k' H') ∧ ∀ x H', J1.yld j H x H' →
        gName 2 x (wipe σ2 [2]) H' fun σ3 H5 => wipe σ3 [2] = wipe σ2 [2] ∧ tVar 2 σ3 H5 fun y H6 => tC (.bl true) σ3 H6 fun v H7 => ∃ (a : Addr) (k : List Key) (kvs : List (List Key × V)), y = .ref a ∧ H7 a = some (.tup (k.map kV)) ∧ H7 D = some (.dT kvs) ∧ kvs.length < sizeLine ∧
          Nx1 (upd H7 D (.dT (putK kvs k v))))) := by
  refine ⟨fun i m G => m = zs.length - i ∧ i ≤ zs.length ∧ Same H G ∧ ∃ kvs, G D = some (.dT kvs) ∧ (∀ k, k ∈ kvs.map (fun e => e.1) ↔ k ∈ knownOf (zs.take i)) ∧ kvs.length ≤ 1000 * i, ⟨_, rfl, Nat.zero_le _, (newo hD).1, [], (newo hD).2, (fun k => by simp [knownOf]), Nat.zero_le _⟩, ?_⟩
  rintro i m G ⟨rfl, hi, s1, kvs, eD, mem, lk⟩
  by_cases hlt : i < zs.length
  · right
    have hg : zs[i]? = some zs[i] := List.getElem?_eq_getElem hlt
    have hz := vk _ (List.getElem_mem hlt)
    have hl := ll _ (List.getElem_mem hlt)
    generalize zs[i] = z at hg hz hl
    refine ⟨W.goes i G hlt s1, fun H' => Same H H' ∧ ∃ kvs, H' D = some (.dT kvs) ∧ (∀ k, k ∈ kvs.map (fun e => e.1) ↔ k ∈ knownOf (zs.take (i + 1))) ∧ kvs.length ≤ 1000 * (i + 1), fun H' y => ⟨_, by omega, rfl, hlt, y⟩, fun x H' hy => ?_⟩
    obtain ⟨rfl, hx⟩ := W.yields i G x H' hlt s1 hy
    rw [List.getElem?_map, hg] at hx
    obtain rfl := (Option.some.inj hx).symm
    obtain ⟨v1, v2, v3, v4⟩ := hz
    refine ⟨rfl, V.ref z.a, rfl, z.a, _, 1, V.ref z.kn, rfl, rfl, same_sqT s1 v1, atI_nat (j := 1) rfl, z.kn, rfl, ⟨_, same_sqT s1 v3⟩, ?_⟩
    refine ⟨fun j m G => m = z.L.length - j ∧ j ≤ z.L.length ∧ Same H G ∧ ∃ kvs, G D = some (.dT kvs) ∧ (∀ k, k ∈ kvs.map (fun e => e.1) ↔ k ∈ knownOf (zs.take i) ∨ k ∈ (z.L.take j).map fun q => q.2) ∧ kvs.length ≤ 1000 * i + j, ⟨_, rfl, Nat.zero_le _, s1, kvs, eD, (fun k => by rw [mem k]; simp), lk⟩, ?_⟩
    rintro j m G2 ⟨rfl, hj, s2, kvs2, eD2, mem2, lk2⟩
    by_cases hjt : j < z.L.length
    · right
      have hgj : z.L[j]? = some z.L[j] := List.getElem?_eq_getElem hjt
      have hd := v4 _ (List.getElem_mem hjt)
      generalize z.L[j] = p at hgj hd
      refine ⟨⟨_, V.ref p.1, same_sqT s2 v3, by rw [List.getElem?_map, hgj]; rfl⟩, fun H' => Same H H' ∧ ∃ kvs, H' D = some (.dT kvs) ∧ (∀ k, k ∈ kvs.map (fun e => e.1) ↔ k ∈ knownOf (zs.take i) ∨ k ∈ (z.L.take (j + 1)).map fun q => q.2) ∧ kvs.length ≤ 1000 * i + (j + 1), fun H' y => ⟨_, by omega, rfl, hjt, y⟩, fun x H' hy => ?_⟩
      obtain ⟨rfl, hy⟩ := hy
      have hx := hy _ (same_sqT s2 v3)
      rw [List.getElem?_map, hgj] at hx
      obtain rfl := (Option.some.inj hx).symm
      refine ⟨rfl, V.ref p.1, rfl, p.1, p.2, kvs2, rfl, s2 _ _ hd, eD2, (by rw [sizeLine_eq]; omega), same_but hD s2, _, upd_same, fun k => ?_, (by have := length_putK kvs2 p.2 (V.bl true); omega)⟩
      rw [put_mem, mem2 k, take_snoc hgj, List.map_append, List.mem_append, List.map_cons, List.map_nil, List.mem_singleton]
      constructor
      · rintro (h | h | h)
        · exact .inr (.inr h)
        · exact .inl h
        · exact .inr (.inl h)
      · rintro (h | h | h)
        · exact .inr (.inl h)
        · exact .inr (.inr h)
        · exact .inl h
    · left
      have e : j = z.L.length := by omega
      subst e
      refine ⟨⟨_, same_sqT s2 v3, by rw [List.length_map]; exact Nat.le_refl _⟩, s2, kvs2, eD2, fun k => ?_, by omega⟩
      rw [mem2 k, List.take_of_length_le (Nat.le_refl _), knownOf_mem, knownOf_mem, take_snoc hg]
      constructor
      · rintro (⟨y, hy, h⟩ | h)
        · exact ⟨y, List.mem_append_left _ hy, h⟩
        · exact ⟨z, List.mem_append_right _ (List.mem_singleton.mpr rfl), h⟩
      · rintro ⟨y, hy, h⟩
        rcases List.mem_append.mp hy with hy | hy
        · exact .inl ⟨y, hy, h⟩
        · rw [List.mem_singleton.mp hy] at h
          exact .inr h
  · left
    have e : i = zs.length := by omega
    subst e
    refine ⟨W.stops G s1, q G kvs s1 eD (fun k => ?_) (by omega)⟩
    rw [mem k, List.take_of_length_le (Nat.le_refl _)]
end
end K01

set_option Elab.async false
set_option linter.all false
set_option maxRecDepth 100000
set_option maxHeartbeats 4000000
namespace K01
open PySem PySem.Spec PyProof.Rows L2 MS
section
variable {P : Program} {w : World} {K : PySem.W.Frag} {mg : PySem.Str → Option Value} {base : Heap} {f : Addr} {fd : FuncData} {k : Nat}
theorem ok_ak (F : Fun K "all_known" "all_known" (topS 23) f fd) : FnOk P w K mg base CX0 (k + 1) f fd ["versions"] (spAk K) := by
  refine F.ok sc_ak (fun vs H Q E h => ?_) (fun cdv A outer s H vs Q E hr h => ?_)
  · obtain ⟨a, zs, rfl, _⟩ := h; rfl
  · obtain ⟨a, zs, rfl, hl, vk, lz, ll, q⟩ := h
    refine ⟨_, pss_one (ps_ret (VS.pe_dc2 (own := [("version", 1), ("dot", 2)]) (vs1 := [2]) (g := gName 1) (g1 := gName 2) (wi1 := iTup K (tOp (rIxT K) (tVar 1) (tC (.int 1)))) (tk := tVar 2) (tv := tC (.bl true)) (by rfl) sc_ak.nd (hu_lt hr) (VS.pi_seq (K := K) rfl (pv 0))
      (blkOk_by (own := [("version", 1), ("dot", 2)]) (N := NAK) (sc := defScope (topS 23)) (by decide +kernel)) (by decide) (fun _ _ _ _ _ => pg_name (i := 1) sc_ak.nd rfl (Or.inl rfl)) (fun _ _ _ _ _ => pi_tupK rfl (pe_ix (ix_tupK (K := K) rfl) (pv 1) pe_int (fun _ _ => rfl))) (fun _ _ _ _ _ => pg_name (i := 2) sc_ak.nd rfl (Or.inl rfl)) (fun _ _ _ _ _ => pv 2) (fun _ _ _ _ _ => pe_bl))), ?_⟩
    have len : (zs.map fun z => V.ref z.a).length = zs.length := List.length_map ..
    refine ⟨_, rfl, a, rfl, ?_⟩
    rcases hl with hl | hl
    · refine .inl ⟨⟨_, hl⟩, fun D hD => ak_turns hD vk lz ll ?_ fun H' kvs s e m l => q H' D kvs s hD e m l⟩
      rw [← len]
      exact (walk_list (K := K) (a := a) (xs := zs.map fun z => V.ref z.a)).mono (fun G (s : Same H G) => s.seq hl) fun _ _ _ _ _ _ y => y
    · refine .inr ⟨⟨_, hl⟩, fun D hD => ak_turns hD vk lz ll ?_ fun H' kvs s e m l => q H' D kvs s hD e m l⟩
      rw [← len]
      exact (walk_tup (K := K) (a := a) (xs := zs.map fun z => V.ref z.a)).mono (fun G (s : Same H G) => same_sqT s hl) fun _ _ _ _ _ _ y => y
end
end K01

set_option Elab.async false
set_option linter.all false
set_option maxRecDepth 100000
set_option maxHeartbeats 4000000
namespace VS
open PySem PySem.Spec PyProof.Rows L2 MS K01
theorem sl_listK {X : Cx} {K : PySem.W.Frag} (hK : X.K = K) : SlR X (rSlL K) := by
  subst hK
  exact sl_list
def spRisL (K : PySem.W.Frag) : Sp := fun vs H Q _ => ∃ (a : Addr) (L : List MS.Row), vs = [.ref a] ∧ SqL K H a (L.map fun q => V.ref q.1) ∧ Dots K H L ∧ (∀ k ∈ L.map (fun q => q.2), D3 k) ∧ L.length ≤ 1000 ∧ ∀ H', Same H H' → Q (.bl (ascB (L.map fun q => q.2))) H'
end VS
namespace K01
open PySem PySem.Spec PyProof.Rows L2 MS
section
variable {P : Program} {w : World} {K : PySem.W.Frag} {mg : PySem.Str → Option Value} {base : Heap} {f : Addr} {fd : FuncData} {k : Nat}
theorem ok_risL (B : Bt mg) (F : Fun K "rises" "rises" (topS 5) f fd) : FnOk P w K mg base CX0 (k + 1) f fd ["row"] (VS.spRisL K) := by
  refine F.ok sc_ris (fun vs H Q E h => ?_) (fun cdv A outer s H vs Q E hr h => ?_)
  · obtain ⟨a, L, rfl, _⟩ := h; rfl
  · obtain ⟨a, L, rfl, hL, dL, d3, few, q⟩ := h
    refine ⟨_, pss_one (ps_ret (pe_callB (cr_all (by rfl)) (by rfl) B.all boot_all (pa_cons (pe_lc (own := [("one", 1), ("other", 2)]) (g := gTup K 2 (gCons (gName 1) (gCons (gName 2) gNil))) (tt := tYes) (by rfl) sc_ris.nd
      (RZ.pi_zipA (by rfl) B.zip (pa_cons (pv 0) (pa_cons (pe_slice (VS.sl_listK (K := K) rfl) (pv 0) (po_some pe_int) po_none) pa_nil))) (blkOk_by (own := [("one", 1), ("other", 2)]) (N := ["row", "one", "other"]) (sc := defScope (topS 5)) (by decide +kernel))
      (fun _ _ _ _ _ => pg_tup rfl (pgs_cons (pg_name (i := 1) sc_ris.nd rfl (Or.inl rfl)) (pgs_cons (pg_name (i := 2) sc_ris.nd rfl (Or.inl rfl)) pgs_nil))) (fun _ _ _ _ _ => pts_nil) (fun _ _ _ _ _ => pe_cmpR (op_ltDK (K := K) rfl (hu_lt hr)) (pv 1) (pv 2) (nomark _))) pa_nil))), ?_⟩
    refine ⟨_, rfl, _, rfl, 1, rfl, ?_⟩
    dsimp only [tNoPart]
    refine VS.sl_fromL (j := min 1 L.length) (by rw [List.length_map]; exact HT.sIx_nat _ _ 1) hL fun b H1 s1 hb => ?_
    have eb : (L.map fun p => V.ref p.1).drop (min 1 L.length) = (L.drop 1).map fun p => V.ref p.1 := by
      rw [List.map_drop]
      cases L with
      | nil => rfl
      | cons p r => simp
    rw [eb] at hb
    have hL1 := s1.seq hL
    refine ⟨a, b, _, _, rfl, .inl ⟨hL1, hb, fun D hD => lc_it (walk_zip (n := L.length - 1) (xs := L.map fun p => V.ref p.1) (ys := (L.drop 1).map fun p => V.ref p.1) (by rw [List.length_map, List.length_map, List.length_drop]; omega))
      (fun i H' => Same H1 H' ∧ H' D = some (.lst (((List.zipWith dlt (L.map (·.2)) ((L.map (·.2)).drop 1)).take i).map V.bl))) ⟨(newo hD).1, (newo hD).2⟩ (fun i H' _ hP => ⟨hP.1.seq hL1, hP.1.seq hb⟩) (fun i y G1 G2 hi hP hy => ?_) (fun G1 hP => ?_)⟩⟩
    · obtain ⟨T, x, z, rfl, nT, rfl, hx, hz⟩ := hy
      obtain ⟨sm, hl⟩ := hP
      obtain ⟨sT, eT⟩ := newo (o := .tup [x, z]) nT
      have hlt : i < L.length := by omega
      have hlt2 : i + 1 < L.length := by omega
      dsimp only at hx hz
      rw [List.getElem?_map, List.getElem?_eq_getElem hlt] at hx
      rw [List.getElem?_map, List.getElem?_drop, Nat.add_comm 1 i, List.getElem?_eq_getElem hlt2] at hz
      obtain rfl := (Option.some.inj hx).symm
      obtain rfl := (Option.some.inj hz).symm
      refine ⟨T, _, rfl, .inl (.inl eT), rfl, _, _, rfl, _, _, rfl, rfl, rfl, ?_⟩
      dsimp only [tYes]
      rw [if_pos rfl]
      have m1 : L[i] ∈ L := List.getElem_mem hlt
      have m2 : L[i + 1] ∈ L := List.getElem_mem hlt2
      have sG : Same H (upd G1 T (.tup [V.ref L[i].1, V.ref L[i + 1].1])) := s1.trans (sm.trans sT)
      refine ⟨_, rfl, _, rfl, L[i].1, L[i + 1].1, L[i].2, L[i + 1].2, rfl, rfl, d3 _ (List.mem_map_of_mem m1), d3 _ (List.mem_map_of_mem m2), same_sqT sG (dL _ m1), same_sqT sG (dL _ m2), _, sT _ _ hl, ?_, same_but hD (sm.trans sT), ?_⟩
      · rw [List.length_map, List.length_take, List.length_zipWith, List.length_map, sizeLine_eq]
        omega
      · have e : (List.zipWith dlt (L.map (·.2)) ((L.map (·.2)).drop 1))[i]? = some (dlt L[i].2 L[i + 1].2) := by
          rw [List.getElem?_zipWith, List.getElem?_map, List.getElem?_eq_getElem hlt, List.getElem?_drop, Nat.add_comm 1 i, List.getElem?_map, List.getElem?_eq_getElem hlt2]
          rfl
        rw [upd_same, take_snoc e, List.map_append]
        rfl
    · obtain ⟨sm, hl⟩ := hP
      rw [List.take_of_length_le (by rw [List.length_zipWith, List.length_map, List.length_drop, List.length_map]; omega)] at hl
      exact ⟨D, _, rfl, .inl (.inl hl), q G1 (s1.trans sm)⟩
end
end K01

set_option Elab.async false
set_option linter.all false
set_option maxRecDepth 100000
set_option maxHeartbeats 4000000
namespace K01
open PySem PySem.Spec PyProof.Rows L2 MS
/-- the version's data -/
def vData (z : Ver) (wd : PyData) : List PyData := [dD z.d.2, .tuple ((z.L.map fun q => q.2).map dD), wd]
def VGood (K : PySem.W.Frag) (H : Hp) (z : Ver) : Prop := VerOk K H z ∧ D3 z.d.2 ∧ z.L.length < 64 ∧ ∃ wd, Dp K H z.wv wd ∧ verL (vData z wd) = true ∧ shortAll (vData z wd) = true ∧ (∀ es, look wd = some es → es.length < 64)
theorem VGood.same {K : PySem.W.Frag} {H H' : Hp} {z : Ver} (s : Same H H') (h : VGood K H z) : VGood K H' z := by
  obtain ⟨h1, h2, h3, wd, h4, h5⟩ := h
  exact ⟨h1.same s, h2, h3, wd, dp_same s wd _ h4, h5⟩
theorem VGood.lk {K : PySem.W.Frag} {H : Hp} {z : Ver} (h : VGood K H z) : ∃ ds, Lk K H (.ref z.a) (some ds) ∧ verO (some ds) = true ∧ ∀ d es, d ∈ ds → look d = some es → es.length < 64 := by
  obtain ⟨⟨v1, v2, v3, v4⟩, d3, l64, wd, w1, w2, w3, w4⟩ := h
  refine ⟨vData z wd, .tup v1 (dpAll_rd (.cons (dp_dot (.inl (.inl v2))) (.cons (.tup v3 (dp_dots v4.dots)) (.cons w1 .nil))) w3), w2, fun d es hd he => ?_⟩
  have hd : d = dD z.d.2 ∨ d = .tuple ((z.L.map fun q => q.2).map dD) ∨ d = wd := by simpa [vData] using hd
  rcases hd with rfl | rfl | rfl
  · obtain ⟨n, x, l, e⟩ := d3
    rw [e] at he
    have he : some [PyData.int n, .str x, .int l] = some es := he
    obtain rfl := Option.some.inj he
    exact (by decide : 3 < 64)
  · have he : some ((z.L.map fun q => q.2).map dD) = some es := he
    obtain rfl := Option.some.inj he
    rw [List.length_map, List.length_map]
    exact l64
  · exact w4 es he
/-- no dot of them is known -/
def cellB (zs : List Ver) (kn : List DK) : Prop := Asc (zs.map fun z => z.d.2) ∧ ∀ z ∈ zs, z.d.2 ∉ kn
section
variable {P : Program} {w : World} {K : PySem.W.Frag} {mg : PySem.Str → Option Value} {base : Heap} {f : Addr} {fd : FuncData} {k : Nat}
/-- of a tuple of good versions that is a cell -/
def spCell (K : PySem.W.Frag) : Sp := fun vs H Q _ => ∃ (a : Addr) (zs : List Ver), vs = [.ref a] ∧ SqT K H a (zs.map fun z => V.ref z.a) ∧ (∀ z ∈ zs, VGood K H z) ∧ zs.length ≤ 1000 ∧ cellB zs (knownOf zs) ∧ ∀ H', Same H H' → Q (.bl true) H'
abbrev NCL : List PySem.Str := ["thing", "version", "dots", "known", "dot"]
theorem sc_cell : FnScope NCL ["thing"] (defScope (topS 24)) := ⟨rfl, rfl, rfl, by decide +kernel, rfl, by decide +kernel, by decide +kernel⟩
theorem ok_cell (B : Bt mg) (fAny : mg "any" = none) (cV : Ca P w K mg base 4 "is_version" ["thing"] (spVer K)) (cA : Ca P w K mg base 1 "all_known" ["versions"] (spAk K)) (cR : Ca P w K mg base 1 "rises" ["row"] (VS.spRisL K)) (F : Fun K "is_cell" "is_cell" (topS 24) f fd) : FnOk P w K mg base CX0 5 f fd ["thing"] (spCell K) := by
  refine F.ok sc_cell (fun vs H Q E h => ?_) (fun cdv A outer s H vs Q E hr h => ?_)
  · obtain ⟨a, zs, rfl, _⟩ := h; rfl
  · obtain ⟨a, zs, rfl, hz, vg, lz, ⟨asc, fr⟩, q⟩ := h
    refine ⟨_, pss_cons (ps_if (PW.pt (pw_or (pt_not (pt_val (pe_callB call_isi (by rfl) B.isi boot_isinstance (pa_cons (pv 0) (pa_cons (pe_bltn (v := .ty "tuple") (by rfl) B.tuple (by decide +kernel) rfl) pa_nil)))))
        (pw_or1 (pt_not (pt_val (pe_callB (cr_all (by rfl)) (by rfl) B.all boot_all (pa_cons (pe_lc (own := [("version", 1)]) (g := gName 1) (tt := tYes) (by rfl) sc_cell.nd (pi_tup (pv 0)) (blkOk_by (own := [("version", 1)]) (N := NCL) (sc := defScope (topS 24)) (by decide +kernel))
          (fun _ _ _ _ _ => pg_name (i := 1) sc_cell.nd rfl (Or.inl rfl)) (fun _ _ _ _ _ => pts_nil) (fun _ _ _ _ _ => pe_ca cV hr (by rfl) pass0 (pa_cons (pv 1) pa_nil))) pa_nil))))))) (pss_one (ps_ret pe_bl)) pss_nil)
      (pss_cons (ps_setLc (i := 2) (own := [("version", 1)]) (g := gName 1) (tt := tYes) (by rfl) sc_cell.nd rfl rfl (sw_true rfl rfl rfl (by decide +kernel)) (pi_tup (pv 0)) (blkOk_by (own := [("version", 1)]) (N := NCL) (sc := defScope (topS 24)) (by decide +kernel))
          (fun _ _ _ _ _ => pg_name (i := 1) sc_cell.nd rfl (Or.inl rfl)) (fun _ _ _ _ _ => pts_nil) (fun _ _ _ _ _ => pe_ix (ix_tupK (K := K) rfl) (pv 1) pe_int (fun _ _ => rfl)))
      (pss_cons (ps_set (i := 3) sc_cell.nd rfl (.inr rfl) (pe_ca cA (hr.mono (by decide)) (by rfl) pass0 (pa_cons (pv 0) pa_nil)))
      (pss_one (ps_ret (pe_and (pe_ca cR (hr.mono (by decide)) (by rfl) pass0 (pa_cons (pv 2) pa_nil)) (pe_one (pe_not (pe_callB (cr_any (by rfl)) (by rfl) fAny boot_any (pa_cons (pe_lc (own := [("dot", 4)]) (g := gName 4) (tt := tYes) (by rfl) sc_cell.nd (pi_list (pv 2)) (blkOk_by (own := [("dot", 4)]) (N := NCL) (sc := defScope (topS 24)) (by decide +kernel))
          (fun _ _ _ _ _ => pg_name (i := 4) sc_cell.nd rfl (Or.inl rfl)) (fun _ _ _ _ _ => pts_nil) (fun _ _ _ _ _ => pe_cmp (pc_din (hu_1 hr) (pv 4) (pv 3)))) pa_nil))))))))), ?_⟩
    have pick : ∀ {i : Nat} {y : V}, (zs.map fun z => V.ref z.a)[i]? = some y → ∃ z ∈ zs, zs[i]? = some z ∧ y = V.ref z.a := fun {i y} h => by
      rw [List.getElem?_map] at h
      obtain ⟨z, h1, h2⟩ := Option.map_eq_some_iff.mp h
      exact ⟨z, List.mem_of_getElem? h1, h1, h2.symm⟩
    refine ⟨_, rfl, _, .ty "tuple", _, _, true, rfl, .ty "tuple", tyx_tup hz, kit_ty (by decide +kernel), _, rfl, iteF ⟨_, rfl, a, rfl, ⟨_, hz⟩, fun D hD => lc_it (walk_tup (K := K) (a := a) (xs := zs.map fun z : Ver => V.ref z.a)) (fun i H' => Same H H' ∧ H' D = some (.lst ((List.replicate i true).map V.bl))) ⟨(newo hD).1, (newo hD).2⟩ (fun i H' _ hP => same_sqT hP.1 hz) (fun i y G1 G2 hi hP hy => ?_) (fun G1 hP => ?_)⟩⟩
    · obtain ⟨rfl, hy⟩ := hy
      obtain ⟨sm, hl⟩ := hP
      obtain ⟨z, zin, _, rfl⟩ := pick hy
      obtain ⟨ds, lk, vo, fw⟩ := ((vg z zin).same sm).lk
      rw [List.length_map] at hi
      refine ⟨rfl, ?_⟩
      dsimp only [tYes]
      rw [if_pos rfl]
      refine ⟨_, rfl, .ref z.a, some ds, rfl, lk, (fun ds' d es e hd he => by obtain rfl := Option.some.inj e; exact fw d es hd he), fun G3 s3 => ⟨_, s3 _ _ hl, (by rw [List.length_map, List.length_replicate, sizeLine_eq]; omega), same_but hD (sm.trans s3), ?_⟩⟩
      rw [upd_same, vo, List.replicate_succ', List.map_append]
      rfl
    · obtain ⟨sm, hl⟩ := hP
      refine ⟨D, _, rfl, .inl (.inl hl), _, rfl, ?_⟩
      have al : (List.replicate (zs.map fun z : Ver => V.ref z.a).length true).all id = true := by simp
      rw [al]
      refine iteF ?_
      have hz1 := same_sqT sm hz
      have vg1 : ∀ z ∈ zs, VGood K G1 z := fun z h => (vg z h).same sm
      refine ⟨_, rfl, a, rfl, ⟨_, hz1⟩, fun D2 hD2 => lc_it (walk_tup (K := K) (a := a) (xs := zs.map fun z : Ver => V.ref z.a)) (fun i H' => Same G1 H' ∧ H' D2 = some (.lst ((zs.take i).map fun z => V.ref z.d.1))) ⟨(newo hD2).1, (newo hD2).2⟩ (fun i H' _ hP => same_sqT hP.1 hz1) (fun i y A1 A2 hi hP hy => ?_) (fun A1 hP => ?_)⟩
      · obtain ⟨rfl, hy⟩ := hy
        obtain ⟨s2, hl2⟩ := hP
        obtain ⟨z, zin, hzi, rfl⟩ := pick hy
        obtain ⟨⟨v1, _⟩, _⟩ := (vg1 z zin).same s2
        rw [List.length_map] at hi
        refine ⟨rfl, ?_⟩
        dsimp only [tYes]
        rw [if_pos rfl]
        refine ⟨_, rfl, z.a, _, 0, V.ref z.d.1, rfl, rfl, v1, atI_nat (j := 0) rfl, _, hl2, (by rw [List.length_map, List.length_take, sizeLine_eq]; omega), same_but hD2 s2, ?_⟩
        rw [upd_same, take_snoc hzi, List.map_append]
        rfl
      · obtain ⟨s2, hl2⟩ := hP
        rw [List.length_map, List.take_of_length_le (Nat.le_refl _)] at hl2
        have vg2 : ∀ z ∈ zs, VGood K A1 z := fun z h => (vg1 z h).same s2
        refine ⟨_, rfl, a, zs, rfl, .inr (same_sqT s2 hz1), (fun z h => (vg2 z h).1), lz, (fun z h => Nat.le_of_lt (Nat.lt_trans (vg2 z h).2.2.1 (by decide))), fun A3 K3 kvs s3 _ e3 mem _ => ?_⟩
        have vg3 : ∀ z ∈ zs, VGood K A3 z := fun z h => (vg2 z h).same s3
        have eL : (zs.map fun z => V.ref z.d.1) = (zs.map fun z => z.d).map fun q : MS.Row => V.ref q.1 := by rw [List.map_map]; rfl
        have eK : ((zs.map fun z => z.d).map fun q : MS.Row => q.2) = zs.map fun z => z.d.2 := by rw [List.map_map]; rfl
        have hl3 : A3 D2 = some (.lst ((zs.map fun z => z.d).map fun q : MS.Row => V.ref q.1)) := by rw [← eL]; exact s3 _ _ hl2
        refine ⟨_, rfl, D2, zs.map fun z => z.d, rfl, .inl (.inl hl3), (fun p hp => ?_), (fun k hk => ?_), (by rw [List.length_map]; exact lz), fun A4 s4 => ⟨_, rfl, ?_⟩⟩
        · obtain ⟨z, zin, rfl⟩ := List.mem_map.mp hp
          exact .inl (.inl (vg3 z zin).1.2.1)
        · rw [eK] at hk
          obtain ⟨z, zin, rfl⟩ := List.mem_map.mp hk
          exact (vg3 z zin).2.1
        rw [eK, ascB_iff.mpr asc]
        refine iteT ?_
        have hl4 := s4 _ _ hl3
        have e4 := s4 _ _ e3
        refine ⟨_, rfl, D2, rfl, ⟨_, .inl (.inl hl4)⟩, fun D4 hD4 => lc_it (walk_list (K := K) (a := D2) (xs := (zs.map fun z => z.d).map fun q : MS.Row => V.ref q.1)) (fun i H' => Same A4 H' ∧ H' D4 = some (.lst ((List.replicate i false).map V.bl))) ⟨(newo hD4).1, (newo hD4).2⟩ (fun i H' _ hP => .inl (.inl (hP.1 _ _ hl4))) (fun i y B1 B2 hi hP hy => ?_) (fun B1 hP => ?_)⟩
        · obtain ⟨rfl, hy⟩ := hy
          obtain ⟨s5, hl5⟩ := hP
          rw [List.length_map, List.length_map] at hi
          rw [List.getElem?_map, List.getElem?_map] at hy
          obtain ⟨p, h1, rfl⟩ := Option.map_eq_some_iff.mp hy
          obtain ⟨z, h2, rfl⟩ := Option.map_eq_some_iff.mp h1
          have zin := List.mem_of_getElem? h2
          have no : (valV kvs z.d.2).isSome = false := by
            cases hv : valV kvs z.d.2 with
            | none => rfl
            | some v =>
              exfalso
              refine fr z zin ((mem _).mp ?_)
              unfold valV at hv
              obtain ⟨e, he, _⟩ := Option.map_eq_some_iff.mp hv
              have y := List.find?_some he
              have y : e.1 = z.d.2 := of_decide_eq_true y
              rw [← y]
              exact List.mem_map_of_mem (List.mem_of_find?_eq_some he)
          refine ⟨rfl, ?_⟩
          dsimp only [tYes]
          rw [if_pos rfl]
          refine ⟨_, rfl, _, rfl, K3, _, rfl, DGet.t (s5 _ _ e4) (s5 _ _ (s4 _ _ (vg3 z zin).1.2.1)), _, hl5, (by rw [List.length_map, List.length_replicate, sizeLine_eq]; omega), same_but hD4 s5, ?_⟩
          rw [upd_same, no, List.replicate_succ', List.map_append]
          rfl
        · obtain ⟨s5, hl5⟩ := hP
          refine ⟨D4, _, rfl, .inl (.inl hl5), _, rfl, ?_⟩
          have an : (List.replicate ((zs.map fun z => z.d).map fun q : MS.Row => V.ref q.1).length false).any id = false := by simp
          rw [an]
          exact q B1 (sm.trans (s2.trans (s3.trans (s4.trans s5))))
end
end K01

set_option Elab.async false
set_option linter.all false
set_option maxRecDepth 100000
set_option maxHeartbeats 4000000
namespace K01
open PySem PySem.Spec PyProof.Rows L2 MS
/-- a statement that is not reached -/
def tNever : TS := fun _ _ _ => False
theorem ps_never {X : Cx} {st : Stmt} : PS X st tNever := ⟨fun _ _ _ _ _ _ h => h.elim⟩
/-- a cell, at a -/
def CellAt (K : PySem.W.Frag) (H : Hp) (a : Addr) (zs : List Ver) : Prop := SqT K H a (zs.map fun z => V.ref z.a) ∧ (∀ z ∈ zs, VGood K H z) ∧ zs.length ≤ 1000 ∧ cellB zs (knownOf zs)
theorem CellAt.same {K : PySem.W.Frag} {H H' : Hp} {a : Addr} {zs : List Ver} (s : Same H H') (h : CellAt K H a zs) : CellAt K H' a zs := ⟨same_sqT s h.1, fun z hz => (h.2.1 z hz).same s, h.2.2⟩
section
variable {P : Program} {w : World} {K : PySem.W.Frag} {mg : PySem.Str → Option Value} {base : Heap} {f : Addr} {fd : FuncData} {k : Nat}
def spLook (K : PySem.W.Frag) : Sp := fun vs H Q _ => ∃ (a : Addr) (zs : List Ver), vs = [.ref a] ∧ CellAt K H a zs ∧ ∀ H', Same H H' → Q .non H'
theorem sc_look : FnScope ["thing"] ["thing"] (defScope (topS 25)) := ⟨rfl, rfl, rfl, by decide +kernel, rfl, by decide +kernel, by decide +kernel⟩
theorem ok_look (cC : Ca P w K mg base 5 "is_cell" ["thing"] (spCell K)) (F : Fun K "look_at_cell" "look_at_cell" (topS 25) f fd) : FnOk P w K mg base CX0 6 f fd ["thing"] (spLook K) := by
  refine F.ok sc_look (fun vs H Q E h => ?_) (fun cdv A outer s H vs Q E hr h => ?_)
  · obtain ⟨a, zs, rfl, _⟩ := h; rfl
  · obtain ⟨a, zs, rfl, ⟨c1, c2, c3, c4⟩, q⟩ := h
    refine ⟨_, pss_one (ps_if (pt_not (pt_val (pe_ca cC hr (by rfl) pass0 (pa_cons (pv 0) pa_nil)))) (pss_one ps_never) pss_nil), ?_⟩
    exact ⟨_, rfl, a, zs, rfl, c1, c2, c3, c4, fun H1 s1 => ⟨_, rfl, iteF (q H1 s1)⟩⟩
def spDots (K : PySem.W.Frag) : Sp := fun vs H Q _ => ∃ (a : Addr) (zs : List Ver), vs = [.ref a] ∧ CellAt K H a zs ∧ ∀ H' r, Same H H' → H r = none → H' r = some (.tup (zs.map fun z => V.ref z.d.1)) → Q (.ref r) H'
abbrev NDO : List PySem.Str := ["cell", "version"]
theorem sc_dots : FnScope NDO ["cell"] (defScope (topS 28)) := ⟨rfl, rfl, rfl, by decide +kernel, rfl, by decide +kernel, by decide +kernel⟩
theorem ok_dots (B : Bt mg) (cL : Ca P w K mg base 6 "look_at_cell" ["thing"] (spLook K)) (F : Fun K "dots_of" "dots_of" (topS 28) f fd) : FnOk P w K mg base CX0 7 f fd ["cell"] (spDots K) := by
  refine F.ok sc_dots (fun vs H Q E h => ?_) (fun cdv A outer s H vs Q E hr h => ?_)
  · obtain ⟨a, zs, rfl, _⟩ := h; rfl
  · obtain ⟨a, zs, rfl, c, q⟩ := h
    refine ⟨_, pss_cons (ps_expr (pe_ca cL hr (by rfl) pass0 (pa_cons (pv 0) pa_nil))) (pss_one (ps_ret (pe_callTy call_tuple_of (by rfl) B.tuple boot_tuple (pa_cons (pe_lc (own := [("version", 1)]) (g := gName 1) (tt := tYes) (by rfl) sc_dots.nd (pi_tup (pv 0)) (blkOk_by (own := [("version", 1)]) (N := NDO) (sc := defScope (topS 28)) (by decide +kernel))
          (fun _ _ _ _ _ => pg_name (i := 1) sc_dots.nd rfl (Or.inl rfl)) (fun _ _ _ _ _ => pts_nil) (fun _ _ _ _ _ => pe_ix (ix_tupK (K := K) rfl) (pv 1) pe_int (fun _ _ => rfl))) pa_nil)))), ?_⟩
    refine ⟨_, rfl, a, zs, rfl, c, fun H1 s1 => ?_⟩
    obtain ⟨hz, vg, lz, _⟩ := c.same s1
    refine ⟨_, rfl, a, rfl, ⟨_, hz⟩, fun D hD => lc_it (walk_tup (K := K) (a := a) (xs := zs.map fun z : Ver => V.ref z.a)) (fun i H' => Same H1 H' ∧ H' D = some (.lst ((zs.take i).map fun z => V.ref z.d.1))) ⟨(newo hD).1, (newo hD).2⟩ (fun i H' _ hP => same_sqT hP.1 hz) (fun i y A1 A2 hi hP hy => ?_) (fun A1 hP => ?_)⟩
    · obtain ⟨rfl, hy⟩ := hy
      obtain ⟨s2, hl2⟩ := hP
      rw [List.getElem?_map] at hy
      obtain ⟨z, hzi, rfl⟩ := Option.map_eq_some_iff.mp hy
      obtain ⟨⟨v1, _⟩, _⟩ := (vg z (List.mem_of_getElem? hzi)).same s2
      rw [List.length_map] at hi
      refine ⟨rfl, ?_⟩
      dsimp only [tYes]
      rw [if_pos rfl]
      refine ⟨_, rfl, z.a, _, 0, V.ref z.d.1, rfl, rfl, v1, atI_nat (j := 0) rfl, _, hl2, (by rw [List.length_map, List.length_take, sizeLine_eq]; omega), same_but hD s2, ?_⟩
      rw [upd_same, take_snoc hzi, List.map_append]
      rfl
    · obtain ⟨s2, hl2⟩ := hP
      rw [List.length_map, List.take_of_length_le (Nat.le_refl _)] at hl2
      refine ⟨D, _, rfl, .inl ⟨.inl (.inl hl2), fun r nr => ?_⟩⟩
      obtain ⟨s3, e3⟩ := newo (o := .tup (zs.map fun z => V.ref z.d.1)) nr
      refine q _ r (s1.trans (s2.trans s3)) ?_ e3
      cases y : H r with
      | none => rfl
      | some o =>
        rw [s2 _ _ (s1 _ _ y)] at nr
        cases nr
end
end K01

set_option Elab.async false
set_option linter.all false
set_option maxRecDepth 100000
set_option maxHeartbeats 4000000
namespace K01
open PySem PySem.Spec PyProof.Rows L2 MS
def dotsOf (zs : List Ver) : List DK := zs.map fun z => z.d.2
section
variable {P : Program} {w : World} {K : PySem.W.Frag} {mg : PySem.Str → Option Value} {base : Heap} {f : Addr} {fd : FuncData} {k : Nat}
def spKb (K : PySem.W.Frag) : Sp := fun vs H Q _ => ∃ (a : Addr) (zs : List Ver), vs = [.ref a] ∧ CellAt K H a zs ∧ (∀ k ∈ knownOf zs, D3 k) ∧ zs.length + (knownOf zs).length < 63 ∧
  ∀ H' r ms, Same H H' → TupOf K H' r ms → Asc ms → (∀ k, k ∈ ms ↔ k ∈ dotsOf zs ∨ k ∈ knownOf zs) → Q (.ref r) H'
theorem sc_kb : FnScope ["cell", "version"] ["cell"] (defScope (topS 29)) := ⟨rfl, rfl, rfl, by decide +kernel, rfl, by decide +kernel, by decide +kernel⟩
theorem ok_kb (cD : Ca P w K mg base 7 "dots_of" ["cell"] (spDots K)) (cT : Ca P w K mg base 1 "together" ["some"] (spTog K)) (F : Fun K "known_by" "known_by" (topS 29) f fd) : FnOk P w K mg base CX0 8 f fd ["cell"] (spKb K) := by
  refine F.ok sc_kb (fun vs H Q E h => ?_) (fun cdv A outer s H vs Q E hr h => ?_)
  · obtain ⟨a, zs, rfl, _⟩ := h; rfl
  · obtain ⟨a, zs, rfl, c, d3, few, q⟩ := h
    refine ⟨_, pss_one (ps_ret (pe_ca cT (hr.mono (by decide)) (by rfl) pass0 (pa_cons (pe_op op_cat (pe_lst (pa_cons (pe_ca cD hr (by rfl) pass0 (pa_cons (pv 0) pa_nil)) pa_nil)) (pe_lc (own := [("version", 1)]) (g := gName 1) (tt := tYes) (by rfl) sc_kb.nd (pi_tup (pv 0)) (blkOk_by (own := [("version", 1)]) (N := ["cell", "version"]) (sc := defScope (topS 29)) (by decide +kernel))
          (fun _ _ _ _ _ => pg_name (i := 1) sc_kb.nd rfl (Or.inl rfl)) (fun _ _ _ _ _ => pts_nil) (fun _ _ _ _ _ => pe_ix (ix_tupK (K := K) rfl) (pv 1) pe_int (fun _ _ => rfl)))) pa_nil))), ?_⟩
    refine ⟨_, rfl, a, zs, rfl, c, fun H1 r s1 _ e1 => ⟨(by show 1 ≤ sizeLine; decide), fun l nl => ?_⟩⟩
    obtain ⟨s2, e2⟩ := newo (o := .lst [V.ref r]) nl
    generalize upd H1 l (.lst [V.ref r]) = H2 at s2 e2 ⊢
    obtain ⟨hz, vg, lz, _⟩ := c.same (s1.trans s2)
    refine ⟨_, rfl, a, rfl, ⟨_, hz⟩, fun D hD => lc_it (walk_tup (K := K) (a := a) (xs := zs.map fun z : Ver => V.ref z.a)) (fun i H' => Same H2 H' ∧ H' D = some (.lst ((zs.take i).map fun z => V.ref z.kn))) ⟨(newo hD).1, (newo hD).2⟩ (fun i H' _ hP => same_sqT hP.1 hz) (fun i y A1 A2 hi hP hy => ?_) (fun A1 hP => ?_)⟩
    · obtain ⟨rfl, hy⟩ := hy
      obtain ⟨s3, hl⟩ := hP
      rw [List.getElem?_map] at hy
      obtain ⟨z, hzi, rfl⟩ := Option.map_eq_some_iff.mp hy
      obtain ⟨⟨v1, _⟩, _⟩ := (vg z (List.mem_of_getElem? hzi)).same s3
      rw [List.length_map] at hi
      refine ⟨rfl, ?_⟩
      dsimp only [tYes]
      rw [if_pos rfl]
      refine ⟨_, rfl, z.a, _, 1, V.ref z.kn, rfl, rfl, v1, atI_nat (j := 1) rfl, _, hl, (by rw [List.length_map, List.length_take, sizeLine_eq]; omega), same_but hD s3, ?_⟩
      rw [upd_same, take_snoc hzi, List.map_append]
      rfl
    · obtain ⟨s3, hl⟩ := hP
      rw [List.length_map, List.take_of_length_le (Nat.le_refl _)] at hl
      refine ⟨l, D, _, _, rfl, rfl, s3 _ _ e2, hl, (by rw [List.length_map, sizeLine_eq]; show 1 + zs.length ≤ 16777216; omega), fun t nt => ?_⟩
      obtain ⟨s4, e4⟩ := newo (o := .lst ([V.ref r] ++ zs.map fun z => V.ref z.kn)) nt
      generalize upd A1 t (.lst ([V.ref r] ++ zs.map fun z => V.ref z.kn)) = A2 at s4 e4 ⊢
      have s24 : Same H2 A2 := s3.trans s4
      obtain ⟨ts, hts⟩ : ∃ ts : List (Addr × List DK), ts = (r, dotsOf zs) :: zs.map fun z => (z.kn, z.L.map fun q => q.2) := ⟨_, rfl⟩
      have eT : ([V.ref r] ++ zs.map fun z => V.ref z.kn) = ts.map fun t => V.ref t.1 := by
        rw [hts, List.map_cons, List.map_map]
        rfl
      have al : allOf ts = dotsOf zs ++ knownOf zs := by
        rw [hts]
        unfold allOf knownOf
        rw [List.map_cons, List.flatten_cons, List.map_map]
        rfl
      have tt : ∀ t ∈ ts, TupOf K A2 t.1 t.2 := fun t ht => by
        rw [hts] at ht
        rcases List.mem_cons.mp ht with rfl | ht
        · refine ⟨zs.map fun z => z.d, .inl (.inl ?_), fun p hp => ?_, ?_⟩
          · rw [List.map_map]
            exact s24 _ _ (s2 _ _ e1)
          · obtain ⟨z, zin, rfl⟩ := List.mem_map.mp hp
            exact .inl (.inl (s24 _ _ (vg z zin).1.2.1))
          · rw [List.map_map]
            rfl
        · obtain ⟨z, zin, rfl⟩ := List.mem_map.mp ht
          obtain ⟨_, _, v3, v4⟩ := ((vg z zin).same s24).1
          exact ⟨z.L, v3, v4.dots, rfl⟩
      refine ⟨t, ts, rfl, .inl (.inl (by rw [e4, eT])), tt, (fun k hk => ?_), (by rw [al, List.length_append]; unfold dotsOf; rw [List.length_map]; omega), fun H' r' ms s5 tm am mem _ => q H' r' ms (s1.trans (s2.trans (s24.trans s5))) tm am fun k => by rw [mem k, al, List.mem_append]⟩
      rw [al] at hk
      rcases List.mem_append.mp hk with hk | hk
      · obtain ⟨z, zin, rfl⟩ := List.mem_map.mp hk
        exact (vg z zin).2.1
      · exact d3 k hk
end
end K01

set_option Elab.async false
set_option linter.all false
set_option maxRecDepth 100000
set_option maxHeartbeats 4000000
namespace K01
open PySem PySem.Spec PyProof.Rows L2 MS
/-- versions by their dots -/
def ByD (kvs : List (DK × V)) (zs : List Ver) : Prop := (kvs.map fun e => e.1).Nodup ∧ (∀ e ∈ kvs, ∃ z ∈ zs, e = (z.d.2, V.ref z.a)) ∧ ∀ z ∈ zs, z.d.2 ∈ kvs.map fun e => e.1
theorem ByD.nil : ByD [] [] := ⟨.nil, (fun _ z => nomatch z), fun _ z => nomatch z⟩
theorem ByD.put {kvs : List (DK × V)} {zs : List Ver} {z : Ver} (h : ByD kvs zs) : ByD (putK kvs z.d.2 (V.ref z.a)) (zs ++ [z]) := by
  obtain ⟨h1, h2, h3⟩ := h
  refine ⟨VS.put_nodup h1, fun e he => ?_, fun y hy => ?_⟩
  · rcases VS.put_in he with rfl | ⟨he, _⟩
    · exact ⟨z, List.mem_append_right _ (List.mem_singleton.mpr rfl), rfl⟩
    · obtain ⟨y, hy, e1⟩ := h2 e he
      exact ⟨y, List.mem_append_left _ hy, e1⟩
  · rw [put_mem]
    rcases List.mem_append.mp hy with hy | hy
    · exact .inr (h3 y hy)
    · rw [List.mem_singleton.mp hy]
      exact .inl rfl
theorem ByD.get {kvs : List (DK × V)} {zs : List Ver} {k : DK} (h : ByD kvs zs) (hk : k ∈ kvs.map fun e => e.1) : ∃ z ∈ zs, z.d.2 = k ∧ valV kvs k = some (V.ref z.a) := by
  obtain ⟨v, e, hv⟩ := VS.val_in hk
  obtain ⟨z, hz, y⟩ := h.2.1 _ hv
  have y1 : k = z.d.2 := congrArg Prod.fst y
  have y2 : v = V.ref z.a := congrArg Prod.snd y
  exact ⟨z, hz, y1.symm, by rw [e, y2]⟩
def allV (cs : List (Addr × List Ver)) : List Ver := (cs.map fun c => c.2).flatten
theorem allV_succ {cs : List (Addr × List Ver)} {i : Nat} {c : Addr × List Ver} (h : cs[i]? = some c) : allV (cs.take (i + 1)) = allV (cs.take i) ++ c.2 := by
  unfold allV
  rw [take_snoc h, List.map_append, List.flatten_append]
  simp
theorem allV_len {cs : List (Addr × List Ver)} {i : Nat} : (allV (cs.take i)).length ≤ (allV cs).length := by
  unfold allV
  have e : cs = cs.take i ++ cs.drop i := (List.take_append_drop i cs).symm
  conv => rhs; rw [e, List.map_append, List.flatten_append, List.length_append]
  omega
theorem allV_mem {cs : List (Addr × List Ver)} {z : Ver} : z ∈ allV cs ↔ ∃ c ∈ cs, z ∈ c.2 := by
  unfold allV
  simp only [List.mem_flatten, List.mem_map]
  constructor
  · rintro ⟨_, ⟨c, hc, rfl⟩, hz⟩
    exact ⟨c, hc, hz⟩
  · rintro ⟨c, hc, hz⟩
    exact ⟨_, ⟨c, hc, rfl⟩, hz⟩
section
variable {P : Program} {w : World} {K : PySem.W.Frag} {mg : PySem.Str → Option Value} {base : Heap} {f : Addr} {fd : FuncData} {k : Nat}
def spJoin (K : PySem.W.Frag) : Sp := fun vs H Q _ => ∃ (l : Addr) (cs : List (Addr × List Ver)), vs = [.ref l] ∧ SqL K H l (cs.map fun c => V.ref c.1) ∧ (∀ c ∈ cs, CellAt K H c.1 c.2) ∧ cs.length ≤ 1000 ∧ (allV cs).length ≤ 1000 ∧
  ∀ H' r ls, Same H H' → H r = none → CellAt K H' r ls → (∀ z ∈ ls, z ∈ allV cs) → (∀ z ∈ allV cs, z.d.2 ∉ knownOf (allV cs) → z.d.2 ∈ dotsOf ls) → (∀ z ∈ ls, z.d.2 ∉ knownOf (allV cs)) → Q (.ref r) H'
abbrev NJ : List PySem.Str := ["cells", "cell", "versions", "version", "by_dots", "known", "dot"]
theorem sc_join : FnScope NJ ["cells"] (defScope (topS 27)) := ⟨rfl, rfl, rfl, by decide +kernel, rfl, by decide +kernel, by decide +kernel⟩
theorem none_of {H H' : Hp} {r : Addr} (s : Same H H') (n : H' r = none) : H r = none := by
  cases y : H r with
  | none => rfl
  | some o =>
    rw [s _ _ y] at n
    cases n
theorem ok_join (B : Bt mg) (cL : Ca P w K mg base 6 "look_at_cell" ["thing"] (spLook K)) (cA : Ca P w K mg base 1 "all_known" ["versions"] (spAk K)) (F : Fun K "joined" "joined" (topS 27) f fd) : FnOk P w K mg base CX0 7 f fd ["cells"] (spJoin K) := by
  classical
  refine F.ok sc_join (fun vs H Q E h => ?_) (fun cdv A outer s H vs Q E hr h => ?_)
  · obtain ⟨l, cs, rfl, _⟩ := h; rfl
  · obtain ⟨l, cs, rfl, hl, cc, lc, la, q⟩ := h
    refine ⟨_, pss_cons (ps_if (pt_not (pt_val (pe_callB call_isiT (by rfl) B.isi boot_isinstance (pa_cons (pv 0) (pa_cons (pe_tup (pa_cons (pe_bltn (v := .ty "list") (by rfl) B.list (by decide +kernel) rfl) (pa_cons (pe_bltn (v := .ty "tuple") (by rfl) B.tuple (by decide +kernel) rfl) pa_nil))) pa_nil))))) (pss_one ps_never) pss_nil)
      (pss_cons (ps_for PassesOwn.never rfl (pi_list (pv 0)) (pg_name (i := 1) sc_join.nd rfl (Or.inl rfl)) (pss_one (ps_expr (pe_ca cL hr (by rfl) pass0 (pa_cons (pv 1) pa_nil)))))
      (pss_cons (ps_setLc2 (i := 2) (own := [("cell", 1), ("version", 3)]) (vs1 := [3]) (g := gName 1) (tt := tYes) (wi1 := iTup K (tVar 1)) (g1 := gName 3) (tt1 := tYes) (te := tVar 3) (by rfl) sc_join.nd rfl rfl (sw_true rfl rfl rfl (by decide +kernel)) (pi_list (pv 0)) (blkOk_by (own := [("cell", 1), ("version", 3)]) (N := NJ) (sc := defScope (topS 27)) (by decide +kernel)) (by decide)
          (fun _ _ _ _ _ => pg_name (i := 1) sc_join.nd rfl (Or.inl rfl)) (fun _ _ _ _ _ => pts_nil) (fun _ _ _ _ _ => pi_tupK rfl (pv 1)) (fun _ _ _ _ _ => pg_name (i := 3) sc_join.nd rfl (Or.inl rfl)) (fun _ _ _ _ _ => pts_nil) (fun _ _ _ _ _ => pv 3))
      (pss_cons (ps_set (i := 4) sc_join.nd rfl (.inr rfl) (VS.pe_dc1 (own := [("version", 3)]) (g := gName 3) (tk := tOp (rIxT K) (tVar 3) (tC (.int 0))) (tv := tVar 3) (by rfl) sc_join.nd (hu_lt hr) (pi_list (pv 2)) (blkOk_by (own := [("version", 3)]) (N := NJ) (sc := defScope (topS 27)) (by decide +kernel))
          (fun _ _ _ _ _ => pg_name (i := 3) sc_join.nd rfl (Or.inl rfl)) (fun _ _ _ _ _ => pe_ix (ix_tupK (K := K) rfl) (pv 3) pe_int (fun _ _ => rfl)) (fun _ _ _ _ _ => pv 3)))
      (pss_cons (ps_set (i := 5) sc_join.nd rfl (.inr rfl) (pe_ca cA (hr.mono (by decide)) (by rfl) pass0 (pa_cons (pv 2) pa_nil)))
      (pss_one (ps_ret (pe_callTy call_tuple_of (by rfl) B.tuple boot_tuple (pa_cons (pe_lc (own := [("dot", 6)]) (g := gName 6) (by rfl) sc_join.nd (pi_list (pe_callB (VS.cr_sortD (by rfl)) (by rfl) B.sorted boot_sorted (pa_cons (pv 4) pa_nil))) (blkOk_by (own := [("dot", 6)]) (N := NJ) (sc := defScope (topS 27)) (by decide +kernel))
          (fun _ _ _ _ _ => pg_name (i := 6) sc_join.nd rfl (Or.inl rfl)) (fun _ _ _ _ _ => pts_one (pt_cmp (pc_dnotin (hu_1 hr) (pv 6) (pv 5)))) (fun _ _ _ _ _ => pe_dget (hu_1 hr) (pv 4) (pv 6) (fun _ _ => rfl))) pa_nil)))))))), ?_⟩
    refine ⟨_, rfl, (by show 2 ≤ sizeLine; decide), fun tp ntp => ?_⟩
    obtain ⟨s0, e0⟩ := newo (o := .tup [V.ty "list", V.ty "tuple"]) ntp
    generalize upd H tp (.tup [V.ty "list", V.ty "tuple"]) = H0 at s0 e0 ⊢
    have hl0 := s0.seq hl
    refine ⟨_, tp, _, _, _, true, rfl, e0, .cons (.ty "list") (.cons (.ty "tuple") .nil), tyx_lst hl0, VS.kit_any1 (kit_ty (by decide +kernel)), _, rfl, iteF ?_⟩
    refine ⟨_, rfl, l, rfl, ⟨_, hl0⟩, for_it (walk_list (K := K) (a := l) (xs := cs.map fun c => V.ref c.1)) (fun i σ G => Same H0 G ∧ ∃ o, σ = [some (.ref l), o, none, none, none, none, none]) ⟨Same.refl _, none, rfl⟩ (fun i σ G _ hP => hP.1.seq hl0) (fun i x σ G G' hi hP hy => ?_) (fun σ G hP => ?_)⟩
    · obtain ⟨s1, o, rfl⟩ := hP
      obtain ⟨rfl, hx⟩ := hy
      rw [List.getElem?_map] at hx
      obtain ⟨c, hc, rfl⟩ := Option.map_eq_some_iff.mp hx
      exact ⟨_, rfl, c.1, c.2, rfl, (cc c (List.mem_of_getElem? hc)).same (s0.trans s1), fun H2 s2 => ⟨s1.trans s2, _, rfl⟩⟩
    obtain ⟨s1, o, rfl⟩ := hP
    have hl1 := s1.seq hl0
    have cc1 : ∀ c ∈ cs, CellAt K G c.1 c.2 := fun c hc => (cc c hc).same (s0.trans s1)
    have sHG : Same H G := s0.trans s1
    clear s0 e0 hl0 s1
    refine ⟨_, rfl, l, rfl, ⟨_, hl1⟩, fun D hD => VS.lc2_it (walk_list (K := K) (a := l) (xs := cs.map fun c => V.ref c.1)) (fun i H' => Same G H' ∧ H' D = some (.lst ((allV (cs.take i)).map fun z => V.ref z.a))) ⟨(newo hD).1, (newo hD).2⟩ (fun i H' _ hP => hP.1.seq hl1) (fun i x G1 G2 hi hP hy => ?_) (fun G1 hP => ?_)⟩
    · obtain ⟨rfl, hx⟩ := hy
      obtain ⟨s2, hl2⟩ := hP
      rw [List.getElem?_map] at hx
      obtain ⟨c, hc, rfl⟩ := Option.map_eq_some_iff.mp hx
      obtain ⟨hz, vg, lz, _⟩ := (cc1 c (List.mem_of_getElem? hc)).same s2
      have ll := allV_len (cs := cs) (i := i + 1)
      rw [allV_succ hc, List.length_append] at ll
      refine ⟨rfl, VS.yes_if ?_⟩
      refine ⟨_, rfl, c.1, rfl, ⟨_, hz⟩, VS.lc2_in (g1 := gName 3) (tt1 := tYes) (te := tVar 3) (vs1 := [3]) (D := D) (walk_tup (K := K) (a := c.1) (xs := c.2.map fun z => V.ref z.a)) (fun j H' => Same G H' ∧ H' D = some (.lst ((allV (cs.take i) ++ c.2.take j).map fun z => V.ref z.a))) ⟨s2, by rw [List.take_zero, List.append_nil]; exact hl2⟩ (fun j H' _ hP => ((cc1 c (List.mem_of_getElem? hc)).same hP.1).1) (fun j x A1 A2 hj hP hy => ?_) (fun A1 hP => ?_)⟩
      · obtain ⟨rfl, hx⟩ := hy
        obtain ⟨s3, hl3⟩ := hP
        rw [List.getElem?_map] at hx
        obtain ⟨z, hz, rfl⟩ := Option.map_eq_some_iff.mp hx
        rw [List.length_map] at hj
        refine ⟨rfl, VS.yes_if ?_⟩
        refine ⟨_, rfl, _, hl3, (by rw [List.length_map, List.length_append, List.length_take, sizeLine_eq]; omega), same_but hD s3, ?_⟩
        rw [upd_same, take_snoc hz, ← List.append_assoc, List.map_append (l₁ := allV (cs.take i) ++ c.2.take j)]
        rfl
      · obtain ⟨s3, hl3⟩ := hP
        rw [List.length_map, List.take_of_length_le (Nat.le_refl _), ← allV_succ hc] at hl3
        exact ⟨s3, hl3⟩
    obtain ⟨s2, hl2⟩ := hP
    rw [List.length_map, List.take_of_length_le (Nat.le_refl _)] at hl2
    have vg : ∀ z ∈ allV cs, VGood K G1 z := fun z hz => by
      obtain ⟨c, hc, y⟩ := allV_mem.mp hz
      exact ((cc1 c hc).same s2).2.1 z y
    have sH : Same H G1 := sHG.trans s2
    clear cc cc1 hl hl1 s2
    generalize allV cs = zs at *
    have hL : SqL K G1 D (zs.map fun z => V.ref z.a) := .inl (.inl hl2)
    refine ⟨_, rfl, D, rfl, ⟨_, hL⟩, fun D2 hD2 => VS.dc1_it (walk_list (K := K) (a := D) (xs := zs.map fun z => V.ref z.a)) (fun i H' => Same G1 H' ∧ ∃ kvs, H' D2 = some (.dT kvs) ∧ ByD kvs (zs.take i) ∧ kvs.length ≤ i) ⟨(newo hD2).1, [], (newo hD2).2, ByD.nil, Nat.le_refl _⟩ (fun i H' _ hP => hP.1.seq hL) (fun i x A1 A2 hi hP hy => ?_) (fun A1 hP => ?_)⟩
    · obtain ⟨rfl, hx⟩ := hy
      obtain ⟨s3, kvs, e3, bd, lk⟩ := hP
      rw [List.getElem?_map] at hx
      obtain ⟨z, hz, rfl⟩ := Option.map_eq_some_iff.mp hx
      rw [List.length_map] at hi
      obtain ⟨⟨v1, v2, _⟩, _⟩ := (vg z (List.mem_of_getElem? hz)).same s3
      refine ⟨rfl, _, rfl, z.a, _, 0, V.ref z.d.1, rfl, rfl, v1, atI_nat (j := 0) rfl, _, rfl, z.d.1, z.d.2, kvs, rfl, v2, e3, (by rw [sizeLine_eq]; omega), same_but hD2 s3, _, upd_same, ?_, (by have := length_putK kvs z.d.2 (V.ref z.a); omega)⟩
      rw [take_snoc hz]
      exact bd.put
    obtain ⟨s3, kvs, e3, bd, lk⟩ := hP
    rw [List.length_map] at lk
    rw [List.length_map, List.take_of_length_le (Nat.le_refl _)] at bd
    have vg3 : ∀ z ∈ zs, VGood K A1 z := fun z hz => (vg z hz).same s3
    refine ⟨_, rfl, D, zs, rfl, .inl (s3.seq hL), (fun z hz => (vg3 z hz).1), la, (fun z hz => Nat.le_of_lt (Nat.lt_trans (vg3 z hz).2.2.1 (by decide))), fun A2 K2 kn s4 _ e4 mem _ => ?_⟩
    have e3' := s4 _ _ e3
    have d3 : ∀ e ∈ kvs, D3 e.1 := fun e he => by
      obtain ⟨z, hz, y⟩ := bd.2.1 e he
      rw [y]
      exact (vg3 z hz).2.1
    refine ⟨_, rfl, D2, kvs, rfl, e3', d3, (by omega), fun L p hL2 pm pw np => ?_⟩
    obtain ⟨s5, e5⟩ := newo (o := .lst (L.map fun q => V.ref q.1)) np
    generalize upd A2 p (.lst (L.map fun q => V.ref q.1)) = A3 at s5 e5 ⊢
    have hp : SqL K A3 p (L.map fun q => V.ref q.1) := .inl (.inl e5)
    have lL : L.length = kvs.length := by
      have y := pm.length_eq
      rw [List.length_map, List.length_map] at y
      exact y
    have asc : Asc (L.map fun q => q.2) := asc_of pw (pm.nodup_iff.mpr bd.1)
    have keep : ∀ {i : Nat} {q : MS.Row}, L[i]? = some q → q.2 ∈ kvs.map fun e => e.1 := fun {i q} hq => pm.mem_iff.mp (List.mem_map_of_mem (List.mem_of_getElem? hq))
    refine ⟨p, rfl, ⟨_, hp⟩, fun D4 hD4 => lc_it (walk_list (K := K) (a := p) (xs := L.map fun q => V.ref q.1)) (fun i H' => Same A3 H' ∧ ∃ ls : List Ver, H' D4 = some (.lst (ls.map fun z => V.ref z.a)) ∧ dotsOf ls = ((L.take i).map fun q => q.2).filter (fun k => decide (k ∉ knownOf zs)) ∧ (∀ z ∈ ls, z ∈ zs) ∧ ls.length ≤ i) ⟨(newo hD4).1, [], (newo hD4).2, rfl, (fun _ z => nomatch z), Nat.le_refl _⟩ (fun i H' _ hP => hP.1.seq hp) (fun i x B1 B2 hi hP hy => ?_) (fun B1 hP => ?_)⟩
    · obtain ⟨rfl, hx⟩ := hy
      obtain ⟨s6, ls, e6, dl, ml, ll⟩ := hP
      rw [List.getElem?_map] at hx
      obtain ⟨qr, hq, rfl⟩ := Option.map_eq_some_iff.mp hx
      rw [List.length_map] at hi
      have hqA : B2 qr.1 = some (.tup (qr.2.map kV)) := s6 _ _ (s5 _ _ (hL2 qr (List.mem_of_getElem? hq)))
      refine ⟨rfl, _, rfl, _, rfl, K2, _, rfl, DGet.t (s6 _ _ (s5 _ _ e4)) hqA, _, rfl, ?_⟩
      by_cases hk : qr.2 ∈ knownOf zs
      · rw [VS.val_some.mpr ((mem _).mpr hk)]
        refine iteF ⟨s6, ls, e6, ?_, ml, by omega⟩
        rw [take_snoc hq, List.map_append, List.filter_append, dl, List.map_cons, List.map_nil, List.filter_cons, if_neg (by rw [decide_eq_true_eq]; exact fun z => z hk), List.filter_nil, List.append_nil]
      · rw [VS.val_no (fun z => hk ((mem _).mp z))]
        obtain ⟨z, hz, ez, hv⟩ := bd.get (keep hq)
        refine iteT ⟨_, rfl, _, rfl, D2, V.ref z.a, rfl, (by rw [← hv]; exact DGet.t (s6 _ _ (s5 _ _ e3')) hqA), _, e6, (by rw [List.length_map, sizeLine_eq]; omega), same_but hD4 s6, ls ++ [z], ?_, ?_, ?_, ?_⟩
        · rw [upd_same, List.map_append]
          rfl
        · unfold dotsOf at dl ⊢
          rw [take_snoc hq, List.map_append, List.map_append, List.filter_append, dl, List.map_cons, List.map_nil, List.map_cons, List.map_nil, List.filter_cons, if_pos (by rw [decide_eq_true_eq]; exact hk), List.filter_nil, ez]
        · intro y hy
          rcases List.mem_append.mp hy with hy | hy
          · exact ml y hy
          · rw [List.mem_singleton.mp hy]
            exact hz
        · rw [List.length_append]
          show ls.length + 1 ≤ i + 1
          omega
    obtain ⟨s6, ls, e6, dl, ml, ll⟩ := hP
    rw [List.length_map] at ll
    rw [List.length_map, List.take_of_length_le (Nat.le_refl _)] at dl
    refine ⟨D4, _, rfl, .inl ⟨.inl (.inl e6), fun r nr => ?_⟩⟩
    obtain ⟨s7, e7⟩ := newo (o := .tup (ls.map fun z => V.ref z.a)) nr
    have sAll : Same H (upd B1 r (.tup (ls.map fun z => V.ref z.a))) := sH.trans (s3.trans (s4.trans (s5.trans (s6.trans s7))))
    have out : ∀ z ∈ ls, z.d.2 ∉ knownOf zs := fun z hz => by
      have y : z.d.2 ∈ dotsOf ls := List.mem_map_of_mem hz
      rw [dl, List.mem_filter, decide_eq_true_eq] at y
      exact y.2
    refine q _ r ls sAll (none_of (sH.trans (s3.trans (s4.trans (s5.trans s6)))) nr) ⟨.inl (.inl e7), (fun z hz => (vg3 z (ml z hz)).same (s4.trans (s5.trans (s6.trans s7)))), (by omega), ?_, fun z hz hk => ?_⟩ ml (fun z hz hk => ?_) out
    · have y : (dotsOf ls).Pairwise fun a b => dlt a b = true := by
        rw [dl]
        exact List.Pairwise.filter _ asc
      exact y
    · obtain ⟨y, hy, hk⟩ := knownOf_mem.mp hk
      exact out z hz (knownOf_mem.mpr ⟨y, ml y hy, hk⟩)
    · rw [dl, List.mem_filter, decide_eq_true_eq]
      exact ⟨pm.mem_iff.mpr (bd.2.2 z hz), hk⟩
end
end K01

set_option Elab.async false
set_option linter.all false
set_option maxRecDepth 100000
set_option maxHeartbeats 4000000
namespace K01
open PySem PySem.Spec PyProof.Rows L2 MS
section
variable {P : Program} {w : World} {K : PySem.W.Frag} {mg : PySem.Str → Option Value} {base : Heap} {f : Addr} {fd : FuncData} {k : Nat}
def spTogH (K : PySem.W.Frag) : Sp := fun vs H Q _ => ∃ (l : Addr) (Ls : List (Addr × List MS.Row)), vs = [.ref l] ∧ SqL K H l (Ls.map fun t => V.ref t.1) ∧ (∀ t ∈ Ls, SqT K H t.1 (t.2.map fun q => V.ref q.1) ∧ DotsH H t.2) ∧ (∀ p ∈ rowsTo Ls Ls.length, D3 p.2) ∧ (rowsTo Ls Ls.length).length < 63 ∧
  ∀ H' r M, Same H H' → H' r = some (.tup ((M : List MS.Row).map fun q => V.ref q.1)) → DotsH H' M → Asc (M.map fun q => q.2) → (∀ k, k ∈ M.map (fun q => q.2) ↔ k ∈ (rowsTo Ls Ls.length).map fun q => q.2) → M.length < 64 → Q (.ref r) H'
theorem ok_togH (B : Bt mg) (F : Fun K "together" "together" (topS 10) f fd) : FnOk P w K mg base CX0 (k + 1) f fd ["some"] (spTogH K) := by
  refine F.ok sc_tog (fun vs H Q E h => ?_) (fun cdv A outer s H vs Q E hr h => ?_)
  · obtain ⟨l, Ls, rfl, _⟩ := h; rfl
  · obtain ⟨l, Ls, rfl, hl, hH, d3, tot, q⟩ := h
    have hLs : ∀ t ∈ Ls, SqT K H t.1 (t.2.map fun q => V.ref q.1) ∧ Dots K H t.2 := fun t ht => ⟨(hH t ht).1, (hH t ht).2.dots⟩
    refine ⟨_, pss_one (ps_ret (pe_callTy call_tuple_of (by rfl) B.tuple boot_tuple (pa_cons (pe_callB (cr_sortMK (K := K) (P := P) (w := w) rfl rfl rfl (by rfl)) (by rfl) B.sorted boot_sorted (pa_cons
      (pe_sc2K (K := K) (P := P) (w := w) rfl rfl rfl (own := [("known", 1), ("dot", 2)]) (vs1 := [2]) (g := gName 1) (g1 := gName 2) (wi1 := iTup K (tVar 1)) (te := tVar 2) (by rfl) sc_tog.nd (hu_1 hr) (pi_list (pv 0))
        (blkOk_by (own := [("known", 1), ("dot", 2)]) (N := NTG) (sc := defScope (topS 10)) (by decide +kernel)) (by decide) (fun _ _ _ _ _ => pg_name (i := 1) sc_tog.nd rfl (Or.inl rfl)) (fun _ _ _ _ _ => pi_tupK rfl (pv 1)) (fun _ _ _ _ _ => pg_name (i := 2) sc_tog.nd rfl (Or.inl rfl)) (fun _ _ _ _ _ => pv 2)) pa_nil)) pa_nil))), ?_⟩
    refine ⟨_, rfl, l, rfl, ⟨_, hl⟩, fun D hD => ?_⟩
    refine ⟨fun i m H' => m = Ls.length - i ∧ i ≤ Ls.length ∧ Same H H' ∧ ∃ L, H' D = some (MSO P w D L) ∧ Of (rowsTo Ls i) L, ⟨_, rfl, Nat.zero_le _, (newo hD).1, [], (newo hD).2, Of.nil⟩, ?_⟩
    rintro i m H1 ⟨rfl, hi, s1, L, eD, of⟩
    have dotsAt : ∀ {G : Hp} {i : Nat} {L : List MS.Row}, Same H G → (∀ p ∈ L, p ∈ rowsTo Ls i) → Dots K G L := fun sG sub p hp => by
      obtain ⟨t, h1, h2⟩ := rowsTo_mem (sub p hp)
      exact same_sqT sG ((hLs t h1).2 p h2)
    by_cases hlt : i < Ls.length
    · right
      have hg : Ls[i]? = some Ls[i] := List.getElem?_eq_getElem hlt
      have hgm : (Ls.map fun t => V.ref t.1)[i]? = some (V.ref Ls[i].1) := by rw [List.getElem?_map, hg]; rfl
      obtain ⟨ht1, ht2⟩ := hLs _ (List.getElem_mem hlt)
      refine ⟨⟨_, _, s1.seq hl, hgm⟩, fun H' => Same H H' ∧ ∃ L, H' D = some (MSO P w D L) ∧ Of (rowsTo Ls (i + 1)) L, fun H' z => ⟨_, by omega, rfl, hlt, z⟩, fun x H' hy => ?_⟩
      obtain ⟨rfl, hy⟩ := hy
      have hx := hy _ (s1.seq hl)
      rw [hgm] at hx
      obtain rfl := Option.some.inj hx
      refine ⟨rfl, _, rfl, Ls[i].1, rfl, ⟨_, same_sqT s1 ht1⟩, ?_⟩
      generalize Ls[i] = t at ht1 ht2 hg ⊢
      refine ⟨fun j m H' => m = t.2.length - j ∧ j ≤ t.2.length ∧ Same H H' ∧ ∃ L, H' D = some (MSO P w D L) ∧ Of (rowsTo Ls i ++ t.2.take j) L, ⟨_, rfl, Nat.zero_le _, s1, L, eD, by rw [List.take_zero, List.append_nil]; exact of⟩, ?_⟩
      rintro j m H2 ⟨rfl, hj, s2, M, eM, ofM⟩
      by_cases hjt : j < t.2.length
      · right
        have hgj : t.2[j]? = some t.2[j] := List.getElem?_eq_getElem hjt
        have hgjm : (t.2.map fun q => V.ref q.1)[j]? = some (V.ref t.2[j].1) := by rw [List.getElem?_map, hgj]; rfl
        have hd := ht2 _ (List.getElem_mem hjt)
        generalize t.2[j] = p at hgj hgjm hd
        refine ⟨⟨_, _, same_sqT s2 ht1, hgjm⟩, fun H' => Same H H' ∧ ∃ L, H' D = some (MSO P w D L) ∧ Of (rowsTo Ls i ++ t.2.take (j + 1)) L, fun H' z => ⟨_, by omega, rfl, hjt, z⟩, fun x H' hy => ?_⟩
        obtain ⟨rfl, hy⟩ := hy
        have hx := hy _ (same_sqT s2 ht1)
        rw [hgjm] at hx
        obtain rfl := Option.some.inj hx
        have sub : ∀ q ∈ M, q ∈ rowsTo Ls (i + 1) := fun q hq => by
          rw [rowsTo_succ hg]
          rcases List.mem_append.mp (ofM.sub q hq) with z | z
          · exact List.mem_append_left _ z
          · exact List.mem_append_right _ (List.mem_of_mem_take z)
        refine ⟨rfl, _, rfl, p.1, p.2, M, rfl, same_sqT s2 hd, eM, dotsAt s2 sub, ?_, fun M' c1 c2 => ⟨same_but hD s2, M', upd_same, ?_⟩⟩
        · have l1 := ofM.len
          rw [List.length_append, List.length_take] at l1
          have l2 := rowsTo_len (Ls := Ls) (i := i + 1)
          rw [rowsTo_succ hg, List.length_append] at l2
          omega
        · rw [take_snoc hgj, ← List.append_assoc]
          exact ofM.snoc c1 c2
      · left
        have e : j = t.2.length := by omega
        subst e
        refine ⟨⟨_, same_sqT s2 ht1, by rw [List.length_map]; exact Nat.le_refl _⟩, s2, M, eM, ?_⟩
        rw [rowsTo_succ hg]
        rw [List.take_of_length_le (Nat.le_refl _)] at ofM
        exact ofM
    · left
      have e : i = Ls.length := by omega
      subst e
      refine ⟨⟨_, s1.seq hl, by rw [List.length_map]; exact Nat.le_refl _⟩, ?_⟩
      have dL := dotsAt s1 of.sub
      refine ⟨D, L, rfl, eD, dL, fun p hp => d3 _ (of.sub p hp), fun M r pm nd lM pw nr => ?_⟩
      obtain ⟨s5, e5⟩ := newo (o := .lst (M.map fun q => V.ref q.1)) nr
      generalize upd H1 r (.lst (M.map fun q => V.ref q.1)) = G5 at s5 e5 ⊢
      refine ⟨r, _, rfl, .inl ⟨.inl (.inl e5), fun z nz => ?_⟩⟩
      obtain ⟨s6, e6⟩ := newo (o := .tup (M.map fun q => V.ref q.1)) nz
      generalize upd G5 z (.tup (M.map fun q => V.ref q.1)) = G6 at s6 e6 ⊢
      refine q G6 z M (s1.trans (s5.trans s6)) e6 (fun p hp => ?_) (asc_of pw nd) (fun k => ?_) lM
      · obtain ⟨t, h1, h2⟩ := rowsTo_mem (of.sub p (pm.mem_iff.mp hp))
        exact (s1.trans (s5.trans s6)) _ _ ((hH t h1).2 p h2)
      constructor
      · intro y
        obtain ⟨p, hp, rfl⟩ := List.mem_map.mp y
        exact List.mem_map_of_mem (of.sub p (pm.mem_iff.mp hp))
      · intro y
        obtain ⟨p, hp, rfl⟩ := List.mem_map.mp y
        exact (pm.map (·.2)).mem_iff.mpr (of.all p hp)
def spKbH (K : PySem.W.Frag) : Sp := fun vs H Q _ => ∃ (a : Addr) (zs : List Ver), vs = [.ref a] ∧ CellAt K H a zs ∧ (∀ k ∈ knownOf zs, D3 k) ∧ zs.length + (knownOf zs).length < 63 ∧
  ∀ H' r M, Same H H' → H' r = some (.tup ((M : List MS.Row).map fun q => V.ref q.1)) → DotsH H' M → Asc (M.map fun q => q.2) → (∀ k, k ∈ M.map (fun q => q.2) ↔ k ∈ dotsOf zs ∨ k ∈ knownOf zs) → M.length < 64 → Q (.ref r) H'
theorem ok_kbH (cD : Ca P w K mg base 7 "dots_of" ["cell"] (spDots K)) (cT : Ca P w K mg base 1 "together" ["some"] (spTogH K)) (F : Fun K "known_by" "known_by" (topS 29) f fd) : FnOk P w K mg base CX0 8 f fd ["cell"] (spKbH K) := by
  refine F.ok sc_kb (fun vs H Q E h => ?_) (fun cdv A outer s H vs Q E hr h => ?_)
  · obtain ⟨a, zs, rfl, _⟩ := h; rfl
  · obtain ⟨a, zs, rfl, c, d3, few, q⟩ := h
    refine ⟨_, pss_one (ps_ret (pe_ca cT (hr.mono (by decide)) (by rfl) pass0 (pa_cons (pe_op op_cat (pe_lst (pa_cons (pe_ca cD hr (by rfl) pass0 (pa_cons (pv 0) pa_nil)) pa_nil)) (pe_lc (own := [("version", 1)]) (g := gName 1) (tt := tYes) (by rfl) sc_kb.nd (pi_tup (pv 0)) (blkOk_by (own := [("version", 1)]) (N := ["cell", "version"]) (sc := defScope (topS 29)) (by decide +kernel))
          (fun _ _ _ _ _ => pg_name (i := 1) sc_kb.nd rfl (Or.inl rfl)) (fun _ _ _ _ _ => pts_nil) (fun _ _ _ _ _ => pe_ix (ix_tupK (K := K) rfl) (pv 1) pe_int (fun _ _ => rfl)))) pa_nil))), ?_⟩
    refine ⟨_, rfl, a, zs, rfl, c, fun H1 r s1 _ e1 => ⟨(by show 1 ≤ sizeLine; decide), fun l nl => ?_⟩⟩
    obtain ⟨s2, e2⟩ := newo (o := .lst [V.ref r]) nl
    generalize upd H1 l (.lst [V.ref r]) = H2 at s2 e2 ⊢
    obtain ⟨hz, vg, lz, _⟩ := c.same (s1.trans s2)
    refine ⟨_, rfl, a, rfl, ⟨_, hz⟩, fun D hD => lc_it (walk_tup (K := K) (a := a) (xs := zs.map fun z : Ver => V.ref z.a)) (fun i H' => Same H2 H' ∧ H' D = some (.lst ((zs.take i).map fun z => V.ref z.kn))) ⟨(newo hD).1, (newo hD).2⟩ (fun i H' _ hP => same_sqT hP.1 hz) (fun i y A1 A2 hi hP hy => ?_) (fun A1 hP => ?_)⟩
    · obtain ⟨rfl, hy⟩ := hy
      obtain ⟨s3, hl⟩ := hP
      rw [List.getElem?_map] at hy
      obtain ⟨z, hzi, rfl⟩ := Option.map_eq_some_iff.mp hy
      obtain ⟨⟨v1, _⟩, _⟩ := (vg z (List.mem_of_getElem? hzi)).same s3
      rw [List.length_map] at hi
      refine ⟨rfl, ?_⟩
      dsimp only [tYes]
      rw [if_pos rfl]
      refine ⟨_, rfl, z.a, _, 1, V.ref z.kn, rfl, rfl, v1, atI_nat (j := 1) rfl, _, hl, (by rw [List.length_map, List.length_take, sizeLine_eq]; omega), same_but hD s3, ?_⟩
      rw [upd_same, take_snoc hzi, List.map_append]
      rfl
    · obtain ⟨s3, hl⟩ := hP
      rw [List.length_map, List.take_of_length_le (Nat.le_refl _)] at hl
      refine ⟨l, D, _, _, rfl, rfl, s3 _ _ e2, hl, (by rw [List.length_map, sizeLine_eq]; show 1 + zs.length ≤ 16777216; omega), fun t nt => ?_⟩
      obtain ⟨s4, e4⟩ := newo (o := .lst ([V.ref r] ++ zs.map fun z => V.ref z.kn)) nt
      generalize upd A1 t (.lst ([V.ref r] ++ zs.map fun z => V.ref z.kn)) = A2 at s4 e4 ⊢
      have s24 : Same H2 A2 := s3.trans s4
      obtain ⟨Ls, hLs⟩ : ∃ Ls : List (Addr × List MS.Row), Ls = (r, zs.map fun z => z.d) :: zs.map fun z => (z.kn, z.L) := ⟨_, rfl⟩
      have eT : ([V.ref r] ++ zs.map fun z => V.ref z.kn) = Ls.map fun t => V.ref t.1 := by
        rw [hLs, List.map_cons, List.map_map]
        rfl
      have al : (rowsTo Ls Ls.length).map (fun q => q.2) = dotsOf zs ++ knownOf zs := by
        rw [hLs]
        unfold rowsTo dotsOf knownOf
        rw [List.take_of_length_le (Nat.le_refl _), List.map_cons, List.flatten_cons, List.map_append, List.map_map, List.map_flatten, List.map_map, List.map_map]
        rfl
      have tt : ∀ t ∈ Ls, SqT K A2 t.1 (t.2.map fun q => V.ref q.1) ∧ DotsH A2 t.2 := fun t ht => by
        rw [hLs] at ht
        rcases List.mem_cons.mp ht with rfl | ht
        · refine ⟨.inl (.inl ?_), fun p hp => ?_⟩
          · rw [List.map_map]
            exact s24 _ _ (s2 _ _ e1)
          · obtain ⟨z, zin, rfl⟩ := List.mem_map.mp hp
            exact s24 _ _ (vg z zin).1.2.1
        · obtain ⟨z, zin, rfl⟩ := List.mem_map.mp ht
          obtain ⟨_, _, v3, v4⟩ := ((vg z zin).same s24).1
          exact ⟨v3, v4⟩
      have ln : (rowsTo Ls Ls.length).length = zs.length + (knownOf zs).length := by
        have y := congrArg List.length al
        rw [List.length_map, List.length_append] at y
        unfold dotsOf at y
        rw [List.length_map] at y
        exact y
      refine ⟨t, Ls, rfl, .inl (.inl (by rw [e4, eT])), tt, (fun p hp => ?_), (by rw [ln]; exact few), fun H' r' M s5 e5 d5 a5 mem l5 => q H' r' M (s1.trans (s2.trans (s24.trans s5))) e5 d5 a5 (fun k => by rw [mem k, al, List.mem_append]) l5⟩
      have hk : p.2 ∈ (rowsTo Ls Ls.length).map fun q => q.2 := List.mem_map_of_mem hp
      rw [al] at hk
      rcases List.mem_append.mp hk with hk | hk
      · obtain ⟨z, zin, e⟩ := List.mem_map.mp hk
        rw [← e]
        exact (vg z zin).2.1
      · exact d3 _ hk
/-! ### cut, where all is kept -/
def spCutN : Sp := fun vs H Q _ => ∃ v : V, vs = [v, .non] ∧ Q v H
theorem ok_cutN (F : FCut K f fd) : FnOk P w K mg base CX0 (k + 1) f fd ["known", "most"] spCutN := by
  refine F.ok sc_cut (fun vs H Q E h => ?_) (fun cdv A outer s H vs Q E hr h => ?_)
  · obtain ⟨v, rfl, _⟩ := h; rfl
  · obtain ⟨v, rfl, q⟩ := h
    refine ⟨_, PSs.nox (pss_cons (ps_if (pt_cmp (pc_isN (pv 1))) (pss_one (ps_ret (pv 0))) pss_nil) (pss_one ps_never)), ?_⟩
    exact ⟨_, rfl, _, rfl, iteT ⟨_, rfl, q⟩⟩
/-! ### new_version, by places -/
abbrev FNew (K : PySem.W.Frag) (f : Addr) (fd : FuncData) : Prop := FunD K "new_version" "new_version" (defArgs (topS 26)) (defBody (topS 26)) (defScope (topS 26)) [] [("most", .non)] f fd
abbrev NNV : List PySem.Str := ["dot", "known", "worth", "most"]
theorem sc_nv : FnScope NNV NNV (defScope (topS 26)) := ⟨rfl, rfl, rfl, by decide +kernel, rfl, by decide +kernel, by decide +kernel⟩
def spNv (K : PySem.W.Frag) : Sp := fun vs H Q _ => ∃ (d kn : Addr) (wv : V) (ds : List PyData), vs = [.ref d, .ref kn, wv, .non] ∧ Paired (Rd K H) [V.ref d, .ref kn, wv] ds ∧ verL ds = true ∧ (∀ x es, x ∈ ds → look x = some es → es.length < 64) ∧
  ∀ H' r, Same H H' → H r = none → H' r = some (.tup [.ref d, .ref kn, wv]) → Q (.ref r) H'
theorem ok_nv (cV : Ca P w K mg base 4 "is_version" ["thing"] (spVer K)) (cC : CaD P w K mg base 1 "cut" ["known", "most"] spCutN []) (F : FNew K f fd) : FnOk P w K mg base CX0 5 f fd NNV (spNv K) := by
  refine F.ok sc_nv (fun vs H Q E h => ?_) (fun cdv A outer s H vs Q E hr h => ?_)
  · obtain ⟨d, kn, wv, ds, rfl, _⟩ := h; rfl
  · obtain ⟨d, kn, wv, ds, rfl, rd, vl, few, q⟩ := h
    refine ⟨_, pss_cons (ps_if (pt_not (pt_val (pe_ca cV hr (by rfl) pass0 (pa_cons (pe_tup (pa_cons (pv 0) (pa_cons (pv 1) (pa_cons (pv 2) pa_nil)))) pa_nil)))) (pss_one ps_never) pss_nil)
      (pss_one (ps_ret (pe_tup (pa_cons (pv 0) (pa_cons (pe_caD cC (hr.mono (by decide)) (by rfl) pass0 (pa_cons (pv 1) (pa_cons (pv 3) pa_nil))) (pa_cons (pv 2) pa_nil)))))), ?_⟩
    refine ⟨_, rfl, _, rfl, _, rfl, (by show 3 ≤ sizeLine; decide), fun t nt => ?_⟩
    obtain ⟨s1, e1⟩ := newo (o := .tup [V.ref d, V.ref kn, wv]) nt
    generalize upd H t (.tup [V.ref d, V.ref kn, wv]) = H1 at s1 e1 ⊢
    have rd1 : Paired (Rd K H1) [V.ref d, .ref kn, wv] ds := by
      obtain ⟨x1, x2, x3, d1, d2, d3, ex, ed, r1, r2, r3⟩ := len3 rd rfl
      cases ex
      subst ed
      exact .cons (r1.same s1) (.cons (r2.same s1) (.cons (r3.same s1) .nil))
    refine ⟨.ref t, some ds, rfl, .tup (.inl (.inl e1)) rd1, (fun es x y ee hx hy => by obtain rfl := Option.some.inj ee; exact few x y hx hy), fun H2 s2 => ⟨_, rfl, ?_⟩⟩
    have vo : verO (some ds) = true := vl
    rw [vo]
    refine iteF ⟨_, rfl, _, rfl, _, rfl, _, rfl, _, rfl, (by show 3 ≤ sizeLine; decide), fun r nr => ?_⟩
    obtain ⟨s3, e3⟩ := newo (o := .tup [V.ref d, V.ref kn, wv]) nr
    exact q _ r (s1.trans (s2.trans s3)) (none_of (s1.trans s2) nr) e3
end
end K01

set_option Elab.async false
set_option linter.all false
set_option maxRecDepth 100000
set_option maxHeartbeats 4000000
namespace K01
open PySem PySem.Spec PyProof.Rows L2 MS
/-! ### order and lists -/
def NT : HO → Prop
  | .tup _ => False
  | .frz _ _ => False
  | _ => True
theorem Ext.tupN {K : PySem.W.Frag} {H H' : Hp} {p a : Addr} {xs : List V} {o : HO} (e : Ext p H H') (hp : H p = some o) (n : NT o) (h : SqT K H a xs) : SqT K H' a xs := by
  rcases h with (h | ⟨ob, h⟩) | h
  · exact .inl (.inl (e _ _ (fun z => by subst z; rw [hp] at h; cases h; exact n) h))
  · exact .inl (.inr ⟨ob, e _ _ (fun z => by subst z; rw [hp] at h; cases h; exact n) h⟩)
  · exact .inr h
theorem Ext.dotsH {H H' : Hp} {p : Addr} {L : List MS.Row} {o : HO} (e : Ext p H H') (hp : H p = some o) (n : NT o) (h : DotsH H L) : DotsH H' L := fun q hq => e _ _ (fun z => by
  have y := h q hq
  rw [z, hp] at y
  cases y
  exact n) (h q hq)
def NdV (zs : List Ver) : Prop := (dotsOf zs).Nodup
theorem nd_inj : ∀ {zs : List Ver}, NdV zs → ∀ {y z : Ver}, y ∈ zs → z ∈ zs → y.d.2 = z.d.2 → y = z
  | [], _, _, _, h, _, _ => nomatch h
  | x :: r, nd, y, z, hy, hz, e => by
    unfold NdV dotsOf at nd
    rw [List.map_cons, List.nodup_cons] at nd
    rcases List.mem_cons.mp hy with ey | hy1
    · rcases List.mem_cons.mp hz with ez | hz1
      · rw [ey, ez]
      · exact absurd (by rw [← ey, e]; exact List.mem_map_of_mem hz1) nd.1
    · rcases List.mem_cons.mp hz with ez | hz1
      · exact absurd (by rw [← ez, ← e]; exact List.mem_map_of_mem hy1) nd.1
      · exact nd_inj (zs := r) nd.2 hy1 hz1 e
theorem map_inj {zs : List Ver} (nd : NdV zs) : ∀ {l m : List Ver}, (∀ z ∈ l, z ∈ zs) → (∀ z ∈ m, z ∈ zs) → dotsOf l = dotsOf m → l = m
  | [], [], _, _, _ => rfl
  | [], _ :: _, _, _, e => nomatch e
  | _ :: _, [], _, _, e => nomatch e
  | y :: l, z :: m, h1, h2, e => by
    unfold dotsOf at e
    rw [List.map_cons, List.map_cons, List.cons.injEq] at e
    rw [nd_inj nd (h1 y List.mem_cons_self) (h2 z List.mem_cons_self) e.1, map_inj nd (fun z hz => h1 z (List.mem_cons_of_mem _ hz)) (fun z hz => h2 z (List.mem_cons_of_mem _ hz)) e.2]
theorem canonV {zs l m : List Ver} (nd : NdV zs) (h1 : ∀ z ∈ l, z ∈ zs) (h2 : ∀ z ∈ m, z ∈ zs) (a1 : Asc (dotsOf l)) (a2 : Asc (dotsOf m)) (h : ∀ z, z ∈ l ↔ z ∈ m) : l = m := by
  refine map_inj nd h1 h2 (canon a1 a2 fun k => ?_)
  constructor
  · intro hk
    obtain ⟨z, hz, rfl⟩ := List.mem_map.mp hk
    exact List.mem_map_of_mem ((h z).mp hz)
  · intro hk
    obtain ⟨z, hz, rfl⟩ := List.mem_map.mp hk
    exact List.mem_map_of_mem ((h z).mpr hz)
theorem nodup_le {α : Type} : ∀ {l m : List α}, l.Nodup → (∀ x ∈ l, x ∈ m) → l.length ≤ m.length
  | [], _, _, _ => Nat.zero_le _
  | a :: r, m, nd, h => by
    obtain ⟨m1, m2, rfl⟩ := List.append_of_mem (h a List.mem_cons_self)
    rw [List.nodup_cons] at nd
    have ih := nodup_le (l := r) (m := m1 ++ m2) nd.2 fun x hx => by
      have y := h x (List.mem_cons_of_mem _ hx)
      rw [List.mem_append, List.mem_cons] at y
      rw [List.mem_append]
      rcases y with y | y | y
      · exact .inl y
      · rw [y] at hx
        exact absurd hx nd.1
      · exact .inr y
    rw [List.length_append] at ih
    rw [List.length_append, List.length_cons, List.length_cons]
    omega
theorem known_len {zs : List Ver} {n : Nat} (h : ∀ z ∈ zs, z.L.length ≤ n) : (knownOf zs).length ≤ n * zs.length := by
  induction zs with
  | nil => exact Nat.zero_le _
  | cons z r ih =>
    have a := h z List.mem_cons_self
    have b := ih fun y hy => h y (List.mem_cons_of_mem _ hy)
    have e : knownOf (z :: r) = (z.L.map fun q => q.2) ++ knownOf r := rfl
    rw [e, List.length_append, List.length_map, List.length_cons, Nat.mul_succ]
    omega
theorem joinV {zs l ls : List Ver} (nd : NdV zs) (hl : ∀ z ∈ l, z ∈ zs) (m1 : ∀ z ∈ ls, z ∈ l) (m2 : ∀ z ∈ l, z.d.2 ∉ knownOf l → z.d.2 ∈ dotsOf ls) (m3 : ∀ z ∈ ls, z.d.2 ∉ knownOf l) : ∀ z, z ∈ ls ↔ z ∈ l ∧ z.d.2 ∉ knownOf l := fun z => by
  constructor
  · exact fun h => ⟨m1 z h, m3 z h⟩
  · rintro ⟨h1, h2⟩
    obtain ⟨y, hy, e⟩ := List.mem_map.mp (m2 z h1 h2)
    rw [← nd_inj nd (hl y (m1 y hy)) (hl z h1) e]
    exact hy
/-! ### what is seen, and the greatest of it -/
def keys (z : Ver) : List DK := z.L.map fun q => q.2
/-- a book: unlike dots, what is known is closed, and has less numbers -/
structure Bk (bk : List Ver) : Prop where
  nd : NdV bk
  cl : ∀ z ∈ bk, ∀ k ∈ keys z, ∃ y ∈ bk, y.d.2 = k ∧ ∀ l ∈ keys y, l ∈ keys z
  num : ∀ z ∈ bk, ∀ k ∈ keys z, fstI k < fstI z.d.2
  low : ∀ z ∈ bk, fstI z.d.2 ≤ 12
  asc : ∀ z ∈ bk, (keys z).Nodup
  len : bk.length ≤ 12
def Down (bk : List Ver) (S : DK → Prop) : Prop := (∀ k, S k → k ∈ dotsOf bk) ∧ ∀ z ∈ bk, S z.d.2 → ∀ k ∈ keys z, S k
def MaxOf (bk : List Ver) (S : DK → Prop) (zs : List Ver) : Prop := Asc (dotsOf zs) ∧ ∀ z, z ∈ zs ↔ z ∈ bk ∧ S z.d.2 ∧ ∀ y ∈ bk, S y.d.2 → z.d.2 ∉ keys y
theorem mem_known {zs : List Ver} {k : DK} : k ∈ knownOf zs ↔ ∃ z ∈ zs, k ∈ keys z := knownOf_mem
section
variable {bk zs : List Ver} {S : DK → Prop}
theorem climb (B : Bk bk) (M : MaxOf bk S zs) : ∀ (n : Nat) (y : Ver), (12 - fstI y.d.2).toNat ≤ n → y ∈ bk → S y.d.2 → ∃ w ∈ zs, y = w ∨ y.d.2 ∈ keys w := by
  intro n
  induction n with
  | zero =>
    intro y hn hy hS
    by_cases h : ∃ x ∈ bk, S x.d.2 ∧ y.d.2 ∈ keys x
    · obtain ⟨x, hx, _, hk⟩ := h
      have a := B.num x hx _ hk
      have b := B.low x hx
      omega
    · exact ⟨y, (M.2 y).mpr ⟨hy, hS, fun x hx sx hk => h ⟨x, hx, sx, hk⟩⟩, .inl rfl⟩
  | succ n ih =>
    intro y hn hy hS
    by_cases h : ∃ x ∈ bk, S x.d.2 ∧ y.d.2 ∈ keys x
    · obtain ⟨x, hx, sx, hk⟩ := h
      have a := B.num x hx _ hk
      obtain ⟨w, hw, e | e⟩ := ih x (by omega) hx sx
      · subst e
        exact ⟨x, hw, .inr hk⟩
      · obtain ⟨u, hu, eu, su⟩ := B.cl w ((M.2 w).mp hw).1 _ e
        have e2 := nd_inj B.nd hu hx eu
        subst e2
        exact ⟨w, hw, .inr (su _ hk)⟩
    · exact ⟨y, (M.2 y).mpr ⟨hy, hS, fun x hx sx hk => h ⟨x, hx, sx, hk⟩⟩, .inl rfl⟩
/-- what a reader of it knows -/
theorem seen (B : Bk bk) (D : Down bk S) (M : MaxOf bk S zs) (k : DK) : (k ∈ dotsOf zs ∨ k ∈ knownOf zs) ↔ S k := by
  constructor
  · rintro (h | h)
    · obtain ⟨z, hz, rfl⟩ := List.mem_map.mp h
      exact ((M.2 z).mp hz).2.1
    · obtain ⟨z, hz, hk⟩ := mem_known.mp h
      obtain ⟨h1, h2, _⟩ := (M.2 z).mp hz
      exact D.2 z h1 h2 k hk
  · intro h
    obtain ⟨y, hy, rfl⟩ := List.mem_map.mp (D.1 k h)
    obtain ⟨w, hw, e | e⟩ := climb B M _ y (Nat.le_refl _) hy h
    · rw [e]
      exact .inl (List.mem_map_of_mem hw)
    · exact .inr (mem_known.mpr ⟨w, hw, e⟩)
theorem MaxOf.mem (M : MaxOf bk S zs) : ∀ z ∈ zs, z ∈ bk := fun z hz => ((M.2 z).mp hz).1
theorem MaxOf.one (B : Bk bk) {ls : List Ver} (M : MaxOf bk S zs) (N : MaxOf bk S ls) : zs = ls := canonV B.nd M.mem N.mem M.1 N.1 fun z => by rw [M.2 z, N.2 z]
theorem MaxOf.congr {T : DK → Prop} (h : ∀ k, S k ↔ T k) (M : MaxOf bk S zs) : MaxOf bk T zs := by
  have e : S = T := funext fun k => propext (h k)
  rw [← e]
  exact M
theorem Down.congr {T : DK → Prop} (h : ∀ k, S k ↔ T k) (D : Down bk S) : Down bk T := by
  have e : S = T := funext fun k => propext (h k)
  rw [← e]
  exact D
theorem MaxOf.fresh (M : MaxOf bk S zs) : ∀ z ∈ zs, z.d.2 ∉ knownOf zs := fun z hz hk => by
  obtain ⟨y, hy, k⟩ := mem_known.mp hk
  obtain ⟨h1, h2, _⟩ := (M.2 y).mp hy
  exact ((M.2 z).mp hz).2.2 y h1 h2 k
theorem MaxOf.len (B : Bk bk) (M : MaxOf bk S zs) : zs.length ≤ 12 := by
  have y := nodup_le (l := dotsOf zs) (m := dotsOf bk) (asc_nodup M.1) fun k hk => by
    obtain ⟨z, hz, rfl⟩ := List.mem_map.mp hk
    exact List.mem_map_of_mem (M.mem z hz)
  unfold dotsOf at y
  rw [List.length_map, List.length_map] at y
  have := B.len
  omega
theorem MaxOf.few (B : Bk bk) (M : MaxOf bk S zs) : zs.length + (knownOf zs).length < 63 := by
  have each : ∀ z ∈ zs, z.L.length ≤ 12 - zs.length := fun z hz => by
    have y := nodup_le (l := keys z ++ dotsOf zs) (m := dotsOf bk) (by
      rw [List.nodup_append]
      refine ⟨B.asc z (M.mem z hz), asc_nodup M.1, fun a ha b hb e => ?_⟩
      subst e
      obtain ⟨y, hy, e⟩ := List.mem_map.mp hb
      rw [← e] at ha
      exact M.fresh y hy (mem_known.mpr ⟨z, hz, ha⟩)) fun k hk => by
      rcases List.mem_append.mp hk with hk | hk
      · obtain ⟨y, hy, e, _⟩ := B.cl z (M.mem z hz) k hk
        rw [← e]
        exact List.mem_map_of_mem hy
      · obtain ⟨y, hy, rfl⟩ := List.mem_map.mp hk
        exact List.mem_map_of_mem (M.mem y hy)
    unfold dotsOf keys at y
    rw [List.length_append, List.length_map, List.length_map, List.length_map] at y
    have := B.len
    omega
  have a := known_len each
  have b := M.len B
  generalize zs.length = m at a b ⊢
  have c : (12 - m) * m ≤ 36 := by
    have : m = 0 ∨ m = 1 ∨ m = 2 ∨ m = 3 ∨ m = 4 ∨ m = 5 ∨ m = 6 ∨ m = 7 ∨ m = 8 ∨ m = 9 ∨ m = 10 ∨ m = 11 ∨ m = 12 := by omega
    rcases this with rfl | rfl | rfl | rfl | rfl | rfl | rfl | rfl | rfl | rfl | rfl | rfl | rfl <;> decide
  omega
end
/-- no version seen -/
theorem MaxOf.nil {bk : List Ver} : MaxOf bk (fun _ => False) [] := ⟨.nil, fun z => Iff.intro (fun h => nomatch h) (fun h => h.2.1.elim)⟩
theorem Down.nil {bk : List Ver} : Down bk (fun _ => False) := ⟨fun _ h => h.elim, fun _ _ h => h.elim⟩
/-- cells joined -/
theorem MaxOf.join {bk : List Ver} (B : Bk bk) {ps : List ((Addr × List Ver) × (DK → Prop))} (h : ∀ q ∈ ps, MaxOf bk q.2 q.1.2 ∧ Down bk q.2) {ls : List Ver} (asc : Asc (dotsOf ls)) (m1 : ∀ z ∈ ls, z ∈ allV (ps.map fun q => q.1)) (m2 : ∀ z ∈ allV (ps.map fun q => q.1), z.d.2 ∉ knownOf (allV (ps.map fun q => q.1)) → z.d.2 ∈ dotsOf ls) (m3 : ∀ z ∈ ls, z.d.2 ∉ knownOf (allV (ps.map fun q => q.1))) :
    MaxOf bk (fun k => ∃ q ∈ ps, q.2 k) ls := by
  have al : ∀ z, z ∈ allV (ps.map fun q => q.1) ↔ ∃ q ∈ ps, z ∈ q.1.2 := fun z => by
    rw [allV_mem]
    constructor
    · rintro ⟨c, hc, hz⟩
      obtain ⟨q, hq, rfl⟩ := List.mem_map.mp hc
      exact ⟨q, hq, hz⟩
    · rintro ⟨q, hq, hz⟩
      exact ⟨q.1, List.mem_map_of_mem hq, hz⟩
  have inB : ∀ z ∈ allV (ps.map fun q => q.1), z ∈ bk := fun z hz => by
    obtain ⟨q, hq, y⟩ := (al z).mp hz
    exact (h q hq).1.mem z y
  refine ⟨asc, fun z => ?_⟩
  rw [joinV B.nd inB m1 m2 m3 z]
  constructor
  · rintro ⟨hz, hk⟩
    obtain ⟨q, hq, y⟩ := (al z).mp hz
    obtain ⟨b1, b2, b3⟩ := ((h q hq).1.2 z).mp y
    refine ⟨b1, ⟨q, hq, b2⟩, fun x hx ⟨r, hr, sx⟩ kx => ?_⟩
    obtain ⟨w, hw, e | e⟩ := climb B (h r hr).1 _ x (Nat.le_refl _) hx sx
    · rw [← e] at hw
      exact hk (mem_known.mpr ⟨x, (al x).mpr ⟨r, hr, hw⟩, kx⟩)
    · obtain ⟨u, hu, eu, su⟩ := B.cl w ((h r hr).1.mem w hw) _ e
      have e2 := nd_inj B.nd hu hx eu
      subst e2
      exact hk (mem_known.mpr ⟨w, (al w).mpr ⟨r, hr, hw⟩, su _ kx⟩)
  · rintro ⟨b1, ⟨q, hq, b2⟩, b3⟩
    refine ⟨(al z).mpr ⟨q, hq, ((h q hq).1.2 z).mpr ⟨b1, b2, fun y hy sy => b3 y hy ⟨q, hq, sy⟩⟩⟩, fun hk => ?_⟩
    obtain ⟨y, hy, ky⟩ := mem_known.mp hk
    obtain ⟨r, hr, yr⟩ := (al y).mp hy
    obtain ⟨c1, c2, _⟩ := ((h r hr).1.2 y).mp yr
    exact b3 y c1 ⟨r, hr, c2⟩ ky
theorem Down.join {bk : List Ver} {ps : List ((Addr × List Ver) × (DK → Prop))} (h : ∀ q ∈ ps, Down bk q.2) : Down bk (fun k => ∃ q ∈ ps, q.2 k) := ⟨fun k ⟨q, hq, s⟩ => (h q hq).1 k s, fun z hz ⟨q, hq, s⟩ k hk => ⟨q, hq, (h q hq).2 z hz s k hk⟩⟩
/-! ### a writing more -/
theorem dots_snoc {bk : List Ver} {z : Ver} : dotsOf (bk ++ [z]) = dotsOf bk ++ [z.d.2] := by
  unfold dotsOf
  rw [List.map_append]
  rfl
theorem Bk.snoc {bk : List Ver} {z : Ver} (B : Bk bk) (fr : z.d.2 ∉ dotsOf bk) {S : DK → Prop} (D : Down bk S) (ks : ∀ k, k ∈ keys z ↔ S k) (num : ∀ k ∈ keys z, fstI k < fstI z.d.2) (low : fstI z.d.2 ≤ 12) (nd : (keys z).Nodup) (len : bk.length < 12) : Bk (bk ++ [z]) := by
  refine ⟨?_, fun x hx k hk => ?_, fun x hx => ?_, fun x hx => ?_, fun x hx => ?_, by rw [List.length_append]; exact len⟩
  · unfold NdV
    rw [dots_snoc, List.nodup_append]
    refine ⟨B.nd, by simp, fun a ha b hb e => ?_⟩
    rw [List.mem_singleton.mp hb] at e
    rw [e] at ha
    exact fr ha
  · rcases List.mem_append.mp hx with hx | hx
    · obtain ⟨y, hy, e, s⟩ := B.cl x hx k hk
      exact ⟨y, List.mem_append_left _ hy, e, s⟩
    · rw [List.mem_singleton.mp hx] at hk ⊢
      have sk := (ks k).mp hk
      obtain ⟨y, hy, e⟩ := List.mem_map.mp (D.1 k sk)
      refine ⟨y, List.mem_append_left _ hy, e, fun l hl => (ks l).mpr (D.2 y hy (by rw [e]; exact sk) l hl)⟩
  · rcases List.mem_append.mp hx with hx | hx
    · exact B.num x hx
    · rw [List.mem_singleton.mp hx]
      exact num
  · rcases List.mem_append.mp hx with hx | hx
    · exact B.low x hx
    · rw [List.mem_singleton.mp hx]
      exact low
  · rcases List.mem_append.mp hx with hx | hx
    · exact B.asc x hx
    · rw [List.mem_singleton.mp hx]
      exact nd
theorem Down.snoc {bk : List Ver} {z : Ver} (fr : z.d.2 ∉ dotsOf bk) {S : DK → Prop} (D : Down bk S) : Down (bk ++ [z]) S := ⟨fun k h => by rw [dots_snoc]; exact List.mem_append_left _ (D.1 k h), fun x hx s => by
  rcases List.mem_append.mp hx with hx | hx
  · exact D.2 x hx s
  · rw [List.mem_singleton.mp hx] at s
    exact absurd (D.1 _ s) fr⟩
theorem MaxOf.snoc {bk : List Ver} {z : Ver} (fr : z.d.2 ∉ dotsOf bk) {S : DK → Prop} {zs : List Ver} (D : Down bk S) (M : MaxOf bk S zs) : MaxOf (bk ++ [z]) S zs := ⟨M.1, fun x => by
  have no : ¬ S z.d.2 := fun s => fr (D.1 _ s)
  rw [M.2 x]
  constructor
  · rintro ⟨h1, h2, h3⟩
    refine ⟨List.mem_append_left _ h1, h2, fun y hy sy => ?_⟩
    rcases List.mem_append.mp hy with hy | hy
    · exact h3 y hy sy
    · rw [List.mem_singleton.mp hy] at sy
      exact absurd sy no
  · rintro ⟨h1, h2, h3⟩
    rcases List.mem_append.mp h1 with h1 | h1
    · exact ⟨h1, h2, fun y hy sy => h3 y (List.mem_append_left _ hy) sy⟩
    · rw [List.mem_singleton.mp h1] at h2
      exact absurd h2 no⟩
/-- the cell of the new one alone -/
theorem MaxOf.new {bk : List Ver} {z : Ver} (B : Bk bk) (fr : z.d.2 ∉ dotsOf bk) {S : DK → Prop} (D : Down bk S) (ks : ∀ k, k ∈ keys z ↔ S k) : MaxOf (bk ++ [z]) (fun k => k = z.d.2 ∨ k ∈ keys z) [z] := by
  have kd : ∀ k ∈ keys z, k ∈ dotsOf bk := fun k hk => D.1 k ((ks k).mp hk)
  have nz : z.d.2 ∉ keys z := fun h => fr (kd _ h)
  refine ⟨.cons (fun _ h => nomatch h) .nil, fun x => ?_⟩
  rw [List.mem_singleton]
  constructor
  · rintro rfl
    refine ⟨List.mem_append_right _ (List.mem_singleton.mpr rfl), .inl rfl, fun y hy _ hk => ?_⟩
    rcases List.mem_append.mp hy with hy | hy
    · obtain ⟨u, hu, e, _⟩ := B.cl y hy _ hk
      exact fr (by rw [← e]; exact List.mem_map_of_mem hu)
    · rw [List.mem_singleton.mp hy] at hk
      exact nz hk
  · rintro ⟨h1, h2, h3⟩
    rcases List.mem_append.mp h1 with h1 | h1
    · rcases h2 with h2 | h2
      · exact absurd (by rw [← h2]; exact List.mem_map_of_mem h1) fr
      · exact absurd h2 (h3 z (List.mem_append_right _ (List.mem_singleton.mpr rfl)) (.inl rfl))
    · exact List.mem_singleton.mp h1
theorem Down.new {bk : List Ver} {z : Ver} (fr : z.d.2 ∉ dotsOf bk) {S : DK → Prop} (D : Down bk S) (ks : ∀ k, k ∈ keys z ↔ S k) : Down (bk ++ [z]) (fun k => k = z.d.2 ∨ k ∈ keys z) := by
  refine ⟨fun k h => ?_, fun x hx s k hk => ?_⟩
  · rw [dots_snoc]
    rcases h with rfl | h
    · exact List.mem_append_right _ (List.mem_singleton.mpr rfl)
    · exact List.mem_append_left _ (D.1 k ((ks k).mp h))
  · rcases List.mem_append.mp hx with hx | hx
    · rcases s with s | s
      · exact absurd (by rw [← s]; exact List.mem_map_of_mem hx) fr
      · exact .inr ((ks k).mpr (D.2 x hx ((ks _).mp s) k hk))
    · rw [List.mem_singleton.mp hx] at hk
      exact .inr hk
/-- the greatest of all -/
theorem MaxOf.all {bk zs : List Ver} {S : DK → Prop} (cov : ∀ z ∈ bk, S z.d.2) (M : MaxOf bk S zs) (z : Ver) : z ∈ zs ↔ z ∈ bk ∧ z.d.2 ∉ knownOf bk := by
  rw [M.2 z]
  constructor
  · rintro ⟨h1, _, h3⟩
    refine ⟨h1, fun hk => ?_⟩
    obtain ⟨y, hy, k⟩ := mem_known.mp hk
    exact h3 y hy (cov y hy) k
  · rintro ⟨h1, h2⟩
    exact ⟨h1, cov z h1, fun y hy _ k => h2 (mem_known.mpr ⟨y, hy, k⟩)⟩
end K01

set_option Elab.async false
set_option linter.all false
set_option maxRecDepth 100000
set_option maxHeartbeats 4000000
namespace K01
open PySem PySem.Spec PyProof.Rows L2 MS
/-! ### dicts by the four letters -/
def kvH (vs : List V) : List (Key × V) := ([97, 98, 99, 100].zip vs).map fun q => (.inr ⟨#[q.1]⟩, q.2)
theorem kv_get : ∀ {vs : List V} {i : Nat}, vs.length = 4 → i < 4 → valV (kvH vs) (.inr ⟨#[97 + i]⟩) = vs[i]?
  | [a, b, c, d], 0, _, _ => rfl
  | [a, b, c, d], 1, _, _ => rfl
  | [a, b, c, d], 2, _, _ => rfl
  | [a, b, c, d], 3, _, _ => rfl
theorem kv_put : ∀ {vs : List V} {i : Nat} {v : V}, vs.length = 4 → i < 4 → putK (kvH vs) (.inr ⟨#[97 + i]⟩) v = kvH (vs.set i v)
  | [a, b, c, d], 0, v, _, _ => rfl
  | [a, b, c, d], 1, v, _, _ => rfl
  | [a, b, c, d], 2, v, _, _ => rfl
  | [a, b, c, d], 3, v, _, _ => rfl
theorem kv_len (vs : List V) : (kvH vs).length ≤ 4 := by
  unfold kvH
  rw [List.length_map, List.length_zip]
  exact Nat.min_le_left _ _
theorem lett {r : Int} (h0 : 0 ≤ r) (h1 : r < 4) : ∃ i : Nat, i < 4 ∧ r = (i : Int) ∧ atI ([97, 98, 99, 100] : List Nat) r = some (97 + i) := by
  obtain ⟨i, rfl⟩ : ∃ i : Nat, r = (i : Int) := ⟨r.toNat, by omega⟩
  have hi : i < 4 := by omega
  refine ⟨i, hi, rfl, atI_nat ?_⟩
  match i, hi with
  | 0, _ => rfl
  | 1, _ => rfl
  | 2, _ => rfl
  | 3, _ => rfl
theorem lett_at {i c : Nat} (h : ("abcd" : PySem.Str).cps[i]? = some c) : i < 4 ∧ c = 97 + i := by
  match i, h with
  | 0, h => exact ⟨by decide, (Option.some.inj h).symm⟩
  | 1, h => exact ⟨by decide, (Option.some.inj h).symm⟩
  | 2, h => exact ⟨by decide, (Option.some.inj h).symm⟩
  | 3, h => exact ⟨by decide, (Option.some.inj h).symm⟩
  | n + 4, h => exact nomatch (show (none : Option Nat) = some c from h)
theorem lett_ne {i j : Nat} : (V.str ⟨#[97 + i]⟩ = V.str ⟨#[97 + j]⟩) ↔ i = j := by
  constructor
  · intro h
    injection h with h
    injection h with h
    have h : [97 + i] = [97 + j] := congrArg Array.toList h
    have := (List.cons.inj h).1
    omega
  · rintro rfl
    rfl
theorem dget_of {H : Hp} {D : Addr} {vs : List V} {i : Nat} {v : V} (e : H D = some (.dK (kvH vs))) (l : vs.length = 4) (hi : i < 4) (hv : vs[i]? = some v) : DGet H D (.str ⟨#[97 + i]⟩) (some v) := by
  have h := DGet.k (k := (.inr ⟨#[97 + i]⟩ : Key)) e
  rw [kv_get l hi, hv] at h
  exact h
theorem dput_of {H : Hp} {D : Addr} {vs : List V} {i : Nat} {v : V} (e : H D = some (.dK (kvH vs))) (l : vs.length = 4) (hi : i < 4) : DPut H D (.str ⟨#[97 + i]⟩) v (upd H D (.dK (kvH (vs.set i v)))) := by
  have h := DPut.k (k := (.inr ⟨#[97 + i]⟩ : Key)) (v := v) e (by have := kv_len vs; rw [sizeLine_eq]; omega)
  rw [kv_put l hi] at h
  exact h
/-! ### dots and versions of the history -/
def M7 (k : DK) : Prop := ∃ (n : Int) (i : Nat), k = [.inl n, .inr ⟨#[97 + i]⟩, .inl 1] ∧ n ∈ [(1 : Int), 2, 3, 4, 5, 6, 7, 8, 9, 10, 11, 12] ∧ i ∈ [0, 1, 2, 3]
theorem M7.mk {n : Int} {i : Nat} (h1 : 1 ≤ n) (h2 : n ≤ 12) (hi : i < 4) : M7 [.inl n, .inr ⟨#[97 + i]⟩, .inl 1] := by
  refine ⟨n, i, rfl, ?_, ?_⟩
  · simp only [List.mem_cons, List.not_mem_nil, or_false]
    omega
  · simp only [List.mem_cons, List.not_mem_nil, or_false]
    omega
theorem M7.d3 {k : DK} (h : M7 k) : D3 k := by
  obtain ⟨n, c, rfl, _⟩ := h
  exact ⟨_, _, _, rfl⟩
theorem m7All : ([(1 : Int), 2, 3, 4, 5, 6, 7, 8, 9, 10, 11, 12].all fun n => [0, 1, 2, 3].all fun i => okD (dD [.inl n, .inr ⟨#[97 + i]⟩, .inl 1])) = true := by decide +kernel
theorem m7_ok {k : DK} (h : M7 k) : short (dD k) = true ∧ dDot (dD k) = true ∧ (dD k).depth ≤ 1 ∧ keyD (dD k) = k := by
  obtain ⟨n, i, rfl, hn, hi⟩ := h
  have z := List.all_eq_true.mp (List.all_eq_true.mp m7All n hn) i hi
  unfold okD at z
  simp only [Bool.and_eq_true, decide_eq_true_eq] at z
  exact ⟨z.2.2.1, z.2.2.2.1, z.2.2.2.2, rfl⟩
def wdV : V → PyData
  | .int n => .int n
  | _ => .none
theorem m7_all {ks : List DK} (m : ∀ k ∈ ks, M7 k) : (ks.map dD).all dDot = true := by
  rw [List.all_eq_true]
  intro d hd
  obtain ⟨k, hk, rfl⟩ := List.mem_map.mp hd
  exact (m7_ok (m k hk)).2.1
theorem m7_known {ks : List DK} (m : ∀ k ∈ ks, M7 k) : knownO (some (ks.map dD)) = ascB ks := by
  rw [known_yes (m7_all m), List.map_map]
  have e : ks.map (keyD ∘ dD) = ks := by
    conv => rhs; rw [← List.map_id ks]
    apply List.map_congr_left
    intro k hk
    exact (m7_ok (m k hk)).2.2.2
  rw [e]
theorem short_all : ∀ {ds : List PyData}, (∀ d ∈ ds, short d = true) → shortAll ds = true
  | [], _ => by rw [shortAll]
  | d :: ds, h => by
    rw [shortAll, h d List.mem_cons_self, short_all fun e he => h e (List.mem_cons_of_mem _ he)]
    rfl
theorem ver7 {d : DK} {ks : List DK} {n : Int} (md : M7 d) (mk : ∀ k ∈ ks, M7 k ∧ fstI k < fstI d) (asc : Asc ks) (h0 : 0 ≤ n) (h1 : n ≤ 12) : verL [dD d, .tuple (ks.map dD), .int n] = true ∧ shortAll [dD d, .tuple (ks.map dD), .int n] = true := by
  refine ⟨?_, ?_⟩
  · show (dDot (dD d) && (knownO (some (ks.map dD)) && ((decide (-1000000000 ≤ n) && decide (n ≤ 1000000000)) && !(ks.map dD).any fun y => PyData.eqv y (dD d)))) = true
    rw [(m7_ok md).2.1, m7_known (fun k hk => (mk k hk).1), ascB_iff.mpr asc, decide_eq_true (by omega), decide_eq_true (by omega)]
    cases y : (ks.map dD).any fun y => PyData.eqv y (dD d) with
    | false => rfl
    | true =>
      have y := (VS.any_dD md.d3 fun k hk => (mk k hk).1.d3).mp y
      have := (mk d y).2
      omega
  · refine short_all fun x hx => ?_
    have hx : x = dD d ∨ x = .tuple (ks.map dD) ∨ x = .int n := by simpa using hx
    rcases hx with rfl | rfl | rfl
    · exact (m7_ok md).1
    · rw [short]
      refine short_all fun x hx => ?_
      obtain ⟨k, hk, rfl⟩ := List.mem_map.mp hx
      exact (m7_ok (mk k hk).1).1
    · rfl
def LW (K : PySem.W.Frag) (H : Hp) (z : Ver) : Prop := VerOk K H z ∧ M7 z.d.2 ∧ (∀ k ∈ keys z, M7 k ∧ fstI k < fstI z.d.2) ∧ Asc (keys z) ∧ z.L.length ≤ 12 ∧ ∃ n : Int, z.wv = .int n ∧ 0 ≤ n ∧ n ≤ 12
theorem LW.same {K : PySem.W.Frag} {H H' : Hp} {z : Ver} (s : Same H H') (h : LW K H z) : LW K H' z := ⟨h.1.same s, h.2⟩
theorem VerOk.ext {K : PySem.W.Frag} {H H' : Hp} {z : Ver} {p : Addr} {o : HO} (e : Ext p H H') (hp : H p = some o) (n : NT o) (h : VerOk K H z) : VerOk K H' z := by
  obtain ⟨h1, h2, h3, h4⟩ := h
  have y : DotsH H [z.d] := fun q hq => by rw [List.mem_singleton.mp hq]; exact h2
  exact ⟨e.tupN hp n h1, e.dotsH hp n y z.d List.mem_cons_self, e.tupN hp n h3, e.dotsH hp n h4⟩
theorem LW.ext {K : PySem.W.Frag} {H H' : Hp} {z : Ver} {p : Addr} {o : HO} (e : Ext p H H') (hp : H p = some o) (n : NT o) (h : LW K H z) : LW K H' z := ⟨h.1.ext e hp n, h.2⟩
theorem LW.good {K : PySem.W.Frag} {H : Hp} {z : Ver} (h : LW K H z) : VGood K H z := by
  obtain ⟨h1, h2, h3, h4, h5, n, en, n0, n1⟩ := h
  obtain ⟨v1, v2⟩ := ver7 h2 h3 h4 n0 n1
  refine ⟨h1, h2.d3, by omega, .int n, by rw [en]; exact .int n, v1, v2, fun es he => ?_⟩
  cases he
/-! ### the state -/
structure St7 (K : PySem.W.Frag) (H : Hp) (p Dh Dn lb : Addr) (bk : List Ver) (hs : List (Addr × List Ver)) (S : Nat → DK → Prop) (ns : List Int) (t : Nat) : Prop where
  pool : Pool H p
  eh : H Dh = some (.dK (kvH (hs.map fun c => V.ref c.1)))
  en : H Dn = some (.dK (kvH (ns.map V.int)))
  eb : H lb = some (.lst (bk.map fun z => V.ref z.a))
  n1 : lb ≠ p
  n2 : Dh ≠ Dn
  lw : ∀ z ∈ bk, LW K H z
  ct : ∀ c ∈ hs, SqT K H c.1 (c.2.map fun z => V.ref z.a)
  l4 : hs.length = 4
  n4 : ns.length = 4
  B : Bk bk
  mx : ∀ i c, hs[i]? = some c → MaxOf bk (S i) c.2
  dn : ∀ i, Down bk (S i)
  nb : ∀ z ∈ bk, ∃ n i m, z.d.2 = [.inl n, .inr ⟨#[97 + i]⟩, .inl 1] ∧ i < 4 ∧ ns[i]? = some m ∧ n ≤ m
  nt : ∀ m ∈ ns, 0 ≤ m ∧ m ≤ (t : Int)
  lt : bk.length ≤ t
section
variable {K : PySem.W.Frag} {H H' : Hp} {p Dh Dn lb : Addr} {bk : List Ver} {hs : List (Addr × List Ver)} {S : Nat → DK → Prop} {ns : List Int} {t : Nat}
theorem St7.ne (I : St7 K H p Dh Dn lb bk hs S ns t) : Dh ≠ p ∧ Dn ≠ p ∧ Dh ≠ lb ∧ Dn ≠ lb := by
  obtain ⟨ys, hy⟩ := I.pool.is
  refine ⟨fun z => ?_, fun z => ?_, fun z => ?_, fun z => ?_⟩
  · have e := I.eh; rw [z, hy] at e; cases e
  · have e := I.en; rw [z, hy] at e; cases e
  · have e := I.eh; rw [z, I.eb] at e; cases e
  · have e := I.en; rw [z, I.eb] at e; cases e
theorem St7.same (s : Same H H') (I : St7 K H p Dh Dn lb bk hs S ns t) : St7 K H' p Dh Dn lb bk hs S ns t :=
  ⟨I.pool.same s, s _ _ I.eh, s _ _ I.en, s _ _ I.eb, I.n1, I.n2, fun z hz => (I.lw z hz).same s, fun c hc => same_sqT s (I.ct c hc), I.l4, I.n4, I.B, I.mx, I.dn, I.nb, I.nt, I.lt⟩
theorem St7.draw (x : Ext p H H') (q : Pool H' p) (I : St7 K H p Dh Dn lb bk hs S ns t) : St7 K H' p Dh Dn lb bk hs S ns t := by
  obtain ⟨ys, hy⟩ := I.pool.is
  obtain ⟨a1, a2, a3, a4⟩ := I.ne
  exact ⟨q, x _ _ a1 I.eh, x _ _ a2 I.en, x _ _ I.n1 I.eb, I.n1, I.n2, fun z hz => (I.lw z hz).ext x hy trivial, fun c hc => x.tupN hy trivial (I.ct c hc), I.l4, I.n4, I.B, I.mx, I.dn, I.nb, I.nt, I.lt⟩
theorem St7.cell (I : St7 K H p Dh Dn lb bk hs S ns t) {a : Addr} {zs : List Ver} {T : DK → Prop} (h : SqT K H a (zs.map fun z => V.ref z.a)) (M : MaxOf bk T zs) : CellAt K H a zs :=
  ⟨h, fun z hz => (I.lw z (M.mem z hz)).good, by have := M.len I.B; omega, M.1, M.fresh⟩
theorem St7.d3 (I : St7 K H p Dh Dn lb bk hs S ns t) {zs : List Ver} {T : DK → Prop} (M : MaxOf bk T zs) : ∀ k ∈ knownOf zs, D3 k := fun k hk => by
  obtain ⟨z, hz, y⟩ := mem_known.mp hk
  exact ((I.lw z (M.mem z hz)).2.2.1 k y).1.d3
/-- another cell at a house -/
theorem St7.putH (I : St7 K H p Dh Dn lb bk hs S ns t) {i : Nat} {c : Addr × List Ver} {T : DK → Prop} (hi : i < 4) (hc : SqT K H c.1 (c.2.map fun z => V.ref z.a)) (M : MaxOf bk T c.2) (D : Down bk T) :
    St7 K (upd H Dh (.dK (kvH ((hs.map fun c => V.ref c.1).set i (V.ref c.1))))) p Dh Dn lb bk (hs.set i c) (fun j => if j = i then T else S j) ns t := by
  obtain ⟨a1, a2, a3, a4⟩ := I.ne
  have x : Ext Dh H (upd H Dh (.dK (kvH ((hs.map fun c => V.ref c.1).set i (V.ref c.1))))) := Ext.put
  refine ⟨?_, ?_, ?_, ?_, I.n1, I.n2, fun z hz => (I.lw z hz).ext x I.eh trivial, fun d hd => ?_, by rw [List.length_set]; exact I.l4, I.n4, I.B, fun j d hj => ?_, fun j => ?_, I.nb, I.nt, I.lt⟩
  · obtain ⟨u, v, hu, rest⟩ := I.pool
    exact ⟨u, v, x _ _ (Ne.symm a1) hu, rest⟩
  · rw [upd_same, List.map_set]
  · exact x _ _ (Ne.symm I.n2) I.en
  · exact x _ _ (Ne.symm a3) I.eb
  · refine x.tupN I.eh trivial ?_
    rcases List.mem_or_eq_of_mem_set hd with h | h
    · exact I.ct d h
    · rw [h]
      exact hc
  · by_cases e : j = i
    · subst e
      rw [if_pos rfl]
      rw [List.getElem?_set_self (by rw [I.l4]; exact hi)] at hj
      rw [← Option.some.inj hj]
      exact M
    · rw [if_neg e]
      rw [List.getElem?_set_ne (Ne.symm e)] at hj
      exact I.mx j d hj
  · show Down bk (if j = i then T else S j)
    split
    · exact D
    · exact I.dn j
/-- a greater number of a house -/
theorem St7.putN (I : St7 K H p Dh Dn lb bk hs S ns t) {i : Nat} {m0 m : Int} (hi : i < 4) (h0 : ns[i]? = some m0) (h1 : m0 ≤ m) (h2 : m ≤ ((t + 1 : Nat) : Int)) :
    St7 K (upd H Dn (.dK (kvH ((ns.map V.int).set i (V.int m))))) p Dh Dn lb bk hs S (ns.set i m) (t + 1) := by
  obtain ⟨a1, a2, a3, a4⟩ := I.ne
  have x : Ext Dn H (upd H Dn (.dK (kvH ((ns.map V.int).set i (V.int m))))) := Ext.put
  refine ⟨?_, ?_, ?_, ?_, I.n1, I.n2, fun z hz => (I.lw z hz).ext x I.en trivial, fun d hd => x.tupN I.en trivial (I.ct d hd), I.l4, by rw [List.length_set]; exact I.n4, I.B, I.mx, I.dn, fun z hz => ?_, fun n hn => ?_, Nat.le_succ_of_le I.lt⟩
  · obtain ⟨u, v, hu, rest⟩ := I.pool
    exact ⟨u, v, x _ _ (Ne.symm a2) hu, rest⟩
  · exact x _ _ I.n2 I.eh
  · rw [upd_same, List.map_set]
  · exact x _ _ (Ne.symm a4) I.eb
  · obtain ⟨n, j, m', e, hj, hm, le⟩ := I.nb z hz
    by_cases ej : j = i
    · subst ej
      rw [h0] at hm
      obtain rfl := Option.some.inj hm
      exact ⟨n, j, m, e, hj, List.getElem?_set_self (by rw [I.n4]; exact hj), by omega⟩
    · exact ⟨n, j, m', e, hj, by rw [List.getElem?_set_ne (Ne.symm ej)]; exact hm, le⟩
  · have z0 := (I.nt m0 (List.mem_of_getElem? h0)).1
    rcases List.mem_or_eq_of_mem_set hn with h | h
    · have := I.nt n h
      omega
    · omega
/-- a version more in the book -/
theorem St7.app (I : St7 K H p Dh Dn lb bk hs S ns t) {z : Ver} {T : DK → Prop} (hz : LW K H z) (fr : z.d.2 ∉ dotsOf bk) (D : Down bk T) (ks : ∀ k, k ∈ keys z ↔ T k) {i : Nat} {m : Int} (hi : i < 4) (ed : z.d.2 = [.inl m, .inr ⟨#[97 + i]⟩, .inl 1]) (hm : ns[i]? = some m) (len : bk.length < 12) (lt : bk.length < t) :
    St7 K (upd H lb (.lst ((bk.map fun z => V.ref z.a) ++ [V.ref z.a]))) p Dh Dn lb (bk ++ [z]) hs S ns t := by
  obtain ⟨a1, a2, a3, a4⟩ := I.ne
  have x : Ext lb H (upd H lb (.lst ((bk.map fun z => V.ref z.a) ++ [V.ref z.a]))) := Ext.put
  refine ⟨?_, x _ _ a3 I.eh, x _ _ a4 I.en, ?_, I.n1, I.n2, fun y hy => ?_, fun d hd => x.tupN I.eb trivial (I.ct d hd), I.l4, I.n4, ?_, fun j c hj => (I.mx j c hj).snoc fr (I.dn j), fun j => (I.dn j).snoc fr, fun y hy => ?_, I.nt, by rw [List.length_append]; exact lt⟩
  · obtain ⟨u, v, hu, rest⟩ := I.pool
    exact ⟨u, v, x _ _ (Ne.symm I.n1) hu, rest⟩
  · rw [upd_same, List.map_append]
    rfl
  · refine LW.ext x I.eb trivial ?_
    rcases List.mem_append.mp hy with hy | hy
    · exact I.lw y hy
    · rw [List.mem_singleton.mp hy]
      exact hz
  · refine I.B.snoc fr D ks (fun k hk => (hz.2.2.1 k hk).2) ?_ (asc_nodup hz.2.2.2.1) len
    obtain ⟨n, j, e, hn, _⟩ := hz.2.1
    rw [e]
    show n ≤ 12
    simp only [List.mem_cons, List.not_mem_nil, or_false] at hn
    omega
  · rcases List.mem_append.mp hy with hy | hy
    · exact I.nb y hy
    · rw [List.mem_singleton.mp hy]
      exact ⟨m, i, m, ed, hi, hm, Int.le_refl _⟩
end
end K01

set_option Elab.async false
set_option linter.all false
set_option maxRecDepth 100000
set_option maxHeartbeats 4000000
namespace K01
open PySem PySem.Spec PyProof.Rows L2 MS
theorem Ext.new {p D : Addr} {H G : Hp} {o : HO} (n : H D = none) (x : Ext p H G) : Ext p H (upd G D o) := fun b u nb hb => by
  rw [upd_ne (fun z => by rw [z, n] at hb; cases hb)]
  exact x b u nb hb
theorem Same.new {D : Addr} {H G : Hp} {o : HO} (n : H D = none) (x : Same H G) : Same H (upd G D o) := fun b u hb => by
  rw [upd_ne (fun z => by rw [z, n] at hb; cases hb)]
  exact x b u hb
theorem at4 {α : Type} {l : List α} {i : Nat} (h : l.length = 4) (hi : i < 4) : ∃ x, l[i]? = some x := ⟨l[i], List.getElem?_eq_getElem (by omega)⟩
section
variable {P : Program} {w : World} {K : PySem.W.Frag} {mg : PySem.Str → Option Value} {base : Heap} {f : Addr} {fd : FuncData} {k : Nat}
def Cov (bk : List Ver) (S : Nat → DK → Prop) : Prop := ∀ z ∈ bk, ∃ i, i < 4 ∧ S i z.d.2
def spHi (K : PySem.W.Frag) : Sp := fun vs H Q _ => ∃ p : Addr, vs = [.ref p] ∧ Pool H p ∧ ∀ H' r Dh Dn lb bk hs S ns, Ext p H H' → H' r = some (.tup [.ref Dh, .ref lb]) → St7 K H' p Dh Dn lb bk hs S ns 12 → Cov bk S → Q (.ref r) H'
abbrev NHI : List PySem.Str := ["_law_pool", "_law_houses", "_law_numbers", "_law_book", "_law_turn", "_law_name", "_law_readers", "_law_other", "_law_known", "_law_one", "_law_two"]
theorem sc_hi : FnScope NHI ["_law_pool"] (defScope (topS 33)) := ⟨rfl, rfl, rfl, by decide +kernel, rfl, by decide +kernel, by decide +kernel⟩
/-- two cells joined, as a list just made -/
theorem join2 {H : Hp} {p Dh Dn lb : Addr} {bk : List Ver} {hs : List (Addr × List Ver)} {S : Nat → DK → Prop} {ns : List Int} {t : Nat} (I : St7 K H p Dh Dn lb bk hs S ns t) {l : Addr} {c d : Addr × List Ver} {T U : DK → Prop} {Q : VK} {E : XK} (hl : H l = some (.lst [V.ref c.1, V.ref d.1])) (hc : SqT K H c.1 (c.2.map fun z => V.ref z.a)) (hd : SqT K H d.1 (d.2.map fun z => V.ref z.a)) (M : MaxOf bk T c.2) (N : MaxOf bk U d.2) (D1 : Down bk T) (D2 : Down bk U)
    (q : ∀ H' r ls, Same H H' → SqT K H' r ((ls : List Ver).map fun z => V.ref z.a) → MaxOf bk (fun k => T k ∨ U k) ls → Down bk (fun k => T k ∨ U k) → Q (.ref r) H') : spJoin K [.ref l] H Q E := by
  have l1 := M.len I.B
  have l2 := N.len I.B
  have al : allV [c, d] = c.2 ++ d.2 := by
    unfold allV
    rw [List.map_cons, List.map_cons, List.map_nil, List.flatten_cons, List.flatten_cons, List.flatten_nil, List.append_nil]
  refine ⟨l, [c, d], rfl, .inl (.inl hl), (fun e he => ?_), (by show 2 ≤ 1000; decide), (by rw [al, List.length_append]; omega), fun H' r ls s _ cc m1 m2 m3 => ?_⟩
  · have he : e = c ∨ e = d := by simpa using he
    rcases he with rfl | rfl
    · exact I.cell hc M
    · exact I.cell hd N
  · have J := MaxOf.join I.B (ps := [(c, T), (d, U)]) (fun e he => by
      have he : e = (c, T) ∨ e = (d, U) := by simpa using he
      rcases he with rfl | rfl
      · exact ⟨M, D1⟩
      · exact ⟨N, D2⟩) cc.2.2.2.1 m1 m2 m3
    have J2 := Down.join (bk := bk) (ps := [(c, T), (d, U)]) (fun e he => by
      have he : e = (c, T) ∨ e = (d, U) := by simpa using he
      rcases he with rfl | rfl
      · exact D1
      · exact D2)
    have iff : ∀ k, (∃ e ∈ [(c, T), (d, U)], e.2 k) ↔ (T k ∨ U k) := fun k => by
      constructor
      · rintro ⟨e, he, h⟩
        have he : e = (c, T) ∨ e = (d, U) := by simpa using he
        rcases he with rfl | rfl
        · exact .inl h
        · exact .inr h
      · rintro (h | h)
        · exact ⟨(c, T), by simp, h⟩
        · exact ⟨(d, U), by simp, h⟩
    exact q H' r ls s cc.1 (J.congr iff) (J2.congr iff)
theorem ok_hi (B : Bt mg) (cD : Ca P w K mg base 1 "_law_draw" ["_law_pool", "_law_size"] spDraw) (cJ : Ca P w K mg base 7 "joined" ["cells"] (spJoin K)) (cKb : Ca P w K mg base 8 "known_by" ["cell"] (spKbH K)) (cNx : Ca P w K mg base 1 "next_number" ["own", "known"] (spNext K)) (cNv : CaD P w K mg base 5 "new_version" NNV (spNv K) [.non])
    (F : Fun K "_law_history" "_law_history" (topS 33) f fd) : FnOk P w K mg base CX0 9 f fd ["_law_pool"] (spHi K) := by
  refine F.ok sc_hi (fun vs H Q E h => ?_) (fun cdv A outer s H vs Q E hr h => ?_)
  · obtain ⟨p, rfl, _⟩ := h; rfl
  · obtain ⟨p, rfl, hp, q⟩ := h
    refine ⟨_, pss_cons (ps_set (i := 1) sc_hi.nd rfl (.inr rfl) (pe_disp (pps_cons pe_str (pe_tup pa_nil) (pps_cons pe_str (pe_tup pa_nil) (pps_cons pe_str (pe_tup pa_nil) (pps_cons pe_str (pe_tup pa_nil) pps_nil)))) (by rfl) (by rfl) (by simp) (by decide)))
      (pss_cons (ps_set (i := 2) sc_hi.nd rfl (.inl rfl) (pe_disp (pps_cons pe_str pe_int (pps_cons pe_str pe_int (pps_cons pe_str pe_int (pps_cons pe_str pe_int pps_nil)))) (by rfl) (by rfl) (by simp) (by decide)))
      (pss_cons (ps_set (i := 3) sc_hi.nd rfl (.inl rfl) (pe_lst pa_nil))
      (pss_cons (ps_for PassesOwn.never rfl (pi_range1 (by rfl) B.range (pa_cons (pe_op op_add pe_int (pe_ca cD (hr.mono (by decide)) (by rfl) pass0 (pa_cons (pv 0) (pa_cons pe_int pa_nil)))) pa_nil)) (pg_name (i := 4) sc_hi.nd rfl (.inl rfl))
        (pss_cons (ps_set (i := 5) sc_hi.nd rfl (.inl rfl) (pe_ix ix_str pe_str (pe_ca cD (hr.mono (by decide)) (by rfl) pass0 (pa_cons (pv 0) (pa_cons pe_int pa_nil))) (fun _ _ => rfl)))
        (pss_cons (ps_setLc (i := 6) (own := [("_law_other", 7)]) (g := gName 7) (by rfl) sc_hi.nd rfl rfl (sw_true rfl rfl rfl (by decide +kernel)) (pi_str pe_str) (blkOk_by (own := [("_law_other", 7)]) (N := NHI) (sc := defScope (topS 33)) (by decide +kernel))
          (fun _ _ _ _ _ => pg_name (i := 7) sc_hi.nd rfl (Or.inl rfl)) (fun _ _ _ _ _ => pts_one (pt_cmpR op_eq (pe_ca cD (hr.mono (by decide)) (by rfl) pass0 (pa_cons (pv 0) (pa_cons pe_int pa_nil))) pe_int (nomark _))) (fun _ _ _ _ _ => pe_dget (hu_1 hr) (pv 1) (pv 7) (fun _ _ => rfl)))
        (pss_cons (ps_set (i := 8) sc_hi.nd rfl (.inl rfl) (pe_ca cKb hr (by rfl) pass0 (pa_cons (pe_ca cJ (hr.mono (by decide)) (by rfl) pass0 (pa_cons (pv 6) pa_nil)) pa_nil)))
        (pss_cons (ps_dput (hu_1 hr) (pv 2) (pv 5) (pe_ca cNx (hr.mono (by decide)) (by rfl) pass0 (pa_cons (pe_dget (hu_1 hr) (pv 2) (pv 5) (fun _ _ => rfl)) (pa_cons (pv 8) pa_nil))) (by rfl))
        (pss_cons (ps_set (i := 9) sc_hi.nd rfl (.inl rfl) (pe_caD cNv (hr.mono (by decide)) (by rfl) pass0 (pa_cons (pe_tup (pa_cons (pe_dget (hu_1 hr) (pv 2) (pv 5) (fun _ _ => rfl)) (pa_cons (pv 5) (pa_cons pe_int pa_nil)))) (pa_cons (pv 8) (pa_cons (pv 4) pa_nil)))))
        (pss_cons (ps_expr (pe_bm PySem.F.plainAttrs_list PySem.F.slot_list_append PySem.F.type_list_append mt_append (pv 3) (pa_cons (pv 9) pa_nil)))
        (pss_cons (ps_for PassesOwn.never rfl (pi_str pe_str) (pg_name (i := 7) sc_hi.nd rfl (.inl rfl))
          (pss_one (ps_if (PW.pt (pw_or (pt_cmpR op_eq (pv 7) (pv 5) (nomark _)) (pw_or1 (pt_cmpR op_eq (pe_ca cD (hr.mono (by decide)) (by rfl) pass0 (pa_cons (pv 0) (pa_cons pe_int pa_nil))) pe_int (nomark _)))))
            (pss_one (ps_dput (hu_1 hr) (pv 1) (pv 7) (pe_ca cJ (hr.mono (by decide)) (by rfl) pass0 (pa_cons (pe_lst (pa_cons (pe_dget (hu_1 hr) (pv 1) (pv 7) (fun _ _ => rfl)) (pa_cons (pe_tup (pa_cons (pv 9) pa_nil)) pa_nil))) pa_nil)) (by rfl))) pss_nil)))
        (pss_one (ps_if (pt_cmpR op_eq (pe_ca cD (hr.mono (by decide)) (by rfl) pass0 (pa_cons (pv 0) (pa_cons pe_int pa_nil))) pe_int (nomark _))
          (pss_cons (ps_par (i := 9) (j := 10) (by rfl) sc_hi.nd rfl rfl (by decide) rfl rfl (pa_cons (pe_ix ix_str pe_str (pe_ca cD (hr.mono (by decide)) (by rfl) pass0 (pa_cons (pv 0) (pa_cons pe_int pa_nil))) (fun _ _ => rfl)) (pa_cons (pe_ix ix_str pe_str (pe_ca cD (hr.mono (by decide)) (by rfl) pass0 (pa_cons (pv 0) (pa_cons pe_int pa_nil))) (fun _ _ => rfl)) pa_nil)) (by rfl))
          (pss_one (ps_dput (hu_1 hr) (pv 1) (pv 9) (pe_ca cJ (hr.mono (by decide)) (by rfl) pass0 (pa_cons (pe_lst (pa_cons (pe_dget (hu_1 hr) (pv 1) (pv 9) (fun _ _ => rfl)) (pa_cons (pe_dget (hu_1 hr) (pv 1) (pv 10) (fun _ _ => rfl)) pa_nil))) pa_nil)) (by rfl)))) pss_nil))))))))))
      (pss_one (ps_ret (pe_tup (pa_cons (pv 1) (pa_cons (pv 3) pa_nil)))))))), ?_⟩
    -- the houses
    intro Dh nDh
    obtain ⟨s0, e0⟩ := newo (o := .dK []) nDh
    generalize upd H Dh (.dK []) = H0 at s0 e0 ⊢
    refine ⟨Nat.zero_le _, fun t1 nt1 => ?_⟩
    obtain ⟨s1, e1⟩ := newo (o := .tup []) nt1
    generalize upd H0 t1 (.tup []) = H1 at s1 e1 ⊢
    refine ⟨Nat.zero_le _, fun t2 nt2 => ?_⟩
    obtain ⟨s2, e2⟩ := newo (o := .tup []) nt2
    generalize upd H1 t2 (.tup []) = H2 at s2 e2 ⊢
    refine ⟨Nat.zero_le _, fun t3 nt3 => ?_⟩
    obtain ⟨s3, e3⟩ := newo (o := .tup []) nt3
    generalize upd H2 t3 (.tup []) = H3 at s3 e3 ⊢
    refine ⟨Nat.zero_le _, fun t4 nt4 => ?_⟩
    obtain ⟨s4, e4⟩ := newo (o := .tup []) nt4
    generalize upd H3 t4 (.tup []) = H4 at s4 e4 ⊢
    have s14 : Same H1 H4 := s2.trans (s3.trans s4)
    refine ⟨s14 _ _ (s1 _ _ e0), [(.inr ⟨#[97]⟩, V.ref t1), (.inr ⟨#[98]⟩, V.ref t2), (.inr ⟨#[99]⟩, V.ref t3), (.inr ⟨#[100]⟩, V.ref t4)], rfl, (by show 4 ≤ 15; decide), ?_⟩
    have m1 : mergeK [] [(.inr ⟨#[97]⟩, V.ref t1), (.inr ⟨#[98]⟩, V.ref t2), (.inr ⟨#[99]⟩, V.ref t3), (.inr ⟨#[100]⟩, V.ref t4)] = kvH [V.ref t1, V.ref t2, V.ref t3, V.ref t4] := rfl
    rw [m1]
    have s04 : Same H H4 := s0.trans (s1.trans s14)
    have sH5 : Same H (upd H4 Dh (.dK (kvH [V.ref t1, V.ref t2, V.ref t3, V.ref t4]))) := Same.new nDh s04
    have x45 : Ext Dh H4 (upd H4 Dh (.dK (kvH [V.ref t1, V.ref t2, V.ref t3, V.ref t4]))) := Ext.put
    have e5 : (upd H4 Dh (.dK (kvH [V.ref t1, V.ref t2, V.ref t3, V.ref t4]))) Dh = some (.dK (kvH [V.ref t1, V.ref t2, V.ref t3, V.ref t4])) := upd_same
    have eD4 : H4 Dh = some (.dK []) := s14 _ _ (s1 _ _ e0)
    have ts : ∀ t ∈ [t1, t2, t3, t4], SqT K (upd H4 Dh (.dK (kvH [V.ref t1, V.ref t2, V.ref t3, V.ref t4]))) t [] := fun t ht => by
      refine x45.tupN eD4 trivial (.inl (.inl ?_))
      have ht : t = t1 ∨ t = t2 ∨ t = t3 ∨ t = t4 := by simpa using ht
      rcases ht with rfl | rfl | rfl | rfl
      · exact s14 _ _ e1
      · exact s4 _ _ (s3 _ _ e2)
      · exact s4 _ _ e3
      · exact e4
    generalize upd H4 Dh (.dK (kvH [V.ref t1, V.ref t2, V.ref t3, V.ref t4])) = H5 at sH5 e5 ts ⊢
    clear x45 eD4 s04 m1
    -- the numbers
    intro Dn nDn
    obtain ⟨s6, e6⟩ := newo (o := .dK []) nDn
    generalize upd H5 Dn (.dK []) = H6 at s6 e6 ⊢
    refine ⟨e6, [(.inr ⟨#[97]⟩, V.int 0), (.inr ⟨#[98]⟩, V.int 0), (.inr ⟨#[99]⟩, V.int 0), (.inr ⟨#[100]⟩, V.int 0)], rfl, (by decide), ?_⟩
    have m2 : mergeK [] [(.inr ⟨#[97]⟩, V.int 0), (.inr ⟨#[98]⟩, V.int 0), (.inr ⟨#[99]⟩, V.int 0), (.inr ⟨#[100]⟩, V.int 0)] = kvH ([0, 0, 0, 0].map V.int) := rfl
    rw [m2]
    have nDnH := none_of sH5 nDn
    have s57 : Same H5 (upd H6 Dn (.dK (kvH ([0, 0, 0, 0].map V.int)))) := Same.new nDn s6
    have e7 : (upd H6 Dn (.dK (kvH ([0, 0, 0, 0].map V.int)))) Dn = some (.dK (kvH ([0, 0, 0, 0].map V.int))) := upd_same
    generalize upd H6 Dn (.dK (kvH ([0, 0, 0, 0].map V.int))) = H7 at s57 e7 ⊢
    -- the book
    refine ⟨Nat.zero_le _, fun lb nlb => ?_⟩
    obtain ⟨s8, e8⟩ := newo (o := .lst []) nlb
    generalize upd H7 lb (.lst []) = H8 at s8 e8 ⊢
    have nlbH := none_of (sH5.trans s57) nlb
    have neDD : Dh ≠ Dn := fun z => by rw [z, nDn] at e5; cases e5
    have nlp : lb ≠ p := fun z => by
      obtain ⟨ys, hy⟩ := hp.is
      rw [z, hy] at nlbH
      cases nlbH
    have sH8 : Same H H8 := sH5.trans (s57.trans s8)
    have I0 : St7 K H8 p Dh Dn lb [] [(t1, []), (t2, []), (t3, []), (t4, [])] (fun _ _ => False) [0, 0, 0, 0] 0 := by
      refine ⟨hp.same sH8, s8 _ _ (s57 _ _ e5), s8 _ _ e7, e8, nlp, neDD, (fun _ z => nomatch z), fun c hc => ?_, rfl, rfl, ⟨.nil, (fun _ z => nomatch z), (fun _ z => nomatch z), (fun _ z => nomatch z), (fun _ z => nomatch z), Nat.zero_le _⟩, fun i c hc => ?_, fun _ => Down.nil, (fun _ z => nomatch z), fun m hm => ?_, Nat.le_refl _⟩
      · have hc : c = (t1, []) ∨ c = (t2, []) ∨ c = (t3, []) ∨ c = (t4, []) := by simpa using hc
        refine same_sqT (s57.trans s8) ?_
        rcases hc with rfl | rfl | rfl | rfl
        · exact ts t1 (by simp)
        · exact ts t2 (by simp)
        · exact ts t3 (by simp)
        · exact ts t4 (by simp)
      · have hc := List.mem_of_getElem? hc
        have hc : c = (t1, []) ∨ c = (t2, []) ∨ c = (t3, []) ∨ c = (t4, []) := by simpa using hc
        rcases hc with rfl | rfl | rfl | rfl <;> exact MaxOf.nil
      · have hm : m = 0 := by simpa using hm
        subst hm
        exact ⟨by decide, by decide⟩
    clear ts e5 e7 e8 s57 s8 sH5 nDn nlb
    -- the writings
    refine ⟨_, rfl, p, 12, rfl, I0.pool, (by decide), (by decide), fun H9 r9 x9 p9 _ r90 r91 => ⟨1, r9, rfl, rfl, 1 + r9, rfl, (by omega), (by omega), ?_⟩⟩
    have I9 := I0.draw x9 p9
    refine for_range (lo := 0) (n := (1 + r9).toNat) (fun i σ G => (∃ y4 y5 y6 y7 y8 y9 y10, σ = [some (.ref p), some (.ref Dh), some (.ref Dn), some (.ref lb), y4, y5, y6, y7, y8, y9, y10]) ∧ Ext p H G ∧ ∃ bk hs S ns, St7 K G p Dh Dn lb bk hs S ns i ∧ Cov bk S) ⟨⟨none, none, none, none, none, none, none, rfl⟩, (Ext.of sH8).trans x9, _, _, _, _, I9, (fun _ z => nomatch z)⟩ (fun i σ G hi hP => ?_) (fun σ G hP => ?_)
    · obtain ⟨⟨y4, y5, y6, y7, y8, y9, y10, rfl⟩, xG, bk, hs, S, ns, I, cov⟩ := hP
      have i12 : i < 12 := by omega
      -- who writes
      refine ⟨_, rfl, p, 4, rfl, I.pool, (by decide), (by decide), fun G1 ri x1 p1 _ ri0 ri1 => ?_⟩
      obtain ⟨i0, hi0, rfl, eli⟩ := lett ri0 ri1
      refine ⟨_, _, 97 + i0, rfl, rfl, (by decide), eli, ?_⟩
      replace I := I.draw x1 p1
      have xG1 : Ext p H G1 := xG.trans x1
      clear x1 p1 xG
      -- who is read
      refine ⟨_, rfl, fun E1 nE => ?_⟩
      have nE1p : E1 ≠ p := fun z => by
        obtain ⟨ys, hy⟩ := I.pool.is
        rw [z, hy] at nE
        cases nE
      refine lc_it (walk_str (z := "abcd")) (fun j H' => Ext p G1 H' ∧ Pool H' p ∧ ∃ ps : List ((Addr × List Ver) × (DK → Prop)), H' E1 = some (.lst ((ps.map fun q => q.1).map fun c => V.ref c.1)) ∧ (∀ q ∈ ps, q.1 ∈ hs ∧ MaxOf bk q.2 q.1.2 ∧ Down bk q.2) ∧ ps.length ≤ j) ⟨Ext.of (newo nE).1, I.pool.same (newo nE).1, [], (newo nE).2, (fun _ z => nomatch z), Nat.le_refl _⟩ (fun _ _ _ _ => trivial) (fun j y A1 A2 hj hP hy => ?_) (fun A1 hP => ?_)
      · obtain ⟨rfl, c, hc, rfl⟩ := hy
        obtain ⟨xa, pa, ps, eS, mS, lS⟩ := hP
        obtain ⟨j4, rfl⟩ := lett_at hc
        refine ⟨rfl, _, rfl, p, 3, rfl, pa, (by decide), (by decide), fun A3 r xr pr _ r0 r1 => ⟨rfl, _, rfl, ?_⟩⟩
        have x3 : Ext p G1 A3 := xa.trans xr
        have eS3 := xr _ _ nE1p eS
        have I3 := I.draw x3 pr
        by_cases hr0 : r = 0
        · rw [decide_eq_true (show V.int r = V.int 0 by rw [hr0])]
          obtain ⟨c, hg⟩ := at4 I.l4 j4
          refine iteT ⟨_, rfl, _, rfl, Dh, V.ref c.1, rfl, dget_of I3.eh (by rw [List.length_map]; exact I.l4) j4 (by rw [List.getElem?_map, hg]; rfl), _, eS3, (by rw [List.length_map, List.length_map, sizeLine_eq]; omega), Ext.new nE x3, ?_, ps ++ [(c, S j)], ?_, ?_, ?_⟩
          · obtain ⟨a, b, hab, rest⟩ := pr
            exact ⟨a, b, by rw [upd_ne (Ne.symm nE1p)]; exact hab, rest⟩
          · rw [upd_same, List.map_append, List.map_append]
            rfl
          · intro q hq
            rcases List.mem_append.mp hq with hq | hq
            · exact mS q hq
            · rw [List.mem_singleton.mp hq]
              exact ⟨List.mem_of_getElem? hg, I.mx j c hg, I.dn j⟩
          · rw [List.length_append]
            show ps.length + 1 ≤ j + 1
            omega
        · rw [decide_eq_false (show ¬ V.int r = V.int 0 from fun y => hr0 (by injection y))]
          exact iteF ⟨x3, pr, ps, eS3, mS, by omega⟩
      obtain ⟨xa, pa, ps, eS, mS, lS⟩ := hP
      have lS : ps.length ≤ 4 := lS
      replace I := I.draw xa pa
      have xA1 : Ext p H A1 := xG1.trans xa
      clear xa pa xG1 nE
      -- what they have
      have cellP : ∀ c ∈ ps.map (fun q => q.1), CellAt K A1 c.1 c.2 := fun c hc => by
        obtain ⟨q, hq, rfl⟩ := List.mem_map.mp hc
        exact I.cell (I.ct _ (mS q hq).1) (mS q hq).2.1
      have alL : (allV (ps.map fun q => q.1)).length ≤ 12 * 4 := by
        have y : ∀ (ds : List (Addr × List Ver)), (∀ c ∈ ds, c.2.length ≤ 12) → (allV ds).length ≤ 12 * ds.length := by
          intro ds
          induction ds with
          | nil => intro _; exact Nat.le_refl _
          | cons c r ih =>
            intro h
            have a := h c List.mem_cons_self
            have b := ih fun d hd => h d (List.mem_cons_of_mem _ hd)
            have e : allV (c :: r) = c.2 ++ allV r := rfl
            rw [e, List.length_append, List.length_cons]
            omega
        have z := y (ps.map fun q => q.1) fun c hc => by
          obtain ⟨q, hq, rfl⟩ := List.mem_map.mp hc
          exact (mS q hq).2.1.len I.B
        rw [List.length_map] at z
        omega
      refine ⟨_, rfl, E1, ps.map fun q => q.1, rfl, .inl (.inl eS), cellP, (by rw [List.length_map]; omega), (by omega), fun G2 r2 ls s2 _ c2 m1 m2 m3 => ?_⟩
      have M0 := MaxOf.join I.B (ps := ps) (fun q hq => (mS q hq).2) c2.2.2.2.1 m1 m2 m3
      have D0 := Down.join (bk := bk) (ps := ps) (fun q hq => (mS q hq).2.2)
      generalize (fun k => ∃ q ∈ ps, q.2 k) = U at M0 D0
      replace I := I.same s2
      refine ⟨r2, ls, rfl, c2, I.d3 M0, M0.few I.B, fun G3 kn Mk s3 e3 d3 a3 mem3 l3 => ?_⟩
      replace I := I.same s3
      have xG3 : Ext p H G3 := xA1.trans (Ext.of (s2.trans s3))
      have kU : ∀ k, k ∈ Mk.map (fun q => q.2) ↔ U k := fun k => by rw [mem3 k, seen I.B D0 M0]
      have kB : ∀ k ∈ Mk.map (fun q => q.2), ∃ z ∈ bk, z.d.2 = k := fun k hk => by
        obtain ⟨z, hz, e⟩ := List.mem_map.mp (D0.1 k ((kU k).mp hk))
        exact ⟨z, hz, e⟩
      have kM : ∀ k ∈ Mk.map (fun q => q.2), M7 k := fun k hk => by
        obtain ⟨z, hz, e⟩ := kB k hk
        rw [← e]
        exact (I.lw z hz).2.1
      have kt : ∀ k ∈ Mk.map (fun q => q.2), 1 ≤ fstI k ∧ fstI k ≤ (i : Int) := fun k hk => by
        obtain ⟨z, hz, e⟩ := kB k hk
        obtain ⟨n, j, m, ed, _, hm, le⟩ := I.nb z hz
        obtain ⟨n', j', ed', hn', _⟩ := kM k hk
        have e1 : fstI k = n := by rw [← e, ed]; rfl
        have e2 : fstI k = n' := by rw [ed']; rfl
        have := (I.nt m (List.mem_of_getElem? hm)).2
        simp only [List.mem_cons, List.not_mem_nil, or_false] at hn'
        omega
      have lk : Mk.length ≤ 12 := by
        have y := nodup_le (l := Mk.map fun q => q.2) (m := dotsOf bk) (asc_nodup a3) fun k hk => D0.1 k ((kU k).mp hk)
        unfold dotsOf at y
        rw [List.length_map, List.length_map] at y
        have := I.B.len
        omega
      clear m1 m2 m3 c2 cellP mS eS mem3
      -- its number
      obtain ⟨m0, hg0⟩ := at4 I.n4 hi0
      have getN : ∀ {G : Hp} {ns : List Int} {m : Int}, G Dn = some (.dK (kvH (ns.map V.int))) → ns.length = 4 → ns[i0]? = some m → DGet G Dn (.str ⟨#[97 + i0]⟩) (some (V.int m)) := fun {G ns m} e l h => dget_of e (by rw [List.length_map]; exact l) hi0 (by rw [List.getElem?_map, h]; rfl)
      refine ⟨_, rfl, _, rfl, Dn, V.int m0, rfl, getN I.en I.n4 hg0, _, rfl, m0, kn, Mk.map fun q => q.2, rfl, ⟨Mk, .inl (.inl e3), d3.dots, rfl⟩, (fun k hk => (kM k hk).d3), (by rw [List.length_map]; omega), fun G4 mx s4 hmx => ?_⟩
      replace I := I.same s4
      have xG4 : Ext p H G4 := xG3.trans (Ext.of s4)
      have m0t := I.nt m0 (List.mem_of_getElem? hg0)
      have mx1 : m0 ≤ mx := hmx.2 m0 List.mem_cons_self
      have mx2 : mx ≤ (i : Int) := by
        rcases List.mem_cons.mp hmx.1 with e | e
        · omega
        · obtain ⟨k, hk, e⟩ := List.mem_map.mp e
          have := (kt k hk).2
          omega
      have mx3 : ∀ k ∈ Mk.map (fun q => q.2), fstI k ≤ mx := fun k hk => hmx.2 _ (List.mem_cons_of_mem _ (List.mem_map_of_mem hk))
      have I5 := I.putN (i := i0) (m0 := m0) (m := mx + 1) hi0 hg0 (by omega) (by omega)
      have e4k := s4 _ _ e3
      have d4k : DotsH G4 Mk := d3.same s4
      have xG5 : Ext p H (upd G4 Dn (.dK (kvH ((ns.map V.int).set i0 (V.int (mx + 1)))))) := Ext.new nDnH xG4
      have hk5 : SqT K (upd G4 Dn (.dK (kvH ((ns.map V.int).set i0 (V.int (mx + 1)))))) kn (Mk.map fun q => V.ref q.1) := Ext.put.tupN I.en trivial (.inl (.inl e4k))
      have dk5 : DotsH (upd G4 Dn (.dK (kvH ((ns.map V.int).set i0 (V.int (mx + 1)))))) Mk := Ext.put.dotsH I.en trivial d4k
      refine ⟨_, rfl, _, rfl, Dn, _, rfl, dput_of I.en (by rw [List.length_map]; exact I.n4) hi0, ?_⟩
      have fr : ([.inl (mx + 1), .inr ⟨#[97 + i0]⟩, .inl 1] : DK) ∉ dotsOf bk := fun hk => by
        obtain ⟨z, hz, e⟩ := List.mem_map.mp hk
        obtain ⟨n, j, m, ed, hj, hm, le⟩ := I.nb z hz
        rw [ed] at e
        injection e with e1 e2
        injection e1 with e1
        injection e2 with e2 e3
        injection e2 with e2
        have e2 := lett_ne.mp (show V.str ⟨#[97 + j]⟩ = V.str ⟨#[97 + i0]⟩ by rw [e2])
        subst e2
        rw [hg0] at hm
        obtain rfl := Option.some.inj hm
        omega
      have hgS : (ns.set i0 (mx + 1))[i0]? = some (mx + 1) := List.getElem?_set_self (by rw [I.n4]; exact hi0)
      have lenB : bk.length ≤ i := I.lt
      generalize upd G4 Dn (.dK (kvH ((ns.map V.int).set i0 (V.int (mx + 1))))) = G5 at I5 xG5 hk5 dk5 ⊢
      generalize ns.set i0 (mx + 1) = ns' at I5 hgS
      clear I hg0 hmx
      -- the version
      refine ⟨_, rfl, _, rfl, Dn, V.int (mx + 1), rfl, getN I5.en I5.n4 hgS, _, rfl, (by show 3 ≤ sizeLine; decide), fun d nd => ?_⟩
      obtain ⟨s6, e6⟩ := newo (o := .tup [V.int (mx + 1), V.str ⟨#[97 + i0]⟩, V.int 1]) nd
      generalize upd G5 d (.tup [V.int (mx + 1), V.str ⟨#[97 + i0]⟩, V.int 1]) = G6 at s6 e6 ⊢
      have I6 := I5.same s6
      obtain ⟨dk, hdk⟩ : ∃ dk : DK, dk = [.inl (mx + 1), .inr ⟨#[97 + i0]⟩, .inl 1] := ⟨_, rfl⟩
      have e6 : G6 d = some (.tup (dk.map kV)) := by rw [hdk]; exact e6
      rw [← hdk] at fr
      have fdk : fstI dk = mx + 1 := by rw [hdk]; rfl
      have mdk : M7 dk := by rw [hdk]; exact M7.mk (by omega) (by omega) hi0
      have kk : ∀ k ∈ Mk.map (fun q => q.2), M7 k ∧ fstI k < fstI dk := fun k hk => ⟨kM k hk, by have := mx3 k hk; rw [fdk]; omega⟩
      obtain ⟨vl, sh⟩ := ver7 (n := 0 + (i : Int)) mdk kk a3 (by omega) (by omega)
      have dk6 : DotsH G6 Mk := dk5.same s6
      have hk6 := same_sqT s6 hk5
      refine ⟨_, rfl, _, rfl, d, kn, V.int (0 + (i : Int)), _, rfl, dpAll_rd (.cons (dp_dot (.inl (.inl e6))) (.cons (.tup hk6 (dp_dots dk6.dots)) (.cons (.int _) .nil))) sh, vl, (fun x es hx he => ?_), fun G7 a s7 na e7 => ?_⟩
      · have hx : x = dD dk ∨ x = .tuple ((Mk.map fun q => q.2).map dD) ∨ x = .int (0 + (i : Int)) := by simpa using hx
        rcases hx with rfl | rfl | rfl
        · rw [hdk] at he
          have he : some [PyData.int (mx + 1), .str ⟨#[97 + i0]⟩, .int 1] = some es := he
          obtain rfl := Option.some.inj he
          exact (by decide : 3 < 64)
        · have he : some ((Mk.map fun q => q.2).map dD) = some es := he
          obtain rfl := Option.some.inj he
          rw [List.length_map, List.length_map]
          omega
        · cases he
      have I7 := I6.same s7
      have xG7 : Ext p H G7 := xG5.trans (Ext.of (s6.trans s7))
      obtain ⟨z, hz⟩ : ∃ z : Ver, z = ⟨a, (d, dk), kn, Mk, V.int (0 + (i : Int))⟩ := ⟨_, rfl⟩
      have za : z.a = a := by rw [hz]
      have zd : z.d.2 = dk := by rw [hz]
      have zk : keys z = Mk.map fun q => q.2 := by rw [hz]; rfl
      have lwz : LW K G7 z := by
        rw [hz]
        exact ⟨⟨.inl (.inl e7), s7 _ _ e6, same_sqT s7 hk6, dk6.same s7⟩, mdk, kk, a3, lk, _, rfl, by omega, by omega⟩
      rw [← zd] at fr
      have ksz : ∀ k, k ∈ keys z ↔ U k := fun k => by rw [zk]; exact kU k
      -- into the book
      have I8 := I7.app lwz fr D0 ksz hi0 (zd.trans hdk) hgS (by omega) (by omega)
      refine ⟨_, rfl, .inl ⟨rfl, _, SqL.of I7.eb⟩, _, rfl, lb, _, _, rfl, rfl, I7.eb, (by rw [List.length_map, sizeLine_eq]; omega), ?_⟩
      rw [za] at I8
      have xG8 : Ext p H (upd G7 lb (.lst ((bk.map fun z => V.ref z.a) ++ [V.ref a]))) := Ext.new nlbH xG7
      have Mz := MaxOf.new I7.B fr D0 ksz
      have Dz := Down.new fr D0 ksz
      have ez8 : SqT K (upd G7 lb (.lst ((bk.map fun z => V.ref z.a) ++ [V.ref a]))) a [.ref d, .ref kn, V.int (0 + (i : Int))] := Ext.put.tupN I7.eb trivial (.inl (.inl e7))
      generalize upd G7 lb (.lst ((bk.map fun z => V.ref z.a) ++ [V.ref a])) = G8 at I8 xG8 ez8 ⊢
      obtain ⟨bk', hbk'⟩ : ∃ bk', bk' = bk ++ [z] := ⟨_, rfl⟩
      rw [← hbk'] at I8 Mz Dz
      have getH : ∀ {G : Hp} {hs : List (Addr × List Ver)} {j : Nat} {c : Addr × List Ver}, G Dh = some (.dK (kvH (hs.map fun c => V.ref c.1))) → hs.length = 4 → j < 4 → hs[j]? = some c → DGet G Dh (.str ⟨#[97 + j]⟩) (some (V.ref c.1)) := fun {G hs j c} e l hj h => dget_of e (by rw [List.length_map]; exact l) hj (by rw [List.getElem?_map, h]; rfl)
      -- kept by some
      refine ⟨_, rfl, for_it (walk_str (z := "abcd")) (fun j σ G => (∃ y7, σ = [some (.ref p), some (.ref Dh), some (.ref Dn), some (.ref lb), some (.int (0 + (i : Int))), some (.str ⟨#[97 + i0]⟩), some (.ref E1), y7, some (.ref kn), some (.ref a), y10]) ∧ Ext p H G ∧ ∃ hs S, St7 K G p Dh Dn lb bk' hs S ns' (i + 1) ∧ Cov bk S ∧ (i0 < j → S i0 z.d.2)) ⟨⟨y7, rfl⟩, xG8, hs, S, I8, cov, fun h => absurd h (Nat.not_lt_zero _)⟩ (fun _ _ _ _ _ => trivial) (fun j y σ G G' hj hP hy => ?_) (fun σ G hP => ?_)⟩
      · obtain ⟨⟨y7, rfl⟩, xG, hs, S, I, cov, fin⟩ := hP
        obtain ⟨rfl, c, hc, rfl⟩ := hy
        obtain ⟨j4, rfl⟩ := lett_at hc
        -- the keeping
        have keep : ∀ {G1 : Hp}, Ext p H G1 → St7 K G1 p Dh Dn lb bk' hs S ns' (i + 1) → ∀ {Z : (L2.St → Hp → Prop)}, (∀ G2, (Ext p H G2 ∧ ∃ hs S, St7 K G2 p Dh Dn lb bk' hs S ns' (i + 1) ∧ Cov bk S ∧ (i0 < j + 1 → S i0 z.d.2)) → Z [some (.ref p), some (.ref Dh), some (.ref Dn), some (.ref lb), some (.int (0 + (i : Int))), some (.str ⟨#[97 + i0]⟩), some (.ref E1), some (.str ⟨#[97 + j]⟩), some (.ref kn), some (.ref a), y10] G2) →
            ∃ v, [some (.ref p), some (.ref Dh), some (.ref Dn), some (.ref lb), some (.int (0 + (i : Int))), some (.str ⟨#[97 + i0]⟩), some (.ref E1), some (.str ⟨#[97 + j]⟩), some (.ref kn), some (.ref a), y10][1]? = some (some v) ∧ ∃ u, [some (.ref p), some (.ref Dh), some (.ref Dn), some (.ref lb), some (.int (0 + (i : Int))), some (.str ⟨#[97 + i0]⟩), some (.ref E1), some (.str ⟨#[97 + j]⟩), some (.ref kn), some (.ref a), y10][7]? = some (some u) ∧ ∃ b x, v = .ref b ∧ DGet G1 b u (some x) ∧ ∃ t, [some (.ref p), some (.ref Dh), some (.ref Dn), some (.ref lb), some (.int (0 + (i : Int))), some (.str ⟨#[97 + i0]⟩), some (.ref E1), some (.str ⟨#[97 + j]⟩), some (.ref kn), some (.ref a), y10][9]? = some (some t) ∧ 1 ≤ sizeLine ∧ ∀ t1, G1 t1 = none → 2 ≤ sizeLine ∧ ∀ l, (upd G1 t1 (.tup [t])) l = none → spJoin K [.ref l] (upd (upd G1 t1 (.tup [t])) l (.lst [x, .ref t1])) (fun v2 H2 => ∃ v, [some (.ref p), some (.ref Dh), some (.ref Dn), some (.ref lb), some (.int (0 + (i : Int))), some (.str ⟨#[97 + i0]⟩), some (.ref E1), some (.str ⟨#[97 + j]⟩), some (.ref kn), some (.ref a), y10][1]? = some (some v) ∧ ∃ u, [some (.ref p), some (.ref Dh), some (.ref Dn), some (.ref lb), some (.int (0 + (i : Int))), some (.str ⟨#[97 + i0]⟩), some (.ref E1), some (.str ⟨#[97 + j]⟩), some (.ref kn), some (.ref a), y10][7]? = some (some u) ∧ ∃ b H4, v = .ref b ∧ DPut H2 b u v2 H4 ∧ Z [some (.ref p), some (.ref Dh), some (.ref Dn), some (.ref lb), some (.int (0 + (i : Int))), some (.str ⟨#[97 + i0]⟩), some (.ref E1), some (.str ⟨#[97 + j]⟩), some (.ref kn), some (.ref a), y10] H4) E0 := by
          intro G1 x1 I1 Z done
          obtain ⟨c, hg⟩ := at4 I1.l4 j4
          refine ⟨_, rfl, _, rfl, Dh, V.ref c.1, rfl, getH I1.eh I1.l4 j4 hg, _, rfl, (by decide), fun t1 nt1 => ⟨(by decide), fun l nl => ?_⟩⟩
          obtain ⟨s1, e1⟩ := newo (o := .tup [V.ref a]) nt1
          generalize upd G1 t1 (.tup [V.ref a]) = G2 at s1 e1 nl ⊢
          obtain ⟨s2, e2⟩ := newo (o := .lst [V.ref c.1, V.ref t1]) nl
          generalize upd G2 l (.lst [V.ref c.1, V.ref t1]) = G3 at s2 e2 ⊢
          have I3 := I1.same (s1.trans s2)
          refine join2 I3 (c := c) (d := (t1, [z])) e2 (I3.ct c (List.mem_of_getElem? hg)) (.inl (.inl (by rw [List.map_cons, List.map_nil, za]; exact s2 _ _ e1))) (I3.mx j c hg) Mz (I3.dn j) Dz fun G4 r ls s3 hr' Mr Dr => ?_
          have I4 := I3.same s3
          refine ⟨_, rfl, _, rfl, Dh, _, rfl, dput_of I4.eh (by rw [List.length_map]; exact I4.l4) j4, done _ ⟨Ext.new nDh (x1.trans (Ext.of (s1.trans (s2.trans s3)))), _, _, I4.putH (c := (r, ls)) j4 hr' Mr Dr, fun y hy => ?_, fun hlt => ?_⟩⟩
          · obtain ⟨m, hm, sm⟩ := cov y hy
            refine ⟨m, hm, ?_⟩
            show (if m = j then _ else S m) y.d.2
            by_cases e : m = j
            · rw [if_pos e]
              subst e
              exact .inl sm
            · rw [if_neg e]
              exact sm
          · show (if i0 = j then _ else S i0) z.d.2
            by_cases e : i0 = j
            · rw [if_pos e]
              exact .inr (.inl rfl)
            · rw [if_neg e]
              exact fin (by omega)
        refine ⟨_, rfl, _, rfl, rfl, _, rfl, ?_⟩
        by_cases en : j = i0
        · rw [decide_eq_true (lett_ne.mpr en)]
          exact iteT (iteT (keep xG I fun G2 h => ⟨⟨_, rfl⟩, h⟩))
        · rw [decide_eq_false (fun y => en (lett_ne.mp y))]
          refine iteF ⟨_, rfl, p, 3, rfl, I.pool, (by decide), (by decide), fun G1 r x1 p1 _ r0 r1 => ⟨rfl, _, rfl, ?_⟩⟩
          by_cases hr0 : r = 0
          · rw [decide_eq_true (show V.int r = V.int 0 by rw [hr0])]
            exact iteT (keep (xG.trans x1) (I.draw x1 p1) fun G2 h => ⟨⟨_, rfl⟩, h⟩)
          · rw [decide_eq_false (show ¬ V.int r = V.int 0 from fun y => hr0 (by injection y))]
            exact iteF ⟨⟨_, rfl⟩, xG.trans x1, hs, S, I.draw x1 p1, cov, fun hlt => fin (by omega)⟩
      -- two houses join
      obtain ⟨⟨y7', rfl⟩, xG, hs, S, I, cov, fin⟩ := hP
      have cov' : Cov bk' S := fun y hy => by
        rw [hbk'] at hy
        rcases List.mem_append.mp hy with hy | hy
        · exact cov y hy
        · rw [List.mem_singleton.mp hy]
          exact ⟨i0, hi0, fin hi0⟩
      refine ⟨_, rfl, p, 3, rfl, I.pool, (by decide), (by decide), fun G1 r x1 p1 _ r0 r1 => ⟨rfl, _, rfl, ?_⟩⟩
      replace I := I.draw x1 p1
      have xH1 : Ext p H G1 := xG.trans x1
      by_cases hr0 : r = 0
      · rw [decide_eq_true (show V.int r = V.int 0 by rw [hr0])]
        refine iteT ⟨_, rfl, p, 4, rfl, I.pool, (by decide), (by decide), fun G2 ra x2 p2 _ ra0 ra1 => ?_⟩
        obtain ⟨j1, hj1, rfl, el1⟩ := lett ra0 ra1
        replace I := I.draw x2 p2
        refine ⟨_, _, 97 + j1, rfl, rfl, (by decide), el1, _, rfl, p, 4, rfl, I.pool, (by decide), (by decide), fun G3 rb x3 p3 _ rb0 rb1 => ?_⟩
        obtain ⟨j2, hj2, rfl, el2⟩ := lett rb0 rb1
        replace I := I.draw x3 p3
        have xH3 : Ext p H G3 := xH1.trans (x2.trans x3)
        obtain ⟨c1, hg1⟩ := at4 I.l4 hj1
        obtain ⟨c2, hg2⟩ := at4 I.l4 hj2
        refine ⟨_, _, 97 + j2, rfl, rfl, (by decide), el2, _, _, rfl, ?_⟩
        refine ⟨_, rfl, _, rfl, Dh, V.ref c1.1, rfl, getH I.eh I.l4 hj1 hg1, _, rfl, _, rfl, Dh, V.ref c2.1, rfl, getH I.eh I.l4 hj2 hg2, (by show 2 ≤ sizeLine; decide), fun l nl => ?_⟩
        obtain ⟨s4, e4⟩ := newo (o := .lst [V.ref c1.1, V.ref c2.1]) nl
        generalize upd G3 l (.lst [V.ref c1.1, V.ref c2.1]) = G4 at s4 e4 ⊢
        replace I := I.same s4
        dsimp only [tNil]
        change spJoin K [V.ref l] G4 _ _
        refine join2 I e4 (I.ct c1 (List.mem_of_getElem? hg1)) (I.ct c2 (List.mem_of_getElem? hg2)) (I.mx j1 c1 hg1) (I.mx j2 c2 hg2) (I.dn j1) (I.dn j2) fun G5 r ls s5 hr' Mr Dr => ?_
        replace I := I.same s5
        refine ⟨_, rfl, _, rfl, Dh, _, rfl, dput_of I.eh (by rw [List.length_map]; exact I.l4) hj1, ⟨_, _, _, _, _, _, _, rfl⟩, Ext.new nDh (xH3.trans (Ext.of (s4.trans s5))), bk', _, _, ns', I.putH (c := (r, ls)) hj1 hr' Mr Dr, fun y hy => ?_⟩
        obtain ⟨m, hm, sm⟩ := cov' y hy
        refine ⟨m, hm, ?_⟩
        show (if m = j1 then _ else S m) y.d.2
        by_cases e : m = j1
        · rw [if_pos e]
          subst e
          exact .inl sm
        · rw [if_neg e]
          exact sm
      · rw [decide_eq_false (show ¬ V.int r = V.int 0 from fun y => hr0 (by injection y))]
        exact iteF ⟨⟨_, _, _, _, _, _, _, rfl⟩, xH1, bk', hs, S, ns', I, cov'⟩
    · obtain ⟨⟨y4, y5, y6, y7, y8, y9, y10, rfl⟩, xG, bk, hs, S, ns, I, cov⟩ := hP
      refine ⟨_, rfl, _, rfl, (by show 2 ≤ sizeLine; decide), fun r nr => ?_⟩
      obtain ⟨s1, e1⟩ := newo (o := .tup [V.ref Dh, V.ref lb]) nr
      have J := I.same s1
      refine q _ r Dh Dn lb bk hs S ns (xG.trans (Ext.of s1)) e1 ⟨J.pool, J.eh, J.en, J.eb, J.n1, J.n2, J.lw, J.ct, J.l4, J.n4, J.B, J.mx, J.dn, J.nb, fun m hm => ?_, J.B.len⟩ cov
      have := J.nt m hm
      omega
end
end K01

set_option Elab.async false
set_option linter.all false
set_option maxRecDepth 100000
set_option maxHeartbeats 4000000
namespace VS
open PySem PySem.Spec PyProof.Rows L2 MS K01
section
variable {X : Cx}
theorem op_notInDL {K : PySem.W.Frag} (hK : X.K = K) (hu : X.A.units + 65 < cLine) : OpR X (compareOp .NotIn) (rNotInD K) := by
  subst hK
  exact op_notInD hu
theorem call_isiK' {K : PySem.W.Frag} (hK : X.K = K) : CallR X (.builtin "isinstance") (rIsi K) := by
  subst hK
  exact call_isi
end
end VS
namespace K01
open PySem PySem.Spec PyProof.Rows L2 MS
theorem dep_all {n : Nat} : ∀ {ds : List PyData}, (∀ d ∈ ds, d.depth ≤ n) → PyData.depthAll ds ≤ n
  | [], _ => by rw [PyData.depthAll]; exact Nat.zero_le _
  | d :: ds, h => by
    have a := h d List.mem_cons_self
    have b := dep_all (ds := ds) fun e he => h e (List.mem_cons_of_mem _ he)
    rw [PyData.depthAll]
    omega
/-! ### data that can be laid -/
def Cl (d : PyData) (m : Nat) : Prop := d.canLay0 = true ∧ d.depth ≤ m
theorem lay_all : ∀ {ds : List PyData}, (∀ d ∈ ds, d.canLay0 = true) → PyData.canLayAll0 ds = true
  | [], _ => by rw [PyData.canLayAll0]
  | d :: ds, h => by
    rw [PyData.canLayAll0, h d List.mem_cons_self, lay_all fun e he => h e (List.mem_cons_of_mem _ he)]
    rfl
theorem Cl.tup {ds : List PyData} {m : Nat} (h : ∀ d ∈ ds, Cl d m) : Cl (.tuple ds) (m + 1) := by
  have c := dep_all (n := m) fun d hd => (h d hd).2
  exact ⟨by rw [PyData.canLay0]; exact lay_all fun d hd => (h d hd).1, by rw [PyData.depth]; omega⟩
theorem Cl.lst {ds : List PyData} {m : Nat} (h : ∀ d ∈ ds, Cl d m) : Cl (.list ds) (m + 1) := by
  have c := dep_all (n := m) fun d hd => (h d hd).2
  exact ⟨by rw [PyData.canLay0]; exact lay_all fun d hd => (h d hd).1, by rw [PyData.depth]; omega⟩
theorem Cl.mono {d : PyData} {m n : Nat} (h : Cl d m) (a : m ≤ n) : Cl d n := ⟨h.1, Nat.le_trans h.2 a⟩
theorem Cl.shaped {d : PyData} {m : Nat} (h : Cl d m) (a : m ≤ 64) : SeqAt.shaped d = true := by
  unfold SeqAt.shaped
  rw [h.1, decide_eq_true (Nat.le_trans h.2 a)]
  rfl
theorem Cl.of_shaped {d : PyData} {m : Nat} (h : SeqAt.shaped d = true) (a : d.depth ≤ m) : Cl d m := by
  unfold SeqAt.shaped at h
  rw [Bool.and_eq_true] at h
  exact ⟨h.1, a⟩
theorem Cl.eqv {d : PyData} {m : Nat} (h : Cl d m) : PyData.eqv d d = true := SeqAt.eqv_refl d h.1
theorem dp_all {K : PySem.W.Frag} {H : Hp} {α : Type} {v : α → V} {d : α → PyData} : ∀ {xs : List α}, (∀ x ∈ xs, Dp K H (v x) (d x)) → DpAll K H (xs.map v) (xs.map d)
  | [], _ => .nil
  | x :: xs, h => .cons (h x List.mem_cons_self) (dp_all fun y hy => h y (List.mem_cons_of_mem _ hy))

def verD (z : Ver) : PyData := .tuple (vData z (wdV z.wv))
def cellD (zs : List Ver) : PyData := .tuple (zs.map verD)
theorem LW.dp {K : PySem.W.Frag} {H : Hp} {z : Ver} (h : LW K H z) : Dp K H (.ref z.a) (verD z) := by
  obtain ⟨⟨v1, v2, v3, v4⟩, _, _, _, _, n, en, _, _⟩ := h
  unfold verD
  rw [en] at v1 ⊢
  exact .tup v1 (.cons (dp_dot (.inl (.inl v2))) (.cons (.tup v3 (dp_dots v4.dots)) (.cons (.int n) .nil)))
theorem LW.cl {K : PySem.W.Frag} {H : Hp} {z : Ver} (h : LW K H z) : Cl (verD z) 3 := by
  obtain ⟨_, h2, h3, _, _, n, en, _, _⟩ := h
  have cd : ∀ {k : DK}, M7 k → Cl (dD k) 1 := fun {k} m => .of_shaped (dot_shaped (m7_ok m).2.1) (m7_ok m).2.2.1
  unfold verD
  rw [en]
  refine Cl.tup (m := 2) fun d hd => ?_
  have hd : d = dD z.d.2 ∨ d = .tuple ((z.L.map fun q => q.2).map dD) ∨ d = .int n := by simpa [vData, wdV] using hd
  rcases hd with rfl | rfl | rfl
  · exact (cd h2).mono (by decide)
  · refine Cl.tup (m := 1) fun d hd => ?_
    obtain ⟨k, hk, rfl⟩ := List.mem_map.mp hd
    exact cd (h3 k hk).1
  · exact ⟨by rw [PyData.canLay0], by rw [PyData.depth]; decide⟩
theorem cell_dp {K : PySem.W.Frag} {H : Hp} {a : Addr} {zs : List Ver} (h : SqT K H a (zs.map fun z => V.ref z.a)) (l : ∀ z ∈ zs, LW K H z) : Dp K H (.ref a) (cellD zs) := .tup h (dp_all fun z hz => (l z hz).dp)
theorem cell_cl {K : PySem.W.Frag} {H : Hp} {zs : List Ver} (l : ∀ z ∈ zs, LW K H z) : Cl (cellD zs) 4 := Cl.tup (m := 3) fun d hd => by
  obtain ⟨z, hz, rfl⟩ := List.mem_map.mp hd
  exact (l z hz).cl
/-! ### a list with one taken out -/
theorem er_map {α β : Type} (g : α → β) : ∀ (l : List α) (k : Nat), (l.map g).eraseIdx k = (l.eraseIdx k).map g
  | [], _ => rfl
  | _ :: _, 0 => rfl
  | a :: l, k + 1 => by
    show g a :: (l.map g).eraseIdx k = g a :: (l.eraseIdx k).map g
    rw [er_map g l k]
theorem er_mem {α : Type} : ∀ {l : List α} {k : Nat} {x : α}, l[k]? = some x → (∀ q, q ∈ l ↔ q = x ∨ q ∈ l.eraseIdx k) ∧ (l.eraseIdx k).length + 1 = l.length
  | [], _, _, h => nomatch h
  | a :: l, 0, x, h => by
    have h : a = x := Option.some.inj h
    subst h
    exact ⟨fun q => List.mem_cons, rfl⟩
  | a :: l, k + 1, x, h => by
    have h : l[k]? = some x := h
    obtain ⟨h1, h2⟩ := er_mem h
    refine ⟨fun q => ?_, ?_⟩
    · show q ∈ a :: l ↔ q = x ∨ q ∈ a :: l.eraseIdx k
      rw [List.mem_cons, List.mem_cons, h1 q]
      constructor
      · rintro (h | h | h)
        · exact .inr (.inl h)
        · exact .inl h
        · exact .inr (.inr h)
      · rintro (h | h | h)
        · exact .inr (.inl h)
        · exact .inl h
        · exact .inr (.inr h)
    · show (l.eraseIdx k).length + 1 + 1 = l.length + 1
      rw [h2]
theorem seq_nat {i n : Nat} (h : i < n) : seqIndex? (i : Int) n = some i := by
  unfold seqIndex?
  have h1 : ¬ (i : Int) < 0 := by omega
  simp only [if_neg h1]
  rw [if_pos]
  · rfl
  · rw [Bool.and_eq_true, decide_eq_true_eq, decide_eq_true_eq]
    omega
section
variable {P : Program} {w : World} {K : PySem.W.Frag} {mg : PySem.Str → Option Value} {base : Heap} {f : Addr} {fd : FuncData} {k : Nat}
abbrev CS := (Addr × List Ver) × (DK → Prop)
def Ok7 (K : PySem.W.Frag) (H : Hp) (bk : List Ver) (q : CS) : Prop := SqT K H q.1.1 (q.1.2.map fun z => V.ref z.a) ∧ MaxOf bk q.2 q.1.2 ∧ Down bk q.2
theorem Ok7.same {H H' : Hp} {bk : List Ver} {q : CS} (s : Same H H') (h : Ok7 K H bk q) : Ok7 K H' bk q := ⟨same_sqT s h.1, h.2⟩
theorem Ok7.ext {H H' : Hp} {bk : List Ver} {q : CS} {p : Addr} {o : HO} (e : Ext p H H') (hp : H p = some o) (n : NT o) (h : Ok7 K H bk q) : Ok7 K H' bk q := ⟨e.tupN hp n h.1, h.2⟩
def spPa (K : PySem.W.Frag) : Sp := fun vs H Q _ => ∃ (p l Dh Dn lb : Addr) (bk : List Ver) (hs : List (Addr × List Ver)) (S : Nat → DK → Prop) (ns : List Int) (ps : List CS), vs = [.ref p, .ref l] ∧ St7 K H p Dh Dn lb bk hs S ns 12 ∧ SqL K H l (ps.map fun q => V.ref q.1.1) ∧ (∀ q ∈ ps, Ok7 K H bk q) ∧ ps.length = 4 ∧
  ∀ H' r ls, Ext p H H' → Pool H' p → SqT K H' r ((ls : List Ver).map fun z => V.ref z.a) → MaxOf bk (fun k => ∃ q ∈ ps, q.2 k) ls → Q (.ref r) H'
abbrev NPA : List PySem.Str := ["_law_pool", "_law_cells", "_law_left", "_law_again", "_law_one", "_law_two"]
theorem sc_pa : FnScope NPA ["_law_pool", "_law_cells"] (defScope (topS 34)) := ⟨rfl, rfl, rfl, by decide +kernel, rfl, by decide +kernel, by decide +kernel⟩
theorem ok_pa (B : Bt mg) (cD : Ca P w K mg base 1 "_law_draw" ["_law_pool", "_law_size"] spDraw) (cJ : Ca P w K mg base 7 "joined" ["cells"] (spJoin K)) (F : Fun K "_law_paired" "_law_paired" (topS 34) f fd) : FnOk P w K mg base CX0 8 f fd ["_law_pool", "_law_cells"] (spPa K) := by
  refine F.ok sc_pa (fun vs H Q E h => ?_) (fun cdv A outer s H vs Q E hr h => ?_)
  · obtain ⟨p, l, Dh, Dn, lb, bk, hs, S, ns, ps, rfl, _⟩ := h; rfl
  · obtain ⟨p, l, Dh, Dn, lb, bk, hs, S, ns, ps, rfl, I, hl, ok, l4, q⟩ := h
    refine ⟨_, pss_cons (ps_set (i := 2) sc_pa.nd rfl (.inl rfl) (pe_callTy call_list_of (by rfl) B.list boot_list (pa_cons (pv 1) pa_nil)))
      (pss_cons (ps_set (i := 3) sc_pa.nd rfl (.inl rfl) pe_int)
      (pss_cons (ps_while PassesOwn.never (pt_cmpR op_gt (pe_callB call_len_seq (by rfl) B.len PySem.boot_len (pa_cons (pv 2) pa_nil)) pe_int (nomark _))
        (pss_cons (ps_set (i := 4) sc_pa.nd rfl (.inl rfl) (pe_bm PySem.F.plainAttrs_list PySem.F.slot_list_pop PySem.F.type_list_pop mt_popAt (pv 2) (pa_cons (pe_ca cD (hr.mono (by decide)) (by rfl) pass0 (pa_cons (pv 0) (pa_cons (pe_callB call_len_seq (by rfl) B.len PySem.boot_len (pa_cons (pv 2) pa_nil)) pa_nil))) pa_nil)))
        (pss_cons (ps_set (i := 5) sc_pa.nd rfl (.inl rfl) (pe_bm PySem.F.plainAttrs_list PySem.F.slot_list_pop PySem.F.type_list_pop mt_popAt (pv 2) (pa_cons (pe_ca cD (hr.mono (by decide)) (by rfl) pass0 (pa_cons (pv 0) (pa_cons (pe_callB call_len_seq (by rfl) B.len PySem.boot_len (pa_cons (pv 2) pa_nil)) pa_nil))) pa_nil)))
        (pss_cons (ps_expr (pe_bm PySem.F.plainAttrs_list PySem.F.slot_list_append PySem.F.type_list_append mt_append (pv 2) (pa_cons (pe_ca cJ hr (by rfl) pass0 (pa_cons (pe_lst (pa_cons (pv 4) (pa_cons (pv 5) pa_nil))) pa_nil)) pa_nil)))
        (pss_one (ps_if (PW.pt (pw_and (pt_cmpR op_gt (pv 3) pe_int (nomark _)) (pw_and1 (pt_cmpR op_eq (pe_ca cD (hr.mono (by decide)) (by rfl) pass0 (pa_cons (pv 0) (pa_cons pe_int pa_nil))) pe_int (nomark _)))))
          (pss_cons (ps_expr (pe_bm PySem.F.plainAttrs_list PySem.F.slot_list_append PySem.F.type_list_append mt_append (pv 2) (pa_cons (pv 4) pa_nil)))
          (pss_one (ps_set (i := 3) sc_pa.nd rfl (.inl rfl) (pe_op op_sub (pv 3) pe_int)))) pss_nil))))))
      (pss_one (ps_ret (pe_ix (ix_list) (pv 2) pe_int (fun _ _ => rfl)))))), ?_⟩
    refine ⟨_, rfl, l, _, rfl, .inl hl, fun ll nll => ?_⟩
    obtain ⟨s0, e0⟩ := newo (o := .lst (ps.map fun q => V.ref q.1.1)) nll
    generalize upd H ll (.lst (ps.map fun q => V.ref q.1.1)) = H0 at s0 e0 ⊢
    have nlp : ll ≠ p := fun z => by
      obtain ⟨ys, hy⟩ := I.pool.is
      rw [z, hy] at nll
      cases nll
    have nle : ll ≠ Dh ∧ ll ≠ Dn ∧ ll ≠ lb := ⟨(fun z => by rw [z, I.eh] at nll; cases nll), (fun z => by rw [z, I.en] at nll; cases nll), (fun z => by rw [z, I.eb] at nll; cases nll)⟩
    -- what stays through the turns
    obtain ⟨Wv, hWv⟩ : ∃ Wv : Nat → L2.St → Hp → Prop, Wv = fun m σ G => ∃ (ag : Int) (y4 y5 : Option V) (cur : List CS), σ = [some (.ref p), some (.ref l), some (.ref ll), some (.int ag), y4, y5] ∧ 0 ≤ ag ∧ ag ≤ 12 ∧ Ext p H G ∧ St7 K G p Dh Dn lb bk hs S ns 12 ∧ G ll = some (.lst (cur.map fun q => V.ref q.1.1)) ∧ (∀ q ∈ cur, Ok7 K G bk q) ∧ 1 ≤ cur.length ∧ cur.length ≤ 4 ∧ (∀ k, (∃ q ∈ cur, q.2 k) ↔ ∃ q ∈ ps, q.2 k) ∧ m = cur.length + ag.toNat := ⟨_, rfl⟩
    have put : ∀ {G : Hp} {xs : List V} {o : List V}, St7 K G p Dh Dn lb bk hs S ns 12 → G ll = some (.lst xs) → St7 K (upd G ll (.lst o)) p Dh Dn lb bk hs S ns 12 := fun {G xs o} J e => by
      have x : Ext ll G (upd G ll (.lst o)) := Ext.put
      refine ⟨?_, x _ _ (Ne.symm nle.1) J.eh, x _ _ (Ne.symm nle.2.1) J.en, x _ _ (Ne.symm nle.2.2) J.eb, J.n1, J.n2, fun z hz => (J.lw z hz).ext x e trivial, fun c hc => x.tupN e trivial (J.ct c hc), J.l4, J.n4, J.B, J.mx, J.dn, J.nb, J.nt, J.lt⟩
      obtain ⟨u, v, hu, rest⟩ := J.pool
      exact ⟨u, v, x _ _ (Ne.symm nlp) hu, rest⟩
    refine ⟨Wv, ⟨ps.length + (12 : Int).toNat, ?_⟩, fun m σ G hW => ?_⟩
    · rw [hWv]
      exact ⟨12, none, none, ps, rfl, by decide, by decide, Ext.of s0, I.same s0, e0, fun q hq => (ok q hq).same s0, by omega, by omega, fun _ => Iff.rfl, rfl⟩
    rw [hWv] at hW
    obtain ⟨ag, y4, y5, cur, rfl, g0, g1, xG, I, eL, okc, c1, c4, un, rfl⟩ := hW
    refine ⟨_, rfl, ll, _, rfl, .inl (SqL.of eL), (((cur.map fun q => V.ref q.1.1).length : Nat) : Int), 1, rfl, rfl, _, rfl, ?_⟩
    rw [List.length_map]
    by_cases hc : (1 : Int) < (cur.length : Int)
    · rw [decide_eq_true hc]
      refine iteT ⟨fun σ' H' => ∃ m', m' < cur.length + ag.toNat ∧ Wv m' σ' H', fun σ' H' h => h, ?_⟩
      -- one is taken
      refine ⟨_, rfl, .inl ⟨rfl, _, SqL.of eL⟩, _, rfl, _, rfl, ll, _, rfl, .inl (SqL.of eL), p, _, rfl, I.pool, (by rw [List.length_map]; omega), (by rw [List.length_map]; omega), fun G1 r x1 p1 _ r0 r1 => ?_⟩
      rw [List.length_map] at r1
      obtain ⟨i, rfl⟩ : ∃ i : Nat, r = (i : Int) := ⟨r.toNat, by omega⟩
      have hi : i < cur.length := by omega
      obtain ⟨a, ha⟩ : ∃ a, cur[i]? = some a := ⟨cur[i], List.getElem?_eq_getElem hi⟩
      have eL1 := x1 _ _ nlp eL
      obtain ⟨yp, hyp⟩ := I.pool.is
      have okc1 : ∀ q ∈ cur, Ok7 K G1 bk q := fun q hq => (okc q hq).ext x1 hyp trivial
      replace I := I.draw x1 p1
      obtain ⟨mem1, len1⟩ := er_mem ha
      have oka := okc1 a ((mem1 a).mpr (.inl rfl))
      refine ⟨ll, _, (i : Int), i, V.ref a.1.1, rfl, rfl, eL1, (by omega), (by omega), seq_nat (by rw [List.length_map]; exact hi), (by rw [List.getElem?_map, ha]; rfl), ?_⟩
      rw [er_map]
      obtain ⟨c2, hc2⟩ : ∃ c2, c2 = cur.eraseIdx i := ⟨_, rfl⟩
      rw [← hc2] at mem1 len1 ⊢
      have eL2 : (upd G1 ll (.lst (c2.map fun q => V.ref q.1.1))) ll = some (.lst (c2.map fun q => V.ref q.1.1)) := upd_same
      have xH2 : Ext p H (upd G1 ll (.lst (c2.map fun q => V.ref q.1.1))) := Ext.new nll (xG.trans x1)
      have okc2 : ∀ q ∈ cur, Ok7 K (upd G1 ll (.lst (c2.map fun q => V.ref q.1.1))) bk q := fun q hq => (okc1 q hq).ext Ext.put eL1 trivial
      replace I := put (o := c2.map fun q => V.ref q.1.1) I eL1
      generalize upd G1 ll (.lst (c2.map fun q => V.ref q.1.1)) = G2 at eL2 xH2 okc2 I ⊢
      clear okc1 oka eL1 x1 p1 xG eL okc hyp
      -- and a second one
      refine ⟨_, rfl, .inl ⟨rfl, _, SqL.of eL2⟩, _, rfl, _, rfl, ll, _, rfl, .inl (SqL.of eL2), p, _, rfl, I.pool, (by rw [List.length_map]; omega), (by rw [List.length_map]; omega), fun G3 r x3 p3 _ r0 r1 => ?_⟩
      rw [List.length_map] at r1
      obtain ⟨j, rfl⟩ : ∃ j : Nat, r = (j : Int) := ⟨r.toNat, by omega⟩
      have hj : j < c2.length := by omega
      obtain ⟨b, hb⟩ : ∃ b, c2[j]? = some b := ⟨c2[j], List.getElem?_eq_getElem hj⟩
      have eL3 := x3 _ _ nlp eL2
      obtain ⟨yp, hyp⟩ := I.pool.is
      have okc3 : ∀ q ∈ cur, Ok7 K G3 bk q := fun q hq => (okc2 q hq).ext x3 hyp trivial
      replace I := I.draw x3 p3
      obtain ⟨mem2, len2⟩ := er_mem hb
      refine ⟨ll, _, (j : Int), j, V.ref b.1.1, rfl, rfl, eL3, (by omega), (by omega), seq_nat (by rw [List.length_map]; exact hj), (by rw [List.getElem?_map, hb]; rfl), ?_⟩
      rw [er_map]
      obtain ⟨c3, hc3⟩ : ∃ c3, c3 = c2.eraseIdx j := ⟨_, rfl⟩
      rw [← hc3] at mem2 len2 ⊢
      have eL4 : (upd G3 ll (.lst (c3.map fun q => V.ref q.1.1))) ll = some (.lst (c3.map fun q => V.ref q.1.1)) := upd_same
      have xH4 : Ext p H (upd G3 ll (.lst (c3.map fun q => V.ref q.1.1))) := Ext.new nll (xH2.trans x3)
      have okc4 : ∀ q ∈ cur, Ok7 K (upd G3 ll (.lst (c3.map fun q => V.ref q.1.1))) bk q := fun q hq => (okc3 q hq).ext Ext.put eL3 trivial
      replace I := put (o := c3.map fun q => V.ref q.1.1) I eL3
      generalize upd G3 ll (.lst (c3.map fun q => V.ref q.1.1)) = G4 at eL4 xH4 okc4 I ⊢
      clear okc3 eL3 x3 p3 eL2 okc2 hyp xH2
      have inA : a ∈ cur := (mem1 a).mpr (.inl rfl)
      have inB : b ∈ cur := (mem1 b).mpr (.inr ((mem2 b).mpr (.inl rfl)))
      -- joined
      refine ⟨_, rfl, .inl ⟨rfl, _, SqL.of eL4⟩, _, rfl, _, rfl, (by show 2 ≤ sizeLine; decide), fun nl nnl => ?_⟩
      obtain ⟨s5, e5⟩ := newo (o := .lst [V.ref a.1.1, V.ref b.1.1]) nnl
      generalize upd G4 nl (.lst [V.ref a.1.1, V.ref b.1.1]) = G5 at s5 e5 ⊢
      replace I := I.same s5
      have okc5 : ∀ q ∈ cur, Ok7 K G5 bk q := fun q hq => (okc4 q hq).same s5
      have ka := okc5 a inA
      have kb := okc5 b inB
      dsimp only [tNil]
      change spJoin K [V.ref nl] G5 _ _
      refine join2 I (c := a.1) (d := b.1) e5 ka.1 kb.1 ka.2.1 kb.2.1 ka.2.2 kb.2.2 fun G6 r ls s6 hr' Mr Dr => ?_
      replace I := I.same s6
      have okc6 : ∀ q ∈ cur, Ok7 K G6 bk q := fun q hq => (okc5 q hq).same s6
      have eL6 := s6 _ _ (s5 _ _ eL4)
      have xH6 : Ext p H G6 := xH4.trans (Ext.of (s5.trans s6))
      obtain ⟨nw, hnw⟩ : ∃ nw : CS, nw = ((r, ls), fun k => a.2 k ∨ b.2 k) := ⟨_, rfl⟩
      have okn : Ok7 K G6 bk nw := by rw [hnw]; exact ⟨hr', Mr, Dr⟩
      have nr : nw.1.1 = r := by rw [hnw]
      have eL7 : (upd G6 ll (.lst ((c3.map fun q => V.ref q.1.1) ++ [V.ref r]))) ll = some (.lst ((c3 ++ [nw]).map fun q => V.ref q.1.1)) := by
        rw [upd_same, List.map_append, List.map_cons, List.map_nil, nr]
      refine ⟨ll, _, _, rfl, rfl, eL6, (by rw [List.length_map, sizeLine_eq]; omega), ?_⟩
      have xH7 : Ext p H (upd G6 ll (.lst ((c3.map fun q => V.ref q.1.1) ++ [V.ref r]))) := Ext.new nll xH6
      have okc7 : ∀ q ∈ a :: c3 ++ [nw], Ok7 K (upd G6 ll (.lst ((c3.map fun q => V.ref q.1.1) ++ [V.ref r]))) bk q := fun q hq => by
        refine Ok7.ext Ext.put eL6 trivial ?_
        rcases List.mem_append.mp hq with hq | hq
        · rcases List.mem_cons.mp hq with rfl | hq
          · exact okc6 q inA
          · exact okc6 q ((mem1 q).mpr (.inr ((mem2 q).mpr (.inr hq))))
        · rw [List.mem_singleton.mp hq]
          exact okn
      replace I := put (o := (c3.map fun q => V.ref q.1.1) ++ [V.ref r]) I eL6
      generalize upd G6 ll (.lst ((c3.map fun q => V.ref q.1.1) ++ [V.ref r])) = G7 at eL7 xH7 okc7 I ⊢
      clear okc6 okc5 okc4 eL6 xH6 eL4 xH4 okn
      have un7 : ∀ k, (∃ q ∈ c3 ++ [nw], q.2 k) ↔ ∃ q ∈ ps, q.2 k := fun k => by
        rw [← un k]
        constructor
        · rintro ⟨q, hq, h⟩
          rcases List.mem_append.mp hq with hq | hq
          · exact ⟨q, (mem1 q).mpr (.inr ((mem2 q).mpr (.inr hq))), h⟩
          · rw [List.mem_singleton.mp hq, hnw] at h
            rcases h with h | h
            · exact ⟨a, inA, h⟩
            · exact ⟨b, inB, h⟩
        · rintro ⟨q, hq, h⟩
          rcases (mem1 q).mp hq with rfl | hq
          · exact ⟨nw, List.mem_append_right _ (List.mem_singleton.mpr rfl), by rw [hnw]; exact .inl h⟩
          · rcases (mem2 q).mp hq with rfl | hq
            · exact ⟨nw, List.mem_append_right _ (List.mem_singleton.mpr rfl), by rw [hnw]; exact .inr h⟩
            · exact ⟨q, List.mem_append_left _ hq, h⟩
      have len7 : (c3 ++ [nw]).length + 1 = cur.length := by
        rw [List.length_append]
        show c3.length + 1 + 1 = cur.length
        omega
      have okc8 : ∀ q ∈ c3 ++ [nw], Ok7 K G7 bk q := fun q hq => okc7 q (by
        rcases List.mem_append.mp hq with hq | hq
        · exact List.mem_append_left _ (List.mem_cons_of_mem _ hq)
        · exact List.mem_append_right _ hq)
      have plain : ∀ {G8 : Hp}, Ext p H G8 → St7 K G8 p Dh Dn lb bk hs S ns 12 → G8 ll = some (.lst ((c3 ++ [nw]).map fun q => V.ref q.1.1)) → (∀ q ∈ c3 ++ [nw], Ok7 K G8 bk q) → ∃ m', m' < cur.length + ag.toNat ∧ Wv m' [some (.ref p), some (.ref l), some (.ref ll), some (.int ag), some (.ref a.1.1), some (.ref b.1.1)] G8 := fun {G8} x8 I8 e8 o8 => by
        refine ⟨_, ?_, by rw [hWv]; exact ⟨ag, _, _, c3 ++ [nw], rfl, g0, g1, x8, I8, e8, o8, by rw [List.length_append]; show 1 ≤ c3.length + 1; omega, by omega, un7, rfl⟩⟩
        omega
      -- once more
      refine ⟨_, rfl, ag, 0, rfl, rfl, _, rfl, ?_⟩
      by_cases hag : (0 : Int) < ag
      · rw [decide_eq_true hag]
        refine iteT ⟨_, rfl, p, 3, rfl, I.pool, (by decide), (by decide), fun G8 r x8 p8 _ r0 r1 => ⟨rfl, _, rfl, ?_⟩⟩
        obtain ⟨yp, hyp⟩ := I.pool.is
        have okc9 : ∀ q ∈ a :: c3 ++ [nw], Ok7 K G8 bk q := fun q hq => (okc7 q hq).ext x8 hyp trivial
        have eL8 := x8 _ _ nlp eL7
        have I8 := I.draw x8 p8
        by_cases hr0 : r = 0
        · rw [decide_eq_true (show V.int r = V.int 0 by rw [hr0])]
          refine iteT ⟨_, rfl, .inl ⟨rfl, _, SqL.of eL8⟩, _, rfl, ll, _, _, rfl, rfl, eL8, (by rw [List.length_map, sizeLine_eq]; omega), _, rfl, ag, 1, rfl, rfl, (c3 ++ [nw]).length + 1 + (ag - 1).toNat, by omega, ?_⟩
          rw [hWv]
          refine ⟨ag - 1, _, _, c3 ++ [nw] ++ [a], rfl, by omega, by omega, Ext.new nll (xH7.trans x8), put I8 eL8, ?_, fun q hq => ?_, ?_, ?_, fun k => ?_, ?_⟩
          · rw [upd_same, List.map_append (l₁ := c3 ++ [nw])]
            rfl
          · refine Ok7.ext Ext.put eL8 trivial (okc9 q ?_)
            rcases List.mem_append.mp hq with hq | hq
            · rcases List.mem_append.mp hq with hq | hq
              · exact List.mem_append_left _ (List.mem_cons_of_mem _ hq)
              · exact List.mem_append_right _ hq
            · rw [List.mem_singleton.mp hq]
              exact List.mem_append_left _ List.mem_cons_self
          · rw [List.length_append]
            show 1 ≤ (c3 ++ [nw]).length + 1
            omega
          · rw [List.length_append]
            show (c3 ++ [nw]).length + 1 ≤ 4
            omega
          · rw [← un7 k]
            constructor
            · rintro ⟨q, hq, h⟩
              rcases List.mem_append.mp hq with hq | hq
              · exact ⟨q, hq, h⟩
              · rw [List.mem_singleton.mp hq] at h
                exact ⟨nw, List.mem_append_right _ (List.mem_singleton.mpr rfl), by rw [hnw]; exact .inl h⟩
            · rintro ⟨q, hq, h⟩
              exact ⟨q, List.mem_append_left _ hq, h⟩
          · rw [List.length_append (as := c3 ++ [nw])]
            rfl
        · rw [decide_eq_false (show ¬ V.int r = V.int 0 from fun y => hr0 (by injection y))]
          exact iteF (plain (xH7.trans x8) I8 eL8 fun q hq => (okc8 q hq).ext x8 hyp trivial)
      · rw [decide_eq_false hag]
        exact iteF (iteF (plain xH7 I eL7 okc8))
    · rw [decide_eq_false hc]
      refine iteF ?_
      match cur, c1, hc, eL, okc, un with
      | [c], _, _, eL, okc, un =>
        obtain ⟨k1, k2, k3⟩ := okc c List.mem_cons_self
        refine ⟨_, rfl, ll, _, 0, V.ref c.1.1, rfl, rfl, SqL.of eL, atI_nat (j := 0) rfl, q G c.1.1 c.1.2 xG I.pool k1 (k2.congr fun k => ?_)⟩
        rw [← un k]
        exact ⟨fun h => ⟨c, List.mem_cons_self, h⟩, fun ⟨q, hq, h⟩ => by rw [List.mem_singleton.mp hq] at h; exact h⟩
      | a :: b :: r, _, hc, _, _, _ =>
        exfalso
        rw [List.length_cons, List.length_cons] at hc
        omega
end
end K01

set_option Elab.async false
set_option linter.all false
set_option maxRecDepth 100000
set_option maxHeartbeats 4000000
namespace VS
open PySem PySem.Spec PyProof.Rows L2 MS K01
theorem pi_listK {X : Cx} {K : PySem.W.Frag} {tg l : Expr} {tl : TE} (hK : X.K = K) (hl : PE X l tl) : PI X tg l (iList K tl) := by
  subst hK
  exact pi_list hl
end VS
namespace K01
open PySem PySem.Spec PyProof.Rows L2 MS
theorem four {α : Type} {l : List α} (h : l.length = 4) : ∃ a b c d, l = [a, b, c, d] := by
  match l, h with
  | [a, b, c, d], _ => exact ⟨a, b, c, d, rfl⟩
abbrev NLW : List PySem.Str := ["_law_script", "_law_k", "_law_pool", "_law_houses", "_law_book", "_law_cells", "_law_name", "_law_whole", "_law_turn", "_law_known", "_law_one", "_law_other", "_law_cell", "_law_own"]
theorem sc_law : FnScope NLW ["_law_script"] (defScope (topS 35)) := ⟨rfl, rfl, rfl, by decide +kernel, rfl, by decide +kernel, by decide +kernel⟩
abbrev scI : Scope := ⟨.function, [(".0", .local), ("_law_one", .cell), ("_law_book", .cell)], false, false, []⟩
section
variable {P : Program} {w : World} {K : PySem.W.Frag} {mg : PySem.Str → Option Value} {base : Heap} {f : Addr} {fd : FuncData}
theorem ok_law (B : Bt mg) (cHand : Ca P w K mg base 1 "_law_hand" ["_law_script", "_law_k"] (spHand K)) (cHi : Ca P w K mg base 9 "_law_history" ["_law_pool"] (spHi K)) (cPa : Ca P w K mg base 8 "_law_paired" ["_law_pool", "_law_cells"] (spPa K)) (cJ : Ca P w K mg base 7 "joined" ["cells"] (spJoin K)) (cKb : Ca P w K mg base 8 "known_by" ["cell"] (spKbH K))
    (F : Fun K "law" "law" (topS 35) f fd) : RunAt P w K mg base CX0 callerA f fd ["_law_script"] (spLaw K) := by
  classical
  have hr10 : Room 10 callerA := ⟨rfl, by decide, by decide⟩
  refine F.at (k := 9) sc_law (fun vs H Q E h => ?_) hr10 (fun cdv outer s H vs Q E h => ?_)
  · obtain ⟨a, ns, rfl, _⟩ := h; rfl
  · obtain ⟨a, ns, rfl, hS, h63, q⟩ := h
    have hr : Room 9 (callerA.deeper (envOfC "law" (defScope (topS 35)) s.heap.objs.size f cdv)) := hr10.deeper _
    have hr1 : Room 1 (callerA.deeper (envOfC "law" (defScope (topS 35)) s.heap.objs.size f cdv)) := hr.mono (by decide)
    have hr7 : Room 7 (callerA.deeper (envOfC "law" (defScope (topS 35)) s.heap.objs.size f cdv)) := hr.mono (by decide)
    have hr8 : Room 8 (callerA.deeper (envOfC "law" (defScope (topS 35)) s.heap.objs.size f cdv)) := hr.mono (by decide)
    refine ⟨_, pss_cons (ps_for PassesOwn.never rfl (pi_range1 (by rfl) B.range (pa_cons (pe_callB (call_max2 (by rfl)) (by rfl) B.max boot_max (pa_cons pe_int (pa_cons (pe_callB (call_min2 (by rfl)) (by rfl) B.min boot_min (pa_cons (pe_callB call_len_seq (by rfl) B.len PySem.boot_len (pa_cons (pv 0) pa_nil)) (pa_cons pe_int pa_nil))) pa_nil))) pa_nil)) (pg_name (i := 1) sc_law.nd rfl (.inl rfl))
        (pss_cons (ps_set (i := 2) sc_law.nd rfl (.inl rfl) (pe_ca cHand hr1 (by rfl) pass0 (pa_cons (pv 0) (pa_cons (pv 1) pa_nil))))
        (pss_cons (ps_asg (pe_ca cHi hr (by rfl) pass0 (pa_cons (pv 2) pa_nil)) (pg_tup (by rfl) (pgs_cons (pg_name (i := 3) sc_law.nd rfl (.inr rfl)) (pgs_cons (pg_name (i := 4) sc_law.nd rfl (.inr rfl)) pgs_nil))))
        (pss_cons (ps_setLc (i := 5) (own := [("_law_name", 6)]) (g := gName 6) (tt := tYes) (by rfl) sc_law.nd rfl rfl (sw_true rfl rfl rfl (by decide +kernel)) (pi_str pe_str) (blkOk_by (own := [("_law_name", 6)]) (N := NLW) (sc := defScope (topS 35)) (by decide +kernel))
          (fun _ _ _ _ _ => pg_name (i := 6) sc_law.nd rfl (Or.inl rfl)) (fun _ _ _ _ _ => pts_nil) (fun _ _ _ _ _ => pe_dget (hu_1 hr) (pv 3) (pv 6) (fun _ _ => rfl)))
        (pss_cons (ps_set (i := 7) sc_law.nd rfl (.inl rfl) (pe_ca cJ hr7 (by rfl) pass0 (pa_cons (pv 5) pa_nil)))
        (pss_cons (ps_for PassesOwn.never rfl (pi_range1 (by rfl) B.range (pa_cons pe_int pa_nil)) (pg_name (i := 8) sc_law.nd rfl (.inl rfl))
          (pss_one (ps_if (PW.pt (pw_or (pt_cmpR (VS.op_neDK (K := K) rfl (hu_64 hr)) (pe_ca cPa hr8 (by rfl) pass0 (pa_cons (pv 2) (pa_cons (pv 5) pa_nil))) (pv 7) (nomark _)) (pw_or1 (pt_cmpR (VS.op_neDK (K := K) rfl (hu_64 hr)) (pe_ca cJ hr7 (by rfl) pass0 (pa_cons (pe_op op_cat (pe_revL (pv 5)) (pe_lst (pa_cons (pv 7) pa_nil))) pa_nil)) (pv 7) (nomark _))))) (pss_one (ps_ret pe_bl)) pss_nil)))
        (pss_cons (ps_set (i := 9) sc_law.nd rfl (.inr rfl) (pe_ca cKb hr8 (by rfl) pass0 (pa_cons (pv 7) pa_nil)))
        (pss_cons (ps_if (pt_cmpR (VS.op_neDK (K := K) rfl (hu_64 hr)) (pv 7) (pe_callTy call_tuple_of (by rfl) B.tuple boot_tuple (pa_cons (pe_callB (VS.cr_sortV hr) (by rfl) B.sorted boot_sorted (pa_cons
            (pe_lc (own := [("_law_one", 10)]) (g := gName 10) (te := tVar 10) (by rfl) sc_law.nd (pi_list (pv 4)) (blkOk_by (own := [("_law_one", 10)]) (N := NLW) (sc := defScope (topS 35)) (by decide +kernel)) (fun _ _ _ _ _ => pg_name (i := 10) sc_law.nd rfl (Or.inr rfl))
              (fun _ _ _ _ _ => pts_one (pt_cmpR (VS.op_eqNil (K := K) rfl (hu_lt hr)) (pe_lc (own := [("_law_other", 11)]) (g := gName 11) (te := tVar 11) (by rfl) sc_law.nd (VS.pi_listK (K := K) rfl (pv 4)) (blkOk_by (own := [("_law_other", 11)]) (N := NLW) (sc := scI) (by decide +kernel)) (fun _ _ _ _ _ => pg_name (i := 11) sc_law.nd rfl (Or.inl rfl))
                (fun _ _ _ _ _ => pts_one (pt_cmpR (VS.op_inDT (K := K) rfl (hu_65 hr)) (pe_ix (ix_tupK (K := K) rfl) (pv 10) pe_int (fun _ _ => rfl)) (pe_ix (ix_tupK (K := K) rfl) (pv 11) pe_int (fun _ _ => rfl)) (by rfl))) (fun _ _ _ _ _ => pv 11)) (pe_lst pa_nil) (nomark _))) (fun _ _ _ _ _ => pv 10)) pa_nil)) pa_nil)) (nomark _)) (pss_one (ps_ret pe_bl)) pss_nil)
        (pss_cons (ps_for PassesOwn.never rfl (pi_tup (pv 7)) (pg_name (i := 10) sc_law.nd rfl (.inr rfl))
          (pss_one (ps_if (pt_cmpR (VS.op_neNilK (K := K) rfl (hu_lt hr)) (pe_lc (own := [("_law_other", 11)]) (g := gName 11) (te := tVar 11) (by rfl) sc_law.nd (pi_tup (pv 7)) (blkOk_by (own := [("_law_other", 11)]) (N := NLW) (sc := defScope (topS 35)) (by decide +kernel)) (fun _ _ _ _ _ => pg_name (i := 11) sc_law.nd rfl (Or.inl rfl))
              (fun _ _ _ _ _ => pts_one (pt_cmpR (VS.op_inDT (K := K) rfl (hu_65 hr)) (pe_ix (ix_tupK (K := K) rfl) (pv 10) pe_int (fun _ _ => rfl)) (pe_ix (ix_tupK (K := K) rfl) (pv 11) pe_int (fun _ _ => rfl)) (by rfl))) (fun _ _ _ _ _ => pv 11)) (pe_lst pa_nil) (nomark _)) (pss_one (ps_ret pe_bl)) pss_nil)))
        (pss_cons (ps_for PassesOwn.never rfl (pi_list (pv 4)) (pg_name (i := 10) sc_law.nd rfl (.inr rfl))
          (pss_one (ps_if (PW.pt (pw_and (pt_cmpR (VS.op_neNilK (K := K) rfl (hu_lt hr)) (pe_lc (own := [("_law_cell", 12)]) (g := gName 12) (te := tVar 12) (by rfl) sc_law.nd (pi_list (pv 5)) (blkOk_by (own := [("_law_cell", 12)]) (N := NLW) (sc := defScope (topS 35)) (by decide +kernel)) (fun _ _ _ _ _ => pg_name (i := 12) sc_law.nd rfl (Or.inl rfl))
              (fun _ _ _ _ _ => pts_one (pt_cmpR (VS.op_inDT (K := K) rfl (hu_65 hr)) (pv 10) (pv 12) (by rfl))) (fun _ _ _ _ _ => pv 12)) (pe_lst pa_nil) (nomark _))
              (pw_and (pt_cmpR (VS.op_notInDT (K := K) rfl (hu_65 hr)) (pv 10) (pv 7) (by rfl)) (pw_and1 (pt_cmpR (VS.op_notInDT (K := K) rfl (hu_65 hr)) (pe_ix (ix_tupK (K := K) rfl) (pv 10) pe_int (fun _ _ => rfl)) (pv 9) (by rfl)))))) (pss_one (ps_ret pe_bl)) pss_nil)))
        (pss_one (ps_for PassesOwn.never rfl (pi_list (pv 5)) (pg_name (i := 12) sc_law.nd rfl (.inl rfl))
          (pss_one (ps_if (pt_cmpR (VS.op_neNilK (K := K) rfl (hu_lt hr)) (pe_lc (own := [("_law_own", 13)]) (g := gName 13) (te := tVar 13) (by rfl) sc_law.nd (pi_tup (pe_ca cKb hr8 (by rfl) pass0 (pa_cons (pv 12) pa_nil))) (blkOk_by (own := [("_law_own", 13)]) (N := NLW) (sc := defScope (topS 35)) (by decide +kernel)) (fun _ _ _ _ _ => pg_name (i := 13) sc_law.nd rfl (Or.inl rfl))
              (fun _ _ _ _ _ => pts_one (pt_cmpR (VS.op_notInDT (K := K) rfl (hu_65 hr)) (pv 13) (pv 9) (by rfl))) (fun _ _ _ _ _ => pv 13)) (pe_lst pa_nil) (nomark _)) (pss_one (ps_ret pe_bl)) pss_nil))))))))))))))
      (pss_one (ps_ret pe_bl)), ?_⟩
    have bj : ∀ l : Int, 0 ≤ l → 0 ≤ (if (if (8 : Int) < l then 8 else l) > 1 then (if (8 : Int) < l then 8 else l) else 1) ∧ (if (if (8 : Int) < l then 8 else l) > 1 then (if (8 : Int) < l then 8 else l) else 1) ≤ 8 := fun l hl => by
      by_cases z : (8 : Int) < l
      · rw [if_pos z, if_pos (by decide)]
        decide
      · rw [if_neg z]
        by_cases y : l > 1
        · rw [if_pos y]
          omega
        · rw [if_neg y]
          decide
    obtain ⟨bj1, bj2⟩ := bj ((ns.map V.int).length : Int) (by omega)
    refine ⟨_, rfl, a, _, rfl, .inl hS, _, _, rfl, _, _, rfl, _, rfl, (by omega), (by omega), for_range (fun i σ G => (∃ y1 y2 y3 y4 y5 y6 y7 y8 y9 y10 y11 y12 y13, σ = [some (.ref a), y1, y2, y3, y4, y5, y6, y7, y8, y9, y10, y11, y12, y13]) ∧ Same H G) ⟨⟨none, none, none, none, none, none, none, none, none, none, none, none, none, rfl⟩, Same.refl _⟩ (fun i σ G0 hi hP => ?_) (fun σ G hP => q G)⟩
    obtain ⟨⟨y1, y2, y3, y4, y5, y6, y7, y8, y9, y10, y11, y12, y13, rfl⟩, s0⟩ := hP
    have hS0 : SqL K G0 a (ns.map V.int) := s0.seq hS
    refine ⟨_, rfl, _, rfl, a, _, ns, rfl, hS0, h63, (by omega), (by omega), fun G1 p c1 np pool1 => ?_⟩
    have back : ∀ {G : Hp}, Ext p G1 G → Same H G := fun {G} e b o hb => by
      have y := s0 b o hb
      exact e b o (fun z => by rw [z, np] at y; cases y) (c1 b o y)
    refine ⟨_, rfl, p, rfl, pool1, fun G2 r Dh Dn lb bk hs S nn x2 er I cov => ?_⟩
    refine ⟨r, _, rfl, .inl (.inl er), rfl, _, _, rfl, _, _, rfl, rfl, ?_⟩
    obtain ⟨h0, h1, h2, h3, ehs⟩ := four I.l4
    have getH : ∀ {G : Hp} {j : Nat} {c : Addr × List Ver}, G Dh = some (.dK (kvH (hs.map fun c => V.ref c.1))) → j < 4 → hs[j]? = some c → DGet G Dh (.str ⟨#[97 + j]⟩) (some (V.ref c.1)) := fun {G j c} e hj h => dget_of e (by rw [List.length_map]; exact I.l4) hj (by rw [List.getElem?_map, h]; rfl)
    -- the cells
    refine ⟨_, rfl, fun E1 nE => lc_it (walk_str (z := "abcd")) (fun j H' => Same G2 H' ∧ H' E1 = some (.lst ((hs.take j).map fun c => V.ref c.1))) ⟨(newo nE).1, (newo nE).2⟩ (fun _ _ _ _ => trivial) (fun j y A1 A2 hj hP hy => ?_) (fun G3 hP => ?_)⟩
    · obtain ⟨rfl, c, hc, rfl⟩ := hy
      obtain ⟨s3, e3⟩ := hP
      obtain ⟨j4, rfl⟩ := lett_at hc
      obtain ⟨c, hg⟩ := at4 I.l4 j4
      refine ⟨rfl, VS.yes_if ⟨_, rfl, _, rfl, Dh, V.ref c.1, rfl, getH (s3 _ _ I.eh) j4 hg, _, e3, (by rw [List.length_map, List.length_take, sizeLine_eq]; omega), same_but nE s3, ?_⟩⟩
      rw [upd_same, take_snoc hg, List.map_append]
      rfl
    obtain ⟨s3, e3⟩ := hP
    have e3 : G3 E1 = some (.lst (hs.map fun c => V.ref c.1)) := by
      rw [e3]
      have y : hs.take (("abcd" : PySem.Str).cps.size) = hs := List.take_of_length_le (by rw [I.l4]; decide)
      rw [y]
    have nEp : E1 ≠ p := fun z => by
      obtain ⟨ys, hy⟩ := I.pool.is
      rw [z, hy] at nE
      cases nE
    replace I := I.same s3
    have x3 : Ext p G1 G3 := x2.trans (Ext.of s3)
    clear nE er
    obtain ⟨ps, hps⟩ : ∃ ps : List CS, ps = [(h0, S 0), (h1, S 1), (h2, S 2), (h3, S 3)] := ⟨_, rfl⟩
    have psh : ps.map (fun q => q.1) = hs := by rw [hps, ehs]; rfl
    have psr : ps.map (fun q => V.ref q.1.1) = hs.map fun c => V.ref c.1 := by rw [hps, ehs]; rfl
    have okp : ∀ {G : Hp}, St7 K G p Dh Dn lb bk hs S nn 12 → ∀ q ∈ ps, Ok7 K G bk q := fun {G} J q hq => by
      rw [hps] at hq
      have hq : q = (h0, S 0) ∨ q = (h1, S 1) ∨ q = (h2, S 2) ∨ q = (h3, S 3) := by simpa using hq
      have m : ∀ (j : Nat) (c : Addr × List Ver), hs[j]? = some c → Ok7 K G bk (c, S j) := fun j c h => ⟨J.ct c (List.mem_of_getElem? h), J.mx j c h, J.dn j⟩
      rcases hq with rfl | rfl | rfl | rfl
      · exact m 0 h0 (by rw [ehs]; rfl)
      · exact m 1 h1 (by rw [ehs]; rfl)
      · exact m 2 h2 (by rw [ehs]; rfl)
      · exact m 3 h3 (by rw [ehs]; rfl)
    obtain ⟨W, hW⟩ : ∃ W : DK → Prop, W = fun k => ∃ q ∈ ps, q.2 k := ⟨_, rfl⟩
    have covW : ∀ z ∈ bk, W z.d.2 := fun z hz => by
      obtain ⟨j, hj, sj⟩ := cov z hz
      rw [hW]
      have m : (hs.getD j h0, S j) ∈ ps := by
        rw [hps, ehs]
        match j, hj with
        | 0, _ => simp
        | 1, _ => simp
        | 2, _ => simp
        | 3, _ => simp
      exact ⟨_, m, sj⟩
    have len12 : ∀ q ∈ ps, q.1.2.length ≤ 12 := fun q hq => (okp I q hq).2.1.len I.B
    have lenA : ∀ (ds : List (Addr × List Ver)), (∀ c ∈ ds, c.2.length ≤ 12) → (allV ds).length ≤ 12 * ds.length := by
      intro ds
      induction ds with
      | nil => intro _; exact Nat.le_refl _
      | cons c r ih =>
        intro h
        have a := h c List.mem_cons_self
        have b := ih fun d hd => h d (List.mem_cons_of_mem _ hd)
        have e : allV (c :: r) = c.2 ++ allV r := rfl
        rw [e, List.length_append, List.length_cons]
        omega
    -- the whole
    refine ⟨_, rfl, E1, ps.map fun q => q.1, rfl, .inl (.inl (by rw [e3, psh])), (fun c hc => ?_), (by rw [psh, I.l4]; decide), ?_, fun G4 wa wl s4 _ cw m1 m2 m3 => ?_⟩
    · obtain ⟨q, hq, rfl⟩ := List.mem_map.mp hc
      exact I.cell (okp I q hq).1 (okp I q hq).2.1
    · have y := lenA (ps.map fun q => q.1) fun c hc => by
        obtain ⟨q, hq, rfl⟩ := List.mem_map.mp hc
        exact len12 q hq
      rw [psh, I.l4] at y
      rw [psh]
      omega
    have Mw : MaxOf bk W wl := by
      rw [hW]
      exact MaxOf.join I.B (fun q hq => (okp I q hq).2) cw.2.2.2.1 m1 m2 m3
    have Dw : Down bk W := by
      rw [hW]
      exact Down.join fun q hq => (okp I q hq).2.2
    clear m1 m2 m3
    replace I := I.same s4
    have e4 := s4 _ _ e3
    have x4 : Ext p G1 G4 := x3.trans (Ext.of s4)
    have wz := Mw.mem
    have lww : ∀ {G : Hp}, St7 K G p Dh Dn lb bk hs S nn 12 → ∀ z ∈ wl, LW K G z := fun J z hz => J.lw z (wz z hz)
    have clw := cell_cl (lww I)
    -- five times
    refine ⟨5, rfl, (by decide), (by decide), for_range (fun j σ G => (∃ z8, σ = [some (.ref a), some (.int (0 + (i : Int))), some (.ref p), some (.ref Dh), some (.ref lb), some (.ref E1), y6, some (.ref wa), z8, y9, y10, y11, y12, y13]) ∧ Ext p G4 G ∧ St7 K G p Dh Dn lb bk hs S nn 12) ⟨⟨y8, rfl⟩, Ext.refl, I⟩ (fun j σ G hj hP => ?_) (fun σ G hP => ?_)⟩
    · obtain ⟨⟨z8, rfl⟩, xG, J⟩ := hP
      obtain ⟨yp, hyp⟩ := I.pool.is
      have hwG : SqT K G wa (wl.map fun z => V.ref z.a) := xG.tupN hyp trivial cw.1
      have eG := xG _ _ nEp e4
      refine ⟨_, rfl, _, rfl, p, E1, Dh, Dn, lb, bk, hs, S, nn, ps, rfl, J, .inl (.inl (by rw [eG, psr])), okp J, (by rw [hps]; rfl), fun A1 r ls x1 p1 hr' Mr => ?_⟩
      have J1 := J.draw x1 p1
      have el : ls = wl := by
        rw [← hW] at Mr
        exact Mr.one J.B Mw
      subst el
      obtain ⟨yq, hyq⟩ := J.pool.is
      have hw1 : SqT K A1 wa (ls.map fun z => V.ref z.a) := x1.tupN hyq trivial hwG
      have e1 := x1 _ _ nEp eG
      refine ⟨_, rfl, _, _, cell_dp hr' (lww J1), cell_dp hw1 (lww J1), clw.shaped (by decide), clw.shaped (by decide), _, rfl, ?_⟩
      rw [clw.eqv]
      refine iteF ?_
      refine ⟨_, rfl, E1, _, rfl, .inl (.inl e1), fun n1 nn1 => ?_⟩
      obtain ⟨t1, f1⟩ := newo (o := .lst (hs.map fun c => V.ref c.1).reverse) nn1
      generalize upd A1 n1 (.lst (hs.map fun c => V.ref c.1).reverse) = A2 at t1 f1 ⊢
      refine ⟨_, rfl, (by show 1 ≤ sizeLine; decide), fun n2 nn2 => ?_⟩
      obtain ⟨t2, f2⟩ := newo (o := .lst [V.ref wa]) nn2
      generalize upd A2 n2 (.lst [V.ref wa]) = A3 at t2 f2 ⊢
      refine ⟨n1, n2, _, _, rfl, rfl, t2 _ _ f1, f2, (by rw [List.length_reverse, List.length_map, I.l4]; show 4 + 1 ≤ sizeLine; decide), fun n3 nn3 => ?_⟩
      obtain ⟨t3, f3⟩ := newo (o := .lst ((hs.map fun c => V.ref c.1).reverse ++ [V.ref wa])) nn3
      generalize upd A3 n3 (.lst ((hs.map fun c => V.ref c.1).reverse ++ [V.ref wa])) = A4 at t3 f3 ⊢
      have t14 : Same A1 A4 := t1.trans (t2.trans t3)
      have J4 := J1.same t14
      obtain ⟨ps', hps'⟩ : ∃ ps' : List CS, ps' = ps.reverse ++ [((wa, ls), W)] := ⟨_, rfl⟩
      have psr' : (ps'.map fun q => q.1).map (fun c => V.ref c.1) = (hs.map fun c => V.ref c.1).reverse ++ [V.ref wa] := by
        rw [hps', hps, ehs]
        rfl
      have okp' : ∀ q ∈ ps', Ok7 K A4 bk q := fun q hq => by
        rw [hps'] at hq
        rcases List.mem_append.mp hq with hq | hq
        · exact okp J4 q (List.mem_reverse.mp hq)
        · rw [List.mem_singleton.mp hq]
          exact ⟨same_sqT t14 hw1, Mw, Dw⟩
      have len5 : ps'.length = 5 := by rw [hps', hps]; rfl
      refine ⟨n3, ps'.map fun q => q.1, rfl, .inl (.inl (by rw [f3, psr'])), (fun c hc => ?_), (by rw [List.length_map, len5]; decide), ?_, fun A5 r2 l2 t5 _ c5 m1 m2 m3 => ?_⟩
      · obtain ⟨q, hq, rfl⟩ := List.mem_map.mp hc
        exact J4.cell (okp' q hq).1 (okp' q hq).2.1
      · have y := lenA (ps'.map fun q => q.1) fun c hc => by
          obtain ⟨q, hq, rfl⟩ := List.mem_map.mp hc
          exact (okp' q hq).2.1.len J4.B
        rw [List.length_map, len5] at y
        omega
      have M5 := MaxOf.join J4.B (fun q hq => (okp' q hq).2) c5.2.2.2.1 m1 m2 m3
      have M5 : MaxOf bk W l2 := M5.congr fun k => by
        rw [hps']
        constructor
        · rintro ⟨q, hq, h⟩
          rcases List.mem_append.mp hq with hq | hq
          · rw [hW]
            exact ⟨q, List.mem_reverse.mp hq, h⟩
          · rw [List.mem_singleton.mp hq] at h
            exact h
        · intro h
          exact ⟨((wa, ls), W), List.mem_append_right _ (List.mem_singleton.mpr rfl), h⟩
      have el : l2 = ls := M5.one J4.B Mw
      subst el
      have J5 := J4.same t5
      refine ⟨_, rfl, _, _, cell_dp c5.1 (lww J5), cell_dp (same_sqT (t14.trans t5) hw1) (lww J5), clw.shaped (by decide), clw.shaped (by decide), _, rfl, ?_⟩
      rw [clw.eqv]
      exact iteF ⟨⟨_, rfl⟩, xG.trans (x1.trans (Ext.of (t14.trans t5))), J5⟩
    obtain ⟨⟨z8, rfl⟩, xG, J⟩ := hP
    obtain ⟨yp, hyp⟩ := I.pool.is
    have hwG : SqT K G wa (wl.map fun z => V.ref z.a) := xG.tupN hyp trivial cw.1
    have eG := xG _ _ nEp e4
    have xG1 : Ext p G1 G := x4.trans xG
    clear xG hyp I cw e4 x4 x3 s4 e3 s3 x2
    -- what is known
    refine ⟨_, rfl, wa, wl, rfl, J.cell hwG Mw, J.d3 Mw, Mw.few J.B, fun A1 kn Mk s1 ek dk ak memk _ => ?_⟩
    have kW : ∀ k, k ∈ Mk.map (fun q => q.2) ↔ W k := fun k => by rw [memk k, seen J.B Dw Mw]
    have kM : ∀ k ∈ Mk.map (fun q => q.2), M7 k := fun k hk => by
      obtain ⟨z, hz, e⟩ := List.mem_map.mp (Dw.1 k ((kW k).mp hk))
      rw [← e]
      exact (J.lw z hz).2.1
    have kd : ((Mk.map fun q => q.2).map dD).all dDot = true := m7_all kM
    replace J := J.same s1
    replace hwG := same_sqT s1 hwG
    replace eG := s1 _ _ eG
    replace xG1 := xG1.trans (Ext.of s1)
    clear s1 memk
    obtain ⟨lv, hlv⟩ : ∃ lv : Ver → Bool, ∀ z, lv z = decide (z.d.2 ∉ knownOf bk) := ⟨fun z => decide (z.d.2 ∉ knownOf bk), fun _ => rfl⟩
    have inKey : ∀ {X : Hp} {z y : Ver}, LW K X z → LW K X y → (((y.L.map fun q => q.2).map dD).any fun x => PyData.eqv x (dD z.d.2)) = decide (z.d.2 ∈ keys y) := fun {X z y} hz hy => by
      have e := VS.any_dD hz.2.1.d3 (ks := keys y) (fun k hk => (hy.2.2.1 k hk).1.d3)
      rw [Bool.eq_iff_iff, decide_eq_true_eq]
      exact e
    have sd : ∀ {X : Hp} {z : Ver}, LW K X z → SeqAt.shaped (dD z.d.2) = true := fun h => dot_shaped (m7_ok h.2.1).2.1
    have sk : ∀ {X : Hp} {z : Ver}, LW K X z → SeqAt.shaped (.tuple ((z.L.map fun q => q.2).map dD)) = true := fun h => shaped_tup (m7_all fun k hk => (h.2.2.1 k hk).1)
    have hlbA : SqL K A1 lb (bk.map fun z => V.ref z.a) := .inl (.inl J.eb)
    have lenB := J.B.len
    -- those that none knows
    refine ⟨_, rfl, _, rfl, lb, rfl, ⟨_, hlbA⟩, fun D nD => lc_it (walk_list (K := K) (a := lb) (xs := bk.map fun z => V.ref z.a)) (fun j H' => Same A1 H' ∧ H' D = some (.lst (((bk.take j).filter lv).map fun z => V.ref z.a))) ⟨(newo nD).1, (newo nD).2⟩ (fun j H' _ hP => hP.1.seq hlbA) (fun j x B1 B2 hj hP hy => ?_) (fun A2 hP => ?_)⟩
    · obtain ⟨rfl, hx⟩ := hy
      obtain ⟨s2, e2⟩ := hP
      rw [List.getElem?_map] at hx
      obtain ⟨z, hz, rfl⟩ := Option.map_eq_some_iff.mp hx
      have zin := List.mem_of_getElem? hz
      rw [List.length_map] at hj
      have J2 := J.same s2
      have hlb2 : SqL K B2 lb (bk.map fun z => V.ref z.a) := s2.seq hlbA
      refine ⟨rfl, _, rfl, lb, rfl, ⟨_, hlb2⟩, fun D2 nD2 => lc_it (walk_list (K := K) (a := lb) (xs := bk.map fun z => V.ref z.a)) (fun m H' => Same B2 H' ∧ H' D2 = some (.lst (((bk.take m).filter fun y => decide (z.d.2 ∈ keys y)).map fun y => V.ref y.a))) ⟨(newo nD2).1, (newo nD2).2⟩ (fun m H' _ hP => hP.1.seq hlb2) (fun m x C1 C2 hm hP hy => ?_) (fun C1 hP => ?_)⟩
      · obtain ⟨rfl, hx⟩ := hy
        obtain ⟨s3, e3⟩ := hP
        rw [List.getElem?_map] at hx
        obtain ⟨y, hym, rfl⟩ := Option.map_eq_some_iff.mp hx
        have yin := List.mem_of_getElem? hym
        rw [List.length_map] at hm
        have gz := (J2.lw z zin).same s3
        have gy := (J2.lw y yin).same s3
        obtain ⟨⟨a1, a2, _⟩, _⟩ := id gz
        obtain ⟨⟨b1, _, b3, b4⟩, _⟩ := id gy
        refine ⟨rfl, _, rfl, z.a, _, 0, V.ref z.d.1, rfl, rfl, a1, atI_nat (j := 0) rfl, _, rfl, y.a, _, 1, V.ref y.kn, rfl, rfl, b1, atI_nat (j := 1) rfl, dD z.d.2, (y.L.map fun q => q.2).map dD, dp_dot (.inl (.inl a2)), .tup b3 (dp_dots b4.dots), sd gz, sk gy, _, rfl, ?_⟩
        change if (if false = true then _ else _) = true then _ else _
        rw [if_neg (show ¬ false = true by decide), inKey gz gy]
        cases he : decide (z.d.2 ∈ keys y) with
        | false =>
          refine iteF ⟨s3, ?_⟩
          rw [e3, take_snoc hym, List.filter_append, List.filter_cons, he, if_neg (by decide), List.filter_nil, List.append_nil]
        | true =>
          refine iteT ⟨_, rfl, _, e3, ?_, same_but nD2 s3, ?_⟩
          · rw [List.length_map, sizeLine_eq]
            have := List.length_filter_le (fun y : Ver => decide (z.d.2 ∈ keys y)) (bk.take m)
            rw [List.length_take] at this
            omega
          · rw [upd_same, take_snoc hym, List.filter_append, List.filter_cons, he, if_pos rfl, List.filter_nil, List.map_append]
            rfl
      obtain ⟨s3, e3⟩ := hP
      rw [List.length_map, List.take_of_length_le (Nat.le_refl _)] at e3
      refine ⟨Nat.zero_le _, fun n1 nn1 => ?_⟩
      obtain ⟨s4, e4⟩ := newo (o := .lst []) nn1
      generalize upd C1 n1 (.lst []) = C2 at s4 e4 ⊢
      refine ⟨D2, n1, _, rfl, rfl, .inl (.inl (s4 _ _ e3)), .inl (.inl e4), _, rfl, ?_⟩
      have eE : (((bk.filter fun y => decide (z.d.2 ∈ keys y)).map fun y => V.ref y.a).isEmpty) = lv z := by
        rw [hlv, Bool.eq_iff_iff, List.isEmpty_iff, List.map_eq_nil_iff, List.filter_eq_nil_iff, decide_eq_true_eq]
        constructor
        · intro h hk
          obtain ⟨y, hy, yk⟩ := mem_known.mp hk
          exact h y hy (decide_eq_true yk)
        · intro h y hy yk
          exact h (mem_known.mpr ⟨y, hy, of_decide_eq_true yk⟩)
      rw [eE]
      have sC : Same A1 C2 := s2.trans (s3.trans s4)
      have eC : C2 D = some (.lst (((bk.take j).filter lv).map fun z => V.ref z.a)) := s4 _ _ (s3 _ _ e2)
      cases he : lv z with
      | false =>
        refine iteF ⟨sC, ?_⟩
        rw [eC, take_snoc hz, List.filter_append, List.filter_cons, he, if_neg (by decide), List.filter_nil, List.append_nil]
      | true =>
        refine iteT ⟨_, rfl, _, eC, ?_, same_but nD sC, ?_⟩
        · rw [List.length_map, sizeLine_eq]
          have := List.length_filter_le lv (bk.take j)
          rw [List.length_take] at this
          omega
        · rw [upd_same, take_snoc hz, List.filter_append, List.filter_cons, he, if_pos rfl, List.filter_nil, List.map_append]
          rfl
    obtain ⟨s2, e2⟩ := hP
    rw [List.length_map, List.take_of_length_le (Nat.le_refl _)] at e2
    obtain ⟨ys, hys⟩ : ∃ ys, ys = bk.filter lv := ⟨_, rfl⟩
    rw [← hys] at e2
    have mY : ∀ z, z ∈ ys ↔ z ∈ bk ∧ z.d.2 ∉ knownOf bk := fun z => by rw [hys, List.mem_filter, hlv, decide_eq_true_eq]
    have ndY : (dotsOf ys).Nodup := by
      rw [hys]
      exact List.Pairwise.sublist (List.Sublist.map _ (List.filter_sublist ..)) J.B.nd
    have lY : ys.length ≤ bk.length := by rw [hys]; exact List.length_filter_le _ _
    have em : (ys.map fun z => V.ref z.a) = (ys.map fun z => ((z.a, z.d.2) : VS.VRow)).map fun z => V.ref z.1 := by rw [List.map_map]; rfl
    rw [em] at e2
    have J2 := J.same s2
    refine ⟨D, ys.map fun z => (z.a, z.d.2), rfl, .inl (.inl e2), (fun z hz => ?_), (fun z hz => ?_), ?_, (by rw [List.length_map]; omega), fun ws t pm asc nt => ?_⟩
    · obtain ⟨y, hy, rfl⟩ := List.mem_map.mp hz
      obtain ⟨⟨a1, a2, _⟩, _⟩ := J2.lw y ((mY y).mp hy).1
      exact ⟨_, _, a1, .inl (.inl a2)⟩
    · obtain ⟨y, hy, rfl⟩ := List.mem_map.mp hz
      exact (J2.lw y ((mY y).mp hy).1).2.1.d3
    · rw [List.map_map]
      exact ndY
    obtain ⟨s3, e3⟩ := newo (o := .lst (ws.map fun z => V.ref z.1)) nt
    generalize upd A2 t (.lst (ws.map fun z => V.ref z.1)) = A3 at s3 e3 ⊢
    refine ⟨t, _, rfl, .inl ⟨.inl (.inl e3), fun r nr => ?_⟩⟩
    obtain ⟨s4, e4⟩ := newo (o := .tup (ws.map fun z => V.ref z.1)) nr
    generalize upd A3 r (.tup (ws.map fun z => V.ref z.1)) = A4 at s4 e4 ⊢
    obtain ⟨ls, pl, el⟩ := VS.perm_lift (fun z : Ver => ((z.a, z.d.2) : VS.VRow)) pm (L := ys) rfl
    have e4 : A4 r = some (.tup (ls.map fun z => V.ref z.a)) := by
      rw [e4, ← el, List.map_map]
      rfl
    have ascl : Asc (dotsOf ls) := by
      rw [← el, List.map_map] at asc
      exact asc
    have ell : ls = wl := canonV J.B.nd (fun z hz => ((mY z).mp (pl.mem_iff.mp hz)).1) wz ascl Mw.1 fun z => by rw [pl.mem_iff, mY, Mw.all covW z]
    subst ell
    have s14 : Same A1 A4 := s2.trans (s3.trans s4)
    have J4 := J.same s14
    refine ⟨_, _, cell_dp (same_sqT s14 hwG) (lww J4), cell_dp (.inl (.inl e4)) (lww J4), clw.shaped (by decide), clw.shaped (by decide), _, rfl, ?_⟩
    rw [clw.eqv]
    refine iteF ?_
    replace hwG := same_sqT s14 hwG
    replace eG := s14 _ _ eG
    replace ek := s14 _ _ ek
    replace dk := dk.same s14
    replace xG1 := xG1.trans (Ext.of s14)
    clear J J2 e4 s4 e3 s3 e2 s2 asc pm pl mY ndY lY em hlbA s14 hlv
    have lenW := Mw.len J4.B
    -- none of it knows another one
    refine ⟨_, rfl, wa, rfl, ⟨_, hwG⟩, for_it (walk_tup (K := K) (a := wa) (xs := ls.map fun z => V.ref z.a)) (fun j σ G => (∃ z10, σ = [some (.ref a), some (.int (0 + (i : Int))), some (.ref p), some (.ref Dh), some (.ref lb), some (.ref E1), y6, some (.ref wa), z8, some (.ref kn), z10, y11, y12, y13]) ∧ Same A4 G) ⟨⟨y10, rfl⟩, Same.refl _⟩ (fun j σ G _ hP => same_sqT hP.2 hwG) (fun j x σ G G' hj hP hy => ?_) (fun σ A5 hP => ?_)⟩
    · obtain ⟨⟨z10, rfl⟩, sG⟩ := hP
      obtain ⟨rfl, hx⟩ := hy
      rw [List.getElem?_map] at hx
      obtain ⟨z, hz, rfl⟩ := Option.map_eq_some_iff.mp hx
      have zin := List.mem_of_getElem? hz
      have hwB := same_sqT sG hwG
      have J5 := J4.same sG
      refine ⟨_, rfl, wa, rfl, ⟨_, hwB⟩, fun D2 nD2 => lc_it (walk_tup (K := K) (a := wa) (xs := ls.map fun z => V.ref z.a)) (fun m H' => Same G' H' ∧ H' D2 = some (.lst [])) ⟨(newo nD2).1, (newo nD2).2⟩ (fun m H' _ hP => same_sqT hP.1 hwB) (fun m x C1 C2 hm hP hy => ?_) (fun C1 hP => ?_)⟩
      · obtain ⟨rfl, hx⟩ := hy
        obtain ⟨s3, e3⟩ := hP
        rw [List.getElem?_map] at hx
        obtain ⟨y, hym, rfl⟩ := Option.map_eq_some_iff.mp hx
        have yin := List.mem_of_getElem? hym
        have gz := (lww J5 z zin).same s3
        have gy := (lww J5 y yin).same s3
        obtain ⟨⟨a1, a2, _⟩, _⟩ := id gz
        obtain ⟨⟨b1, _, b3, b4⟩, _⟩ := id gy
        refine ⟨rfl, _, rfl, z.a, _, 0, V.ref z.d.1, rfl, rfl, a1, atI_nat (j := 0) rfl, _, rfl, y.a, _, 1, V.ref y.kn, rfl, rfl, b1, atI_nat (j := 1) rfl, dD z.d.2, (y.L.map fun q => q.2).map dD, dp_dot (.inl (.inl a2)), .tup b3 (dp_dots b4.dots), sd gz, sk gy, _, rfl, ?_⟩
        change if (if false = true then _ else _) = true then _ else _
        rw [if_neg (show ¬ false = true by decide), inKey gz gy, decide_eq_false (fun h => Mw.fresh z zin (mem_known.mpr ⟨y, yin, h⟩))]
        exact iteF ⟨s3, e3⟩
      obtain ⟨s3, e3⟩ := hP
      refine ⟨Nat.zero_le _, fun n1 nn1 => ?_⟩
      obtain ⟨s4, e4⟩ := newo (o := .lst []) nn1
      generalize upd C1 n1 (.lst []) = C2 at s4 e4 ⊢
      exact ⟨D2, n1, _, rfl, rfl, .inl (.inl (s4 _ _ e3)), .inl (.inl e4), _, rfl, iteF ⟨⟨_, rfl⟩, sG.trans (s3.trans s4)⟩⟩
    obtain ⟨⟨z10, rfl⟩, s5⟩ := hP
    replace J4 := J4.same s5
    replace hwG := same_sqT s5 hwG
    replace eG := s5 _ _ eG
    replace ek := s5 _ _ ek
    replace dk := dk.same s5
    replace xG1 := xG1.trans (Ext.of s5)
    clear s5
    have kDp : ∀ {X : Hp}, Same A5 X → Dp K X (.ref kn) (.tuple ((Mk.map fun q => q.2).map dD)) := fun {X} sX => .tup (.inl (.inl (sX _ _ ek))) (dp_dots (dk.same sX).dots)
    have kSh : SeqAt.shaped (.tuple ((Mk.map fun q => q.2).map dD)) = true := shaped_tup kd
    have hlb5 : SqL K A5 lb (bk.map fun z => V.ref z.a) := .inl (.inl J4.eb)
    have hE5 : SqL K A5 E1 (hs.map fun c => V.ref c.1) := .inl (.inl eG)
    have inK : ∀ {k : DK}, M7 k → (((Mk.map fun q => q.2).map dD).any fun x => PyData.eqv x (dD k)) = decide (k ∈ Mk.map fun q => q.2) := fun {k} mk => by
      have e := VS.any_dD mk.d3 (ks := Mk.map fun q => q.2) (fun l hl => (kM l hl).d3)
      rw [Bool.eq_iff_iff, decide_eq_true_eq]
      exact e
    -- nothing is lost
    refine ⟨_, rfl, lb, rfl, ⟨_, hlb5⟩, for_it (walk_list (K := K) (a := lb) (xs := bk.map fun z => V.ref z.a)) (fun j σ G => (∃ w10, σ = [some (.ref a), some (.int (0 + (i : Int))), some (.ref p), some (.ref Dh), some (.ref lb), some (.ref E1), y6, some (.ref wa), z8, some (.ref kn), w10, y11, y12, y13]) ∧ Same A5 G) ⟨⟨z10, rfl⟩, Same.refl _⟩ (fun j σ G _ hP => hP.2.seq hlb5) (fun j x σ G G' hj hP hy => ?_) (fun σ A6 hP => ?_)⟩
    · obtain ⟨⟨w10, rfl⟩, sG⟩ := hP
      obtain ⟨rfl, hx⟩ := hy
      rw [List.getElem?_map] at hx
      obtain ⟨z, hz, rfl⟩ := Option.map_eq_some_iff.mp hx
      have zin := List.mem_of_getElem? hz
      have hEB := sG.seq hE5
      have J5 := J4.same sG
      refine ⟨_, rfl, E1, rfl, ⟨_, hEB⟩, fun D2 nD2 => lc_it (walk_list (K := K) (a := E1) (xs := hs.map fun c => V.ref c.1)) (fun m H' => Same G' H' ∧ ∃ cs : List (Addr × List Ver), H' D2 = some (.lst (cs.map fun c => V.ref c.1)) ∧ cs.length ≤ m) ⟨(newo nD2).1, [], (newo nD2).2, Nat.le_refl _⟩ (fun m H' _ hP => hP.1.seq hEB) (fun m x C1 C2 hm hP hy => ?_) (fun C1 hP => ?_)⟩
      · obtain ⟨rfl, hx⟩ := hy
        obtain ⟨s3, cs, e3, lc⟩ := hP
        rw [List.getElem?_map] at hx
        obtain ⟨c, hc, rfl⟩ := Option.map_eq_some_iff.mp hx
        rw [List.length_map, J4.l4] at hm
        have J6 := J5.same s3
        have lc2 : ∀ y ∈ c.2, LW K C2 y := fun y hy => J6.lw y ((J6.mx m c hc).mem y hy)
        refine ⟨rfl, _, rfl, _, rfl, verD z, c.2.map verD, (J6.lw z zin).dp, cell_dp (J6.ct c (List.mem_of_getElem? hc)) lc2, (J6.lw z zin).cl.shaped (by decide), (cell_cl lc2).shaped (by decide), _, rfl, ?_⟩
        change if (if false = true then _ else _) = true then _ else _
        rw [if_neg (show ¬ false = true by decide)]
        cases he : ((c.2.map verD).any fun x => PyData.eqv x (verD z)) with
        | false => exact iteF ⟨s3, cs, e3, by omega⟩
        | true =>
          refine iteT ⟨_, rfl, _, e3, (by rw [List.length_map, sizeLine_eq]; omega), same_but nD2 s3, cs ++ [c], ?_, ?_⟩
          · rw [upd_same, List.map_append]
            rfl
          · rw [List.length_append]
            show cs.length + 1 ≤ m + 1
            omega
      obtain ⟨s3, cs, e3, _⟩ := hP
      refine ⟨Nat.zero_le _, fun n1 nn1 => ?_⟩
      obtain ⟨s4, e4⟩ := newo (o := .lst []) nn1
      generalize upd C1 n1 (.lst []) = C2 at s4 e4 ⊢
      have s34 : Same G' C2 := s3.trans s4
      refine ⟨D2, n1, _, rfl, rfl, .inl (.inl (s4 _ _ e3)), .inl (.inl e4), _, rfl, ?_⟩
      have J6 := J5.same s34
      have fin : ∃ w10, ([some (.ref a), some (.int (0 + (i : Int))), some (.ref p), some (.ref Dh), some (.ref lb), some (.ref E1), y6, some (.ref wa), z8, some (.ref kn), some (V.ref z.a), y11, y12, y13] : L2.St) = [some (.ref a), some (.int (0 + (i : Int))), some (.ref p), some (.ref Dh), some (.ref lb), some (.ref E1), y6, some (.ref wa), z8, some (.ref kn), w10, y11, y12, y13] := ⟨_, rfl⟩
      cases he : !(cs.map fun c => V.ref c.1).isEmpty with
      | false => exact iteF (iteF ⟨fin, sG.trans s34⟩)
      | true =>
        refine iteT ⟨_, rfl, _, rfl, verD z, ls.map verD, (J6.lw z zin).dp, cell_dp (same_sqT (sG.trans s34) hwG) (lww J6), (J6.lw z zin).cl.shaped (by decide), clw.shaped (by decide), _, rfl, ?_⟩
        change if (if true = true then _ else _) = true then _ else _
        rw [if_pos rfl]
        cases hb : !((ls.map verD).any fun x => PyData.eqv x (verD z)) with
        | false => exact iteF (iteF ⟨fin, sG.trans s34⟩)
        | true =>
          obtain ⟨⟨a1, a2, _⟩, az, _⟩ := J6.lw z zin
          refine iteT ⟨_, rfl, z.a, _, 0, V.ref z.d.1, rfl, rfl, a1, atI_nat (j := 0) rfl, _, rfl, dD z.d.2, (Mk.map fun q => q.2).map dD, dp_dot (.inl (.inl a2)), kDp (sG.trans s34), dot_shaped (m7_ok az).2.1, kSh, _, rfl, ?_⟩
          change if (if true = true then _ else _) = true then _ else _
          rw [if_pos rfl, inK az, decide_eq_true ((kW _).mpr (covW z zin))]
          exact iteF ⟨fin, sG.trans s34⟩
    obtain ⟨⟨w10, rfl⟩, s6⟩ := hP
    have J6 := J4.same s6
    have hE6 := s6.seq hE5
    -- what each knows is known
    refine ⟨_, rfl, E1, rfl, ⟨_, hE6⟩, for_it (walk_list (K := K) (a := E1) (xs := hs.map fun c => V.ref c.1)) (fun j σ G => (∃ w12, σ = [some (.ref a), some (.int (0 + (i : Int))), some (.ref p), some (.ref Dh), some (.ref lb), some (.ref E1), y6, some (.ref wa), z8, some (.ref kn), w10, y11, w12, y13]) ∧ Same A6 G) ⟨⟨y12, rfl⟩, Same.refl _⟩ (fun j σ G _ hP => hP.2.seq hE6) (fun j x σ G G' hj hP hy => ?_) (fun σ A7 hP => ?_)⟩
    · obtain ⟨⟨w12, rfl⟩, sG⟩ := hP
      obtain ⟨rfl, hx⟩ := hy
      rw [List.getElem?_map] at hx
      obtain ⟨c, hc, rfl⟩ := Option.map_eq_some_iff.mp hx
      rw [List.length_map, J4.l4] at hj
      have J7 := J6.same sG
      have Mc := J7.mx j c hc
      refine ⟨_, rfl, c.1, c.2, rfl, J7.cell (J7.ct c (List.mem_of_getElem? hc)) Mc, J7.d3 Mc, Mc.few J7.B, fun C0 k2 M2 s2 e2 d2 _ mem2 _ => ?_⟩
      have sub : ∀ k ∈ M2.map (fun q => q.2), M7 k ∧ k ∈ Mk.map fun q => q.2 := fun k hk => by
        have hS := (seen J7.B (J7.dn j) Mc k).mp ((mem2 k).mp hk)
        have hw : W k := by
          obtain ⟨z, hz, e⟩ := List.mem_map.mp ((J7.dn j).1 k hS)
          rw [← e]
          exact covW z hz
        exact ⟨kM k ((kW k).mpr hw), (kW k).mpr hw⟩
      have hk2 : SqT K C0 k2 (M2.map fun q => V.ref q.1) := .inl (.inl e2)
      refine ⟨k2, rfl, ⟨_, hk2⟩, fun D2 nD2 => lc_it (walk_tup (K := K) (a := k2) (xs := M2.map fun q => V.ref q.1)) (fun m H' => Same C0 H' ∧ H' D2 = some (.lst [])) ⟨(newo nD2).1, (newo nD2).2⟩ (fun m H' _ hP => same_sqT hP.1 hk2) (fun m x C1 C2 hm hP hy => ?_) (fun C1 hP => ?_)⟩
      · obtain ⟨rfl, hx⟩ := hy
        obtain ⟨s3, e3⟩ := hP
        rw [List.getElem?_map] at hx
        obtain ⟨u, hu, rfl⟩ := Option.map_eq_some_iff.mp hx
        have uin := List.mem_of_getElem? hu
        obtain ⟨mu, ku⟩ := sub u.2 (List.mem_map_of_mem uin)
        refine ⟨rfl, _, rfl, _, rfl, dD u.2, (Mk.map fun q => q.2).map dD, dp_dot (.inl (.inl (s3 _ _ (d2 u uin)))), kDp (s6.trans (sG.trans (s2.trans s3))), dot_shaped (m7_ok mu).2.1, kSh, _, rfl, ?_⟩
        change if (if true = true then _ else _) = true then _ else _
        rw [if_pos rfl, inK mu, decide_eq_true ku]
        exact iteF ⟨s3, e3⟩
      obtain ⟨s3, e3⟩ := hP
      refine ⟨Nat.zero_le _, fun n1 nn1 => ?_⟩
      obtain ⟨s4, e4⟩ := newo (o := .lst []) nn1
      generalize upd C1 n1 (.lst []) = C2 at s4 e4 ⊢
      exact ⟨D2, n1, _, rfl, rfl, .inl (.inl (s4 _ _ e3)), .inl (.inl e4), _, rfl, iteF ⟨⟨_, rfl⟩, sG.trans (s2.trans (s3.trans s4))⟩⟩
    obtain ⟨⟨w12, rfl⟩, s7⟩ := hP
    exact ⟨⟨_, _, _, _, _, _, _, _, _, _, _, _, _, rfl⟩, back (xG1.trans (Ext.of (s6.trans s7)))⟩
end
end K01

set_option Elab.async false
set_option linter.all false
set_option maxRecDepth 100000
set_option maxHeartbeats 4000000
namespace K01
open PySem PySem.Spec PyProof.Rows L2 MS
def HC (K : PySem.W.Frag) : Prop := ∃ f fd, PySem.W.nsIn K mainGlobals "cut" = some (some (.ref f)) ∧ FCut K f fd
def HN (K : PySem.W.Frag) : Prop := ∃ f fd, PySem.W.nsIn K mainGlobals "new_version" = some (some (.ref f)) ∧ FNew K f fd
theorem nv_mk {K : PySem.W.Frag} {f D : Addr} {oc : Value} {od an : Option Addr} {osl : Array (Option Value)} {doc pm cdv ct : Value} (l : K.lookup f = some ⟨oc, od, .func (PySem.W.fnOf "new_version" "new_version" (defArgs (topS 26)) (defBody (topS 26)) (defScope (topS 26)) .none (.ref D) doc pm an cdv ct), osl⟩)
    (c : PySem.W.codeIn K cdv "new_version" = true) (k : PySem.W.keepIn K (.ref f) = true) (m : PySem.W.nsIn K D "most" = some (some .none)) : FNew K f (PySem.W.fnOf "new_version" "new_version" (defArgs (topS 26)) (defBody (topS 26)) (defScope (topS 26)) .none (.ref D) doc pm an cdv ct) :=
  ⟨⟨oc, od, .none, .ref D, doc, pm, an, cdv, ct, osl, rfl, l, c, .inl ⟨rfl, rfl⟩, .inr ⟨D, rfl, fun q hq => by rw [List.mem_singleton.mp hq]; exact ⟨.none, m, rfl⟩⟩⟩, k⟩
theorem all_mk {l : PySem.W.OpenLaw} {w : World} {K : PySem.W.Frag} {h : Heap} {mg : PySem.Str → Option Value} {fa fL : Addr} {tgL tgM tgG tgW tgO : Tok} (X : K.In h) (G : h.Ns mainGlobals mg) (hfa : mg "law" = some (.ref fa))
    (b_isi : PySem.W.nsIn K mainGlobals "isinstance" = some none)
    (b_len : PySem.W.nsIn K mainGlobals "len" = some none)
    (b_all : PySem.W.nsIn K mainGlobals "all" = some none)
    (b_int : PySem.W.nsIn K mainGlobals "int" = some none)
    (b_bool : PySem.W.nsIn K mainGlobals "bool" = some none)
    (b_str : PySem.W.nsIn K mainGlobals "str" = some none)
    (b_tuple : PySem.W.nsIn K mainGlobals "tuple" = some none)
    (b_list : PySem.W.nsIn K mainGlobals "list" = some none)
    (b_set : PySem.W.nsIn K mainGlobals "set" = some none)
    (b_sorted : PySem.W.nsIn K mainGlobals "sorted" = some none)
    (b_zip : PySem.W.nsIn K mainGlobals "zip" = some none)
    (b_max : PySem.W.nsIn K mainGlobals "max" = some none)
    (b_min : PySem.W.nsIn K mainGlobals "min" = some none)
    (b_repr : PySem.W.nsIn K mainGlobals "repr" = some none)
    (b_range : PySem.W.nsIn K mainGlobals "range" = some none)
    (b_any : PySem.W.nsIn K mainGlobals "any" = some none)
    (gL : PySem.W.nsIn K mainGlobals "LETTERS" = some (some (.str letters tgL)))
    (gM : PySem.W.nsIn K mainGlobals "LONGEST_WORD" = some (some (.int 6 tgM)))
    (gG : PySem.W.nsIn K mainGlobals "GREATEST_NUMBER" = some (some (.int 1000000000000 tgG)))
    (gW : PySem.W.nsIn K mainGlobals "GREATEST_WORTH" = some (some (.int 1000000000 tgW)))
    (gO : PySem.W.nsIn K mainGlobals "GONE" = some (some (.str gone tgO)))
    (h_is_whole : HF K "is_whole" (topS 3))
    (h_is_word : HF K "is_word" (topS 4))
    (h_rises : HF K "rises" (topS 5))
    (h_is_dot : HF K "is_dot" (topS 8))
    (h_is_known : HF K "is_known" (topS 9))
    (h_together : HF K "together" (topS 10))
    (h_next_number : HF K "next_number" (topS 12))
    (h_is_mark : HF K "is_mark" (topS 20))
    (h_is_worth : HF K "is_worth" (topS 21))
    (h_is_version : HF K "is_version" (topS 22))
    (h_all_known : HF K "all_known" (topS 23))
    (h_is_cell : HF K "is_cell" (topS 24))
    (h_look_at_cell : HF K "look_at_cell" (topS 25))
    (h_joined : HF K "joined" (topS 27))
    (h_dots_of : HF K "dots_of" (topS 28))
    (h_known_by : HF K "known_by" (topS 29))
    (h__law_hand : HF K "_law_hand" (topS 31))
    (h__law_draw : HF K "_law_draw" (topS 32))
    (h__law_history : HF K "_law_history" (topS 33))
    (h__law_paired : HF K "_law_paired" (topS 34))
    (h_cut : HC K)
    (h_nv : HN K)
    (aL : PySem.W.nsIn K mainGlobals "law" = some (some (.ref fL))) (hL : ∃ fd, Fun K "law" "law" (topS 35) fL fd) :
    ∃ fd : FuncData, (∀ (s : Shared) (v : Value), BindsTo s fd ⟨[v], []⟩ [("_law_script", v)]) ∧ ∀ base : Heap, K.In base → base.Ns mainGlobals mg → RunAt l.prog w K mg base CX0 callerA fa fd ["_law_script"] (spLaw K) := by
  have e := hfa.symm.trans (PySem.W.mg_of X G aL)
  cases e
  obtain ⟨fd, FL⟩ := hL
  refine ⟨fd, fun s v => ?_, fun base _ _ => ?_⟩
  · obtain ⟨oc, od, kV, doc, pm, an, cdv, ct, osl, rfl, lk, hcd⟩ := FL.ex
    exact .of_eq rfl
  have B : Bt mg := ⟨PySem.W.mg_none_of X G b_isi, PySem.W.mg_none_of X G b_len, PySem.W.mg_none_of X G b_all, PySem.W.mg_none_of X G b_int, PySem.W.mg_none_of X G b_bool, PySem.W.mg_none_of X G b_str, PySem.W.mg_none_of X G b_tuple, PySem.W.mg_none_of X G b_list, PySem.W.mg_none_of X G b_set, PySem.W.mg_none_of X G b_sorted, PySem.W.mg_none_of X G b_zip, PySem.W.mg_none_of X G b_max, PySem.W.mg_none_of X G b_min, PySem.W.mg_none_of X G b_repr, PySem.W.mg_none_of X G b_range⟩
  have f_any : mg "any" = none := PySem.W.mg_none_of X G b_any
  replace gL : ∃ t, mg "LETTERS" = some (.str letters t) := ⟨_, PySem.W.mg_of X G gL⟩
  replace gM : ∃ t, mg "LONGEST_WORD" = some (.int 6 t) := ⟨_, PySem.W.mg_of X G gM⟩
  replace gG : ∃ t, mg "GREATEST_NUMBER" = some (.int 1000000000000 t) := ⟨_, PySem.W.mg_of X G gG⟩
  replace gW : ∃ t, mg "GREATEST_WORTH" = some (.int 1000000000 t) := ⟨_, PySem.W.mg_of X G gW⟩
  replace gO : ∃ t, mg "GONE" = some (.str gone t) := ⟨_, PySem.W.mg_of X G gO⟩
  have c_is_whole : Ca l.prog w K mg base 1 "is_whole" ["thing"] (spWhole K) := by
    obtain ⟨fh, fdh, gh, Fh⟩ := h_is_whole
    exact ⟨fh, fdh, ok_whole (k := 0) B Fh, PySem.W.mg_of X G gh, Fh.kp, Fh.binds fun _ _ _ _ _ _ us hl => match us, hl with | [_], _ => rfl⟩
  have c_is_word : Ca l.prog w K mg base 1 "is_word" ["thing"] (spWord K) := by
    obtain ⟨fh, fdh, gh, Fh⟩ := h_is_word
    exact ⟨fh, fdh, ok_word (k := 0) B gL gM Fh, PySem.W.mg_of X G gh, Fh.kp, Fh.binds fun _ _ _ _ _ _ us hl => match us, hl with | [_], _ => rfl⟩
  have c_rises : Ca l.prog w K mg base 1 "rises" ["row"] (spRis K) := by
    obtain ⟨fh, fdh, gh, Fh⟩ := h_rises
    exact ⟨fh, fdh, ok_ris (k := 0) B Fh, PySem.W.mg_of X G gh, Fh.kp, Fh.binds fun _ _ _ _ _ _ us hl => match us, hl with | [_], _ => rfl⟩
  have c_risesL : Ca l.prog w K mg base 1 "rises" ["row"] (VS.spRisL K) := by
    obtain ⟨fh, fdh, gh, Fh⟩ := h_rises
    exact ⟨fh, fdh, ok_risL (k := 0) B Fh, PySem.W.mg_of X G gh, Fh.kp, Fh.binds fun _ _ _ _ _ _ us hl => match us, hl with | [_], _ => rfl⟩
  have c_is_dot : Ca l.prog w K mg base 2 "is_dot" ["thing"] (spDot K) := by
    obtain ⟨fh, fdh, gh, Fh⟩ := h_is_dot
    exact ⟨fh, fdh, ok_dot B gG c_is_whole c_is_word Fh, PySem.W.mg_of X G gh, Fh.kp, Fh.binds fun _ _ _ _ _ _ us hl => match us, hl with | [_], _ => rfl⟩
  have c_is_known : Ca l.prog w K mg base 3 "is_known" ["thing"] (spKn K) := by
    obtain ⟨fh, fdh, gh, Fh⟩ := h_is_known
    exact ⟨fh, fdh, ok_kn B c_is_dot c_rises Fh, PySem.W.mg_of X G gh, Fh.kp, Fh.binds fun _ _ _ _ _ _ us hl => match us, hl with | [_], _ => rfl⟩
  have c_together : Ca l.prog w K mg base 1 "together" ["some"] (spTogH K) := by
    obtain ⟨fh, fdh, gh, Fh⟩ := h_together
    exact ⟨fh, fdh, ok_togH (k := 0) B Fh, PySem.W.mg_of X G gh, Fh.kp, Fh.binds fun _ _ _ _ _ _ us hl => match us, hl with | [_], _ => rfl⟩
  have c_next_number : Ca l.prog w K mg base 1 "next_number" ["own", "known"] (spNext K) := by
    obtain ⟨fh, fdh, gh, Fh⟩ := h_next_number
    exact ⟨fh, fdh, ok_next (k := 0) B Fh, PySem.W.mg_of X G gh, Fh.kp, Fh.binds fun _ _ _ _ _ _ us hl => match us, hl with | [_, _], _ => rfl⟩
  have c_is_mark : Ca l.prog w K mg base 2 "is_mark" ["thing"] (spMark K) := by
    obtain ⟨fh, fdh, gh, Fh⟩ := h_is_mark
    exact ⟨fh, fdh, ok_mark B gO c_is_whole Fh, PySem.W.mg_of X G gh, Fh.kp, Fh.binds fun _ _ _ _ _ _ us hl => match us, hl with | [_], _ => rfl⟩
  have c_is_worth : Ca l.prog w K mg base 3 "is_worth" ["thing"] (spWorth K) := by
    obtain ⟨fh, fdh, gh, Fh⟩ := h_is_worth
    exact ⟨fh, fdh, ok_worth gW c_is_whole c_is_mark Fh, PySem.W.mg_of X G gh, Fh.kp, Fh.binds fun _ _ _ _ _ _ us hl => match us, hl with | [_], _ => rfl⟩
  have c_is_version : Ca l.prog w K mg base 4 "is_version" ["thing"] (spVer K) := by
    obtain ⟨fh, fdh, gh, Fh⟩ := h_is_version
    exact ⟨fh, fdh, ok_ver B c_is_dot c_is_known c_is_worth Fh, PySem.W.mg_of X G gh, Fh.kp, Fh.binds fun _ _ _ _ _ _ us hl => match us, hl with | [_], _ => rfl⟩
  have c_all_known : Ca l.prog w K mg base 1 "all_known" ["versions"] (spAk K) := by
    obtain ⟨fh, fdh, gh, Fh⟩ := h_all_known
    exact ⟨fh, fdh, ok_ak (k := 0) Fh, PySem.W.mg_of X G gh, Fh.kp, Fh.binds fun _ _ _ _ _ _ us hl => match us, hl with | [_], _ => rfl⟩
  have c_is_cell : Ca l.prog w K mg base 5 "is_cell" ["thing"] (spCell K) := by
    obtain ⟨fh, fdh, gh, Fh⟩ := h_is_cell
    exact ⟨fh, fdh, ok_cell B f_any c_is_version c_all_known c_risesL Fh, PySem.W.mg_of X G gh, Fh.kp, Fh.binds fun _ _ _ _ _ _ us hl => match us, hl with | [_], _ => rfl⟩
  have c_look_at_cell : Ca l.prog w K mg base 6 "look_at_cell" ["thing"] (spLook K) := by
    obtain ⟨fh, fdh, gh, Fh⟩ := h_look_at_cell
    exact ⟨fh, fdh, ok_look c_is_cell Fh, PySem.W.mg_of X G gh, Fh.kp, Fh.binds fun _ _ _ _ _ _ us hl => match us, hl with | [_], _ => rfl⟩
  have c_joined : Ca l.prog w K mg base 7 "joined" ["cells"] (spJoin K) := by
    obtain ⟨fh, fdh, gh, Fh⟩ := h_joined
    exact ⟨fh, fdh, ok_join B c_look_at_cell c_all_known Fh, PySem.W.mg_of X G gh, Fh.kp, Fh.binds fun _ _ _ _ _ _ us hl => match us, hl with | [_], _ => rfl⟩
  have c_dots_of : Ca l.prog w K mg base 7 "dots_of" ["cell"] (spDots K) := by
    obtain ⟨fh, fdh, gh, Fh⟩ := h_dots_of
    exact ⟨fh, fdh, ok_dots B c_look_at_cell Fh, PySem.W.mg_of X G gh, Fh.kp, Fh.binds fun _ _ _ _ _ _ us hl => match us, hl with | [_], _ => rfl⟩
  have c_known_by : Ca l.prog w K mg base 8 "known_by" ["cell"] (spKbH K) := by
    obtain ⟨fh, fdh, gh, Fh⟩ := h_known_by
    exact ⟨fh, fdh, ok_kbH c_dots_of c_together Fh, PySem.W.mg_of X G gh, Fh.kp, Fh.binds fun _ _ _ _ _ _ us hl => match us, hl with | [_], _ => rfl⟩
  obtain ⟨fc, fdc, gc, Fc⟩ := h_cut
  have c_cut : CaD l.prog w K mg base 1 "cut" ["known", "most"] spCutN [] := by
    obtain ⟨us, v, b⟩ := FunD.binds1 (ps := ["known", "most"]) Fc 2 1 (by simp) rfl fun T kV doc pm an cdv ct us its hl hi => match us, its, hl, hi with | [_, _], [_], _, _ => ⟨_, rfl, rfl⟩
    exact ⟨fc, fdc, us, ok_cutN (k := 0) Fc, PySem.W.mg_of X G gc, Fc.kp, b, v⟩
  obtain ⟨fn, fdn, gn, Fn⟩ := h_nv
  have c_new : CaD l.prog w K mg base 5 "new_version" NNV (spNv K) [.non] := by
    obtain ⟨us, v, b⟩ := FunD.binds0 (ps := NNV) Fn 3 (by simp) rfl fun D doc pm an cdv ct us ks hl hk => match us, ks, hl, hk with | [_, _, _], [_], _, _ => ⟨_, _, _, _, _, _, rfl, rfl, rfl⟩
    exact ⟨fn, fdn, us, ok_nv c_is_version c_cut Fn, PySem.W.mg_of X G gn, Fn.kp, b, v⟩
  have c__law_hand : Ca l.prog w K mg base 1 "_law_hand" ["_law_script", "_law_k"] (spHand K) := by
    obtain ⟨fh, fdh, gh, Fh⟩ := h__law_hand
    exact ⟨fh, fdh, ok_hand (k := 0) B Fh, PySem.W.mg_of X G gh, Fh.kp, Fh.binds fun _ _ _ _ _ _ us hl => match us, hl with | [_, _], _ => rfl⟩
  have c__law_draw : Ca l.prog w K mg base 1 "_law_draw" ["_law_pool", "_law_size"] spDraw := by
    obtain ⟨fh, fdh, gh, Fh⟩ := h__law_draw
    exact ⟨fh, fdh, ok_draw (k := 0) Fh, PySem.W.mg_of X G gh, Fh.kp, Fh.binds fun _ _ _ _ _ _ us hl => match us, hl with | [_, _], _ => rfl⟩
  have c__law_history : Ca l.prog w K mg base 9 "_law_history" ["_law_pool"] (spHi K) := by
    obtain ⟨fh, fdh, gh, Fh⟩ := h__law_history
    exact ⟨fh, fdh, ok_hi B c__law_draw c_joined c_known_by c_next_number c_new Fh, PySem.W.mg_of X G gh, Fh.kp, Fh.binds fun _ _ _ _ _ _ us hl => match us, hl with | [_], _ => rfl⟩
  have c__law_paired : Ca l.prog w K mg base 8 "_law_paired" ["_law_pool", "_law_cells"] (spPa K) := by
    obtain ⟨fh, fdh, gh, Fh⟩ := h__law_paired
    exact ⟨fh, fdh, ok_pa B c__law_draw c_joined Fh, PySem.W.mg_of X G gh, Fh.kp, Fh.binds fun _ _ _ _ _ _ us hl => match us, hl with | [_, _], _ => rfl⟩
  exact ok_law B c__law_hand c__law_history c__law_paired c_joined c_known_by FL
end K01

open PySem PySem.W PyProof.Rows
set_option Elab.async false
set_option maxRecDepth 100000 in
set_option maxHeartbeats 0 in
theorem PySem.Challenge.cw_heldhints_k73_whole_joins_in_any_order_holds : PySem.Challenge.rw_heldhints_k73_whole_joins_in_any_order.Holds := by
  w_on; o_law; k_head; (case hw => w_witness2)
  k_fill
  refine L2.walk_at (l := PySem.Challenge.rw_heldhints_k73_whole_joins_in_any_order) (n := 63) (x := "_law_script") (CX := fun _ => L2.CX0) (sp := fun w => K01.spLaw _) rfl (by decide) rfl (fun w h Y => PySem.W.kIn_of Y) ?F (fun _ _ a ns hl _ hS => ⟨a, ns, rfl, hS, hl, fun _ => rfl⟩) (fun _ _ _ _ _ h => h)
  case F =>
    intro w mg fa h KX G hmg
    refine' K01.all_mk KX G hmg ?b_isi ?b_len ?b_all ?b_int ?b_bool ?b_str ?b_tuple ?b_list ?b_set ?b_sorted ?b_zip ?b_max ?b_min ?b_repr ?b_range ?b_any ?gL ?gM ?gG ?gW ?gO ?h_is_whole ?h_is_word ?h_rises ?h_is_dot ?h_is_known ?h_together ?h_next_number ?h_is_mark ?h_is_worth ?h_is_version ?h_all_known ?h_is_cell ?h_look_at_cell ?h_joined ?h_dots_of ?h_known_by ?h__law_hand ?h__law_draw ?h__law_history ?h__law_paired ?h_cut ?h_nv ?aL ?hL
    (case b_isi => k_is)
    (case b_len => k_is)
    (case b_all => k_is)
    (case b_int => k_is)
    (case b_bool => k_is)
    (case b_str => k_is)
    (case b_tuple => k_is)
    (case b_list => k_is)
    (case b_set => k_is)
    (case b_sorted => k_is)
    (case b_zip => k_is)
    (case b_max => k_is)
    (case b_min => k_is)
    (case b_repr => k_is)
    (case b_range => k_is)
    (case b_any => k_is)
    (case gL => k_is)
    (case gM => k_is)
    (case gG => k_is)
    (case gW => k_is)
    (case gO => k_is)
    (case h_is_whole => (refine' ⟨_, _, ?i1, L2.fun_mk ?i3 ?i4 ?i5⟩; (case i1 => k_is); (case i3 => k_is); (case i4 => k_is); (case i5 => k_is)))
    (case h_is_word => (refine' ⟨_, _, ?i1, L2.fun_mk ?i3 ?i4 ?i5⟩; (case i1 => k_is); (case i3 => k_is); (case i4 => k_is); (case i5 => k_is)))
    (case h_rises => (refine' ⟨_, _, ?i1, L2.fun_mk ?i3 ?i4 ?i5⟩; (case i1 => k_is); (case i3 => k_is); (case i4 => k_is); (case i5 => k_is)))
    (case h_is_dot => (refine' ⟨_, _, ?i1, L2.fun_mk ?i3 ?i4 ?i5⟩; (case i1 => k_is); (case i3 => k_is); (case i4 => k_is); (case i5 => k_is)))
    (case h_is_known => (refine' ⟨_, _, ?i1, L2.fun_mk ?i3 ?i4 ?i5⟩; (case i1 => k_is); (case i3 => k_is); (case i4 => k_is); (case i5 => k_is)))
    (case h_together => (refine' ⟨_, _, ?i1, L2.fun_mk ?i3 ?i4 ?i5⟩; (case i1 => k_is); (case i3 => k_is); (case i4 => k_is); (case i5 => k_is)))
    (case h_next_number => (refine' ⟨_, _, ?i1, L2.fun_mk ?i3 ?i4 ?i5⟩; (case i1 => k_is); (case i3 => k_is); (case i4 => k_is); (case i5 => k_is)))
    (case h_is_mark => (refine' ⟨_, _, ?i1, L2.fun_mk ?i3 ?i4 ?i5⟩; (case i1 => k_is); (case i3 => k_is); (case i4 => k_is); (case i5 => k_is)))
    (case h_is_worth => (refine' ⟨_, _, ?i1, L2.fun_mk ?i3 ?i4 ?i5⟩; (case i1 => k_is); (case i3 => k_is); (case i4 => k_is); (case i5 => k_is)))
    (case h_is_version => (refine' ⟨_, _, ?i1, L2.fun_mk ?i3 ?i4 ?i5⟩; (case i1 => k_is); (case i3 => k_is); (case i4 => k_is); (case i5 => k_is)))
    (case h_all_known => (refine' ⟨_, _, ?i1, L2.fun_mk ?i3 ?i4 ?i5⟩; (case i1 => k_is); (case i3 => k_is); (case i4 => k_is); (case i5 => k_is)))
    (case h_is_cell => (refine' ⟨_, _, ?i1, L2.fun_mk ?i3 ?i4 ?i5⟩; (case i1 => k_is); (case i3 => k_is); (case i4 => k_is); (case i5 => k_is)))
    (case h_look_at_cell => (refine' ⟨_, _, ?i1, L2.fun_mk ?i3 ?i4 ?i5⟩; (case i1 => k_is); (case i3 => k_is); (case i4 => k_is); (case i5 => k_is)))
    (case h_joined => (refine' ⟨_, _, ?i1, L2.fun_mk ?i3 ?i4 ?i5⟩; (case i1 => k_is); (case i3 => k_is); (case i4 => k_is); (case i5 => k_is)))
    (case h_dots_of => (refine' ⟨_, _, ?i1, L2.fun_mk ?i3 ?i4 ?i5⟩; (case i1 => k_is); (case i3 => k_is); (case i4 => k_is); (case i5 => k_is)))
    (case h_known_by => (refine' ⟨_, _, ?i1, L2.fun_mk ?i3 ?i4 ?i5⟩; (case i1 => k_is); (case i3 => k_is); (case i4 => k_is); (case i5 => k_is)))
    (case h__law_hand => (refine' ⟨_, _, ?i1, L2.fun_mk ?i3 ?i4 ?i5⟩; (case i1 => k_is); (case i3 => k_is); (case i4 => k_is); (case i5 => k_is)))
    (case h__law_draw => (refine' ⟨_, _, ?i1, L2.fun_mk ?i3 ?i4 ?i5⟩; (case i1 => k_is); (case i3 => k_is); (case i4 => k_is); (case i5 => k_is)))
    (case h__law_history => (refine' ⟨_, _, ?i1, L2.fun_mk ?i3 ?i4 ?i5⟩; (case i1 => k_is); (case i3 => k_is); (case i4 => k_is); (case i5 => k_is)))
    (case h__law_paired => (refine' ⟨_, _, ?i1, L2.fun_mk ?i3 ?i4 ?i5⟩; (case i1 => k_is); (case i3 => k_is); (case i4 => k_is); (case i5 => k_is)))
    (case h_cut => (refine' ⟨_, _, ?i1, K01.cut_mk ?i3 ?i4 ?i5 ?i6 ?i7⟩; (case i1 => k_is); (case i3 => k_is); (case i4 => k_is); (case i5 => k_is); (case i6 => k_is); (case i7 => exact rfl)))
    (case h_nv => (refine' ⟨_, _, ?i1, K01.nv_mk ?i3 ?i4 ?i5 ?i6⟩; (case i1 => k_is); (case i3 => k_is); (case i4 => k_is); (case i5 => k_is); (case i6 => k_is)))
    (case aL => k_is)
    (case hL => (refine' ⟨_, L2.fun_mk ?i3 ?i4 ?i5⟩; (case i3 => k_is); (case i4 => k_is); (case i5 => k_is)))
