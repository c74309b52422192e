import PyProof.Rows.All
import Wide.All
import OpenK.AllK
import Wide.FinOn
import HandS.ForMost
import HandS.TupSets
import KE.KSortTupUse
import HandS.SetBool
import HandS.Comp
import HandS.TupAny
import HandS.TupLe
import HandS.Zip
import HandS.IsInst
import HandS.Style
import HandS.AnyAll
import HandS.Walk
import HandS.Defaults
import KE.SortCalls
import HandS.DictComp
import PyProof.P3In
import KE.KDictSum
import HandS.Conv
import HandS.Deep
import PyProof.P3Eq
import PySem.Challenge.RW_heldhints_k03_cells_joined
set_option Elab.async false
set_option linter.all false
set_option maxRecDepth 100000
set_option maxHeartbeats 4000000
/-! Sets of tuples whose items are numbers and texts. -/
namespace MS
open PySem PySem.Spec PyProof.Rows L2
abbrev MH (P : Program) (w : World) (k : List Key) : Int := tupleKeyHash (mixKind P w) k
abbrev MT (P : Program) (w : World) (h : Heap) (k : List Key) (a : Addr) : Prop := IsTupleKey (mixKind P w) h k a
abbrev Row := Addr × List Key
def enc (P : Program) (w : World) (p : Row) : Int × Value := (MH P w p.2, Value.ref p.1)
def hs (P : Program) (w : World) (L : List Row) : List Int := L.map fun p => MH P w p.2
section
variable {P : Program} {w : World} {A : Around} {E : Value → Shared → Prop} {s : Shared}
/-! ### the items are leaves -/
def Leaf (v : Value) : Prop := (∃ i t, v = Value.int i t) ∨ ∃ x t, v = Value.str x t
theorem leaves {k : List Key} {vs : List Value} (h : ItemsAre (mixKind P w) k vs) : ∀ v ∈ vs, Leaf v := by
  induction h with
  | nil => exact fun v z => nomatch z
  | cons h1 _ ih =>
    intro v z
    rcases List.mem_cons.mp z with rfl | z
    · rcases keyIs_shape h1 with ⟨i, t, _, e⟩ | ⟨x, t, _, e⟩
      · exact .inl ⟨i, t, e⟩
      · exact .inr ⟨x, t, e⟩
    · exact ih v z
theorem leaf_cls {v : Value} (h : Leaf v) (n : Nat) : ofAClassStatement n v = pure false := by
  rcases h with ⟨i, t, rfl⟩ | ⟨x, t, rfl⟩ <;> cases n <;> rfl
theorem leaf_by {v : Value} (h : Leaf v) (n : Nat) : ∃ b, hashByValue n v = pure b := by
  rcases h with ⟨i, t, rfl⟩ | ⟨x, t, rfl⟩
  · exact ⟨true, by cases n <;> rfl⟩
  · exact ⟨false, by cases n <;> rfl⟩
theorem mt_cls {k : List Key} {b : Addr} {Q : Bool → Shared → Prop} (z : MT P w s.heap k b) (q : Q false s) : wpAny (model P w) A (ofAClassStatement 8 (.ref b)) Q E s := by
  have ty := z.typeIs
  obtain ⟨o, its, n, g, _, dt, it⟩ := z
  unfold ofAClassStatement
  refine wpAny_bind (wpAny_typeOf ty ?_)
  have e : (("tuple" : String) == "tuple") = true := by decide
  dsimp only
  simp only [e, if_true, Bool.not_true, Bool.false_eq_true, if_false]
  try refine wpAny_bind (wpAny_pure ?_)
  try simp only [if_false, Bool.not_true, Bool.false_eq_true]
  show wpAny _ _ (seqItems? (.ref b) >>= _) _ _ s
  refine wpAny_bind (wpAny_seqItems g dt ?_)
  dsimp only
  refine wpAny_bind ?_
  show wpAny _ _ (forIn its _ _) _ _ s
  rw [← Array.forIn_toList]
  refine wpAny_forIn_list _ (fun l r s' => r.1 = none ∧ s' = s ∧ ∀ v ∈ l, Leaf v) _ (fun v l r s' hI => ?_) (fun r s' hI => ?_) _ _ ⟨rfl, rfl, leaves it⟩
  · obtain ⟨e1, rfl, al⟩ := hI
    rw [leaf_cls (al v List.mem_cons_self)]
    refine wpAny_bind (wpAny_pure ?_)
    simp only [if_false, Bool.false_eq_true]
    exact wpAny_pure ⟨rfl, rfl, fun u hu => al u (List.mem_cons_of_mem _ hu)⟩
  · obtain ⟨r1, r2⟩ := r
    obtain ⟨e1, rfl, _⟩ := hI
    simp only at e1
    subst e1
    exact wpAny_pure q
theorem mt_by {k : List Key} {b : Addr} {Q : Bool → Shared → Prop} (z : MT P w s.heap k b) (q : ∀ c, Q c s) : wpAny (model P w) A (hashByValue 8 (.ref b)) Q E s := by
  have ty := z.typeIs
  obtain ⟨o, its, n, g, _, dt, it⟩ := z
  unfold hashByValue
  refine wpAny_bind (wpAny_specialOf ty F.slot_tuple_hash.lookup ?_)
  show wpAny _ _ (seqItems? (.ref b) >>= _) _ _ s
  refine wpAny_bind (wpAny_seqItems g dt ?_)
  refine wpAny_bind ?_
  show wpAny _ _ (forIn its _ _) _ _ s
  rw [← Array.forIn_toList]
  refine wpAny_forIn_list _ (fun l r s' => r.1 = none ∧ s' = s ∧ ∀ v ∈ l, Leaf v) _ (fun v l r s' hI => ?_) (fun r s' hI => ?_) _ _ ⟨rfl, rfl, leaves it⟩
  · obtain ⟨e1, rfl, al⟩ := hI
    obtain ⟨c, hc⟩ := leaf_by (al v List.mem_cons_self) 7
    rw [hc]
    refine wpAny_bind (wpAny_pure ?_)
    cases c with
    | true =>
      simp only [if_false, Bool.not_true, Bool.false_eq_true]
      exact wpAny_pure ⟨rfl, rfl, fun u hu => al u (List.mem_cons_of_mem _ hu)⟩
    | false =>
      simp only [if_true, Bool.not_false]
      exact wpAny_pure (wpAny_pure (q false))
  · obtain ⟨r1, r2⟩ := r
    obtain ⟨e1, rfl, _⟩ := hI
    simp only at e1
    subst e1
    exact wpAny_pure (q true)
theorem mt_unseen {k : List Key} {b : Addr} {Q : Bool → Shared → Prop} (z : MT P w s.heap k b) {ys : List Value} (al : ∀ y ∈ ys, ∃ k' c, y = Value.ref c ∧ MT P w s.heap k' c) (q : Q false s) : wpAny (model P w) A (searchCouldBeSeen (.ref b) ys) Q E s := by
  unfold searchCouldBeSeen
  refine wpAny_bind (wpAny_forIn_list _ (fun l r s' => r.1 = none ∧ s' = s ∧ ∀ y ∈ l, ∃ k' c, y = Value.ref c ∧ MT P w s.heap k' c) _ (fun v l r s' hI => ?_) (fun r s' hI => ?_) _ _ ⟨rfl, rfl, al⟩)
  · obtain ⟨e1, rfl, al'⟩ := hI
    obtain ⟨k', c, rfl, z'⟩ := al' v List.mem_cons_self
    have tl : ∀ y ∈ l, ∃ k' c, y = Value.ref c ∧ MT P w s'.heap k' c := fun u hu => al' u (List.mem_cons_of_mem _ hu)
    dsimp only
    by_cases very : (b == c || (carriedByValue (.ref b) && carriedByValue (.ref c))) = true
    · exact wp_if_pos very (wpAny_pure ⟨rfl, rfl, tl⟩)
    · refine wp_if_neg very (wpAny_bind (wpAny_eqIsQuiet_tuple z ?_))
      simp only [if_false, Bool.not_true, Bool.false_eq_true]
      refine wpAny_bind (wpAny_eqIsQuiet_tuple z' ?_)
      simp only [if_false, Bool.not_true, Bool.false_eq_true]
      refine wpAny_bind (mt_cls z ?_)
      simp only [if_false, Bool.false_eq_true]
      refine wpAny_bind (mt_cls z' ?_)
      simp only [if_false, Bool.false_eq_true]
      exact wpAny_pure ⟨rfl, rfl, tl⟩
  · obtain ⟨r1, r2⟩ := r
    obtain ⟨e1, rfl, _⟩ := hI
    simp only at e1
    subst e1
    exact wpAny_pure q
/-! ### such a set -/
structure SR (P : Program) (w : World) (h : Heap) (a : Addr) (L : List Row) (es : Array (Int × Value)) (ep : Nat) (t : SetTable) : Prop where
  ob : ∃ o, h.get? a = some o ∧ o.ExactSet ∧ o.data = .set es ep t
  rw_ : es.toList = L.map (enc P w)
  tab : TabOk t (hs P w L)
  nd : (L.map (·.2)).Nodup
  led : w.params.followText "set-order" = true ∨ t.led = true
  room : L.length * 5 < t.mask * 3
  few : L.length < 64
def Tups (P : Program) (w : World) (h : Heap) (L : List Row) : Prop := ∀ p ∈ L, MT P w h p.2 p.1
variable {a : Addr} {L : List Row} {es : Array (Int × Value)} {ep : Nat} {t : SetTable}
theorem enc_len {L : List Row} {es : Array (Int × Value)} (h : es.toList = L.map (enc P w)) : es.size = L.length := by
  have z := congrArg List.length h
  simpa using z
theorem fits_of {n m : Nat} (h1 : t.place.size = n) (h2 : t.dummies = #[]) (h3 : n = m) (h4 : m ≤ t.mask) : t.fits m = true := by
  unfold SetTable.fits SetTable.fill
  rw [h2, Bool.and_eq_true, beq_iff_eq, decide_eq_true_eq]
  show t.place.size = m ∧ t.place.size + 0 ≤ t.mask
  omega
theorem SR.fits {h : Heap} (R : SR P w h a L es ep t) : t.fits es.size = true := by
  have z := R.tab.sz
  have y := R.room
  unfold hs at z
  rw [List.length_map] at z
  exact fits_of z R.tab.dm (enc_len R.rw_).symm (by rw [enc_len R.rw_]; omega)
theorem SR.at_ {h : Heap} (R : SR P w h a L es ep t) {i : Nat} {p : Row} (z : L[i]? = some p) : es[i]? = some (enc P w p) := by
  rw [← Array.getElem?_toList, R.rw_, List.getElem?_map, z] <;> rfl
theorem SR.odd {h : Heap} (R : SR P w h a L es ep t) : ¬ t.gaveWay = true := by
  unfold SetTable.gaveWay
  rw [mask_odd R.tab.mok]
  decide
/-- the first state of a hash's way -/
abbrev st0 (m : Nat) (h : Int) : SetTable.Probe := runAt m (SetTable.bits h % (m + 1)) (SetTable.bits h)
theorem clean (m : Nat) : ∀ (n : Nat) (p : SetTable.Probe), p.dummy = none → (nth m p n).dummy = none
  | 0, _, z => z
  | n + 1, p, z => clean m n (adv m p) (by unfold adv; split <;> exact z)
/-- looking for k from the c-th step on -/
theorem seek (R : SR P w s.heap a L es ep t) (tu : Tups P w s.heap L) {x : Addr} {k : List Key} (zx : MT P w s.heap k x) (hu : A.units < cLine) {N : Nat} (lim : N < 10 * SetTable.turns t.mask)
    (free : way t.mask (MH P w k) N ∉ t.place.toList) (full : ∀ c, c < N → way t.mask (MH P w k) c ∈ t.place.toList) {Q : SetFound → Shared → Prop}
    (yes : k ∈ L.map (·.2) → Q (.there none) s) (no : k ∉ L.map (·.2) → Q (.free (way t.mask (MH P w k) N) false) s) :
    ∀ (fu c : Nat) (sd : Option SetTable.Probe), sd.getD (t.probeStart (MH P w k)) = nth t.mask (st0 t.mask (MH P w k)) c → c ≤ N → N - c < fu →
      (∀ (i : Nat) (p : Row), L[i]? = some p → p.2 = k → ∃ c', c ≤ c' ∧ c' < N ∧ t.place.toList[i]? = some (way t.mask (MH P w k) c')) →
      wpAny (model P w) A (setSearchFrom a (.ref x) (MH P w k) true fu sd) Q E s := by
  intro fu
  induction fu with
  | zero => exact fun c sd _ _ z _ => absurd z (Nat.not_lt_zero _)
  | succ fu ih =>
    intro c sd esd cN lt ahead
    obtain ⟨o, go, ex, dt⟩ := R.ob
    have step : ∀ q, nth t.mask (nth t.mask (st0 t.mask (MH P w k)) c) q = nth t.mask (st0 t.mask (MH P w k)) (c + q) := fun q => (nth_add t.mask c _ q).symm
    have stepj : ∀ q, (nth t.mask (nth t.mask (st0 t.mask (MH P w k)) c) q).j = way t.mask (MH P w k) (c + q) := fun q => congrArg SetTable.Probe.j (step q)
    have hAt : ∀ (i : Nat) (p : Row), L[i]? = some p → (es[i]?.map (·.1)).getD 0 = MH P w p.2 := fun i p z => by
      rw [R.at_ z] <;> rfl
    have sp := go_spec t R.tab.ris R.tab.dm (fun i => (es[i]?.map (·.1)).getD 0) (MH P w k) (10 * SetTable.turns t.mask) (N - c) _ (clean t.mask c (st0 t.mask (MH P w k)) rfl) (by omega)
      (fun q hq => by rw [stepj]; exact full (c + q) (by omega)) (by rw [stepj, show c + (N - c) = N by omega]; exact free)
    rw [setSearchFrom_succ]
    refine wpAny_bind (wpAny_setState_of go dt R.fits (wp_if_neg R.odd ?_))
    try refine wpAny_bind (wpAny_pure ?_)
    rcases sp with ⟨q, i, hq, hi, _, passed, pr⟩ | ⟨passed, pr⟩
    · have pr' : t.probe (fun i => (es[i]?.map (·.1)).getD 0) (MH P w k) (sd.getD (t.probeStart (MH P w k))) = some (.candidate (way t.mask (MH P w k) (c + q)) i (nth t.mask (st0 t.mask (MH P w k)) (c + (q + 1)))) := by
        rw [esd, ← stepj, ← step]
        exact pr
      rw [pr']
      dsimp only
      rw [stepj] at hi
      have iL : i < L.length := by
        have y1 : i < t.place.toList.length := (List.getElem?_eq_some_iff.mp hi).1
        have y2 := R.tab.sz
        unfold hs at y2
        rw [List.length_map] at y2
        rw [Array.length_toList] at y1
        omega
      obtain ⟨p, gp⟩ : ∃ p, L[i]? = some p := ⟨L[i], List.getElem?_eq_getElem iL⟩
      have mp : p ∈ L := List.mem_of_getElem? gp
      have on : wpAny (model P w) A (searchRest a (.ref x) (MH P w k) true fu es t (way t.mask (MH P w k) (c + q)) i (nth t.mask (st0 t.mask (MH P w k)) (c + (q + 1)))) Q E s := by
        unfold searchRest
        rw [R.at_ gp]
        refine wpAny_bind (wpAny_holding (wpAny_eqBool_tuple hu (tu p mp) zx (wpAny_bind (wpAny_setState_of go dt R.fits ?_))))
        dsimp only
        by_cases same : p.2 = k
        · exact wp_if_pos (by simp [same]) (wpAny_pure (yes (List.mem_map.mpr ⟨p, mp, same⟩)))
        · refine wp_if_neg (by simp [same]) ?_
          try refine wpAny_bind (wpAny_pure ?_)
          have live : t.slot (way t.mask (MH P w k) (c + q)) = .live i := slot_live R.tab.ris hi
          rw [sameMem]
          dsimp only
          simp only [if_true, live, R.at_ gp]
          refine wpAny_bind (wpAny_isSame_ref_self (wpAny_bind (wpAny_pure ?_)))
          simp only [if_true]
          refine wp_if_neg (by simp [same]) (ih (c + (q + 1)) _ rfl (by omega) (by omega) fun i' p' g' k' => ?_)
          obtain ⟨c', b1, b2, b3⟩ := ahead i' p' g' k'
          refine ⟨c', ?_, b2, b3⟩
          rcases Nat.lt_trichotomy c' (c + q) with y | y | y
          · exact absurd ((hAt i' p' g').trans (congrArg (MH P w) k')) (passed (c' - c) i' (by omega) (by rw [stepj, show c + (c' - c) = c' by omega]; exact b3))
          · rw [y] at b3
            have sl := slot_live R.tab.ris b3
            rw [live] at sl
            injection sl with sl
            rw [← sl, gp] at g'
            exact absurd ((congrArg Prod.snd (Option.some.inj g')).trans k') same
          · omega
      by_cases ld : t.led = true
      · refine wp_if_neg (by simp [ld]) ?_
        try refine wpAny_bind (wpAny_pure ?_)
        exact on
      · refine wp_if_pos (by simp [ld]) (wpAny_bind (mt_unseen zx (fun y hy => ?_) ?_))
        · obtain ⟨e, me, rfl⟩ := List.mem_map.mp hy
          have me' : e ∈ es.toList := by
            have z : e ∈ es ∧ e.1 = MH P w k := by simpa using me
            simpa using z.1
          rw [R.rw_] at me'
          obtain ⟨p2, mp2, rfl⟩ := List.mem_map.mp me'
          exact ⟨p2.2, p2.1, rfl, tu p2 mp2⟩
        · refine wp_if_neg (by decide) ?_
          try refine wpAny_bind (wpAny_pure ?_)
          exact on
    · have pr' : t.probe (fun i => (es[i]?.map (·.1)).getD 0) (MH P w k) (sd.getD (t.probeStart (MH P w k))) = some (.empty (way t.mask (MH P w k) N) none) := by
        rw [esd, show way t.mask (MH P w k) N = (nth t.mask (nth t.mask (st0 t.mask (MH P w k)) c) (N - c)).j by rw [stepj, show c + (N - c) = N by omega]]
        exact pr
      rw [pr']
      dsimp only
      refine wpAny_pure (no fun hm => ?_)
      obtain ⟨p, mp, kp⟩ := List.mem_map.mp hm
      obtain ⟨i, il, gi⟩ := List.getElem_of_mem mp
      have g' : L[i]? = some p := by rw [List.getElem?_eq_getElem il, gi]
      obtain ⟨c', b1, b2, b3⟩ := ahead i p g' kp
      exact passed (c' - c) i (by omega) (by rw [stepj, show c + (c' - c) = c' by omega]; exact b3) ((hAt i p g').trans (congrArg (MH P w) kp))
theorem seek0 (R : SR P w s.heap a L es ep t) (tu : Tups P w s.heap L) {x : Addr} {k : List Key} (zx : MT P w s.heap k x) (hu : A.units < cLine) {Q : SetFound → Shared → Prop}
    (yes : k ∈ L.map (·.2) → Q (.there none) s)
    (no : ∀ N, k ∉ L.map (·.2) → way t.mask (MH P w k) N ∉ t.place.toList → (∀ c, c < N → way t.mask (MH P w k) c ∈ t.place.toList) → Q (.free (way t.mask (MH P w k) N) false) s) :
    wpAny (model P w) A (setSearch a (.ref x) (MH P w k) true) Q E s := by
  have y := R.room
  have len : (hs P w L).length = L.length := by unfold hs; rw [List.length_map]
  obtain ⟨N, lim, free, full⟩ := R.tab.first (by rw [len]; omega) (MH P w k)
  have small : 10 * SetTable.turns t.mask ≤ 1420 := by
    unfold SetTable.turns
    rcases R.tab.mok with e | e | e <;> omega
  refine seek R tu zx hu lim free full yes (fun z => no N z free full) 100000 0 none rfl (Nat.zero_le _) (by omega) fun i p gp kp => ?_
  have gi : (hs P w L)[i]? = some (MH P w k) := by
    unfold hs
    rw [List.getElem?_map, gp, ← kp] <;> rfl
  have ip : i < t.place.toList.length := by
    have y1 := (List.getElem?_eq_some_iff.mp gp).1
    have y2 := R.tab.sz
    rw [len] at y2
    rw [Array.length_toList]
    omega
  have gj := List.getElem?_eq_getElem ip
  obtain ⟨c, b1, b2⟩ := R.tab.before free gi gj
  exact ⟨c, Nat.zero_le _, b1, by rw [gj, b2]⟩
end
end MS

set_option Elab.async false
set_option linter.all false
set_option maxRecDepth 100000
set_option maxHeartbeats 4000000
namespace MS
open PySem PySem.Spec PyProof.Rows L2
theorem range_all {α : Type} (L : List α) : ∀ n, n ≤ L.length → (List.range n).filterMap (fun i => L[i]?) = L.take n
  | 0, _ => rfl
  | n + 1, z => by
    have y : n < L.length := z
    rw [List.range_succ, List.filterMap_append, range_all L n (Nat.le_of_lt y), List.take_succ, List.getElem?_eq_getElem y]
    rw [List.filterMap_cons_some (List.getElem?_eq_getElem y)] <;> rfl
section
variable {P : Program} {w : World} {A : Around} {E : Value → Shared → Prop} {s : Shared}
variable {a : Addr} {L : List Row} {es : Array (Int × Value)} {ep : Nat} {t : SetTable}
theorem reorder {L : List Row} {es : Array (Int × Value)} (e : es.toList = L.map (enc P w)) {ord : Array Nat} (pm : ord.toList.Perm (List.range L.length)) :
    ∃ L2 : List Row, (ord.filterMap (es[·]?)).toList = L2.map (enc P w) ∧ L2.Perm L ∧ hs P w L2 = ord.toList.map fun i => (es.map (·.1)).getD i 0 := by
  have ent : ∀ i, es[i]? = (L[i]?).map (enc P w) := fun i => by rw [← Array.getElem?_toList, e, List.getElem?_map]
  refine ⟨ord.toList.filterMap (fun i => L[i]?), ?_, ?_, ?_⟩
  · have z : (ord.filterMap (es[·]?)).toList = ord.toList.filterMap (fun i => es[i]?) := by first | rw [Array.toList_filterMap] | simp
    rw [z, List.map_filterMap]
    exact congrArg (fun f => ord.toList.filterMap f) (funext ent)
  · have z := pm.filterMap (fun i => L[i]?)
    rw [range_all L L.length (Nat.le_refl _), List.take_length] at z
    exact z
  · have key : ∀ l : List Nat, (∀ i ∈ l, i < L.length) → hs P w (l.filterMap fun i => L[i]?) = l.map fun i => (es.map (·.1)).getD i 0 := by
      intro l
      induction l with
      | nil => exact fun _ => rfl
      | cons i l ih =>
        intro z
        have il := z i List.mem_cons_self
        rw [List.filterMap_cons_some (List.getElem?_eq_getElem il), List.map_cons, ← ih fun j hj => z j (List.mem_cons_of_mem _ hj)]
        have y : (es.map (·.1))[i]? = some (MH P w (L[i]).2) := by
          rw [Array.getElem?_map, ent i, List.getElem?_eq_getElem il] <;> rfl
        have y2 : (es.map (·.1)).getD i 0 = MH P w (L[i]).2 := by simp [Array.getD_eq_getD_getElem?, y]
        rw [y2]
        rfl
    exact key _ fun i hi => List.mem_range.mp (pm.mem_iff.mp hi)
theorem relay {o : Obj} (go : s.heap.get? a = some o) (ex : o.ExactSet) (dt : o.data = .set es ep t) (er : es.toList = L.map (enc P w)) (sz : t.place.size = es.size) (dm : t.dummies = #[]) (fl : es.size ≤ t.mask)
    (nd : (L.map (·.2)).Nodup) (ld : w.params.followText "set-order" = true ∨ t.led = true) (few : L.length < 64) {wd M : Nat} (hw : SetTable.sizeAbove wd - 1 = M) (hM : MaskOk M) (big : SetTable.sizeAbove wd ≤ 128) (rm : L.length * 5 < M * 3) {Q : Unit → Shared → Prop}
    (q : ∀ h' L' es' ep' t', Heap.SameBut a s.heap h' → SR P w h' a L' es' ep' t' → L'.Perm L → Q () { s with heap := h' }) : wpAny (model P w) A (setRelay a wd) Q E s := by
  have el := enc_len er
  obtain ⟨t', ord, e1, pm, tb, em, eld, _, _⟩ := relaid_ok t (hs := es.map (·.1)) (wanted := wd) hw hM (by rw [Array.size_map, el]; omega)
  rw [Array.size_map, el] at pm
  obtain ⟨L2, r1, r2, r3⟩ := reorder er pm
  rw [← r3] at tb
  have s2 : (ord.filterMap (es[·]?)).size = es.size := by rw [enc_len r1, r2.length_eq, el]
  rw [setRelay_eq]
  refine wpAny_bind (wpAny_setState_of go dt (fits_of sz dm rfl fl) (wp_if_neg (by rw [sizeLine_eq]; omega) ?_))
  try refine wpAny_bind (wpAny_pure ?_)
  rw [e1]
  refine wpAny_bind (wp_if_neg (by rw [s2]; simp) ?_)
  try refine wpAny_bind (wpAny_pure ?_)
  refine wpAny_pure (wpAny_storeSet_of go dt ?_ (by rw [s2, el, sizeLine_eq]; omega))
  refine q _ L2 (ord.filterMap (es[·]?)) (ep + 1) t' (Heap.SameBut.update ..) ⟨⟨_, store_at go dt, ⟨ex.1, ex.2.1, ex.2.2⟩, rfl⟩, r1, tb, (r2.map (·.2)).nodup_iff.mpr nd, by rw [eld]; exact ld, by rw [r2.length_eq, em]; exact rm, by rw [r2.length_eq]; exact few⟩ r2
/-- the mark «plain» is of no account -/
theorem tab_plain {t : SetTable} {l : List Int} (h : TabOk t l) (b : Bool) : TabOk (if b = true then t else { t with plain := false }) l := by
  cases b with
  | true => exact h
  | false => exact ⟨h.ris, h.dm, h.sz, h.mok, h.bd, h.reach⟩
theorem mt_but {h h' : Heap} {k : List Key} {b : Addr} {o : Obj} (z : MT P w h k b) (go : h.get? a = some o) (dt : o.data = .set es ep t) (sb : Heap.SameBut a h h') : MT P w h' k b := by
  obtain ⟨o', its, n, g, c, d, it⟩ := z
  refine ⟨o', its, n, (sb.2 b ?_).trans g, c, d, it⟩
  rintro rfl
  rw [go] at g
  cases g
  rw [dt] at d
  cases d
theorem SR.but {h h' : Heap} (R : SR P w h a L es ep t) {k : List Key} {b : Addr} (z : MT P w h k b) (sb : Heap.SameBut a h h') : MT P w h' k b := by
  obtain ⟨o, go, _, dt⟩ := R.ob
  exact mt_but z go dt sb
/-- adding a tuple -/
theorem add (R : SR P w s.heap a L es ep t) (tu : Tups P w s.heap L) {x : Addr} {k : List Key} (zx : MT P w s.heap k x) (hu : A.units < cLine) (few : L.length + 1 < 64) {Q : Bool → Shared → Prop}
    (q : ∀ b h' L' es' ep' t', Heap.SameBut a s.heap h' → SR P w h' a L' es' ep' t' → (k ∈ L.map (·.2) → L' = L) → (k ∉ L.map (·.2) → L'.Perm ((x, k) :: L)) → Q b { s with heap := h' }) :
    wpAny (model P w) A (setAddHashed a (.ref x) (MH P w k)) Q E s := by
  obtain ⟨o, go, ex, dt⟩ := R.ob
  have el := enc_len R.rw_
  have rm := R.room
  have hl : (hs P w L).length = L.length := by unfold hs; rw [List.length_map]
  unfold setAddHashed
  refine wpAny_holding ?_
  rw [show (100000 : Nat) = 99999 + 1 from rfl, setAddHashedIn_succ]
  refine wpAny_bind (wpAny_setState_of go dt R.fits (wp_if_neg (by simp [byScan, Value.scannable]) ?_))
  try refine wpAny_bind (wpAny_pure ?_)
  refine wpAny_bind (seek0 R tu zx hu (fun z => ?_) fun N nz free full => ?_)
  · exact wpAny_pure (q false s.heap L es ep t (Heap.SameBut.refl a s.heap) R (fun _ => rfl) fun y => absurd z y)
  · dsimp only
    refine wpAny_bind (wpAny_setState_of go dt R.fits ?_)
    dsimp only
    obtain ⟨f1, f2, f3, f4, f5, _, _, _, f9⟩ := R.tab.put free full
    generalize hpt : t.put (way t.mask (MH P w k) N) = pt at f1 f3 f4 f5 f9 ⊢
    obtain ⟨t1, j⟩ := pt
    dsimp only at f1 f3 f4 f5 f9 ⊢
    subst f1
    generalize hj : SetTable.below t.place (way t.mask (MH P w k) N) = j at f2 f3 ⊢
    -- the rows, with the new one
    have pm : (L.take j ++ (x, k) :: L.drop j).Perm ((x, k) :: L) := by
      have z : (L.take j ++ (x, k) :: L.drop j).Perm ((x, k) :: (L.take j ++ L.drop j)) := List.perm_middle
      rw [List.take_append_drop] at z
      exact z
    have er : (SetTable.insertAt es j (MH P w k, Value.ref x)).toList = (L.take j ++ (x, k) :: L.drop j).map (enc P w) := by
      rw [SetTable.toList_insertAt, R.rw_, List.map_append, List.map_cons, List.map_take, List.map_drop] <;> rfl
    have eh : (hs P w L).take j ++ MH P w k :: (hs P w L).drop j = hs P w (L.take j ++ (x, k) :: L.drop j) := by
      unfold hs
      rw [List.map_append, List.map_cons, List.map_take, List.map_drop]
    rw [eh] at f3
    have nd1 : ((L.take j ++ (x, k) :: L.drop j).map (·.2)).Nodup := (pm.map (·.2)).nodup_iff.mpr (List.nodup_cons.mpr ⟨nz, R.nd⟩)
    have len1 := pm.length_eq
    rw [List.length_cons] at len1
    have ez := enc_len er
    generalize SetTable.insertAt es j (MH P w k, Value.ref x) = es1 at er ez ⊢
    generalize L.take j ++ (x, k) :: L.drop j = L1 at pm er f3 nd1 len1 ez
    -- whatever the hash hangs on
    have rest : ∀ c : Bool, wpAny (model P w) A (do
        let t := if c = true then t1 else { t1 with plain := false }
        storeSet a es1 t
        if !false && t.tooFull then setRelay a (SetTable.grown (es.size + 1))
        return true) Q E s := fun c => by
      have tb := tab_plain f3 c
      have m2 : (if c = true then t1 else { t1 with plain := false }).mask = t.mask := by cases c <;> exact f4
      have l2 : (if c = true then t1 else { t1 with plain := false }).led = t.led := by cases c <;> exact f5
      have i2 : (if c = true then t1 else { t1 with plain := false }).fill = L.length + 1 := by
        rw [hl] at f9
        cases c <;> exact f9
      generalize (if c = true then t1 else { t1 with plain := false } : SetTable) = t2 at tb m2 l2 i2 ⊢
      dsimp only
      refine wpAny_bind (wpAny_storeSet_of go dt ?_ (by rw [ez, sizeLine_eq]; omega))
      have sb : Heap.SameBut a s.heap (s.heap.update a (Obj.putSet es1 t2)) := Heap.SameBut.update ..
      have go1 := store_at (es' := es1) (t' := t2) go dt
      generalize s.heap.update a (Obj.putSet es1 t2) = h1 at sb go1 ⊢
      have ld : w.params.followText "set-order" = true ∨ t2.led = true := by rw [l2]; exact R.led
      have pz : t2.place.size = es1.size := by
        have z := tb.sz
        unfold hs at z
        rw [List.length_map] at z
        rw [z, ez]
      have tf : t2.tooFull = decide ((L.length + 1) * 5 ≥ t.mask * 3) := by
        unfold SetTable.tooFull
        rw [i2, m2]
      by_cases full2 : (L.length + 1) * 5 ≥ t.mask * 3
      · have two : (t.mask = 7 ∧ L.length = 4) ∨ (t.mask = 31 ∧ L.length = 18) := by
          rcases R.tab.mok with e | e | e
          · exact .inl ⟨e, by omega⟩
          · exact .inr ⟨e, by omega⟩
          · omega
        have run : ∀ M, SetTable.sizeAbove (SetTable.grown (es.size + 1)) - 1 = M → MaskOk M → SetTable.sizeAbove (SetTable.grown (es.size + 1)) ≤ 128 → L1.length * 5 < M * 3 →
            wpAny (model P w) A (setRelay a (SetTable.grown (es.size + 1))) (fun _ s' => wpAny (model P w) A (pure true) Q E s') E { s with heap := h1 } := fun M y1 y2 y3 y4 =>
          relay (s := { s with heap := h1 }) go1 ⟨ex.1, ex.2.1, ex.2.2⟩ rfl er pz tb.dm (by rw [ez, m2]; omega) nd1 ld (by omega) y1 y2 y3 y4 fun h2 L2 es2 ep2 t3 sb2 R2 pm2 =>
            wpAny_pure (q true h2 L2 es2 ep2 t3 (sb.trans sb2) R2 (fun z => absurd z nz) fun _ => pm2.trans pm)
        have big : (!false && t2.tooFull) = true := by rw [tf, decide_eq_true full2]; rfl
        first
          | refine wpAny_bind (wp_if_pos big ?_)
          | (refine wp_if_pos big ?_; refine wpAny_bind ?_)
        rcases two with ⟨e1, e2⟩ | ⟨e1, e2⟩
        · exact run 31 (by rw [el, e2, size_20]) (.inr (.inl rfl)) (by rw [el, e2, size_20]; decide) (by omega)
        · exact run 127 (by rw [el, e2, size_76]) (.inr (.inr rfl)) (by rw [el, e2, size_76]; decide) (by omega)
      · have sm : ¬ (!false && t2.tooFull) = true := by rw [tf, decide_eq_false full2]; decide
        first
          | refine wp_if_neg sm ?_
          | (refine wpAny_bind ?_; refine wp_if_neg sm ?_; refine wpAny_pure ?_)
        exact wpAny_pure (q true h1 L1 es1 (ep + 1) t2 sb ⟨⟨_, go1, ⟨ex.1, ex.2.1, ex.2.2⟩, rfl⟩, er, tb, nd1, ld, by rw [m2]; omega, by omega⟩ (fun z => absurd z nz) fun _ => pm)
    by_cases pl : t1.plain = true
    · first
        | (refine wpAny_bind ?_; refine wp_if_pos pl ?_; exact mt_by zx fun c => rest c)
        | exact wp_if_pos pl (wpAny_bind (mt_by zx fun c => rest c))
    · first
        | (refine wpAny_bind ?_; refine wp_if_neg pl ?_; exact wpAny_pure (rest true))
        | exact wp_if_neg pl (rest true)
        | exact wp_if_neg pl (wpAny_bind (wpAny_pure (rest true)))
theorem mt_keep {h h' : Heap} {k : List Key} {b : Addr} (z : MT P w h k b) (kp : ∀ c o, h.get? c = some o → h'.get? c = some o) : MT P w h' k b := by
  obtain ⟨o, its, n, g, r⟩ := z
  exact ⟨o, its, n, kp b o g, r⟩
theorem SR.move {h h' : Heap} (R : SR P w h a L es ep t) (ka : ∀ o, h.get? a = some o → h'.get? a = some o) : SR P w h' a L es ep t := by
  obtain ⟨o, go, r⟩ := R.ob
  exact ⟨⟨o, ka o go, r⟩, R.rw_, R.tab, R.nd, R.led, R.room, R.few⟩
/-- a new set's object -/
abbrev newO (w : World) : Obj := { cls := .type "set", dict := none, data := .set #[] 0 (.fresh 0 0 (!w.params.followText "set-order")) }
theorem sr_new {h : Heap} (go : h.get? a = some (newO w)) : SR P w h a [] #[] 0 (.fresh 0 0 (!w.params.followText "set-order")) := by
  refine ⟨⟨_, go, ⟨rfl, rfl, rfl⟩, rfl⟩, rfl, ⟨List.Pairwise.nil, rfl, rfl, .inl rfl, (fun x z => nomatch z), fun i h j z => by simp [hs] at z⟩, List.nodup_nil, ?_, (by show 0 * 5 < 7 * 3; decide), (by show 0 < 64; decide)⟩
  show _ ∨ (!w.params.followText "set-order") = true
  cases w.params.followText "set-order"
  · exact .inr rfl
  · exact .inl rfl
/-- what a set has of some rows -/
structure Of (ks : List Row) (L : List Row) : Prop where
  sub : ∀ p ∈ L, p ∈ ks
  all : ∀ p ∈ ks, p.2 ∈ L.map (·.2)
  len : L.length ≤ ks.length
theorem Of.nil : Of [] [] := ⟨(fun p z => nomatch z), (fun p z => nomatch z), Nat.le_refl _⟩
theorem Of.snoc {ks L L' : List Row} {x : Row} (g : Of ks L) (c1 : x.2 ∈ L.map (·.2) → L' = L) (c2 : x.2 ∉ L.map (·.2) → L'.Perm (x :: L)) : Of (ks ++ [x]) L' := by
  rcases Classical.em (x.2 ∈ L.map (·.2)) with c | c
  · rw [c1 c]
    refine ⟨fun p z => List.mem_append_left _ (g.sub p z), fun p z => ?_, by rw [List.length_append]; exact Nat.le_trans g.len (Nat.le_add_right _ _)⟩
    rcases List.mem_append.mp z with z | z
    · exact g.all p z
    · rw [List.mem_singleton.mp z]
      exact c
  · have pm := c2 c
    refine ⟨fun p z => ?_, fun p z => ?_, ?_⟩
    · rcases List.mem_cons.mp (pm.mem_iff.mp z) with e | z
      · rw [e]
        exact List.mem_append_right _ List.mem_cons_self
      · exact List.mem_append_left _ (g.sub p z)
    · have y : p.2 ∈ (x :: L).map (·.2) := by
        rcases List.mem_append.mp z with z | z
        · exact List.mem_cons_of_mem _ (g.all p z)
        · rw [List.mem_singleton.mp z]
          exact List.mem_cons_self
      exact (pm.map (·.2)).mem_iff.mpr y
    · rw [pm.length_eq, List.length_append]
      exact Nat.succ_le_succ g.len
end
end MS

set_option Elab.async false
set_option linter.all false
set_option maxRecDepth 100000
set_option maxHeartbeats 4000000
namespace MS
open PySem PySem.Spec PyProof.Rows L2
section
variable {P : Program} {w : World} {A : Around} {E : Value → Shared → Prop} {s : Shared}
def Keeps (h h' : Heap) : Prop := ∀ b o, h.get? b = some o → h'.get? b = some o
theorem tups_keep {h h' : Heap} {L : List Row} (z : Tups P w h L) (k : Keeps h h') : Tups P w h' L := fun p hp => mt_keep (z p hp) k
/-- the loop of set.update over any walk -/
theorem upd_loop {I S : Addr} {fp wr : List Addr} {G : Array GenState → Array GenState → Prop} {Pv : Nat → Value → Prop} {St : Nat → Shared → Prop} {R : Result → Shared → Prop} {ks : List Row} {h0 : Heap}
    (W : WalksS P w A.in1 I fp wr G ks.length Pv St) (sf : S ∉ fp) (few : ks.length < 64) (val : ∀ i v, Pv i v → ∃ p, ks[i]? = some p ∧ v = .ref p.1) (tk : Tups P w h0 ks) (s0 : h0.get? S = none) (w0 : ∀ b ∈ wr, h0.get? b = none) (hu : A.in1.units < cLine) :
    ∀ (k i : Nat) (s : Shared), ks.length - i = k → i ≤ ks.length → St i s → Keeps h0 s.heap → (∃ L es ep t, SR P w s.heap S L es ep t ∧ Of (ks.take i) L) →
      (∀ s' L es ep t, Moved (S :: wr) G s s' → SR P w s'.heap S L es ep t → Of ks L → Keeps h0 s'.heap → R (.ok (.ret .none)) s') → codeAny (model P w) A (.builtin "set.update.loop" ⟨[.ref S, .ref I], []⟩) R s := by
  have sw : S ∉ wr := fun z => sf (W.sub _ z)
  have more : ∀ b ∈ wr, b ∈ S :: wr := fun b z => List.mem_cons_of_mem _ z
  have on : ∀ {s s' : Shared}, Moved wr G s s' → Keeps h0 s.heap → Keeps h0 s'.heap := fun m kp b o z => m.heap b o (fun y => by rw [w0 b y] at z; cases z) (kp b o z)
  intro k
  induction k with
  | zero =>
    intro i s e il st kp ⟨L, es, ep, t, R0, g⟩ fin
    obtain rfl : i = ks.length := by omega
    rw [List.take_length] at g
    refine codeAny_builtin F.entry_set_update_loop ?_
    rw [Around.under_plainId F.plain_set_update_loop _]
    show wpAny _ A.in1 (pyNext (.ref I) >>= _) _ _ s
    refine wpAny_bind (W.done s _ _ st fun s' m => ?_)
    show wpAny _ A.in1 (ret Value.none) _ _ s'
    exact wpAny_pure (fin s' L es ep t (m.mono more) (R0.move fun o z => m.heap S o sw z) g (on m kp))
  | succ k ih =>
    intro i s e il st kp ⟨L, es, ep, t, R0, g⟩ fin
    refine codeAny_builtin F.entry_set_update_loop ?_
    rw [Around.under_plainId F.plain_set_update_loop _]
    show wpAny _ A.in1 (pyNext (.ref I) >>= _) _ _ s
    refine wpAny_bind (W.item i s _ _ (by omega) st fun v s' hp st' m => ?_)
    obtain ⟨p, gp, rfl⟩ := val i v hp
    have kp' := on m kp
    have R1 : SR P w s'.heap S L es ep t := R0.move fun o z => m.heap S o sw z
    have tL : Tups P w s'.heap L := fun q hq => mt_keep (tk q (List.mem_of_mem_take (g.sub q hq))) kp'
    have zx : MT P w s'.heap p.2 p.1 := mt_keep (tk p (List.mem_of_getElem? gp)) kp'
    have gl := g.len
    rw [List.length_take] at gl
    show wpAny _ A.in1 (holding [Value.ref p.1] (setAdd S (.ref p.1)) >>= _) _ _ s'
    unfold setAdd
    refine wpAny_bind (wpAny_holding (wpAny_holding (wpAny_bind (wpAny_pyHash_tuple hu zx ?_))))
    refine add (s := { s' with toks := s'.toks + (p.2.length + 1) }) R1 tL zx hu (by omega) fun b h' L' es' ep' t' sb R2 c1 c2 => ?_
    have g' : Of (ks.take (i + 1)) L' := by
      rw [List.take_succ, gp]
      exact g.snoc c1 c2
    have kp2 : Keeps h0 h' := fun b o z => (sb.2 b (fun y => by rw [y, s0] at z; cases z)).trans (kp' b o z)
    refine wpAny_pure ⟨plainId_quiet F.plain_set_update_loop _, ih (i + 1) _ (by omega) (by omega) (W.frame _ s' _ _ st' (Nat.le_add_right _ _) fun b hb o z => ?_) kp2 ⟨L', es', ep', t', R2, g'⟩ fun s2 L2 es2 ep2 t2 m2 R3 g2 kp3 => ?_⟩
    · rw [sb.2 b (fun y : b = S => sf (by rw [← y]; exact hb))]
      exact z
    · refine fin s2 L2 es2 ep2 t2 (Moved.trans W.gtrans ((m.mono more).then_heap (Nat.le_add_right _ _) fun b o hb z => ?_) m2) R3 g2 kp3
      rw [sb.2 b (fun y : b = S => hb (by rw [y]; exact List.mem_cons_self))]
      exact z

/-- set(xs), xs a list -/
theorem call_set_list {l : Addr} {items : Array Value} (ks : List Row) {Q : Value → Shared → Prop} (hh : A.handled = none) (hl : s.heap.IsList l items) (hit : items.toList = ks.map fun p => Value.ref p.1) (tk : Tups P w s.heap ks) (few : ks.length < 64) (hu : A.units + 3 < cLine)
    (fin : ∀ (h' : Heap) (n : Nat) L es ep t, SR P w h' s.heap.objs.size L es ep t → Of ks L → Keeps s.heap h' → Q (.ref s.heap.objs.size) { s with heap := h', toks := n }) : wpAny (model P w) A (call (.type "set") [.ref l]) Q E s := by
  have isz : items.size = ks.length := by
    have z := congrArg List.length hit
    simpa using z
  obtain ⟨c0, tl0, mro0⟩ := F.called_set.mro
  have made0 := F.called_set.made
  have sub0 := F.called_set.sub
  refine wpAny_call (codeAny_of_tree ?_)
  show wpAny _ _ (callAny (.type "set") _) _ _ _
  refine wpAny_pure ⟨Code.quiet_builtin _ (by decide +kernel), codeAny_builtin F.entry_type_call ?_⟩
  rw [Around.under_plain (weight_type_call_type "set" [.ref l] []) rfl]
  have nt0 := F.called_set.notType
  have cc0 := F.called_set.canCreate
  have tc0 := F.typeCall_set_1 (.ref l)
  repeat (any_goals (first | assumption | wp_step))
  refine codeAny_mono (code_set_led1 (.ref l) (E := E) (Q₁ := fun ob s1 => ob = .ref s.heap.objs.size ∧ s1 = { s with heap := s.heap.push (newO w) }) ⟨rfl, rfl⟩) fun r s1 hr => ?_
  cases r with
  | error e => exact hr
  | ok fl =>
    cases fl with
    | ret ob =>
      obtain ⟨rfl, rfl⟩ := hr
      have gS : (s.heap.push (newO w)).get? s.heap.objs.size = some (newO w) := Heap.get?_push_size _ rfl
      have tS : Shared.TypeIs { s with heap := s.heap.push (newO w) } (.ref s.heap.objs.size) "set" := ⟨_, gS, rfl⟩
      have il0 := F.called_set.init.lookup
      have ib0 := F.called_set.init.bind (.ref s.heap.objs.size)
      repeat (any_goals (first | assumption | wp_step))
      refine codeAny_mono (codeAny_call_builtin (R := wants (fun r s2 => r = .none ∧ ∃ h' n L es ep t, s2 = { s with heap := h', toks := n } ∧ SR P w h' s.heap.objs.size L es ep t ∧ Of ks L ∧ Keeps s.heap h') E) F.called_set.init.plain F.entry_set_init (check_set_init_1 tS ?_)) fun r2 s2 hr2 => ?_
      · obtain ⟨ol, gl, cl, nl, dl⟩ := hl
        obtain ⟨ocls, odict, odata, oslots⟩ := ol
        simp only at cl dl
        subst cl; subst dl
        have gl1 : (s.heap.push (newO w)).get? l = some { cls := .type "list", dict := odict, data := .seq items nl, slots := oslots } := Heap.get?_push_of_some _ gl
        have no1 := F.sub_list_set
        have no2 := F.sub_list_frozenset
        have no3 : (Value.type "list" == Value.type "dict") = false := by decide
        have is1 : (s.heap.push (newO w)).IsList l items := ⟨_, gl1, rfl, nl, rfl⟩
        unfold Builtin.«set.__init__» noKeywords Builtin.Frozenset.updateFrom
        generalize ePI : pyIter = PI
        wp_walk
        subst ePI
        refine wpAny_pyIter_list is1 (wpAny_bind (wpAny_runValue ?_))
        have lS : l < s.heap.objs.size := Heap.lt_size gl
        have h3 : A.in1.in1.in1.handled = none := by simp [hh]
        have sz1 : (s.heap.push (newO w)).objs.size = s.heap.objs.size + 1 := Heap.size_push ..
        have off : ∀ b, s.heap.objs.size ≤ b → s.heap.get? b = none := fun b hb => by
          cases z : s.heap.get? b with
          | none => rfl
          | some o => exact absurd (Nat.lt_of_lt_of_le (Heap.lt_size z) hb) (Nat.lt_irrefl _)
        have val : ∀ (i : Nat) (v : Value), items[i]? = some v → ∃ p, ks[i]? = some p ∧ v = .ref p.1 := fun i v hv => by
          have z : items.toList[i]? = some v := by rw [Array.getElem?_toList]; exact hv
          rw [hit, List.getElem?_map] at z
          obtain ⟨p, z1, z2⟩ := Option.map_eq_some_iff.mp z
          exact ⟨p, z1, z2.symm⟩
        have WW := (Walks.list (prog := P) (w := w) h3 (s.heap.push (newO w)).objs.size l (by rw [sz1]; exact Nat.ne_of_lt (Nat.lt_succ_of_lt lS)) items).toS
        rw [isz] at WW
        refine upd_loop (S := s.heap.objs.size) (ks := ks) (h0 := s.heap) WW (by rw [sz1]; simp only [List.mem_cons, List.not_mem_nil, or_false, not_or]; exact ⟨Nat.ne_of_lt (Nat.lt_succ_self _), Nat.ne_of_gt lS⟩) few val tk (off _ (Nat.le_refl _)) (fun b hb => off b (by rw [List.mem_singleton.mp hb, sz1]; exact Nat.le_succ _)) hu (ks.length - 0) 0 _ (by omega) (Nat.zero_le _)
          ⟨⟨_, Heap.get?_push_size _ rfl, rfl, rfl⟩, (is1.push _)⟩ (fun b o z => Heap.get?_push_of_some _ (Heap.get?_push_of_some _ z)) ⟨[], #[], 0, _, sr_new (Heap.get?_push_of_some _ gS), Of.nil⟩ ?_
        intro s' L es ep t m R1 g1 kp
        obtain ⟨h', g2, d', n', os'⟩ := s'
        obtain rfl : g2 = s.gens := m.gens
        obtain rfl : d' = s.drawn := m.drawn
        obtain rfl : os' = s.os := m.os
        show wpAny _ _ _ _ _ _
        refine wpAny_pure ?_
        show wpAny _ _ (ret Value.none) _ _ _
        exact wpAny_pure ⟨rfl, h', n', L, es, ep, t, rfl, R1, g1, kp⟩
      · cases r2 with
        | error e => exact hr2
        | ok fl2 =>
          cases fl2 with
          | ret r =>
            obtain ⟨rfl, h', n, L, es, ep, t, rfl, R1, g1, kp⟩ := hr2
            repeat (any_goals (first | assumption | wp_step))
            exact fin _ _ _ _ _ _ R1 g1 kp
          | _ => exact hr2.elim
    | _ => exact hr.elim

/-- set(xs), xs a tuple -/
theorem call_set_tuple {l : Addr} {items : Array Value} (ks : List Row) {Q : Value → Shared → Prop} (hh : A.handled = none) (hl : s.heap.IsTuple l items) (hit : items.toList = ks.map fun p => Value.ref p.1) (tk : Tups P w s.heap ks) (few : ks.length < 64) (hu : A.units + 3 < cLine)
    (fin : ∀ (h' : Heap) (n : Nat) L es ep t, SR P w h' s.heap.objs.size L es ep t → Of ks L → Keeps s.heap h' → Q (.ref s.heap.objs.size) { s with heap := h', toks := n }) : wpAny (model P w) A (call (.type "set") [.ref l]) Q E s := by
  have isz : items.size = ks.length := by
    have z := congrArg List.length hit
    simpa using z
  obtain ⟨c0, tl0, mro0⟩ := F.called_set.mro
  have made0 := F.called_set.made
  have sub0 := F.called_set.sub
  refine wpAny_call (codeAny_of_tree ?_)
  show wpAny _ _ (callAny (.type "set") _) _ _ _
  refine wpAny_pure ⟨Code.quiet_builtin _ (by decide +kernel), codeAny_builtin F.entry_type_call ?_⟩
  rw [Around.under_plain (weight_type_call_type "set" [.ref l] []) rfl]
  have nt0 := F.called_set.notType
  have cc0 := F.called_set.canCreate
  have tc0 := F.typeCall_set_1 (.ref l)
  repeat (any_goals (first | assumption | wp_step))
  refine codeAny_mono (code_set_led1 (.ref l) (E := E) (Q₁ := fun ob s1 => ob = .ref s.heap.objs.size ∧ s1 = { s with heap := s.heap.push (newO w) }) ⟨rfl, rfl⟩) fun r s1 hr => ?_
  cases r with
  | error e => exact hr
  | ok fl =>
    cases fl with
    | ret ob =>
      obtain ⟨rfl, rfl⟩ := hr
      have gS : (s.heap.push (newO w)).get? s.heap.objs.size = some (newO w) := Heap.get?_push_size _ rfl
      have tS : Shared.TypeIs { s with heap := s.heap.push (newO w) } (.ref s.heap.objs.size) "set" := ⟨_, gS, rfl⟩
      have il0 := F.called_set.init.lookup
      have ib0 := F.called_set.init.bind (.ref s.heap.objs.size)
      repeat (any_goals (first | assumption | wp_step))
      refine codeAny_mono (codeAny_call_builtin (R := wants (fun r s2 => r = .none ∧ ∃ h' n L es ep t, s2 = { s with heap := h', toks := n } ∧ SR P w h' s.heap.objs.size L es ep t ∧ Of ks L ∧ Keeps s.heap h') E) F.called_set.init.plain F.entry_set_init (check_set_init_1 tS ?_)) fun r2 s2 hr2 => ?_
      · obtain ⟨ol, gl, cl, nl, dl⟩ := hl
        obtain ⟨ocls, odict, odata, oslots⟩ := ol
        simp only at cl dl
        subst cl; subst dl
        have gl1 : (s.heap.push (newO w)).get? l = some { cls := .type "tuple", dict := odict, data := .seq items nl, slots := oslots } := Heap.get?_push_of_some _ gl
        have no1 := F.sub_tuple_set
        have no2 := F.sub_tuple_frozenset
        have no3 : (Value.type "tuple" == Value.type "dict") = false := by decide
        have is1 : (s.heap.push (newO w)).IsTuple l items := ⟨_, gl1, rfl, nl, rfl⟩
        unfold Builtin.«set.__init__» noKeywords Builtin.Frozenset.updateFrom
        generalize ePI : pyIter = PI
        wp_walk
        subst ePI
        refine wpAny_pyIter_tuple is1 (wpAny_bind (wpAny_runValue ?_))
        have lS : l < s.heap.objs.size := Heap.lt_size gl
        have h3 : A.in1.in1.in1.handled = none := by simp [hh]
        have sz1 : (s.heap.push (newO w)).objs.size = s.heap.objs.size + 1 := Heap.size_push ..
        have off : ∀ b, s.heap.objs.size ≤ b → s.heap.get? b = none := fun b hb => by
          cases z : s.heap.get? b with
          | none => rfl
          | some o => exact absurd (Nat.lt_of_lt_of_le (Heap.lt_size z) hb) (Nat.lt_irrefl _)
        have val : ∀ (i : Nat) (v : Value), items[i]? = some v → ∃ p, ks[i]? = some p ∧ v = .ref p.1 := fun i v hv => by
          have z : items.toList[i]? = some v := by rw [Array.getElem?_toList]; exact hv
          rw [hit, List.getElem?_map] at z
          obtain ⟨p, z1, z2⟩ := Option.map_eq_some_iff.mp z
          exact ⟨p, z1, z2.symm⟩
        have WW := (Walks.tuple (prog := P) (w := w) h3 (s.heap.push (newO w)).objs.size l (by rw [sz1]; exact Nat.ne_of_lt (Nat.lt_succ_of_lt lS)) items).toS
        rw [isz] at WW
        refine upd_loop (S := s.heap.objs.size) (ks := ks) (h0 := s.heap) WW (by rw [sz1]; simp only [List.mem_cons, List.not_mem_nil, or_false, not_or]; exact ⟨Nat.ne_of_lt (Nat.lt_succ_self _), Nat.ne_of_gt lS⟩) few val tk (off _ (Nat.le_refl _)) (fun b hb => off b (by rw [List.mem_singleton.mp hb, sz1]; exact Nat.le_succ _)) hu (ks.length - 0) 0 _ (by omega) (Nat.zero_le _)
          ⟨⟨_, Heap.get?_push_size _ rfl, rfl, rfl⟩, (is1.push _)⟩ (fun b o z => Heap.get?_push_of_some _ (Heap.get?_push_of_some _ z)) ⟨[], #[], 0, _, sr_new (Heap.get?_push_of_some _ gS), Of.nil⟩ ?_
        intro s' L es ep t m R1 g1 kp
        obtain ⟨h', g2, d', n', os'⟩ := s'
        obtain rfl : g2 = s.gens := m.gens
        obtain rfl : d' = s.drawn := m.drawn
        obtain rfl : os' = s.os := m.os
        show wpAny _ _ _ _ _ _
        refine wpAny_pure ?_
        show wpAny _ _ (ret Value.none) _ _ _
        exact wpAny_pure ⟨rfl, h', n', L, es, ep, t, rfl, R1, g1, kp⟩
      · cases r2 with
        | error e => exact hr2
        | ok fl2 =>
          cases fl2 with
          | ret r =>
            obtain ⟨rfl, h', n, L, es, ep, t, rfl, R1, g1, kp⟩ := hr2
            repeat (any_goals (first | assumption | wp_step))
            exact fin _ _ _ _ _ _ R1 g1 kp
          | _ => exact hr2.elim
    | _ => exact hr.elim
end
end MS

set_option Elab.async false
set_option linter.all false
set_option maxRecDepth 100000
set_option maxHeartbeats 4000000
namespace MS
open PySem PySem.Spec PyProof.Rows L2
open PyProof.Rows.G (sh1 tupKindC tupKeyC tupKeyC_of list_sort_tups)
/-- a dot's items -/
def D3 (k : List Key) : Prop := ∃ (n : Int) (x : PySem.Str) (l : Int), k = [.inl n, .inr x, .inl l]
def code (k : List Key) : List (Int ⊕ List Nat) := k.map fun | .inl i => .inl i | .inr x => .inr x.cps.toList
/-- the order of dots -/
def dlt (a b : List Key) : Bool := lexLt itemOrd (code a) (code b)
section
variable {P : Program} {w : World} {A : Around} {E : Value → Shared → Prop} {s : Shared}
theorem d3_items {k : List Key} {vs : List Value} (h : ItemsAre (mixKind P w) k vs) (d : D3 k) : ∃ n t x u l y, vs = [Value.int n t, Value.str x u, Value.int l y] ∧ k = [.inl n, .inr x, .inl l] := by
  obtain ⟨n, x, l, rfl⟩ := d
  cases h with
  | cons h1 h =>
    cases h with
    | cons h2 h =>
      cases h with
      | cons h3 h =>
        cases h
        rcases keyIs_shape (show keyIs (.inl n) _ = true from h1) with ⟨i, t, e1, rfl⟩ | ⟨z, t, e1, _⟩
        · rcases keyIs_shape (show keyIs (.inr x) _ = true from h2) with ⟨z, u, e2, _⟩ | ⟨z, u, e2, rfl⟩
          · cases e2
          · rcases keyIs_shape (show keyIs (.inl l) _ = true from h3) with ⟨j, y, e3, rfl⟩ | ⟨z', y, e3, _⟩
            · cases e1
              cases e2
              cases e3
              exact ⟨_, _, _, _, _, _, rfl, rfl⟩
            · cases e3
        · cases e1
theorem mt_key {h : Heap} {k : List Key} {a : Addr} (z : MT P w h k a) (d : D3 k) : tupKeyC h sh1 (.ref a) = some (code k) := by
  obtain ⟨o, its, n, g, c, dt, it⟩ := z
  obtain ⟨n, t, x, u, l, y, e, rfl⟩ := d3_items it d
  refine tupKeyC_of g c dt ?_
  rw [e]
  rfl
theorem mt_tup {h : Heap} {k : List Key} {a : Addr} (z : MT P w h k a) (d : D3 k) : ∃ f, TupOf h sh1 (.ref a) f := by
  obtain ⟨o, its, n, g, c, dt, it⟩ := z
  obtain ⟨n, t, x, u, l, y, e, rfl⟩ := d3_items it d
  refine ⟨Value.int n t, a, o, its, _, rfl, g, c, dt, ?_, fun _ => ⟨n, t, rfl⟩, fun z => ?_⟩
  · rw [← Array.getElem?_toList, e]
    rfl
  · exact absurd z (by decide)
theorem tups_of {h : Heap} : ∀ (vs : List Value), (∀ v ∈ vs, ∃ f, TupOf h sh1 v f) → ∃ fs, TupsOf h sh1 vs fs
  | [], _ => ⟨[], .nil⟩
  | v :: vs, z => by
    obtain ⟨f, hf⟩ := z v List.mem_cons_self
    obtain ⟨fs, hfs⟩ := tups_of vs fun u hu => z u (List.mem_cons_of_mem _ hu)
    exact ⟨f :: fs, .cons hf hfs⟩
theorem sorted_vals {h : Heap} {vs : List Value} {arr : Array Keyed} (pm : arr.Perm (pairsOf vs)) (so : SortedToK (tupKindC h sh1) arr (pairsOf vs).size) :
    (arr.map (·.2)).toList.Perm vs ∧ (arr.map (·.2)).toList.Pairwise fun u v => lexLt itemOrd ((tupKeyC h sh1 v).getD []) ((tupKeyC h sh1 u).getD []) = false := by
  have pl : arr.toList.Perm (vs.zip vs) := by
    have z := Array.perm_iff_toList_perm.mp pm
    rw [pairsOf_toList] at z
    exact z
  have eq : ∀ p ∈ arr.toList, p.1 = p.2 := fun p hp => (mem_zip_self (pl.mem_iff.mp hp)).1
  have sz : arr.size = (pairsOf vs).size := by
    have z := pm.size_eq
    exact z
  refine ⟨?_, ?_⟩
  · have z := pl.map Prod.snd
    rw [List.map_snd_zip (Nat.le_refl _)] at z
    rw [Array.toList_map]
    exact z
  · rw [Array.toList_map, List.pairwise_map, List.pairwise_iff_getElem]
    intro i j hi hj hij
    rw [Array.length_toList] at hi hj
    have z := so i j (Nat.le_of_lt hij) (by rw [← sz]; exact hj)
    have ki : KK (tupKindC h sh1) arr i = (tupKeyC h sh1 (arr[i]).1).getD [] := by
      unfold KK
      rw [Array.getElem?_eq_getElem hi]
    have kj : KK (tupKindC h sh1) arr j = (tupKeyC h sh1 (arr[j]).1).getD [] := by
      unfold KK
      rw [Array.getElem?_eq_getElem hj]
    rw [ki, kj] at z
    have ei := eq (arr[i]) (by simp)
    have ej := eq (arr[j]) (by simp)
    rw [ei, ej] at z
    simp only [Array.getElem_toList]
    exact z
variable {a : Addr} {L : List Row} {es : Array (Int × Value)} {ep : Nat} {t : SetTable}
/-- sorted(set) -/
theorem sorted_set {Q : Value → Shared → Prop} (R : SR P w s.heap a L es ep t) (tu : Tups P w s.heap L) (dd : ∀ p ∈ L, D3 p.2) (hh : A.handled = none)
    (q : ∀ s' p (out : Array Value) (c : Nat) (L' : List Row), Keeps s.heap s'.heap → s'.gens = s.gens → s'.os = s.os → s.heap.objs.size ≤ p → s'.heap.get? p = some (seqObj "list" out c) → out.toList = L'.map (fun z => Value.ref z.1) → L'.Perm L →
      L'.Pairwise (fun x y => dlt y.2 x.2 = false) → Q (.ref p) s') : wpAny (model P w) A (call (.builtin "sorted") [.ref a]) Q E s := by
  obtain ⟨o, go, ex, dt⟩ := R.ob
  have el := enc_len R.rw_
  have few := R.few
  refine Calls.call_function_entry kind_sorted plain_sorted entry_sorted (args_sorted1 _) ?_
  unfold Builtin.«sorted»
  refine wpAny_bind (m := checkCount "sorted" 1 1 _) (wpAny_pure ?_)
  refine wpAny_bind (collect_set (A := A.in1) hh ⟨o, go, ex.1, dt⟩ R.fits (by unfold scanBound; omega) R.tab.ris R.led fun s1 vs k1 z1 g1 o1 pm => ?_)
  have ev : es.toList.map (·.2) = L.map fun z => Value.ref z.1 := by
    rw [R.rw_, List.map_map] <;> rfl
  rw [ev] at pm
  have vl : vs.length < 64 := by rw [pm.length_eq, List.length_map]; exact few
  refine wpAny_bind (wpAny_newList ?_ (by rw [sizeLine_eq]; omega))
  have gL : (s1.heap.push (seqObj "list" vs.toArray 0)).get? s1.heap.objs.size = some (seqObj "list" vs.toArray 0) := Heap.get?_push_size _ rfl
  have kk : Keeps s.heap (s1.heap.push (seqObj "list" vs.toArray 0)) := fun b u e => Heap.get?_push_of_some _ (k1 b u e)
  have tu2 := tups_keep tu kk
  have inL : ∀ v ∈ vs, ∃ z ∈ L, v = Value.ref z.1 := fun v hv => by
    obtain ⟨z, hz, e⟩ := List.mem_map.mp (pm.mem_iff.mp hv)
    exact ⟨z, hz, e.symm⟩
  obtain ⟨fs, hfs⟩ := tups_of (h := s1.heap.push (seqObj "list" vs.toArray 0)) vs fun v hv => by
    obtain ⟨z, hz, rfl⟩ := inL v hv
    exact mt_tup (tu2 z hz) (dd z hz)
  refine wpAny_bind (wpAny_holding (wpAny_call_entry slot_list_sort ⟨_, gL, rfl⟩ entry_list_sort (list_sort_tups (s := { s1 with heap := s1.heap.push (seqObj "list" vs.toArray 0) }) gL hfs (fun v hv => ?_) (by rw [sizeLine_eq]; omega) fun st' b1 b2 b3 => ⟨_, rfl, ?_⟩) (args_list_sort _)))
  · obtain ⟨z, hz, rfl⟩ := inL v hv
    exact ⟨_, mt_key (tu2 z hz) (dd z hz)⟩
  · obtain ⟨pm2, so⟩ := sorted_vals b1 b2
    generalize (arrOf st').map (·.2) = out at pm2 so ⊢
    obtain ⟨c, hc⟩ := sortedHeap_at (vs := vs) (out := out) gL
    have pmL : out.toList.Perm (L.map fun z => Value.ref z.1) := pm2.trans pm
    obtain ⟨L', pL, eL⟩ := perm_lift (fun z : Row => Value.ref z.1) pmL L rfl
    refine wpAny_pure ⟨_, rfl, q _ s1.heap.objs.size out c L' (fun b u e => ?_) g1 o1 z1 hc eL.symm pL ?_⟩
    · have y := k1 b u e
      have lt := Heap.lt_size y
      show (sortedHeap (s1.heap.push (seqObj "list" vs.toArray 0)) s1.heap.objs.size vs out).get? b = some u
      rw [sortedHeap_old (Nat.ne_of_lt lt) (by rw [size_push']; exact Nat.lt_succ_of_lt lt)]
      exact Heap.get?_push_of_some _ y
    · rw [← eL, List.pairwise_map] at so
      refine List.Pairwise.imp_of_mem (fun {x y} hx hy z => ?_) so
      have mx := pL.mem_iff.mp hx
      have my := pL.mem_iff.mp hy
      rw [mt_key (tu2 x mx) (dd x mx), mt_key (tu2 y my) (dd y my)] at z
      exact z
end
/-! ### over the layer -/
def MSO (P : Program) (w : World) (a : Addr) (L : List Row) : HO := .ext fun h => ∃ es ep t, SR P w h a L es ep t
theorem mso_ok {P : Program} {w : World} {H : Hp} {h : Heap} {a : Addr} {L : List Row} {es : Array (Int × Value)} {ep : Nat} {t : SetTable} (R : SR P w h a L es ep t) : ObjOk P w H h a (MSO P w a L) := by
  obtain ⟨o, go, _⟩ := R.ob
  refine ⟨⟨es, ep, t, R⟩, ⟨o, go⟩, fun h1 h2 z k => ?_⟩
  obtain ⟨es', ep', t', R'⟩ := z
  exact ⟨es', ep', t', R'.move k⟩
def Dots (K : PySem.W.Frag) (H : Hp) (ps : List Row) : Prop := ∀ p ∈ ps, SqT K H p.1 (p.2.map kV)
section
variable {X : Cx}
theorem dots_mt {pins : List (Addr × Obj)} {σ : L2.St} {H : Hp} {s : Shared} {ps : List Row} (I : Inv X pins σ H s) (h : Dots X.K H ps) : Tups X.prog X.w s.heap ps := fun p hp => by
  obtain ⟨its, r, ⟨o, ho, hc, n, hd⟩, _⟩ := I.tuple (h p hp)
  exact ⟨o, its.toArray, n, ho, hc, hd, by simpa using items_are r⟩
theorem refs_vals : ∀ {ks : List Row} {us : List Value}, Vals (ks.map fun p => V.ref p.1) us → us = ks.map fun p => Value.ref p.1
  | [], _, .nil => rfl
  | p :: ks, _, .cons r t => by
    cases r
    rw [refs_vals t] <;> rfl
theorem vals_refs : ∀ (ks : List Row), Vals (ks.map fun p => V.ref p.1) (ks.map fun p => Value.ref p.1)
  | [] => .nil
  | p :: ks => .cons rfl (vals_refs ks)
/-- set(xs) -/
def rSetM (K : PySem.W.Frag) (P : Program) (w : World) : List V → Hp → VK → Prop := fun xs H Q => ∃ (l : Addr) (ks : List Row), xs = [V.ref l] ∧ (SqL K H l (ks.map fun p => V.ref p.1) ∨ SqT K H l (ks.map fun p => V.ref p.1)) ∧ Dots K H ks ∧ ks.length < 64 ∧
  ∀ a L, H a = none → Of ks L → Q (.ref a) (upd H a (MSO P w a L))
theorem cr_setM (hc : X.calm = true) (hu : X.A.units + 64 < cLine) : CallR X (.type "set") (rSetM X.K X.prog X.w) := by
  intro pins s σ H xs us Q I r h
  obtain ⟨l, ks, rfl, hl, hk, few, q⟩ := h
  rw [Vals.ref1 r]
  have hn : H s.heap.objs.size = none := I.hok.fresh (Nat.le_refl _)
  have tk := dots_mt I hk
  have fin : ∀ (h' : Heap) (n : Nat) L es ep t, SR X.prog X.w h' s.heap.objs.size L es ep t → Of ks L → Keeps s.heap h' → EP X pins σ Q (.ref s.heap.objs.size) { s with heap := h', toks := n } := fun h' n L es ep t R g k =>
    ⟨.ref s.heap.objs.size, _, I.laid (t' := n) k (Nat.le_refl _) (mso_ok R), rfl, q _ L hn g⟩
  rcases hl with hl | hl
  · obtain ⟨its, rv, pl, hz⟩ := I.list hl
    exact call_set_list (P := X.prog) (w := X.w) ks (I.ok.hd hc) pl.isList (by simpa using refs_vals rv) tk few (by omega) fin
  · obtain ⟨its, rv, pl, hz⟩ := I.tuple hl
    exact call_set_tuple (P := X.prog) (w := X.w) ks (I.ok.hd hc) pl (by simpa using refs_vals rv) tk few (by omega) fin
/-- sorted(set) -/
def rSortM (K : PySem.W.Frag) (P : Program) (w : World) : List V → Hp → VK → Prop := fun vs H Q => ∃ (a : Addr) (L : List Row), vs = [V.ref a] ∧ H a = some (MSO P w a L) ∧ Dots K H L ∧ (∀ p ∈ L, D3 p.2) ∧
  ∀ (L' : List Row) (p : Addr), L'.Perm L → (L'.map (·.2)).Nodup → L'.length < 64 → L'.Pairwise (fun x y => dlt y.2 x.2 = false) → H p = none → Q (.ref p) (upd H p (.lst (L'.map fun q => V.ref q.1)))
theorem cr_sortM (hc : X.calm = true) : CallR X (.builtin "sorted") (rSortM X.K X.prog X.w) := by
  intro pins s σ H vs us Q I r h
  obtain ⟨a, L, rfl, ha, hk, d3, q⟩ := h
  obtain ⟨es, ep, t, R⟩ : ∃ es ep t, SR X.prog X.w s.heap a L es ep t := (I.hok a _ ha).1
  rw [Vals.ref1 r]
  refine sorted_set R (dots_mt I hk) d3 (I.ok.hd hc) fun s' p out c L' k g o hp hg hout pm pw => ?_
  have few : L'.length < 64 := by rw [pm.length_eq]; exact R.few
  have len : (L'.map fun q => V.ref q.1).length ≤ sizeLine := by rw [List.length_map, sizeLine_eq]; omega
  have hn : H p = none := I.hok.fresh hp
  have hv : Vals (L'.map fun q => V.ref q.1) out.toList := by rw [hout]; exact vals_refs L'
  have J : Inv X pins σ (upd H p (.lst (L'.map fun q => V.ref q.1))) { s with heap := s'.heap, gens := s'.gens, drawn := s'.drawn, toks := s'.toks } :=
    I.call (ch := []) (Un.laid k hp hn) (I.hok.laid k hp ⟨len, out.toList, c, hv, hg⟩) (by rw [g]; exact I.bare) (fun _ z => nomatch z)
  have e : s' = { s with heap := s'.heap, gens := s'.gens, drawn := s'.drawn, toks := s'.toks } := by
    cases s'
    cases s
    cases o
    rfl
  rw [e]
  exact ⟨.ref p, _, J, rfl, q L' p pm ((pm.map (·.2)).nodup_iff.mpr R.nd) few pw hn⟩
end
end MS

set_option Elab.async false
set_option linter.all false
set_option maxRecDepth 100000
set_option maxHeartbeats 4000000
namespace MS
open PySem PySem.Spec PyProof.Rows L2
/-! ### set.add -/
section
variable {P : Program} {w : World} {A : Around} {E : Value → Shared → Prop} {s : Shared} {a : Addr} {L : List Row} {es : Array (Int × Value)} {ep : Nat} {t : SetTable}
theorem add_call {x : Addr} {k : List Key} {Q : Value → Shared → Prop} (R : SR P w s.heap a L es ep t) (tu : Tups P w s.heap L) (zx : MT P w s.heap k x) (hu : A.units + 1 < cLine) (few : L.length + 1 < 64)
    (q : ∀ h' n L' es' ep' t', Heap.SameBut a s.heap h' → SR P w h' a L' es' ep' t' → (k ∈ L.map (·.2) → L' = L) → (k ∉ L.map (·.2) → L'.Perm ((x, k) :: L)) → Q .none { s with heap := h', toks := n }) :
    wpAny (model P w) A (call (.builtin "set.add") [.ref a, .ref x]) Q E s := by
  obtain ⟨o, go, ex, dt⟩ := R.ob
  have ty : s.TypeIs (.ref a) "set" := ⟨o, go, ex.1⟩
  refine wpAny_call_entry F.slot_set_add ty F.entry_set_add ?_ (F.args_set_add_2 _ _)
  unfold Builtin.«set.add» Builtin.Frozenset.oneOther
  simp only [List.isEmpty_nil, bind_assoc]
  unfold Builtin.Frozenset.addrOf setAdd
  refine wpAny_bind (wpAny_pure ?_)
  try dsimp only
  refine wpAny_bind (wpAny_pure ?_)
  try dsimp only
  refine wpAny_bind (wpAny_holding (wpAny_bind (wpAny_pyHash_tuple (show A.in1.units < cLine from hu) zx ?_)))
  refine add (s := { s with toks := s.toks + (k.length + 1) }) R tu zx (show A.in1.units < cLine from hu) few fun b h' L' es' ep' t' sb R' c1 c2 => ?_
  show wpAny _ _ (ret Value.none) _ _ _
  exact wpAny_pure ⟨_, rfl, q h' _ L' es' ep' t' sb R' c1 c2⟩
end
section
variable {X : Cx}
theorem add_ok {pins : List (Addr × Obj)} {σ : L2.St} {H : Hp} {s : Shared} {E : Value → Shared → Prop} {D a : Addr} {k : List Key} {L : List Row} {Q : Value → Shared → Prop} (I : Inv X pins σ H s) (hD : H D = some (MSO X.prog X.w D L)) (dL : Dots X.K H L) (ha : SqT X.K H a (k.map kV)) (few : L.length + 1 < 64) (hu : X.A.units + 1 < cLine)
    (h : ∀ s' L', (k ∈ L.map (·.2) → L' = L) → (k ∉ L.map (·.2) → L'.Perm ((a, k) :: L)) → Inv X pins σ (upd H D (MSO X.prog X.w D L')) s' → Q .none s') : wpAny (model X.prog X.w) X.A (call (.builtin "set.add") [.ref D, .ref a]) Q E s := by
  obtain ⟨es, ep, t, R⟩ : ∃ es ep t, SR X.prog X.w s.heap D L es ep t := (I.hok D _ hD).1
  have zx : MT X.prog X.w s.heap k a := dots_mt I (ps := [(a, k)]) (fun p hp => by rw [List.mem_singleton.mp hp]; exact ha) (a, k) List.mem_cons_self
  refine add_call R (dots_mt I dL) zx hu few fun h' n L' es' ep' t' sb R' c1 c2 => h _ L' c1 c2 ?_
  obtain ⟨o', go', _⟩ := R'.ob
  exact I.write (e := D) (t' := n) (by rw [hD]; trivial) (.inl rfl) (fun b u hb hu => (sb.2 b hb).trans hu) ⟨o', go'⟩ (mso_ok R')
end
/-! ### the loops of {.. for .. for ..} -/
section
variable {prog : Program} {w : World} {A : Around} {R : Result → Shared → Prop} {s : Shared} {e x0 y0 x1 y1 : Expr} {sc : Scope} {pos : Pos} {it acc : Value} {env : Env}
abbrev SC (e x0 y0 x1 y1 : Expr) (sc : Scope) (pos : Pos) : Expr := .SetComp e [⟨x0, y0, [], 0⟩, ⟨x1, y1, [], 0⟩] sc pos
theorem turn_out : compTurn (SC e x0 y0 x1 y1 sc pos) 0 it acc env = (do
      standAt y0.pos
      match ← pyNext it with
      | none => pure (.done .next)
      | some v =>
        letOwnedTupleGo x0 it v
        assign x0 env v
        let mut ok := true
        for c in ([] : List Expr) do
          if ok then ok ← isTrue c env (eval c env)
        if ok then
          let z ← eval y1 env
          standAt y1.pos
          let z ← foldedSetIterable y1 env z
          let _ ← runOwn (.compStart (SC e x0 y0 x1 y1 sc pos) 1 (← holding [z] (pyIter z)) acc env) env
        again (.compLoop (SC e x0 y0 x1 y1 sc pos) 0 it acc env)) := by rfl
theorem turn_in : compTurn (SC e x0 y0 x1 y1 sc pos) 1 it acc env = (do
      standAt y1.pos
      match ← pyNext it with
      | none => pure (.done .next)
      | some v =>
        letOwnedTupleGo x1 it v
        assign x1 env v
        let mut ok := true
        for c in ([] : List Expr) do
          if ok then ok ← isTrue c env (eval c env)
        if ok then
          (do let v ← eval e env; standAt e.pos; let _ ← call (.builtin "set.add") [acc, v])
        again (.compLoop (SC e x0 y0 x1 y1 sc pos) 1 it acc env)) := by rfl
abbrev NB (M : Model) (A : Around) (env : Env) (R : Result → Shared → Prop) : Value → Shared → Prop := notedBy M A env fun e s' => R (.error e) s'
theorem loop_out (hf : ∀ z, foldedSetIterable y1 env z = pure z) (J : Nat → Shared → Prop)
    (turn : ∀ n s, J n s → wpAny (model prog w) A (pyNext it) (fun r s1 => match r with
      | none => R (.ok .next) s1
      | some v => wpAny (model prog w) A (letOwnedTupleGo x0 it v) (fun _ s2 => wpAny (model prog w) A (assign x0 env v) (fun _ s3 =>
          wpAny (model prog w) A (eval y1 env) (fun z s4 => wpAny (model prog w) A (pyIter z) (fun i1 s5 => codeAny (model prog w) A (.compStart (SC e x0 y0 x1 y1 sc pos) 1 i1 acc env)
            (fun r s' => match r with | .ok _ => ∃ m, m < n ∧ J m s' | .error _ => False) s5) (NB (model prog w) A env R) s4) (NB (model prog w) A env R) s3) (NB (model prog w) A env R) s2) (NB (model prog w) A env R) s1) (NB (model prog w) A env R) s)
    (n : Nat) (h : J n s) : codeAny (model prog w) A (.compLoop (SC e x0 y0 x1 y1 sc pos) 0 it acc env) R s := by
  refine codeAny_loop rfl J (fun n s hJ => ?_) n h
  show wpAny _ A ((compTurn (SC e x0 y0 x1 y1 sc pos) 0 it acc env).onRaise (fun x => do noteFrame x env; theTreesLotGoes x)) _ _ s
  refine wpAny_noted ?_
  rw [turn_out]
  refine wpAny_bind (wpAny_standAt (wpAny_bind (wpAny_mono (turn n s hJ) (fun r s1 q1 => ?_) fun _ _ z => z)))
  cases r with
  | none => exact wpAny_pure q1
  | some v =>
    refine wpAny_bind (wpAny_mono q1 (fun _ s2 q2 => wpAny_bind (wpAny_mono q2 (fun _ s3 q3 => ?_) fun _ _ z => z)) fun _ _ z => z)
    refine wpAny_bind (wpAny_pure ?_)
    refine wpAny_bind (wpAny_mono q3 (fun z s4 q4 => ?_) fun _ _ z => z)
    refine wpAny_bind (wpAny_standAt (wpAny_bind (wpAny_of_eq (hf z) (wpAny_bind (wpAny_holding (wpAny_mono q4 (fun i1 s5 q5 => ?_) fun _ _ z => z))))))
    refine wpAny_bind (wpAny_runOwn ?_)
    rw [Around.mark_none]
    refine codeAny_mono q5 fun r s' hr => ?_
    cases r with
    | error e => exact hr.elim
    | ok f =>
      first
        | exact wpAny_pure ⟨rfl, hr⟩
        | exact wpAny_bind (wpAny_pure (wpAny_pure ⟨rfl, hr⟩))
theorem loop_in (J : Nat → Shared → Prop)
    (turn : ∀ n s, J n s → wpAny (model prog w) A (pyNext it) (fun r s1 => match r with
      | none => R (.ok .next) s1
      | some v => wpAny (model prog w) A (letOwnedTupleGo x1 it v) (fun _ s2 => wpAny (model prog w) A (assign x1 env v) (fun _ s3 =>
          wpAny (model prog w) A (eval e env) (fun z s4 => wpAny (model prog w) A (call (.builtin "set.add") [acc, z]) (fun _ s5 => ∃ m, m < n ∧ J m s5) (NB (model prog w) A env R) s4) (NB (model prog w) A env R) s3) (NB (model prog w) A env R) s2) (NB (model prog w) A env R) s1) (NB (model prog w) A env R) s)
    (n : Nat) (h : J n s) : codeAny (model prog w) A (.compLoop (SC e x0 y0 x1 y1 sc pos) 1 it acc env) R s := by
  refine codeAny_loop rfl J (fun n s hJ => ?_) n h
  show wpAny _ A ((compTurn (SC e x0 y0 x1 y1 sc pos) 1 it acc env).onRaise (fun x => do noteFrame x env; theTreesLotGoes x)) _ _ s
  refine wpAny_noted ?_
  rw [turn_in]
  refine wpAny_bind (wpAny_standAt (wpAny_bind (wpAny_mono (turn n s hJ) (fun r s1 q1 => ?_) fun _ _ z => z)))
  cases r with
  | none => exact wpAny_pure q1
  | some v =>
    refine wpAny_bind (wpAny_mono q1 (fun _ s2 q2 => wpAny_bind (wpAny_mono q2 (fun _ s3 q3 => ?_) fun _ _ z => z)) fun _ _ z => z)
    refine wpAny_bind (wpAny_pure ?_)
    exact wpAny_bind (wpAny_bind (wpAny_mono q3 (fun z s4 q4 => wpAny_bind (wpAny_standAt (wpAny_bind (wpAny_mono q4 (fun _ s5 q5 => wpAny_pure (wpAny_pure ⟨rfl, q5⟩)) fun _ _ z => z)))) fun _ _ z => z))
theorem start_in (h0 : codeAny (model prog w) A (.compLoop (SC e x0 y0 x1 y1 sc pos) 1 it acc env) R s)
    (h : wpAny (model prog w) A (pyIter it) (fun i' s' => codeAny (model prog w) A (.compLoop (SC e x0 y0 x1 y1 sc pos) 1 i' acc env) R s') (NB (model prog w) A env R) s) :
    codeAny (model prog w) A (.compStart (SC e x0 y0 x1 y1 sc pos) 1 it acc env) R s := by
  refine codeAny_of_tree ?_
  show wpAny _ _ ((compStart (SC e x0 y0 x1 y1 sc pos) 1 it acc env).onRaise (fun x => do noteFrame x env; standAt theWindowsPlace)) _ _ s
  refine wpAny_notedAt ?_
  unfold compStart
  show wpAny _ _ (ask >>= _) _ _ s
  refine wpAny_bind (wpAny_askSetting (wpAny_ite ?_))
  split
  · first
      | exact wpAny_bind (wpAny_pure (wpAny_pure (And.intro rfl h0)))
      | exact wpAny_pure (And.intro rfl h0)
  · first
      | exact wpAny_bind (wpAny_rule (wpAny_bind (wpAny_standAt (wpAny_bind (wpAny_mono h (fun i' s' q => wpAny_pure (And.intro rfl q)) fun _ _ z => z)))))
      | (refine wpAny_bind (wpAny_rule ?_); show wpAny _ _ (standAt y1.pos >>= _) _ _ s; exact wpAny_bind (wpAny_standAt (wpAny_bind (wpAny_mono h (fun i' s' q => wpAny_pure (And.intro rfl q)) fun _ _ z => z))))
end
end MS

set_option Elab.async false
set_option linter.all false
set_option maxRecDepth 100000
set_option maxHeartbeats 4000000
namespace MS
open PySem PySem.Spec PyProof.Rows L2
/-! ### one turn of a walked thing, in any context that lets no exception out -/
section
variable {Y : Cx} {pl : List (Addr × Obj)} {tg : Expr} {J : It} {fp : List Addr} {it : Addr} {tn : Nat → Heap → Prop}
def Stand (Y : Cx) (pl : List (Addr × Obj)) (tn : Nat → Heap → Prop) (fp : List Addr) (i : Nat) (ρ : L2.St) (G : Hp) (z : Shared) : Prop := Inv Y pl ρ G z ∧ tn i z.heap ∧ ∀ b ∈ fp, G b = none
theorem settle (T : Turn Y.prog Y.w Y.K tg J fp it tn) {i : Nat} {z0 z : Shared} {ρ ρ0 : L2.St} {G : Hp} (I : Inv Y (pl ++ pinsAt fp z0.heap) ρ G z) (h0 : tn i z0.heap) (hl : ρ0.length = ρ.length)
    (hk : ∀ (j : Nat) v, ρ0[j]? = some (some v) → ρ[j]? = some (some v)) : Stand Y pl tn fp i ρ0 G z := by
  have still : ∀ b ∈ fp, ∀ o, z0.heap.get? b = some o → z.heap.get? b = some o ∧ G b = none := fun b hb o e => by
    obtain ⟨y1, y2, _⟩ := I.pin (b, o) (List.mem_append_right _ (List.mem_append_right _ (mem_pinsAt hb e)))
    exact ⟨y1, y2⟩
  refine ⟨I.unpinned.weak hl hk, T.keep _ _ _ h0 fun b hb o e => (still b hb o e).1, fun b hb => ?_⟩
  obtain ⟨o, e, _⟩ := T.obj _ _ h0 b hb
  exact (still b hb o e).2
theorem next_turn (T : Turn Y.prog Y.w Y.K tg J fp it tn) (hc : Y.calm = true) (hx : ∀ e z, Y.xe e z → False) {g : TG} (pg : PG Y tg g) {i : Nat} {ρ : L2.St} {G : Hp} {z : Shared} {R : L2.St → Hp → Prop} (a : Stand Y pl tn fp i ρ G z)
    (ok : ∀ G' : Hp, (∀ b ∈ fp, G' b = none) → ∀ b ∈ fp, FpOk Y pl G' b) (go : J.go i G) (h : ∀ x G', J.yld i G x G' → g x ρ G' R) {Q : Option Value → Shared → Prop} {E F : Value → Shared → Prop}
    (q : ∀ u z1, wpAny (model Y.prog Y.w) Y.A (letOwnedTupleGo tg (.ref it) u) (fun _ z2 => wpAny (model Y.prog Y.w) Y.A (assign tg Y.env u) (fun _ z3 => ∃ z0 : Shared, tn (i + 1) z0.heap ∧ (∀ b ∈ fp, ∃ o, z0.heap.get? b = some o ∧ ∀ v, o.data ≠ .cell v) ∧ ∃ ρ' G', Inv Y (pl ++ pinsAt fp z0.heap) ρ' G' z3 ∧ R ρ' G') F z2) F z1 → Q (some u) z1) :
    wpAny (model Y.prog Y.w) Y.A (pyNext (.ref it)) Q E z := by
  obtain ⟨I, st, nn⟩ := a
  refine thnF (T.item Y rfl rfl rfl hc i pl z ρ G (fun _ _ => False) I (ok G nn) st go) fun r z1 y => ?_
  obtain ⟨u, rfl, y⟩ := y
  refine q u z1 (thnF y fun _ z2 y2 => ?_)
  obtain ⟨x, G2, I2, r2, e2, st2, n2⟩ := y2
  have I2' := I2.pinned (ok G2 n2) (T.obj _ _ st2)
  refine wpAny_mono (pg.run _ z2 ρ G2 x u _ I2' r2 (h x G2 e2)) (fun _ z3 y3 => ?_) fun e z' y' => (hx e z' y').elim
  obtain ⟨ρ', G', I3, y3⟩ := y3
  exact ⟨z2, st2, T.obj _ _ st2, ρ', G', I3, y3⟩
end
/-! ### {elt for tg in iter for tg1 in iter1}, of dots -/
section
variable {X : Cx}
def tSc2 (K : PySem.W.Frag) (P : Program) (w : World) (wi : TI) (g : TG) (wi1 : TI) (g1 : TG) (te : TE) (vs vs1 : List Nat) : TE := fun σ H Q => wi σ H fun J H1 => ∀ D, H1 D = none → ∃ W : Nat → Nat → Hp → Prop, (∃ m, W 0 m (upd H1 D (MSO P w D []))) ∧
  ∀ i m H, W i m H → (J.stop i H ∧ Q (.ref D) H) ∨ (J.go i H ∧ ∃ Nx : Hp → Prop, (∀ H', Nx H' → ∃ m', m' < m ∧ W (i + 1) m' H') ∧ ∀ x H', J.yld i H x H' → g x (wipe σ vs) H' fun σ2 H2 => wipe σ2 vs = wipe σ vs ∧
    wi1 σ2 H2 fun J1 H4 => ∃ W1 : Nat → Nat → Hp → Prop, (∃ m, W1 0 m H4) ∧ ∀ j k H, W1 j k H → (J1.stop j H ∧ Nx H) ∨ (J1.go j H ∧ ∃ Nx1 : Hp → Prop, (∀ H', Nx1 H' → ∃ k', k' < k ∧ W1 (j + 1) k' H') ∧ ∀ x H', J1.yld j H x H' →
      g1 x (wipe σ2 vs1) H' fun σ3 H5 => wipe σ3 vs1 = wipe σ2 vs1 ∧ te σ3 H5 fun y H7 => ∃ (a : Addr) (k : List Key) (L : List Row), y = .ref a ∧ SqT K H7 a (k.map kV) ∧ H7 D = some (MSO P w D L) ∧ Dots K H7 L ∧ L.length + 1 < 64 ∧
        ∀ L', (k ∈ L.map (·.2) → L' = L) → (k ∉ L.map (·.2) → L'.Perm ((a, k) :: L)) → Nx1 (upd H7 D (MSO P w D L'))))
theorem sc2_core {pins : List (Addr × Obj)} {s : Shared} {σ : L2.St} {H : Hp} {Q : VK} {e x0 y0 x1 y1 : Expr} {sc : Scope} {own : List (PySem.Str × Nat)} {vs1 : List Nat} {pos pos' : Pos} {wi wi1 : TI} {g g1 : TG} {te : TE} {use : Option (Value → Sem Unit)} {Qf : Value → Shared → Prop}
    (hc : X.calm = true) (hN : X.N.Nodup) (hu : X.A.units + 1 < cLine) (I : Inv X pins σ H s) (hi : PI X x0 y0 wi) (ok : BlkOk X.N X.env.scope sc own) (hv : ∀ i ∈ vs1, i ∈ own.map (·.2))
    (hg : ∀ (s : Shared) (H : Hp) (C : Addr) (cl : List (PySem.Str × Addr)) (f : List Addr), PG (X.blk s H sc (compEnvC sc cl C X.env) f) x0 g)
    (he : ∀ (s : Shared) (H : Hp) (C : Addr) (cl : List (PySem.Str × Addr)) (f : List Addr), PE (X.blk s H sc (compEnvC sc cl C X.env) f) e te)
    (hi1 : ∀ (s : Shared) (H : Hp) (C : Addr) (cl : List (PySem.Str × Addr)) (f : List Addr), PI (X.blk s H sc (compEnvC sc cl C X.env) f) x1 y1 wi1)
    (hg1 : ∀ (s : Shared) (H : Hp) (C : Addr) (cl : List (PySem.Str × Addr)) (f : List Addr), PG (X.blk s H sc (compEnvC sc cl C X.env) f) x1 g1)
    (hs : ∀ x, foldedSetIterable y0 X.env x = pure x) (hs1 : ∀ env x, foldedSetIterable y1 env x = pure x)
    (h : tSc2 X.K X.prog X.w wi g wi1 g1 te (own.map (·.2)) vs1 σ H Q)
    (fin : ∀ D C s' m H', Inv X pins σ H' s' → Q (.ref D) H' → s'.heap.Ns C m → FpOk X pins H' C → compPost (model X.prog X.w) X.A X.xe use Qf (.ref D) C (.ok .next) s') :
    wpAny (model X.prog X.w) X.A (comprehension (SC e x0 y0 x1 y1 sc pos) sc X.env pos' (newSet (.type "set")) false (eval y0 X.env) use) Qf X.xe s := by
  have fre : ∀ y ∈ sc.names, y.2 = .free → ∃ c, X.env.cells.lookup y.1 = some c := fun y hy q => I.ok.has _ (ok.free y hy q)
  refine wpAny_comprehension_free (use := use) rfl hs (closure_ok fre) ok.kind (fun y hy q => (ok.uniq y hy).trans (by rw [q])) ?_
  refine thn (hi.run pins s σ H _ I h) fun _ z1 k1 => thn k1 fun iv z2 k2 => ?_
  obtain ⟨it, fp, tn, J, H2, rfl, I2, T, t2, f2, q⟩ := k2
  refine PpSet.newSet_ok (newEnv_comp ?_)
  obtain ⟨W, ⟨m0, w0⟩, turn⟩ := q z2.heap.objs.size (I2.hok.fresh (Nat.le_refl _))
  generalize hD : z2.heap.objs.size = D at w0 turn ⊢
  generalize hz3 : ({ z2 with heap := z2.heap.push { cls := .type "set", dict := none, data := .set #[] 0 (.fresh 0 0 (!X.w.params.followText "set-order")) } } : Shared) = z3
  have grow : Keeps z2.heap z3.heap := fun b o y => by rw [← hz3]; exact Heap.get?_push_of_some _ y
  have I3 : Inv X pins σ (upd H2 D (MSO X.prog X.w D [])) z3 := by
    rw [← hz3]
    refine I2.laid (t' := z2.toks) (fun b o y => Heap.get?_push_of_some _ y) (Nat.le_of_eq hD) (mso_ok (sr_new ?_))
    rw [← hD]
    exact Heap.get?_push_size _ rfl
  have f3 : ∀ b ∈ fp, FpOk X pins (upd H2 D (MSO X.prog X.w D [])) b ∧ b < z3.heap.objs.size := fun b hb => by
    obtain ⟨o, y, _⟩ := T.obj _ _ t2 b hb
    refine ⟨⟨?_, (f2 b hb).2⟩, Heap.lt_size (grow _ _ y)⟩
    have ne : b ≠ D := by
      rw [← hD]
      exact Nat.ne_of_lt (Heap.lt_size y)
    exact (upd_ne ne).trans (f2 b hb).1
  have I4 := block_start I3 ok hN f3
  have t3 : tn 0 z3.heap := T.keep _ _ _ t2 fun b _ o y => grow b o y
  generalize hH3 : upd H2 D (MSO X.prog X.w D []) = H3 at I3 f3 I4 w0
  have pg := hg z3 H3 z3.heap.objs.size (cellsFrom (z3.heap.objs.size + 1) sc.names (cloFrom X.env.cells sc.names [])) fp
  have pe := he z3 H3 z3.heap.objs.size (cellsFrom (z3.heap.objs.size + 1) sc.names (cloFrom X.env.cells sc.names [])) fp
  have pj := hi1 z3 H3 z3.heap.objs.size (cellsFrom (z3.heap.objs.size + 1) sc.names (cloFrom X.env.cells sc.names [])) fp
  have pk := hg1 z3 H3 z3.heap.objs.size (cellsFrom (z3.heap.objs.size + 1) sc.names (cloFrom X.env.cells sc.names [])) fp
  show codeAny _ _ (.compStart (SC e x0 y0 x1 y1 sc pos) 0 (.ref it) (.ref D) (compEnvC sc (cellsFrom (z3.heap.objs.size + 1) sc.names (cloFrom X.env.cells sc.names [])) z3.heap.objs.size X.env)) (compPost (model X.prog X.w) X.A X.xe use Qf (.ref D) z3.heap.objs.size) { z3 with heap := pushCells (z3.heap.push { cls := .type "dict", data := .dict #[] }) sc.names }
  generalize hen : compEnvC sc (cellsFrom (z3.heap.objs.size + 1) sc.names (cloFrom X.env.cells sc.names [])) z3.heap.objs.size X.env = en at I4 pg pe pj pk ⊢
  have lo : en.locals = z3.heap.objs.size := by rw [← hen]; rfl
  generalize hz4 : ({ z3 with heap := pushCells (z3.heap.push { cls := .type "dict", data := .dict #[] }) sc.names } : Shared) = z4 at I4 ⊢
  have t4 : tn 0 z4.heap := T.keep _ _ _ t3 fun b _ o y => by rw [← hz4]; exact pushCells_keeps _ _ _ _ (Heap.get?_push_of_some _ y)
  have nox : ∀ a z, (X.blk z3 H3 sc en fp).xe a z → False := fun a z y => y
  have okB : ∀ G' : Hp, (∀ b ∈ fp, G' b = none) → ∀ b ∈ fp, FpOk (X.blk z3 H3 sc en fp) [] G' b := fun G' nn b hb =>
    ⟨nn b hb, (I4.ok.exf b hb).1, I4.ok.exfs b hb, .inl hb, fun x c y => (I4.ok.exf b hb).2 x c y, (fun p hp => absurd (show p ∈ ([] : List (Addr × Obj)) from hp) (by simp))⟩
  have loop : codeAny (model X.prog X.w) X.A (.compLoop (SC e x0 y0 x1 y1 sc pos) 0 (.ref it) (.ref D) en) (compPost (model X.prog X.w) X.A X.xe use Qf (.ref D) z3.heap.objs.size) z4 := by
    refine loop_out (hs1 en) (fun n z => ∃ i G, Stand (X.blk z3 H3 sc en fp) [] tn fp i (wipe σ (own.map (·.2))) G z ∧ W i n G) ?_ m0 ⟨0, H3, ⟨I4, t4, fun b hb => (f3 b hb).1.1⟩, w0⟩
    rintro n z5 ⟨i, G5, S5, w5⟩
    rcases turn i n G5 w5 with ⟨stop, done⟩ | ⟨go, Nx, nxt, step⟩
    · obtain ⟨I5, t5, n5⟩ := S5
      refine thnF (T.done (X.blk z3 H3 sc en fp) rfl rfl rfl hc i [] z5 _ G5 (fun _ _ => False) I5 (okB G5 n5) t5 stop) fun r z6 y => ?_
      obtain ⟨rfl, I6⟩ := y
      have J7 : Inv X pins σ G5 z6 := I3.call' (ch := fp) I6.os I6.base I6.hok I6.bare fun b hb => by
        obtain ⟨_, a1, _, a3, a4, a5⟩ := (f3 b hb).1
        exact ⟨a3, a1, a4, a5⟩
      have nl : G5 z3.heap.objs.size = none := by
        rw [← lo]
        exact I6.free
      obtain ⟨m, ns, _⟩ := I6.loc
      have ns' : z6.heap.Ns z3.heap.objs.size m := by
        rw [← lo]
        exact ns
      exact fin D z3.heap.objs.size z6 m G5 J7 done ns' (I3.fpOk (Nat.le_refl _) nl)
    · refine next_turn (Y := X.blk z3 H3 sc en fp) T hc nox pg S5 okB go step (F := fun _ _ => False) fun u z6 k6 => ?_
      refine thnF k6 fun _ z7 k7 => thnF k7 fun _ z8 k8 => ?_
      obtain ⟨z0, t0, ob0, σ8, G8, I8, same8, q8⟩ := k8
      -- back at the outer loop's start
      have back : ∀ {ρ : L2.St} {z' : Shared} {G' : Hp}, Inv (X.blk z3 H3 sc en fp) ([] ++ pinsAt fp z0.heap) ρ G' z' → ρ.length = σ8.length → (∀ (j : Nat) v, j ∉ own.map (·.2) → σ8[j]? = some (some v) → ρ[j]? = some (some v)) → Nx G' →
          ∃ m, m < n ∧ ∃ i G, Stand (X.blk z3 H3 sc en fp) [] tn fp i (wipe σ (own.map (·.2))) G z' ∧ W i m G := fun {ρ z' G'} I' hl hk nx => by
        obtain ⟨m', hm, w'⟩ := nxt G' nx
        refine ⟨m', hm, i + 1, G', settle (Y := X.blk z3 H3 sc en fp) T I' t0 (by rw [← same8, wipe_length, hl]) (fun j v y => ?_), w'⟩
        rw [← same8] at y
        obtain ⟨c1, c2⟩ := wipe_some y
        exact hk j v c2 c1
      refine thnF (pj.run _ z8 σ8 G8 _ I8 q8) fun _ z9 k9 => thnF k9 fun _ z10 k10 => ?_
      obtain ⟨it1, fp1, tn1, J1, G10, rfl, I10, T1, t10, f10, W1, ⟨m1, w1⟩, turn1⟩ := k10
      have ok1 : ∀ G' : Hp, (∀ b ∈ fp1, G' b = none) → ∀ b ∈ fp1, FpOk (X.blk z3 H3 sc en fp) ([] ++ pinsAt fp z0.heap) G' b := fun G' nn b hb => ⟨nn b hb, (f10 b hb).2⟩
      have inner : codeAny (model X.prog X.w) X.A (.compLoop (SC e x0 y0 x1 y1 sc pos) 1 (.ref it1) (.ref D) en)
          (fun r z' => match r with
            | .ok _ => ∃ m, m < n ∧ ∃ i G, Stand (X.blk z3 H3 sc en fp) [] tn fp i (wipe σ (own.map (·.2))) G z' ∧ W i m G
            | .error _ => False) z10 := by
        refine loop_in (fun k z => ∃ j G, Stand (X.blk z3 H3 sc en fp) ([] ++ pinsAt fp z0.heap) tn1 fp1 j (wipe σ8 vs1) G z ∧ W1 j k G) ?_ m1 ⟨0, G10, ⟨I10.weak (wipe_length _ _) (fun j v y => (wipe_some y).1), t10, fun b hb => (f10 b hb).1⟩, w1⟩
        rintro k z11 ⟨j, G11, S11, w11⟩
        rcases turn1 j k G11 w11 with ⟨stop1, nx⟩ | ⟨go1, Nx1, nxt1, step1⟩
        · obtain ⟨I11, t11, n11⟩ := S11
          refine thnF (T1.done (X.blk z3 H3 sc en fp) rfl rfl rfl hc j _ z11 (wipe σ8 vs1) G11 (fun _ _ => False) I11 (ok1 G11 n11) t11 stop1) fun r z12 y => ?_
          obtain ⟨rfl, I12⟩ := y
          exact back I12 (wipe_length _ _) (fun j v c y => by rw [wipe_out fun c' => c (hv j c')]; exact y) nx
        · refine next_turn (Y := X.blk z3 H3 sc en fp) T1 hc nox pk S11 ok1 go1 step1 (F := fun _ _ => False) fun u1 z12 k12 => ?_
          refine thnF k12 fun _ z13 k13 => thnF k13 fun _ z14 k14 => ?_
          obtain ⟨z15, t15, _, σ15, G15, I15, same15, q15⟩ := k14
          refine thnF (pe.run _ z14 σ15 G15 _ I15 q15) fun v z16 k16 => ?_
          obtain ⟨y, G16, I16, r16, a, kk, L, rfl, ha, hL, dL, few, nx⟩ := k16
          cases r16
          refine add_ok (X := X.blk z3 H3 sc en fp) I16 hL dL ha few hu fun z17 L' c1 c2 I17 => ?_
          obtain ⟨m', hm, w'⟩ := nxt1 _ (nx L' c1 c2)
          exact ⟨m', hm, j + 1, _, settle (Y := X.blk z3 H3 sc en fp) T1 I17 t15 (by rw [← same15, wipe_length]) (fun j v y => by rw [← same15] at y; exact (wipe_some y).1), w'⟩
      exact start_in inner (T1.self X.A 0 _ _ _ t10 inner)
  exact PpSet.codeAny_compStart_set loop (T.self X.A 0 _ _ _ t4 loop)
theorem pe_sc2 {e x0 y0 x1 y1 : Expr} {sc : Scope} {own : List (PySem.Str × Nat)} {vs1 : List Nat} {pos : Pos} {wi wi1 : TI} {g g1 : TG} {te : TE} (hc : X.calm = true) (hN : X.N.Nodup) (hu : X.A.units + 1 < cLine) (hi : PI X x0 y0 wi) (ok : BlkOk X.N X.env.scope sc own) (hv : ∀ i ∈ vs1, i ∈ own.map (·.2))
    (hg : ∀ (s : Shared) (H : Hp) (C : Addr) (cl : List (PySem.Str × Addr)) (f : List Addr), PG (X.blk s H sc (compEnvC sc cl C X.env) f) x0 g)
    (hi1 : ∀ (s : Shared) (H : Hp) (C : Addr) (cl : List (PySem.Str × Addr)) (f : List Addr), PI (X.blk s H sc (compEnvC sc cl C X.env) f) x1 y1 wi1)
    (hg1 : ∀ (s : Shared) (H : Hp) (C : Addr) (cl : List (PySem.Str × Addr)) (f : List Addr), PG (X.blk s H sc (compEnvC sc cl C X.env) f) x1 g1)
    (he : ∀ (s : Shared) (H : Hp) (C : Addr) (cl : List (PySem.Str × Addr)) (f : List Addr), PE (X.blk s H sc (compEnvC sc cl C X.env) f) e te)
    (hs : ∀ x, foldedSetIterable y0 X.env x = pure x := by intro _; rfl) (hs1 : ∀ env x, foldedSetIterable y1 env x = pure x := by intro _ _; rfl) :
    PE X (SC e x0 y0 x1 y1 sc pos) (tSc2 X.K X.prog X.w wi g wi1 g1 te (own.map (·.2)) vs1) := by
  refine ⟨fun pins s σ H Q I h => ?_⟩
  rw [PpSet.eval_SetComp]
  refine sc2_core hc hN hu I hi ok hv hg he hi1 hg1 hs hs1 h fun D C z' m G I' q ns f => ⟨m, ns, fun _ sb => ?_⟩
  exact ⟨.ref D, G, I'.turned (t' := z'.toks) (fun b o hb y => (sb.2 b hb).trans y) f.1 f.2.1 f.2.2.2.1 f.2.2.2.2.1 f.2.2.2.2.2, rfl, q⟩
end
end MS

set_option Elab.async false
set_option linter.all false
set_option maxRecDepth 100000
set_option maxHeartbeats 4000000
namespace L2
open PySem PySem.Spec PyProof.Rows
/-- a def's promise at one place alone -/
def RunAt (P : Program) (w : World) (K : PySem.W.Frag) (mg : Str → Option Value) (base : Heap) (CX : CXT) (A : Around) (f : Addr) (fd : FuncData) (ps : List Str) (sp : Sp) : Prop :=
  ∀ (outer : List Env) (s : Shared) (H : Hp) (args : Args) (us : List Value) (vs : List V) (Q : VK) (E : XK), Env0 P w K mg base A outer s H → BindsTo s fd args (ps.zip us) → Vals vs us → sp vs H Q E → codeAny (model P w) A (.call (.ref f) args) (CR CX outer P w H s Q E) s
theorem run_at {CX : CXT} {P : Program} {w : World} {K : PySem.W.Frag} {mg : Str → Option Value} {base : Heap} {k : Nat} {f : Addr} {name qual : Str} {params : Arguments} {body : List Stmt} {sc : Scope} {dV kV doc pm cdv ct oc : Value} {an od : Option Addr}
    {osl : Array (Option Value)} {N ps : List Str} {sp : Sp} {A : Around} (lk : K.lookup f = some ⟨oc, od, .func (PySem.W.fnOf name qual params body sc dV kV doc pm an cdv ct), osl⟩) (hcd : PySem.W.codeIn K cdv qual = true) (S : FnScope N ps sc)
    (len : ∀ vs H Q E, sp vs H Q E → vs.length = ps.length) (hr : Room (k + 1) A)
    (bd : ∀ (outer : List Env) (s : Shared) (H : Hp) (vs : List V) (Q : VK) (E : XK), sp vs H Q E → ∃ t, PSs (cxOf CX P w K mg base N qual sc f cdv A outer s H E) body t ∧ t { nx := fun _ H' => Q .non H', rt := Q } (start N vs) H) :
    RunAt P w K mg base CX A f (PySem.W.fnOf name qual params body sc dV kV doc pm an cdv ct) ps sp := by
  intro outer s H args us vs Q E e0 hb r hsp
  have l0 := len _ _ _ _ hsp
  have kx : K.In s.heap := e0.mod.kin.keeps fun b o z => (e0.bs b o z).1
  have nl : s.heap.NoLimit := e0.mod.nolimit.keeps fun b o z => (e0.bs b o z).1
  have kd : ∀ y ∈ ps.zip us, sc.names.lookup y.1 = some .local ∨ (sc.names.lookup y.1 = some .cell ∧ ((cellsFrom (s.heap.objs.size + 1) sc.names []).lookup y.1).isSome = true) := fun ⟨n, v⟩ hy => by
    rcases S.par n (List.of_mem_zip hy).1 with z | z
    · exact .inl z
    · exact .inr ⟨z, PySem.W.cellsFrom_some _ _ _ (.inl z)⟩
  refine codeAny_call_function hr.depth (kx _ _ lk) rfl S.co S.gen rfl (PySem.W.codeRec_of kx hcd) (hb _ _ _ _ ?_)
  refine wpAny_newFunctionEnv_cells S.kind kd fun env he s1 x => ?_
  subst he
  refine ⟨nl.keeps x.toInCall.keep, codeAny_func ?_⟩
  obtain ⟨t, ht, hq⟩ := bd outer s H vs Q E hsp
  have J : Inv (cxOf CX P w K mg base N qual sc f cdv A outer s H E) [] (start N vs) H s1 := inv_start S hr.hd e0 l0 r x
  refine wpAny_mono (ht.run [] s1 (start N vs) H _ J hq) (fun fl s' hs => ?_) fun e s' hs => hs
  cases fl with
  | ret u =>
    obtain ⟨v, σ', H', J, rv, q⟩ := hs
    exact ⟨v, H', J.os, J.bare, J.base, J.hok, rv, q⟩
  | next =>
    obtain ⟨σ', H', J, q⟩ := hs
    exact ⟨V.non, H', J.os, J.bare, J.base, J.hok, rfl, q⟩
  | brk =>
    obtain ⟨_, _, _, q⟩ := hs
    exact False.elim q
  | cont =>
    obtain ⟨_, _, _, q⟩ := hs
    exact False.elim q
theorem Fun.at {P : Program} {w : World} {K : PySem.W.Frag} {mg : Str → Option Value} {base : Heap} {x qual : Str} {st : Stmt} {f : Addr} {fd : FuncData} {N ps : List Str} {k : Nat} {sp : Sp} {A : Around} (F : Fun K x qual st f fd) (S : FnScope N ps (defScope st)) (len : ∀ vs H Q E, sp vs H Q E → vs.length = ps.length) (hr : Room (k + 1) A)
    (bd : ∀ (cdv : Value) (outer : List Env) (s : Shared) (H : Hp) (vs : List V) (Q : VK) (E : XK), sp vs H Q E →
      ∃ t, PSs (cxOf CX0 P w K mg base N qual (defScope st) f cdv A outer s H E).nox (defBody st) t ∧ t { nx := fun _ H' => Q .non H', rt := Q } (start N vs) H) : RunAt P w K mg base CX0 A f fd ps sp := by
  obtain ⟨oc, od, kV, doc, pm, an, cdv, ct, osl, rfl, lk, hcd⟩ := F.ex
  refine run_at lk hcd S len hr fun outer s H vs Q E hsp => ?_
  obtain ⟨t, h, q⟩ := bd cdv outer s H vs Q E hsp
  exact ⟨t, h.nox, q⟩
theorem law_at {P : Program} {w : World} {K : PySem.W.Frag} {mg mb : Str → Option Value} {CX : CXT} {fa a : Addr} {fd : FuncData} {x : Str} {sp : Sp} {s₁ : Shared} {vs : List Value} {ns : List Int}
    (kX : K.In s₁.heap) (gN : s₁.heap.Ns mainGlobals mg) (bN : s₁.heap.Ns builtinsNs mb) (bB : ∀ x : Str, x ≠ "__name__" → mb x = bootBuiltins x) (nL : s₁.heap.NoLimit) (g0 : s₁.gens = #[])
    (oa : s₁.heap.get? a = some { cls := .type "list", data := .seq vs.toArray }) (ia : IntsAre vs ns) (la : ns.length ≤ sizeLine)
    (F : ∀ base : Heap, K.In base → base.Ns mainGlobals mg → RunAt P w K mg base CX callerA fa fd [x] sp) (bi : ∀ (s : Shared) (u : Value), BindsTo s fd ⟨[u], []⟩ [(x, u)])
    (pr : ∀ H : Hp, Only H → SqL K H a (ns.map V.int) → sp [.ref a] H (fun v _ => v = .bl true) fun _ _ _ => False)
    (cx : ∀ H e s', CX [] H s₁ (fun _ _ _ => False) e s' → False) :
    codeAny (model P w) callerA (.call (.ref fa) ⟨[.ref a], []⟩) (fun r s' => r = .ok (.ret (.bool true)) ∧ OldK s₁.heap s'.heap ∧ s'.os = s₁.os ∧ AllBare s'.gens) s₁ := by
  have rv := vals_ints ia
  have lv := ia.length
  have kern : ∀ H : Hp, Only H → SqL K H a (ns.map V.int) → HOk P w H s₁.heap → (∀ b, H b ≠ none → b = a) → (H a ≠ none → K.lookup a = none) →
      codeAny (model P w) callerA (.call (.ref fa) ⟨[.ref a], []⟩) (fun r s' => r = .ok (.ret (.bool true)) ∧ OldK s₁.heap s'.heap ∧ s'.os = s₁.os ∧ AllBare s'.gens) s₁ := by
    intro H yO yS yok yA yK
    have up : ∀ {b : Addr} {o : Obj}, s₁.heap.get? b = some o → H b = none → (hidT s₁.heap H).get? b = some o := fun z n => hidT_get z n
    have off : ∀ {b : Addr} {o : Obj} {es : Array DictEntry} {ep : Nat}, s₁.heap.get? b = some o → o.data = .dict es ep → H b = none := fun {b o es ep} z d => by
      cases q : H b with
      | none => rfl
      | some u =>
        have z' : b = a := yA b (by rw [q]; simp)
        subst z'
        rw [oa] at z; cases z
        have d' : Data.seq vs.toArray _ = Data.dict es ep := d
        cases d'
    have nk : ∀ {b : Addr} {m : Str → Option Value}, s₁.heap.Ns b m → (hidT s₁.heap H).Ns b m := fun {b m} ⟨o, es, ep, z, d, r⟩ => ⟨o, es, ep, up z (off z d), d, r⟩
    have kb : K.In (hidT s₁.heap H) := fun b o z => up (kX b o z) (by
      cases q : H b with
      | none => rfl
      | some u =>
        have z' : b = a := yA b (by rw [q]; simp)
        subst z'
        rw [yK (by rw [q]; simp)] at z; cases z)
    have mo : Mod K mg (hidT s₁.heap H) := ⟨kb, nk gN, ⟨mb, nk bN, bB⟩, let ⟨mc, h1, h2⟩ := nL; ⟨mc, nk h1, h2⟩⟩
    have e0 : Env0 P w K mg (hidT s₁.heap H) callerA [] s₁ H := ⟨rfl, mo, fun b o z => of_hidT z, Nat.le_of_eq (hidT_size _ _), trivial, fun b z => absurd (show b ∈ ([] : List Addr) from z) (by simp), yok, .of_eq g0⟩
    refine codeAny_mono (F _ kb (nk gN) [] s₁ H ⟨[.ref a], []⟩ [.ref a] [.ref a] _ _ e0 (bi s₁ (.ref a)) (.cons rfl .nil) (pr H yO yS)) fun r s' h => ?_
    cases r with
    | error e => exact (cx H e s' h).elim
    | ok fl =>
      cases fl with
      | next => exact False.elim h
      | brk => exact False.elim h
      | cont => exact False.elim h
      | ret u =>
        obtain ⟨v, H', os, bare, un, hok', r', q⟩ := h
        have q' : v = .bl true := q
        subst q'
        obtain rfl : u = Value.bool true := r'
        refine ⟨rfl, OldK.of_keep fun b o z => ?_, os, bare⟩
        cases q : H b with
        | none => exact un.keep b o z q (by intro y; exact absurd (show b ∈ ([] : List Addr) from y) (by simp)) (by simp)
        | some u =>
          rcases yO b with y | ⟨ob, xs, y⟩
          · rw [q] at y; cases y
          · have y2 := un.frzs b ob _ y
            obtain ⟨e1, _⟩ := yok b _ y
            obtain ⟨e2, _⟩ := hok' b _ y2
            rw [z] at e1; cases e1
            exact e2
  cases hk : K.lookup a with
  | some o =>
    have z := kX a o hk
    rw [oa] at z
    cases z
    refine kern (fun _ => none) (fun _ => .inl rfl) (.inr ⟨_, vs.toArray, _, hk, rfl, rfl, rfl, by rw [List.size_toArray, lv]; exact la, by simpa using rv⟩) (fun b u y => by have y' : (none : Option HO) = some u := y; cases y') (fun b y => absurd rfl y) fun y => absurd rfl y
  | none =>
    refine kern (fun b => if b = a then some (.frz { cls := .type "list", data := .seq vs.toArray } (.lst (ns.map V.int))) else none) (fun b => ?_) (.inl (.inr ⟨{ cls := .type "list", data := .seq vs.toArray }, if_pos rfl⟩)) (fun b u y => ?_) (fun b y => ?_) fun _ => hk
    · by_cases hb : b = a
      · exact .inr ⟨_, _, if_pos hb⟩
      · exact .inl (if_neg hb)
    · by_cases hb : b = a
      · have y' := (if_pos hb).symm.trans y
        cases y'
        subst hb
        exact ⟨oa, by rw [List.length_map]; exact la, vs, _, rv, oa⟩
      · have y' := (if_neg hb).symm.trans y
        cases y'
    · by_cases hb : b = a
      · exact hb
      · exact absurd (if_neg hb) y
theorem walk_at {l : PySem.W.OpenLaw} {n : Nat} {q : Program} {loose : List Str} {XP : (Str → Option Value) → Heap → Prop} {YP : World → Heap → Prop} {d : DefRec} {K : Params → PySem.W.Frag} {CX : World → CXT} {sp : World → Sp} {x : Str}
    (hn : l.most = some n) (hn2 : n ≤ sizeLine) (hdf : d.params.defaults = [])
    (hY : ∀ (w : World) (h : Heap), YP w h → (K w.params).In h)
    (F : ∀ (w : World) (mg : Str → Option Value) (fa : Addr) (h : Heap), (K w.params).In h → h.Ns mainGlobals mg → mg d.name = some (.ref fa) →
      ∃ fd : FuncData, (∀ (s : Shared) (u : Value), BindsTo s fd ⟨[u], []⟩ [(x, u)]) ∧
        ∀ base : Heap, (K w.params).In base → base.Ns mainGlobals mg → RunAt l.prog w (K w.params) mg base (CX w) callerA fa fd [x] (sp w))
    (hsp : ∀ (w : World) (H : Hp) (a : Addr) (ns : List Int), ns.length ≤ n → Only H → SqL (K w.params) H a (ns.map V.int) → sp w [.ref a] H (fun v _ => v = .bl true) fun _ _ _ => False)
    (hCX : ∀ (w : World) (H : Hp) (s : Shared) (e : Value) (s' : Shared), CX w [] H s (fun _ _ _ => False) e s' → False) :
    PySem.W.WalkO q loose XP YP l.row.toRowW d [] (fun f vs => PySem.call f vs) := by
  refine Att.attach_call hn hdf fun w s₀ s₁ mg mb fa o pm cd doc a vs ns G Y ho hd hcd hmg hobj hints hlen hg => ?_
  have kX := hY w _ Y
  obtain ⟨fd, hb, hF⟩ := F w mg fa _ kX G.T.g hmg
  exact law_at kX G.T.g G.T.b G.T.builtins G.T.nolimit hg hobj hints (Nat.le_trans hlen hn2) hF hb (fun H hO hS => hsp w H a ns hlen hO hS) fun H e s' => hCX w H s₁ e s'
section
variable {X : Cx} {pins : List (Addr × Obj)} {σ : St} {H : Hp} {s : Shared}
theorem noDict_dp {K : PySem.W.Frag} : ∀ {d : PyData} {v : V}, Dp K H v d → d.hasDict = false := by
  have key : ∀ (n : Nat), (∀ (d : PyData) (v : V), d.depth ≤ n → Dp K H v d → d.hasDict = false) := by
    intro n
    induction n with
    | zero =>
      intro d v hd h
      cases h with
      | non => simp [PyData.hasDict]
      | bl b => simp [PyData.hasDict]
      | int i => simp [PyData.hasDict]
      | str x => simp [PyData.hasDict]
      | lst h1 h2 => simp [PyData.depth] at hd
      | tup h1 h2 => simp [PyData.depth] at hd
    | succ n ih =>
      have all : ∀ (ds : List PyData) (vs : List V), PyData.depthAll ds ≤ n → DpAll K H vs ds → PyData.hasDictAll ds = false := by
        intro ds
        induction ds with
        | nil => intro vs _ _; simp [PyData.hasDictAll]
        | cons d ds ih2 =>
          intro vs hd h
          cases h with
          | cons h1 h2 =>
            simp only [PyData.depthAll] at hd
            rw [PyData.hasDictAll, ih d _ (Nat.le_trans (Nat.le_max_left _ _) hd) h1, ih2 _ (Nat.le_trans (Nat.le_max_right _ _) hd) h2]
            rfl
      intro d v hd h
      cases h with
      | non => simp [PyData.hasDict]
      | bl b => simp [PyData.hasDict]
      | int i => simp [PyData.hasDict]
      | str x => simp [PyData.hasDict]
      | lst h1 h2 =>
        rw [PyData.hasDict]
        refine all _ _ ?_ h2
        simp only [PyData.depth] at hd
        omega
      | tup h1 h2 =>
        rw [PyData.hasDict]
        refine all _ _ ?_ h2
        simp only [PyData.depth] at hd
        omega
  intro d v h
  exact key d.depth d v (Nat.le_refl _) h
end
end L2
namespace MS
open PySem PySem.Spec PyProof.Rows L2
section
variable {X : Cx}
/-! ### repr of data without a dict -/
def rRepD (K : PySem.W.Frag) : List V → Hp → VK → Prop := fun xs H Q => ∃ (a : Addr) (d : PyData), xs = [.ref a] ∧ Dp K H (.ref a) d ∧ d.showable = true ∧ d.shown.length ≤ sizeLine ∧ d.depth ≤ 40 ∧ Q (.str d.shown) H
theorem call_repD {k : Nat} (hr : Room k X.A) (hG : X.A.guards = some []) : CallR X (.builtin "repr") (rRepD X.K) := by
  intro pins s σ H xs us Q I r h
  obtain ⟨a, d, rfl, hd, sh, sz, dp, q⟩ := h
  rw [Vals.ref1 r]
  obtain ⟨as, rd⟩ := Dp.reads I d (.ref a) (.ref a) hd rfl
  have hu := hr.units
  exact repr_of_reads' rd sh (fun z => by rw [noDict_dp hd] at z; cases z) hG (by omega) (fun b o z => z) (fun h' u tk kp => ⟨.str _, H, I.kept (t' := tk) kp, ⟨u, rfl⟩, q⟩) sz
/-! ### < of dots -/
def rLtD (K : PySem.W.Frag) : R2 := fun x y H Q => ∃ (a b : Addr) (k l : List Key), x = .ref a ∧ y = .ref b ∧ D3 k ∧ D3 l ∧ SqT K H a (k.map kV) ∧ SqT K H b (l.map kV) ∧ Q (.bl (dlt k l)) H
theorem dlt3 (n m l j : Int) (x y : PySem.Str) : dlt [.inl n, .inr x, .inl l] [.inl m, .inr y, .inl j] =
    (if n = m then if x = y then decide (l < j) else decide (x.cps.toList < y.cps.toList) else decide (n < m)) := by
  unfold dlt code
  simp only [List.map_cons, List.map_nil]
  by_cases h1 : n = m
  · subst h1
    rw [if_pos rfl, lex_self]
    by_cases h2 : x = y
    · subst h2
      rw [if_pos rfl, lex_self]
      by_cases h3 : l = j
      · subst h3
        rw [lex_self]
        simp [PyProof.Rows.lexLt]
      · rw [lex_diff (by intro z; exact h3 (Sum.inl.inj z))]
        rfl
    · rw [if_neg h2, lex_diff (by
        intro z
        apply h2
        have := Sum.inr.inj z
        cases x; cases y
        simp only at this
        rw [Array.toList_inj] at this
        rw [this])]
      rfl
  · rw [if_neg h1, lex_diff (by intro z; exact h1 (Sum.inl.inj z))]
    rfl
theorem vals3 {n l : Int} {x : PySem.Str} {us : List Value} (r : Vals (([.inl n, .inr x, .inl l] : List Key).map kV) us) : ∃ t u y, us = [Value.int n t, Value.str x u, Value.int l y] := by
  cases r with
  | cons r1 r =>
    cases r with
    | cons r2 r =>
      cases r with
      | cons r3 r =>
        cases r
        obtain ⟨t, rfl⟩ := (show ∃ t, _ = Value.int n t from r1)
        obtain ⟨u, rfl⟩ := (show ∃ t, _ = Value.str x t from r2)
        obtain ⟨y, rfl⟩ := (show ∃ t, _ = Value.int l t from r3)
        exact ⟨t, u, y, rfl⟩
theorem op_ltD (hu : X.A.units < cLine) : OpR X (compareOp .Lt) (rLtD X.K) := by
  intro pins s σ H x y v u Q I rx ry h
  obtain ⟨a, b, k, l, rfl, rfl, ⟨n, x, i, rfl⟩, ⟨m, y, j, rfl⟩, ha, hb, q⟩ := h
  cases rx
  cases ry
  obtain ⟨its, r1, p1, _⟩ := I.tuple ha
  obtain ⟨its2, r2, p2, _⟩ := I.tuple hb
  obtain ⟨t1, t2, t3, rfl⟩ := vals3 r1
  obtain ⟨u1, u2, u3, rfl⟩ := vals3 r2
  have R := Ob.RcOp.tuples_lt (A := X.A) (s := s) (e := fun c => if c = 0 then n == m else if c = 1 then x == y else i == j) (r := fun c => if c = 0 then decide (n < m) else if c = 1 then decide (x.cps.toList < y.cps.toList) else decide (i < j)) p1 p2 hu (fun c h1 h2 => by
    match c, h1, h2 with
    | 0, _, _ => exact SeqAt.EqAt.int_int _ _ _ _
    | 1, _, _ => exact SeqAt.EqAt.str_str _ _ _ _
    | 2, _, _ => exact SeqAt.EqAt.int_int _ _ _ _
    | c + 3, h1, _ => simp at h1; omega) (fun c h1 h2 _ => by
    match c, h1, h2 with
    | 0, _, _ => exact Ob.RcOp.lt_int _ _ _ _
    | 1, _, _ => exact fun prog w E Q z => PyProof.Rows.lt_str z
    | 2, _, _ => exact Ob.RcOp.lt_int _ _ _ _
    | c + 3, h1, _ => simp at h1; omega)
  have e : Ob.lexAt (fun c => if c = 0 then n == m else if c = 1 then x == y else i == j) (fun c => if c = 0 then decide (n < m) else if c = 1 then decide (x.cps.toList < y.cps.toList) else decide (i < j)) (decide ([Value.int n t1, Value.str x t2, Value.int i t3].toArray.size < [Value.int m u1, Value.str y u2, Value.int j u3].toArray.size)) 0
      (min [Value.int n t1, Value.str x t2, Value.int i t3].toArray.size [Value.int m u1, Value.str y u2, Value.int j u3].toArray.size) = dlt [.inl n, .inr x, .inl i] [.inl m, .inr y, .inl j] := by
    rw [dlt3]
    show Ob.lexAt _ _ false 0 3 = _
    rw [Ob.lexAt_succ, Ob.lexAt_succ, Ob.lexAt_succ, Ob.lexAt_zero]
    simp only [beq_iff_eq, if_true, show (0 + 1 : Nat) ≠ 0 by decide, show (0 + 1 + 1 : Nat) ≠ 0 by decide, show (0 + 1 + 1 : Nat) ≠ 1 by decide, if_false, Nat.zero_add]
    by_cases h1 : n = m
    · simp only [h1, if_true]
      by_cases h2 : x = y
      · simp only [h2, if_true]
        by_cases h3 : i = j
        · simp [h3]
        · simp [h3]
      · simp [h2]
    · simp [h1]
  rw [e] at R
  have z : wpAny (model X.prog X.w) X.A (compareOp .Lt (.ref a) (.ref b)) (EP X pins σ Q) X.xe s := R X.prog X.w X.xe (EP X pins σ Q) ⟨.bl _, H, I, rfl, q⟩
  exact z
/-! ### xs != [] -/
def rNeNil (K : PySem.W.Frag) : R2 := fun x y H Q => ∃ (a b : Addr) (xs : List V), x = .ref a ∧ y = .ref b ∧ SqL K H a xs ∧ SqL K H b [] ∧ Q (.bl (!xs.isEmpty)) H
theorem op_neNil (hu : X.A.units < cLine) : OpR X (compareOp .NotEq) (rNeNil X.K) := by
  intro pins s σ H x y v u Q I rx ry h
  obtain ⟨a, b, xs, rfl, rfl, ha, hb, q⟩ := h
  cases rx
  cases ry
  obtain ⟨its, r1, p1, _⟩ := I.list ha
  obtain ⟨its2, r2, p2, _⟩ := I.list hb
  cases r2
  obtain ⟨⟨cls, dd, data, sl⟩, n, ho, hc, _, hd⟩ := p1
  obtain ⟨⟨cls2, dd2, data2, sl2⟩, n2, ho2, hc2, _, hd2⟩ := p2
  simp only at hc hd hc2 hd2
  subst hc hd hc2 hd2
  cases r1 with
  | nil =>
    exact richCompare_meets_room (op := .NotEq) ⟨_, ho, rfl⟩ ⟨_, ho2, rfl⟩ PySem.F.slot_list_ne PySem.F.entry_list_ne (PySem.F.args_list_ne_2 _ _) (SeqAt.list_neAt a b _ _ n n2 dd dd2 sl sl2 rfl fun _ => false)
      ⟨ho, ho2, (fun j h1 h2 => absurd h1 (by simp)), (fun z => nomatch z), ⟨.bl _, H, I, rfl, q⟩⟩ hu
  | cons r t =>
    exact richCompare_meets_room (op := .NotEq) ⟨_, ho, rfl⟩ ⟨_, ho2, rfl⟩ PySem.F.slot_list_ne PySem.F.entry_list_ne (PySem.F.args_list_ne_2 _ _) (SeqAt.list_ne_lengthsAt a b _ _ n n2 dd dd2 sl sl2 (by simp))
      ⟨ho, ho2, (fun z => nomatch z), ⟨.bl _, H, I, rfl, q⟩⟩ hu
end
end MS
namespace MS
open PySem PySem.Spec PyProof.Rows L2
/-! ### t[::-1] -/
section
variable {prog : Program} {w : World} {A : Around} {E : Value → Shared → Prop} {s : Shared}
theorem back_applied {sl : Addr} {vs : Value} {n : Nat} {Q : Int × Int × Nat → Shared → Prop} (hs : s.heap.IsSliceOf sl .none .none vs) (pv : IsPart vs (some (-1))) (h : Q ((n : Int) - 1, -1, n) s) :
    wpAny (model prog w) A (Builtin.Slice.sliceApplied (.ref sl) (pure (n : Int))) Q E s := by
  obtain ⟨os, ho, _, hd⟩ := id hs
  unfold Builtin.Slice.sliceApplied Builtin.Slice.sliceFields
  refine wpAny_bind (wpAny_bind (wpAny_field ho hd (x := .none) rfl (wpAny_bind (wpAny_field ho hd (x := .none) rfl (wpAny_bind (wpAny_field ho hd (x := vs) rfl (wpAny_pure ?_)))))))
  refine wpAny_bind (HT.slicePart_ pv ?_)
  show wpAny _ _ (if ((-1 : Int) == 0) = true then _ else _) _ _ s
  rw [if_neg (by decide)]
  refine wpAny_bind (HT.slicePart_ .none (wpAny_bind (HT.slicePart_ .none (wpAny_bind (wpAny_pure ?_)))))
  have e : Builtin.Slice.slicePlaces ((n : Int) - 1) (-1) (-1) = n := by
    unfold Builtin.Slice.slicePlaces
    rw [if_neg (by decide)]
    split
    · rw [show (-(-1) : Int) = 1 by decide, Int.ediv_one]
      omega
    · omega
  show wpAny _ _ (pure ((n : Int) - 1, (-1 : Int), Builtin.Slice.slicePlaces ((n : Int) - 1) (-1) (-1))) _ _ s
  rw [e]
  exact wpAny_pure h
theorem fm_same {α β : Type} {f g : α → Option β} : ∀ {l : List α}, (∀ k ∈ l, f k = g k) → l.filterMap f = l.filterMap g
  | [], _ => rfl
  | a :: l, h => by
    have ih := fm_same (l := l) fun k hk => h k (List.mem_cons_of_mem _ hk)
    rw [List.filterMap_cons, List.filterMap_cons, h a List.mem_cons_self, ih]
theorem back_pick (xs : Array Value) : (((List.range xs.size).filterMap fun (k : Nat) => xs[(((xs.size : Nat) : Int) - 1 + (k : Int) * (-1)).toNat]?).toArray) = xs.toList.reverse.toArray := by
  have e : (List.range xs.size).filterMap (fun (k : Nat) => xs[(((xs.size : Nat) : Int) - 1 + (k : Int) * (-1)).toNat]?) = ((List.range xs.size).map fun k => xs.size - 1 - k).filterMap (xs[·]?) := by
    rw [List.filterMap_map]
    refine fm_same fun k hk => ?_
    have := List.mem_range.mp hk
    show xs[_]? = xs[xs.size - 1 - k]?
    congr 1
    omega
  rw [e, PySem.W.krv_range, List.filterMap_reverse, PySem.W.krv_all]
theorem back_item {t sl : Addr} {items : Array Value} {vs : Value} {Q : Value → Shared → Prop} (ht : IsTup s.heap t items) (hs : s.heap.IsSliceOf sl .none .none vs) (pv : IsPart vs (some (-1)))
    (h : Q (.ref s.heap.objs.size) { s with heap := s.heap.push { cls := .type "tuple", data := .seq items.toList.reverse.toArray } }) (hz : items.size ≤ sizeLine) : wpAny (model prog w) A (getItem (.ref t) (.ref sl)) Q E s := by
  have fit : sizeOk (.seq items.toList.reverse.toArray) := by
    show items.toList.reverse.toArray.size ≤ sizeLine
    simpa using hz
  obtain ⟨os, ho, hc, _⟩ := id hs
  have ty : s.TypeIs (.ref sl) "slice" := ⟨os, ho, hc⟩
  unfold getItem
  try with_reducible refine wpAny_holding ?_
  first | refine wpAny_bind (wpAny_pure ?_) | skip
  refine wpAny_bind (wpAny_sequenceKey ht.typeIs (by decide) ?_)
  refine wpAny_bind (wpAny_callSpecial?_slot (name := Str.ofString "__getitem__") ht.typeIs PyProof.Rows.slot_tuple_getitem
    (wpAny_call_entry PyProof.Rows.slot_tuple_getitem ht.typeIs entry_tuple_getitem ?_ (args_tuple_getitem _ _)))
  show wpAny _ _ (Builtin.Tuple.tupleItemsOf (.ref t) >>= _) _ _ s
  refine wpAny_bind (tupleItemsOf_ ht (wpAny_bind (wpAny_typeOf ty ?_)))
  rw [if_pos (by decide)]
  refine wpAny_bind (back_applied hs pv ?_)
  show wpAny _ _ (if ((((items.size : Nat) : Int) - 1 == 0) && (-1 : Int) == 1 && items.size == items.size) = true then _ else _) _ _ s
  have no : ¬ (((((items.size : Nat) : Int) - 1 == 0) && (-1 : Int) == 1 && items.size == items.size) = true) := by
    rw [show ((-1 : Int) == 1) = false from rfl, Bool.and_false, Bool.false_and]
    exact Bool.false_ne_true
  rw [if_neg no, back_pick]
  first
    | exact wpAny_bind (m := Builtin.Tuple.tupleExact _) (wpAny_newObj_type (wpAny_pure ⟨_, rfl, wpAny_pure h⟩) fit)
    | exact wpAny_bind (m := Builtin.Tuple.tupleExact _) (wpAny_newObj_type (wpAny_bind (wpAny_pure (wpAny_pure ⟨_, rfl, wpAny_pure h⟩))) fit)
    | exact wpAny_bind (wpAny_bind (m := Builtin.Tuple.tupleExact _) (wpAny_newObj_type (wpAny_pure (wpAny_pure ⟨_, rfl, wpAny_pure h⟩)) fit))
    | exact wpAny_bind (wpAny_bind (m := Builtin.Tuple.tupleExact _) (wpAny_newObj_type (wpAny_pure ⟨_, rfl, wpAny_pure h⟩) fit))
end
section
variable {X : Cx}
def tRevT (K : PySem.W.Frag) (te : TE) : TE := fun σ H Q => te σ H fun x H1 => ∃ a xs, x = .ref a ∧ SqT K H1 a xs ∧ ∀ p, H1 p = none → Q (.ref p) (upd H1 p (.tup xs.reverse))
theorem pe_revT {e : Expr} {te : TE} {k : Nat} {p1 p2 p3 pos : Pos} (he : PE X e te) : PE X (.Subscript e (.Slice none none (some (.UnaryOp .USub (.Constant (.int 1) k p1) p2)) p3) pos) (tRevT X.K te) := by
  refine ⟨fun pins s σ H Q I h => ?_⟩
  refine Subscript_ (thn (he.run pins s σ H _ I h) fun v s1 z1 => ?_)
  obtain ⟨x, H1, I1, r1, a, xs, rfl, hx, q⟩ := z1
  cases r1
  have part : PO X (some (.UnaryOp .USub (.Constant (.int 1) k p1) p2)) (tPart (tUn (rU fun i => .int (-i)) (tC (.int 1)))) := po_some (pe_un un_neg pe_int)
  refine wpAny_Slice (thn (po_none.run pins s1 σ H1 (fun o G => o = none ∧ G = H1) I1 ⟨rfl, rfl⟩) fun vl s2 z2 => ?_)
  obtain ⟨l, H2, I2, pl, rfl, rfl⟩ := z2
  refine thn (po_none.run pins s2 σ H2 (fun o G => o = none ∧ G = H2) I2 ⟨rfl, rfl⟩) fun vu s3 z3 => ?_
  obtain ⟨u, H3, I3, pu, rfl, rfl⟩ := z3
  refine thn (part.run pins s3 σ H3 (fun o G => o = some (-1) ∧ G = H3) I3 ⟨1, rfl, -1, rfl, rfl, rfl⟩) fun vs s4 z4 => ?_
  obtain ⟨o, H4, I4, ps, rfl, rfl⟩ := z4
  have I5 : Inv X pins σ H4 { s4 with heap := s4.heap.push { cls := .type "slice", data := .fields #[vl, vu, vs] } } := I4.kept (t' := s4.toks) fun b ob y => Heap.get?_push_of_some _ y
  cases pl
  cases pu
  obtain ⟨its, r, ht, hz⟩ := I5.tuple hx
  have len := r.length
  show wpAny (model X.prog X.w) X.A (subscriptTail e (.Slice none none (some (.UnaryOp .USub (.Constant (.int 1) k p1) p2)) p3) (.ref a) (.ref s4.heap.objs.size)) (EP X pins σ Q) X.xe { s4 with heap := s4.heap.push { cls := .type "slice", data := .fields #[.none, .none, vs] } }
  refine tail_any (ops := [.ref a, .ref s4.heap.objs.size]) ht.typeIs PyProof.Rows.slot_tuple_getitem.lookup ?_ (by with_unfolding_all rfl)
  refine back_item ht (Heap.IsSliceOf.new _ .none .none vs) ps ?_ (by rw [List.size_toArray]; omega)
  refine ⟨.ref _, _, I5.laid (t' := s4.toks) (o := .tup xs.reverse) (fun b ob y => Heap.get?_push_of_some _ y) (Nat.le_refl _) ?_, rfl, q _ (I5.hok.fresh (Nat.le_refl _))⟩
  exact ⟨by rw [List.length_reverse]; exact hz, _, r.reverse, IsTup.new _ _⟩
end
end MS

set_option Elab.async false
set_option linter.all false
set_option maxRecDepth 100000
set_option maxHeartbeats 4000000
namespace K01
open PySem PySem.Spec PyProof.Rows L2 MS
abbrev DK := List Key
/-! ### the order of dots -/
theorem code_inj : ∀ {a b : DK}, MS.code a = MS.code b → a = b
  | [], [], _ => rfl
  | [], _ :: _, h => by simp [MS.code] at h
  | _ :: _, [], h => by simp [MS.code] at h
  | x :: a, y :: b, h => by
    simp only [MS.code, List.map_cons, List.cons.injEq] at h
    have ih : a = b := code_inj (by simpa [MS.code] using h.2)
    subst ih
    cases x with
    | inl n =>
      cases y with
      | inl m =>
        have z := h.1
        simp only [Sum.inl.injEq] at z
        rw [z]
      | inr m => have z := h.1; simp at z
    | inr n =>
      cases y with
      | inl m => have z := h.1; simp at z
      | inr m =>
        have z := h.1
        simp only [Sum.inr.injEq] at z
        cases n
        cases m
        simp only [Array.toList_inj] at z
        rw [z]
theorem dlt_irr (a : DK) : dlt a a = false := lex_irrefl _
theorem dlt_tr {a b c : DK} (h1 : dlt a b = true) (h2 : dlt b c = true) : dlt a c = true := lex_trans _ _ _ h1 h2
theorem dlt_tot {a b : DK} (h1 : dlt a b = false) (h2 : dlt b a = false) : a = b := code_inj (lex_total _ _ h1 h2)
def Asc (ks : List DK) : Prop := ks.Pairwise fun a b => dlt a b = true
def ascB (ks : List DK) : Bool := (List.zipWith dlt ks (ks.drop 1)).all id
theorem ascB_two (a b : DK) (r : List DK) : ascB (a :: b :: r) = (dlt a b && ascB (b :: r)) := by
  unfold ascB
  rfl
theorem ascB_iff : ∀ {ks : List DK}, ascB ks = true ↔ Asc ks
  | [] => ⟨fun _ => .nil, fun _ => rfl⟩
  | [a] => ⟨fun _ => .cons (fun _ z => nomatch z) .nil, fun _ => rfl⟩
  | a :: b :: r => by
    rw [ascB_two, Bool.and_eq_true, ascB_iff (ks := b :: r)]
    constructor
    · rintro ⟨h1, h2⟩
      refine .cons (fun c hc => ?_) h2
      rcases List.mem_cons.mp hc with rfl | hc
      · exact h1
      · cases h2 with
        | cons h3 _ => exact dlt_tr h1 (h3 c hc)
    · intro h
      cases h with
      | cons h1 h2 => exact ⟨h1 b List.mem_cons_self, h2⟩
theorem asc_nodup {ks : List DK} (h : Asc ks) : ks.Nodup := by
  refine List.Pairwise.imp (fun {a b} z e => ?_) h
  subst e
  rw [dlt_irr] at z
  cases z
theorem canon : ∀ {l m : List DK}, Asc l → Asc m → (∀ k, k ∈ l ↔ k ∈ m) → l = m
  | [], [], _, _, _ => rfl
  | [], b :: t, _, _, h => nomatch (h b).mpr List.mem_cons_self
  | a :: r, [], _, _, h => nomatch (h a).mp List.mem_cons_self
  | a :: r, b :: t, .cons p1 h1, .cons p2 h2, h => by
    have ab : a = b := by
      rcases List.mem_cons.mp ((h a).mp List.mem_cons_self) with z | z
      · exact z
      · rcases List.mem_cons.mp ((h b).mpr List.mem_cons_self) with y | y
        · exact y.symm
        · have c := dlt_tr (p1 b y) (p2 a z)
          rw [dlt_irr] at c
          cases c
    subst ab
    have e : r = t := canon h1 h2 fun k => by
      constructor
      · intro z
        rcases List.mem_cons.mp ((h k).mp (List.mem_cons_of_mem _ z)) with y | y
        · subst y
          have c := p1 k z
          rw [dlt_irr] at c
          cases c
        · exact y
      · intro z
        rcases List.mem_cons.mp ((h k).mpr (List.mem_cons_of_mem _ z)) with y | y
        · subst y
          have c := p2 k z
          rw [dlt_irr] at c
          cases c
        · exact y
    rw [e]
theorem asc_of {L : List MS.Row} (pw : L.Pairwise fun x y => dlt y.2 x.2 = false) (nd : (L.map (·.2)).Nodup) : Asc (L.map (·.2)) := by
  induction L with
  | nil => exact .nil
  | cons a r ih =>
    cases pw with
    | cons p1 p2 =>
      rw [List.map_cons, List.nodup_cons] at nd
      refine .cons (fun k hk => ?_) (ih p2 nd.2)
      obtain ⟨b, hb, rfl⟩ := List.mem_map.mp hk
      cases z : dlt a.2 b.2 with
      | true => rfl
      | false =>
        have e := dlt_tot z (p1 b hb)
        rw [e] at nd
        exact absurd hk nd.1
/-! ### dots as data -/
def kD : Key → PyData
  | .inl n => .int n
  | .inr x => .str x
def dD (k : DK) : PyData := .tuple (k.map kD)
def TupOf (K : PySem.W.Frag) (H : Hp) (p : Addr) (ks : List DK) : Prop := ∃ L : List MS.Row, SqT K H p (L.map fun q => V.ref q.1) ∧ Dots K H L ∧ L.map (·.2) = ks
theorem dp_keys {K : PySem.W.Frag} {H : Hp} : ∀ k : DK, DpAll K H (k.map kV) (k.map kD)
  | [] => .nil
  | .inl n :: k => .cons (.int n) (dp_keys k)
  | .inr x :: k => .cons (.str x) (dp_keys k)
theorem dp_dot {K : PySem.W.Frag} {H : Hp} {a : Addr} {k : DK} (h : SqT K H a (k.map kV)) : Dp K H (.ref a) (dD k) := .tup h (dp_keys k)
theorem dp_dots {K : PySem.W.Frag} {H : Hp} : ∀ {L : List MS.Row}, Dots K H L → DpAll K H (L.map fun q => V.ref q.1) ((L.map (·.2)).map dD)
  | [], _ => .nil
  | p :: L, h => .cons (dp_dot (h p List.mem_cons_self)) (dp_dots fun q hq => h q (List.mem_cons_of_mem _ hq))
theorem TupOf.dp {K : PySem.W.Frag} {H : Hp} {p : Addr} {ks : List DK} (h : TupOf K H p ks) : Dp K H (.ref p) (.tuple (ks.map dD)) := by
  obtain ⟨L, h1, h2, rfl⟩ := h
  exact .tup h1 (dp_dots h2)
theorem same_sqT {K : PySem.W.Frag} {H H' : Hp} {a : Addr} {xs : List V} (s : Same H H') (h : SqT K H a xs) : SqT K H' a xs := by
  rcases h with (h | ⟨o, h⟩) | h
  · exact .inl (.inl (s _ _ h))
  · exact .inl (.inr ⟨o, s _ _ h⟩)
  · exact .inr h
theorem dots_same {K : PySem.W.Frag} {H H' : Hp} {L : List MS.Row} (s : Same H H') (h : Dots K H L) : Dots K H' L := fun p hp => same_sqT s (h p hp)
theorem TupOf.same {K : PySem.W.Frag} {H H' : Hp} {p : Addr} {ks : List DK} (s : Same H H') (h : TupOf K H p ks) : TupOf K H' p ks := by
  obtain ⟨L, h1, h2, h3⟩ := h
  exact ⟨L, same_sqT s h1, dots_same s h2, h3⟩
/-- all but the object at p stay -/
def Ext (p : Addr) (H H' : Hp) : Prop := ∀ b o, b ≠ p → H b = some o → H' b = some o
theorem Ext.refl {p : Addr} {H : Hp} : Ext p H H := fun _ _ _ h => h
theorem Ext.trans {p : Addr} {H H' H'' : Hp} (a : Ext p H H') (b : Ext p H' H'') : Ext p H H'' := fun c o n h => b c o n (a c o n h)
theorem Ext.of {p : Addr} {H H' : Hp} (s : Same H H') : Ext p H H' := fun b o _ h => s b o h
theorem Ext.put {p : Addr} {H : Hp} {o : HO} : Ext p H (upd H p o) := fun b u n h => by
  rw [upd_ne n]
  exact h
theorem Ext.sqT {K : PySem.W.Frag} {H H' : Hp} {p a : Addr} {xs ys : List V} (e : Ext p H H') (hp : H p = some (.lst ys)) (h : SqT K H a xs) : SqT K H' a xs := by
  rcases h with (h | ⟨o, h⟩) | h
  · exact .inl (.inl (e _ _ (fun z => by subst z; rw [hp] at h; cases h) h))
  · exact .inl (.inr ⟨o, e _ _ (fun z => by subst z; rw [hp] at h; cases h) h⟩)
  · exact .inr h
theorem Ext.dots {K : PySem.W.Frag} {H H' : Hp} {p : Addr} {L : List MS.Row} {ys : List V} (e : Ext p H H') (hp : H p = some (.lst ys)) (h : Dots K H L) : Dots K H' L := fun q hq => e.sqT hp (h q hq)
theorem Ext.tupOf {K : PySem.W.Frag} {H H' : Hp} {p a : Addr} {ks : List DK} {ys : List V} (e : Ext p H H') (hp : H p = some (.lst ys)) (h : TupOf K H a ks) : TupOf K H' a ks := by
  obtain ⟨L, h1, h2, h3⟩ := h
  exact ⟨L, e.sqT hp h1, e.dots hp h2, h3⟩
/-! ### things, as is_dot and is_known see them -/
mutual
def short : PyData → Bool
  | .str x => decide (x.length ≤ 1000)
  | .list ds => shortAll ds
  | .tuple ds => shortAll ds
  | _ => true
def shortAll : List PyData → Bool
  | [] => true
  | d :: ds => short d && shortAll ds
end
def Rd (K : PySem.W.Frag) (H : Hp) (v : V) (d : PyData) : Prop := short d = true ∧ (Dp K H v d ∨ ∃ p, v = .ref p ∧ H p = some (.dK []) ∧ d = .dict [])
mutual
theorem dp_same {K : PySem.W.Frag} {H H' : Hp} (s : Same H H') : ∀ (d : PyData) (v : V), Dp K H v d → Dp K H' v d
  | .none, _, h => by cases h; exact .non
  | .bool b, _, h => by cases h; exact .bl b
  | .int i, _, h => by cases h; exact .int i
  | .str x, _, h => by cases h; exact .str x
  | .list ds, _, h => by
    cases h with
    | lst h1 h2 => exact .lst (s.seq h1) (dpAll_same s ds _ h2)
  | .tuple ds, _, h => by
    cases h with
    | tup h1 h2 => exact .tup (same_sqT s h1) (dpAll_same s ds _ h2)
  | .dict _, _, h => by cases h
theorem dpAll_same {K : PySem.W.Frag} {H H' : Hp} (s : Same H H') : ∀ (ds : List PyData) (vs : List V), DpAll K H vs ds → DpAll K H' vs ds
  | [], _, h => by cases h; exact .nil
  | d :: ds, _, h => by
    cases h with
    | cons h1 h2 => exact .cons (dp_same s d _ h1) (dpAll_same s ds _ h2)
end
theorem Rd.same {K : PySem.W.Frag} {H H' : Hp} {v : V} {d : PyData} (s : Same H H') (h : Rd K H v d) : Rd K H' v d := by
  obtain ⟨h0, h⟩ := h
  refine ⟨h0, ?_⟩
  rcases h with h | ⟨p, h1, h2, h3⟩
  · exact .inl (dp_same s d v h)
  · exact .inr ⟨p, h1, s _ _ h2, h3⟩
def tyN : PyData → String
  | .none => "NoneType"
  | .bool _ => "bool"
  | .int _ => "int"
  | .str _ => "str"
  | .list _ => "list"
  | .tuple _ => "tuple"
  | .dict _ => "dict"
theorem tyx_tup {K : PySem.W.Frag} {H : Hp} {a : Addr} {xs : List V} (h : SqT K H a xs) : TyX K H (.ref a) (.type "tuple") := by
  rcases h with (h | ⟨o, h⟩) | ⟨o, its, n, h, hc, _⟩
  · exact .base (.tup h)
  · exact .fTuple h
  · exact .kTuple h hc
theorem tyx_lst {K : PySem.W.Frag} {H : Hp} {a : Addr} {xs : List V} (h : SqL K H a xs) : TyX K H (.ref a) (.type "list") := by
  rcases h with (h | ⟨o, h⟩) | ⟨o, its, n, h, hc, _⟩
  · exact .base (.lst h)
  · exact .base (.frz h)
  · exact .kList h hc
theorem tyx_of {K : PySem.W.Frag} {H : Hp} {v : V} {d : PyData} (h : Rd K H v d) : TyX K H v (.type (tyN d)) := by
  obtain ⟨_, h⟩ := h
  rcases h with h | ⟨p, rfl, h, rfl⟩
  · cases h with
    | non => exact .base .non
    | bl b => exact .base (.bl b)
    | int i => exact .base (.int i)
    | str x => exact .base (.str x)
    | lst h1 _ => exact tyx_lst h1
    | tup h1 _ => exact tyx_tup h1
  · exact .base (.dK h)
theorem kb_bool (d : PyData) : kitB (tyN d) "bool" = some (match d with | .bool _ => true | _ => false) := by
  cases d with
  | none => exact (by decide +kernel : kitB "NoneType" "bool" = some false)
  | bool _ => exact (by decide +kernel : kitB "bool" "bool" = some true)
  | int _ => exact (by decide +kernel : kitB "int" "bool" = some false)
  | str _ => exact (by decide +kernel : kitB "str" "bool" = some false)
  | list _ => exact (by decide +kernel : kitB "list" "bool" = some false)
  | tuple _ => exact (by decide +kernel : kitB "tuple" "bool" = some false)
  | dict _ => exact (by decide +kernel : kitB "dict" "bool" = some false)
theorem kb_int (d : PyData) : kitB (tyN d) "int" = some (match d with | .bool _ => true | .int _ => true | _ => false) := by
  cases d with
  | none => exact (by decide +kernel : kitB "NoneType" "int" = some false)
  | bool _ => exact (by decide +kernel : kitB "bool" "int" = some true)
  | int _ => exact (by decide +kernel : kitB "int" "int" = some true)
  | str _ => exact (by decide +kernel : kitB "str" "int" = some false)
  | list _ => exact (by decide +kernel : kitB "list" "int" = some false)
  | tuple _ => exact (by decide +kernel : kitB "tuple" "int" = some false)
  | dict _ => exact (by decide +kernel : kitB "dict" "int" = some false)
theorem kb_str (d : PyData) : kitB (tyN d) "str" = some (match d with | .str _ => true | _ => false) := by
  cases d with
  | none => exact (by decide +kernel : kitB "NoneType" "str" = some false)
  | bool _ => exact (by decide +kernel : kitB "bool" "str" = some false)
  | int _ => exact (by decide +kernel : kitB "int" "str" = some false)
  | str _ => exact (by decide +kernel : kitB "str" "str" = some true)
  | list _ => exact (by decide +kernel : kitB "list" "str" = some false)
  | tuple _ => exact (by decide +kernel : kitB "tuple" "str" = some false)
  | dict _ => exact (by decide +kernel : kitB "dict" "str" = some false)
theorem kb_tup (d : PyData) : kitB (tyN d) "tuple" = some (match d with | .tuple _ => true | _ => false) := by
  cases d with
  | none => exact (by decide +kernel : kitB "NoneType" "tuple" = some false)
  | bool _ => exact (by decide +kernel : kitB "bool" "tuple" = some false)
  | int _ => exact (by decide +kernel : kitB "int" "tuple" = some false)
  | str _ => exact (by decide +kernel : kitB "str" "tuple" = some false)
  | list _ => exact (by decide +kernel : kitB "list" "tuple" = some false)
  | tuple _ => exact (by decide +kernel : kitB "tuple" "tuple" = some true)
  | dict _ => exact (by decide +kernel : kitB "dict" "tuple" = some false)
/-- what is_dot and is_known look at: the items of a tuple, or nothing -/
inductive Lk (K : PySem.W.Frag) (H : Hp) : V → Option (List PyData) → Prop
  | no {v : V} {T : String} (h : TyX K H v (.type T)) (b : kitB T "tuple" = some false) : Lk K H v none
  | tup {a : Addr} {xs : List V} {ds : List PyData} (h : SqT K H a xs) (r : Paired (Rd K H) xs ds) : Lk K H (.ref a) (some ds)
def look : PyData → Option (List PyData)
  | .tuple ds => some ds
  | _ => none
theorem dpAll_rd {K : PySem.W.Frag} {H : Hp} : ∀ {vs : List V} {ds : List PyData}, DpAll K H vs ds → shortAll ds = true → Paired (Rd K H) vs ds
  | _, _, .nil, _ => .nil
  | _, _, .cons h t, z => by
    rw [shortAll, Bool.and_eq_true] at z
    exact .cons ⟨z.1, .inl h⟩ (dpAll_rd t z.2)
theorem lk_of {K : PySem.W.Frag} {H : Hp} {v : V} {d : PyData} (h : Rd K H v d) : Lk K H v (look d) := by
  have ty := tyx_of h
  have kb := kb_tup d
  obtain ⟨h0, h⟩ := h
  rcases h with h | ⟨p, rfl, h, rfl⟩
  · cases h with
    | non => exact .no ty kb
    | bl b => exact .no ty kb
    | int i => exact .no ty kb
    | str x => exact .no ty kb
    | lst h1 _ => exact .no ty kb
    | tup h1 h2 => exact .tup h1 (dpAll_rd h2 (by rw [short] at h0; exact h0))
  · exact .no ty kb
theorem paired_same {K : PySem.W.Frag} {H H' : Hp} (s : Same H H') : ∀ {xs : List V} {ds : List PyData}, Paired (Rd K H) xs ds → Paired (Rd K H') xs ds
  | _, _, .nil => .nil
  | _, _, .cons h t => .cons (h.same s) (paired_same s t)
theorem plen {α β : Type} {F : α → β → Prop} : ∀ {l1 : List α} {l2 : List β}, Paired F l1 l2 → l1.length = l2.length
  | _, _, .nil => rfl
  | _, _, .cons _ t => by rw [List.length_cons, List.length_cons, plen t]
theorem pget {α β : Type} {F : α → β → Prop} : ∀ {l1 : List α} {l2 : List β}, Paired F l1 l2 → ∀ {i : Nat} {a : α}, l1[i]? = some a → ∃ b, l2[i]? = some b ∧ F a b
  | _, _, .nil, i, a, h => by simp at h
  | _, _, .cons r t, 0, a, h => by
    simp at h
    subst h
    exact ⟨_, rfl, r⟩
  | _, _, .cons r t, i + 1, a, h => by
    obtain ⟨b, h1, h2⟩ := pget t (i := i) (a := a) (by simpa using h)
    exact ⟨b, by simpa using h1, h2⟩
def letters : PySem.Str := "abcdefghijklmnopqrstuvwxyz"
def dWh : PyData → Bool
  | .int _ => true
  | _ => false
def wordOk (x : PySem.Str) : Bool := decide (1 ≤ x.length) && decide (x.length ≤ 6) && x.cps.toList.all fun c => decide (c ∈ letters.cps.toList)
def dWord : PyData → Bool
  | .str x => wordOk x
  | _ => false
def dDot3 : PyData → PyData → PyData → Bool
  | .int n, .str x, .int l => wordOk x && (decide (1 ≤ n) && decide (n ≤ 1000000000000) && decide (1 ≤ l))
  | _, _, _ => false
def dotL : List PyData → Bool
  | [a, b, c] => dDot3 a b c
  | _ => false
def dotO (o : Option (List PyData)) : Bool := (o.map dotL).getD false
def dDot (d : PyData) : Bool := dotO (look d)
def keyD : PyData → DK
  | .tuple [.int n, .str x, .int l] => [.inl n, .inr x, .inl l]
  | _ => []
def knownO (o : Option (List PyData)) : Bool := (o.map fun ds => ds.all dDot && ascB (ds.map keyD)).getD false
theorem dot_shape {d : PyData} (h : dDot d = true) : ∃ n x l, d = .tuple [.int n, .str x, .int l] := by
  cases d with
  | tuple ds =>
    have h : dotL ds = true := h
    match ds, h with
    | [a, b, c], h =>
      have h : dDot3 a b c = true := h
      cases a <;> cases b <;> cases c <;> first | exact ⟨_, _, _, rfl⟩ | (simp [dDot3] at h)
    | [], h => simp [dotL] at h
    | [_], h => simp [dotL] at h
    | [_, _], h => simp [dotL] at h
    | _ :: _ :: _ :: _ :: _, h => simp [dotL] at h
  | _ => simp [dDot, dotO, look] at h
theorem dots_of {K : PySem.W.Frag} {H : Hp} : ∀ {xs : List V} {ds : List PyData}, Paired (Rd K H) xs ds → ds.all dDot = true → ∃ L : List MS.Row, xs = (L.map fun q => V.ref q.1) ∧ Dots K H L ∧ L.map (·.2) = ds.map keyD ∧ (∀ p ∈ L, D3 p.2) ∧ ds = (L.map (·.2)).map dD
  | _, _, .nil, _ => ⟨[], rfl, (fun _ z => nomatch z), rfl, (fun _ z => nomatch z), rfl⟩
  | _, _, .cons (a := v) (b := d) h t, al => by
    rw [List.all_cons, Bool.and_eq_true] at al
    obtain ⟨L, rfl, h2, h3, h4, h5⟩ := dots_of t al.2
    obtain ⟨n, x, l, rfl⟩ := dot_shape al.1
    rcases h.2 with h | ⟨p, _, _, z⟩
    · cases h with
      | @tup a xs ds h1 h6 =>
        cases h6 with
        | cons q1 h6 =>
          cases h6 with
          | cons q2 h6 =>
            cases h6 with
            | cons q3 h6 =>
              cases h6
              cases q1
              cases q2
              cases q3
              refine ⟨(a, [.inl n, .inr x, .inl l]) :: L, rfl, fun p hp => ?_, ?_, fun p hp => ?_, ?_⟩
              · rcases List.mem_cons.mp hp with rfl | hp
                · exact h1
                · exact h2 p hp
              · rw [List.map_cons, List.map_cons, h3]
                rfl
              · rcases List.mem_cons.mp hp with rfl | hp
                · exact ⟨n, x, l, rfl⟩
                · exact h4 p hp
              · rw [List.map_cons, List.map_cons, ← h5]
                rfl
    · cases z
end K01

set_option Elab.async false
set_option linter.all false
set_option maxRecDepth 100000
set_option maxHeartbeats 4000000
namespace K01
open PySem PySem.Spec PyProof.Rows L2 MS
/-- the built-in names that the text leaves alone -/
structure Bt (mg : PySem.Str → Option Value) : Prop where
  isi : mg "isinstance" = none
  len : mg "len" = none
  all : mg "all" = none
  int : mg "int" = none
  bool : mg "bool" = none
  str : mg "str" = none
  tuple : mg "tuple" = none
  list : mg "list" = none
  set : mg "set" = none
  sorted : mg "sorted" = none
  zip : mg "zip" = none
  max : mg "max" = none
  min : mg "min" = none
  repr : mg "repr" = none
  range : mg "range" = none
/-- a callee: where it stands, what it keeps -/
structure Ca (P : Program) (w : World) (K : PySem.W.Frag) (mg : PySem.Str → Option Value) (base : Heap) (k : Nat) (x : PySem.Str) (ps : List PySem.Str) (sp : Sp) : Prop where
  ex : ∃ f fd, FnOk P w K mg base CX0 k f fd ps sp ∧ mg x = some (.ref f) ∧ PySem.W.keepIn K (.ref f) = true ∧ Binds K fd ps []
theorem pe_ca {X : Cx} {x : PySem.Str} {ps : List PySem.Str} {sp : Sp} {k : Nat} {e : Expr} {es : List Expr} {t : TA} {p pos : Pos} (c : Ca X.prog X.w X.K X.mg X.base k x ps sp) (hr : Room k X.A) (hg : Gl X x) (hx : Passes CX0 X E0) (ha : PA X (e :: es) t)
    (hdb : (x == ("__debug__" : PySem.Str)) = false := by decide) (he : starEach (e :: es) X.env = (false, eval e X.env) :: starEach es X.env := by rfl) (hpl : (backTo pos (starEach es X.env)).any (·.1) = false := by rfl) : PE X (.Call (.Name x p) (e :: es) [] pos) (tCall sp [] E0 t) := by
  obtain ⟨f, fd, F, g, kp, b⟩ := c.ex
  exact pe_call F hr hg g kp b .nil hx ha hdb he hpl
theorem pe_ca0 {X : Cx} {x : PySem.Str} {ps : List PySem.Str} {sp : Sp} {k : Nat} {p pos : Pos} (c : Ca X.prog X.w X.K X.mg X.base k x ps sp) (hr : Room k X.A) (hg : Gl X x) (hx : Passes CX0 X E0)
    (hdb : (x == ("__debug__" : PySem.Str)) = false := by decide) : PE X (.Call (.Name x p) [] [] pos) (tCall sp [] E0 tNil) := by
  obtain ⟨f, fd, F, g, kp, b⟩ := c.ex
  exact pe_call0 F hr hg g kp b .nil hx hdb
theorem newo {H : Hp} {p : Addr} {o : HO} (n : H p = none) : Same H (upd H p o) ∧ (upd H p o) p = some o := ⟨fun b x e => by
  rw [upd_ne (ne_of_none e n)]
  exact e, upd_same⟩
theorem same_but {H H' : Hp} {D : Addr} {o : HO} (n : H D = none) (s : Same H H') : Same H (upd H' D o) := fun b x e => by
  rw [upd_ne (ne_of_none e n)]
  exact s b x e
theorem take_snoc {α : Type} {l : List α} {i : Nat} {x : α} (h : l[i]? = some x) : l.take (i + 1) = l.take i ++ [x] := by
  obtain ⟨h1, h2⟩ := List.getElem?_eq_some_iff.mp h
  rw [List.take_succ, List.getElem?_eq_getElem h1, h2]
  rfl
/-! ### is_whole -/
def spWhole (K : PySem.W.Frag) : Sp := fun vs H Q _ => ∃ (v : V) (d : PyData), vs = [v] ∧ Rd K H v d ∧ Q (.bl (dWh d)) H
/-! ### is_word -/
def spWord (K : PySem.W.Frag) : Sp := fun vs H Q _ => ∃ (v : V) (d : PyData), vs = [v] ∧ Rd K H v d ∧ ∀ H', Same H H' → Q (.bl (dWord d)) H'
theorem sl_from {K : PySem.W.Frag} {H : Hp} {a : Addr} {xs : List V} {Q : VK} {lo : Int} {j : Nat} (hj : HT.sIx xs.length 0 (some lo) = j) (h : SqT K H a xs) (q : ∀ b H', Same H H' → SqT K H' b (xs.drop j) → Q (.ref b) H') : rSlA K (.ref a) (some lo) none H Q := by
  refine ⟨a, xs, rfl, h, fun z => ?_, fun z p hp => ?_⟩
  · have e : j = 0 := by rw [← hj]; exact z.1
    subst e
    exact q a H (Same.refl _) h
  · obtain ⟨s1, e1⟩ := newo (o := .tup (cutV xs (some lo) none)) hp
    refine q p _ s1 (.inl (.inl ?_))
    rw [e1]
    unfold cutV
    rw [hj, HT.sIx_none, List.take_of_length_le (by rw [List.length_drop]; exact Nat.le_refl _)]
theorem walk_zipT {K : PySem.W.Frag} {a b : Addr} {xs ys : List V} {n : Nat} (hn : n = min xs.length ys.length) : Walk (RZ.ItzT K a b) n (fun H => SqT K H a xs ∧ SqT K H b ys) (YPair (fun i => xs[i]?) (fun i => ys[i]?)) := by
  subst hn
  refine ⟨fun i G hi q => ?_, fun G q => ⟨xs, ys, q.1, q.2, by omega⟩, fun i G v G' hi q y => ?_⟩
  · have h1 : i < xs.length := by omega
    have h2 : i < ys.length := by omega
    exact ⟨xs, ys, xs[i], ys[i], q.1, q.2, List.getElem?_eq_getElem h1, List.getElem?_eq_getElem h2⟩
  · obtain ⟨T, x, z, c1, c2, c3, c4, c5⟩ := y
    exact ⟨T, x, z, c1, c2, c3, c4 xs q.1, c5 ys q.2⟩
theorem op_ltDK {X : Cx} {K : PySem.W.Frag} (hK : X.K = K) (hu : X.A.units < cLine) : OpR X (compareOp .Lt) (rLtD K) := by
  subst hK
  exact op_ltD hu
theorem hu_lt {k : Nat} {A : Around} (h : Room k A) : A.units < cLine := by
  have := h.un
  omega
/-! ### rises -/
def spRis (K : PySem.W.Frag) : Sp := fun vs H Q _ => ∃ (a : Addr) (ks : List DK), vs = [.ref a] ∧ TupOf K H a ks ∧ (∀ k ∈ ks, D3 k) ∧ ks.length ≤ 1000 ∧ ∀ H', Same H H' → Q (.bl (ascB ks)) H'
/-! ### is_dot -/
theorem dot3_1 {a b c : PyData} (h : dWh a = false) : dDot3 a b c = false := by
  cases a with
  | int n => exact absurd h (by simp [dWh])
  | _ => rfl
theorem dot3_2 {a b c : PyData} (h : dWord b = false) : dDot3 a b c = false := by
  cases a with
  | int n =>
    cases b with
    | str x =>
      cases c with
      | int l =>
        have z : wordOk x = false := h
        show (wordOk x && _) = false
        rw [z, Bool.false_and]
      | _ => rfl
    | _ => rfl
  | _ => rfl
theorem dot3_3 {a b c : PyData} (h : dWh c = false) : dDot3 a b c = false := by
  cases a with
  | int n =>
    cases b with
    | str x =>
      cases c with
      | int l => exact absurd h (by simp [dWh])
      | _ => rfl
    | _ => rfl
  | _ => rfl
theorem len3 {α β : Type} {F : α → β → Prop} {xs : List α} {ds : List β} (h : Paired F xs ds) (z : xs.length = 3) : ∃ x1 x2 x3 d1 d2 d3, xs = [x1, x2, x3] ∧ ds = [d1, d2, d3] ∧ F x1 d1 ∧ F x2 d2 ∧ F x3 d3 := by
  match xs, ds, h, z with
  | [x1, x2, x3], [d1, d2, d3], .cons r1 (.cons r2 (.cons r3 .nil)), _ => exact ⟨x1, x2, x3, d1, d2, d3, rfl, rfl, r1, r2, r3⟩
theorem dotO_no {ds : List PyData} (h : ds.length ≠ 3) : dotO (some ds) = false := by
  match ds, h with
  | [], _ => rfl
  | [_], _ => rfl
  | [_, _], _ => rfl
  | [_, _, _], l => exact absurd rfl l
  | _ :: _ :: _ :: _ :: _, _ => rfl
def spDot (K : PySem.W.Frag) : Sp := fun vs H Q _ => ∃ (v : V) (o : Option (List PyData)), vs = [v] ∧ Lk K H v o ∧ ∀ H', Same H H' → Q (.bl (dotO o)) H'
abbrev ND : List PySem.Str := ["thing", "number", "house", "life"]
theorem known_no {ds : List PyData} (h : ds.all dDot = false) : knownO (some ds) = false := by
  show (ds.all dDot && _) = false
  rw [h, Bool.false_and]
theorem known_yes {ds : List PyData} (h : ds.all dDot = true) : knownO (some ds) = ascB (ds.map keyD) := by
  show (ds.all dDot && _) = _
  rw [h, Bool.true_and]
def spKn (K : PySem.W.Frag) : Sp := fun vs H Q _ => ∃ (v : V) (o : Option (List PyData)), vs = [v] ∧ Lk K H v o ∧ (∀ ds, o = some ds → ds.length < 64) ∧ ∀ H', Same H H' → Q (.bl (knownO o)) H'
/-! ### the law's own look -/
def dGe : PyData → Int → Bool
  | .int n, m => decide (m ≤ n)
  | _, _ => false
def spLw (K : PySem.W.Frag) : Sp := fun vs H Q _ => ∃ (v : V) (d : PyData) (m : Int), vs = [v, .int m] ∧ Rd K H v d ∧ Q (.bl (dGe d m)) H
theorem cr_setMK {X : Cx} {K : PySem.W.Frag} {P : Program} {w : World} (hK : X.K = K) (hP : X.prog = P) (hw : X.w = w) (hc : X.calm = true) (hu : X.A.units + 64 < cLine) : CallR X (.type "set") (rSetM K P w) := by
  subst hK hP hw
  exact cr_setM hc hu
theorem cr_sortMK {X : Cx} {K : PySem.W.Frag} {P : Program} {w : World} (hK : X.K = K) (hP : X.prog = P) (hw : X.w = w) (hc : X.calm = true) : CallR X (.builtin "sorted") (rSortM K P w) := by
  subst hK hP hw
  exact cr_sortM hc
theorem hu_64 {k : Nat} {A : Around} (h : Room k A) : A.units + 64 < cLine := by
  have := h.un
  omega
theorem dot3_ge (a c : PyData) (x : PySem.Str) (hw : wordOk x = true) : dDot3 a (.str x) c = (dGe a 1 && ((match a with | .int n => decide (n ≤ 1000000000000) | _ => false) && dGe c 1)) := by
  cases a with
  | int n =>
    cases c with
    | int l =>
      show (wordOk x && _) = _
      rw [hw, Bool.true_and, Bool.and_assoc]
      rfl
    | _ => show false = _; simp [dGe]
  | _ => rfl
abbrev NLD : List PySem.Str := ["_law_thing", "_law_first", "_law_name", "_law_last", "_law_sign"]
/-! ### _law_is_known -/
theorem word_ok {x : PySem.Str} (h : wordOk x = true) : PyData.canLay0 (.str x) = true := by
  unfold wordOk at h
  rw [Bool.and_eq_true] at h
  have h2 := List.all_eq_true.mp h.2
  rw [PyData.canLay0]
  show x.cps.all _ = true
  rw [← Array.all_toList, List.all_eq_true]
  intro c hc
  have z : c ∈ letters.cps.toList := of_decide_eq_true (h2 c hc)
  have al : letters.cps.toList.all (fun c => decide (c < 0x110000)) = true := by decide +kernel
  exact List.all_eq_true.mp al c z
theorem lay_dots : ∀ {ds : List PyData}, ds.all dDot = true → PyData.canLayAll0 ds = true ∧ PyData.depthAll ds ≤ 1
  | [], _ => ⟨by rw [PyData.canLayAll0], by rw [PyData.depthAll]; exact Nat.zero_le _⟩
  | d :: ds, h => by
    rw [List.all_cons, Bool.and_eq_true] at h
    obtain ⟨c1, c2⟩ := lay_dots h.2
    obtain ⟨n, x, l, rfl⟩ := dot_shape h.1
    have hw : wordOk x = true := by
      have z : (wordOk x && _) = true := h.1
      rw [Bool.and_eq_true] at z
      exact z.1
    refine ⟨?_, ?_⟩
    · rw [PyData.canLayAll0, c1, Bool.and_true, PyData.canLay0, PyData.canLayAll0, PyData.canLayAll0, PyData.canLayAll0, PyData.canLayAll0, word_ok hw, PyData.canLay0, PyData.canLay0]
      rfl
    · rw [PyData.depthAll]
      have : PyData.depth (.tuple [.int n, .str x, .int l]) = 1 := by simp [PyData.depth, PyData.depthAll]
      omega
theorem shaped_dots {ds : List PyData} (h : ds.all dDot = true) : SeqAt.shaped (.list ds) = true := by
  obtain ⟨c1, c2⟩ := lay_dots h
  unfold SeqAt.shaped
  rw [PyData.canLay0, c1, PyData.depth, Bool.true_and]
  exact decide_eq_true (by omega)
theorem eqv_dot {n m l j : Int} {x y : PySem.Str} : PyData.eqv (.tuple [.int n, .str x, .int l]) (.tuple [.int m, .str y, .int j]) = decide (([.inl n, .inr x, .inl l] : DK) = [.inl m, .inr y, .inl j]) := by
  simp only [PyData.eqv, PyData.eqvAll, Bool.and_true]
  by_cases h1 : n = m
  · by_cases h2 : x = y
    · by_cases h3 : l = j
      · subst h1 h2 h3
        simp
      · simp [h1, h2, h3]
    · simp [h1, h2]
  · simp [h1]
theorem eqv_dots : ∀ {ks ms : List DK}, (∀ k ∈ ks, D3 k) → (∀ k ∈ ms, D3 k) → PyData.eqvAll (ks.map dD) (ms.map dD) = decide (ks = ms)
  | [], [], _, _ => by simp [PyData.eqvAll]
  | [], m :: ms, _, _ => by simp [PyData.eqvAll]
  | k :: ks, [], _, _ => by simp [PyData.eqvAll]
  | k :: ks, m :: ms, h1, h2 => by
    obtain ⟨n, x, l, rfl⟩ := h1 k List.mem_cons_self
    obtain ⟨n', x', l', rfl⟩ := h2 m List.mem_cons_self
    have ih := eqv_dots (ks := ks) (ms := ms) (fun k hk => h1 k (List.mem_cons_of_mem _ hk)) fun k hk => h2 k (List.mem_cons_of_mem _ hk)
    rw [List.map_cons, List.map_cons, PyData.eqvAll, ih]
    show (PyData.eqv (.tuple [.int n, .str x, .int l]) (.tuple [.int n', .str x', .int l']) && _) = _
    rw [eqv_dot, ← Bool.decide_and]
    exact decide_eq_decide.mpr ⟨fun z => by rw [z.1, z.2], fun z => List.cons.inj z⟩
theorem hu_1 {k : Nat} {A : Around} (h : Room k A) : A.units + 1 < cLine := by
  have := h.un
  omega
theorem pe_sc2K {X : Cx} {K : PySem.W.Frag} {P : Program} {w : World} (hK : X.K = K) (hP : X.prog = P) (hw : X.w = w) {e x0 y0 x1 y1 : Expr} {sc : Scope} {own : List (PySem.Str × Nat)} {vs1 : List Nat} {pos : Pos} {wi wi1 : TI} {g g1 : TG} {te : TE} (hc : X.calm = true) (hN : X.N.Nodup) (hu : X.A.units + 1 < cLine) (hi : PI X x0 y0 wi) (ok : BlkOk X.N X.env.scope sc own) (hv : ∀ i ∈ vs1, i ∈ own.map (·.2))
    (hg : ∀ (s : Shared) (H : Hp) (C : Addr) (cl : List (PySem.Str × Addr)) (f : List Addr), PG (X.blk s H sc (compEnvC sc cl C X.env) f) x0 g)
    (hi1 : ∀ (s : Shared) (H : Hp) (C : Addr) (cl : List (PySem.Str × Addr)) (f : List Addr), PI (X.blk s H sc (compEnvC sc cl C X.env) f) x1 y1 wi1)
    (hg1 : ∀ (s : Shared) (H : Hp) (C : Addr) (cl : List (PySem.Str × Addr)) (f : List Addr), PG (X.blk s H sc (compEnvC sc cl C X.env) f) x1 g1)
    (he : ∀ (s : Shared) (H : Hp) (C : Addr) (cl : List (PySem.Str × Addr)) (f : List Addr), PE (X.blk s H sc (compEnvC sc cl C X.env) f) e te)
    (hs : ∀ x, foldedSetIterable y0 X.env x = pure x := by intro _; rfl) (hs1 : ∀ env x, foldedSetIterable y1 env x = pure x := by intro _ _; rfl) :
    PE X (SC e x0 y0 x1 y1 sc pos) (tSc2 K P w wi g wi1 g1 te (own.map (·.2)) vs1) := by
  subst hK hP hw
  exact pe_sc2 hc hN hu hi ok hv hg hi1 hg1 he hs hs1
theorem pi_tupK {X : Cx} {K : PySem.W.Frag} {tg l : Expr} {tl : TE} (hK : X.K = K) (hl : PE X l tl) : PI X tg l (iTup K tl) := by
  subst hK
  exact pi_tup hl
theorem ix_tupK {X : Cx} {K : PySem.W.Frag} (hK : X.K = K) : IxR X (rIxT K) := by
  subst hK
  exact ix_tup
/-- rows behind tuples -/
theorem rows_of {K : PySem.W.Frag} {H : Hp} : ∀ (ts : List (Addr × List DK)), (∀ t ∈ ts, TupOf K H t.1 t.2) → ∃ Ls : List (Addr × List MS.Row), Ls.map (fun t => (t.1, t.2.map (·.2))) = ts ∧ ∀ t ∈ Ls, SqT K H t.1 (t.2.map fun q => V.ref q.1) ∧ Dots K H t.2
  | [], _ => ⟨[], rfl, fun _ z => nomatch z⟩
  | t :: ts, h => by
    obtain ⟨Ls, e, a⟩ := rows_of ts fun u hu => h u (List.mem_cons_of_mem _ hu)
    obtain ⟨L, h1, h2, h3⟩ := h t List.mem_cons_self
    refine ⟨(t.1, L) :: Ls, by rw [List.map_cons, e, h3], fun u hu => ?_⟩
    rcases List.mem_cons.mp hu with rfl | hu
    · exact ⟨h1, h2⟩
    · exact a u hu
def rowsTo (Ls : List (Addr × List MS.Row)) (i : Nat) : List MS.Row := ((Ls.take i).map (·.2)).flatten
theorem rowsTo_succ {Ls : List (Addr × List MS.Row)} {i : Nat} {t : Addr × List MS.Row} (h : Ls[i]? = some t) : rowsTo Ls (i + 1) = rowsTo Ls i ++ t.2 := by
  unfold rowsTo
  rw [take_snoc h, List.map_append, List.flatten_append]
  simp
theorem rowsTo_len {Ls : List (Addr × List MS.Row)} : ∀ {i : Nat}, (rowsTo Ls i).length ≤ (rowsTo Ls Ls.length).length := by
  intro i
  unfold rowsTo
  rw [List.take_of_length_le (Nat.le_refl _)]
  have e : Ls = Ls.take i ++ Ls.drop i := (List.take_append_drop i Ls).symm
  conv => rhs; rw [e, List.map_append, List.flatten_append, List.length_append]
  omega
theorem rowsTo_mem {Ls : List (Addr × List MS.Row)} {i : Nat} {p : MS.Row} (h : p ∈ rowsTo Ls i) : ∃ t ∈ Ls, p ∈ t.2 := by
  unfold rowsTo at h
  obtain ⟨l, hl, hp⟩ := List.mem_flatten.mp h
  obtain ⟨t, ht, rfl⟩ := List.mem_map.mp hl
  exact ⟨t, List.mem_of_mem_take ht, hp⟩
/-! ### together -/
def allOf (ts : List (Addr × List DK)) : List DK := (ts.map (·.2)).flatten
def spTog (K : PySem.W.Frag) : Sp := fun vs H Q _ => ∃ (l : Addr) (ts : List (Addr × List DK)), vs = [.ref l] ∧ SqL K H l (ts.map fun t => V.ref t.1) ∧ (∀ t ∈ ts, TupOf K H t.1 t.2) ∧ (∀ k ∈ allOf ts, D3 k) ∧ (allOf ts).length < 63 ∧
  ∀ H' r ms, Same H H' → TupOf K H' r ms → Asc ms → (∀ k, k ∈ ms ↔ k ∈ allOf ts) → ms.length < 64 → Q (.ref r) H'
abbrev NTG : List PySem.Str := ["some", "known", "dot"]
theorem tupOf_drop {K : PySem.W.Frag} {H H' : Hp} {b : Addr} {L : List MS.Row} {j : Nat} (s : Same H H') (d : Dots K H L) (h : SqT K H' b ((L.map fun q => V.ref q.1).drop j)) : TupOf K H' b ((L.map (·.2)).drop j) := by
  refine ⟨L.drop j, by rw [List.map_drop]; exact h, fun p hp => same_sqT s (d p (List.mem_of_mem_drop hp)), ?_⟩
  rw [List.map_drop]
/-! ### cut -/
def spCut (K : PySem.W.Frag) : Sp := fun vs H Q _ => ∃ (a : Addr) (m : V) (ks : List DK), vs = [.ref a, m] ∧ TupOf K H a ks ∧ ((m = .non ∧ Q (.ref a) H) ∨ ∃ n : Nat, m = .int (n : Int) ∧ ∀ r H', Same H H' → TupOf K H' r (ks.drop (ks.length - n)) → Q (.ref r) H')
/-! ### next_number -/
def fstI : DK → Int
  | .inl n :: _ => n
  | _ => 0
def IsMax (m : Int) (l : List Int) : Prop := m ∈ l ∧ ∀ y ∈ l, y ≤ m
theorem isMax_one {m n : Int} {l : List Int} (h1 : IsMax m l) (h2 : IsMax n l) : m = n := by
  have a := h1.2 n h2.1
  have b := h2.2 m h1.1
  omega
def spNext (K : PySem.W.Frag) : Sp := fun vs H Q _ => ∃ (n : Int) (a : Addr) (ks : List DK), vs = [.int n, .ref a] ∧ TupOf K H a ks ∧ (∀ k ∈ ks, D3 k) ∧ ks.length ≤ 1000 ∧ ∀ H' m, Same H H' → IsMax m (n :: ks.map fstI) → Q (.int (m + 1)) H'
abbrev NNX : List PySem.Str := ["own", "known", "dot"]
/-- the pool, as the draws leave it -/
def Pool (H : Hp) (p : Addr) : Prop := ∃ x y : Int, H p = some (.lst [.int x, .int y]) ∧ 0 ≤ x ∧ 0 ≤ y ∧ y < 2147483647
theorem Pool.is {H : Hp} {p : Addr} (h : Pool H p) : ∃ ys, H p = some (.lst ys) := by
  obtain ⟨x, y, h, _⟩ := h
  exact ⟨_, h⟩
theorem Pool.same {H H' : Hp} {p : Addr} (s : Same H H') (h : Pool H p) : Pool H' p := by
  obtain ⟨x, y, h, z⟩ := h
  exact ⟨x, y, s _ _ h, z⟩
theorem first_int (ns : List Int) (lo hi : Option Int) : ∃ m : Int, atI (cutV (ns.map V.int) lo hi ++ [V.int 0]) 0 = some (V.int m) := by
  have al : ∀ v ∈ cutV (ns.map V.int) lo hi, ∃ m, v = V.int m := fun v hv => by
    unfold cutV at hv
    obtain ⟨m, _, e⟩ := List.mem_map.mp (List.mem_of_mem_drop (List.mem_of_mem_take hv))
    exact ⟨m, e.symm⟩
  generalize cutV (ns.map V.int) lo hi = l at al
  cases l with
  | nil => exact ⟨0, atI_nat (j := 0) rfl⟩
  | cons v r =>
    obtain ⟨m, rfl⟩ := al v List.mem_cons_self
    exact ⟨m, atI_nat (j := 0) rfl⟩
/-! ### _law_hand -/
def spHand (K : PySem.W.Frag) : Sp := fun vs H Q _ => ∃ (a : Addr) (i : Int) (ns : List Int), vs = [.ref a, .int i] ∧ SqL K H a (ns.map V.int) ∧ ns.length ≤ 63 ∧ 0 ≤ i ∧ i < 100 ∧ ∀ H' p, Same H H' → H p = none → Pool H' p → Q (.ref p) H'
abbrev NHA : List PySem.Str := ["_law_script", "_law_k", "_law_cell", "_law_seed"]
/-! ### _law_draw -/
def spDraw : Sp := fun vs H Q _ => ∃ (p : Addr) (n : Int), vs = [.ref p, .int n] ∧ Pool H p ∧ 1 ≤ n ∧ n ≤ 1000 ∧ ∀ H' r, Ext p H H' → Pool H' p → (∀ b, b ≠ p → H' b = H b) → 0 ≤ r → r < n → Q (.int r) H'
abbrev NDR : List PySem.Str := ["_law_pool", "_law_size", "_law_found"]
theorem atI_ok {α : Type} {xs : List α} {r : Int} (h0 : 0 ≤ r) (h1 : r < (xs.length : Int)) : ∃ v, v ∈ xs ∧ atI xs r = some v := by
  obtain ⟨j, rfl⟩ : ∃ j : Nat, r = (j : Int) := ⟨r.toNat, by omega⟩
  have hj : j < xs.length := by omega
  exact ⟨xs[j], List.getElem_mem hj, atI_nat (List.getElem?_eq_getElem hj)⟩
/-- a dot that can be drawn -/
def Men (k : DK) : Prop := ∃ (n : Int) (c : Nat) (l : Int), k = [.inl n, .inr ⟨#[c]⟩, .inl l] ∧ n ∈ [(1 : Int), 2, 9, 10, 12] ∧ c ∈ [97, 98, 99] ∧ l ∈ [(1 : Int), 2]
theorem Men.d3 {k : DK} (h : Men k) : D3 k := by
  obtain ⟨n, c, l, rfl, _⟩ := h
  exact ⟨_, _, _, rfl⟩
/-! ### _law_dot -/
def spLdot : Sp := fun vs H Q _ => ∃ p : Addr, vs = [.ref p] ∧ Pool H p ∧ ∀ H' a k, Ext p H H' → Pool H' p → H a = none → H' a = some (.tup (k.map kV)) → Men k → Q (.ref a) H'
/-! ### _law_known -/
def spLkn (K : PySem.W.Frag) : Sp := fun vs H Q _ => ∃ p : Addr, vs = [.ref p, .int 6] ∧ Pool H p ∧ ∀ H' a ks, Ext p H H' → Pool H' p → TupOf K H' a ks → Asc ks → ks.length ≤ 6 → (∀ k ∈ ks, Men k) → Q (.ref a) H'
abbrev NKN : List PySem.Str := ["_law_pool", "_law_most", "_law_turn"]
theorem papp {α β : Type} {F : α → β → Prop} : ∀ {l1 l3 : List α} {l2 l4 : List β}, Paired F l1 l2 → Paired F l3 l4 → Paired F (l1 ++ l3) (l2 ++ l4)
  | _, _, _, _, .nil, h => h
  | _, _, _, _, .cons r t, h => .cons r (papp t h)
def smallD (d : PyData) : Prop := ∀ es, look d = some es → es.length < 60
/-! ### _law_odd -/
def spOdd (K : PySem.W.Frag) : Sp := fun vs H Q _ => vs = [] ∧ ∀ H' p xs ds, Same H H' → SqL K H' p xs → Paired (Rd K H') xs ds → (∀ d ∈ ds, smallD d) → Q (.ref p) H'
def oddD : List PyData := [.none, .int 0, .str "", .tuple [], .list [], .dict [], .tuple [.int 1, .str "a"], .tuple [.int 1, .str "a", .int 1, .int 1], .list [.int 1, .str "a", .int 1], .tuple [.int 0, .str "a", .int 1], .tuple [.bool true, .str "a", .int 1], .tuple [.int 1, .str "A", .int 1]] ++ [.tuple [.int 1, .str "", .int 1], .tuple [.int 1, .str "abcdefg", .int 1], .tuple [.int 1, .str "abcdef", .int 1], .tuple [.int 1, .str "a", .int 0], .tuple [.int 1, .str "a", .bool true], .tuple [.int (10 ^ (12 : Int).toNat), .str "z", .int 9]] ++ [.tuple [.int (10 ^ (12 : Int).toNat + 1), .str "a", .int 1], .tuple [.int 1, .none, .int 1], .tuple [.str "1", .str "a", .int 1], .tuple [.int 1, .str "a\n", .int 1], .tuple [.int (-1), .str "a", .int 1], .tuple [.int 1, .str "a", .none]]
theorem odd_small : ∀ d ∈ oddD, smallD d := by
  have z : oddD.all (fun d => decide (((look d).getD []).length < 60)) = true := by decide +kernel
  intro d hd es he
  have y := of_decide_eq_true (List.all_eq_true.mp z d hd)
  rw [he] at y
  exact y
/-! ### repr of a truth -/
def rRepB : List V → Hp → VK → Prop := fun xs H Q => ∃ b : Bool, xs = [.bl b] ∧ Q (.str (if b then "True" else "False" : String)) H
theorem call_repB {X : Cx} : CallR X (.builtin "repr") rRepB := by
  intro pins s σ H xs us Q I r h
  obtain ⟨b, rfl, q⟩ := h
  obtain ⟨u, rfl, rx⟩ := vals1 r
  cases (show u = Value.bool b from rx)
  refine PySem.P.repr_of_bool ⟨.str (if b then "True" else "False" : String), H, I.tok _, ⟨s.toks, by cases b <;> rfl⟩, q⟩
/-! ### a callee with a default -/
structure CaD (P : Program) (w : World) (K : PySem.W.Frag) (mg : PySem.Str → Option Value) (base : Heap) (k : Nat) (x : PySem.Str) (ps : List PySem.Str) (sp : Sp) (ds : List V) : Prop where
  ex : ∃ f fd us, FnOk P w K mg base CX0 k f fd ps sp ∧ mg x = some (.ref f) ∧ PySem.W.keepIn K (.ref f) = true ∧ Binds K fd ps us ∧ Vals ds us
theorem pe_caD {X : Cx} {x : PySem.Str} {ps : List PySem.Str} {sp : Sp} {ds : List V} {k : Nat} {e : Expr} {es : List Expr} {t : TA} {p pos : Pos} (c : CaD X.prog X.w X.K X.mg X.base k x ps sp ds) (hr : Room k X.A) (hg : Gl X x) (hx : Passes CX0 X E0) (ha : PA X (e :: es) t)
    (hdb : (x == ("__debug__" : PySem.Str)) = false := by decide) (he : starEach (e :: es) X.env = (false, eval e X.env) :: starEach es X.env := by rfl) (hpl : (backTo pos (starEach es X.env)).any (·.1) = false := by rfl) : PE X (.Call (.Name x p) (e :: es) [] pos) (tCall sp ds E0 t) := by
  obtain ⟨f, fd, us, F, g, kp, b, v⟩ := c.ex
  exact pe_call F hr hg g kp b v hx ha hdb he hpl
/-! ### drawn dots -/
def okD (d : PyData) : Bool := d.showable && (decide (d.shown.length ≤ 20) && (short d && (dDot d && decide (d.depth ≤ 1))))
theorem menAll : ([(1 : Int), 2, 9, 10, 12].all fun n => [97, 98, 99].all fun c => [(1 : Int), 2].all fun l => okD (dD [.inl n, .inr ⟨#[c]⟩, .inl l])) = true := by decide +kernel
theorem men_ok {k : DK} (h : Men k) : (dD k).showable = true ∧ (dD k).shown.length ≤ 20 ∧ short (dD k) = true ∧ dDot (dD k) = true ∧ (dD k).depth ≤ 1 ∧ keyD (dD k) = k := by
  obtain ⟨n, c, l, rfl, hn, hc, hl⟩ := h
  have z := List.all_eq_true.mp (List.all_eq_true.mp (List.all_eq_true.mp menAll n hn) c hc) l hl
  unfold okD at z
  simp only [Bool.and_eq_true, decide_eq_true_eq] at z
  exact ⟨z.1, z.2.1, z.2.2.1, z.2.2.2.1, z.2.2.2.2, rfl⟩
def AllMen (ks : List DK) : Prop := ∀ k ∈ ks, Men k
theorem men_rd {K : PySem.W.Frag} {H : Hp} : ∀ {L : List MS.Row}, Dots K H L → (∀ q ∈ L, Men q.2) → Paired (Rd K H) (L.map fun q => V.ref q.1) ((L.map (·.2)).map dD)
  | [], _, _ => .nil
  | p :: L, d, m => .cons ⟨(men_ok (m p List.mem_cons_self)).2.2.1, .inl (dp_dot (d p List.mem_cons_self))⟩ (men_rd (fun q hq => d q (List.mem_cons_of_mem _ hq)) fun q hq => m q (List.mem_cons_of_mem _ hq))
theorem men_lk {K : PySem.W.Frag} {H : Hp} {a : Addr} {ks : List DK} (t : TupOf K H a ks) (m : AllMen ks) : Lk K H (.ref a) (some (ks.map dD)) := by
  obtain ⟨L, h1, h2, rfl⟩ := t
  exact .tup h1 (men_rd h2 fun q hq => m _ (List.mem_map_of_mem hq))
theorem men_all {ks : List DK} (m : AllMen ks) : (ks.map dD).all dDot = true := by
  rw [List.all_eq_true]
  intro d hd
  obtain ⟨k, hk, rfl⟩ := List.mem_map.mp hd
  exact (men_ok (m k hk)).2.2.2.1
theorem men_known {ks : List DK} (m : AllMen ks) : knownO (some (ks.map dD)) = ascB ks := by
  rw [known_yes (men_all m), List.map_map]
  have e : ks.map (keyD ∘ dD) = ks := by
    conv => rhs; rw [← List.map_id ks]
    apply List.map_congr_left
    intro k hk
    exact (men_ok (m k hk)).2.2.2.2.2
  rw [e]
/-! ### how long what is shown is -/
theorem textFrom_le : ∀ (ts : List PySem.Str) (k : Nat) (acc : PySem.Str), (textFrom k acc ts).length ≤ acc.length + piled ts
  | [], k, acc => by rw [piled_nil]; exact Nat.le_refl _
  | t :: r, k, acc => by
    have ih := textFrom_le r (k + 1) (acc ++ (if k > 0 then ", " else "" : String) ++ t)
    rw [piled_cons]
    have e : (acc ++ (if k > 0 then ", " else "" : String) ++ t).length = acc.length + (if k > 0 then 2 else 0) + t.length := by
      rw [strLen_append, strLen_append]
      split <;> rfl
    rw [e] at ih
    show (textFrom (k + 1) (acc ++ (if k > 0 then ", " else "" : String) ++ t) r).length ≤ _
    have two : (if k > 0 then 2 else 0) ≤ 2 := by split <;> omega
    omega
theorem listText_le (ts : List PySem.Str) : (listText ts).length ≤ 2 + piled ts := by
  unfold listText
  rw [strLen_append]
  have := textFrom_le ts 0 "["
  have e1 : (("[" : String) : PySem.Str).length = 1 := rfl
  have e2 : (("]" : String) : PySem.Str).length = 1 := rfl
  omega
theorem tupleText_le (ts : List PySem.Str) : (tupleText ts).length ≤ 3 + piled ts := by
  unfold tupleText
  rw [strLen_append, strLen_append]
  have e1 : (("(" : String) : PySem.Str).length = 1 := rfl
  have e2 : (((if ts.length == 1 then ",)" else ")" : String)) : PySem.Str).length ≤ 2 := by split <;> decide
  have e3 : (Str.join ", " ts).length ≤ piled ts := by
    cases ts with
    | nil => exact Nat.zero_le _
    | cons t r =>
      have := join_length_add (t :: r) (by simp)
      omega
  omega
theorem show_all {n : Nat} : ∀ {ds : List PyData}, (∀ d ∈ ds, d.showable = true ∧ d.shown.length ≤ n ∧ d.depth ≤ 5) → PyData.showableAll ds = true ∧ piled (PyData.shownAll ds) ≤ (n + 2) * ds.length ∧ PyData.depthAll ds ≤ 5
  | [], _ => ⟨by rw [PyData.showableAll], by rw [PyData.shownAll, piled_nil]; exact Nat.zero_le _, by rw [PyData.depthAll]; exact Nat.zero_le _⟩
  | d :: ds, h => by
    obtain ⟨h1, h2, h3⟩ := h d List.mem_cons_self
    obtain ⟨c1, c2, c3⟩ := show_all (ds := ds) fun e he => h e (List.mem_cons_of_mem _ he)
    refine ⟨by rw [PyData.showableAll, h1, c1]; rfl, ?_, by rw [PyData.depthAll]; omega⟩
    rw [PyData.shownAll, piled_cons, List.length_cons, Nat.mul_succ]
    omega
theorem show_tup {ks : List DK} (m : AllMen ks) (few : ks.length ≤ 60) : (PyData.tuple (ks.map dD)).showable = true ∧ (PyData.tuple (ks.map dD)).shown.length ≤ 2000 ∧ (PyData.tuple (ks.map dD)).depth ≤ 6 := by
  obtain ⟨c1, c2, c3⟩ := show_all (n := 20) (ds := ks.map dD) fun d hd => by
    obtain ⟨k, hk, rfl⟩ := List.mem_map.mp hd
    obtain ⟨z1, z2, _, _, z3, _⟩ := men_ok (m k hk)
    exact ⟨z1, z2, by omega⟩
  rw [List.length_map] at c2
  refine ⟨by rw [PyData.showable]; exact c1, ?_, by rw [PyData.depth]; omega⟩
  rw [PyData.shown]
  have := tupleText_le (PyData.shownAll (ks.map dD))
  omega
theorem show_tup' {ks : List DK} (m : AllMen ks) (few : ks.length ≤ 60) : (PyData.tuple (ks.map dD)).showable = true ∧ (PyData.tuple (ks.map dD)).shown.length ≤ sizeLine ∧ (PyData.tuple (ks.map dD)).depth ≤ 40 := by
  obtain ⟨a, b, c⟩ := show_tup m few
  exact ⟨a, by rw [sizeLine_eq]; omega, by omega⟩
def tupsD (kss : List (List DK)) : PyData := .list (kss.map fun ks => .tuple (ks.map dD))
theorem dep_tup (ks : List DK) (m : AllMen ks) : (PyData.tuple (ks.map dD)).depth ≤ 2 := by
  have : ∀ (ds : List PyData), (∀ d ∈ ds, d.depth ≤ 1) → PyData.depthAll ds ≤ 1 := by
    intro ds
    induction ds with
    | nil => intro _; rw [PyData.depthAll]; exact Nat.zero_le _
    | cons d ds ih =>
      intro h
      have a := h d List.mem_cons_self
      have b := ih fun e he => h e (List.mem_cons_of_mem _ he)
      rw [PyData.depthAll]
      omega
  have z := this (ks.map dD) fun d hd => by
    obtain ⟨k, hk, rfl⟩ := List.mem_map.mp hd
    exact (men_ok (m k hk)).2.2.2.2.1
  rw [PyData.depth]
  omega
theorem show_tups {kss : List (List DK)} (m : ∀ ks ∈ kss, AllMen ks ∧ ks.length ≤ 6) (few : kss.length ≤ 10) : (tupsD kss).showable = true ∧ (tupsD kss).shown.length ≤ sizeLine ∧ (tupsD kss).depth ≤ 40 := by
  obtain ⟨c1, c2, c3⟩ := show_all (n := 2000) (ds := kss.map fun ks => .tuple (ks.map dD)) fun d hd => by
    obtain ⟨ks, hk, rfl⟩ := List.mem_map.mp hd
    obtain ⟨z1, z2⟩ := m ks hk
    obtain ⟨y1, y2, _⟩ := show_tup z1 (by omega)
    have := dep_tup ks z1
    exact ⟨y1, y2, by omega⟩
  rw [List.length_map] at c2
  unfold tupsD
  refine ⟨by rw [PyData.showable]; exact c1, ?_, by rw [PyData.depth]; omega⟩
  rw [PyData.shown, sizeLine_eq]
  have := listText_le (PyData.shownAll (kss.map fun ks => .tuple (ks.map dD)))
  have : 2002 * kss.length ≤ 20020 := by omega
  omega
theorem show_bools (a b : Bool) : (PyData.list [.bool a, .bool b]).showable = true ∧ (PyData.list [.bool a, .bool b]).shown.length ≤ sizeLine ∧ (PyData.list [.bool a, .bool b]).depth ≤ 40 := by
  have z : ∀ a b : Bool, ((PyData.list [.bool a, .bool b]).showable && (decide ((PyData.list [.bool a, .bool b]).shown.length ≤ 100) && decide ((PyData.list [.bool a, .bool b]).depth ≤ 40))) = true := by decide +kernel
  have y := z a b
  simp only [Bool.and_eq_true, decide_eq_true_eq] at y
  exact ⟨y.1, by rw [sizeLine_eq]; omega, y.2.2⟩
/-! ### order, further -/
theorem asc_last {ks : List DK} (h : Asc ks) : ascB (ks ++ ks.drop (ks.length - 1)) = ks.isEmpty := by
  cases ks with
  | nil => rfl
  | cons k r =>
    show _ = false
    cases z : ascB ((k :: r) ++ (k :: r).drop ((k :: r).length - 1)) with
    | false => rfl
    | true =>
      have nd := asc_nodup (ascB_iff.mp z)
      have hl : (k :: r).length - 1 < (k :: r).length := by rw [List.length_cons]; omega
      have e : (k :: r).drop ((k :: r).length - 1) = [(k :: r)[(k :: r).length - 1]] := by
        rw [List.drop_eq_getElem_cons hl, List.drop_of_length_le (by omega)]
      rw [e] at nd
      exact absurd rfl ((List.nodup_append.mp nd).2.2 _ (List.getElem_mem hl) _ List.mem_cons_self)
theorem asc_rev {ks : List DK} (h : Asc ks) (l : 1 < ks.length) : ascB ks.reverse = false := by
  cases z : ascB ks.reverse with
  | false => rfl
  | true =>
    have y := ascB_iff.mp z
    unfold Asc at y
    rw [List.pairwise_reverse] at y
    match ks, l, h, y with
    | a :: b :: r, _, .cons p1 _, .cons p2 _ =>
      have c := dlt_tr (p1 b List.mem_cons_self) (p2 b List.mem_cons_self)
      rw [dlt_irr] at c
      cases c
/-! ### tuples of dots, further -/
theorem shaped_tup {ds : List PyData} (h : ds.all dDot = true) : SeqAt.shaped (.tuple ds) = true := by
  obtain ⟨c1, c2⟩ := lay_dots h
  unfold SeqAt.shaped
  rw [PyData.canLay0, c1, PyData.depth, Bool.true_and]
  exact decide_eq_true (by omega)
theorem eqv_nil (ks : List DK) : PyData.eqv (.tuple (ks.map dD)) (.tuple []) = ks.isEmpty := by
  cases ks with
  | nil => simp [PyData.eqv, PyData.eqvAll]
  | cons k r => simp [PyData.eqv, PyData.eqvAll]
theorem cat_tups {K : PySem.W.Frag} {H : Hp} {a b : Addr} {ks ms : List DK} {Q : VK} (ha : TupOf K H a ks) (hb : TupOf K H b ms) (l : ks.length + ms.length ≤ 1000) (q : ∀ r H', Same H H' → TupOf K H' r (ks ++ ms) → Q (.ref r) H') : rCatA K (.ref a) (.ref b) H Q := by
  have ha' := ha
  have hb' := hb
  obtain ⟨L, h1, h2, rfl⟩ := ha
  obtain ⟨M, g1, g2, rfl⟩ := hb
  refine ⟨a, b, _, _, rfl, rfl, h1, g1, ?_, fun z => ?_, fun _ z => ?_, fun _ _ p np => ?_⟩
  · rw [List.length_map, List.length_map] at l ⊢
    rw [sizeLine_eq]
    omega
  · have e : L = [] := List.map_eq_nil_iff.mp z
    subst e
    exact q b H (Same.refl _) hb'
  · have e : M = [] := List.map_eq_nil_iff.mp z
    subst e
    refine q a H (Same.refl _) ?_
    rw [List.map_nil, List.append_nil]
    exact ha'
  · obtain ⟨s, e⟩ := newo (o := .tup ((L.map fun q => V.ref q.1) ++ M.map fun q => V.ref q.1)) np
    refine q p _ s ⟨L ++ M, .inl (.inl (by rw [e, List.map_append])), fun t ht => ?_, by rw [List.map_append]⟩
    rcases List.mem_append.mp ht with ht | ht
    · exact same_sqT s (h2 t ht)
    · exact same_sqT s (g2 t ht)
theorem rev_tup {K : PySem.W.Frag} {H : Hp} {a : Addr} {ks : List DK} {Q : VK} (ha : TupOf K H a ks) (q : ∀ r H', Same H H' → TupOf K H' r ks.reverse → Q (.ref r) H') : ∃ b xs, V.ref a = .ref b ∧ SqT K H b xs ∧ ∀ p, H p = none → Q (.ref p) (upd H p (.tup xs.reverse)) := by
  obtain ⟨L, h1, h2, rfl⟩ := ha
  refine ⟨a, _, rfl, h1, fun p np => ?_⟩
  obtain ⟨s, e⟩ := newo (o := .tup (L.map fun q => V.ref q.1).reverse) np
  refine q p _ s ⟨L.reverse, .inl (.inl (by rw [e, List.map_reverse])), fun t ht => same_sqT s (h2 t (List.mem_reverse.mp ht)), by rw [List.map_reverse]⟩
theorem cut_tup {K : PySem.W.Frag} {H : Hp} {a : Addr} {ks : List DK} {Q : VK} {lo : Int} {j : Nat} (hj : HT.sIx ks.length 0 (some lo) = j) (ha : TupOf K H a ks) (q : ∀ r H', Same H H' → TupOf K H' r (ks.drop j) → Q (.ref r) H') : rSlA K (.ref a) (some lo) none H Q := by
  obtain ⟨L, h1, h2, rfl⟩ := ha
  rw [List.length_map] at hj
  exact sl_from (by rw [List.length_map]; exact hj) h1 fun b H' s hb => q b H' s (tupOf_drop s h2 hb)
theorem same_ext {p : Addr} {H Ha Hb : Hp} (s : Same H Ha) (e : Ext p Ha Hb) (n : H p = none) : Same H Hb := fun b o h => e b o (fun z => by rw [z, n] at h; cases h) (s b o h)
theorem TupOf.sq {K : PySem.W.Frag} {H : Hp} {a : Addr} {ks : List DK} (h : TupOf K H a ks) : ∃ xs, SqT K H a xs ∧ xs.length = ks.length := by
  obtain ⟨L, h1, _, rfl⟩ := h
  exact ⟨_, h1, by rw [List.length_map, List.length_map]⟩
theorem dp_tups {K : PySem.W.Frag} {H : Hp} : ∀ {ts : List (Addr × List DK)}, (∀ t ∈ ts, TupOf K H t.1 t.2) → DpAll K H (ts.map fun t => V.ref t.1) ((ts.map fun t => t.2).map fun ks => .tuple (ks.map dD))
  | [], _ => .nil
  | t :: ts, h => .cons (h t List.mem_cons_self).dp (dp_tups fun u hu => h u (List.mem_cons_of_mem _ hu))
theorem allOf_len : ∀ {ts : List (Addr × List DK)}, (∀ t ∈ ts, t.2.length ≤ 6) → (allOf ts).length ≤ 6 * ts.length
  | [], _ => Nat.zero_le _
  | t :: ts, h => by
    have a := h t List.mem_cons_self
    have b := allOf_len (ts := ts) fun u hu => h u (List.mem_cons_of_mem _ hu)
    show (t.2 ++ allOf ts).length ≤ _
    rw [List.length_append, List.length_cons]
    omega
theorem allOf_take {ts : List (Addr × List DK)} {j : Nat} {t : Addr × List DK} (h : ts[j]? = some t) : allOf (ts.take (j + 1)) = allOf (ts.take j) ++ t.2 := by
  unfold allOf
  rw [take_snoc h, List.map_append, List.flatten_append]
  simp
theorem allOf_mem {ts : List (Addr × List DK)} {k : DK} : k ∈ allOf ts ↔ ∃ t ∈ ts, k ∈ t.2 := by
  unfold allOf
  simp only [List.mem_flatten, List.mem_map]
  constructor
  · rintro ⟨_, ⟨t, ht, rfl⟩, hk⟩
    exact ⟨t, ht, hk⟩
  · rintro ⟨t, ht, hk⟩
    exact ⟨_, ⟨t, ht, rfl⟩, hk⟩
theorem ext_upd {p D : Addr} {G H : Hp} {o : HO} (n : G D = none) (e : Ext p G H) : Ext p G (upd H D o) := fun b u nb hb => by
  have z : b ≠ D := fun z => by
    rw [z, n] at hb
    cases hb
  rw [upd_ne z]
  exact e _ _ nb hb
theorem pool_upd {p D : Addr} {H : Hp} {o : HO} (ne : D ≠ p) (h : Pool H p) : Pool (upd H D o) p := by
  obtain ⟨u, v, hu, r⟩ := h
  exact ⟨u, v, by rw [upd_ne (Ne.symm ne)]; exact hu, r⟩
theorem neg_one_ix (n : Nat) : HT.sIx n 0 (some (-1)) = n - 1 := by
  show (if (-1 : Int) < 0 then ((-1 : Int) + (n : Int)).toNat else min (-1 : Int).toNat n) = n - 1
  rw [if_pos (by decide)]
  omega
theorem pos_ix {n i : Nat} (h : (0 : Int) < (n : Int) - (0 + (i : Int))) : HT.sIx n 0 (some ((n : Int) - (0 + (i : Int)))) = n - i := by
  show (if ((n : Int) - (0 + (i : Int))) < 0 then ((n : Int) - (0 + (i : Int)) + (n : Int)).toNat else min ((n : Int) - (0 + (i : Int))).toNat n) = n - i
  rw [if_neg (by omega)]
  omega
theorem drop_all {α : Type} {l : List α} {i : Nat} (h : ¬ (0 : Int) < (l.length : Int) - (0 + (i : Int))) : l.drop (l.length - i) = l := by
  rw [show l.length - i = 0 by omega]
  rfl
theorem call_repDK {X : Cx} {K : PySem.W.Frag} {k : Nat} (hK : X.K = K) (hr : Room k X.A) (hG : X.A.guards = some []) : CallR X (.builtin "repr") (rRepD K) := by
  subst hK
  exact call_repD hr hG
theorem sl_tupAK {X : Cx} {K : PySem.W.Frag} (hK : X.K = K) : SlR X (rSlA K) := by
  subst hK
  exact sl_tupA
theorem op_catAK {X : Cx} {K : PySem.W.Frag} (hK : X.K = K) : OpR X (binaryOp .Add) (rCatA K) := by
  subst hK
  exact op_catA
theorem op_eqDK {X : Cx} {K : PySem.W.Frag} (hK : X.K = K) (hu : X.A.units + 64 < cLine) : OpR X (compareOp .Eq) (rEqD K) := by
  subst hK
  exact op_eqD hu
theorem pe_revTK {X : Cx} {K : PySem.W.Frag} {e : Expr} {te : TE} {k : Nat} {p1 p2 p3 pos : Pos} (hK : X.K = K) (he : PE X e te) : PE X (.Subscript e (.Slice none none (some (.UnaryOp .USub (.Constant (.int 1) k p1) p2)) p3) pos) (tRevT K te) := by
  subst hK
  exact pe_revT he
abbrev NL : List PySem.Str := ["_law_script", "_law_thing", "_law_one", "_law_k", "_law_pool", "_law_some", "_law_turn", "_law_kept", "_law_due", "_law_size", "_law_left", "_law_own"]
def spLaw (K : PySem.W.Frag) : Sp := fun vs H Q _ => ∃ (a : Addr) (ns : List Int), vs = [.ref a] ∧ SqL K H a (ns.map V.int) ∧ ns.length ≤ 63 ∧ ∀ H', Q (.bl true) H'
def HF (K : PySem.W.Frag) (x : PySem.Str) (st : Stmt) : Prop := ∃ f fd, PySem.W.nsIn K mainGlobals x = some (some (.ref f)) ∧ Fun K x x st f fd
end K01

set_option Elab.async false
set_option linter.all false
set_option maxRecDepth 100000
set_option maxHeartbeats 4000000
namespace VS
open PySem PySem.Spec PyProof.Rows L2 MS K01
/-! ### sorted() of tuples whose first items are unlike dots -/
abbrev VRow := Addr × DK
section
variable {P : Program} {w : World} {A : Around} {E : Value → Shared → Prop} {s : Shared}
def VerAt (P : Program) (w : World) (h : Heap) (z : VRow) : Prop := ∃ (o : Obj) (its : Array Value) (n : Nat) (d : Addr), h.get? z.1 = some o ∧ o.cls = .type "tuple" ∧ o.data = .seq its n ∧ its[0]? = some (.ref d) ∧ MT P w h z.2 d
theorem mt_one {h : Heap} {k l : DK} {d : Addr} (a : MT P w h k d) (b : MT P w h l d) (dk : D3 k) (dl : D3 l) : k = l := by
  obtain ⟨o, its, n, g, c, dt, it⟩ := a
  obtain ⟨o', its', n', g', c', dt', it'⟩ := b
  rw [g] at g'
  obtain rfl := Option.some.inj g'
  rw [dt] at dt'
  have e : its = its' := by injection dt'
  subst e
  obtain ⟨n1, t1, x1, u1, l1, y1, e1, rfl⟩ := d3_items it dk
  obtain ⟨n2, t2, x2, u2, l2, y2, e2, rfl⟩ := d3_items it' dl
  rw [e1] at e2
  simp only [List.cons.injEq, Value.int.injEq, Value.str.injEq, and_true] at e2
  rw [e2.1.1, e2.2.1.1, e2.2.2.1]
theorem ver_one {h : Heap} {z y : VRow} (a : VerAt P w h z) (b : VerAt P w h y) (e : z.1 = y.1) (dz : D3 z.2) (dy : D3 y.2) : z.2 = y.2 := by
  obtain ⟨o, its, n, d, g, c, dt, f, m⟩ := a
  obtain ⟨o', its', n', d', g', c', dt', f', m'⟩ := b
  rw [e, g'] at g
  obtain rfl := Option.some.inj g
  rw [dt] at dt'
  have e2 : its = its' := by injection dt'
  subst e2
  rw [f] at f'
  have e3 : d = d' := by
    have := Option.some.inj f'
    injection this
  subst e3
  exact mt_one m m' dz dy
theorem rc_lt {k l : DK} {a b : Addr} (ha : MT P w s.heap k a) (hb : MT P w s.heap l b) (dk : D3 k) (dl : D3 l) (hu : A.units < cLine) : Ob.RcOp .Lt A s (.ref a) (.ref b) (dlt k l) := by
  obtain ⟨o, its, n, g, c, dt, it⟩ := ha
  obtain ⟨o', its', n', g', c', dt', it'⟩ := hb
  obtain ⟨i1, t1, x1, u1, j1, y1, e1, rfl⟩ := d3_items it dk
  obtain ⟨i2, t2, x2, u2, j2, y2, e2, rfl⟩ := d3_items it' dl
  have f1 : its = #[Value.int i1 t1, Value.str x1 u1, Value.int j1 y1] := Array.ext' e1
  have f2 : its' = #[Value.int i2 t2, Value.str x2 u2, Value.int j2 y2] := Array.ext' e2
  subst f1 f2
  have R := Ob.RcOp.tuples_lt (A := A) (s := s) (e := fun c => if c = 0 then i1 == i2 else if c = 1 then x1 == x2 else j1 == j2) (r := fun c => if c = 0 then decide (i1 < i2) else if c = 1 then decide (x1.cps.toList < x2.cps.toList) else decide (j1 < j2)) ⟨o, g, c, n, dt⟩ ⟨o', g', c', n', dt'⟩ hu (fun c h1 h2 => by
    match c, h1, h2 with
    | 0, _, _ => exact SeqAt.EqAt.int_int _ _ _ _
    | 1, _, _ => exact SeqAt.EqAt.str_str _ _ _ _
    | 2, _, _ => exact SeqAt.EqAt.int_int _ _ _ _
    | c + 3, h1, _ => simp at h1; omega) (fun c h1 h2 _ => by
    match c, h1, h2 with
    | 0, _, _ => exact Ob.RcOp.lt_int _ _ _ _
    | 1, _, _ => exact fun prog w E Q z => PyProof.Rows.lt_str z
    | 2, _, _ => exact Ob.RcOp.lt_int _ _ _ _
    | c + 3, h1, _ => simp at h1; omega)
  have e : Ob.lexAt (fun c => if c = 0 then i1 == i2 else if c = 1 then x1 == x2 else j1 == j2) (fun c => if c = 0 then decide (i1 < i2) else if c = 1 then decide (x1.cps.toList < x2.cps.toList) else decide (j1 < j2)) false 0 3 = dlt [.inl i1, .inr x1, .inl j1] [.inl i2, .inr x2, .inl j2] := by
    rw [dlt3, Ob.lexAt_succ, Ob.lexAt_succ, Ob.lexAt_succ, Ob.lexAt_zero]
    simp only [beq_iff_eq, if_true, show (0 + 1 : Nat) ≠ 0 by decide, show (0 + 1 + 1 : Nat) ≠ 0 by decide, show (0 + 1 + 1 : Nat) ≠ 1 by decide, if_false, Nat.zero_add]
    by_cases h1 : i1 = i2
    · simp only [h1, if_true]
      by_cases h2 : x1 = x2
      · simp only [h2, if_true]
        by_cases h3 : j1 = j2
        · simp [h3]
        · simp [h3]
      · simp [h2]
    · simp [h1]
  rw [← e]
  exact R
noncomputable def verKind (ws : List VRow) : KeyKind where
  toKeyOrd := listOrd itemOrd
  keyOf := fun v => match v with
    | .ref a => (ws.find? fun z => z.1 == a).map fun z => MS.code z.2
    | _ => none
  dflt := []
theorem key_of {ws : List VRow} {v : Value} {k : List (Int ⊕ List Nat)} (h : (verKind ws).keyOf v = some k) : ∃ z ∈ ws, v = .ref z.1 ∧ k = MS.code z.2 := by
  cases v with
  | ref a =>
    have h : (ws.find? fun z => z.1 == a).map (fun z => MS.code z.2) = some k := h
    obtain ⟨z, hz, e⟩ := Option.map_eq_some_iff.mp h
    have y := List.find?_some hz
    exact ⟨z, List.mem_of_find?_eq_some hz, by rw [eq_of_beq y], e.symm⟩
  | _ => exact absurd (show (none : Option (List (Int ⊕ List Nat))) = some k from h) (by simp)
theorem key_in {ws : List VRow} {z : VRow} (hz : z ∈ ws) (one : ∀ y ∈ ws, y.1 = z.1 → y.2 = z.2) : (verKind ws).keyOf (.ref z.1) = some (MS.code z.2) := by
  show (ws.find? fun y => y.1 == z.1).map (fun y => MS.code y.2) = _
  cases h : ws.find? fun y => y.1 == z.1 with
  | none =>
    have := List.find?_eq_none.mp h z hz
    simp at this
  | some y =>
    have e := List.find?_some h
    rw [Option.map_some, one y (List.mem_of_find?_eq_some h) (eq_of_beq e)]
theorem lex_same {b fin : Bool} {Q : Bool → Shared → Prop} : ∀ (ps : List Value) (i : Nat), Q fin s → PySem.W.KatLex P w A b fin Q (ps.zip ps) i s
  | [], i, h => PySem.W.kat_nil h
  | p :: ps, i, h => PySem.W.kat_cons (SeqAt.EqAt.same p P w _ _ (PySem.W.kat_yes (lex_same ps (i + 1) h)))
theorem ver_sorts {ws : List VRow} (hv : ∀ z ∈ ws, VerAt P w s.heap z) (dd : ∀ z ∈ ws, D3 z.2) (nd : (ws.map fun z => z.2).Nodup) (hu : A.units < cLine) : PySem.W.SortsAt P w A s (verKind ws) (ws.map fun z => Value.ref z.1) := by
  have one : ∀ z ∈ ws, ∀ y ∈ ws, y.1 = z.1 → y.2 = z.2 := fun z hz y hy e => ver_one (hv y hy) (hv z hz) e (dd y hy) (dd z hz)
  refine ⟨fun v hm => ?_, PyProof.Rows.tuples' false, ?_, fun h2 E Q hq => ?_⟩
  · obtain ⟨z, hz, rfl⟩ := List.mem_map.mp hm
    exact ⟨_, key_in hz (one z hz)⟩
  · intro E x y ka kb Q ha hb hq
    obtain ⟨z, hz, rfl, rfl⟩ := key_of ha
    obtain ⟨y, hy, rfl, rfl⟩ := key_of hb
    have hq : Q (dlt z.2 y.2) s := hq
    by_cases e : z.2 = y.2
    · have ez : z.1 = y.1 := by
        obtain ⟨i, hi, ei⟩ := List.getElem_of_mem hz
        obtain ⟨j, hj, ej⟩ := List.getElem_of_mem hy
        have q1 : (ws.map fun z => z.2)[i]'(by rw [List.length_map]; exact hi) = (ws.map fun z => z.2)[j]'(by rw [List.length_map]; exact hj) := by
          rw [List.getElem_map, List.getElem_map, ei, ej, e]
        have q2 : i = j := (List.getElem_inj nd).mp q1
        subst q2
        rw [← ei, ← ej]
      rw [e, dlt_irr] at hq
      obtain ⟨o, its, n, d, g, c, dt, f, m⟩ := hv y hy
      rw [ez]
      refine PySem.W.kat_lt g dt g dt ?_
      rw [show decide (its.size < its.size) = false from decide_eq_false (Nat.lt_irrefl _)]
      exact lex_same _ 0 hq
    · obtain ⟨o, its, n, d, g, c, dt, f, m⟩ := hv z hz
      obtain ⟨o', its', n', d', g', c', dt', f', m'⟩ := hv y hy
      refine PySem.W.kat_lt g dt g' dt' ?_
      obtain ⟨r, er⟩ : ∃ r, its.toList = Value.ref d :: r := by
        rw [← Array.getElem?_toList] at f
        cases h : its.toList with
        | nil => rw [h] at f; simp at f
        | cons p r => rw [h] at f; exact ⟨r, by rw [show p = Value.ref d from Option.some.inj f]⟩
      obtain ⟨r', er'⟩ : ∃ r, its'.toList = Value.ref d' :: r := by
        rw [← Array.getElem?_toList] at f'
        cases h : its'.toList with
        | nil => rw [h] at f'; simp at f'
        | cons p r => rw [h] at f'; exact ⟨r, by rw [show p = Value.ref d' from Option.some.inj f']⟩
      rw [er, er', List.zip_cons_cons]
      refine PySem.W.kat_cons (wpAny_eqBool_tuple hu m m' ?_)
      rw [decide_eq_false e]
      refine PySem.W.kat_no ?_
      refine PySem.W.kat_one _ _ (rc_lt m m' (dd z hz) (dd y hy) hu P w _ _ ?_)
      exact hq
  · obtain ⟨fs, hf, lf, tf⟩ : ∃ fs, PySem.W.KatTups s.heap (ws.map fun z => Value.ref z.1) fs ∧ fs.length = ws.length ∧ ∀ v ∈ fs, ∃ a, v = .ref a ∧ ∃ o, s.heap.get? a = some o ∧ o.cls = .type "tuple" := by
      clear nd one hq h2
      induction ws with
      | nil => exact ⟨[], PySem.W.KatTups.nil, rfl, fun _ z => nomatch z⟩
      | cons z ws ih =>
        obtain ⟨fs, h1, h2, h3⟩ := ih (fun y hy => hv y (List.mem_cons_of_mem _ hy)) fun y hy => dd y (List.mem_cons_of_mem _ hy)
        obtain ⟨o, its, n, d, g, c, dt, f, m⟩ := hv z List.mem_cons_self
        refine ⟨.ref d :: fs, PySem.W.KatTups.cons g c dt f h1, by rw [List.length_cons, List.length_cons, h2], fun v hm => ?_⟩
        rcases List.mem_cons.mp hm with rfl | hm
        · obtain ⟨o2, its2, n2, g2, c2, _⟩ := m
          exact ⟨d, rfl, o2, g2, c2⟩
        · exact h3 v hm
    rw [List.length_map] at h2
    refine PySem.W.kat_kind (T := .type "tuple") hf (by omega) (fun v hm => ?_) rfl hq
    obtain ⟨a, rfl, o, g, c⟩ := tf v hm
    rw [← c]
    exact (PySem.W.Looks.ld g).andThen .now
end
end VS

set_option Elab.async false
set_option linter.all false
set_option maxRecDepth 100000
set_option maxHeartbeats 4000000
namespace VS
open PySem PySem.Spec PyProof.Rows L2 MS K01
section
variable {X : Cx}
/-- in the layer: a tuple whose first item is the dot -/
def VerH (K : PySem.W.Frag) (H : Hp) (z : VRow) : Prop := ∃ (d : Addr) (rest : List V), SqT K H z.1 (.ref d :: rest) ∧ SqT K H d (z.2.map kV)
def rSortV (K : PySem.W.Frag) : List V → Hp → VK → Prop := fun vs H Q => ∃ (l : Addr) (ws : List VRow), vs = [V.ref l] ∧ SqL K H l (ws.map fun z => V.ref z.1) ∧ (∀ z ∈ ws, VerH K H z) ∧ (∀ z ∈ ws, D3 z.2) ∧ (ws.map fun z => z.2).Nodup ∧ ws.length ≤ 1000 ∧
  ∀ (ws' : List VRow) (p : Addr), ws'.Perm ws → Asc (ws'.map fun z => z.2) → H p = none → Q (.ref p) (upd H p (.lst (ws'.map fun z => V.ref z.1)))
theorem vrefs : ∀ {ws : List VRow} {us : List Value}, Vals (ws.map fun z => V.ref z.1) us → us = ws.map fun z => Value.ref z.1
  | [], _, .nil => rfl
  | z :: ws, _, .cons r t => by
    cases r
    rw [vrefs t]
    rfl
theorem vrefs' : ∀ (ws : List VRow), Vals (ws.map fun z => V.ref z.1) (ws.map fun z => Value.ref z.1)
  | [] => .nil
  | z :: ws => .cons rfl (vrefs' ws)
theorem each_refs : ∀ (ws : List VRow), PySem.W.EachIs (fun v (z : VRow) => v = Value.ref z.1) (ws.map fun z => Value.ref z.1) ws
  | [] => .nil
  | z :: ws => .cons rfl (each_refs ws)
theorem of_each : ∀ {vs : List Value} {ws : List VRow}, PySem.W.EachIs (fun v (z : VRow) => v = Value.ref z.1) vs ws → vs = ws.map fun z => Value.ref z.1
  | _, _, .nil => rfl
  | _, _, .cons h t => by rw [h, of_each t]; rfl
theorem each_keys {κ : KeyKind} {k : VRow → κ.α} : ∀ {ws : List VRow}, (∀ z ∈ ws, κ.keyOf (.ref z.1) = some (k z)) → PySem.W.EachIs (fun v (z : VRow) => κ.keyOf v = some (k z)) (ws.map fun z => Value.ref z.1) ws
  | [], _ => .nil
  | z :: ws, h => .cons (h z List.mem_cons_self) (each_keys fun y hy => h y (List.mem_cons_of_mem _ hy))
theorem cr_sortV {k : Nat} (hr : Room k X.A) : CallR X (.builtin "sorted") (rSortV X.K) := by
  intro pins s σ H vs us Q I r h
  obtain ⟨l, ws, rfl, hl, hv, dd, nd, few, q⟩ := h
  rw [Vals.ref1 r]
  obtain ⟨its, rv, pl, hz⟩ := I.list hl
  have ei := vrefs rv
  subst ei
  have big : (ws.map fun z => Value.ref z.1).length ≤ sizeLine := by rw [List.length_map, sizeLine_eq]; omega
  have va : ∀ z ∈ ws, VerAt X.prog X.w s.heap z := fun z hz => by
    obtain ⟨d, rest, h1, h2⟩ := hv z hz
    obtain ⟨us, r1, ⟨o, ho, hc, n, hd⟩, _⟩ := I.tuple h1
    cases r1 with
    | cons r1 r2 =>
      cases r1
      refine ⟨o, _, n, d, ho, hc, hd, by simp, dots_mt I (ps := [(d, z.2)]) (fun p hp => by rw [List.mem_singleton.mp hp]; exact h2) (d, z.2) List.mem_cons_self⟩
  have un := hr.un
  have S := ver_sorts (P := X.prog) (w := X.w) (A := X.A.in1.in1) (s := { s with heap := PySem.W.sortingHeap (PySem.W.copyHeap s.heap (ws.map fun z => Value.ref z.1)) (s.heap.objs.size + 1) (ws.map fun z => Value.ref z.1) }) (ws := ws) (fun z hz => by
    obtain ⟨o, its, n, d, g, c, dt, f, o2, its2, n2, g2, c2, dt2, it2⟩ := va z hz
    exact ⟨o, its, n, d, PySem.W.sorting_copy_old g, c, dt, f, o2, its2, n2, PySem.W.sorting_copy_old g2, c2, dt2, it2⟩) dd nd (by show X.A.units + 1 + 1 < cLine; omega)
  refine PySem.W.sorted_vals pl.isList S big ?_
  have one : ∀ z ∈ ws, ∀ y ∈ ws, y.1 = z.1 → y.2 = z.2 := fun z hz y hy e => ver_one (va y hy) (va z hz) e (dd y hy) (dd z hz)
  have e := of_each (PySem.W.sortVals_each (κ := verKind ws) (rev := false) (R := fun v (z : VRow) => v = Value.ref z.1) (fun z : VRow => MS.code z.2) (each_refs ws) (each_keys fun z hz => key_in hz (one z hz)))
  rw [e]
  generalize hw : ws.mergeSort (PySem.W.sortLe (verKind ws).toKeyOrd false fun z : VRow => MS.code z.2) = ws'
  have pm : ws'.Perm ws := by rw [← hw]; exact List.mergeSort_perm _ _
  have pw : ws'.Pairwise fun x y => dlt y.2 x.2 = false := by
    rw [← hw]
    refine List.Pairwise.imp (fun {x y} z => ?_) (PySem.W.sort_pairwise (PySem.W.sortLe_total (verKind ws).toKeyOrd false fun z : VRow => MS.code z.2) ws)
    have z' : (!dlt y.2 x.2) = true := z
    cases hc : dlt y.2 x.2 with
    | false => rfl
    | true => rw [hc] at z'; cases z'
  have asc : Asc (ws'.map fun z => z.2) := asc_of pw ((pm.map fun z => z.2).nodup_iff.mpr nd)
  obtain ⟨ep, he⟩ := PyProof.Rows.sortedAll_at s.heap (ws.map fun z => Value.ref z.1) (ws'.map fun z => Value.ref z.1).toArray
  have len : (ws'.map fun z => V.ref z.1).length ≤ sizeLine := by rw [List.length_map, pm.length_eq, sizeLine_eq]; omega
  exact ⟨.ref _, upd H (s.heap.objs.size + 1) (.lst (ws'.map fun z => V.ref z.1)), I.laid (t' := s.toks) (fun _ _ => PyProof.Rows.sortedAll_old) (Nat.le_succ _) ⟨len, _, ep, vrefs' ws', he⟩, rfl, q ws' _ pm asc (I.hok.fresh (Nat.le_succ _))⟩
end
end VS

set_option Elab.async false
set_option linter.all false
set_option maxRecDepth 100000
set_option maxHeartbeats 4000000
namespace VS
open PySem PySem.Spec PyProof.Rows L2 MS K01
section
variable {X : Cx}
/-! ### x in t, x not in t: data in a tuple -/
def rInDT (K : PySem.W.Frag) (neg : Bool) : R2 := fun x y H Q => ∃ d ds, Dp K H x d ∧ Dp K H y (.tuple ds) ∧ SeqAt.shaped d = true ∧ SeqAt.shaped (.tuple ds) = true ∧ Q (.bl (if neg = true then !ds.any fun z => PyData.eqv z d else ds.any fun z => PyData.eqv z d)) H
theorem op_inDT {K : PySem.W.Frag} (hK : X.K = K) (hu : X.A.units + 65 < cLine) : OpR X (compareOp .In) (rInDT K false) := by
  subst hK
  intro pins s σ H x y v u Q I rx ry h
  obtain ⟨d, ds, hd, he, sd, se, q⟩ := h
  obtain ⟨as, r1⟩ := Dp.reads I d x v hd rx
  obtain ⟨bs, r2⟩ := Dp.reads I (.tuple ds) y u he ry
  exact SeqAt.in_tuple_reads r2 r1 (SeqAt.canLay_of_shaped se) (SeqAt.canLay_of_shaped sd) (room_in_shaped sd hu) ⟨.bl _, H, I, rfl, q⟩
theorem op_notInDT {K : PySem.W.Frag} (hK : X.K = K) (hu : X.A.units + 65 < cLine) : OpR X (compareOp .NotIn) (rInDT K true) := by
  subst hK
  intro pins s σ H x y v u Q I rx ry h
  obtain ⟨d, ds, hd, he, sd, se, q⟩ := h
  obtain ⟨as, r1⟩ := Dp.reads I d x v hd rx
  obtain ⟨bs, r2⟩ := Dp.reads I (.tuple ds) y u he ry
  exact SeqAt.notIn_tuple_reads r2 r1 (SeqAt.canLay_of_shaped se) (SeqAt.canLay_of_shaped sd) (room_in_shaped sd hu) ⟨.bl _, H, I, rfl, q⟩
end
theorem eqv_dD {k l : DK} (hk : D3 k) (hl : D3 l) : PyData.eqv (dD k) (dD l) = decide (k = l) := by
  obtain ⟨n, x, i, rfl⟩ := hk
  obtain ⟨m, y, j, rfl⟩ := hl
  exact eqv_dot
theorem any_dD {k : DK} (hk : D3 k) {ks : List DK} (h : ∀ l ∈ ks, D3 l) : (ks.map dD).any (fun z => PyData.eqv z (dD k)) = true ↔ k ∈ ks := by
  rw [List.any_map, List.any_eq_true]
  constructor
  · rintro ⟨l, hl, e⟩
    have e : PyData.eqv (dD l) (dD k) = true := e
    rw [eqv_dD (h l hl) hk] at e
    rw [← of_decide_eq_true e]
    exact hl
  · intro hm
    refine ⟨k, hm, ?_⟩
    show PyData.eqv (dD k) (dD k) = true
    rw [eqv_dD hk hk]
    exact decide_eq_true rfl
/-! ### {kx: vx for x0 in y0 for x1 in y1}, keys dots -/
section
variable {X : Cx}
theorem set_t {pins : List (Addr × Obj)} {σ : L2.St} {H : Hp} {s : Shared} {E : Value → Shared → Prop} {D b : Addr} {kvs : List (List Key × V)} {k : List Key} {v : V} {r : Value} {Q : Unit → Shared → Prop} (hu : X.A.units < cLine) (I : Inv X pins σ H s) (hD : H D = some (.dT kvs)) (hz : kvs.length < sizeLine)
    (eb : H b = some (.tup (k.map kV))) (rv : RelV v r) (h : ∀ s', Inv X pins σ (upd H D (.dT (putK kvs k v))) s' → Q () s') : wpAny (model X.prog X.w) X.A (dictSet D (.ref b) r) Q E s := by
  obtain ⟨z, hd, xs, rel, dd⟩ := dt_of I.hok hD
  have hx : xs.length ≤ sizeLine := by rw [← Paired.length rel]; exact z
  have hl : (putK kvs k v).length ≤ sizeLine := by have := length_putK kvs k v; omega
  refine wpAny_dictSet_heap (hsz := hx) hu (L2.key_of I.hok eb) dd fun h' dd' hs => h _ ?_
  obtain ⟨q, es, ep, hq, h2, h3, h4, _, h5⟩ := dd'
  refine d_write I (by rw [hD]; exact True.intro) hs ⟨q, hq⟩ ⟨hl, hd, _, (rel.put k eb rv).keeps fun c ys ec => ?_, q, es, ep, hq, h2, h3, h4, h5⟩
  rw [upd_ne (ne_of ec hD (fun z => nomatch z))]
  exact ec
end
section
variable {prog : Program} {w : World} {A : Around} {R : Result → Shared → Prop} {s : Shared} {kx vx x0 y0 x1 y1 : Expr} {sc : Scope} {pos : Pos} {it : Value} {D : Addr} {env : Env}
abbrev DC (kx vx x0 y0 x1 y1 : Expr) (sc : Scope) (pos : Pos) : Expr := .DictComp kx vx [⟨x0, y0, [], 0⟩, ⟨x1, y1, [], 0⟩] sc pos
theorem dturn_out : compTurn (DC kx vx x0 y0 x1 y1 sc pos) 0 it (.ref D) env = (do
      standAt y0.pos
      match ← pyNext it with
      | none => pure (.done .next)
      | some v =>
        letOwnedTupleGo x0 it v
        assign x0 env v
        let mut ok := true
        for c in ([] : List Expr) do
          if ok then ok ← isTrue c env (eval c env)
        if ok then
          let z ← eval y1 env
          standAt y1.pos
          let z ← foldedSetIterable y1 env z
          let _ ← runOwn (.compStart (DC kx vx x0 y0 x1 y1 sc pos) 1 (← holding [z] (pyIter z)) (.ref D) env) env
        again (.compLoop (DC kx vx x0 y0 x1 y1 sc pos) 0 it (.ref D) env)) := by rfl
theorem dturn_in : compTurn (DC kx vx x0 y0 x1 y1 sc pos) 1 it (.ref D) env = (do
      standAt y1.pos
      match ← pyNext it with
      | none => pure (.done .next)
      | some v =>
        letOwnedTupleGo x1 it v
        assign x1 env v
        let mut ok := true
        for c in ([] : List Expr) do
          if ok then ok ← isTrue c env (eval c env)
        if ok then
          (do
            let kv ← eval kx env
            let vv ← holding [kv] (eval vx env)
            standAt { kx.pos with endLine := vx.pos.endLine, endCol := vx.pos.endCol }
            holding [kv, vv] (dictSet D kv vv))
        again (.compLoop (DC kx vx x0 y0 x1 y1 sc pos) 1 it (.ref D) env)) := by rfl
theorem dloop_out (hf : ∀ z, foldedSetIterable y1 env z = pure z) (J : Nat → Shared → Prop)
    (turn : ∀ n s, J n s → wpAny (model prog w) A (pyNext it) (fun r s1 => match r with
      | none => R (.ok .next) s1
      | some v => wpAny (model prog w) A (letOwnedTupleGo x0 it v) (fun _ s2 => wpAny (model prog w) A (assign x0 env v) (fun _ s3 =>
          wpAny (model prog w) A (eval y1 env) (fun z s4 => wpAny (model prog w) A (pyIter z) (fun i1 s5 => codeAny (model prog w) A (.compStart (DC kx vx x0 y0 x1 y1 sc pos) 1 i1 (.ref D) env)
            (fun r s' => match r with | .ok _ => ∃ m, m < n ∧ J m s' | .error _ => False) s5) (NB (model prog w) A env R) s4) (NB (model prog w) A env R) s3) (NB (model prog w) A env R) s2) (NB (model prog w) A env R) s1) (NB (model prog w) A env R) s)
    (n : Nat) (h : J n s) : codeAny (model prog w) A (.compLoop (DC kx vx x0 y0 x1 y1 sc pos) 0 it (.ref D) env) R s := by
  refine codeAny_loop rfl J (fun n s hJ => ?_) n h
  show wpAny _ A ((compTurn (DC kx vx x0 y0 x1 y1 sc pos) 0 it (.ref D) env).onRaise (fun x => do noteFrame x env; theTreesLotGoes x)) _ _ s
  refine wpAny_noted ?_
  rw [dturn_out]
  refine wpAny_bind (wpAny_standAt (wpAny_bind (wpAny_mono (turn n s hJ) (fun r s1 q1 => ?_) fun _ _ z => z)))
  cases r with
  | none => exact wpAny_pure q1
  | some v =>
    refine wpAny_bind (wpAny_mono q1 (fun _ s2 q2 => wpAny_bind (wpAny_mono q2 (fun _ s3 q3 => ?_) fun _ _ z => z)) fun _ _ z => z)
    refine wpAny_bind (wpAny_pure ?_)
    refine wpAny_bind (wpAny_mono q3 (fun z s4 q4 => ?_) fun _ _ z => z)
    refine wpAny_bind (wpAny_standAt (wpAny_bind (wpAny_of_eq (hf z) (wpAny_bind (wpAny_holding (wpAny_mono q4 (fun i1 s5 q5 => ?_) fun _ _ z => z))))))
    refine wpAny_bind (wpAny_runOwn ?_)
    rw [Around.mark_none]
    refine codeAny_mono q5 fun r s' hr => ?_
    cases r with
    | error e => exact hr.elim
    | ok f =>
      first
        | exact wpAny_pure ⟨rfl, hr⟩
        | exact wpAny_bind (wpAny_pure (wpAny_pure ⟨rfl, hr⟩))
theorem dloop_in (J : Nat → Shared → Prop)
    (turn : ∀ n s, J n s → wpAny (model prog w) A (pyNext it) (fun r s1 => match r with
      | none => R (.ok .next) s1
      | some v => wpAny (model prog w) A (letOwnedTupleGo x1 it v) (fun _ s2 => wpAny (model prog w) A (assign x1 env v) (fun _ s3 =>
          wpAny (model prog w) A (eval kx env) (fun kv s4 => wpAny (model prog w) A (eval vx env) (fun vv s5 => wpAny (model prog w) A (dictSet D kv vv) (fun _ s6 => ∃ m, m < n ∧ J m s6) (NB (model prog w) A env R) s5) (NB (model prog w) A env R) s4) (NB (model prog w) A env R) s3) (NB (model prog w) A env R) s2) (NB (model prog w) A env R) s1) (NB (model prog w) A env R) s)
    (n : Nat) (h : J n s) : codeAny (model prog w) A (.compLoop (DC kx vx x0 y0 x1 y1 sc pos) 1 it (.ref D) env) R s := by
  refine codeAny_loop rfl J (fun n s hJ => ?_) n h
  show wpAny _ A ((compTurn (DC kx vx x0 y0 x1 y1 sc pos) 1 it (.ref D) env).onRaise (fun x => do noteFrame x env; theTreesLotGoes x)) _ _ s
  refine wpAny_noted ?_
  rw [dturn_in]
  refine wpAny_bind (wpAny_standAt (wpAny_bind (wpAny_mono (turn n s hJ) (fun r s1 q1 => ?_) fun _ _ z => z)))
  cases r with
  | none => exact wpAny_pure q1
  | some v =>
    refine wpAny_bind (wpAny_mono q1 (fun _ s2 q2 => wpAny_bind (wpAny_mono q2 (fun _ s3 q3 => ?_) fun _ _ z => z)) fun _ _ z => z)
    refine wpAny_bind (wpAny_pure ?_)
    exact wpAny_bind (wpAny_bind (wpAny_mono q3 (fun kv s4 q4 => wpAny_bind (wpAny_holding (wpAny_mono q4 (fun vv s5 q5 => wpAny_bind (wpAny_standAt (wpAny_holding (wpAny_mono q5 (fun _ s6 q6 => wpAny_pure ⟨rfl, q6⟩) fun _ _ z => z)))) fun _ _ z => z))) fun _ _ z => z))
theorem dstart_in (h0 : codeAny (model prog w) A (.compLoop (DC kx vx x0 y0 x1 y1 sc pos) 1 it (.ref D) env) R s)
    (h : wpAny (model prog w) A (pyIter it) (fun i' s' => codeAny (model prog w) A (.compLoop (DC kx vx x0 y0 x1 y1 sc pos) 1 i' (.ref D) env) R s') (NB (model prog w) A env R) s) :
    codeAny (model prog w) A (.compStart (DC kx vx x0 y0 x1 y1 sc pos) 1 it (.ref D) env) R s := by
  refine codeAny_of_tree ?_
  show wpAny _ _ ((compStart (DC kx vx x0 y0 x1 y1 sc pos) 1 it (.ref D) env).onRaise (fun x => do noteFrame x env; standAt theWindowsPlace)) _ _ s
  refine wpAny_notedAt ?_
  unfold compStart
  show wpAny _ _ (ask >>= _) _ _ s
  refine wpAny_bind (wpAny_askSetting (wpAny_ite ?_))
  split
  · first
      | exact wpAny_bind (wpAny_pure (wpAny_pure (And.intro rfl h0)))
      | exact wpAny_pure (And.intro rfl h0)
  · first
      | exact wpAny_bind (wpAny_rule (wpAny_bind (wpAny_standAt (wpAny_bind (wpAny_mono h (fun i' s' q => wpAny_pure (And.intro rfl q)) fun _ _ z => z)))))
      | (refine wpAny_bind (wpAny_rule ?_); show wpAny _ _ (standAt y1.pos >>= _) _ _ s; exact wpAny_bind (wpAny_standAt (wpAny_bind (wpAny_mono h (fun i' s' q => wpAny_pure (And.intro rfl q)) fun _ _ z => z))))
end
end VS

set_option Elab.async false
set_option linter.all false
set_option maxRecDepth 100000
set_option maxHeartbeats 4000000
namespace VS
open PySem PySem.Spec PyProof.Rows L2 MS K01
/-! ### the rule -/
section
variable {X : Cx}
def tDc2 (wi : TI) (g : TG) (wi1 : TI) (g1 : TG) (tk tv : TE) (vs vs1 : List Nat) : TE := fun σ H Q => wi σ H fun J H1 => ∀ D, H1 D = none → ∃ W : Nat → Nat → Hp → Prop, (∃ m, W 0 m (upd H1 D (.dT []))) ∧
  ∀ i m H, W i m H → (J.stop i H ∧ Q (.ref D) H) ∨ (J.go i H ∧ ∃ Nx : Hp → Prop, (∀ H', Nx H' → ∃ m', m' < m ∧ W (i + 1) m' H') ∧ ∀ x H', J.yld i H x H' → g x (wipe σ vs) H' fun σ2 H2 => wipe σ2 vs = wipe σ vs ∧
    wi1 σ2 H2 fun J1 H4 => ∃ W1 : Nat → Nat → Hp → Prop, (∃ m, W1 0 m H4) ∧ ∀ j k H, W1 j k H → (J1.stop j H ∧ Nx H) ∨ (J1.go j H ∧ ∃ Nx1 : Hp → Prop, (∀ H', Nx1 H' → ∃ k', k' < k ∧ W1 (j + 1) k' H') ∧ ∀ x H', J1.yld j H x H' →
      g1 x (wipe σ2 vs1) H' fun σ3 H5 => wipe σ3 vs1 = wipe σ2 vs1 ∧ tk σ3 H5 fun y H6 => tv σ3 H6 fun v H7 => ∃ (a : Addr) (k : List Key) (kvs : List (List Key × V)), y = .ref a ∧ H7 a = some (.tup (k.map kV)) ∧ H7 D = some (.dT kvs) ∧ kvs.length < sizeLine ∧
        Nx1 (upd H7 D (.dT (putK kvs k v)))))
theorem dc2_core {pins : List (Addr × Obj)} {s : Shared} {σ : L2.St} {H : Hp} {Q : VK} {kx vx x0 y0 x1 y1 : Expr} {sc : Scope} {own : List (PySem.Str × Nat)} {vs1 : List Nat} {pos pos' : Pos} {wi wi1 : TI} {g g1 : TG} {tk tv : TE} {use : Option (Value → Sem Unit)} {Qf : Value → Shared → Prop}
    (hc : X.calm = true) (hN : X.N.Nodup) (hu : X.A.units < cLine) (I : Inv X pins σ H s) (hi : PI X x0 y0 wi) (ok : BlkOk X.N X.env.scope sc own) (hv : ∀ i ∈ vs1, i ∈ own.map (·.2))
    (hg : ∀ (s : Shared) (H : Hp) (C : Addr) (cl : List (PySem.Str × Addr)) (f : List Addr), PG (X.blk s H sc (compEnvC sc cl C X.env) f) x0 g)
    (hk : ∀ (s : Shared) (H : Hp) (C : Addr) (cl : List (PySem.Str × Addr)) (f : List Addr), PE (X.blk s H sc (compEnvC sc cl C X.env) f) kx tk)
    (he : ∀ (s : Shared) (H : Hp) (C : Addr) (cl : List (PySem.Str × Addr)) (f : List Addr), PE (X.blk s H sc (compEnvC sc cl C X.env) f) vx tv)
    (hi1 : ∀ (s : Shared) (H : Hp) (C : Addr) (cl : List (PySem.Str × Addr)) (f : List Addr), PI (X.blk s H sc (compEnvC sc cl C X.env) f) x1 y1 wi1)
    (hg1 : ∀ (s : Shared) (H : Hp) (C : Addr) (cl : List (PySem.Str × Addr)) (f : List Addr), PG (X.blk s H sc (compEnvC sc cl C X.env) f) x1 g1)
    (hs : ∀ x, foldedSetIterable y0 X.env x = pure x) (hs1 : ∀ env x, foldedSetIterable y1 env x = pure x)
    (h : tDc2 wi g wi1 g1 tk tv (own.map (·.2)) vs1 σ H Q)
    (fin : ∀ D C s' m H', Inv X pins σ H' s' → Q (.ref D) H' → s'.heap.Ns C m → FpOk X pins H' C → compPost (model X.prog X.w) X.A X.xe use Qf (.ref D) C (.ok .next) s') :
    wpAny (model X.prog X.w) X.A (comprehension (DC kx vx x0 y0 x1 y1 sc pos) sc X.env pos' newDict false (eval y0 X.env) use) Qf X.xe s := by
  have fre : ∀ y ∈ sc.names, y.2 = .free → ∃ c, X.env.cells.lookup y.1 = some c := fun y hy q => I.ok.has _ (ok.free y hy q)
  refine wpAny_comprehension_free (use := use) rfl hs (closure_ok fre) ok.kind (fun y hy q => (ok.uniq y hy).trans (by rw [q])) ?_
  refine thn (hi.run pins s σ H _ I h) fun _ z1 k1 => thn k1 fun iv z2 k2 => ?_
  obtain ⟨it, fp, tn, J, H2, rfl, I2, T, t2, f2, q⟩ := k2
  refine wpAny_newObj_type (newEnv_comp ?_)
  obtain ⟨W, ⟨m0, w0⟩, turn⟩ := q z2.heap.objs.size (I2.hok.fresh (Nat.le_refl _))
  generalize hD : z2.heap.objs.size = D at w0 turn ⊢
  generalize hz3 : ({ z2 with heap := z2.heap.push { cls := .type "dict", data := .dict #[] } } : Shared) = z3
  have grow : Keeps z2.heap z3.heap := fun b o y => by rw [← hz3]; exact Heap.get?_push_of_some _ y
  have I3 : Inv X pins σ (upd H2 D (.dT [])) z3 := by
    rw [← hz3]
    refine I2.laid (t' := z2.toks) (fun b o y => Heap.get?_push_of_some _ y) (Nat.le_of_eq hD) ?_
    rw [← hD]
    exact dt_empty z2.heap I2.big
  have f3 : ∀ b ∈ fp, FpOk X pins (upd H2 D (.dT [])) b ∧ b < z3.heap.objs.size := fun b hb => by
    obtain ⟨o, y, _⟩ := T.obj _ _ t2 b hb
    refine ⟨⟨?_, (f2 b hb).2⟩, Heap.lt_size (grow _ _ y)⟩
    have ne : b ≠ D := by
      rw [← hD]
      exact Nat.ne_of_lt (Heap.lt_size y)
    exact (upd_ne ne).trans (f2 b hb).1
  have I4 := block_start I3 ok hN f3
  have t3 : tn 0 z3.heap := T.keep _ _ _ t2 fun b _ o y => grow b o y
  generalize hH3 : upd H2 D (.dT []) = H3 at I3 f3 I4 w0
  have pg := hg z3 H3 z3.heap.objs.size (cellsFrom (z3.heap.objs.size + 1) sc.names (cloFrom X.env.cells sc.names [])) fp
  have pq := hk z3 H3 z3.heap.objs.size (cellsFrom (z3.heap.objs.size + 1) sc.names (cloFrom X.env.cells sc.names [])) fp
  have pe := he z3 H3 z3.heap.objs.size (cellsFrom (z3.heap.objs.size + 1) sc.names (cloFrom X.env.cells sc.names [])) fp
  have pj := hi1 z3 H3 z3.heap.objs.size (cellsFrom (z3.heap.objs.size + 1) sc.names (cloFrom X.env.cells sc.names [])) fp
  have pk := hg1 z3 H3 z3.heap.objs.size (cellsFrom (z3.heap.objs.size + 1) sc.names (cloFrom X.env.cells sc.names [])) fp
  show codeAny _ _ (.compStart (DC kx vx x0 y0 x1 y1 sc pos) 0 (.ref it) (.ref D) (compEnvC sc (cellsFrom (z3.heap.objs.size + 1) sc.names (cloFrom X.env.cells sc.names [])) z3.heap.objs.size X.env)) (compPost (model X.prog X.w) X.A X.xe use Qf (.ref D) z3.heap.objs.size) { z3 with heap := pushCells (z3.heap.push { cls := .type "dict", data := .dict #[] }) sc.names }
  generalize hen : compEnvC sc (cellsFrom (z3.heap.objs.size + 1) sc.names (cloFrom X.env.cells sc.names [])) z3.heap.objs.size X.env = en at I4 pg pq pe pj pk ⊢
  have lo : en.locals = z3.heap.objs.size := by rw [← hen]; rfl
  generalize hz4 : ({ z3 with heap := pushCells (z3.heap.push { cls := .type "dict", data := .dict #[] }) sc.names } : Shared) = z4 at I4 ⊢
  have t4 : tn 0 z4.heap := T.keep _ _ _ t3 fun b _ o y => by rw [← hz4]; exact pushCells_keeps _ _ _ _ (Heap.get?_push_of_some _ y)
  have nox : ∀ a z, (X.blk z3 H3 sc en fp).xe a z → False := fun a z y => y
  have okB : ∀ G' : Hp, (∀ b ∈ fp, G' b = none) → ∀ b ∈ fp, FpOk (X.blk z3 H3 sc en fp) [] G' b := fun G' nn b hb =>
    ⟨nn b hb, (I4.ok.exf b hb).1, I4.ok.exfs b hb, .inl hb, fun x c y => (I4.ok.exf b hb).2 x c y, (fun p hp => absurd (show p ∈ ([] : List (Addr × Obj)) from hp) (by simp))⟩
  have loop : codeAny (model X.prog X.w) X.A (.compLoop (DC kx vx x0 y0 x1 y1 sc pos) 0 (.ref it) (.ref D) en) (compPost (model X.prog X.w) X.A X.xe use Qf (.ref D) z3.heap.objs.size) z4 := by
    refine dloop_out (hs1 en) (fun n z => ∃ i G, Stand (X.blk z3 H3 sc en fp) [] tn fp i (wipe σ (own.map (·.2))) G z ∧ W i n G) ?_ m0 ⟨0, H3, ⟨I4, t4, fun b hb => (f3 b hb).1.1⟩, w0⟩
    rintro n z5 ⟨i, G5, S5, w5⟩
    rcases turn i n G5 w5 with ⟨stop, done⟩ | ⟨go, Nx, nxt, step⟩
    · obtain ⟨I5, t5, n5⟩ := S5
      refine thnF (T.done (X.blk z3 H3 sc en fp) rfl rfl rfl hc i [] z5 _ G5 (fun _ _ => False) I5 (okB G5 n5) t5 stop) fun r z6 y => ?_
      obtain ⟨rfl, I6⟩ := y
      have J7 : Inv X pins σ G5 z6 := I3.call' (ch := fp) I6.os I6.base I6.hok I6.bare fun b hb => by
        obtain ⟨_, a1, _, a3, a4, a5⟩ := (f3 b hb).1
        exact ⟨a3, a1, a4, a5⟩
      have nl : G5 z3.heap.objs.size = none := by
        rw [← lo]
        exact I6.free
      obtain ⟨m, ns, _⟩ := I6.loc
      have ns' : z6.heap.Ns z3.heap.objs.size m := by
        rw [← lo]
        exact ns
      exact fin D z3.heap.objs.size z6 m G5 J7 done ns' (I3.fpOk (Nat.le_refl _) nl)
    · refine next_turn (Y := X.blk z3 H3 sc en fp) T hc nox pg S5 okB go step (F := fun _ _ => False) fun u z6 k6 => ?_
      refine thnF k6 fun _ z7 k7 => thnF k7 fun _ z8 k8 => ?_
      obtain ⟨z0, t0, ob0, σ8, G8, I8, same8, q8⟩ := k8
      -- back at the outer loop's start
      have back : ∀ {ρ : L2.St} {z' : Shared} {G' : Hp}, Inv (X.blk z3 H3 sc en fp) ([] ++ pinsAt fp z0.heap) ρ G' z' → ρ.length = σ8.length → (∀ (j : Nat) v, j ∉ own.map (·.2) → σ8[j]? = some (some v) → ρ[j]? = some (some v)) → Nx G' →
          ∃ m, m < n ∧ ∃ i G, Stand (X.blk z3 H3 sc en fp) [] tn fp i (wipe σ (own.map (·.2))) G z' ∧ W i m G := fun {ρ z' G'} I' hl hk nx => by
        obtain ⟨m', hm, w'⟩ := nxt G' nx
        refine ⟨m', hm, i + 1, G', settle (Y := X.blk z3 H3 sc en fp) T I' t0 (by rw [← same8, wipe_length, hl]) (fun j v y => ?_), w'⟩
        rw [← same8] at y
        obtain ⟨c1, c2⟩ := wipe_some y
        exact hk j v c2 c1
      refine thnF (pj.run _ z8 σ8 G8 _ I8 q8) fun _ z9 k9 => thnF k9 fun _ z10 k10 => ?_
      obtain ⟨it1, fp1, tn1, J1, G10, rfl, I10, T1, t10, f10, W1, ⟨m1, w1⟩, turn1⟩ := k10
      have ok1 : ∀ G' : Hp, (∀ b ∈ fp1, G' b = none) → ∀ b ∈ fp1, FpOk (X.blk z3 H3 sc en fp) ([] ++ pinsAt fp z0.heap) G' b := fun G' nn b hb => ⟨nn b hb, (f10 b hb).2⟩
      have inner : codeAny (model X.prog X.w) X.A (.compLoop (DC kx vx x0 y0 x1 y1 sc pos) 1 (.ref it1) (.ref D) en)
          (fun r z' => match r with
            | .ok _ => ∃ m, m < n ∧ ∃ i G, Stand (X.blk z3 H3 sc en fp) [] tn fp i (wipe σ (own.map (·.2))) G z' ∧ W i m G
            | .error _ => False) z10 := by
        refine dloop_in (fun k z => ∃ j G, Stand (X.blk z3 H3 sc en fp) ([] ++ pinsAt fp z0.heap) tn1 fp1 j (wipe σ8 vs1) G z ∧ W1 j k G) ?_ m1 ⟨0, G10, ⟨I10.weak (wipe_length _ _) (fun j v y => (wipe_some y).1), t10, fun b hb => (f10 b hb).1⟩, w1⟩
        rintro k z11 ⟨j, G11, S11, w11⟩
        rcases turn1 j k G11 w11 with ⟨stop1, nx⟩ | ⟨go1, Nx1, nxt1, step1⟩
        · obtain ⟨I11, t11, n11⟩ := S11
          refine thnF (T1.done (X.blk z3 H3 sc en fp) rfl rfl rfl hc j _ z11 (wipe σ8 vs1) G11 (fun _ _ => False) I11 (ok1 G11 n11) t11 stop1) fun r z12 y => ?_
          obtain ⟨rfl, I12⟩ := y
          exact back I12 (wipe_length _ _) (fun j v c y => by rw [wipe_out fun c' => c (hv j c')]; exact y) nx
        · refine next_turn (Y := X.blk z3 H3 sc en fp) T1 hc nox pk S11 ok1 go1 step1 (F := fun _ _ => False) fun u1 z12 k12 => ?_
          refine thnF k12 fun _ z13 k13 => thnF k13 fun _ z14 k14 => ?_
          obtain ⟨z15, t15, _, σ15, G15, I15, same15, q15⟩ := k14
          refine thnF (pq.run _ z14 σ15 G15 _ I15 q15) fun kv z16 k16 => ?_
          obtain ⟨y, G16, I16, r16, q16⟩ := k16
          refine thnF (pe.run _ z16 σ15 G16 _ I16 q16) fun vv z18 k18 => ?_
          obtain ⟨yv, G18, I18, r18, a, kk, kvs, rfl, ha, hL, few, nx⟩ := k18
          cases r16
          refine set_t (X := X.blk z3 H3 sc en fp) hu I18 hL few ha r18 fun z17 I17 => ?_
          obtain ⟨m', hm, w'⟩ := nxt1 _ nx
          exact ⟨m', hm, j + 1, _, settle (Y := X.blk z3 H3 sc en fp) T1 I17 t15 (by rw [← same15, wipe_length]) (fun j v y => by rw [← same15] at y; exact (wipe_some y).1), w'⟩
      exact dstart_in inner (T1.self X.A 0 _ _ _ t10 inner)
  exact codeAny_compStart_dict loop (T.self X.A 0 _ _ _ t4 loop)
theorem pe_dc2 {kx vx x0 y0 x1 y1 : Expr} {sc : Scope} {own : List (PySem.Str × Nat)} {vs1 : List Nat} {pos : Pos} {wi wi1 : TI} {g g1 : TG} {tk tv : TE} (hc : X.calm = true) (hN : X.N.Nodup) (hu : X.A.units < cLine) (hi : PI X x0 y0 wi) (ok : BlkOk X.N X.env.scope sc own) (hv : ∀ i ∈ vs1, i ∈ own.map (·.2))
    (hg : ∀ (s : Shared) (H : Hp) (C : Addr) (cl : List (PySem.Str × Addr)) (f : List Addr), PG (X.blk s H sc (compEnvC sc cl C X.env) f) x0 g)
    (hi1 : ∀ (s : Shared) (H : Hp) (C : Addr) (cl : List (PySem.Str × Addr)) (f : List Addr), PI (X.blk s H sc (compEnvC sc cl C X.env) f) x1 y1 wi1)
    (hg1 : ∀ (s : Shared) (H : Hp) (C : Addr) (cl : List (PySem.Str × Addr)) (f : List Addr), PG (X.blk s H sc (compEnvC sc cl C X.env) f) x1 g1)
    (hk : ∀ (s : Shared) (H : Hp) (C : Addr) (cl : List (PySem.Str × Addr)) (f : List Addr), PE (X.blk s H sc (compEnvC sc cl C X.env) f) kx tk)
    (he : ∀ (s : Shared) (H : Hp) (C : Addr) (cl : List (PySem.Str × Addr)) (f : List Addr), PE (X.blk s H sc (compEnvC sc cl C X.env) f) vx tv)
    (hs : ∀ x, foldedSetIterable y0 X.env x = pure x := by intro _; rfl) (hs1 : ∀ env x, foldedSetIterable y1 env x = pure x := by intro _ _; rfl) :
    PE X (DC kx vx x0 y0 x1 y1 sc pos) (tDc2 wi g wi1 g1 tk tv (own.map (·.2)) vs1) := by
  refine ⟨fun pins s σ H Q I h => ?_⟩
  rw [arm_eval_DictComp]
  refine dc2_core hc hN hu I hi ok hv hg hk he hi1 hg1 hs hs1 h fun D C z' m G I' q ns f => ⟨m, ns, fun _ sb => ?_⟩
  exact ⟨.ref D, G, I'.turned (t' := z'.toks) (fun b o hb y => (sb.2 b hb).trans y) f.1 f.2.1 f.2.2.2.1 f.2.2.2.2.1 f.2.2.2.2.2, rfl, q⟩
end
end VS

set_option Elab.async false
set_option linter.all false
set_option maxRecDepth 100000
set_option maxHeartbeats 4000000
namespace VS
open PySem PySem.Spec PyProof.Rows L2 MS K01
section
variable {X : Cx}
def tDc1 (wi : TI) (g : TG) (tk tv : TE) (vs : List Nat) : TE := fun σ H Q => wi σ H fun J H1 => ∀ D, H1 D = none → ∃ W : Nat → Nat → Hp → Prop, (∃ m, W 0 m (upd H1 D (.dT []))) ∧
  ∀ i m H, W i m H → (J.stop i H ∧ Q (.ref D) H) ∨ (J.go i H ∧ ∃ Nx : Hp → Prop, (∀ H', Nx H' → ∃ m', m' < m ∧ W (i + 1) m' H') ∧ ∀ x H', J.yld i H x H' → g x (wipe σ vs) H' fun σ2 H2 => wipe σ2 vs = wipe σ vs ∧
    tk σ2 H2 fun y H6 => tv σ2 H6 fun v H7 => ∃ (a : Addr) (k : List Key) (kvs : List (List Key × V)), y = .ref a ∧ H7 a = some (.tup (k.map kV)) ∧ H7 D = some (.dT kvs) ∧ kvs.length < sizeLine ∧ Nx (upd H7 D (.dT (putK kvs k v))))
theorem dc1_core {pins : List (Addr × Obj)} {s : Shared} {σ : L2.St} {H : Hp} {Q : VK} {kx vx x0 y0 : Expr} {sc : Scope} {own : List (PySem.Str × Nat)} {pos pos' : Pos} {wi : TI} {g : TG} {tk tv : TE} {use : Option (Value → Sem Unit)} {Qf : Value → Shared → Prop}
    (hc : X.calm = true) (hN : X.N.Nodup) (hu : X.A.units < cLine) (I : Inv X pins σ H s) (hi : PI X x0 y0 wi) (ok : BlkOk X.N X.env.scope sc own)
    (hg : ∀ (s : Shared) (H : Hp) (C : Addr) (cl : List (PySem.Str × Addr)) (f : List Addr), PG (X.blk s H sc (compEnvC sc cl C X.env) f) x0 g)
    (hk : ∀ (s : Shared) (H : Hp) (C : Addr) (cl : List (PySem.Str × Addr)) (f : List Addr), PE (X.blk s H sc (compEnvC sc cl C X.env) f) kx tk)
    (he : ∀ (s : Shared) (H : Hp) (C : Addr) (cl : List (PySem.Str × Addr)) (f : List Addr), PE (X.blk s H sc (compEnvC sc cl C X.env) f) vx tv)
    (hs : ∀ x, foldedSetIterable y0 X.env x = pure x)
    (h : tDc1 wi g tk tv (own.map (·.2)) σ H Q)
    (fin : ∀ D C s' m H', Inv X pins σ H' s' → Q (.ref D) H' → s'.heap.Ns C m → FpOk X pins H' C → compPost (model X.prog X.w) X.A X.xe use Qf (.ref D) C (.ok .next) s') :
    wpAny (model X.prog X.w) X.A (comprehension (.DictComp kx vx [⟨x0, y0, [], 0⟩] sc pos) sc X.env pos' newDict false (eval y0 X.env) use) Qf X.xe s := by
  have fre : ∀ y ∈ sc.names, y.2 = .free → ∃ c, X.env.cells.lookup y.1 = some c := fun y hy q => I.ok.has _ (ok.free y hy q)
  refine wpAny_comprehension_free (use := use) rfl hs (closure_ok fre) ok.kind (fun y hy q => (ok.uniq y hy).trans (by rw [q])) ?_
  refine thn (hi.run pins s σ H _ I h) fun _ z1 k1 => thn k1 fun iv z2 k2 => ?_
  obtain ⟨it, fp, tn, J, H2, rfl, I2, T, t2, f2, q⟩ := k2
  refine wpAny_newObj_type (newEnv_comp ?_)
  obtain ⟨W, ⟨m0, w0⟩, turn⟩ := q z2.heap.objs.size (I2.hok.fresh (Nat.le_refl _))
  generalize hD : z2.heap.objs.size = D at w0 turn ⊢
  generalize hz3 : ({ z2 with heap := z2.heap.push { cls := .type "dict", data := .dict #[] } } : Shared) = z3
  have grow : Keeps z2.heap z3.heap := fun b o y => by rw [← hz3]; exact Heap.get?_push_of_some _ y
  have I3 : Inv X pins σ (upd H2 D (.dT [])) z3 := by
    rw [← hz3]
    refine I2.laid (t' := z2.toks) (fun b o y => Heap.get?_push_of_some _ y) (Nat.le_of_eq hD) ?_
    rw [← hD]
    exact dt_empty z2.heap I2.big
  have f3 : ∀ b ∈ fp, FpOk X pins (upd H2 D (.dT [])) b ∧ b < z3.heap.objs.size := fun b hb => by
    obtain ⟨o, y, _⟩ := T.obj _ _ t2 b hb
    refine ⟨⟨?_, (f2 b hb).2⟩, Heap.lt_size (grow _ _ y)⟩
    have ne : b ≠ D := by
      rw [← hD]
      exact Nat.ne_of_lt (Heap.lt_size y)
    exact (upd_ne ne).trans (f2 b hb).1
  have I4 := block_start I3 ok hN f3
  have t3 : tn 0 z3.heap := T.keep _ _ _ t2 fun b _ o y => grow b o y
  generalize hH3 : upd H2 D (.dT []) = H3 at I3 f3 I4 w0
  have pg := hg z3 H3 z3.heap.objs.size (cellsFrom (z3.heap.objs.size + 1) sc.names (cloFrom X.env.cells sc.names [])) fp
  have pq := hk z3 H3 z3.heap.objs.size (cellsFrom (z3.heap.objs.size + 1) sc.names (cloFrom X.env.cells sc.names [])) fp
  have pe := he z3 H3 z3.heap.objs.size (cellsFrom (z3.heap.objs.size + 1) sc.names (cloFrom X.env.cells sc.names [])) fp
  show codeAny _ _ (.compStart (.DictComp kx vx [⟨x0, y0, [], 0⟩] sc pos) 0 (.ref it) (.ref D) (compEnvC sc (cellsFrom (z3.heap.objs.size + 1) sc.names (cloFrom X.env.cells sc.names [])) z3.heap.objs.size X.env)) (compPost (model X.prog X.w) X.A X.xe use Qf (.ref D) z3.heap.objs.size) { z3 with heap := pushCells (z3.heap.push { cls := .type "dict", data := .dict #[] }) sc.names }
  generalize hen : compEnvC sc (cellsFrom (z3.heap.objs.size + 1) sc.names (cloFrom X.env.cells sc.names [])) z3.heap.objs.size X.env = en at I4 pg pq pe ⊢
  have lo : en.locals = z3.heap.objs.size := by rw [← hen]; rfl
  generalize hz4 : ({ z3 with heap := pushCells (z3.heap.push { cls := .type "dict", data := .dict #[] }) sc.names } : Shared) = z4 at I4 ⊢
  have t4 : tn 0 z4.heap := T.keep _ _ _ t3 fun b _ o y => by rw [← hz4]; exact pushCells_keeps _ _ _ _ (Heap.get?_push_of_some _ y)
  have nox : ∀ a z, (X.blk z3 H3 sc en fp).xe a z → False := fun a z y => y
  have okB : ∀ G' : Hp, (∀ b ∈ fp, G' b = none) → ∀ b ∈ fp, FpOk (X.blk z3 H3 sc en fp) [] G' b := fun G' nn b hb =>
    ⟨nn b hb, (I4.ok.exf b hb).1, I4.ok.exfs b hb, .inl hb, fun x c y => (I4.ok.exf b hb).2 x c y, (fun p hp => absurd (show p ∈ ([] : List (Addr × Obj)) from hp) (by simp))⟩
  have loop : codeAny (model X.prog X.w) X.A (.compLoop (.DictComp kx vx [⟨x0, y0, [], 0⟩] sc pos) 0 (.ref it) (.ref D) en) (compPost (model X.prog X.w) X.A X.xe use Qf (.ref D) z3.heap.objs.size) z4 := by
    refine compLoop_anyD (fun n z => ∃ i G, Stand (X.blk z3 H3 sc en fp) [] tn fp i (wipe σ (own.map (·.2))) G z ∧ W i n G) ?_ m0 ⟨0, H3, ⟨I4, t4, fun b hb => (f3 b hb).1.1⟩, w0⟩
    rintro n z5 ⟨i, G5, S5, w5⟩
    rcases turn i n G5 w5 with ⟨stop, done⟩ | ⟨go, Nx, nxt, step⟩
    · obtain ⟨I5, t5, n5⟩ := S5
      refine thnF (T.done (X.blk z3 H3 sc en fp) rfl rfl rfl hc i [] z5 _ G5 (fun _ _ => False) I5 (okB G5 n5) t5 stop) fun r z6 y => ?_
      obtain ⟨rfl, I6⟩ := y
      have J7 : Inv X pins σ G5 z6 := I3.call' (ch := fp) I6.os I6.base I6.hok I6.bare fun b hb => by
        obtain ⟨_, a1, _, a3, a4, a5⟩ := (f3 b hb).1
        exact ⟨a3, a1, a4, a5⟩
      have nl : G5 z3.heap.objs.size = none := by
        rw [← lo]
        exact I6.free
      obtain ⟨m, ns, _⟩ := I6.loc
      have ns' : z6.heap.Ns z3.heap.objs.size m := by
        rw [← lo]
        exact ns
      exact fin D z3.heap.objs.size z6 m G5 J7 done ns' (I3.fpOk (Nat.le_refl _) nl)
    · refine next_turn (Y := X.blk z3 H3 sc en fp) T hc nox pg S5 okB go step (F := fun _ _ => False) fun u z6 k6 => ?_
      refine thnF k6 fun _ z7 k7 => thnF k7 fun _ z8 k8 => ?_
      obtain ⟨z0, t0, ob0, σ8, G8, I8, same8, q8⟩ := k8
      show wpAny _ _ (pure true) _ _ _
      refine wpAny_pure ?_
      rw [if_pos rfl]
      refine thnF (pq.run _ z8 σ8 G8 _ I8 q8) fun kv z9 k9 => ?_
      obtain ⟨y, G9, I9, r9, q9⟩ := k9
      refine thnF (pe.run _ z9 σ8 G9 _ I9 q9) fun vv z10 k10 => ?_
      obtain ⟨yv, G10, I10, r10, a, kk, kvs, rfl, ha, hL, few, nx⟩ := k10
      cases r9
      refine set_t (X := X.blk z3 H3 sc en fp) hu I10 hL few ha r10 fun z11 I11 => ?_
      obtain ⟨m', hm, w'⟩ := nxt _ nx
      exact ⟨m', hm, i + 1, _, settle (Y := X.blk z3 H3 sc en fp) T I11 t0 (by rw [← same8, wipe_length]) (fun j v y => by rw [← same8] at y; exact (wipe_some y).1), w'⟩
  exact codeAny_compStart_dict loop (T.self X.A 0 _ _ _ t4 loop)
theorem pe_dc1 {kx vx x0 y0 : Expr} {sc : Scope} {own : List (PySem.Str × Nat)} {pos : Pos} {wi : TI} {g : TG} {tk tv : TE} (hc : X.calm = true) (hN : X.N.Nodup) (hu : X.A.units < cLine) (hi : PI X x0 y0 wi) (ok : BlkOk X.N X.env.scope sc own)
    (hg : ∀ (s : Shared) (H : Hp) (C : Addr) (cl : List (PySem.Str × Addr)) (f : List Addr), PG (X.blk s H sc (compEnvC sc cl C X.env) f) x0 g)
    (hk : ∀ (s : Shared) (H : Hp) (C : Addr) (cl : List (PySem.Str × Addr)) (f : List Addr), PE (X.blk s H sc (compEnvC sc cl C X.env) f) kx tk)
    (he : ∀ (s : Shared) (H : Hp) (C : Addr) (cl : List (PySem.Str × Addr)) (f : List Addr), PE (X.blk s H sc (compEnvC sc cl C X.env) f) vx tv)
    (hs : ∀ x, foldedSetIterable y0 X.env x = pure x := by intro _; rfl) :
    PE X (.DictComp kx vx [⟨x0, y0, [], 0⟩] sc pos) (tDc1 wi g tk tv (own.map (·.2))) := by
  refine ⟨fun pins s σ H Q I h => ?_⟩
  rw [arm_eval_DictComp]
  refine dc1_core hc hN hu I hi ok hg hk he hs h fun D C z' m G I' q ns f => ⟨m, ns, fun _ sb => ?_⟩
  exact ⟨.ref D, G, I'.turned (t' := z'.toks) (fun b o hb y => (sb.2 b hb).trans y) f.1 f.2.1 f.2.2.2.1 f.2.2.2.2.1 f.2.2.2.2.2, rfl, q⟩
end
end VS

set_option Elab.async false
set_option linter.all false
set_option maxRecDepth 100000
set_option maxHeartbeats 4000000
namespace VS
open PySem PySem.Spec PyProof.Rows L2 MS K01
open PyProof.Rows.G (sh1 tupKindC tupKeyC tupKeyC_of list_sort_tups)
/-! ### sorted(d), its keys dots -/
section
variable {P : Program} {w : World} {A : Around} {E : Value → Shared → Prop} {s : Shared}
/-- where a walk into a new list ends -/
def Ends1 (s : Shared) (Pv : Nat → Value → Prop) (n : Nat) (q : Result) (z : Shared) : Prop := ∃ (h1 : Heap) (tk : Nat) (acc : Array Value) (c : Nat), q = .ok (.ret (.ref s.heap.objs.size)) ∧ z = { s with heap := h1, toks := tk } ∧ Keeps s.heap h1 ∧
  h1.get? s.heap.objs.size = some { cls := .type "list", dict := none, data := .seq acc c, slots := #[] } ∧ ItemsOf Pv acc n
theorem collect_sz {T : String} {r d : Addr} {n : Nat} {Pv : Nat → Value → Prop} {OK : Heap → Prop} {R : List Value → Shared → Prop} (S : PySem.W.KdlSrc P w T r d n Pv OK) (hh : A.handled = none) (ok : OK s.heap) (fit : n ≤ sizeLine)
    (q : ∀ (h1 : Heap) (tk : Nat) (acc : Array Value), Keeps s.heap h1 → s.heap.objs.size < h1.objs.size → ItemsOf Pv acc n → R acc.toList { s with heap := h1, toks := tk }) : wpAny (model P w) A (collect (.ref r)) R E s := by
  obtain ⟨lr, ld⟩ := S.there _ ok
  unfold collect
  refine wpAny_bind (wpAny_runValue (codeAny_builtin PySem.F.entry_proto_collect ?_))
  rw [Around.under_plainId PySem.F.plain_proto_collect _]
  show wpAny _ A.in1 (newList [] >>= fun l => again (.builtin "list.__iadd__" ⟨[l, .ref r], []⟩)) _ _ s
  refine wpAny_bind (wpAny_newObj_type (wpAny_pure ⟨plainId_quiet PySem.F.plain_list_iadd _, codeAny_builtin PySem.F.entry_list_iadd ?_⟩))
  rw [Around.under_plainId PySem.F.plain_list_iadd _]
  have new : (s.heap.push { cls := .type "list", data := .seq ([] : List Value).toArray }).get? s.heap.objs.size = some { cls := .type "list", data := .seq #[] } := Heap.get?_push_size _ rfl
  show wpAny _ A.in1 (Builtin.List.listExtendWith (.ref s.heap.objs.size) (.ref r) (.ref s.heap.objs.size)) _ _ _
  have walk := PySem.W.kdl_extend (A := A) (s := { s with heap := s.heap.push { cls := .type "list", data := .seq ([] : List Value).toArray } }) (R := Ends1 s Pv n) S hh (S.keep _ _ ok fun b _ o y => Heap.get?_push_of_some _ y) s.heap.objs.size (Nat.ne_of_gt lr) (Nat.ne_of_gt ld) (.ref s.heap.objs.size) 0 new
    (fun h1 tk acc c kp gS it => ⟨h1, tk, acc, c, rfl, rfl, fun b o y => kp b o (Nat.ne_of_lt (Heap.lt_size y)) (Heap.get?_push_of_some _ y), gS, it⟩) fit
  refine wpAny_mono walk (fun f z x => ?_) fun e z x => by obtain ⟨_, _, _, _, y, _⟩ := x; cases y
  cases f with
  | done f =>
    obtain ⟨h1, tk, acc, c, y, rfl, kp, gS, it⟩ := x
    cases y
    show wpAny _ A (load s.heap.objs.size >>= _) _ _ _
    exact wpAny_bind (wpAny_load gS (wpAny_pure (q h1 tk acc kp (Heap.lt_size gS) it)))
  | again c1 =>
    refine ⟨x.1, codeAny_mono x.2 fun x2 z2 y => ?_⟩
    obtain ⟨h1, tk, acc, c, rfl, rfl, kp, gS, it⟩ := y
    show wpAny _ A (load s.heap.objs.size >>= _) _ _ _
    exact wpAny_bind (wpAny_load gS (wpAny_pure (q h1 tk acc kp (Heap.lt_size gS) it)))
theorem sorted_by {L : List MS.Row} {x : Addr} {Q : Value → Shared → Prop} (tu : Tups P w s.heap L) (dd : ∀ p ∈ L, D3 p.2) (few : L.length ≤ 1000)
    (col : ∀ (A' : Around) (R : List Value → Shared → Prop), A'.handled = A.handled → (∀ h' tk, Keeps s.heap h' → s.heap.objs.size < h'.objs.size → R (L.map fun z => Value.ref z.1) { s with heap := h', toks := tk }) → wpAny (model P w) A' (collect (.ref x)) R E s)
    (q : ∀ s' p (out : Array Value) (c : Nat) (L' : List MS.Row), Keeps s.heap s'.heap → s'.gens = s.gens → s'.os = s.os → s.heap.objs.size ≤ p → s'.heap.get? p = some (seqObj "list" out c) → out.toList = L'.map (fun z => Value.ref z.1) → L'.Perm L →
      L'.Pairwise (fun x y => dlt y.2 x.2 = false) → Q (.ref p) s') : wpAny (model P w) A (call (.builtin "sorted") [.ref x]) Q E s := by
  refine Calls.call_function_entry kind_sorted plain_sorted entry_sorted (args_sorted1 _) ?_
  unfold Builtin.«sorted»
  refine wpAny_bind (m := checkCount "sorted" 1 1 _) (wpAny_pure ?_)
  refine wpAny_bind (col A.in1 _ rfl fun h1 tk k1 lt1 => ?_)
  refine wpAny_bind (wpAny_newList ?_ (by rw [List.length_map, sizeLine_eq]; omega))
  have le1 : s.heap.objs.size ≤ h1.objs.size := Nat.le_of_lt lt1
  have gL : (h1.push (seqObj "list" (L.map fun z => Value.ref z.1).toArray 0)).get? h1.objs.size = some (seqObj "list" (L.map fun z => Value.ref z.1).toArray 0) := Heap.get?_push_size _ rfl
  have kk : Keeps s.heap (h1.push (seqObj "list" (L.map fun z => Value.ref z.1).toArray 0)) := fun b u e => Heap.get?_push_of_some _ (k1 b u e)
  have tu2 := tups_keep tu kk
  have inL : ∀ v ∈ (L.map fun z => Value.ref z.1), ∃ z ∈ L, v = Value.ref z.1 := fun v hv => by
    obtain ⟨z, hz, e⟩ := List.mem_map.mp hv
    exact ⟨z, hz, e.symm⟩
  obtain ⟨fs, hfs⟩ := tups_of (h := h1.push (seqObj "list" (L.map fun z => Value.ref z.1).toArray 0)) (L.map fun z => Value.ref z.1) fun v hv => by
    obtain ⟨z, hz, rfl⟩ := inL v hv
    exact mt_tup (tu2 z hz) (dd z hz)
  refine wpAny_bind (wpAny_holding (wpAny_call_entry slot_list_sort ⟨_, gL, rfl⟩ entry_list_sort (list_sort_tups (s := { s with heap := h1.push (seqObj "list" (L.map fun z => Value.ref z.1).toArray 0), toks := tk }) gL hfs (fun v hv => ?_) (by rw [List.length_map, sizeLine_eq]; omega) fun st' b1 b2 b3 => ⟨_, rfl, ?_⟩) (args_list_sort _)))
  · obtain ⟨z, hz, rfl⟩ := inL v hv
    exact ⟨_, mt_key (tu2 z hz) (dd z hz)⟩
  · obtain ⟨pm2, so⟩ := sorted_vals b1 b2
    generalize (arrOf st').map (·.2) = out at pm2 so ⊢
    obtain ⟨c, hc⟩ := sortedHeap_at (vs := L.map fun z => Value.ref z.1) (out := out) gL
    obtain ⟨L', pL, eL⟩ := perm_lift (fun z : MS.Row => Value.ref z.1) pm2 L rfl
    refine wpAny_pure ⟨_, rfl, q _ h1.objs.size out c L' (fun b u e => ?_) rfl rfl le1 hc eL.symm pL ?_⟩
    · have y := k1 b u e
      have lt := Heap.lt_size y
      show (sortedHeap (h1.push (seqObj "list" (L.map fun z => Value.ref z.1).toArray 0)) h1.objs.size (L.map fun z => Value.ref z.1) out).get? b = some u
      rw [sortedHeap_old (Nat.ne_of_lt lt) (by rw [size_push']; exact Nat.lt_succ_of_lt lt)]
      exact Heap.get?_push_of_some _ y
    · rw [← eL, List.pairwise_map] at so
      refine List.Pairwise.imp_of_mem (fun {x y} hx hy z => ?_) so
      have mx := pL.mem_iff.mp hx
      have my := pL.mem_iff.mp hy
      rw [mt_key (tu2 x mx) (dd x mx), mt_key (tu2 y my) (dd y my)] at z
      exact z
end
section
variable {X : Cx}
/-- sorted(d) -/
def rSortD : List V → Hp → VK → Prop := fun vs H Q => ∃ (d : Addr) (kvs : List (List Key × V)), vs = [V.ref d] ∧ H d = some (.dT kvs) ∧ (∀ e ∈ kvs, D3 e.1) ∧ kvs.length ≤ 1000 ∧
  ∀ (L : List MS.Row) (p : Addr), (∀ q ∈ L, H q.1 = some (.tup (q.2.map kV))) → (L.map fun q => q.2).Perm (kvs.map fun e => e.1) → L.Pairwise (fun x y => dlt y.2 x.2 = false) → H p = none → Q (.ref p) (upd H p (.lst (L.map fun q => V.ref q.1)))
theorem rows_keys {H : Hp} : ∀ {kvs : List (List Key × V)} {bs : List Addr}, IsKeys H kvs bs → ∃ L : List MS.Row, L.map (fun q => q.1) = bs ∧ L.map (fun q => q.2) = kvs.map (fun e => e.1) ∧ ∀ q ∈ L, H q.1 = some (.tup (q.2.map kV))
  | [], _, .nil => ⟨[], rfl, rfl, fun _ z => nomatch z⟩
  | e :: kvs, _, .cons (b := b) h t => by
    obtain ⟨L, h1, h2, h3⟩ := rows_keys t
    refine ⟨(b, e.1) :: L, by rw [List.map_cons, h1], by rw [List.map_cons, h2, List.map_cons], fun q hq => ?_⟩
    rcases List.mem_cons.mp hq with rfl | hq
    · exact h
    · exact h3 q hq
theorem cr_sortD (hc : X.calm = true) : CallR X (.builtin "sorted") rSortD := by
  intro pins s σ H vs us Q I r h
  obtain ⟨d, kvs, rfl, hd, d3, few, q⟩ := h
  rw [Vals.ref1 r]
  obtain ⟨z, hs, ks, pr, o, es, ep, ho, hx, hdt, he, hn⟩ := (show ObjOk X.prog X.w H s.heap d (.dT kvs) from I.hok d _ hd)
  have l1 : es.size = ks.length := size_of_entries he
  have l2 : kvs.length = ks.length := Paired.length pr
  obtain ⟨L, e1, e2, e3⟩ := rows_keys (isKeys_of pr)
  have dd : ∀ p ∈ L, D3 p.2 := fun p hp => by
    have y : p.2 ∈ kvs.map fun e => e.1 := by rw [← e2]; exact List.mem_map_of_mem hp
    obtain ⟨e, he, y⟩ := List.mem_map.mp y
    rw [← y]
    exact d3 e he
  have lL : L.length = kvs.length := by
    have y := congrArg List.length e2
    rw [List.length_map, List.length_map] at y
    exact y
  have tu : Tups X.prog X.w s.heap L := dots_mt I fun p hp => .inl (.inl (e3 p hp))
  refine sorted_by tu dd (by omega) (fun A' R hA k => ?_) fun s' p out c L' kp g o' hp hg hout pm pw => ?_
  · refine collect_sz (kdl_raw hs hx hdt) (hA.trans (I.ok.hd hc)) ho (by rw [sizeLine_eq]; omega) fun h1 tk acc kp lt it => ?_
    have ea : acc.toList = L.map fun z => Value.ref z.1 := by
      have hl : acc.toList.length = ks.length := by rw [Array.length_toList, it.1]; exact l1
      have e4 : (L.map fun z => Value.ref z.1) = ks.map fun x => Value.ref x.2.1 := by
        have y := congrArg (List.map Value.ref) e1
        rw [List.map_map, List.map_map] at y
        exact y
      rw [e4]
      apply List.ext_getElem?
      intro j
      rw [List.getElem?_map]
      cases hj : acc.toList[j]? with
      | none =>
        have y := List.getElem?_eq_none_iff.mp hj
        rw [List.getElem?_eq_none (by omega)]
        rfl
      | some v =>
        obtain ⟨en, hen, hv⟩ := it.2 j v (by rw [← Array.getElem?_toList]; exact hj)
        have qe := entry_at he j
        rw [hen] at qe
        cases hb : ks[j]? with
        | none =>
          rw [hb] at qe
          exact nomatch (show some en = none from qe)
        | some b =>
          rw [hb] at qe
          have e5 : en = entryOfKey (tupleKind (mixKind X.prog X.w)) b := Option.some.inj qe
          rw [hv, e5]
          rfl
    rw [ea]
    exact k h1 tk kp lt
  · have hf : H p = none := I.hok.fresh hp
    have len : (L'.map fun q => V.ref q.1).length ≤ sizeLine := by rw [List.length_map, pm.length_eq, sizeLine_eq]; omega
    have hv : Vals (L'.map fun q => V.ref q.1) out.toList := by rw [hout]; exact vals_refs L'
    have J : Inv X pins σ (upd H p (.lst (L'.map fun q => V.ref q.1))) { s with heap := s'.heap, gens := s'.gens, drawn := s'.drawn, toks := s'.toks } :=
      I.call (ch := []) (Un.laid kp hp hf) (I.hok.laid kp hp ⟨len, out.toList, c, hv, hg⟩) (by rw [g]; exact I.bare) (fun _ z => nomatch z)
    have e : s' = { s with heap := s'.heap, gens := s'.gens, drawn := s'.drawn, toks := s'.toks } := by
      cases s'
      cases s
      cases o'
      rfl
    rw [e]
    refine ⟨.ref p, _, J, rfl, q L' p (fun t ht => e3 t (pm.mem_iff.mp ht)) ?_ pw hf⟩
    rw [← e2]
    exact pm.map fun q => q.2
end
end VS

set_option Elab.async false
set_option linter.all false
set_option maxRecDepth 100000
set_option maxHeartbeats 4000000
namespace VS
open PySem PySem.Spec PyProof.Rows L2 MS K01
section
variable {X : Cx}
/-! ### a list or a tuple, whichever it is -/
def iSeq (K : PySem.W.Frag) (tl : TE) : TI := fun σ H R => tl σ H fun x H1 => ∃ a, x = .ref a ∧ (((∃ xs, SqL K H1 a xs) ∧ R (Itl K a) H1) ∨ ((∃ xs, SqT K H1 a xs) ∧ R (Itt K a) H1))
theorem pi_seq {K : PySem.W.Frag} {tg l : Expr} {tl : TE} (hK : X.K = K) (hl : PE X l tl) : PI X tg l (iSeq K tl) := by
  subst hK
  refine ⟨fun pins s σ H R I h => thn (hl.run pins s σ H _ I h) fun v z1 y1 => ?_⟩
  obtain ⟨x, G, J, rx, a, rfl, c⟩ := y1
  cases rx
  have grow : ∀ o : Obj, Inv X pins σ G { z1 with heap := z1.heap.push o } := fun o => J.kept (t' := z1.toks) fun b u y => Heap.get?_push_of_some _ y
  have own : ∀ b ∈ [z1.heap.objs.size], FpOk X pins G b := fun b hb => by
    rw [List.mem_singleton.mp hb]
    exact J.fpOk (Nat.le_refl _) (J.hok.fresh (Nat.le_refl _))
  rcases c with ⟨⟨xs, hx⟩, q⟩ | ⟨⟨xs, hx⟩, q⟩
  · obtain ⟨its, rv, pl, _⟩ := J.list hx
    exact wpAny_pyIter_list pl.isList ⟨z1.heap.objs.size, [z1.heap.objs.size], _, _, G, rfl, grow _, turn_list a _, ⟨_, Heap.get?_push_size _ rfl, rfl, rfl⟩, own, q⟩
  · obtain ⟨its, rv, pt, _⟩ := J.tuple hx
    exact wpAny_pyIter_tuple (show z1.heap.IsTuple a its.toArray from pt) ⟨z1.heap.objs.size, [z1.heap.objs.size], _, _, G, rfl, grow _, turn_tuple a _, ⟨_, Heap.get?_push_size _ rfl, rfl, rfl⟩, own, q⟩
theorem sl_seq {K : PySem.W.Frag} (hK : X.K = K) : SlR X (fun x lo hi H Q => rSlA K x lo hi H Q ∨ rSlL K x lo hi H Q) := by
  subst hK
  intro pins s σ H x v vl vu lo hi sl Q I rx hs pl pu h
  rcases h with h | h
  · exact sl_tupA pins s σ H x v vl vu lo hi sl Q I rx hs pl pu h
  · exact sl_list pins s σ H x v vl vu lo hi sl Q I rx hs pl pu h
theorem sl_fromL {K : PySem.W.Frag} {H : Hp} {a : Addr} {xs : List V} {Q : VK} {lo : Int} {j : Nat} (hj : HT.sIx xs.length 0 (some lo) = j) (h : SqL K H a xs) (q : ∀ b H', Same H H' → SqL K H' b (xs.drop j) → Q (.ref b) H') : rSlL K (.ref a) (some lo) none H Q := by
  refine ⟨a, xs, rfl, h, fun p hp => ?_⟩
  obtain ⟨s1, e1⟩ := newo (o := .lst (cutV xs (some lo) none)) hp
  refine q p _ s1 (.inl (.inl ?_))
  rw [e1]
  unfold cutV
  rw [hj, HT.sIx_none, List.take_of_length_le (by rw [List.length_drop]; exact Nat.le_refl _)]
end
end VS

set_option Elab.async false
set_option linter.all false
set_option maxRecDepth 100000
set_option maxHeartbeats 4000000
namespace VS
open PySem PySem.Spec PyProof.Rows L2 MS K01
section
variable {J J1 : It} {n n1 : Nat} {G G1 : Hp → Prop} {Y Y1 : Nat → Hp → V → Hp → Prop}
/-- a dict comprehension of one clause over a walk -/
theorem dc1_it (w : Walk J n G Y) {g : TG} {tk tv : TE} {vs : List Nat} {σ : L2.St} {H1 : Hp} {D : Addr} {Qd : Hp → Prop} (Pv : Nat → Hp → Prop) (h0 : Pv 0 (upd H1 D (.dT []))) (hG : ∀ i H, i ≤ n → Pv i H → G H)
    (hs : ∀ i x H H', i < n → Pv i H → Y i H x H' → g x (wipe σ vs) H' fun σ2 H2 => wipe σ2 vs = wipe σ vs ∧ tk σ2 H2 fun y H6 => tv σ2 H6 fun v H7 => ∃ (a : Addr) (k : List Key) (kvs : List (List Key × V)), y = .ref a ∧ H7 a = some (.tup (k.map kV)) ∧ H7 D = some (.dT kvs) ∧ kvs.length < sizeLine ∧ Pv (i + 1) (upd H7 D (.dT (putK kvs k v)))) (hd : ∀ H, Pv n H → Qd H) :
    ∃ W : Nat → Nat → Hp → Prop, (∃ m, W 0 m (upd H1 D (.dT []))) ∧ ∀ i m H, W i m H → (J.stop i H ∧ Qd H) ∨ (J.go i H ∧ ∃ Nx : Hp → Prop, (∀ H', Nx H' → ∃ m', m' < m ∧ W (i + 1) m' H') ∧ ∀ x H', J.yld i H x H' → g x (wipe σ vs) H' fun σ2 H2 => wipe σ2 vs = wipe σ vs ∧
      tk σ2 H2 fun y H6 => tv σ2 H6 fun v H7 => ∃ (a : Addr) (k : List Key) (kvs : List (List Key × V)), y = .ref a ∧ H7 a = some (.tup (k.map kV)) ∧ H7 D = some (.dT kvs) ∧ kvs.length < sizeLine ∧ Nx (upd H7 D (.dT (putK kvs k v)))) := by
  refine ⟨fun i m H => m = n - i ∧ i ≤ n ∧ Pv i H, ⟨n, by simp, Nat.zero_le _, h0⟩, ?_⟩
  rintro i m H ⟨rfl, hi, p⟩
  have q := hG i H hi p
  by_cases hlt : i < n
  · exact .inr ⟨w.goes i H hlt q, Pv (i + 1), fun H' p' => ⟨n - (i + 1), by omega, rfl, hlt, p'⟩, fun x H' y => hs i x H H' hlt p (w.yields i H x H' hlt q y)⟩
  · have e : i = n := by omega
    subst e
    exact .inl ⟨w.stops H q, hd H p⟩
/-- the outer loop of a list comprehension of two clauses -/
theorem lc2_it (w : Walk J n G Y) {g : TG} {tt : TT} {wi1 : TI} {g1 : TG} {tt1 : TT} {te : TE} {vs vs1 : List Nat} {σ : L2.St} {H1 : Hp} {D : Addr} {Qd : Hp → Prop} (Pv : Nat → Hp → Prop) (h0 : Pv 0 (upd H1 D (.lst []))) (hG : ∀ i H, i ≤ n → Pv i H → G H)
    (hs : ∀ i x H H', i < n → Pv i H → Y i H x H' → g x (wipe σ vs) H' fun σ2 H2 => wipe σ2 vs = wipe σ vs ∧ tt σ2 H2 fun b H3 => if b = true then wi1 σ2 H3 fun J1 H4 => ∃ W1 : Nat → Nat → Hp → Prop, (∃ m, W1 0 m H4) ∧ ∀ j k H, W1 j k H →
      (J1.stop j H ∧ Pv (i + 1) H) ∨ (J1.go j H ∧ ∃ Nx1 : Hp → Prop, (∀ H', Nx1 H' → ∃ k', k' < k ∧ W1 (j + 1) k' H') ∧ ∀ x H', J1.yld j H x H' → g1 x (wipe σ2 vs1) H' fun σ3 H5 => wipe σ3 vs1 = wipe σ2 vs1 ∧ tt1 σ3 H5 fun b H6 =>
        if b = true then te σ3 H6 fun y H7 => ∃ acc, H7 D = some (.lst acc) ∧ acc.length < sizeLine ∧ Nx1 (upd H7 D (.lst (acc ++ [y]))) else Nx1 H6)
      else Pv (i + 1) H3) (hd : ∀ H, Pv n H → Qd H) :
    ∃ W : Nat → Nat → Hp → Prop, (∃ m, W 0 m (upd H1 D (.lst []))) ∧ ∀ i m H, W i m H →
  (J.stop i H ∧ Qd H) ∨ (J.go i H ∧ ∃ Nx : Hp → Prop, (∀ H', Nx H' → ∃ m', m' < m ∧ W (i + 1) m' H') ∧ ∀ x H', J.yld i H x H' → g x (wipe σ vs) H' fun σ2 H2 => wipe σ2 vs = wipe σ vs ∧ tt σ2 H2 fun b H3 =>
    if b = true then wi1 σ2 H3 fun J1 H4 => ∃ W1 : Nat → Nat → Hp → Prop, (∃ m, W1 0 m H4) ∧ ∀ j k H, W1 j k H →
      (J1.stop j H ∧ Nx H) ∨ (J1.go j H ∧ ∃ Nx1 : Hp → Prop, (∀ H', Nx1 H' → ∃ k', k' < k ∧ W1 (j + 1) k' H') ∧ ∀ x H', J1.yld j H x H' → g1 x (wipe σ2 vs1) H' fun σ3 H5 => wipe σ3 vs1 = wipe σ2 vs1 ∧ tt1 σ3 H5 fun b H6 =>
        if b = true then te σ3 H6 fun y H7 => ∃ acc, H7 D = some (.lst acc) ∧ acc.length < sizeLine ∧ Nx1 (upd H7 D (.lst (acc ++ [y]))) else Nx1 H6)
    else Nx H3) := by
  refine ⟨fun i m H => m = n - i ∧ i ≤ n ∧ Pv i H, ⟨n, by simp, Nat.zero_le _, h0⟩, ?_⟩
  rintro i m H ⟨rfl, hi, p⟩
  have q := hG i H hi p
  by_cases hlt : i < n
  · exact .inr ⟨w.goes i H hlt q, Pv (i + 1), fun H' p' => ⟨n - (i + 1), by omega, rfl, hlt, p'⟩, fun x H' y => hs i x H H' hlt p (w.yields i H x H' hlt q y)⟩
  · have e : i = n := by omega
    subst e
    exact .inl ⟨w.stops H q, hd H p⟩
/-- its inner loop -/
theorem lc2_in (w : Walk J1 n1 G1 Y1) {g1 : TG} {tt1 : TT} {te : TE} {vs1 : List Nat} {σ : L2.St} {H4 : Hp} {D : Addr} {Nx : Hp → Prop} (Pv : Nat → Hp → Prop) (h0 : Pv 0 H4) (hG : ∀ i H, i ≤ n1 → Pv i H → G1 H)
    (hs : ∀ j x H H', j < n1 → Pv j H → Y1 j H x H' → g1 x (wipe σ vs1) H' fun σ3 H5 => wipe σ3 vs1 = wipe σ vs1 ∧ tt1 σ3 H5 fun b H6 =>
        if b = true then te σ3 H6 fun y H7 => ∃ acc, H7 D = some (.lst acc) ∧ acc.length < sizeLine ∧ Pv (j + 1) (upd H7 D (.lst (acc ++ [y]))) else Pv (j + 1) H6) (hd : ∀ H, Pv n1 H → Nx H) :
    ∃ W1 : Nat → Nat → Hp → Prop, (∃ m, W1 0 m H4) ∧ ∀ j k H, W1 j k H →
      (J1.stop j H ∧ Nx H) ∨ (J1.go j H ∧ ∃ Nx1 : Hp → Prop, (∀ H', Nx1 H' → ∃ k', k' < k ∧ W1 (j + 1) k' H') ∧ ∀ x H', J1.yld j H x H' → g1 x (wipe σ vs1) H' fun σ3 H5 => wipe σ3 vs1 = wipe σ vs1 ∧ tt1 σ3 H5 fun b H6 =>
        if b = true then te σ3 H6 fun y H7 => ∃ acc, H7 D = some (.lst acc) ∧ acc.length < sizeLine ∧ Nx1 (upd H7 D (.lst (acc ++ [y]))) else Nx1 H6) := by
  refine ⟨fun i m H => m = n1 - i ∧ i ≤ n1 ∧ Pv i H, ⟨n1, by simp, Nat.zero_le _, h0⟩, ?_⟩
  rintro i m H ⟨rfl, hi, p⟩
  have q := hG i H hi p
  by_cases hlt : i < n1
  · exact .inr ⟨w.goes i H hlt q, Pv (i + 1), fun H' p' => ⟨n1 - (i + 1), by omega, rfl, hlt, p'⟩, fun x H' y => hs i x H H' hlt p (w.yields i H x H' hlt q y)⟩
  · have e : i = n1 := by omega
    subst e
    exact .inl ⟨w.stops H q, hd H p⟩
end
theorem yes_if {σ : L2.St} {H : Hp} {A B : Hp → Prop} (h : A H) : tYes σ H (fun b H3 => if b = true then A H3 else B H3) := by
  dsimp only [tYes]
  rw [if_pos rfl]
  exact h
theorem kit_any1 {K : PySem.W.Frag} {t c : Value} {r : List Value} (h : PySem.W.kitOne K t c = some true) : PySem.W.kitAny K t (c :: r) = some true := by
  unfold PySem.W.kitAny
  rw [h]
theorem put_in {kvs : List (DK × V)} {k : DK} {v : V} {e : DK × V} (h : e ∈ putK kvs k v) : e = (k, v) ∨ (e ∈ kvs ∧ e.1 ≠ k) := by
  unfold putK at h
  split at h
  · obtain ⟨f, hf, e1⟩ := List.mem_map.mp h
    by_cases z : f.1 = k
    · rw [if_pos z] at e1
      left
      rw [← e1, z]
    · rw [if_neg z] at e1
      right
      rw [← e1]
      exact ⟨hf, z⟩
  · rename_i no
    rcases List.mem_append.mp h with h | h
    · right
      refine ⟨h, fun z => no ?_⟩
      exact List.any_eq_true.mpr ⟨e, h, decide_eq_true z⟩
    · left
      exact List.mem_singleton.mp h
open Classical in
theorem put_keys {kvs : List (DK × V)} {k : DK} {v : V} : (putK kvs k v).map (fun e => e.1) = if k ∈ kvs.map (fun e => e.1) then kvs.map (fun e => e.1) else kvs.map (fun e => e.1) ++ [k] := by
  have iff : (kvs.any fun kv => decide (kv.1 = k)) = true ↔ k ∈ kvs.map (fun e => e.1) := by
    rw [List.any_eq_true, List.mem_map]
    exact ⟨fun ⟨e, h1, h2⟩ => ⟨e, h1, of_decide_eq_true h2⟩, fun ⟨e, h1, h2⟩ => ⟨e, h1, decide_eq_true h2⟩⟩
  unfold putK
  by_cases h : k ∈ kvs.map (fun e => e.1)
  · rw [if_pos (iff.mpr h), if_pos h, List.map_map]
    apply List.map_congr_left
    intro e _
    show (if e.1 = k then (e.1, v) else e).1 = e.1
    split <;> rfl
  · rw [if_neg (fun z => h (iff.mp z)), if_neg h, List.map_append]
    rfl
theorem put_nodup {kvs : List (DK × V)} {k : DK} {v : V} (h : (kvs.map fun e => e.1).Nodup) : ((putK kvs k v).map fun e => e.1).Nodup := by
  rw [put_keys]
  split
  · exact h
  · rename_i no
    rw [List.nodup_append]
    refine ⟨h, by simp, fun a ha b hb z => no ?_⟩
    rw [List.mem_singleton.mp hb] at z
    rw [← z]
    exact ha
theorem val_in {kvs : List (DK × V)} {k : DK} (h : k ∈ kvs.map fun e => e.1) : ∃ v, valV kvs k = some v ∧ (k, v) ∈ kvs := by
  obtain ⟨e, he, hk⟩ := List.mem_map.mp h
  unfold valV
  cases z : kvs.find? fun kv => decide (kv.1 = k) with
  | none =>
    have y := List.find?_eq_none.mp z e he
    exact absurd (decide_eq_true hk) y
  | some f =>
    have y := List.find?_some z
    have y : f.1 = k := of_decide_eq_true y
    refine ⟨f.2, rfl, ?_⟩
    rw [← y]
    exact List.mem_of_find?_eq_some z
theorem val_no {kvs : List (DK × V)} {k : DK} (h : k ∉ kvs.map fun e => e.1) : valV kvs k = none := by
  unfold valV
  cases z : kvs.find? fun kv => decide (kv.1 = k) with
  | none => rfl
  | some f =>
    have y := List.find?_some z
    have y : f.1 = k := of_decide_eq_true y
    exact absurd (List.mem_map.mpr ⟨f, List.mem_of_find?_eq_some z, y⟩) h
theorem val_some {kvs : List (DK × V)} {k : DK} : (valV kvs k).isSome = true ↔ k ∈ kvs.map fun e => e.1 := by
  by_cases h : k ∈ kvs.map fun e => e.1
  · obtain ⟨v, e, _⟩ := val_in h
    rw [e]
    exact ⟨fun _ => h, fun _ => rfl⟩
  · rw [val_no h]
    exact Iff.intro (fun z => Bool.noConfusion z) (fun z => absurd z h)
end VS

set_option Elab.async false
set_option linter.all false
set_option maxRecDepth 100000
set_option maxHeartbeats 4000000
namespace VS
open PySem PySem.Spec PyProof.Rows L2 MS K01
section
variable {X : Cx}
/-! ### xs == [] -/
def rEqNil (K : PySem.W.Frag) : R2 := fun x y H Q => ∃ (a b : Addr) (xs : List V), x = .ref a ∧ y = .ref b ∧ SqL K H a xs ∧ SqL K H b [] ∧ Q (.bl xs.isEmpty) H
theorem op_eqNil {K : PySem.W.Frag} (hK : X.K = K) (hu : X.A.units < cLine) : OpR X (compareOp .Eq) (rEqNil K) := by
  subst hK
  intro pins s σ H x y v u Q I rx ry h
  obtain ⟨a, b, xs, rfl, rfl, ha, hb, q⟩ := h
  cases rx
  cases ry
  obtain ⟨its, r1, p1, _⟩ := I.list ha
  obtain ⟨its2, r2, p2, _⟩ := I.list hb
  cases r2
  obtain ⟨⟨cls, dd, data, sl⟩, n, ho, hc, _, hd⟩ := p1
  obtain ⟨⟨cls2, dd2, data2, sl2⟩, n2, ho2, hc2, _, hd2⟩ := p2
  simp only at hc hd hc2 hd2
  subst hc hd hc2 hd2
  cases r1 with
  | nil =>
    exact richCompare_meets_room (op := .Eq) ⟨_, ho, rfl⟩ ⟨_, ho2, rfl⟩ PySem.F.slot_list_eq PySem.F.entry_list_eq (PySem.F.args_list_eq_2 _ _) (SeqAt.list_eqAt a b _ _ n n2 dd dd2 sl sl2 rfl fun _ => false)
      ⟨ho, ho2, (fun j h1 h2 => absurd h1 (by simp)), (fun z => nomatch z), ⟨.bl _, H, I, rfl, q⟩⟩ hu
  | cons r t =>
    exact richCompare_meets_room (op := .Eq) ⟨_, ho, rfl⟩ ⟨_, ho2, rfl⟩ PySem.F.slot_list_eq PySem.F.entry_list_eq (PySem.F.args_list_eq_2 _ _) (SeqAt.list_eq_lengthsAt a b _ _ n n2 dd dd2 sl sl2 (by simp))
      ⟨ho, ho2, (fun z => nomatch z), ⟨.bl _, H, I, rfl, q⟩⟩ hu
theorem op_neNilK {K : PySem.W.Frag} (hK : X.K = K) (hu : X.A.units < cLine) : OpR X (compareOp .NotEq) (rNeNil K) := by
  subst hK
  exact op_neNil hu
theorem op_neDK {K : PySem.W.Frag} (hK : X.K = K) (hu : X.A.units + 64 < cLine) : OpR X (compareOp .NotEq) (rNeD K) := by
  subst hK
  exact op_neD hu
end
theorem perm_lift {α β : Type} (g : α → β) : ∀ {m l : List β}, m.Perm l → ∀ {L : List α}, L.map g = l → ∃ L' : List α, L'.Perm L ∧ L'.map g = m := by
  intro m l h
  induction h with
  | nil => intro L e; exact ⟨L, .refl _, e⟩
  | cons x _ ih =>
    intro L e
    cases L with
    | nil => cases e
    | cons a L =>
      rw [List.map_cons, List.cons.injEq] at e
      obtain ⟨L', p, e'⟩ := ih e.2
      exact ⟨a :: L', p.cons a, by rw [List.map_cons, e', e.1]⟩
  | swap x y l =>
    intro L e
    match L, e with
    | a :: b :: L, e =>
      simp only [List.map_cons, List.cons.injEq] at e
      exact ⟨b :: a :: L, .swap _ _ _, by rw [List.map_cons, List.map_cons, e.1, e.2.1, e.2.2]⟩
  | trans _ _ ih1 ih2 =>
    intro L e
    obtain ⟨L2, p2, e2⟩ := ih2 e
    obtain ⟨L1, p1, e1⟩ := ih1 e2
    exact ⟨L1, p1.trans p2, e1⟩
end VS

set_option Elab.async false
set_option linter.all false
set_option maxRecDepth 100000
set_option maxHeartbeats 4000000
namespace K01
open PySem PySem.Spec PyProof.Rows L2 MS
def topS (i : Nat) : Stmt := PySem.Challenge.pw_heldhints_k03_cells_joined.main.body.getD i (.Pass ⟨0, 0, 0, 0⟩)
section
variable {P : Program} {w : World} {K : PySem.W.Frag} {mg : PySem.Str → Option Value} {base : Heap} {f : Addr} {fd : FuncData} {k : Nat}
theorem sc_whole : FnScope ["thing"] ["thing"] (defScope (topS 3)) := ⟨rfl, rfl, rfl, by decide +kernel, rfl, by decide +kernel, by decide +kernel⟩
theorem ok_whole (B : Bt mg) (F : Fun K "is_whole" "is_whole" (topS 3) f fd) : FnOk P w K mg base CX0 (k + 1) f fd ["thing"] (spWhole K) := by
  refine F.ok sc_whole (fun vs H Q E h => ?_) (fun cdv A outer s H vs Q E hr h => ?_)
  · obtain ⟨v, d, rfl, _⟩ := h; rfl
  · obtain ⟨v, d, rfl, hd, q⟩ := h
    refine ⟨_, pss_one (ps_ret (pe_and (pe_callB call_isi (by rfl) B.isi boot_isinstance (pa_cons (pv 0) (pa_cons (pe_bltn (v := .ty "int") (by rfl) B.int (by decide +kernel) rfl) pa_nil)))
      (pe_one (pe_not (pe_callB call_isi (by rfl) B.isi boot_isinstance (pa_cons (pv 0) (pa_cons (pe_bltn (v := .ty "bool") (by rfl) B.bool (by decide +kernel) rfl) pa_nil))))))), ?_⟩
    have ty := tyx_of hd
    refine ⟨v, rfl, v, .ty "int", _, _, _, rfl, .ty "int", ty, kit_ty (kb_int d), _, rfl, ?_⟩
    cases d with
    | int i => exact iteT ⟨v, rfl, v, .ty "bool", _, _, _, rfl, .ty "bool", ty, kit_ty (kb_bool _), _, rfl, q⟩
    | bool b => exact iteT ⟨v, rfl, v, .ty "bool", _, _, _, rfl, .ty "bool", ty, kit_ty (kb_bool _), _, rfl, q⟩
    | _ => exact iteF q
theorem sc_word : FnScope ["thing", "letter"] ["thing"] (defScope (topS 4)) := ⟨rfl, rfl, rfl, by decide +kernel, rfl, by decide +kernel, by decide +kernel⟩
theorem ok_word (B : Bt mg) (gL : ∃ t, mg "LETTERS" = some (.str letters t)) (gM : ∃ t, mg "LONGEST_WORD" = some (.int 6 t)) (F : Fun K "is_word" "is_word" (topS 4) f fd) : FnOk P w K mg base CX0 (k + 1) f fd ["thing"] (spWord K) := by
  obtain ⟨tL, gL⟩ := gL
  obtain ⟨tM, gM⟩ := gM
  refine F.ok sc_word (fun vs H Q E h => ?_) (fun cdv A outer s H vs Q E hr h => ?_)
  · obtain ⟨v, d, rfl, _⟩ := h; rfl
  · obtain ⟨v, d, rfl, hd, q⟩ := h
    refine ⟨_, pss_cons (ps_if (PW.pt (pw_or (pt_not (pt_val (pe_callB call_isi (by rfl) B.isi boot_isinstance (pa_cons (pv 0) (pa_cons (pe_bltn (v := .ty "str") (by rfl) B.str (by decide +kernel) rfl) pa_nil)))))
        (pw_or1 (pt_not (pt_chain op_le op_le pe_int (pe_callB call_len_str (by rfl) B.len PySem.boot_len (pa_cons (pv 0) pa_nil)) (pe_glob (v := .int 6) (by rfl) gM ⟨_, rfl⟩)))))) (pss_one (ps_ret pe_bl)) pss_nil)
      (pss_one (ps_ret (pe_callB (cr_all (by rfl)) (by rfl) B.all boot_all (pa_cons (pe_lc (own := [("letter", 1)]) (g := gName 1) (tt := tYes) (by rfl) sc_word.nd (pi_str (pv 0)) (blkOk_by (own := [("letter", 1)]) (N := ["thing", "letter"]) (sc := defScope (topS 4)) (by decide +kernel))
        (fun _ _ _ _ _ => pg_name (i := 1) sc_word.nd rfl (Or.inl rfl)) (fun _ _ _ _ _ => pts_nil) (fun _ _ _ _ _ => pe_cmpR op_in_sign (pv 1) (pe_glob (v := .str letters) (by rfl) gL ⟨_, rfl⟩) (by rfl))) pa_nil)))), ?_⟩
    have ty := tyx_of hd
    refine ⟨v, rfl, v, .ty "str", _, _, _, rfl, .ty "str", ty, kit_ty (kb_str d), _, rfl, ?_⟩
    have no : ∀ {d : PyData}, (∀ x, d ≠ .str x) → dWord d = false := fun {d} z => by cases d <;> first | rfl | exact absurd rfl (z _)
    cases d with
    | str x =>
      have hv : v = .str x := by
        rcases hd.2 with z | ⟨_, _, _, z⟩
        · cases z; rfl
        · cases z
      subst hv
      have hx : x.length ≤ 1000 := by
        have z := hd.1
        rw [short] at z
        exact of_decide_eq_true z
      refine iteF ⟨_, rfl, x, rfl, (by rw [sizeLine_eq]; omega), 1, (x.length : Int), rfl, rfl, _, rfl, ?_⟩
      have e1 : decide ((1 : Int) ≤ (x.length : Int)) = decide (1 ≤ x.length) := decide_eq_decide.mpr (by omega)
      have e2 : decide ((x.length : Int) ≤ 6) = decide (x.length ≤ 6) := decide_eq_decide.mpr (by omega)
      have qf : (decide (1 ≤ x.length) && decide (x.length ≤ 6)) = false → Q (.bl false) H := fun z => by
        have y := q H (Same.refl _)
        have e : dWord (.str x) = false := by
          show wordOk x = false
          unfold wordOk
          rw [z]
          rfl
        rw [e] at y
        exact y
      rw [e1]
      by_cases h1 : 1 ≤ x.length
      · rw [decide_eq_true h1]
        refine iteT ⟨_, _, rfl, rfl, _, rfl, ?_⟩
        rw [e2]
        by_cases h2 : x.length ≤ 6
        · rw [decide_eq_true h2]
          refine iteF ⟨_, rfl, x, rfl, fun D hD => lc_it (walk_str (z := x)) (fun i H' => Same H H' ∧ H' D = some (.lst (((x.cps.toList.take i).map fun c => decide (c ∈ letters.cps.toList)).map V.bl))) ⟨(newo hD).1, (newo hD).2⟩ (fun _ _ _ _ => trivial) (fun i y H1 H2 hi hP hy => ?_) (fun H1 hP => ?_)⟩
          · obtain ⟨rfl, c, hc, rfl⟩ := hy
            obtain ⟨sm, hl⟩ := hP
            refine ⟨rfl, ?_⟩
            dsimp only [tYes]
            rw [if_pos rfl]
            have hc' : x.cps.toList[i]? = some c := by rw [Array.getElem?_toList]; exact hc
            refine ⟨_, rfl, c, letters, rfl, rfl, _, hl, ?_, same_but hD sm, ?_⟩
            · rw [List.length_map, List.length_map, List.length_take, sizeLine_eq]
              have : x.cps.toList.length = x.length := rfl
              omega
            · rw [upd_same, take_snoc hc', List.map_append, List.map_append]
              rfl
          · obtain ⟨sm, hl⟩ := hP
            have e0 : x.cps.toList.take x.cps.size = x.cps.toList := List.take_of_length_le (by simp)
            rw [e0] at hl
            refine ⟨D, _, rfl, .inl (.inl hl), ?_⟩
            have y := q H1 sm
            have e : dWord (.str x) = ((x.cps.toList.map fun c => decide (c ∈ letters.cps.toList)).all id) := by
              show wordOk x = _
              unfold wordOk
              rw [decide_eq_true h1, decide_eq_true h2, List.all_map]
              rfl
            rw [e] at y
            exact y
        · rw [decide_eq_false h2]
          exact iteT (qf (by rw [decide_eq_false h2, Bool.and_false]))
      · rw [decide_eq_false h1]
        exact iteF ⟨_, rfl, iteT (qf (by rw [decide_eq_false h1, Bool.false_and]))⟩
    | _ => exact iteT (iteT (q H (Same.refl _)))
theorem sc_ris : FnScope ["row", "one", "other"] ["row"] (defScope (topS 5)) := ⟨rfl, rfl, rfl, by decide +kernel, rfl, by decide +kernel, by decide +kernel⟩
theorem ok_ris (B : Bt mg) (F : Fun K "rises" "rises" (topS 5) f fd) : FnOk P w K mg base CX0 (k + 1) f fd ["row"] (spRis K) := by
  refine F.ok sc_ris (fun vs H Q E h => ?_) (fun cdv A outer s H vs Q E hr h => ?_)
  · obtain ⟨a, ks, rfl, _⟩ := h; rfl
  · obtain ⟨a, ks, rfl, ht, d3, few, q⟩ := h
    obtain ⟨L, hL, dL, rfl⟩ := ht
    refine ⟨_, pss_one (ps_ret (pe_callB (cr_all (by rfl)) (by rfl) B.all boot_all (pa_cons (pe_lc (own := [("one", 1), ("other", 2)]) (g := gTup K 2 (gCons (gName 1) (gCons (gName 2) gNil))) (tt := tYes) (by rfl) sc_ris.nd
      (RZ.pi_zipA (by rfl) B.zip (pa_cons (pv 0) (pa_cons (pe_slice sl_tupA (pv 0) (po_some pe_int) po_none) pa_nil))) (blkOk_by (own := [("one", 1), ("other", 2)]) (N := ["row", "one", "other"]) (sc := defScope (topS 5)) (by decide +kernel))
      (fun _ _ _ _ _ => pg_tup rfl (pgs_cons (pg_name (i := 1) sc_ris.nd rfl (Or.inl rfl)) (pgs_cons (pg_name (i := 2) sc_ris.nd rfl (Or.inl rfl)) pgs_nil))) (fun _ _ _ _ _ => pts_nil) (fun _ _ _ _ _ => pe_cmpR (op_ltDK (K := K) rfl (hu_lt hr)) (pv 1) (pv 2) (nomark _))) pa_nil))), ?_⟩
    rw [List.length_map] at few
    refine ⟨_, rfl, _, rfl, 1, rfl, ?_⟩
    dsimp only [tNoPart]
    refine sl_from (j := min 1 L.length) (by rw [List.length_map]; exact HT.sIx_nat _ _ 1) hL fun b H1 s1 hb => ?_
    have eb : (L.map fun p => V.ref p.1).drop (min 1 L.length) = (L.drop 1).map fun p => V.ref p.1 := by
      rw [List.map_drop]
      cases L with
      | nil => rfl
      | cons p r => simp
    rw [eb] at hb
    have hL1 := same_sqT s1 hL
    refine ⟨a, b, _, _, rfl, .inr ⟨hL1, hb, fun D hD => lc_it (walk_zipT (n := L.length - 1) (xs := L.map fun p => V.ref p.1) (ys := (L.drop 1).map fun p => V.ref p.1) (by rw [List.length_map, List.length_map, List.length_drop]; omega))
      (fun i H' => Same H1 H' ∧ H' D = some (.lst (((List.zipWith dlt (L.map (·.2)) ((L.map (·.2)).drop 1)).take i).map V.bl))) ⟨(newo hD).1, (newo hD).2⟩ (fun i H' _ hP => ⟨same_sqT hP.1 hL1, same_sqT hP.1 hb⟩) (fun i y G1 G2 hi hP hy => ?_) (fun G1 hP => ?_)⟩⟩
    · obtain ⟨T, x, z, rfl, nT, rfl, hx, hz⟩ := hy
      obtain ⟨sm, hl⟩ := hP
      obtain ⟨sT, eT⟩ := newo (o := .tup [x, z]) nT
      have hlt : i < L.length := by omega
      have hlt2 : i + 1 < L.length := by omega
      dsimp only at hx hz
      rw [List.getElem?_map, List.getElem?_eq_getElem hlt] at hx
      rw [List.getElem?_map, List.getElem?_drop, Nat.add_comm 1 i, List.getElem?_eq_getElem hlt2] at hz
      obtain rfl := (Option.some.inj hx).symm
      obtain rfl := (Option.some.inj hz).symm
      refine ⟨T, _, rfl, .inl (.inl eT), rfl, _, _, rfl, _, _, rfl, rfl, rfl, ?_⟩
      dsimp only [tYes]
      rw [if_pos rfl]
      have m1 : L[i] ∈ L := List.getElem_mem hlt
      have m2 : L[i + 1] ∈ L := List.getElem_mem hlt2
      have sG : Same H (upd G1 T (.tup [V.ref L[i].1, V.ref L[i + 1].1])) := s1.trans (sm.trans sT)
      refine ⟨_, rfl, _, rfl, L[i].1, L[i + 1].1, L[i].2, L[i + 1].2, rfl, rfl, d3 _ (List.mem_map_of_mem m1), d3 _ (List.mem_map_of_mem m2), same_sqT sG (dL _ m1), same_sqT sG (dL _ m2), _, sT _ _ hl, ?_, same_but hD (sm.trans sT), ?_⟩
      · rw [List.length_map, List.length_take, List.length_zipWith, List.length_map, sizeLine_eq]
        omega
      · have e : (List.zipWith dlt (L.map (·.2)) ((L.map (·.2)).drop 1))[i]? = some (dlt L[i].2 L[i + 1].2) := by
          rw [List.getElem?_zipWith, List.getElem?_map, List.getElem?_eq_getElem hlt, List.getElem?_drop, Nat.add_comm 1 i, List.getElem?_map, List.getElem?_eq_getElem hlt2]
          rfl
        rw [upd_same, take_snoc e, List.map_append]
        rfl
    · obtain ⟨sm, hl⟩ := hP
      rw [List.take_of_length_le (by rw [List.length_zipWith, List.length_map, List.length_drop, List.length_map]; omega)] at hl
      exact ⟨D, _, rfl, .inl (.inl hl), q G1 (s1.trans sm)⟩
theorem sc_dot : FnScope ND ["thing"] (defScope (topS 8)) := ⟨rfl, rfl, rfl, by decide +kernel, rfl, by decide +kernel, by decide +kernel⟩
theorem ok_dot (B : Bt mg) (gG : ∃ t, mg "GREATEST_NUMBER" = some (.int 1000000000000 t)) (cW : Ca P w K mg base 1 "is_whole" ["thing"] (spWhole K)) (cV : Ca P w K mg base 1 "is_word" ["thing"] (spWord K)) (F : Fun K "is_dot" "is_dot" (topS 8) f fd) : FnOk P w K mg base CX0 2 f fd ["thing"] (spDot K) := by
  obtain ⟨tG, gG⟩ := gG
  refine F.ok sc_dot (fun vs H Q E h => ?_) (fun cdv A outer s H vs Q E hr h => ?_)
  · obtain ⟨v, o, rfl, _⟩ := h; rfl
  · obtain ⟨v, o, rfl, hv, q⟩ := h
    refine ⟨_, pss_cons (ps_if (PW.pt (pw_or (pt_not (pt_val (pe_callB call_isi (by rfl) B.isi boot_isinstance (pa_cons (pv 0) (pa_cons (pe_bltn (v := .ty "tuple") (by rfl) B.tuple (by decide +kernel) rfl) pa_nil)))))
        (pw_or1 (pt_cmpR op_ne (pe_callB call_len_seq (by rfl) B.len PySem.boot_len (pa_cons (pv 0) pa_nil)) pe_int (nomark _))))) (pss_one (ps_ret pe_bl)) pss_nil)
      (pss_cons (ps_asg (pv 0) (pg_tup (by rfl) (pgs_cons (pg_name (i := 1) sc_dot.nd rfl (.inl rfl)) (pgs_cons (pg_name (i := 2) sc_dot.nd rfl (.inl rfl)) (pgs_cons (pg_name (i := 3) sc_dot.nd rfl (.inl rfl)) pgs_nil)))))
      (pss_cons (ps_if (PW.pt (pw_or (pt_not (pt_val (pe_ca cW hr (by rfl) pass0 (pa_cons (pv 1) pa_nil)))) (pw_or (pt_not (pt_val (pe_ca cW hr (by rfl) pass0 (pa_cons (pv 3) pa_nil)))) (pw_or1 (pt_not (pt_val (pe_ca cV hr (by rfl) pass0 (pa_cons (pv 2) pa_nil)))))))) (pss_one (ps_ret pe_bl)) pss_nil)
      (pss_one (ps_ret (pe_and (pe_chain op_le op_le pe_int (pv 1) (pe_glob (v := .int 1000000000000) (by rfl) gG ⟨_, rfl⟩)) (pe_one (pe_cmpR op_ge (pv 3) pe_int (nomark _)))))))), ?_⟩
    cases hv with
    | no ty b => exact ⟨v, rfl, v, .ty "tuple", _, _, _, rfl, .ty "tuple", ty, kit_ty b, _, rfl, iteT (iteT (q H (Same.refl _)))⟩
    | @tup a xs ds hx hp =>
      refine ⟨_, rfl, _, .ty "tuple", _, _, true, rfl, .ty "tuple", tyx_tup hx, kit_ty (by decide +kernel), _, rfl, iteF ⟨_, rfl, a, xs, rfl, .inr hx, rfl, _, rfl, ?_⟩⟩
      by_cases h3 : xs.length = 3
      · rw [decide_eq_true (show V.int (xs.length : Int) = V.int 3 by rw [h3]; rfl)]
        refine iteF ?_
        obtain ⟨x1, x2, x3, d1, d2, d3, rfl, rfl, r1, r2, r3⟩ := len3 hp h3
        · clear h3
          refine ⟨_, rfl, a, _, rfl, hx, rfl, _, _, rfl, _, _, rfl, _, _, rfl, rfl, ?_⟩
          refine ⟨_, rfl, x1, d1, rfl, r1, _, rfl, ?_⟩
          cases h1 : dWh d1 with
          | false =>
            refine iteT (iteT ?_)
            have y := q H (Same.refl _)
            rw [show dotO (some [d1, d2, d3]) = false from dot3_1 h1] at y
            exact y
          | true =>
            refine iteF ⟨_, rfl, x3, d3, rfl, r3, _, rfl, ?_⟩
            cases h3 : dWh d3 with
            | false =>
              refine iteT (iteT ?_)
              have y := q H (Same.refl _)
              rw [show dotO (some [d1, d2, d3]) = false from dot3_3 h3] at y
              exact y
            | true =>
              refine iteF ⟨_, rfl, x2, d2, rfl, r2, fun H1 s1 => ⟨_, rfl, ?_⟩⟩
              cases h2 : dWord d2 with
              | false =>
                refine iteT ?_
                have y := q H1 s1
                rw [show dotO (some [d1, d2, d3]) = false from dot3_2 h2] at y
                exact y
              | true =>
                refine iteF ?_
                obtain ⟨n, rfl⟩ : ∃ n, d1 = .int n := by cases d1 <;> first | exact ⟨_, rfl⟩ | (simp [dWh] at h1)
                obtain ⟨l, rfl⟩ : ∃ n, d3 = .int n := by cases d3 <;> first | exact ⟨_, rfl⟩ | (simp [dWh] at h3)
                obtain ⟨x, rfl⟩ : ∃ n, d2 = .str n := by cases d2 <;> first | exact ⟨_, rfl⟩ | (simp [dWord] at h2)
                have hx1 : x1 = .int n := by
                  rcases r1.2 with z | ⟨_, _, _, z⟩
                  · cases z; rfl
                  · cases z
                have hx3 : x3 = .int l := by
                  rcases r3.2 with z | ⟨_, _, _, z⟩
                  · cases z; rfl
                  · cases z
                subst hx1 hx3
                have y := q H1 s1
                have hw : wordOk x = true := h2
                have ed : dotO (some [.int n, .str x, .int l]) = (decide (1 ≤ n) && decide (n ≤ 1000000000000) && decide (1 ≤ l)) := by
                  show (wordOk x && _) = _
                  rw [hw, Bool.true_and]
                rw [ed] at y
                refine ⟨_, rfl, 1, n, rfl, rfl, _, rfl, ?_⟩
                cases e1 : decide (1 ≤ n) with
                | false =>
                  rw [e1] at y
                  exact iteF ⟨_, rfl, iteF y⟩
                | true =>
                  rw [e1] at y
                  refine iteT ⟨_, _, rfl, rfl, _, rfl, ?_⟩
                  cases e2 : decide (n ≤ 1000000000000) with
                  | false =>
                    rw [e2] at y
                    exact iteF y
                  | true =>
                    rw [e2] at y
                    exact iteT ⟨_, rfl, _, _, rfl, rfl, y⟩
      · rw [decide_eq_false (show ¬ V.int (xs.length : Int) = V.int 3 from fun z => h3 (by have := V.int.inj z; omega))]
        refine iteT ?_
        have y := q H (Same.refl _)
        have e : dotO (some ds) = false := dotO_no (by rw [← plen hp]; exact h3)
        rw [e] at y
        exact y
theorem sc_kn : FnScope ["thing", "dot"] ["thing"] (defScope (topS 9)) := ⟨rfl, rfl, rfl, by decide +kernel, rfl, by decide +kernel, by decide +kernel⟩
theorem ok_kn (B : Bt mg) (cD : Ca P w K mg base 2 "is_dot" ["thing"] (spDot K)) (cR : Ca P w K mg base 1 "rises" ["row"] (spRis K)) (F : Fun K "is_known" "is_known" (topS 9) f fd) : FnOk P w K mg base CX0 3 f fd ["thing"] (spKn K) := by
  refine F.ok sc_kn (fun vs H Q E h => ?_) (fun cdv A outer s H vs Q E hr h => ?_)
  · obtain ⟨v, o, rfl, _⟩ := h; rfl
  · obtain ⟨v, o, rfl, hv, few, q⟩ := h
    refine ⟨_, pss_cons (ps_if (PW.pt (pw_or (pt_not (pt_val (pe_callB call_isi (by rfl) B.isi boot_isinstance (pa_cons (pv 0) (pa_cons (pe_bltn (v := .ty "tuple") (by rfl) B.tuple (by decide +kernel) rfl) pa_nil)))))
        (pw_or1 (pt_not (pt_val (pe_callB (cr_all (by rfl)) (by rfl) B.all boot_all (pa_cons (pe_lc (own := [("dot", 1)]) (g := gName 1) (tt := tYes) (by rfl) sc_kn.nd (pi_tup (pv 0)) (blkOk_by (own := [("dot", 1)]) (N := ["thing", "dot"]) (sc := defScope (topS 9)) (by decide +kernel))
          (fun _ _ _ _ _ => pg_name (i := 1) sc_kn.nd rfl (Or.inl rfl)) (fun _ _ _ _ _ => pts_nil) (fun _ _ _ _ _ => pe_ca cD hr (by rfl) pass0 (pa_cons (pv 1) pa_nil))) pa_nil))))))) (pss_one (ps_ret pe_bl)) pss_nil)
      (pss_one (ps_ret (pe_ca cR (hr.mono (by decide)) (by rfl) pass0 (pa_cons (pv 0) pa_nil)))), ?_⟩
    cases hv with
    | no ty b => exact ⟨v, rfl, v, .ty "tuple", _, _, _, rfl, .ty "tuple", ty, kit_ty b, _, rfl, iteT (iteT (q H (Same.refl _)))⟩
    | @tup a xs ds hx hp =>
      have few := few ds rfl
      have len := plen hp
      refine ⟨_, rfl, _, .ty "tuple", _, _, true, rfl, .ty "tuple", tyx_tup hx, kit_ty (by decide +kernel), _, rfl, iteF ⟨_, rfl, a, rfl, ⟨xs, hx⟩, fun D hD => lc_it (walk_tup (xs := xs)) (fun i H' => Same H H' ∧ H' D = some (.lst (((ds.take i).map dDot).map V.bl))) ⟨(newo hD).1, (newo hD).2⟩ (fun i H' _ hP => same_sqT hP.1 hx) (fun i y G1 G2 hi hP hy => ?_) (fun G1 hP => ?_)⟩⟩
      · obtain ⟨rfl, hy⟩ := hy
        obtain ⟨sm, hl⟩ := hP
        obtain ⟨d, hd, rd⟩ := pget hp hy
        refine ⟨rfl, ?_⟩
        dsimp only [tYes]
        rw [if_pos rfl]
        refine ⟨_, rfl, y, look d, rfl, lk_of (rd.same sm), fun G2 s2 => ⟨_, s2 _ _ hl, ?_, same_but hD (sm.trans s2), ?_⟩⟩
        · rw [List.length_map, List.length_map, List.length_take, sizeLine_eq]
          omega
        · rw [upd_same, take_snoc hd, List.map_append, List.map_append]
          rfl
      · obtain ⟨sm, hl⟩ := hP
        rw [List.take_of_length_le (by omega)] at hl
        refine ⟨D, _, rfl, .inl (.inl hl), _, rfl, ?_⟩
        rw [List.all_map]
        cases al : ds.all dDot with
        | false =>
          have y := q G1 sm
          rw [known_no al] at y
          have al' : ds.all (id ∘ dDot) = false := al
          rw [al']
          exact iteT y
        | true =>
          have al' : ds.all (id ∘ dDot) = true := al
          rw [al']
          refine iteF ?_
          obtain ⟨L, rfl, dL, e1, d3, e2⟩ := dots_of hp al
          refine ⟨_, rfl, a, ds.map keyD, rfl, ⟨L, same_sqT sm hx, dots_same sm dL, e1⟩, ?_, ?_, fun G2 s2 => ?_⟩
          · rw [← e1]
            intro k hk
            obtain ⟨p, hp', rfl⟩ := List.mem_map.mp hk
            exact d3 p hp'
          · rw [List.length_map]
            omega
          · have y := q G2 (sm.trans s2)
            rw [known_yes al] at y
            exact y
theorem sc_tog : FnScope NTG ["some"] (defScope (topS 10)) := ⟨rfl, rfl, rfl, by decide +kernel, rfl, by decide +kernel, by decide +kernel⟩
theorem ok_tog (B : Bt mg) (F : Fun K "together" "together" (topS 10) f fd) : FnOk P w K mg base CX0 (k + 1) f fd ["some"] (spTog K) := by
  refine F.ok sc_tog (fun vs H Q E h => ?_) (fun cdv A outer s H vs Q E hr h => ?_)
  · obtain ⟨l, ts, rfl, _⟩ := h; rfl
  · obtain ⟨l, ts, rfl, hl, ht, d3, few, q⟩ := h
    obtain ⟨Ls, rfl, hLs⟩ := rows_of ts ht
    clear ht
    refine ⟨_, pss_one (ps_ret (pe_callTy call_tuple_of (by rfl) B.tuple boot_tuple (pa_cons (pe_callB (cr_sortMK (K := K) (P := P) (w := w) rfl rfl rfl (by rfl)) (by rfl) B.sorted boot_sorted (pa_cons
      (pe_sc2K (K := K) (P := P) (w := w) rfl rfl rfl (own := [("known", 1), ("dot", 2)]) (vs1 := [2]) (g := gName 1) (g1 := gName 2) (wi1 := iTup K (tVar 1)) (te := tVar 2) (by rfl) sc_tog.nd (hu_1 hr) (pi_list (pv 0))
        (blkOk_by (own := [("known", 1), ("dot", 2)]) (N := NTG) (sc := defScope (topS 10)) (by decide +kernel)) (by decide) (fun _ _ _ _ _ => pg_name (i := 1) sc_tog.nd rfl (Or.inl rfl)) (fun _ _ _ _ _ => pi_tupK rfl (pv 1)) (fun _ _ _ _ _ => pg_name (i := 2) sc_tog.nd rfl (Or.inl rfl)) (fun _ _ _ _ _ => pv 2)) pa_nil)) pa_nil))), ?_⟩
    have tot : (rowsTo Ls Ls.length).length < 63 := by
      have e : (rowsTo Ls Ls.length).length = (allOf (Ls.map fun t => (t.1, t.2.map (·.2)))).length := by
        unfold rowsTo allOf
        rw [List.take_of_length_le (Nat.le_refl _), List.map_map, List.length_flatten, List.length_flatten, List.map_map, List.map_map]
        congr 1
        apply List.map_congr_left
        intro t _
        show t.2.length = (t.2.map (·.2)).length
        rw [List.length_map]
      omega
    have eL : (Ls.map fun t => (t.1, t.2.map (·.2))).map (fun t => V.ref t.1) = Ls.map fun t => V.ref t.1 := by
      rw [List.map_map]
      rfl
    rw [eL] at hl
    refine ⟨_, rfl, l, rfl, ⟨_, hl⟩, fun D hD => ?_⟩
    refine ⟨fun i m H' => m = Ls.length - i ∧ i ≤ Ls.length ∧ Same H H' ∧ ∃ L, H' D = some (MSO P w D L) ∧ Of (rowsTo Ls i) L, ⟨_, rfl, Nat.zero_le _, (newo hD).1, [], (newo hD).2, Of.nil⟩, ?_⟩
    rintro i m H1 ⟨rfl, hi, s1, L, eD, of⟩
    have dotsAt : ∀ {G : Hp} {i : Nat} {L : List MS.Row}, Same H G → (∀ p ∈ L, p ∈ rowsTo Ls i) → Dots K G L := fun sG sub p hp => by
      obtain ⟨t, h1, h2⟩ := rowsTo_mem (sub p hp)
      exact same_sqT sG ((hLs t h1).2 p h2)
    by_cases hlt : i < Ls.length
    · right
      have hg : Ls[i]? = some Ls[i] := List.getElem?_eq_getElem hlt
      have hgm : (Ls.map fun t => V.ref t.1)[i]? = some (V.ref Ls[i].1) := by rw [List.getElem?_map, hg]; rfl
      obtain ⟨ht1, ht2⟩ := hLs _ (List.getElem_mem hlt)
      refine ⟨⟨_, _, s1.seq hl, hgm⟩, fun H' => Same H H' ∧ ∃ L, H' D = some (MSO P w D L) ∧ Of (rowsTo Ls (i + 1)) L, fun H' z => ⟨_, by omega, rfl, hlt, z⟩, fun x H' hy => ?_⟩
      obtain ⟨rfl, hy⟩ := hy
      have hx := hy _ (s1.seq hl)
      rw [hgm] at hx
      obtain rfl := Option.some.inj hx
      refine ⟨rfl, _, rfl, Ls[i].1, rfl, ⟨_, same_sqT s1 ht1⟩, ?_⟩
      generalize Ls[i] = t at ht1 ht2 hg ⊢
      refine ⟨fun j m H' => m = t.2.length - j ∧ j ≤ t.2.length ∧ Same H H' ∧ ∃ L, H' D = some (MSO P w D L) ∧ Of (rowsTo Ls i ++ t.2.take j) L, ⟨_, rfl, Nat.zero_le _, s1, L, eD, by rw [List.take_zero, List.append_nil]; exact of⟩, ?_⟩
      rintro j m H2 ⟨rfl, hj, s2, M, eM, ofM⟩
      by_cases hjt : j < t.2.length
      · right
        have hgj : t.2[j]? = some t.2[j] := List.getElem?_eq_getElem hjt
        have hgjm : (t.2.map fun q => V.ref q.1)[j]? = some (V.ref t.2[j].1) := by rw [List.getElem?_map, hgj]; rfl
        have hd := ht2 _ (List.getElem_mem hjt)
        generalize t.2[j] = p at hgj hgjm hd
        refine ⟨⟨_, _, same_sqT s2 ht1, hgjm⟩, fun H' => Same H H' ∧ ∃ L, H' D = some (MSO P w D L) ∧ Of (rowsTo Ls i ++ t.2.take (j + 1)) L, fun H' z => ⟨_, by omega, rfl, hjt, z⟩, fun x H' hy => ?_⟩
        obtain ⟨rfl, hy⟩ := hy
        have hx := hy _ (same_sqT s2 ht1)
        rw [hgjm] at hx
        obtain rfl := Option.some.inj hx
        have sub : ∀ q ∈ M, q ∈ rowsTo Ls (i + 1) := fun q hq => by
          rw [rowsTo_succ hg]
          rcases List.mem_append.mp (ofM.sub q hq) with z | z
          · exact List.mem_append_left _ z
          · exact List.mem_append_right _ (List.mem_of_mem_take z)
        refine ⟨rfl, _, rfl, p.1, p.2, M, rfl, same_sqT s2 hd, eM, dotsAt s2 sub, ?_, fun M' c1 c2 => ⟨same_but hD s2, M', upd_same, ?_⟩⟩
        · have l1 := ofM.len
          rw [List.length_append, List.length_take] at l1
          have l2 := rowsTo_len (Ls := Ls) (i := i + 1)
          rw [rowsTo_succ hg, List.length_append] at l2
          omega
        · rw [take_snoc hgj, ← List.append_assoc]
          exact ofM.snoc c1 c2
      · left
        have e : j = t.2.length := by omega
        subst e
        refine ⟨⟨_, same_sqT s2 ht1, by rw [List.length_map]; exact Nat.le_refl _⟩, s2, M, eM, ?_⟩
        rw [rowsTo_succ hg]
        rw [List.take_of_length_le (Nat.le_refl _)] at ofM
        exact ofM
    · left
      have e : i = Ls.length := by omega
      subst e
      refine ⟨⟨_, s1.seq hl, by rw [List.length_map]; exact Nat.le_refl _⟩, ?_⟩
      have keyM : ∀ k, k ∈ (rowsTo Ls Ls.length).map (·.2) ↔ k ∈ allOf (Ls.map fun t => (t.1, t.2.map (·.2))) := fun k => by
        unfold rowsTo allOf
        rw [List.take_of_length_le (Nat.le_refl _), List.map_map]
        simp only [List.mem_map, List.mem_flatten]
        constructor
        · rintro ⟨p, ⟨_, ⟨t, ht, rfl⟩, hp⟩, rfl⟩
          exact ⟨_, ⟨t, ht, rfl⟩, List.mem_map_of_mem hp⟩
        · rintro ⟨_, ⟨t, ht, rfl⟩, hk⟩
          obtain ⟨p, hp, rfl⟩ := List.mem_map.mp hk
          exact ⟨p, ⟨_, ⟨t, ht, rfl⟩, hp⟩, rfl⟩
      have dL := dotsAt s1 of.sub
      refine ⟨D, L, rfl, eD, dL, fun p hp => d3 _ ((keyM p.2).mp (List.mem_map_of_mem (of.sub p hp))), fun M r pm nd lM pw nr => ?_⟩
      obtain ⟨s5, e5⟩ := newo (o := .lst (M.map fun q => V.ref q.1)) nr
      generalize upd H1 r (.lst (M.map fun q => V.ref q.1)) = G5 at s5 e5 ⊢
      refine ⟨r, _, rfl, .inl ⟨.inl (.inl e5), fun z nz => ?_⟩⟩
      obtain ⟨s6, e6⟩ := newo (o := .tup (M.map fun q => V.ref q.1)) nz
      generalize upd G5 z (.tup (M.map fun q => V.ref q.1)) = G6 at s6 e6 ⊢
      refine q G6 z (M.map (·.2)) (s1.trans (s5.trans s6)) ⟨M, .inl (.inl e6), fun p hp => same_sqT (s5.trans s6) (dL p (pm.mem_iff.mp hp)), rfl⟩ (asc_of pw nd) (fun k => ?_) (by rw [List.length_map]; exact lM)
      rw [← keyM]
      constructor
      · intro y
        obtain ⟨p, hp, rfl⟩ := List.mem_map.mp y
        exact List.mem_map_of_mem (of.sub p (pm.mem_iff.mp hp))
      · intro y
        obtain ⟨p, hp, rfl⟩ := List.mem_map.mp y
        exact (pm.map (·.2)).mem_iff.mpr (of.all p hp)
theorem sc_hand : FnScope NHA ["_law_script", "_law_k"] (defScope (topS 31)) := ⟨rfl, rfl, rfl, by decide +kernel, rfl, by decide +kernel, by decide +kernel⟩
theorem ok_hand (B : Bt mg) (F : Fun K "_law_hand" "_law_hand" (topS 31) f fd) : FnOk P w K mg base CX0 (k + 1) f fd ["_law_script", "_law_k"] (spHand K) := by
  refine F.ok sc_hand (fun vs H Q E h => ?_) (fun cdv A outer s H vs Q E hr h => ?_)
  · obtain ⟨a, i, ns, rfl, _⟩ := h; rfl
  · obtain ⟨a, i, ns, rfl, hS, h63, i0, i1, q⟩ := h
    refine ⟨_, pss_cons (ps_set (i := 2) sc_hand.nd rfl (.inl rfl) (pe_ix ix_list (pe_op op_cat (pe_slice sl_list (pv 0) (po_some (pv 1)) (po_some (pe_op op_add (pv 1) pe_int))) (pe_lst (pa_cons pe_int pa_nil))) pe_int (fun _ _ => rfl)))
      (pss_cons (ps_set (i := 3) sc_hand.nd rfl (.inl rfl) (pe_op op_mod (pe_op op_mul (pe_op op_add (pe_op op_add (pe_op op_mod (pv 2) pe_int) (pe_op op_mul pe_int (pv 1))) pe_int) pe_int) pe_int))
      (pss_one (ps_ret (pe_lst (pa_cons (pe_op op_mul (pe_callTy call_int1 (by rfl) B.int boot_int (pa_cons (pe_cmpR op_ge (pv 2) (pe_op op_pow pe_int pe_int) (nomark _)) pa_nil)) (pv 2)) (pa_cons (pv 3) pa_nil)))))), ?_⟩
    refine ⟨_, rfl, _, rfl, i, rfl, _, rfl, _, _, rfl, rfl, _, rfl, a, _, rfl, hS, fun c nc => ?_⟩
    obtain ⟨s1, e1⟩ := newo (o := .lst (cutV (ns.map V.int) (some i) (some (i + 1)))) nc
    have l1 := cutV_length (ns.map V.int) (some i) (some (i + 1))
    rw [List.length_map] at l1
    generalize upd H c (.lst (cutV (ns.map V.int) (some i) (some (i + 1)))) = H1 at s1 e1 ⊢
    refine ⟨(by show 1 ≤ sizeLine; decide), fun d nd => ?_⟩
    obtain ⟨s2, e2⟩ := newo (o := .lst [V.int 0]) nd
    generalize upd H1 d (.lst [V.int 0]) = H2 at s2 e2 ⊢
    refine ⟨c, d, _, _, rfl, rfl, s2 _ _ e1, e2, (by rw [sizeLine_eq]; show _ + 1 ≤ 16777216; omega), fun e ne => ?_⟩
    obtain ⟨s3, e3⟩ := newo (o := .lst (cutV (ns.map V.int) (some i) (some (i + 1)) ++ [V.int 0])) ne
    generalize upd H2 e (.lst (cutV (ns.map V.int) (some i) (some (i + 1)) ++ [V.int 0])) = H3 at s3 e3 ⊢
    obtain ⟨m, hm⟩ := first_int ns (some i) (some (i + 1))
    refine ⟨e, _, 0, _, rfl, rfl, .inl (.inl e3), hm, ?_⟩
    have b1 : 0 ≤ m % 2147483647 := Int.emod_nonneg _ (by decide)
    have b2 : m % 2147483647 < 2147483647 := Int.emod_lt_of_pos _ (by decide)
    refine ⟨_, rfl, m, 2147483647, rfl, rfl, (show (0 : Int) < 2147483647 by decide), _, rfl, 7919, i, rfl, rfl, .inl ⟨by decide, by decide⟩, _, _, rfl, rfl, _, 1, rfl, rfl, _, 48271, rfl, rfl, .inl ⟨by omega, by omega⟩, _, 2147483629, rfl, rfl, (show (0 : Int) < 2147483629 by decide), ?_⟩
    refine ⟨_, rfl, 10, 18, rfl, rfl, ⟨by decide, by decide, by decide⟩, _, _, rfl, rfl, .inr ⟨_, rfl, _, rfl, ?_⟩⟩
    have b3 : 0 ≤ ((m % 2147483647 + 7919 * i + 1) * 48271 % 2147483629) := Int.emod_nonneg _ (by decide)
    have b4 : ((m % 2147483647 + 7919 * i + 1) * 48271 % 2147483629) < 2147483629 := Int.emod_lt_of_pos _ (by decide)
    have ep : (10 : Int) ^ (18 : Int).toNat = 1000000000000000000 := by decide
    rw [ep]
    cases hb : decide ((1000000000000000000 : Int) ≤ m) with
    | true =>
      have hm0 : (1000000000000000000 : Int) ≤ m := of_decide_eq_true hb
      refine ⟨1, m, rfl, rfl, .inl ⟨by decide, by decide⟩, _, rfl, (by show 2 ≤ sizeLine; decide), fun p np => ?_⟩
      obtain ⟨s4, e4⟩ := newo (o := .lst [V.int (1 * m), V.int ((m % 2147483647 + 7919 * i + 1) * 48271 % 2147483629)]) np
      refine q _ p (s1.trans (s2.trans (s3.trans s4))) ?_ ⟨1 * m, ((m % 2147483647 + 7919 * i + 1) * 48271 % 2147483629), e4, by omega, b3, by omega⟩
      cases z : H p with
      | none => rfl
      | some o =>
        rw [s3 _ _ (s2 _ _ (s1 _ _ z))] at np
        cases np
    | false =>
      refine ⟨0, m, rfl, rfl, .inl ⟨by decide, by decide⟩, _, rfl, (by show 2 ≤ sizeLine; decide), fun p np => ?_⟩
      obtain ⟨s4, e4⟩ := newo (o := .lst [V.int (0 * m), V.int ((m % 2147483647 + 7919 * i + 1) * 48271 % 2147483629)]) np
      refine q _ p (s1.trans (s2.trans (s3.trans s4))) ?_ ⟨0 * m, ((m % 2147483647 + 7919 * i + 1) * 48271 % 2147483629), e4, by omega, b3, by omega⟩
      cases z : H p with
      | none => rfl
      | some o =>
        rw [s3 _ _ (s2 _ _ (s1 _ _ z))] at np
        cases np
theorem sc_draw : FnScope NDR ["_law_pool", "_law_size"] (defScope (topS 32)) := ⟨rfl, rfl, rfl, by decide +kernel, rfl, by decide +kernel, by decide +kernel⟩
theorem ok_draw (F : Fun K "_law_draw" "_law_draw" (topS 32) f fd) : FnOk P w K mg base CX0 (k + 1) f fd ["_law_pool", "_law_size"] spDraw := by
  refine F.ok sc_draw (fun vs H Q E h => ?_) (fun cdv A outer s H vs Q E hr h => ?_)
  · obtain ⟨p, n, rfl, _⟩ := h; rfl
  · obtain ⟨p, n, rfl, ⟨x, y, hp, x0, y0, y1⟩, n1, n2, q⟩ := h
    refine ⟨_, pss_cons (ps_if (pt_cmpR op_gt (pe_ix ix_list (pv 0) pe_int (fun _ _ => rfl)) pe_int (nomark _))
        (pss_cons (ps_set (i := 2) sc_draw.nd rfl (.inl rfl) (pe_op op_mod (pe_ix ix_list (pv 0) pe_int (fun _ _ => rfl)) (pv 1)))
        (pss_cons (ps_asg (pe_op op_fdiv (pe_ix ix_list (pv 0) pe_int (fun _ _ => rfl)) (pv 1)) (pg_sub (pv 0) pe_int set_list)) (pss_one (ps_ret (pv 2))))) pss_nil)
      (pss_cons (ps_asg (pe_op op_mod (pe_op op_add (pe_op op_mul (pe_ix ix_list (pv 0) pe_int (fun _ _ => rfl)) pe_int) pe_int) pe_int) (pg_sub (pv 0) pe_int set_list))
      (pss_one (ps_ret (pe_op op_mod (pe_op op_fdiv (pe_op op_mod (pe_op op_mul (pe_ix ix_list (pv 0) pe_int (fun _ _ => rfl)) (pe_ix ix_list (pv 0) pe_int (fun _ _ => rfl))) pe_int) pe_int) (pv 1))))), ?_⟩
    have hS : SqL K H p [.int x, .int y] := .inl (.inl hp)
    have oth : ∀ {o : HO} b, b ≠ p → upd H p o b = H b := fun b hb => upd_ne hb
    refine ⟨_, rfl, p, _, 0, _, rfl, rfl, hS, atI_nat (j := 0) rfl, x, 0, rfl, rfl, _, rfl, ?_⟩
    cases hb : decide ((0 : Int) < x) with
    | true =>
      refine iteT ⟨_, rfl, p, _, 0, _, rfl, rfl, hS, atI_nat (j := 0) rfl, _, rfl, x, n, rfl, rfl, (show (0 : Int) < n by omega), ?_⟩
      refine ⟨_, rfl, p, _, 0, _, rfl, rfl, hS, atI_nat (j := 0) rfl, _, rfl, x, n, rfl, rfl, ⟨by omega, by omega⟩, _, rfl, p, _, 0, 0, rfl, rfl, hp, rfl, _, rfl, ?_⟩
      exact q _ _ Ext.put ⟨x / n, y, upd_same, Int.ediv_nonneg x0 (by omega), y0, y1⟩ oth (Int.emod_nonneg _ (by omega)) (Int.emod_lt_of_pos _ (by omega))
    | false =>
      refine iteF ⟨_, rfl, p, _, 1, _, rfl, rfl, hS, atI_nat (j := 1) rfl, y, 48271, rfl, rfl, .inl ⟨by omega, by omega⟩, _, 11, rfl, rfl, _, 2147483647, rfl, rfl, (show (0 : Int) < 2147483647 by decide), _, rfl, p, _, 1, 1, rfl, rfl, hp, rfl, ?_⟩
      have z0 : 0 ≤ ((y * 48271 + 11) % 2147483647) := Int.emod_nonneg _ (by decide)
      have z1 : ((y * 48271 + 11) % 2147483647) < 2147483647 := Int.emod_lt_of_pos _ (by decide)
      have hp2 : (upd H p (.lst ([V.int x, V.int y].set 1 (V.int ((y * 48271 + 11) % 2147483647))))) p = some (.lst [V.int x, V.int ((y * 48271 + 11) % 2147483647)]) := upd_same
      have hS2 : SqL K (upd H p (.lst ([V.int x, V.int y].set 1 (V.int ((y * 48271 + 11) % 2147483647))))) p [.int x, .int ((y * 48271 + 11) % 2147483647)] := .inl (.inl hp2)
      refine ⟨_, rfl, p, _, 1, _, rfl, rfl, hS2, atI_nat (j := 1) rfl, _, rfl, p, _, 1, _, rfl, rfl, hS2, atI_nat (j := 1) rfl, _, _, rfl, rfl, .inl ⟨by omega, by omega⟩, _, 2147483629, rfl, rfl, (show (0 : Int) < 2147483629 by decide), _, 64, rfl, rfl, ⟨by decide, by decide⟩, _, rfl, _, n, rfl, rfl, (show (0 : Int) < n by omega), ?_⟩
      exact q _ _ Ext.put ⟨x, ((y * 48271 + 11) % 2147483647), upd_same, x0, z0, z1⟩ oth (Int.emod_nonneg _ (by omega)) (Int.emod_lt_of_pos _ (by omega))
end
end K01

set_option Elab.async false
set_option linter.all false
set_option maxRecDepth 100000
set_option maxHeartbeats 4000000
namespace K01
open PySem PySem.Spec PyProof.Rows L2 MS
/-! ### marks and worths, as data -/
def gone : PySem.Str := "gone"
def mark2 : PyData → PyData → Bool
  | .str x, .int t => decide (x = gone) && decide (0 ≤ t)
  | _, _ => false
def markL : List PyData → Bool
  | [a, b] => mark2 a b
  | _ => false
def markO (o : Option (List PyData)) : Bool := (o.map markL).getD false
def dMark (d : PyData) : Bool := markO (look d)
def dWorth : PyData → Bool
  | .int n => decide (-1000000000 ≤ n) && decide (n ≤ 1000000000)
  | d => dMark d
theorem len2 {α β : Type} {F : α → β → Prop} {xs : List α} {ds : List β} (h : Paired F xs ds) (z : xs.length = 2) : ∃ x1 x2 d1 d2, xs = [x1, x2] ∧ ds = [d1, d2] ∧ F x1 d1 ∧ F x2 d2 := by
  match xs, ds, h, z with
  | [x1, x2], [d1, d2], .cons r1 (.cons r2 .nil), _ => exact ⟨x1, x2, d1, d2, rfl, rfl, r1, r2⟩
theorem markO_no {ds : List PyData} (h : ds.length ≠ 2) : markO (some ds) = false := by
  match ds, h with
  | [], _ => rfl
  | [_], _ => rfl
  | [_, _], l => exact absurd rfl l
  | _ :: _ :: _ :: _, _ => rfl
theorem mark_2 {a b : PyData} (h : dWh b = false) : markL [a, b] = false := by
  cases a with
  | str x =>
    cases b with
    | int t => exact absurd h (by simp [dWh])
    | _ => rfl
  | _ => rfl
section
variable {P : Program} {w : World} {K : PySem.W.Frag} {mg : PySem.Str → Option Value} {base : Heap} {f : Addr} {fd : FuncData} {k : Nat}
def spMark (K : PySem.W.Frag) : Sp := fun vs H Q _ => ∃ (v : V) (o : Option (List PyData)), vs = [v] ∧ Lk K H v o ∧ Q (.bl (markO o)) H
abbrev NMK : List PySem.Str := ["thing", "word", "time"]
theorem sc_mark : FnScope NMK ["thing"] (defScope (topS 17)) := ⟨rfl, rfl, rfl, by decide +kernel, rfl, by decide +kernel, by decide +kernel⟩
theorem ok_mark (B : Bt mg) (gG : ∃ t, mg "GONE" = some (.str gone t)) (cW : Ca P w K mg base 1 "is_whole" ["thing"] (spWhole K)) (F : Fun K "is_mark" "is_mark" (topS 17) f fd) : FnOk P w K mg base CX0 2 f fd ["thing"] (spMark K) := by
  obtain ⟨tG, gG⟩ := gG
  refine F.ok sc_mark (fun vs H Q E h => ?_) (fun cdv A outer s H vs Q E hr h => ?_)
  · obtain ⟨v, o, rfl, _⟩ := h; rfl
  · obtain ⟨v, o, rfl, hv, q⟩ := h
    refine ⟨_, pss_cons (ps_if (PW.pt (pw_or (pt_not (pt_val (pe_callB call_isi (by rfl) B.isi boot_isinstance (pa_cons (pv 0) (pa_cons (pe_bltn (v := .ty "tuple") (by rfl) B.tuple (by decide +kernel) rfl) pa_nil)))))
        (pw_or1 (pt_cmpR op_ne (pe_callB call_len_seq (by rfl) B.len PySem.boot_len (pa_cons (pv 0) pa_nil)) pe_int (nomark _))))) (pss_one (ps_ret pe_bl)) pss_nil)
      (pss_cons (ps_asg (pv 0) (pg_tup (by rfl) (pgs_cons (pg_name (i := 1) sc_mark.nd rfl (.inl rfl)) (pgs_cons (pg_name (i := 2) sc_mark.nd rfl (.inl rfl)) pgs_nil))))
      (pss_cons (ps_if (PW.pt (pw_or (pt_not (pt_val (pe_callB call_isi (by rfl) B.isi boot_isinstance (pa_cons (pv 1) (pa_cons (pe_bltn (v := .ty "str") (by rfl) B.str (by decide +kernel) rfl) pa_nil))))) (pw_or1 (pt_not (pt_val (pe_ca cW hr (by rfl) pass0 (pa_cons (pv 2) pa_nil))))))) (pss_one (ps_ret pe_bl)) pss_nil)
      (pss_one (ps_ret (pe_and (pe_cmpR op_eq (pv 1) (pe_glob (v := .str gone) (by rfl) gG ⟨_, rfl⟩) (nomark _)) (pe_one (pe_cmpR op_ge (pv 2) pe_int (nomark _)))))))), ?_⟩
    cases hv with
    | no ty b => exact ⟨v, rfl, v, .ty "tuple", _, _, _, rfl, .ty "tuple", ty, kit_ty b, _, rfl, iteT (iteT q)⟩
    | @tup a xs ds hx hp =>
      refine ⟨_, rfl, _, .ty "tuple", _, _, true, rfl, .ty "tuple", tyx_tup hx, kit_ty (by decide +kernel), _, rfl, iteF ⟨_, rfl, a, xs, rfl, .inr hx, rfl, _, rfl, ?_⟩⟩
      by_cases h2 : xs.length = 2
      · rw [decide_eq_true (show V.int (xs.length : Int) = V.int 2 by rw [h2]; rfl)]
        refine iteF ?_
        obtain ⟨x1, x2, d1, d2, rfl, rfl, r1, r2⟩ := len2 hp h2
        clear h2
        have q : Q (.bl (markL [d1, d2])) H := q
        refine ⟨_, rfl, a, _, rfl, hx, rfl, _, _, rfl, _, _, rfl, rfl, ?_⟩
        refine ⟨_, rfl, x1, .ty "str", _, _, _, rfl, .ty "str", tyx_of r1, kit_ty (kb_str d1), _, rfl, ?_⟩
        cases d1 with
        | str x =>
          refine iteF ⟨_, rfl, x2, d2, rfl, r2, _, rfl, ?_⟩
          cases h : dWh d2 with
          | false =>
            rw [mark_2 h] at q
            exact iteT q
          | true =>
            refine iteF ?_
            obtain ⟨t, rfl⟩ : ∃ n, d2 = .int n := by cases d2 <;> first | exact ⟨_, rfl⟩ | (simp [dWh] at h)
            have e1 : x1 = .str x := by
              rcases r1.2 with z | ⟨_, _, _, z⟩
              · cases z; rfl
              · cases z
            have e2 : x2 = .int t := by
              rcases r2.2 with z | ⟨_, _, _, z⟩
              · cases z; rfl
              · cases z
            subst e1 e2
            have q : Q (.bl (decide (x = gone) && decide (0 ≤ t))) H := q
            refine ⟨_, rfl, rfl, _, rfl, ?_⟩
            by_cases e : x = gone
            · subst e
              rw [decide_eq_true rfl]
              rw [decide_eq_true rfl] at q
              exact iteT ⟨_, rfl, _, _, rfl, rfl, q⟩
            · rw [decide_eq_false (fun z => e (V.str.inj z))]
              rw [decide_eq_false e] at q
              exact iteF q
        | _ => exact iteT (iteT q)
      · rw [decide_eq_false (show ¬ V.int (xs.length : Int) = V.int 2 from fun z => h2 (by have := V.int.inj z; omega))]
        refine iteT ?_
        rw [markO_no (ds := ds) (by rw [← plen hp]; exact h2)] at q
        exact q
end
end K01

set_option Elab.async false
set_option linter.all false
set_option maxRecDepth 100000
set_option maxHeartbeats 4000000
namespace K01
open PySem PySem.Spec PyProof.Rows L2 MS
def verL : List PyData → Bool
  | [a, b, c] => dDot a && (knownO (look b) && (dWorth c && !((look b).getD []).any fun z => PyData.eqv z a))
  | _ => false
def verO (o : Option (List PyData)) : Bool := (o.map verL).getD false
theorem hu_65 {k : Nat} {A : Around} (h : Room k A) : A.units + 65 < cLine := by
  have := h.un
  omega
theorem verO_no {ds : List PyData} (h : ds.length ≠ 3) : verO (some ds) = false := by
  match ds, h with
  | [], _ => rfl
  | [_], _ => rfl
  | [_, _], _ => rfl
  | [_, _, _], l => exact absurd rfl l
  | _ :: _ :: _ :: _ :: _, _ => rfl
theorem known_tup {d : PyData} (h : knownO (look d) = true) : ∃ ds, d = .tuple ds ∧ ds.all dDot = true := by
  cases d with
  | tuple ds =>
    have h : (ds.all dDot && _) = true := h
    rw [Bool.and_eq_true] at h
    exact ⟨ds, rfl, h.1⟩
  | _ => exact absurd h (by simp [look, knownO])
theorem rd_dp {K : PySem.W.Frag} {H : Hp} {v : V} {d : PyData} (h : Rd K H v d) (n : ∀ kvs, d ≠ .dict kvs) : Dp K H v d := by
  rcases h.2 with z | ⟨_, _, _, z⟩
  · exact z
  · exact absurd z (n _)
theorem dot_shaped {d : PyData} (h : dDot d = true) : SeqAt.shaped d = true := by
  obtain ⟨c1, c2⟩ := lay_dots (ds := [d]) (by rw [List.all_cons, h]; rfl)
  rw [PyData.canLayAll0, Bool.and_eq_true] at c1
  rw [PyData.depthAll] at c2
  unfold SeqAt.shaped
  rw [c1.1, Bool.true_and]
  exact decide_eq_true (by omega)
section
variable {P : Program} {w : World} {K : PySem.W.Frag} {mg : PySem.Str → Option Value} {base : Heap} {f : Addr} {fd : FuncData} {k : Nat}
def spWorth (K : PySem.W.Frag) : Sp := fun vs H Q _ => ∃ (v : V) (d : PyData), vs = [v] ∧ Rd K H v d ∧ Q (.bl (dWorth d)) H
theorem sc_worth : FnScope ["thing"] ["thing"] (defScope (topS 18)) := ⟨rfl, rfl, rfl, by decide +kernel, rfl, by decide +kernel, by decide +kernel⟩
theorem ok_worth (gG : ∃ t, mg "GREATEST_WORTH" = some (.int 1000000000 t)) (cW : Ca P w K mg base 1 "is_whole" ["thing"] (spWhole K)) (cM : Ca P w K mg base 2 "is_mark" ["thing"] (spMark K)) (F : Fun K "is_worth" "is_worth" (topS 18) f fd) : FnOk P w K mg base CX0 3 f fd ["thing"] (spWorth K) := by
  obtain ⟨tG, gG⟩ := gG
  refine F.ok sc_worth (fun vs H Q E h => ?_) (fun cdv A outer s H vs Q E hr h => ?_)
  · obtain ⟨v, d, rfl, _⟩ := h; rfl
  · obtain ⟨v, d, rfl, hd, q⟩ := h
    refine ⟨_, pss_cons (ps_if (pt_val (pe_ca cW (hr.mono (by decide)) (by rfl) pass0 (pa_cons (pv 0) pa_nil))) (pss_one (ps_ret (pe_chain op_le op_le (pe_un un_neg (pe_glob (v := .int 1000000000) (by rfl) gG ⟨_, rfl⟩)) (pv 0) (pe_glob (v := .int 1000000000) (by rfl) gG ⟨_, rfl⟩)))) pss_nil)
      (pss_one (ps_ret (pe_ca cM hr (by rfl) pass0 (pa_cons (pv 0) pa_nil)))), ?_⟩
    refine ⟨_, rfl, v, d, rfl, hd, _, rfl, ?_⟩
    have lk := lk_of hd
    cases d with
    | int n =>
      have hv : v = .int n := by
        rcases hd.2 with z | ⟨_, _, _, z⟩
        · cases z; rfl
        · cases z
      subst hv
      have q : Q (.bl (decide (-1000000000 ≤ n) && decide (n ≤ 1000000000))) H := q
      refine iteT ⟨1000000000, rfl, _, rfl, _, n, rfl, rfl, _, rfl, ?_⟩
      cases e1 : decide (-1000000000 ≤ n) with
      | false =>
        rw [e1] at q
        exact iteF q
      | true =>
        rw [e1] at q
        exact iteT ⟨_, _, rfl, rfl, q⟩
    | _ => exact iteF ⟨_, rfl, v, _, rfl, lk, q⟩
def spVer (K : PySem.W.Frag) : Sp := fun vs H Q _ => ∃ (v : V) (o : Option (List PyData)), vs = [v] ∧ Lk K H v o ∧ (∀ ds d es, o = some ds → d ∈ ds → look d = some es → es.length < 64) ∧ ∀ H', Same H H' → Q (.bl (verO o)) H'
abbrev NVR : List PySem.Str := ["thing", "dot", "known", "worth"]
theorem sc_ver : FnScope NVR ["thing"] (defScope (topS 19)) := ⟨rfl, rfl, rfl, by decide +kernel, rfl, by decide +kernel, by decide +kernel⟩
theorem ok_ver (B : Bt mg) (cD : Ca P w K mg base 2 "is_dot" ["thing"] (spDot K)) (cK : Ca P w K mg base 3 "is_known" ["thing"] (spKn K)) (cW : Ca P w K mg base 3 "is_worth" ["thing"] (spWorth K)) (F : Fun K "is_version" "is_version" (topS 19) f fd) : FnOk P w K mg base CX0 4 f fd ["thing"] (spVer K) := by
  refine F.ok sc_ver (fun vs H Q E h => ?_) (fun cdv A outer s H vs Q E hr h => ?_)
  · obtain ⟨v, o, rfl, _⟩ := h; rfl
  · obtain ⟨v, o, rfl, hv, few, q⟩ := h
    refine ⟨_, pss_cons (ps_if (PW.pt (pw_or (pt_not (pt_val (pe_callB call_isi (by rfl) B.isi boot_isinstance (pa_cons (pv 0) (pa_cons (pe_bltn (v := .ty "tuple") (by rfl) B.tuple (by decide +kernel) rfl) pa_nil)))))
        (pw_or1 (pt_cmpR op_ne (pe_callB call_len_seq (by rfl) B.len PySem.boot_len (pa_cons (pv 0) pa_nil)) pe_int (nomark _))))) (pss_one (ps_ret pe_bl)) pss_nil)
      (pss_cons (ps_asg (pv 0) (pg_tup (by rfl) (pgs_cons (pg_name (i := 1) sc_ver.nd rfl (.inl rfl)) (pgs_cons (pg_name (i := 2) sc_ver.nd rfl (.inl rfl)) (pgs_cons (pg_name (i := 3) sc_ver.nd rfl (.inl rfl)) pgs_nil)))))
      (pss_cons (ps_if (PW.pt (pw_or (pt_not (pt_val (pe_ca cD (hr.mono (by decide)) (by rfl) pass0 (pa_cons (pv 1) pa_nil)))) (pw_or (pt_not (pt_val (pe_ca cK hr (by rfl) pass0 (pa_cons (pv 2) pa_nil)))) (pw_or1 (pt_not (pt_val (pe_ca cW hr (by rfl) pass0 (pa_cons (pv 3) pa_nil)))))))) (pss_one (ps_ret pe_bl)) pss_nil)
      (pss_one (ps_ret (pe_cmpR (VS.op_notInDT (K := K) rfl (hu_65 hr)) (pv 1) (pv 2) (by rfl)))))), ?_⟩
    cases hv with
    | no ty b => exact ⟨v, rfl, v, .ty "tuple", _, _, _, rfl, .ty "tuple", ty, kit_ty b, _, rfl, iteT (iteT (q H (Same.refl _)))⟩
    | @tup a xs ds hx hp =>
      refine ⟨_, rfl, _, .ty "tuple", _, _, true, rfl, .ty "tuple", tyx_tup hx, kit_ty (by decide +kernel), _, rfl, iteF ⟨_, rfl, a, xs, rfl, .inr hx, rfl, _, rfl, ?_⟩⟩
      by_cases h3 : xs.length = 3
      · rw [decide_eq_true (show V.int (xs.length : Int) = V.int 3 by rw [h3]; rfl)]
        refine iteF ?_
        obtain ⟨x1, x2, x3, d1, d2, d3, rfl, rfl, r1, r2, r3⟩ := len3 hp h3
        clear h3
        have q : ∀ H', Same H H' → Q (.bl (dDot d1 && (knownO (look d2) && (dWorth d3 && !((look d2).getD []).any fun z => PyData.eqv z d1)))) H' := q
        refine ⟨_, rfl, a, _, rfl, hx, rfl, _, _, rfl, _, _, rfl, _, _, rfl, rfl, ?_⟩
        refine ⟨_, rfl, x1, look d1, rfl, lk_of r1, fun H1 s1 => ⟨_, rfl, ?_⟩⟩
        change if (!dDot d1) = true then _ else _
        cases h1 : dDot d1 with
        | false =>
          rw [h1] at q
          exact iteT (iteT (q H1 s1))
        | true =>
          rw [h1] at q
          refine iteF ⟨_, rfl, x2, look d2, rfl, lk_of (r2.same s1), (fun es he => few _ d2 es rfl (by simp) he), fun H2 s2 => ⟨_, rfl, ?_⟩⟩
          cases h2 : knownO (look d2) with
          | false =>
            rw [h2] at q
            exact iteT (iteT (q H2 (s1.trans s2)))
          | true =>
            rw [h2] at q
            refine iteF ⟨_, rfl, x3, d3, rfl, r3.same (s1.trans s2), _, rfl, ?_⟩
            cases h3 : dWorth d3 with
            | false =>
              rw [h3] at q
              exact iteT (q H2 (s1.trans s2))
            | true =>
              rw [h3] at q
              obtain ⟨es, rfl, al⟩ := known_tup h2
              have dp1 : Dp K H2 x1 d1 := rd_dp (r1.same (s1.trans s2)) fun kvs z => by rw [z] at h1; simp [dDot, look, dotO] at h1
              have dp2 : Dp K H2 x2 (.tuple es) := rd_dp (r2.same (s1.trans s2)) fun kvs z => by cases z
              refine iteF ⟨_, rfl, _, rfl, d1, es, dp1, dp2, dot_shaped h1, shaped_tup al, ?_⟩
              exact q H2 (s1.trans s2)
      · rw [decide_eq_false (show ¬ V.int (xs.length : Int) = V.int 3 from fun z => h3 (by have := V.int.inj z; omega))]
        refine iteT ?_
        have y := q H (Same.refl _)
        rw [verO_no (ds := ds) (by rw [← plen hp]; exact h3)] at y
        exact y
end
end K01

set_option Elab.async false
set_option linter.all false
set_option maxRecDepth 100000
set_option maxHeartbeats 4000000
namespace K01
open PySem PySem.Spec PyProof.Rows L2 MS
/-- dots that stand in the layer's own heap -/
def DotsH (H : Hp) (L : List MS.Row) : Prop := ∀ q ∈ L, H q.1 = some (.tup (q.2.map kV))
theorem DotsH.same {H H' : Hp} {L : List MS.Row} (s : Same H H') (h : DotsH H L) : DotsH H' L := fun q hq => s _ _ (h q hq)
theorem DotsH.dots {K : PySem.W.Frag} {H : Hp} {L : List MS.Row} (h : DotsH H L) : Dots K H L := fun q hq => .inl (.inl (h q hq))
/-- a version: its tuple, its dot, what it knows, its worth -/
structure Ver where
  a : Addr
  d : MS.Row
  kn : Addr
  L : List MS.Row
  wv : V
def VerOk (K : PySem.W.Frag) (H : Hp) (z : Ver) : Prop := SqT K H z.a [.ref z.d.1, .ref z.kn, z.wv] ∧ H z.d.1 = some (.tup (z.d.2.map kV)) ∧ SqT K H z.kn (z.L.map fun q => V.ref q.1) ∧ DotsH H z.L
theorem VerOk.same {K : PySem.W.Frag} {H H' : Hp} {z : Ver} (s : Same H H') (h : VerOk K H z) : VerOk K H' z := ⟨same_sqT s h.1, s _ _ h.2.1, same_sqT s h.2.2.1, h.2.2.2.same s⟩
def knownOf (zs : List Ver) : List DK := (zs.map fun z => z.L.map fun q => q.2).flatten
theorem knownOf_mem {zs : List Ver} {k : DK} : k ∈ knownOf zs ↔ ∃ z ∈ zs, k ∈ z.L.map fun q => q.2 := by
  unfold knownOf
  simp only [List.mem_flatten, List.mem_map]
  constructor
  · rintro ⟨_, ⟨z, hz, rfl⟩, hk⟩
    exact ⟨z, hz, List.mem_map.mp hk⟩
  · rintro ⟨z, hz, hk⟩
    exact ⟨_, ⟨z, hz, rfl⟩, List.mem_map.mpr hk⟩
theorem put_mem {kvs : List (List Key × V)} {k l : DK} {v : V} : l ∈ (putK kvs k v).map (fun e => e.1) ↔ l = k ∨ l ∈ kvs.map (fun e => e.1) := by
  unfold putK
  split
  · rename_i h
    obtain ⟨e, he, hk⟩ := List.any_eq_true.mp h
    have hk : e.1 = k := of_decide_eq_true hk
    have ef : (kvs.map fun kv => if kv.1 = k then (kv.1, v) else kv).map (fun e => e.1) = kvs.map fun e => e.1 := by
      rw [List.map_map]
      apply List.map_congr_left
      intro p _
      show (if p.1 = k then (p.1, v) else p).1 = p.1
      split <;> rfl
    rw [ef]
    constructor
    · exact .inr
    · rintro (z | z)
      · rw [z, ← hk]
        exact List.mem_map_of_mem he
      · exact z
  · rw [List.map_append, List.mem_append, List.map_cons, List.map_nil, List.mem_singleton]
    exact Or.comm
section
variable {P : Program} {w : World} {K : PySem.W.Frag} {mg : PySem.Str → Option Value} {base : Heap} {f : Addr} {fd : FuncData} {k : Nat}
/-! ### all_known -/
def spAk (K : PySem.W.Frag) : Sp := fun vs H Q _ => ∃ (a : Addr) (zs : List Ver), vs = [.ref a] ∧ (SqL K H a (zs.map fun z => V.ref z.a) ∨ SqT K H a (zs.map fun z => V.ref z.a)) ∧ (∀ z ∈ zs, VerOk K H z) ∧ zs.length ≤ 1000 ∧ (∀ z ∈ zs, z.L.length ≤ 1000) ∧
  ∀ H' D kvs, Same H H' → H D = none → H' D = some (.dT kvs) → (∀ k, k ∈ kvs.map (fun e => e.1) ↔ k ∈ knownOf zs) → kvs.length ≤ 1000000 → Q (.ref D) H'
abbrev NAK : List PySem.Str := ["versions", "version", "dot"]
theorem sc_ak : FnScope NAK ["versions"] (defScope (topS 20)) := ⟨rfl, rfl, rfl, by decide +kernel, rfl, by decide +kernel, by decide +kernel⟩
theorem ak_turns {a : Addr} {zs : List Ver} {H : Hp} {Q : VK} {J : It} {D : Addr} (hD : H D = none) (vk : ∀ z ∈ zs, VerOk K H z) (lz : zs.length ≤ 1000) (ll : ∀ z ∈ zs, z.L.length ≤ 1000) (W : Walk J zs.length (fun G => Same H G) (YAt (zs.map fun z => V.ref z.a)))
    (q : ∀ H' kvs, Same H H' → H' D = some (.dT kvs) → (∀ k, k ∈ kvs.map (fun e => e.1) ↔ k ∈ knownOf zs) → kvs.length ≤ 1000000 → Q (.ref D) H') :
    ∃ W : Nat → Nat → Hp → Prop, (∃ m, W 0 m (upd H D (.dT []))) ∧ ∀ i m G, W i m G → (J.stop i G ∧ Q (.ref D) G) ∨ (J.go i G ∧ ∃ Nx : Hp → Prop, (∀ H', Nx H' → ∃ m', m' < m ∧ W (i + 1) m' H') ∧ ∀ x H', J.yld i G x H' → gName 1 x (wipe [some (.ref a), none, none] [1, 2]) H' fun σ2 H2 => wipe σ2 [1, 2] = wipe [some (.ref a), none, none] [1, 2] ∧
      iTup K (tOp (rIxT K) (tVar 1) (tC (.int 1))) σ2 H2 fun J1 H4 => ∃ W1 : Nat → Nat → Hp → Prop, (∃ m, W1 0 m H4) ∧ ∀ j k H, W1 j k H → (J1.stop j H ∧ Nx H) ∨ (J1.go j H ∧ ∃ Nx1 : Hp → Prop, (∀ H', Nx1 H' → ∃ k', k' < k ∧ W1 (j + 1) k' H') ∧ ∀ x H', J1.yld j H x H' →
        gName 2 x (wipe σ2 [2]) H' fun σ3 H5 => wipe σ3 [2] = wipe σ2 [2] ∧ tVar 2 σ3 H5 fun y H6 => tC (.bl true) σ3 H6 fun v H7 => ∃ (a : Addr) (k : List Key) (kvs : List (List Key × V)), y = .ref a ∧ H7 a = some (.tup (k.map kV)) ∧ H7 D = some (.dT kvs) ∧ kvs.length < sizeLine ∧
          Nx1 (upd H7 D (.dT (putK kvs k v))))) := by
  refine ⟨fun i m G => m = zs.length - i ∧ i ≤ zs.length ∧ Same H G ∧ ∃ kvs, G D = some (.dT kvs) ∧ (∀ k, k ∈ kvs.map (fun e => e.1) ↔ k ∈ knownOf (zs.take i)) ∧ kvs.length ≤ 1000 * i, ⟨_, rfl, Nat.zero_le _, (newo hD).1, [], (newo hD).2, (fun k => by simp [knownOf]), Nat.zero_le _⟩, ?_⟩
  rintro i m G ⟨rfl, hi, s1, kvs, eD, mem, lk⟩
  by_cases hlt : i < zs.length
  · right
    have hg : zs[i]? = some zs[i] := List.getElem?_eq_getElem hlt
    have hz := vk _ (List.getElem_mem hlt)
    have hl := ll _ (List.getElem_mem hlt)
    generalize zs[i] = z at hg hz hl
    refine ⟨W.goes i G hlt s1, fun H' => Same H H' ∧ ∃ kvs, H' D = some (.dT kvs) ∧ (∀ k, k ∈ kvs.map (fun e => e.1) ↔ k ∈ knownOf (zs.take (i + 1))) ∧ kvs.length ≤ 1000 * (i + 1), fun H' y => ⟨_, by omega, rfl, hlt, y⟩, fun x H' hy => ?_⟩
    obtain ⟨rfl, hx⟩ := W.yields i G x H' hlt s1 hy
    rw [List.getElem?_map, hg] at hx
    obtain rfl := (Option.some.inj hx).symm
    obtain ⟨v1, v2, v3, v4⟩ := hz
    refine ⟨rfl, V.ref z.a, rfl, z.a, _, 1, V.ref z.kn, rfl, rfl, same_sqT s1 v1, atI_nat (j := 1) rfl, z.kn, rfl, ⟨_, same_sqT s1 v3⟩, ?_⟩
    refine ⟨fun j m G => m = z.L.length - j ∧ j ≤ z.L.length ∧ Same H G ∧ ∃ kvs, G D = some (.dT kvs) ∧ (∀ k, k ∈ kvs.map (fun e => e.1) ↔ k ∈ knownOf (zs.take i) ∨ k ∈ (z.L.take j).map fun q => q.2) ∧ kvs.length ≤ 1000 * i + j, ⟨_, rfl, Nat.zero_le _, s1, kvs, eD, (fun k => by rw [mem k]; simp), lk⟩, ?_⟩
    rintro j m G2 ⟨rfl, hj, s2, kvs2, eD2, mem2, lk2⟩
    by_cases hjt : j < z.L.length
    · right
      have hgj : z.L[j]? = some z.L[j] := List.getElem?_eq_getElem hjt
      have hd := v4 _ (List.getElem_mem hjt)
      generalize z.L[j] = p at hgj hd
      refine ⟨⟨_, V.ref p.1, same_sqT s2 v3, by rw [List.getElem?_map, hgj]; rfl⟩, fun H' => Same H H' ∧ ∃ kvs, H' D = some (.dT kvs) ∧ (∀ k, k ∈ kvs.map (fun e => e.1) ↔ k ∈ knownOf (zs.take i) ∨ k ∈ (z.L.take (j + 1)).map fun q => q.2) ∧ kvs.length ≤ 1000 * i + (j + 1), fun H' y => ⟨_, by omega, rfl, hjt, y⟩, fun x H' hy => ?_⟩
      obtain ⟨rfl, hy⟩ := hy
      have hx := hy _ (same_sqT s2 v3)
      rw [List.getElem?_map, hgj] at hx
      obtain rfl := (Option.some.inj hx).symm
      refine ⟨rfl, V.ref p.1, rfl, p.1, p.2, kvs2, rfl, s2 _ _ hd, eD2, (by rw [sizeLine_eq]; omega), same_but hD s2, _, upd_same, fun k => ?_, (by have := length_putK kvs2 p.2 (V.bl true); omega)⟩
      rw [put_mem, mem2 k, take_snoc hgj, List.map_append, List.mem_append, List.map_cons, List.map_nil, List.mem_singleton]
      constructor
      · rintro (h | h | h)
        · exact .inr (.inr h)
        · exact .inl h
        · exact .inr (.inl h)
      · rintro (h | h | h)
        · exact .inr (.inl h)
        · exact .inr (.inr h)
        · exact .inl h
    · left
      have e : j = z.L.length := by omega
      subst e
      refine ⟨⟨_, same_sqT s2 v3, by rw [List.length_map]; exact Nat.le_refl _⟩, s2, kvs2, eD2, fun k => ?_, by omega⟩
      rw [mem2 k, List.take_of_length_le (Nat.le_refl _), knownOf_mem, knownOf_mem, take_snoc hg]
      constructor
      · rintro (⟨y, hy, h⟩ | h)
        · exact ⟨y, List.mem_append_left _ hy, h⟩
        · exact ⟨z, List.mem_append_right _ (List.mem_singleton.mpr rfl), h⟩
      · rintro ⟨y, hy, h⟩
        rcases List.mem_append.mp hy with hy | hy
        · exact .inl ⟨y, hy, h⟩
        · rw [List.mem_singleton.mp hy] at h
          exact .inr h
  · left
    have e : i = zs.length := by omega
    subst e
    refine ⟨W.stops G s1, q G kvs s1 eD (fun k => ?_) (by omega)⟩
    rw [mem k, List.take_of_length_le (Nat.le_refl _)]
end
end K01

set_option Elab.async false
set_option linter.all false
set_option maxRecDepth 100000
set_option maxHeartbeats 4000000
namespace K01
open PySem PySem.Spec PyProof.Rows L2 MS
section
variable {P : Program} {w : World} {K : PySem.W.Frag} {mg : PySem.Str → Option Value} {base : Heap} {f : Addr} {fd : FuncData} {k : Nat}
theorem ok_ak (F : Fun K "all_known" "all_known" (topS 20) f fd) : FnOk P w K mg base CX0 (k + 1) f fd ["versions"] (spAk K) := by
  refine F.ok sc_ak (fun vs H Q E h => ?_) (fun cdv A outer s H vs Q E hr h => ?_)
  · obtain ⟨a, zs, rfl, _⟩ := h; rfl
  · obtain ⟨a, zs, rfl, hl, vk, lz, ll, q⟩ := h
    refine ⟨_, pss_one (ps_ret (VS.pe_dc2 (own := [("version", 1), ("dot", 2)]) (vs1 := [2]) (g := gName 1) (g1 := gName 2) (wi1 := iTup K (tOp (rIxT K) (tVar 1) (tC (.int 1)))) (tk := tVar 2) (tv := tC (.bl true)) (by rfl) sc_ak.nd (hu_lt hr) (VS.pi_seq (K := K) rfl (pv 0))
      (blkOk_by (own := [("version", 1), ("dot", 2)]) (N := NAK) (sc := defScope (topS 20)) (by decide +kernel)) (by decide) (fun _ _ _ _ _ => pg_name (i := 1) sc_ak.nd rfl (Or.inl rfl)) (fun _ _ _ _ _ => pi_tupK rfl (pe_ix (ix_tupK (K := K) rfl) (pv 1) pe_int (fun _ _ => rfl))) (fun _ _ _ _ _ => pg_name (i := 2) sc_ak.nd rfl (Or.inl rfl)) (fun _ _ _ _ _ => pv 2) (fun _ _ _ _ _ => pe_bl))), ?_⟩
    have len : (zs.map fun z => V.ref z.a).length = zs.length := List.length_map ..
    refine ⟨_, rfl, a, rfl, ?_⟩
    rcases hl with hl | hl
    · refine .inl ⟨⟨_, hl⟩, fun D hD => ak_turns hD vk lz ll ?_ fun H' kvs s e m l => q H' D kvs s hD e m l⟩
      rw [← len]
      exact (walk_list (K := K) (a := a) (xs := zs.map fun z => V.ref z.a)).mono (fun G (s : Same H G) => s.seq hl) fun _ _ _ _ _ _ y => y
    · refine .inr ⟨⟨_, hl⟩, fun D hD => ak_turns hD vk lz ll ?_ fun H' kvs s e m l => q H' D kvs s hD e m l⟩
      rw [← len]
      exact (walk_tup (K := K) (a := a) (xs := zs.map fun z => V.ref z.a)).mono (fun G (s : Same H G) => same_sqT s hl) fun _ _ _ _ _ _ y => y
end
end K01

set_option Elab.async false
set_option linter.all false
set_option maxRecDepth 100000
set_option maxHeartbeats 4000000
namespace VS
open PySem PySem.Spec PyProof.Rows L2 MS K01
theorem sl_listK {X : Cx} {K : PySem.W.Frag} (hK : X.K = K) : SlR X (rSlL K) := by
  subst hK
  exact sl_list
def spRisL (K : PySem.W.Frag) : Sp := fun vs H Q _ => ∃ (a : Addr) (L : List MS.Row), vs = [.ref a] ∧ SqL K H a (L.map fun q => V.ref q.1) ∧ Dots K H L ∧ (∀ k ∈ L.map (fun q => q.2), D3 k) ∧ L.length ≤ 1000 ∧ ∀ H', Same H H' → Q (.bl (ascB (L.map fun q => q.2))) H'
end VS
namespace K01
open PySem PySem.Spec PyProof.Rows L2 MS
section
variable {P : Program} {w : World} {K : PySem.W.Frag} {mg : PySem.Str → Option Value} {base : Heap} {f : Addr} {fd : FuncData} {k : Nat}
theorem ok_risL (B : Bt mg) (F : Fun K "rises" "rises" (topS 5) f fd) : FnOk P w K mg base CX0 (k + 1) f fd ["row"] (VS.spRisL K) := by
  refine F.ok sc_ris (fun vs H Q E h => ?_) (fun cdv A outer s H vs Q E hr h => ?_)
  · obtain ⟨a, L, rfl, _⟩ := h; rfl
  · obtain ⟨a, L, rfl, hL, dL, d3, few, q⟩ := h
    refine ⟨_, pss_one (ps_ret (pe_callB (cr_all (by rfl)) (by rfl) B.all boot_all (pa_cons (pe_lc (own := [("one", 1), ("other", 2)]) (g := gTup K 2 (gCons (gName 1) (gCons (gName 2) gNil))) (tt := tYes) (by rfl) sc_ris.nd
      (RZ.pi_zipA (by rfl) B.zip (pa_cons (pv 0) (pa_cons (pe_slice (VS.sl_listK (K := K) rfl) (pv 0) (po_some pe_int) po_none) pa_nil))) (blkOk_by (own := [("one", 1), ("other", 2)]) (N := ["row", "one", "other"]) (sc := defScope (topS 5)) (by decide +kernel))
      (fun _ _ _ _ _ => pg_tup rfl (pgs_cons (pg_name (i := 1) sc_ris.nd rfl (Or.inl rfl)) (pgs_cons (pg_name (i := 2) sc_ris.nd rfl (Or.inl rfl)) pgs_nil))) (fun _ _ _ _ _ => pts_nil) (fun _ _ _ _ _ => pe_cmpR (op_ltDK (K := K) rfl (hu_lt hr)) (pv 1) (pv 2) (nomark _))) pa_nil))), ?_⟩
    refine ⟨_, rfl, _, rfl, 1, rfl, ?_⟩
    dsimp only [tNoPart]
    refine VS.sl_fromL (j := min 1 L.length) (by rw [List.length_map]; exact HT.sIx_nat _ _ 1) hL fun b H1 s1 hb => ?_
    have eb : (L.map fun p => V.ref p.1).drop (min 1 L.length) = (L.drop 1).map fun p => V.ref p.1 := by
      rw [List.map_drop]
      cases L with
      | nil => rfl
      | cons p r => simp
    rw [eb] at hb
    have hL1 := s1.seq hL
    refine ⟨a, b, _, _, rfl, .inl ⟨hL1, hb, fun D hD => lc_it (walk_zip (n := L.length - 1) (xs := L.map fun p => V.ref p.1) (ys := (L.drop 1).map fun p => V.ref p.1) (by rw [List.length_map, List.length_map, List.length_drop]; omega))
      (fun i H' => Same H1 H' ∧ H' D = some (.lst (((List.zipWith dlt (L.map (·.2)) ((L.map (·.2)).drop 1)).take i).map V.bl))) ⟨(newo hD).1, (newo hD).2⟩ (fun i H' _ hP => ⟨hP.1.seq hL1, hP.1.seq hb⟩) (fun i y G1 G2 hi hP hy => ?_) (fun G1 hP => ?_)⟩⟩
    · obtain ⟨T, x, z, rfl, nT, rfl, hx, hz⟩ := hy
      obtain ⟨sm, hl⟩ := hP
      obtain ⟨sT, eT⟩ := newo (o := .tup [x, z]) nT
      have hlt : i < L.length := by omega
      have hlt2 : i + 1 < L.length := by omega
      dsimp only at hx hz
      rw [List.getElem?_map, List.getElem?_eq_getElem hlt] at hx
      rw [List.getElem?_map, List.getElem?_drop, Nat.add_comm 1 i, List.getElem?_eq_getElem hlt2] at hz
      obtain rfl := (Option.some.inj hx).symm
      obtain rfl := (Option.some.inj hz).symm
      refine ⟨T, _, rfl, .inl (.inl eT), rfl, _, _, rfl, _, _, rfl, rfl, rfl, ?_⟩
      dsimp only [tYes]
      rw [if_pos rfl]
      have m1 : L[i] ∈ L := List.getElem_mem hlt
      have m2 : L[i + 1] ∈ L := List.getElem_mem hlt2
      have sG : Same H (upd G1 T (.tup [V.ref L[i].1, V.ref L[i + 1].1])) := s1.trans (sm.trans sT)
      refine ⟨_, rfl, _, rfl, L[i].1, L[i + 1].1, L[i].2, L[i + 1].2, rfl, rfl, d3 _ (List.mem_map_of_mem m1), d3 _ (List.mem_map_of_mem m2), same_sqT sG (dL _ m1), same_sqT sG (dL _ m2), _, sT _ _ hl, ?_, same_but hD (sm.trans sT), ?_⟩
      · rw [List.length_map, List.length_take, List.length_zipWith, List.length_map, sizeLine_eq]
        omega
      · have e : (List.zipWith dlt (L.map (·.2)) ((L.map (·.2)).drop 1))[i]? = some (dlt L[i].2 L[i + 1].2) := by
          rw [List.getElem?_zipWith, List.getElem?_map, List.getElem?_eq_getElem hlt, List.getElem?_drop, Nat.add_comm 1 i, List.getElem?_map, List.getElem?_eq_getElem hlt2]
          rfl
        rw [upd_same, take_snoc e, List.map_append]
        rfl
    · obtain ⟨sm, hl⟩ := hP
      rw [List.take_of_length_le (by rw [List.length_zipWith, List.length_map, List.length_drop, List.length_map]; omega)] at hl
      exact ⟨D, _, rfl, .inl (.inl hl), q G1 (s1.trans sm)⟩
end
end K01

set_option Elab.async false
set_option linter.all false
set_option maxRecDepth 100000
set_option maxHeartbeats 4000000
namespace K01
open PySem PySem.Spec PyProof.Rows L2 MS
/-- the version's data -/
def vData (z : Ver) (wd : PyData) : List PyData := [dD z.d.2, .tuple ((z.L.map fun q => q.2).map dD), wd]
def VGood (K : PySem.W.Frag) (H : Hp) (z : Ver) : Prop := VerOk K H z ∧ D3 z.d.2 ∧ z.L.length < 64 ∧ ∃ wd, Dp K H z.wv wd ∧ verL (vData z wd) = true ∧ shortAll (vData z wd) = true ∧ (∀ es, look wd = some es → es.length < 64)
theorem VGood.same {K : PySem.W.Frag} {H H' : Hp} {z : Ver} (s : Same H H') (h : VGood K H z) : VGood K H' z := by
  obtain ⟨h1, h2, h3, wd, h4, h5⟩ := h
  exact ⟨h1.same s, h2, h3, wd, dp_same s wd _ h4, h5⟩
theorem VGood.lk {K : PySem.W.Frag} {H : Hp} {z : Ver} (h : VGood K H z) : ∃ ds, Lk K H (.ref z.a) (some ds) ∧ verO (some ds) = true ∧ ∀ d es, d ∈ ds → look d = some es → es.length < 64 := by
  obtain ⟨⟨v1, v2, v3, v4⟩, d3, l64, wd, w1, w2, w3, w4⟩ := h
  refine ⟨vData z wd, .tup v1 (dpAll_rd (.cons (dp_dot (.inl (.inl v2))) (.cons (.tup v3 (dp_dots v4.dots)) (.cons w1 .nil))) w3), w2, fun d es hd he => ?_⟩
  have hd : d = dD z.d.2 ∨ d = .tuple ((z.L.map fun q => q.2).map dD) ∨ d = wd := by simpa [vData] using hd
  rcases hd with rfl | rfl | rfl
  · obtain ⟨n, x, l, e⟩ := d3
    rw [e] at he
    have he : some [PyData.int n, .str x, .int l] = some es := he
    obtain rfl := Option.some.inj he
    exact (by decide : 3 < 64)
  · have he : some ((z.L.map fun q => q.2).map dD) = some es := he
    obtain rfl := Option.some.inj he
    rw [List.length_map, List.length_map]
    exact l64
  · exact w4 es he
/-- no dot of them is known -/
def cellB (zs : List Ver) (kn : List DK) : Prop := Asc (zs.map fun z => z.d.2) ∧ ∀ z ∈ zs, z.d.2 ∉ kn
section
variable {P : Program} {w : World} {K : PySem.W.Frag} {mg : PySem.Str → Option Value} {base : Heap} {f : Addr} {fd : FuncData} {k : Nat}
/-- of a tuple of good versions that is a cell -/
def spCell (K : PySem.W.Frag) : Sp := fun vs H Q _ => ∃ (a : Addr) (zs : List Ver), vs = [.ref a] ∧ SqT K H a (zs.map fun z => V.ref z.a) ∧ (∀ z ∈ zs, VGood K H z) ∧ zs.length ≤ 1000 ∧ cellB zs (knownOf zs) ∧ ∀ H', Same H H' → Q (.bl true) H'
abbrev NCL : List PySem.Str := ["thing", "version", "dots", "known", "dot"]
theorem sc_cell : FnScope NCL ["thing"] (defScope (topS 21)) := ⟨rfl, rfl, rfl, by decide +kernel, rfl, by decide +kernel, by decide +kernel⟩
theorem ok_cell (B : Bt mg) (fAny : mg "any" = none) (cV : Ca P w K mg base 4 "is_version" ["thing"] (spVer K)) (cA : Ca P w K mg base 1 "all_known" ["versions"] (spAk K)) (cR : Ca P w K mg base 1 "rises" ["row"] (VS.spRisL K)) (F : Fun K "is_cell" "is_cell" (topS 21) f fd) : FnOk P w K mg base CX0 5 f fd ["thing"] (spCell K) := by
  refine F.ok sc_cell (fun vs H Q E h => ?_) (fun cdv A outer s H vs Q E hr h => ?_)
  · obtain ⟨a, zs, rfl, _⟩ := h; rfl
  · obtain ⟨a, zs, rfl, hz, vg, lz, ⟨asc, fr⟩, q⟩ := h
    refine ⟨_, pss_cons (ps_if (PW.pt (pw_or (pt_not (pt_val (pe_callB call_isi (by rfl) B.isi boot_isinstance (pa_cons (pv 0) (pa_cons (pe_bltn (v := .ty "tuple") (by rfl) B.tuple (by decide +kernel) rfl) pa_nil)))))
        (pw_or1 (pt_not (pt_val (pe_callB (cr_all (by rfl)) (by rfl) B.all boot_all (pa_cons (pe_lc (own := [("version", 1)]) (g := gName 1) (tt := tYes) (by rfl) sc_cell.nd (pi_tup (pv 0)) (blkOk_by (own := [("version", 1)]) (N := NCL) (sc := defScope (topS 21)) (by decide +kernel))
          (fun _ _ _ _ _ => pg_name (i := 1) sc_cell.nd rfl (Or.inl rfl)) (fun _ _ _ _ _ => pts_nil) (fun _ _ _ _ _ => pe_ca cV hr (by rfl) pass0 (pa_cons (pv 1) pa_nil))) pa_nil))))))) (pss_one (ps_ret pe_bl)) pss_nil)
      (pss_cons (ps_setLc (i := 2) (own := [("version", 1)]) (g := gName 1) (tt := tYes) (by rfl) sc_cell.nd rfl rfl (sw_true rfl rfl rfl (by decide +kernel)) (pi_tup (pv 0)) (blkOk_by (own := [("version", 1)]) (N := NCL) (sc := defScope (topS 21)) (by decide +kernel))
          (fun _ _ _ _ _ => pg_name (i := 1) sc_cell.nd rfl (Or.inl rfl)) (fun _ _ _ _ _ => pts_nil) (fun _ _ _ _ _ => pe_ix (ix_tupK (K := K) rfl) (pv 1) pe_int (fun _ _ => rfl)))
      (pss_cons (ps_set (i := 3) sc_cell.nd rfl (.inr rfl) (pe_ca cA (hr.mono (by decide)) (by rfl) pass0 (pa_cons (pv 0) pa_nil)))
      (pss_one (ps_ret (pe_and (pe_ca cR (hr.mono (by decide)) (by rfl) pass0 (pa_cons (pv 2) pa_nil)) (pe_one (pe_not (pe_callB (cr_any (by rfl)) (by rfl) fAny boot_any (pa_cons (pe_lc (own := [("dot", 4)]) (g := gName 4) (tt := tYes) (by rfl) sc_cell.nd (pi_list (pv 2)) (blkOk_by (own := [("dot", 4)]) (N := NCL) (sc := defScope (topS 21)) (by decide +kernel))
          (fun _ _ _ _ _ => pg_name (i := 4) sc_cell.nd rfl (Or.inl rfl)) (fun _ _ _ _ _ => pts_nil) (fun _ _ _ _ _ => pe_cmp (pc_din (hu_1 hr) (pv 4) (pv 3)))) pa_nil))))))))), ?_⟩
    have pick : ∀ {i : Nat} {y : V}, (zs.map fun z => V.ref z.a)[i]? = some y → ∃ z ∈ zs, zs[i]? = some z ∧ y = V.ref z.a := fun {i y} h => by
      rw [List.getElem?_map] at h
      obtain ⟨z, h1, h2⟩ := Option.map_eq_some_iff.mp h
      exact ⟨z, List.mem_of_getElem? h1, h1, h2.symm⟩
    refine ⟨_, rfl, _, .ty "tuple", _, _, true, rfl, .ty "tuple", tyx_tup hz, kit_ty (by decide +kernel), _, rfl, iteF ⟨_, rfl, a, rfl, ⟨_, hz⟩, fun D hD => lc_it (walk_tup (K := K) (a := a) (xs := zs.map fun z : Ver => V.ref z.a)) (fun i H' => Same H H' ∧ H' D = some (.lst ((List.replicate i true).map V.bl))) ⟨(newo hD).1, (newo hD).2⟩ (fun i H' _ hP => same_sqT hP.1 hz) (fun i y G1 G2 hi hP hy => ?_) (fun G1 hP => ?_)⟩⟩
    · obtain ⟨rfl, hy⟩ := hy
      obtain ⟨sm, hl⟩ := hP
      obtain ⟨z, zin, _, rfl⟩ := pick hy
      obtain ⟨ds, lk, vo, fw⟩ := ((vg z zin).same sm).lk
      rw [List.length_map] at hi
      refine ⟨rfl, ?_⟩
      dsimp only [tYes]
      rw [if_pos rfl]
      refine ⟨_, rfl, .ref z.a, some ds, rfl, lk, (fun ds' d es e hd he => by obtain rfl := Option.some.inj e; exact fw d es hd he), fun G3 s3 => ⟨_, s3 _ _ hl, (by rw [List.length_map, List.length_replicate, sizeLine_eq]; omega), same_but hD (sm.trans s3), ?_⟩⟩
      rw [upd_same, vo, List.replicate_succ', List.map_append]
      rfl
    · obtain ⟨sm, hl⟩ := hP
      refine ⟨D, _, rfl, .inl (.inl hl), _, rfl, ?_⟩
      have al : (List.replicate (zs.map fun z : Ver => V.ref z.a).length true).all id = true := by simp
      rw [al]
      refine iteF ?_
      have hz1 := same_sqT sm hz
      have vg1 : ∀ z ∈ zs, VGood K G1 z := fun z h => (vg z h).same sm
      refine ⟨_, rfl, a, rfl, ⟨_, hz1⟩, fun D2 hD2 => lc_it (walk_tup (K := K) (a := a) (xs := zs.map fun z : Ver => V.ref z.a)) (fun i H' => Same G1 H' ∧ H' D2 = some (.lst ((zs.take i).map fun z => V.ref z.d.1))) ⟨(newo hD2).1, (newo hD2).2⟩ (fun i H' _ hP => same_sqT hP.1 hz1) (fun i y A1 A2 hi hP hy => ?_) (fun A1 hP => ?_)⟩
      · obtain ⟨rfl, hy⟩ := hy
        obtain ⟨s2, hl2⟩ := hP
        obtain ⟨z, zin, hzi, rfl⟩ := pick hy
        obtain ⟨⟨v1, _⟩, _⟩ := (vg1 z zin).same s2
        rw [List.length_map] at hi
        refine ⟨rfl, ?_⟩
        dsimp only [tYes]
        rw [if_pos rfl]
        refine ⟨_, rfl, z.a, _, 0, V.ref z.d.1, rfl, rfl, v1, atI_nat (j := 0) rfl, _, hl2, (by rw [List.length_map, List.length_take, sizeLine_eq]; omega), same_but hD2 s2, ?_⟩
        rw [upd_same, take_snoc hzi, List.map_append]
        rfl
      · obtain ⟨s2, hl2⟩ := hP
        rw [List.length_map, List.take_of_length_le (Nat.le_refl _)] at hl2
        have vg2 : ∀ z ∈ zs, VGood K A1 z := fun z h => (vg1 z h).same s2
        refine ⟨_, rfl, a, zs, rfl, .inr (same_sqT s2 hz1), (fun z h => (vg2 z h).1), lz, (fun z h => Nat.le_of_lt (Nat.lt_trans (vg2 z h).2.2.1 (by decide))), fun A3 K3 kvs s3 _ e3 mem _ => ?_⟩
        have vg3 : ∀ z ∈ zs, VGood K A3 z := fun z h => (vg2 z h).same s3
        have eL : (zs.map fun z => V.ref z.d.1) = (zs.map fun z => z.d).map fun q : MS.Row => V.ref q.1 := by rw [List.map_map]; rfl
        have eK : ((zs.map fun z => z.d).map fun q : MS.Row => q.2) = zs.map fun z => z.d.2 := by rw [List.map_map]; rfl
        have hl3 : A3 D2 = some (.lst ((zs.map fun z => z.d).map fun q : MS.Row => V.ref q.1)) := by rw [← eL]; exact s3 _ _ hl2
        refine ⟨_, rfl, D2, zs.map fun z => z.d, rfl, .inl (.inl hl3), (fun p hp => ?_), (fun k hk => ?_), (by rw [List.length_map]; exact lz), fun A4 s4 => ⟨_, rfl, ?_⟩⟩
        · obtain ⟨z, zin, rfl⟩ := List.mem_map.mp hp
          exact .inl (.inl (vg3 z zin).1.2.1)
        · rw [eK] at hk
          obtain ⟨z, zin, rfl⟩ := List.mem_map.mp hk
          exact (vg3 z zin).2.1
        rw [eK, ascB_iff.mpr asc]
        refine iteT ?_
        have hl4 := s4 _ _ hl3
        have e4 := s4 _ _ e3
        refine ⟨_, rfl, D2, rfl, ⟨_, .inl (.inl hl4)⟩, fun D4 hD4 => lc_it (walk_list (K := K) (a := D2) (xs := (zs.map fun z => z.d).map fun q : MS.Row => V.ref q.1)) (fun i H' => Same A4 H' ∧ H' D4 = some (.lst ((List.replicate i false).map V.bl))) ⟨(newo hD4).1, (newo hD4).2⟩ (fun i H' _ hP => .inl (.inl (hP.1 _ _ hl4))) (fun i y B1 B2 hi hP hy => ?_) (fun B1 hP => ?_)⟩
        · obtain ⟨rfl, hy⟩ := hy
          obtain ⟨s5, hl5⟩ := hP
          rw [List.length_map, List.length_map] at hi
          rw [List.getElem?_map, List.getElem?_map] at hy
          obtain ⟨p, h1, rfl⟩ := Option.map_eq_some_iff.mp hy
          obtain ⟨z, h2, rfl⟩ := Option.map_eq_some_iff.mp h1
          have zin := List.mem_of_getElem? h2
          have no : (valV kvs z.d.2).isSome = false := by
            cases hv : valV kvs z.d.2 with
            | none => rfl
            | some v =>
              exfalso
              refine fr z zin ((mem _).mp ?_)
              unfold valV at hv
              obtain ⟨e, he, _⟩ := Option.map_eq_some_iff.mp hv
              have y := List.find?_some he
              have y : e.1 = z.d.2 := of_decide_eq_true y
              rw [← y]
              exact List.mem_map_of_mem (List.mem_of_find?_eq_some he)
          refine ⟨rfl, ?_⟩
          dsimp only [tYes]
          rw [if_pos rfl]
          refine ⟨_, rfl, _, rfl, K3, _, rfl, DGet.t (s5 _ _ e4) (s5 _ _ (s4 _ _ (vg3 z zin).1.2.1)), _, hl5, (by rw [List.length_map, List.length_replicate, sizeLine_eq]; omega), same_but hD4 s5, ?_⟩
          rw [upd_same, no, List.replicate_succ', List.map_append]
          rfl
        · obtain ⟨s5, hl5⟩ := hP
          refine ⟨D4, _, rfl, .inl (.inl hl5), _, rfl, ?_⟩
          have an : (List.replicate ((zs.map fun z => z.d).map fun q : MS.Row => V.ref q.1).length false).any id = false := by simp
          rw [an]
          exact q B1 (sm.trans (s2.trans (s3.trans (s4.trans s5))))
end
end K01

set_option Elab.async false
set_option linter.all false
set_option maxRecDepth 100000
set_option maxHeartbeats 4000000
namespace K01
open PySem PySem.Spec PyProof.Rows L2 MS
/-- a statement that is not reached -/
def tNever : TS := fun _ _ _ => False
theorem ps_never {X : Cx} {st : Stmt} : PS X st tNever := ⟨fun _ _ _ _ _ _ h => h.elim⟩
/-- a cell, at a -/
def CellAt (K : PySem.W.Frag) (H : Hp) (a : Addr) (zs : List Ver) : Prop := SqT K H a (zs.map fun z => V.ref z.a) ∧ (∀ z ∈ zs, VGood K H z) ∧ zs.length ≤ 1000 ∧ cellB zs (knownOf zs)
theorem CellAt.same {K : PySem.W.Frag} {H H' : Hp} {a : Addr} {zs : List Ver} (s : Same H H') (h : CellAt K H a zs) : CellAt K H' a zs := ⟨same_sqT s h.1, fun z hz => (h.2.1 z hz).same s, h.2.2⟩
section
variable {P : Program} {w : World} {K : PySem.W.Frag} {mg : PySem.Str → Option Value} {base : Heap} {f : Addr} {fd : FuncData} {k : Nat}
def spLook (K : PySem.W.Frag) : Sp := fun vs H Q _ => ∃ (a : Addr) (zs : List Ver), vs = [.ref a] ∧ CellAt K H a zs ∧ ∀ H', Same H H' → Q .non H'
theorem sc_look : FnScope ["thing"] ["thing"] (defScope (topS 22)) := ⟨rfl, rfl, rfl, by decide +kernel, rfl, by decide +kernel, by decide +kernel⟩
theorem ok_look (cC : Ca P w K mg base 5 "is_cell" ["thing"] (spCell K)) (F : Fun K "look_at_cell" "look_at_cell" (topS 22) f fd) : FnOk P w K mg base CX0 6 f fd ["thing"] (spLook K) := by
  refine F.ok sc_look (fun vs H Q E h => ?_) (fun cdv A outer s H vs Q E hr h => ?_)
  · obtain ⟨a, zs, rfl, _⟩ := h; rfl
  · obtain ⟨a, zs, rfl, ⟨c1, c2, c3, c4⟩, q⟩ := h
    refine ⟨_, pss_one (ps_if (pt_not (pt_val (pe_ca cC hr (by rfl) pass0 (pa_cons (pv 0) pa_nil)))) (pss_one ps_never) pss_nil), ?_⟩
    exact ⟨_, rfl, a, zs, rfl, c1, c2, c3, c4, fun H1 s1 => ⟨_, rfl, iteF (q H1 s1)⟩⟩
def spDots (K : PySem.W.Frag) : Sp := fun vs H Q _ => ∃ (a : Addr) (zs : List Ver), vs = [.ref a] ∧ CellAt K H a zs ∧ ∀ H' r, Same H H' → H r = none → H' r = some (.tup (zs.map fun z => V.ref z.d.1)) → Q (.ref r) H'
abbrev NDO : List PySem.Str := ["cell", "version"]
theorem sc_dots : FnScope NDO ["cell"] (defScope (topS 26)) := ⟨rfl, rfl, rfl, by decide +kernel, rfl, by decide +kernel, by decide +kernel⟩
theorem ok_dots (B : Bt mg) (cL : Ca P w K mg base 6 "look_at_cell" ["thing"] (spLook K)) (F : Fun K "dots_of" "dots_of" (topS 26) f fd) : FnOk P w K mg base CX0 7 f fd ["cell"] (spDots K) := by
  refine F.ok sc_dots (fun vs H Q E h => ?_) (fun cdv A outer s H vs Q E hr h => ?_)
  · obtain ⟨a, zs, rfl, _⟩ := h; rfl
  · obtain ⟨a, zs, rfl, c, q⟩ := h
    refine ⟨_, pss_cons (ps_expr (pe_ca cL hr (by rfl) pass0 (pa_cons (pv 0) pa_nil))) (pss_one (ps_ret (pe_callTy call_tuple_of (by rfl) B.tuple boot_tuple (pa_cons (pe_lc (own := [("version", 1)]) (g := gName 1) (tt := tYes) (by rfl) sc_dots.nd (pi_tup (pv 0)) (blkOk_by (own := [("version", 1)]) (N := NDO) (sc := defScope (topS 26)) (by decide +kernel))
          (fun _ _ _ _ _ => pg_name (i := 1) sc_dots.nd rfl (Or.inl rfl)) (fun _ _ _ _ _ => pts_nil) (fun _ _ _ _ _ => pe_ix (ix_tupK (K := K) rfl) (pv 1) pe_int (fun _ _ => rfl))) pa_nil)))), ?_⟩
    refine ⟨_, rfl, a, zs, rfl, c, fun H1 s1 => ?_⟩
    obtain ⟨hz, vg, lz, _⟩ := c.same s1
    refine ⟨_, rfl, a, rfl, ⟨_, hz⟩, fun D hD => lc_it (walk_tup (K := K) (a := a) (xs := zs.map fun z : Ver => V.ref z.a)) (fun i H' => Same H1 H' ∧ H' D = some (.lst ((zs.take i).map fun z => V.ref z.d.1))) ⟨(newo hD).1, (newo hD).2⟩ (fun i H' _ hP => same_sqT hP.1 hz) (fun i y A1 A2 hi hP hy => ?_) (fun A1 hP => ?_)⟩
    · obtain ⟨rfl, hy⟩ := hy
      obtain ⟨s2, hl2⟩ := hP
      rw [List.getElem?_map] at hy
      obtain ⟨z, hzi, rfl⟩ := Option.map_eq_some_iff.mp hy
      obtain ⟨⟨v1, _⟩, _⟩ := (vg z (List.mem_of_getElem? hzi)).same s2
      rw [List.length_map] at hi
      refine ⟨rfl, ?_⟩
      dsimp only [tYes]
      rw [if_pos rfl]
      refine ⟨_, rfl, z.a, _, 0, V.ref z.d.1, rfl, rfl, v1, atI_nat (j := 0) rfl, _, hl2, (by rw [List.length_map, List.length_take, sizeLine_eq]; omega), same_but hD s2, ?_⟩
      rw [upd_same, take_snoc hzi, List.map_append]
      rfl
    · obtain ⟨s2, hl2⟩ := hP
      rw [List.length_map, List.take_of_length_le (Nat.le_refl _)] at hl2
      refine ⟨D, _, rfl, .inl ⟨.inl (.inl hl2), fun r nr => ?_⟩⟩
      obtain ⟨s3, e3⟩ := newo (o := .tup (zs.map fun z => V.ref z.d.1)) nr
      refine q _ r (s1.trans (s2.trans s3)) ?_ e3
      cases y : H r with
      | none => rfl
      | some o =>
        rw [s2 _ _ (s1 _ _ y)] at nr
        cases nr
end
end K01

set_option Elab.async false
set_option linter.all false
set_option maxRecDepth 100000
set_option maxHeartbeats 4000000
namespace K01
open PySem PySem.Spec PyProof.Rows L2 MS
def dotsOf (zs : List Ver) : List DK := zs.map fun z => z.d.2
section
variable {P : Program} {w : World} {K : PySem.W.Frag} {mg : PySem.Str → Option Value} {base : Heap} {f : Addr} {fd : FuncData} {k : Nat}
def spKb (K : PySem.W.Frag) : Sp := fun vs H Q _ => ∃ (a : Addr) (zs : List Ver), vs = [.ref a] ∧ CellAt K H a zs ∧ (∀ k ∈ knownOf zs, D3 k) ∧ zs.length + (knownOf zs).length < 63 ∧
  ∀ H' r ms, Same H H' → TupOf K H' r ms → Asc ms → (∀ k, k ∈ ms ↔ k ∈ dotsOf zs ∨ k ∈ knownOf zs) → Q (.ref r) H'
theorem sc_kb : FnScope ["cell", "version"] ["cell"] (defScope (topS 27)) := ⟨rfl, rfl, rfl, by decide +kernel, rfl, by decide +kernel, by decide +kernel⟩
theorem ok_kb (cD : Ca P w K mg base 7 "dots_of" ["cell"] (spDots K)) (cT : Ca P w K mg base 1 "together" ["some"] (spTog K)) (F : Fun K "known_by" "known_by" (topS 27) f fd) : FnOk P w K mg base CX0 8 f fd ["cell"] (spKb K) := by
  refine F.ok sc_kb (fun vs H Q E h => ?_) (fun cdv A outer s H vs Q E hr h => ?_)
  · obtain ⟨a, zs, rfl, _⟩ := h; rfl
  · obtain ⟨a, zs, rfl, c, d3, few, q⟩ := h
    refine ⟨_, pss_one (ps_ret (pe_ca cT (hr.mono (by decide)) (by rfl) pass0 (pa_cons (pe_op op_cat (pe_lst (pa_cons (pe_ca cD hr (by rfl) pass0 (pa_cons (pv 0) pa_nil)) pa_nil)) (pe_lc (own := [("version", 1)]) (g := gName 1) (tt := tYes) (by rfl) sc_kb.nd (pi_tup (pv 0)) (blkOk_by (own := [("version", 1)]) (N := ["cell", "version"]) (sc := defScope (topS 27)) (by decide +kernel))
          (fun _ _ _ _ _ => pg_name (i := 1) sc_kb.nd rfl (Or.inl rfl)) (fun _ _ _ _ _ => pts_nil) (fun _ _ _ _ _ => pe_ix (ix_tupK (K := K) rfl) (pv 1) pe_int (fun _ _ => rfl)))) pa_nil))), ?_⟩
    refine ⟨_, rfl, a, zs, rfl, c, fun H1 r s1 _ e1 => ⟨(by show 1 ≤ sizeLine; decide), fun l nl => ?_⟩⟩
    obtain ⟨s2, e2⟩ := newo (o := .lst [V.ref r]) nl
    generalize upd H1 l (.lst [V.ref r]) = H2 at s2 e2 ⊢
    obtain ⟨hz, vg, lz, _⟩ := c.same (s1.trans s2)
    refine ⟨_, rfl, a, rfl, ⟨_, hz⟩, fun D hD => lc_it (walk_tup (K := K) (a := a) (xs := zs.map fun z : Ver => V.ref z.a)) (fun i H' => Same H2 H' ∧ H' D = some (.lst ((zs.take i).map fun z => V.ref z.kn))) ⟨(newo hD).1, (newo hD).2⟩ (fun i H' _ hP => same_sqT hP.1 hz) (fun i y A1 A2 hi hP hy => ?_) (fun A1 hP => ?_)⟩
    · obtain ⟨rfl, hy⟩ := hy
      obtain ⟨s3, hl⟩ := hP
      rw [List.getElem?_map] at hy
      obtain ⟨z, hzi, rfl⟩ := Option.map_eq_some_iff.mp hy
      obtain ⟨⟨v1, _⟩, _⟩ := (vg z (List.mem_of_getElem? hzi)).same s3
      rw [List.length_map] at hi
      refine ⟨rfl, ?_⟩
      dsimp only [tYes]
      rw [if_pos rfl]
      refine ⟨_, rfl, z.a, _, 1, V.ref z.kn, rfl, rfl, v1, atI_nat (j := 1) rfl, _, hl, (by rw [List.length_map, List.length_take, sizeLine_eq]; omega), same_but hD s3, ?_⟩
      rw [upd_same, take_snoc hzi, List.map_append]
      rfl
    · obtain ⟨s3, hl⟩ := hP
      rw [List.length_map, List.take_of_length_le (Nat.le_refl _)] at hl
      refine ⟨l, D, _, _, rfl, rfl, s3 _ _ e2, hl, (by rw [List.length_map, sizeLine_eq]; show 1 + zs.length ≤ 16777216; omega), fun t nt => ?_⟩
      obtain ⟨s4, e4⟩ := newo (o := .lst ([V.ref r] ++ zs.map fun z => V.ref z.kn)) nt
      generalize upd A1 t (.lst ([V.ref r] ++ zs.map fun z => V.ref z.kn)) = A2 at s4 e4 ⊢
      have s24 : Same H2 A2 := s3.trans s4
      obtain ⟨ts, hts⟩ : ∃ ts : List (Addr × List DK), ts = (r, dotsOf zs) :: zs.map fun z => (z.kn, z.L.map fun q => q.2) := ⟨_, rfl⟩
      have eT : ([V.ref r] ++ zs.map fun z => V.ref z.kn) = ts.map fun t => V.ref t.1 := by
        rw [hts, List.map_cons, List.map_map]
        rfl
      have al : allOf ts = dotsOf zs ++ knownOf zs := by
        rw [hts]
        unfold allOf knownOf
        rw [List.map_cons, List.flatten_cons, List.map_map]
        rfl
      have tt : ∀ t ∈ ts, TupOf K A2 t.1 t.2 := fun t ht => by
        rw [hts] at ht
        rcases List.mem_cons.mp ht with rfl | ht
        · refine ⟨zs.map fun z => z.d, .inl (.inl ?_), fun p hp => ?_, ?_⟩
          · rw [List.map_map]
            exact s24 _ _ (s2 _ _ e1)
          · obtain ⟨z, zin, rfl⟩ := List.mem_map.mp hp
            exact .inl (.inl (s24 _ _ (vg z zin).1.2.1))
          · rw [List.map_map]
            rfl
        · obtain ⟨z, zin, rfl⟩ := List.mem_map.mp ht
          obtain ⟨_, _, v3, v4⟩ := ((vg z zin).same s24).1
          exact ⟨z.L, v3, v4.dots, rfl⟩
      refine ⟨t, ts, rfl, .inl (.inl (by rw [e4, eT])), tt, (fun k hk => ?_), (by rw [al, List.length_append]; unfold dotsOf; rw [List.length_map]; omega), fun H' r' ms s5 tm am mem _ => q H' r' ms (s1.trans (s2.trans (s24.trans s5))) tm am fun k => by rw [mem k, al, List.mem_append]⟩
      rw [al] at hk
      rcases List.mem_append.mp hk with hk | hk
      · obtain ⟨z, zin, rfl⟩ := List.mem_map.mp hk
        exact (vg z zin).2.1
      · exact d3 k hk
end
end K01

set_option Elab.async false
set_option linter.all false
set_option maxRecDepth 100000
set_option maxHeartbeats 4000000
namespace K01
open PySem PySem.Spec PyProof.Rows L2 MS
/-- versions by their dots -/
def ByD (kvs : List (DK × V)) (zs : List Ver) : Prop := (kvs.map fun e => e.1).Nodup ∧ (∀ e ∈ kvs, ∃ z ∈ zs, e = (z.d.2, V.ref z.a)) ∧ ∀ z ∈ zs, z.d.2 ∈ kvs.map fun e => e.1
theorem ByD.nil : ByD [] [] := ⟨.nil, (fun _ z => nomatch z), fun _ z => nomatch z⟩
theorem ByD.put {kvs : List (DK × V)} {zs : List Ver} {z : Ver} (h : ByD kvs zs) : ByD (putK kvs z.d.2 (V.ref z.a)) (zs ++ [z]) := by
  obtain ⟨h1, h2, h3⟩ := h
  refine ⟨VS.put_nodup h1, fun e he => ?_, fun y hy => ?_⟩
  · rcases VS.put_in he with rfl | ⟨he, _⟩
    · exact ⟨z, List.mem_append_right _ (List.mem_singleton.mpr rfl), rfl⟩
    · obtain ⟨y, hy, e1⟩ := h2 e he
      exact ⟨y, List.mem_append_left _ hy, e1⟩
  · rw [put_mem]
    rcases List.mem_append.mp hy with hy | hy
    · exact .inr (h3 y hy)
    · rw [List.mem_singleton.mp hy]
      exact .inl rfl
theorem ByD.get {kvs : List (DK × V)} {zs : List Ver} {k : DK} (h : ByD kvs zs) (hk : k ∈ kvs.map fun e => e.1) : ∃ z ∈ zs, z.d.2 = k ∧ valV kvs k = some (V.ref z.a) := by
  obtain ⟨v, e, hv⟩ := VS.val_in hk
  obtain ⟨z, hz, y⟩ := h.2.1 _ hv
  have y1 : k = z.d.2 := congrArg Prod.fst y
  have y2 : v = V.ref z.a := congrArg Prod.snd y
  exact ⟨z, hz, y1.symm, by rw [e, y2]⟩
def allV (cs : List (Addr × List Ver)) : List Ver := (cs.map fun c => c.2).flatten
theorem allV_succ {cs : List (Addr × List Ver)} {i : Nat} {c : Addr × List Ver} (h : cs[i]? = some c) : allV (cs.take (i + 1)) = allV (cs.take i) ++ c.2 := by
  unfold allV
  rw [take_snoc h, List.map_append, List.flatten_append]
  simp
theorem allV_len {cs : List (Addr × List Ver)} {i : Nat} : (allV (cs.take i)).length ≤ (allV cs).length := by
  unfold allV
  have e : cs = cs.take i ++ cs.drop i := (List.take_append_drop i cs).symm
  conv => rhs; rw [e, List.map_append, List.flatten_append, List.length_append]
  omega
theorem allV_mem {cs : List (Addr × List Ver)} {z : Ver} : z ∈ allV cs ↔ ∃ c ∈ cs, z ∈ c.2 := by
  unfold allV
  simp only [List.mem_flatten, List.mem_map]
  constructor
  · rintro ⟨_, ⟨c, hc, rfl⟩, hz⟩
    exact ⟨c, hc, hz⟩
  · rintro ⟨c, hc, hz⟩
    exact ⟨_, ⟨c, hc, rfl⟩, hz⟩
section
variable {P : Program} {w : World} {K : PySem.W.Frag} {mg : PySem.Str → Option Value} {base : Heap} {f : Addr} {fd : FuncData} {k : Nat}
def spJoin (K : PySem.W.Frag) : Sp := fun vs H Q _ => ∃ (l : Addr) (cs : List (Addr × List Ver)), vs = [.ref l] ∧ SqL K H l (cs.map fun c => V.ref c.1) ∧ (∀ c ∈ cs, CellAt K H c.1 c.2) ∧ cs.length ≤ 1000 ∧ (allV cs).length ≤ 1000 ∧
  ∀ H' r ls, Same H H' → H r = none → CellAt K H' r ls → (∀ z ∈ ls, z ∈ allV cs) → (∀ z ∈ allV cs, z.d.2 ∉ knownOf (allV cs) → z.d.2 ∈ dotsOf ls) → (∀ z ∈ ls, z.d.2 ∉ knownOf (allV cs)) → Q (.ref r) H'
abbrev NJ : List PySem.Str := ["cells", "cell", "versions", "version", "by_dots", "known", "dot"]
theorem sc_join : FnScope NJ ["cells"] (defScope (topS 23)) := ⟨rfl, rfl, rfl, by decide +kernel, rfl, by decide +kernel, by decide +kernel⟩
theorem none_of {H H' : Hp} {r : Addr} (s : Same H H') (n : H' r = none) : H r = none := by
  cases y : H r with
  | none => rfl
  | some o =>
    rw [s _ _ y] at n
    cases n
theorem ok_join (B : Bt mg) (cL : Ca P w K mg base 6 "look_at_cell" ["thing"] (spLook K)) (cA : Ca P w K mg base 1 "all_known" ["versions"] (spAk K)) (F : Fun K "joined" "joined" (topS 23) f fd) : FnOk P w K mg base CX0 7 f fd ["cells"] (spJoin K) := by
  classical
  refine F.ok sc_join (fun vs H Q E h => ?_) (fun cdv A outer s H vs Q E hr h => ?_)
  · obtain ⟨l, cs, rfl, _⟩ := h; rfl
  · obtain ⟨l, cs, rfl, hl, cc, lc, la, q⟩ := h
    refine ⟨_, pss_cons (ps_if (pt_not (pt_val (pe_callB call_isiT (by rfl) B.isi boot_isinstance (pa_cons (pv 0) (pa_cons (pe_tup (pa_cons (pe_bltn (v := .ty "list") (by rfl) B.list (by decide +kernel) rfl) (pa_cons (pe_bltn (v := .ty "tuple") (by rfl) B.tuple (by decide +kernel) rfl) pa_nil))) pa_nil))))) (pss_one ps_never) pss_nil)
      (pss_cons (ps_for PassesOwn.never rfl (pi_list (pv 0)) (pg_name (i := 1) sc_join.nd rfl (Or.inl rfl)) (pss_one (ps_expr (pe_ca cL hr (by rfl) pass0 (pa_cons (pv 1) pa_nil)))))
      (pss_cons (ps_setLc2 (i := 2) (own := [("cell", 1), ("version", 3)]) (vs1 := [3]) (g := gName 1) (tt := tYes) (wi1 := iTup K (tVar 1)) (g1 := gName 3) (tt1 := tYes) (te := tVar 3) (by rfl) sc_join.nd rfl rfl (sw_true rfl rfl rfl (by decide +kernel)) (pi_list (pv 0)) (blkOk_by (own := [("cell", 1), ("version", 3)]) (N := NJ) (sc := defScope (topS 23)) (by decide +kernel)) (by decide)
          (fun _ _ _ _ _ => pg_name (i := 1) sc_join.nd rfl (Or.inl rfl)) (fun _ _ _ _ _ => pts_nil) (fun _ _ _ _ _ => pi_tupK rfl (pv 1)) (fun _ _ _ _ _ => pg_name (i := 3) sc_join.nd rfl (Or.inl rfl)) (fun _ _ _ _ _ => pts_nil) (fun _ _ _ _ _ => pv 3))
      (pss_cons (ps_set (i := 4) sc_join.nd rfl (.inr rfl) (VS.pe_dc1 (own := [("version", 3)]) (g := gName 3) (tk := tOp (rIxT K) (tVar 3) (tC (.int 0))) (tv := tVar 3) (by rfl) sc_join.nd (hu_lt hr) (pi_list (pv 2)) (blkOk_by (own := [("version", 3)]) (N := NJ) (sc := defScope (topS 23)) (by decide +kernel))
          (fun _ _ _ _ _ => pg_name (i := 3) sc_join.nd rfl (Or.inl rfl)) (fun _ _ _ _ _ => pe_ix (ix_tupK (K := K) rfl) (pv 3) pe_int (fun _ _ => rfl)) (fun _ _ _ _ _ => pv 3)))
      (pss_cons (ps_set (i := 5) sc_join.nd rfl (.inr rfl) (pe_ca cA (hr.mono (by decide)) (by rfl) pass0 (pa_cons (pv 2) pa_nil)))
      (pss_one (ps_ret (pe_callTy call_tuple_of (by rfl) B.tuple boot_tuple (pa_cons (pe_lc (own := [("dot", 6)]) (g := gName 6) (by rfl) sc_join.nd (pi_list (pe_callB (VS.cr_sortD (by rfl)) (by rfl) B.sorted boot_sorted (pa_cons (pv 4) pa_nil))) (blkOk_by (own := [("dot", 6)]) (N := NJ) (sc := defScope (topS 23)) (by decide +kernel))
          (fun _ _ _ _ _ => pg_name (i := 6) sc_join.nd rfl (Or.inl rfl)) (fun _ _ _ _ _ => pts_one (pt_cmp (pc_dnotin (hu_1 hr) (pv 6) (pv 5)))) (fun _ _ _ _ _ => pe_dget (hu_1 hr) (pv 4) (pv 6) (fun _ _ => rfl))) pa_nil)))))))), ?_⟩
    refine ⟨_, rfl, (by show 2 ≤ sizeLine; decide), fun tp ntp => ?_⟩
    obtain ⟨s0, e0⟩ := newo (o := .tup [V.ty "list", V.ty "tuple"]) ntp
    generalize upd H tp (.tup [V.ty "list", V.ty "tuple"]) = H0 at s0 e0 ⊢
    have hl0 := s0.seq hl
    refine ⟨_, tp, _, _, _, true, rfl, e0, .cons (.ty "list") (.cons (.ty "tuple") .nil), tyx_lst hl0, VS.kit_any1 (kit_ty (by decide +kernel)), _, rfl, iteF ?_⟩
    refine ⟨_, rfl, l, rfl, ⟨_, hl0⟩, for_it (walk_list (K := K) (a := l) (xs := cs.map fun c => V.ref c.1)) (fun i σ G => Same H0 G ∧ ∃ o, σ = [some (.ref l), o, none, none, none, none, none]) ⟨Same.refl _, none, rfl⟩ (fun i σ G _ hP => hP.1.seq hl0) (fun i x σ G G' hi hP hy => ?_) (fun σ G hP => ?_)⟩
    · obtain ⟨s1, o, rfl⟩ := hP
      obtain ⟨rfl, hx⟩ := hy
      rw [List.getElem?_map] at hx
      obtain ⟨c, hc, rfl⟩ := Option.map_eq_some_iff.mp hx
      exact ⟨_, rfl, c.1, c.2, rfl, (cc c (List.mem_of_getElem? hc)).same (s0.trans s1), fun H2 s2 => ⟨s1.trans s2, _, rfl⟩⟩
    obtain ⟨s1, o, rfl⟩ := hP
    have hl1 := s1.seq hl0
    have cc1 : ∀ c ∈ cs, CellAt K G c.1 c.2 := fun c hc => (cc c hc).same (s0.trans s1)
    have sHG : Same H G := s0.trans s1
    clear s0 e0 hl0 s1
    refine ⟨_, rfl, l, rfl, ⟨_, hl1⟩, fun D hD => VS.lc2_it (walk_list (K := K) (a := l) (xs := cs.map fun c => V.ref c.1)) (fun i H' => Same G H' ∧ H' D = some (.lst ((allV (cs.take i)).map fun z => V.ref z.a))) ⟨(newo hD).1, (newo hD).2⟩ (fun i H' _ hP => hP.1.seq hl1) (fun i x G1 G2 hi hP hy => ?_) (fun G1 hP => ?_)⟩
    · obtain ⟨rfl, hx⟩ := hy
      obtain ⟨s2, hl2⟩ := hP
      rw [List.getElem?_map] at hx
      obtain ⟨c, hc, rfl⟩ := Option.map_eq_some_iff.mp hx
      obtain ⟨hz, vg, lz, _⟩ := (cc1 c (List.mem_of_getElem? hc)).same s2
      have ll := allV_len (cs := cs) (i := i + 1)
      rw [allV_succ hc, List.length_append] at ll
      refine ⟨rfl, VS.yes_if ?_⟩
      refine ⟨_, rfl, c.1, rfl, ⟨_, hz⟩, VS.lc2_in (g1 := gName 3) (tt1 := tYes) (te := tVar 3) (vs1 := [3]) (D := D) (walk_tup (K := K) (a := c.1) (xs := c.2.map fun z => V.ref z.a)) (fun j H' => Same G H' ∧ H' D = some (.lst ((allV (cs.take i) ++ c.2.take j).map fun z => V.ref z.a))) ⟨s2, by rw [List.take_zero, List.append_nil]; exact hl2⟩ (fun j H' _ hP => ((cc1 c (List.mem_of_getElem? hc)).same hP.1).1) (fun j x A1 A2 hj hP hy => ?_) (fun A1 hP => ?_)⟩
      · obtain ⟨rfl, hx⟩ := hy
        obtain ⟨s3, hl3⟩ := hP
        rw [List.getElem?_map] at hx
        obtain ⟨z, hz, rfl⟩ := Option.map_eq_some_iff.mp hx
        rw [List.length_map] at hj
        refine ⟨rfl, VS.yes_if ?_⟩
        refine ⟨_, rfl, _, hl3, (by rw [List.length_map, List.length_append, List.length_take, sizeLine_eq]; omega), same_but hD s3, ?_⟩
        rw [upd_same, take_snoc hz, ← List.append_assoc, List.map_append (l₁ := allV (cs.take i) ++ c.2.take j)]
        rfl
      · obtain ⟨s3, hl3⟩ := hP
        rw [List.length_map, List.take_of_length_le (Nat.le_refl _), ← allV_succ hc] at hl3
        exact ⟨s3, hl3⟩
    obtain ⟨s2, hl2⟩ := hP
    rw [List.length_map, List.take_of_length_le (Nat.le_refl _)] at hl2
    have vg : ∀ z ∈ allV cs, VGood K G1 z := fun z hz => by
      obtain ⟨c, hc, y⟩ := allV_mem.mp hz
      exact ((cc1 c hc).same s2).2.1 z y
    have sH : Same H G1 := sHG.trans s2
    clear cc cc1 hl hl1 s2
    generalize allV cs = zs at *
    have hL : SqL K G1 D (zs.map fun z => V.ref z.a) := .inl (.inl hl2)
    refine ⟨_, rfl, D, rfl, ⟨_, hL⟩, fun D2 hD2 => VS.dc1_it (walk_list (K := K) (a := D) (xs := zs.map fun z => V.ref z.a)) (fun i H' => Same G1 H' ∧ ∃ kvs, H' D2 = some (.dT kvs) ∧ ByD kvs (zs.take i) ∧ kvs.length ≤ i) ⟨(newo hD2).1, [], (newo hD2).2, ByD.nil, Nat.le_refl _⟩ (fun i H' _ hP => hP.1.seq hL) (fun i x A1 A2 hi hP hy => ?_) (fun A1 hP => ?_)⟩
    · obtain ⟨rfl, hx⟩ := hy
      obtain ⟨s3, kvs, e3, bd, lk⟩ := hP
      rw [List.getElem?_map] at hx
      obtain ⟨z, hz, rfl⟩ := Option.map_eq_some_iff.mp hx
      rw [List.length_map] at hi
      obtain ⟨⟨v1, v2, _⟩, _⟩ := (vg z (List.mem_of_getElem? hz)).same s3
      refine ⟨rfl, _, rfl, z.a, _, 0, V.ref z.d.1, rfl, rfl, v1, atI_nat (j := 0) rfl, _, rfl, z.d.1, z.d.2, kvs, rfl, v2, e3, (by rw [sizeLine_eq]; omega), same_but hD2 s3, _, upd_same, ?_, (by have := length_putK kvs z.d.2 (V.ref z.a); omega)⟩
      rw [take_snoc hz]
      exact bd.put
    obtain ⟨s3, kvs, e3, bd, lk⟩ := hP
    rw [List.length_map] at lk
    rw [List.length_map, List.take_of_length_le (Nat.le_refl _)] at bd
    have vg3 : ∀ z ∈ zs, VGood K A1 z := fun z hz => (vg z hz).same s3
    refine ⟨_, rfl, D, zs, rfl, .inl (s3.seq hL), (fun z hz => (vg3 z hz).1), la, (fun z hz => Nat.le_of_lt (Nat.lt_trans (vg3 z hz).2.2.1 (by decide))), fun A2 K2 kn s4 _ e4 mem _ => ?_⟩
    have e3' := s4 _ _ e3
    have d3 : ∀ e ∈ kvs, D3 e.1 := fun e he => by
      obtain ⟨z, hz, y⟩ := bd.2.1 e he
      rw [y]
      exact (vg3 z hz).2.1
    refine ⟨_, rfl, D2, kvs, rfl, e3', d3, (by omega), fun L p hL2 pm pw np => ?_⟩
    obtain ⟨s5, e5⟩ := newo (o := .lst (L.map fun q => V.ref q.1)) np
    generalize upd A2 p (.lst (L.map fun q => V.ref q.1)) = A3 at s5 e5 ⊢
    have hp : SqL K A3 p (L.map fun q => V.ref q.1) := .inl (.inl e5)
    have lL : L.length = kvs.length := by
      have y := pm.length_eq
      rw [List.length_map, List.length_map] at y
      exact y
    have asc : Asc (L.map fun q => q.2) := asc_of pw (pm.nodup_iff.mpr bd.1)
    have keep : ∀ {i : Nat} {q : MS.Row}, L[i]? = some q → q.2 ∈ kvs.map fun e => e.1 := fun {i q} hq => pm.mem_iff.mp (List.mem_map_of_mem (List.mem_of_getElem? hq))
    refine ⟨p, rfl, ⟨_, hp⟩, fun D4 hD4 => lc_it (walk_list (K := K) (a := p) (xs := L.map fun q => V.ref q.1)) (fun i H' => Same A3 H' ∧ ∃ ls : List Ver, H' D4 = some (.lst (ls.map fun z => V.ref z.a)) ∧ dotsOf ls = ((L.take i).map fun q => q.2).filter (fun k => decide (k ∉ knownOf zs)) ∧ (∀ z ∈ ls, z ∈ zs) ∧ ls.length ≤ i) ⟨(newo hD4).1, [], (newo hD4).2, rfl, (fun _ z => nomatch z), Nat.le_refl _⟩ (fun i H' _ hP => hP.1.seq hp) (fun i x B1 B2 hi hP hy => ?_) (fun B1 hP => ?_)⟩
    · obtain ⟨rfl, hx⟩ := hy
      obtain ⟨s6, ls, e6, dl, ml, ll⟩ := hP
      rw [List.getElem?_map] at hx
      obtain ⟨qr, hq, rfl⟩ := Option.map_eq_some_iff.mp hx
      rw [List.length_map] at hi
      have hqA : B2 qr.1 = some (.tup (qr.2.map kV)) := s6 _ _ (s5 _ _ (hL2 qr (List.mem_of_getElem? hq)))
      refine ⟨rfl, _, rfl, _, rfl, K2, _, rfl, DGet.t (s6 _ _ (s5 _ _ e4)) hqA, _, rfl, ?_⟩
      by_cases hk : qr.2 ∈ knownOf zs
      · rw [VS.val_some.mpr ((mem _).mpr hk)]
        refine iteF ⟨s6, ls, e6, ?_, ml, by omega⟩
        rw [take_snoc hq, List.map_append, List.filter_append, dl, List.map_cons, List.map_nil, List.filter_cons, if_neg (by rw [decide_eq_true_eq]; exact fun z => z hk), List.filter_nil, List.append_nil]
      · rw [VS.val_no (fun z => hk ((mem _).mp z))]
        obtain ⟨z, hz, ez, hv⟩ := bd.get (keep hq)
        refine iteT ⟨_, rfl, _, rfl, D2, V.ref z.a, rfl, (by rw [← hv]; exact DGet.t (s6 _ _ (s5 _ _ e3')) hqA), _, e6, (by rw [List.length_map, sizeLine_eq]; omega), same_but hD4 s6, ls ++ [z], ?_, ?_, ?_, ?_⟩
        · rw [upd_same, List.map_append]
          rfl
        · unfold dotsOf at dl ⊢
          rw [take_snoc hq, List.map_append, List.map_append, List.filter_append, dl, List.map_cons, List.map_nil, List.map_cons, List.map_nil, List.filter_cons, if_pos (by rw [decide_eq_true_eq]; exact hk), List.filter_nil, ez]
        · intro y hy
          rcases List.mem_append.mp hy with hy | hy
          · exact ml y hy
          · rw [List.mem_singleton.mp hy]
            exact hz
        · rw [List.length_append]
          show ls.length + 1 ≤ i + 1
          omega
    obtain ⟨s6, ls, e6, dl, ml, ll⟩ := hP
    rw [List.length_map] at ll
    rw [List.length_map, List.take_of_length_le (Nat.le_refl _)] at dl
    refine ⟨D4, _, rfl, .inl ⟨.inl (.inl e6), fun r nr => ?_⟩⟩
    obtain ⟨s7, e7⟩ := newo (o := .tup (ls.map fun z => V.ref z.a)) nr
    have sAll : Same H (upd B1 r (.tup (ls.map fun z => V.ref z.a))) := sH.trans (s3.trans (s4.trans (s5.trans (s6.trans s7))))
    have out : ∀ z ∈ ls, z.d.2 ∉ knownOf zs := fun z hz => by
      have y : z.d.2 ∈ dotsOf ls := List.mem_map_of_mem hz
      rw [dl, List.mem_filter, decide_eq_true_eq] at y
      exact y.2
    refine q _ r ls sAll (none_of (sH.trans (s3.trans (s4.trans (s5.trans s6)))) nr) ⟨.inl (.inl e7), (fun z hz => (vg3 z (ml z hz)).same (s4.trans (s5.trans (s6.trans s7)))), (by omega), ?_, fun z hz hk => ?_⟩ ml (fun z hz hk => ?_) out
    · have y : (dotsOf ls).Pairwise fun a b => dlt a b = true := by
        rw [dl]
        exact List.Pairwise.filter _ asc
      exact y
    · obtain ⟨y, hy, hk⟩ := knownOf_mem.mp hk
      exact out z hz (knownOf_mem.mpr ⟨y, ml y hy, hk⟩)
    · rw [dl, List.mem_filter, decide_eq_true_eq]
      exact ⟨pm.mem_iff.mpr (bd.2.2 z hz), hk⟩
end
end K01

set_option Elab.async false
set_option linter.all false
set_option maxRecDepth 100000
set_option maxHeartbeats 4000000
namespace K01
open PySem PySem.Spec PyProof.Rows L2 MS
theorem VGood.dots {K : PySem.W.Frag} {H : Hp} {z : Ver} (h : VGood K H z) : dDot (dD z.d.2) = true ∧ ((z.L.map fun q => q.2).map dD).all dDot = true := by
  obtain ⟨_, _, _, wd, _, h5, _⟩ := h
  have h5 : (dDot (dD z.d.2) && (knownO (look (.tuple ((z.L.map fun q => q.2).map dD))) && (dWorth wd && _))) = true := h5
  rw [Bool.and_eq_true, Bool.and_eq_true] at h5
  refine ⟨h5.1, ?_⟩
  have y : (((z.L.map fun q => q.2).map dD).all dDot && _) = true := h5.2.1
  rw [Bool.and_eq_true] at y
  exact y.1
/-- a worth: none of a whole number, the time of a mark -/
def Wth (K : PySem.W.Frag) (H : Hp) (v : V) (t : Option Int) : Prop := (t = none ∧ ∃ n, v = .int n) ∨ ∃ a m, t = some m ∧ 0 ≤ m ∧ v = .ref a ∧ SqT K H a [.str gone, .int m]
theorem Wth.same {K : PySem.W.Frag} {H H' : Hp} {v : V} {t : Option Int} (s : Same H H') (h : Wth K H v t) : Wth K H' v t := by
  rcases h with h | ⟨a, m, h1, h2, h3, h4⟩
  · exact .inl h
  · exact .inr ⟨a, m, h1, h2, h3, same_sqT s h4⟩
theorem Wth.lk {K : PySem.W.Frag} {H : Hp} {v : V} {t : Option Int} (h : Wth K H v t) : ∃ o, Lk K H v o ∧ markO o = t.isSome := by
  rcases h with ⟨rfl, n, rfl⟩ | ⟨a, m, rfl, h2, rfl, h4⟩
  · exact ⟨none, .no (T := "int") (.base (.int n)) (by decide +kernel), rfl⟩
  · refine ⟨some [.str gone, .int m], .tup h4 (.cons ⟨by decide +kernel, .inl (.str gone)⟩ (.cons ⟨rfl, .inl (.int m)⟩ .nil)), ?_⟩
    show markL [.str gone, .int m] = true
    have e : markL [.str gone, .int m] = (decide (gone = gone) && decide (0 ≤ m)) := rfl
    rw [e, decide_eq_true rfl, decide_eq_true h2]
    rfl
def eld : Option Int → Int → Bool
  | some t, m => decide (t ≤ m)
  | none, _ => false
section
variable {P : Program} {w : World} {K : PySem.W.Frag} {mg : PySem.Str → Option Value} {base : Heap} {f : Addr} {fd : FuncData} {k : Nat}
def spEld (K : PySem.W.Frag) : Sp := fun vs H Q _ => ∃ (v : V) (t : Option Int) (m : Int), vs = [v, .int m] ∧ Wth K H v t ∧ Q (.bl (eld t m)) H
theorem sc_eld : FnScope ["worth", "time"] ["worth", "time"] (defScope (topS 25)) := ⟨rfl, rfl, rfl, by decide +kernel, rfl, by decide +kernel, by decide +kernel⟩
theorem ok_eld (cM : Ca P w K mg base 2 "is_mark" ["thing"] (spMark K)) (F : Fun K "is_elder" "is_elder" (topS 25) f fd) : FnOk P w K mg base CX0 3 f fd ["worth", "time"] (spEld K) := by
  refine F.ok sc_eld (fun vs H Q E h => ?_) (fun cdv A outer s H vs Q E hr h => ?_)
  · obtain ⟨v, t, m, rfl, _⟩ := h; rfl
  · obtain ⟨v, t, m, rfl, hw, q⟩ := h
    refine ⟨_, pss_one (ps_ret (pe_and (pe_ca cM hr (by rfl) pass0 (pa_cons (pv 0) pa_nil)) (pe_one (pe_cmpR op_le (pe_ix (ix_tupK (K := K) rfl) (pv 0) pe_int (fun _ _ => rfl)) (pv 1) (nomark _))))), ?_⟩
    obtain ⟨o, lk, mk⟩ := hw.lk
    refine ⟨_, rfl, v, o, rfl, lk, _, rfl, ?_⟩
    rw [mk]
    rcases hw with ⟨rfl, n, rfl⟩ | ⟨a, t, rfl, h2, rfl, h4⟩
    · exact iteF q
    · exact iteT ⟨_, rfl, a, _, 1, V.int t, rfl, rfl, h4, atI_nat (j := 1) rfl, _, rfl, t, m, rfl, rfl, q⟩
def spWe (K : PySem.W.Frag) : Sp := fun vs H Q _ => ∃ (a : Addr) (zs : List Ver) (m : Int) (tm : Ver → Option Int), vs = [.ref a, .int m] ∧ CellAt K H a zs ∧ (∀ z ∈ zs, Wth K H z.wv (tm z)) ∧
  ∀ H' r, Same H H' → H r = none → H' r = some (.tup ((zs.filter fun z => !eld (tm z) m).map fun z => V.ref z.a)) → Q (.ref r) H'
abbrev NWE : List PySem.Str := ["cell", "time", "version"]
theorem sc_we : FnScope NWE ["cell", "time"] (defScope (topS 24)) := ⟨rfl, rfl, rfl, by decide +kernel, rfl, by decide +kernel, by decide +kernel⟩
theorem ok_we (B : Bt mg) (cL : Ca P w K mg base 6 "look_at_cell" ["thing"] (spLook K)) (cE : Ca P w K mg base 3 "is_elder" ["worth", "time"] (spEld K)) (F : Fun K "without_elder" "without_elder" (topS 24) f fd) : FnOk P w K mg base CX0 7 f fd ["cell", "time"] (spWe K) := by
  refine F.ok sc_we (fun vs H Q E h => ?_) (fun cdv A outer s H vs Q E hr h => ?_)
  · obtain ⟨a, zs, m, tm, rfl, _⟩ := h; rfl
  · obtain ⟨a, zs, m, tm, rfl, c, wt, q⟩ := h
    refine ⟨_, pss_cons (ps_expr (pe_ca cL hr (by rfl) pass0 (pa_cons (pv 0) pa_nil))) (pss_one (ps_ret (pe_callTy call_tuple_of (by rfl) B.tuple boot_tuple (pa_cons (pe_lc (own := [("version", 2)]) (g := gName 2) (te := tVar 2) (by rfl) sc_we.nd (pi_tup (pv 0)) (blkOk_by (own := [("version", 2)]) (N := NWE) (sc := defScope (topS 24)) (by decide +kernel))
          (fun _ _ _ _ _ => pg_name (i := 2) sc_we.nd rfl (Or.inl rfl)) (fun _ _ _ _ _ => pts_one (pt_not (pt_val (pe_ca cE (hr.mono (by decide)) (by rfl) pass0 (pa_cons (pe_ix (ix_tupK (K := K) rfl) (pv 2) pe_int (fun _ _ => rfl)) (pa_cons (pv 1) pa_nil)))))) (fun _ _ _ _ _ => pv 2)) pa_nil)))), ?_⟩
    refine ⟨_, rfl, a, zs, rfl, c, fun H1 s1 => ?_⟩
    obtain ⟨hz, vg, lz, _⟩ := c.same s1
    refine ⟨_, rfl, a, rfl, ⟨_, hz⟩, fun D hD => lc_it (walk_tup (K := K) (a := a) (xs := zs.map fun z : Ver => V.ref z.a)) (fun i H' => Same H1 H' ∧ H' D = some (.lst (((zs.take i).filter fun z => !eld (tm z) m).map fun z => V.ref z.a))) ⟨(newo hD).1, (newo hD).2⟩ (fun i H' _ hP => same_sqT hP.1 hz) (fun i y A1 A2 hi hP hy => ?_) (fun A1 hP => ?_)⟩
    · obtain ⟨rfl, hy⟩ := hy
      obtain ⟨s2, hl⟩ := hP
      rw [List.getElem?_map] at hy
      obtain ⟨z, hzi, rfl⟩ := Option.map_eq_some_iff.mp hy
      have zin := List.mem_of_getElem? hzi
      obtain ⟨⟨v1, _⟩, _⟩ := (vg z zin).same s2
      rw [List.length_map] at hi
      refine ⟨rfl, _, rfl, z.a, _, 2, z.wv, rfl, rfl, v1, atI_nat (j := 2) rfl, _, rfl, z.wv, tm z, m, rfl, (wt z zin).same (s1.trans s2), _, rfl, ?_⟩
      cases he : eld (tm z) m with
      | true =>
        refine iteF ⟨s2, ?_⟩
        rw [hl, take_snoc hzi, List.filter_append, List.filter_cons, he, if_neg (by decide), List.filter_nil, List.append_nil]
      | false =>
        refine iteT ⟨_, rfl, _, hl, ?_, same_but hD s2, ?_⟩
        · rw [List.length_map, sizeLine_eq]
          have := List.length_filter_le (fun z => !eld (tm z) m) (zs.take i)
          rw [List.length_take] at this
          omega
        · rw [upd_same, take_snoc hzi, List.filter_append, List.filter_cons, he, if_pos (by decide), List.filter_nil, List.map_append]
          rfl
    · obtain ⟨s2, hl⟩ := hP
      rw [List.length_map, List.take_of_length_le (Nat.le_refl _)] at hl
      refine ⟨D, _, rfl, .inl ⟨.inl (.inl hl), fun r nr => ?_⟩⟩
      obtain ⟨s3, e3⟩ := newo (o := .tup ((zs.filter fun z => !eld (tm z) m).map fun z => V.ref z.a)) nr
      exact q _ r (s1.trans (s2.trans s3)) (none_of (s1.trans s2) nr) e3
def spWo (K : PySem.W.Frag) : Sp := fun vs H Q _ => ∃ (a : Addr) (zs : List Ver) (tm : Ver → Option Int), vs = [.ref a] ∧ CellAt K H a zs ∧ (∀ z ∈ zs, Wth K H z.wv (tm z)) ∧
  ∀ H' r, Same H H' → H r = none → H' r = some (.lst ((zs.filter fun z => !(tm z).isSome).map fun z => z.wv)) → Q (.ref r) H'
theorem sc_wo : FnScope ["cell", "version"] ["cell"] (defScope (topS 28)) := ⟨rfl, rfl, rfl, by decide +kernel, rfl, by decide +kernel, by decide +kernel⟩
theorem ok_wo (cL : Ca P w K mg base 6 "look_at_cell" ["thing"] (spLook K)) (cM : Ca P w K mg base 2 "is_mark" ["thing"] (spMark K)) (F : Fun K "worths_of" "worths_of" (topS 28) f fd) : FnOk P w K mg base CX0 7 f fd ["cell"] (spWo K) := by
  refine F.ok sc_wo (fun vs H Q E h => ?_) (fun cdv A outer s H vs Q E hr h => ?_)
  · obtain ⟨a, zs, tm, rfl, _⟩ := h; rfl
  · obtain ⟨a, zs, tm, rfl, c, wt, q⟩ := h
    refine ⟨_, pss_cons (ps_expr (pe_ca cL hr (by rfl) pass0 (pa_cons (pv 0) pa_nil))) (pss_one (ps_ret (pe_lc (own := [("version", 1)]) (g := gName 1) (by rfl) sc_wo.nd (pi_tup (pv 0)) (blkOk_by (own := [("version", 1)]) (N := ["cell", "version"]) (sc := defScope (topS 28)) (by decide +kernel))
          (fun _ _ _ _ _ => pg_name (i := 1) sc_wo.nd rfl (Or.inl rfl)) (fun _ _ _ _ _ => pts_one (pt_not (pt_val (pe_ca cM (hr.mono (by decide)) (by rfl) pass0 (pa_cons (pe_ix (ix_tupK (K := K) rfl) (pv 1) pe_int (fun _ _ => rfl)) pa_nil))))) (fun _ _ _ _ _ => pe_ix (ix_tupK (K := K) rfl) (pv 1) pe_int (fun _ _ => rfl))))), ?_⟩
    refine ⟨_, rfl, a, zs, rfl, c, fun H1 s1 => ?_⟩
    obtain ⟨hz, vg, lz, _⟩ := c.same s1
    refine ⟨_, rfl, a, rfl, ⟨_, hz⟩, fun D hD => lc_it (walk_tup (K := K) (a := a) (xs := zs.map fun z : Ver => V.ref z.a)) (fun i H' => Same H1 H' ∧ H' D = some (.lst (((zs.take i).filter fun z => !(tm z).isSome).map fun z => z.wv))) ⟨(newo hD).1, (newo hD).2⟩ (fun i H' _ hP => same_sqT hP.1 hz) (fun i y A1 A2 hi hP hy => ?_) (fun A1 hP => ?_)⟩
    · obtain ⟨rfl, hy⟩ := hy
      obtain ⟨s2, hl⟩ := hP
      rw [List.getElem?_map] at hy
      obtain ⟨z, hzi, rfl⟩ := Option.map_eq_some_iff.mp hy
      have zin := List.mem_of_getElem? hzi
      obtain ⟨⟨v1, _⟩, _⟩ := (vg z zin).same s2
      rw [List.length_map] at hi
      obtain ⟨o, lk, mk⟩ := ((wt z zin).same (s1.trans s2)).lk
      refine ⟨rfl, _, rfl, z.a, _, 2, z.wv, rfl, rfl, v1, atI_nat (j := 2) rfl, z.wv, o, rfl, lk, _, rfl, ?_⟩
      rw [mk]
      cases he : (tm z).isSome with
      | true =>
        refine iteF ⟨s2, ?_⟩
        rw [hl, take_snoc hzi, List.filter_append, List.filter_cons, he, if_neg (by decide), List.filter_nil, List.append_nil]
      | false =>
        refine iteT ⟨_, rfl, z.a, _, 2, z.wv, rfl, rfl, v1, atI_nat (j := 2) rfl, _, hl, ?_, same_but hD s2, ?_⟩
        · rw [List.length_map, sizeLine_eq]
          have := List.length_filter_le (fun z => !(tm z).isSome) (zs.take i)
          rw [List.length_take] at this
          omega
        · rw [upd_same, take_snoc hzi, List.filter_append, List.filter_cons, he, if_pos (by decide), List.filter_nil, List.map_append]
          rfl
    · obtain ⟨s2, hl⟩ := hP
      rw [List.length_map, List.take_of_length_le (Nat.le_refl _)] at hl
      exact q A1 D (s1.trans s2) (none_of s1 hD) hl
def spHm (K : PySem.W.Frag) : Sp := fun vs H Q _ => ∃ (a b : Addr) (zs : List Ver) (L : List MS.Row), vs = [.ref a, .ref b] ∧ CellAt K H a zs ∧ (∀ k ∈ knownOf zs, D3 k) ∧ zs.length + (knownOf zs).length < 63 ∧ SqL K H b (L.map fun q => V.ref q.1) ∧ Dots K H L ∧ (∀ q ∈ L, D3 q.2 ∧ dDot (dD q.2) = true) ∧ L.length ≤ 1000 ∧
  ∀ H' y, Same H H' → (y = true ↔ ∀ q ∈ L, q.2 ∈ dotsOf zs ∨ q.2 ∈ knownOf zs) → Q (.bl y) H'
abbrev NHM : List PySem.Str := ["cell", "dots", "known", "dot"]
theorem sc_hm : FnScope NHM ["cell", "dots"] (defScope (topS 29)) := ⟨rfl, rfl, rfl, by decide +kernel, rfl, by decide +kernel, by decide +kernel⟩
theorem ok_hm (B : Bt mg) (cK : Ca P w K mg base 8 "known_by" ["cell"] (spKb K)) (F : Fun K "has_or_more" "has_or_more" (topS 29) f fd) : FnOk P w K mg base CX0 9 f fd ["cell", "dots"] (spHm K) := by
  classical
  refine F.ok sc_hm (fun vs H Q E h => ?_) (fun cdv A outer s H vs Q E hr h => ?_)
  · obtain ⟨a, b, zs, L, rfl, _⟩ := h; rfl
  · obtain ⟨a, b, zs, L, rfl, c, d3, few, hb, dL, okL, lL, q⟩ := h
    refine ⟨_, pss_cons (ps_set (i := 2) sc_hm.nd rfl (.inr rfl) (pe_ca cK hr (by rfl) pass0 (pa_cons (pv 0) pa_nil))) (pss_one (ps_ret (pe_callB (cr_all (by rfl)) (by rfl) B.all boot_all (pa_cons (pe_lc (own := [("dot", 3)]) (g := gName 3) (tt := tYes) (by rfl) sc_hm.nd (pi_list (pv 1)) (blkOk_by (own := [("dot", 3)]) (N := NHM) (sc := defScope (topS 29)) (by decide +kernel))
          (fun _ _ _ _ _ => pg_name (i := 3) sc_hm.nd rfl (Or.inl rfl)) (fun _ _ _ _ _ => pts_nil) (fun _ _ _ _ _ => pe_cmpR (VS.op_inDT (K := K) rfl (hu_65 hr)) (pv 3) (pv 2) (by rfl))) pa_nil)))), ?_⟩
    have al : ∀ k, k ∈ dotsOf zs ∨ k ∈ knownOf zs → D3 k ∧ dDot (dD k) = true := fun k hk => by
      rcases hk with hk | hk
      · obtain ⟨z, hz, rfl⟩ := List.mem_map.mp hk
        exact ⟨(c.2.1 z hz).2.1, (c.2.1 z hz).dots.1⟩
      · obtain ⟨z, hz, y⟩ := knownOf_mem.mp hk
        exact ⟨d3 k hk, List.all_eq_true.mp (c.2.1 z hz).dots.2 _ (List.mem_map_of_mem y)⟩
    refine ⟨_, rfl, a, zs, rfl, c, d3, few, fun H1 r ms s1 tm am mem => ?_⟩
    have hb1 := s1.seq hb
    have md3 : ∀ k ∈ ms, D3 k := fun k hk => (al k ((mem k).mp hk)).1
    have mdd : (ms.map dD).all dDot = true := List.all_eq_true.mpr fun d hd => by
      obtain ⟨k, hk, rfl⟩ := List.mem_map.mp hd
      exact (al k ((mem k).mp hk)).2
    refine ⟨_, rfl, b, rfl, ⟨_, hb1⟩, fun D hD => lc_it (walk_list (K := K) (a := b) (xs := L.map fun q => V.ref q.1)) (fun i H' => Same H1 H' ∧ H' D = some (.lst (((L.take i).map fun q => decide (q.2 ∈ ms)).map V.bl))) ⟨(newo hD).1, (newo hD).2⟩ (fun i H' _ hP => hP.1.seq hb1) (fun i y A1 A2 hi hP hy => ?_) (fun A1 hP => ?_)⟩
    · obtain ⟨rfl, hy⟩ := hy
      obtain ⟨s2, hl⟩ := hP
      rw [List.getElem?_map] at hy
      obtain ⟨p, hp, rfl⟩ := Option.map_eq_some_iff.mp hy
      have pin := List.mem_of_getElem? hp
      rw [List.length_map] at hi
      refine ⟨rfl, VS.yes_if ⟨_, rfl, _, rfl, dD p.2, ms.map dD, dp_dot (same_sqT (s1.trans s2) (dL p pin)), (tm.same s2).dp, dot_shaped (okL p pin).2, shaped_tup mdd, _, hl, (by rw [List.length_map, List.length_map, List.length_take, sizeLine_eq]; omega), same_but hD s2, ?_⟩⟩
      rw [upd_same, take_snoc hp, List.map_append, List.map_append]
      have e : ((ms.map dD).any fun z => PyData.eqv z (dD p.2)) = decide (p.2 ∈ ms) := by
        rw [Bool.eq_iff_iff, VS.any_dD (okL p pin).1 md3, decide_eq_true_eq]
      show some (HO.lst (_ ++ [V.bl (if false = true then _ else _)])) = _
      rw [if_neg (by decide), e]
      rfl
    · obtain ⟨s2, hl⟩ := hP
      rw [List.length_map, List.take_of_length_le (Nat.le_refl _)] at hl
      refine ⟨D, _, rfl, .inl (.inl hl), q A1 _ (s1.trans s2) ?_⟩
      rw [List.all_map, List.all_eq_true]
      constructor
      · intro h p hp
        have y : decide (p.2 ∈ ms) = true := h p hp
        exact (mem _).mp (of_decide_eq_true y)
      · intro h p hp
        exact decide_eq_true ((mem _).mpr (h p hp))
end
end K01

set_option Elab.async false
set_option linter.all false
set_option maxRecDepth 100000
set_option maxHeartbeats 4000000
namespace K01
open PySem PySem.Spec PyProof.Rows L2 MS
/-- no tuple -/
def NT : HO → Prop
  | .tup _ => False
  | .frz _ _ => False
  | _ => True
theorem Ext.tupN {K : PySem.W.Frag} {H H' : Hp} {p a : Addr} {xs : List V} {o : HO} (e : Ext p H H') (hp : H p = some o) (n : NT o) (h : SqT K H a xs) : SqT K H' a xs := by
  rcases h with (h | ⟨ob, h⟩) | h
  · exact .inl (.inl (e _ _ (fun z => by subst z; rw [hp] at h; cases h; exact n) h))
  · exact .inl (.inr ⟨ob, e _ _ (fun z => by subst z; rw [hp] at h; cases h; exact n) h⟩)
  · exact .inr h
theorem Ext.dotsH {H H' : Hp} {p : Addr} {L : List MS.Row} {o : HO} (e : Ext p H H') (hp : H p = some o) (n : NT o) (h : DotsH H L) : DotsH H' L := fun q hq => e _ _ (fun z => by
  have y := h q hq
  rw [z, hp] at y
  cases y
  exact n) (h q hq)
/-- a dot that can be drawn here -/
def Men3 (k : DK) : Prop := ∃ (n : Int) (c : Nat) (l : Int), k = [.inl n, .inr ⟨#[c]⟩, .inl l] ∧ n ∈ [(1 : Int), 2, 3, 4, 5] ∧ c ∈ [97, 98, 99] ∧ l ∈ [(1 : Int), 2]
theorem Men3.d3 {k : DK} (h : Men3 k) : D3 k := by
  obtain ⟨n, c, l, rfl, _⟩ := h
  exact ⟨_, _, _, rfl⟩
theorem men3All : ([(1 : Int), 2, 3, 4, 5].all fun n => [97, 98, 99].all fun c => [(1 : Int), 2].all fun l => okD (dD [.inl n, .inr ⟨#[c]⟩, .inl l])) = true := by decide +kernel
theorem men3_ok {k : DK} (h : Men3 k) : (dD k).showable = true ∧ (dD k).shown.length ≤ 20 ∧ short (dD k) = true ∧ dDot (dD k) = true ∧ (dD k).depth ≤ 1 ∧ keyD (dD k) = k := by
  obtain ⟨n, c, l, rfl, hn, hc, hl⟩ := h
  have z := List.all_eq_true.mp (List.all_eq_true.mp (List.all_eq_true.mp men3All n hn) c hc) l hl
  unfold okD at z
  simp only [Bool.and_eq_true, decide_eq_true_eq] at z
  exact ⟨z.1, z.2.1, z.2.2.1, z.2.2.2.1, z.2.2.2.2, rfl⟩
section
variable {P : Program} {w : World} {K : PySem.W.Frag} {mg : PySem.Str → Option Value} {base : Heap} {f : Addr} {fd : FuncData} {k : Nat}
/-! ### _law_dot -/
def spLd3 : Sp := fun vs H Q _ => ∃ p : Addr, vs = [.ref p] ∧ Pool H p ∧ ∀ H' a k, Ext p H H' → Pool H' p → H a = none → H' a = some (.tup (k.map kV)) → Men3 k → Q (.ref a) H'
theorem sc_ld3 : FnScope ["_law_pool"] ["_law_pool"] (defScope (topS 33)) := ⟨rfl, rfl, rfl, by decide +kernel, rfl, by decide +kernel, by decide +kernel⟩
theorem ok_ld3 (cD : Ca P w K mg base 1 "_law_draw" ["_law_pool", "_law_size"] spDraw) (F : Fun K "_law_dot" "_law_dot" (topS 33) f fd) : FnOk P w K mg base CX0 2 f fd ["_law_pool"] spLd3 := by
  refine F.ok sc_ld3 (fun vs H Q E h => ?_) (fun cdv A outer s H vs Q E hr h => ?_)
  · obtain ⟨p, rfl, _⟩ := h; rfl
  · obtain ⟨p, rfl, hp, q⟩ := h
    refine ⟨_, pss_one (ps_ret (pe_tup (pa_cons (pe_op op_add pe_int (pe_ca cD hr (by rfl) pass0 (pa_cons (pv 0) (pa_cons pe_int pa_nil))))
      (pa_cons (pe_ix ix_str pe_str (pe_ca cD hr (by rfl) pass0 (pa_cons (pv 0) (pa_cons pe_int pa_nil))) (fun _ _ => rfl)) (pa_cons (pe_op op_add pe_int (pe_ca cD hr (by rfl) pass0 (pa_cons (pv 0) (pa_cons pe_int pa_nil)))) pa_nil))))), ?_⟩
    refine ⟨_, rfl, p, 5, rfl, hp, by decide, by decide, fun H2 r x2 p2 o2 r0 r1 => ?_⟩
    refine ⟨1, r, rfl, rfl, _, rfl, p, 3, rfl, p2, by decide, by decide, fun H3 r' x3 p3 o3 r0' r1' => ?_⟩
    obtain ⟨c, hc, ec⟩ := atI_ok (xs := ([97, 98, 99] : List Nat)) r0' (by simpa using r1')
    refine ⟨_, r', c, rfl, rfl, (by decide), ec, _, rfl, p, 2, rfl, p3, by decide, by decide, fun H4 r'' x4 p4 o4 r0'' r1'' => ?_⟩
    refine ⟨1, r'', rfl, rfl, (by show 3 ≤ sizeLine; decide), fun t nt => ?_⟩
    obtain ⟨s5, e5⟩ := newo (o := .tup [V.int (1 + r), V.str ⟨#[c]⟩, V.int (1 + r'')]) nt
    have ntp : t ≠ p := fun z => by
      obtain ⟨ys, hy⟩ := p4.is
      rw [z, hy] at nt
      cases nt
    refine q _ t [.inl (1 + r), .inr ⟨#[c]⟩, .inl (1 + r'')] (x2.trans (x3.trans (x4.trans (Ext.of s5)))) (p4.same s5) ?_ e5 ⟨1 + r, c, 1 + r'', rfl, ?_, hc, ?_⟩
    · rw [o4 t ntp, o3 t ntp, o2 t ntp] at nt
      exact nt
    · simp only [List.mem_cons, List.not_mem_nil, or_false]
      omega
    · simp only [List.mem_cons, List.not_mem_nil, or_false]
      omega
/-! ### _law_known -/
def spLk3 (K : PySem.W.Frag) : Sp := fun vs H Q _ => ∃ p : Addr, vs = [.ref p, .int 4] ∧ Pool H p ∧ ∀ H' a L, Ext p H H' → Pool H' p → H' a = some (.tup ((L : List MS.Row).map fun q => V.ref q.1)) → DotsH H' L → Asc (L.map fun q => q.2) → L.length ≤ 4 → (∀ q ∈ L, Men3 q.2) → Q (.ref a) H'
theorem sc_lk3 : FnScope NKN ["_law_pool", "_law_most"] (defScope (topS 34)) := ⟨rfl, rfl, rfl, by decide +kernel, rfl, by decide +kernel, by decide +kernel⟩
theorem ok_lk3 (B : Bt mg) (cD : Ca P w K mg base 1 "_law_draw" ["_law_pool", "_law_size"] spDraw) (cL : Ca P w K mg base 2 "_law_dot" ["_law_pool"] spLd3) (F : Fun K "_law_known" "_law_known" (topS 34) f fd) : FnOk P w K mg base CX0 3 f fd ["_law_pool", "_law_most"] (spLk3 K) := by
  refine F.ok sc_lk3 (fun vs H Q E h => ?_) (fun cdv A outer s H vs Q E hr h => ?_)
  · obtain ⟨p, rfl, _⟩ := h; rfl
  · obtain ⟨p, rfl, hp, q⟩ := h
    refine ⟨_, pss_one (ps_ret (pe_callTy call_tuple_of (by rfl) B.tuple boot_tuple (pa_cons (pe_callB (cr_sortMK (K := K) (P := P) (w := w) rfl rfl rfl (by rfl)) (by rfl) B.sorted boot_sorted (pa_cons
      (pe_callTy (cr_setMK (K := K) (P := P) (w := w) rfl rfl rfl (by rfl) (hu_64 hr)) (by rfl) B.set boot_set (pa_cons (pe_lc (own := [("_law_turn", 2)]) (g := gName 2) (tt := tYes) (by rfl) sc_lk3.nd
        (pi_range1 (by rfl) B.range (pa_cons (pe_ca cD (hr.mono (by decide)) (by rfl) pass0 (pa_cons (pv 0) (pa_cons (pe_op op_add (pv 1) pe_int) pa_nil))) pa_nil))
        (blkOk_by (own := [("_law_turn", 2)]) (N := NKN) (sc := defScope (topS 34)) (by decide +kernel)) (fun _ _ _ _ _ => pg_name (i := 2) sc_lk3.nd rfl (Or.inl rfl)) (fun _ _ _ _ _ => pts_nil) (fun _ _ _ _ _ => pe_ca cL hr (by rfl) pass0 (pa_cons (pv 0) pa_nil))) pa_nil)) pa_nil)) pa_nil))), ?_⟩
    refine ⟨_, rfl, _, rfl, 4, 1, rfl, rfl, p, _, rfl, hp, (by decide), (by decide), fun H1 r x1 p1 o1 r0 r1 => ?_⟩
    have r7 : r < 5 := r1
    refine ⟨r, rfl, (by omega), (by omega), fun D hD => ?_⟩
    obtain ⟨ys, hys⟩ := p1.is
    have neD : D ≠ p := fun z => by
      rw [z, hys] at hD
      cases hD
    refine lc_range (lo := 0) (n := r.toNat) (fun i H' => Ext p H1 H' ∧ Pool H' p ∧ ∃ L : List MS.Row, H' D = some (.lst (L.map fun q => V.ref q.1)) ∧ DotsH H' L ∧ L.length = i ∧ ∀ q ∈ L, Men3 q.2) ⟨Ext.of (newo hD).1, p1.same (newo hD).1, [], (newo hD).2, (fun _ z => nomatch z), rfl, (fun _ z => nomatch z)⟩ (fun i G hi hP => ?_) (fun G hP => ?_)
    · obtain ⟨xg, pg, L, hL, dL, lL, mL⟩ := hP
      refine ⟨rfl, VS.yes_if ?_⟩
      refine ⟨_, rfl, p, rfl, pg, fun G2 a k2 x2 p2 na e2 m2 => ?_⟩
      obtain ⟨yg, hyg⟩ := pg.is
      have hL2 : G2 D = some (.lst (L.map fun q => V.ref q.1)) := x2 _ _ neD hL
      have dL2 : DotsH G2 (L ++ [(a, k2)]) := fun t ht => by
        rcases List.mem_append.mp ht with ht | ht
        · exact x2.dotsH hyg trivial dL t ht
        · rw [List.mem_singleton.mp ht]
          exact e2
      refine ⟨_, hL2, (by rw [List.length_map, sizeLine_eq]; omega), ?_, ?_, L ++ [(a, k2)], ?_, Ext.put.dotsH hL2 trivial dL2, ?_, ?_⟩
      · intro b o nb hb
        by_cases z : b = D
        · subst z
          rw [hD] at hb
          cases hb
        · rw [upd_ne z]
          exact x2 _ _ nb (xg _ _ nb hb)
      · obtain ⟨u, v, hu, rest⟩ := p2
        exact ⟨u, v, by rw [upd_ne (Ne.symm neD)]; exact hu, rest⟩
      · rw [upd_same, List.map_append]
        rfl
      · rw [List.length_append, lL]
        rfl
      · intro t ht
        rcases List.mem_append.mp ht with ht | ht
        · exact mL t ht
        · rw [List.mem_singleton.mp ht]
          exact m2
    · obtain ⟨xg, pg, L, hL, dL, lL, mL⟩ := hP
      refine ⟨D, L, rfl, .inl (.inl (.inl hL)), dL.dots, (by omega), fun S M nS of => ?_⟩
      obtain ⟨s4, e4⟩ := newo (o := MSO P w S M) nS
      generalize upd G S (MSO P w S M) = G4 at s4 e4 ⊢
      have dM : DotsH G4 M := fun q hq => s4 _ _ (dL q (of.sub q hq))
      refine ⟨S, M, rfl, e4, dM.dots, (fun q hq => (mL q (of.sub q hq)).d3), fun M' z pm nd lM pw nz => ?_⟩
      obtain ⟨s5, e5⟩ := newo (o := .lst (M'.map fun q => V.ref q.1)) nz
      generalize upd G4 z (.lst (M'.map fun q => V.ref q.1)) = G5 at s5 e5 ⊢
      refine ⟨z, _, rfl, .inl ⟨.inl (.inl e5), fun t nt => ?_⟩⟩
      obtain ⟨s6, e6⟩ := newo (o := .tup (M'.map fun q => V.ref q.1)) nt
      generalize upd G5 t (.tup (M'.map fun q => V.ref q.1)) = G6 at s6 e6 ⊢
      have s46 : Same G G6 := s4.trans (s5.trans s6)
      refine q G6 t M' (x1.trans (xg.trans (Ext.of s46))) (pg.same s46) e6 (fun q hq => (s5.trans s6) _ _ (dM q (pm.mem_iff.mp hq))) (asc_of pw nd) ?_ ?_
      · rw [pm.length_eq]
        have := of.len
        omega
      · intro t' ht'
        exact mL t' (of.sub t' (pm.mem_iff.mp ht'))
end
end K01

set_option Elab.async false
set_option linter.all false
set_option maxRecDepth 100000
set_option maxHeartbeats 4000000
namespace K01
open PySem PySem.Spec PyProof.Rows L2 MS
/-- a drawn worth -/
def WD (K : PySem.W.Frag) (H : Hp) (v : V) (wd : PyData) : Prop := (∃ n : Int, n ∈ [(3 : Int), -1, 0] ∧ v = .int n ∧ wd = .int n) ∨ ∃ (a : Addr) (t : Int), t ∈ [(2 : Int), 7] ∧ v = .ref a ∧ SqT K H a [.str gone, .int t] ∧ wd = .tuple [.str gone, .int t]
theorem WD.ext {K : PySem.W.Frag} {H H' : Hp} {v : V} {wd : PyData} {p : Addr} {o : HO} (e : Ext p H H') (hp : H p = some o) (n : NT o) (h : WD K H v wd) : WD K H' v wd := by
  rcases h with h | ⟨a, t, h1, h2, h3, h4⟩
  · exact .inl h
  · exact .inr ⟨a, t, h1, h2, e.tupN hp n h3, h4⟩
theorem WD.same {K : PySem.W.Frag} {H H' : Hp} {v : V} {wd : PyData} (s : Same H H') (h : WD K H v wd) : WD K H' v wd := by
  rcases h with h | ⟨a, t, h1, h2, h3, h4⟩
  · exact .inl h
  · exact .inr ⟨a, t, h1, h2, same_sqT s h3, h4⟩
theorem WD.dp {K : PySem.W.Frag} {H : Hp} {v : V} {wd : PyData} (h : WD K H v wd) : Dp K H v wd := by
  rcases h with ⟨n, _, rfl, rfl⟩ | ⟨a, t, _, rfl, h3, rfl⟩
  · exact .int n
  · exact .tup h3 (.cons (.str gone) (.cons (.int t) .nil))
def okW (d : PyData) : Bool := d.showable && (decide (d.shown.length ≤ 20) && (short d && (dWorth d && (decide (d.depth ≤ 1) && SeqAt.shaped d))))
theorem wAll : (([(3 : Int), -1, 0].all fun n => okW (.int n)) && ([(2 : Int), 7].all fun t => okW (.tuple [.str gone, .int t]))) = true := by decide +kernel
theorem WD.ok {K : PySem.W.Frag} {H : Hp} {v : V} {wd : PyData} (h : WD K H v wd) : okW wd = true := by
  have z := wAll
  rw [Bool.and_eq_true] at z
  rcases h with ⟨n, hn, rfl, rfl⟩ | ⟨a, t, ht, rfl, _, rfl⟩
  · exact List.all_eq_true.mp z.1 n hn
  · exact List.all_eq_true.mp z.2 t ht
theorem WD.ok' {K : PySem.W.Frag} {H : Hp} {v : V} {wd : PyData} (h : WD K H v wd) : wd.showable = true ∧ wd.shown.length ≤ 20 ∧ short wd = true ∧ dWorth wd = true ∧ wd.depth ≤ 1 ∧ SeqAt.shaped wd = true := by
  have z := h.ok
  unfold okW at z
  simp only [Bool.and_eq_true, decide_eq_true_eq] at z
  exact z
def tmD : PyData → Option Int
  | .tuple [_, .int t] => some t
  | _ => none
theorem WD.wth {K : PySem.W.Frag} {H : Hp} {v : V} {wd : PyData} (h : WD K H v wd) : Wth K H v (tmD wd) := by
  rcases h with ⟨n, _, rfl, rfl⟩ | ⟨a, t, ht, rfl, h3, rfl⟩
  · exact .inl ⟨rfl, n, rfl⟩
  · refine .inr ⟨a, t, rfl, ?_, rfl, h3⟩
    simp only [List.mem_cons, List.not_mem_nil, or_false] at ht
    omega
/-- a drawn version -/
def LV (K : PySem.W.Frag) (H : Hp) (z : Ver) (wd : PyData) : Prop := VerOk K H z ∧ Men3 z.d.2 ∧ (∀ q ∈ z.L, Men3 q.2 ∧ fstI q.2 < fstI z.d.2) ∧ Asc (z.L.map fun q => q.2) ∧ z.L.length ≤ 4 ∧ WD K H z.wv wd
theorem LV.same {K : PySem.W.Frag} {H H' : Hp} {z : Ver} {wd : PyData} (s : Same H H') (h : LV K H z wd) : LV K H' z wd := ⟨h.1.same s, h.2.1, h.2.2.1, h.2.2.2.1, h.2.2.2.2.1, h.2.2.2.2.2.same s⟩
theorem VerOk.ext {K : PySem.W.Frag} {H H' : Hp} {z : Ver} {p : Addr} {o : HO} (e : Ext p H H') (hp : H p = some o) (n : NT o) (h : VerOk K H z) : VerOk K H' z := by
  obtain ⟨h1, h2, h3, h4⟩ := h
  have y : DotsH H [z.d] := fun q hq => by rw [List.mem_singleton.mp hq]; exact h2
  exact ⟨e.tupN hp n h1, e.dotsH hp n y z.d List.mem_cons_self, e.tupN hp n h3, e.dotsH hp n h4⟩
theorem LV.ext {K : PySem.W.Frag} {H H' : Hp} {z : Ver} {wd : PyData} {p : Addr} {o : HO} (e : Ext p H H') (hp : H p = some o) (n : NT o) (h : LV K H z wd) : LV K H' z wd := ⟨h.1.ext e hp n, h.2.1, h.2.2.1, h.2.2.2.1, h.2.2.2.2.1, h.2.2.2.2.2.ext e hp n⟩
theorem men3_all {ks : List DK} (m : ∀ k ∈ ks, Men3 k) : (ks.map dD).all dDot = true := by
  rw [List.all_eq_true]
  intro d hd
  obtain ⟨k, hk, rfl⟩ := List.mem_map.mp hd
  exact (men3_ok (m k hk)).2.2.2.1
theorem men3_known {ks : List DK} (m : ∀ k ∈ ks, Men3 k) : knownO (some (ks.map dD)) = ascB ks := by
  rw [known_yes (men3_all m), List.map_map]
  have e : ks.map (keyD ∘ dD) = ks := by
    conv => rhs; rw [← List.map_id ks]
    apply List.map_congr_left
    intro k hk
    exact (men3_ok (m k hk)).2.2.2.2.2
  rw [e]
theorem short_all : ∀ {ds : List PyData}, (∀ d ∈ ds, short d = true) → shortAll ds = true
  | [], _ => by rw [shortAll]
  | d :: ds, h => by
    rw [shortAll, h d List.mem_cons_self, short_all fun e he => h e (List.mem_cons_of_mem _ he)]
    rfl
theorem LV.mem {K : PySem.W.Frag} {H : Hp} {z : Ver} {wd : PyData} (h : LV K H z wd) : ∀ k ∈ z.L.map fun q => q.2, Men3 k := fun k hk => by
  obtain ⟨q, hq, rfl⟩ := List.mem_map.mp hk
  exact (h.2.2.1 q hq).1
theorem LV.good {K : PySem.W.Frag} {H : Hp} {z : Ver} {wd : PyData} (h : LV K H z wd) : VGood K H z := by
  have hm := h.mem
  obtain ⟨h1, h2, h3, h4, h5, h6⟩ := h
  obtain ⟨w1, w2, w3, w4, w5, w6⟩ := h6.ok'
  refine ⟨h1, h2.d3, by omega, wd, h6.dp, ?_, ?_, ?_⟩
  · show (dDot (dD z.d.2) && (knownO (some ((z.L.map fun q => q.2).map dD)) && (dWorth wd && !((z.L.map fun q => q.2).map dD).any fun y => PyData.eqv y (dD z.d.2)))) = true
    rw [(men3_ok h2).2.2.2.1, men3_known hm, ascB_iff.mpr h4, w4]
    cases y : ((z.L.map fun q => q.2).map dD).any fun y => PyData.eqv y (dD z.d.2) with
    | false => rfl
    | true =>
      have y := (VS.any_dD h2.d3 fun k hk => (hm k hk).d3).mp y
      obtain ⟨q, hq, e⟩ := List.mem_map.mp y
      have := (h3 q hq).2
      rw [e] at this
      omega
  · unfold vData
    refine short_all fun d hd => ?_
    have hd : d = dD z.d.2 ∨ d = .tuple ((z.L.map fun q => q.2).map dD) ∨ d = wd := by simpa using hd
    rcases hd with rfl | rfl | rfl
    · exact (men3_ok h2).2.2.1
    · rw [short]
      refine short_all fun d hd => ?_
      obtain ⟨k, hk, rfl⟩ := List.mem_map.mp hd
      exact (men3_ok (hm k hk)).2.2.1
    · exact w3
  · intro es he
    rcases h6 with ⟨n, _, _, rfl⟩ | ⟨a, t, _, _, _, rfl⟩
    · cases he
    · have he : some [PyData.str gone, .int t] = some es := he
      obtain rfl := Option.some.inj he
      exact (by decide : 2 < 64)
/-! ### how it is shown -/
theorem show_two {n : Nat} : ∀ {ds : List PyData}, (∀ d ∈ ds, d.showable = true ∧ d.shown.length ≤ n) → PyData.showableAll ds = true ∧ piled (PyData.shownAll ds) ≤ (n + 2) * ds.length
  | [], _ => ⟨by rw [PyData.showableAll], by rw [PyData.shownAll, piled_nil]; exact Nat.zero_le _⟩
  | d :: ds, h => by
    obtain ⟨h1, h2⟩ := h d List.mem_cons_self
    obtain ⟨c1, c2⟩ := show_two (ds := ds) fun e he => h e (List.mem_cons_of_mem _ he)
    refine ⟨by rw [PyData.showableAll, h1, c1]; rfl, ?_⟩
    rw [PyData.shownAll, piled_cons, List.length_cons, Nat.mul_succ]
    omega
theorem dep_all {n : Nat} : ∀ {ds : List PyData}, (∀ d ∈ ds, d.depth ≤ n) → PyData.depthAll ds ≤ n
  | [], _ => by rw [PyData.depthAll]; exact Nat.zero_le _
  | d :: ds, h => by
    have a := h d List.mem_cons_self
    have b := dep_all (ds := ds) fun e he => h e (List.mem_cons_of_mem _ he)
    rw [PyData.depthAll]
    omega
def Sh (d : PyData) (n m : Nat) : Prop := d.showable = true ∧ d.shown.length ≤ n ∧ d.depth ≤ m
theorem Sh.tup {ds : List PyData} {n m : Nat} (h : ∀ d ∈ ds, Sh d n m) : Sh (.tuple ds) (3 + (n + 2) * ds.length) (m + 1) := by
  obtain ⟨c1, c2⟩ := show_two (n := n) fun d hd => ⟨(h d hd).1, (h d hd).2.1⟩
  have c3 := dep_all (n := m) fun d hd => (h d hd).2.2
  refine ⟨by rw [PyData.showable]; exact c1, ?_, by rw [PyData.depth]; omega⟩
  rw [PyData.shown]
  have := tupleText_le (PyData.shownAll ds)
  omega
theorem Sh.lst {ds : List PyData} {n m : Nat} (h : ∀ d ∈ ds, Sh d n m) : Sh (.list ds) (2 + (n + 2) * ds.length) (m + 1) := by
  obtain ⟨c1, c2⟩ := show_two (n := n) fun d hd => ⟨(h d hd).1, (h d hd).2.1⟩
  have c3 := dep_all (n := m) fun d hd => (h d hd).2.2
  refine ⟨by rw [PyData.showable]; exact c1, ?_, by rw [PyData.depth]; omega⟩
  rw [PyData.shown]
  have := listText_le (PyData.shownAll ds)
  omega
theorem Sh.mono {d : PyData} {n m n' m' : Nat} (h : Sh d n m) (a : n ≤ n') (b : m ≤ m') : Sh d n' m' := ⟨h.1, by have := h.2.1; omega, by have := h.2.2; omega⟩
theorem LV.sh {K : PySem.W.Frag} {H : Hp} {z : Ver} {wd : PyData} (h : LV K H z wd) : Sh (.tuple (vData z wd)) 300 3 := by
  have hm := h.mem
  obtain ⟨h1, h2, h3, h4, h5, h6⟩ := h
  obtain ⟨w1, w2, w3, w4, w5, w6⟩ := h6.ok'
  have t : Sh (.tuple ((z.L.map fun q => q.2).map dD)) 91 2 := by
    refine (Sh.tup (n := 20) (m := 1) fun d hd => ?_).mono ?_ (Nat.le_refl _)
    · obtain ⟨k, hk, rfl⟩ := List.mem_map.mp hd
      obtain ⟨a, b, _, _, c, _⟩ := men3_ok (hm k hk)
      exact ⟨a, b, c⟩
    · rw [List.length_map, List.length_map]
      omega
  refine (Sh.tup (n := 91) (m := 2) fun d hd => ?_).mono (by show 3 + (91 + 2) * 3 ≤ 300; decide) (Nat.le_refl _)
  have hd : d = dD z.d.2 ∨ d = .tuple ((z.L.map fun q => q.2).map dD) ∨ d = wd := by simpa [vData] using hd
  rcases hd with rfl | rfl | rfl
  · obtain ⟨a, b, _, _, c, _⟩ := men3_ok h2
    exact ⟨a, by omega, by omega⟩
  · exact t
  · exact ⟨w1, by omega, by omega⟩
theorem LV.dp {K : PySem.W.Frag} {H : Hp} {z : Ver} {wd : PyData} (h : LV K H z wd) : Dp K H (.ref z.a) (.tuple (vData z wd)) := by
  obtain ⟨⟨v1, v2, v3, v4⟩, h2, h3, h4, h5, h6⟩ := h
  exact .tup v1 (.cons (dp_dot (.inl (.inl v2))) (.cons (.tup v3 (dp_dots v4.dots)) (.cons h6.dp .nil)))
end K01

set_option Elab.async false
set_option linter.all false
set_option maxRecDepth 100000
set_option maxHeartbeats 4000000
namespace K01
open PySem PySem.Spec PyProof.Rows L2 MS
def ent (z : Ver) : DK × V := (z.d.2, V.ref z.a)
def NdV (zs : List Ver) : Prop := (dotsOf zs).Nodup
theorem ent_keys (zs : List Ver) : ((zs.map ent).map fun e => e.1) = dotsOf zs := by
  unfold dotsOf
  rw [List.map_map]
  rfl
open Classical in
noncomputable def putV (zs : List Ver) (z : Ver) : List Ver := if z.d.2 ∈ dotsOf zs then zs.map (fun y => if y.d.2 = z.d.2 then z else y) else zs ++ [z]
theorem putV_ent (zs : List Ver) (z : Ver) : putK (zs.map ent) z.d.2 (V.ref z.a) = (putV zs z).map ent := by
  classical
  have iff : ((zs.map ent).any fun kv => decide (kv.1 = z.d.2)) = true ↔ z.d.2 ∈ dotsOf zs := by
    rw [← ent_keys, List.any_eq_true, List.mem_map]
    exact ⟨fun ⟨e, h1, h2⟩ => ⟨e, h1, of_decide_eq_true h2⟩, fun ⟨e, h1, h2⟩ => ⟨e, h1, decide_eq_true h2⟩⟩
  unfold putK putV
  by_cases h : z.d.2 ∈ dotsOf zs
  · rw [if_pos (iff.mpr h), if_pos h, List.map_map, List.map_map]
    apply List.map_congr_left
    intro y _
    show (if y.d.2 = z.d.2 then (y.d.2, V.ref z.a) else ent y) = ent (if y.d.2 = z.d.2 then z else y)
    by_cases e : y.d.2 = z.d.2
    · rw [if_pos e, if_pos e, e]
      rfl
    · rw [if_neg e, if_neg e]
  · rw [if_neg (fun y => h (iff.mp y)), if_neg h, List.map_append]
    rfl
theorem putV_nd {zs : List Ver} {z : Ver} (h : NdV zs) : NdV (putV zs z) := by
  unfold NdV
  rw [← ent_keys, ← putV_ent]
  refine VS.put_nodup ?_
  rw [ent_keys]
  exact h
theorem putV_mem {zs : List Ver} {z y : Ver} (h : y ∈ putV zs z) : y = z ∨ y ∈ zs := by
  classical
  unfold putV at h
  split at h
  · obtain ⟨x, hx, e⟩ := List.mem_map.mp h
    split at e
    · exact .inl e.symm
    · rw [← e]
      exact .inr hx
  · rcases List.mem_append.mp h with h | h
    · exact .inr h
    · exact .inl (List.mem_singleton.mp h)
theorem putV_len (zs : List Ver) (z : Ver) : (putV zs z).length ≤ zs.length + 1 := by
  classical
  unfold putV
  split
  · rw [List.length_map]
    omega
  · rw [List.length_append]
    exact Nat.le_refl _
theorem fst_dot {k : DK} (h : Men3 k) : ∃ n : Int, atI (k.map kV) 0 = some (V.int n) ∧ fstI k = n := by
  obtain ⟨n, c, l, rfl, _⟩ := h
  exact ⟨n, atI_nat (j := 0) rfl, rfl⟩
section
variable {P : Program} {w : World} {K : PySem.W.Frag} {mg : PySem.Str → Option Value} {base : Heap} {f : Addr} {fd : FuncData} {k : Nat}
def spVs (K : PySem.W.Frag) : Sp := fun vs H Q _ => ∃ p : Addr, vs = [.ref p, .int 8] ∧ Pool H p ∧ ∀ H' D zs, Ext p H H' → Pool H' p → H' D = some (.dT ((zs : List Ver).map ent)) → NdV zs → (∀ z ∈ zs, ∃ wd, LV K H' z wd) → zs.length ≤ 8 → Q (.ref D) H'
abbrev NVS : List PySem.Str := ["_law_pool", "_law_many", "_law_found", "_law_turn", "_law_own", "_law_known_here", "_law_one"]
theorem sc_vs : FnScope NVS ["_law_pool", "_law_many"] (defScope (topS 35)) := ⟨rfl, rfl, rfl, by decide +kernel, rfl, by decide +kernel, by decide +kernel⟩
theorem ok_vs (B : Bt mg) (cD : Ca P w K mg base 1 "_law_draw" ["_law_pool", "_law_size"] spDraw) (cL : Ca P w K mg base 2 "_law_dot" ["_law_pool"] spLd3) (cK : Ca P w K mg base 3 "_law_known" ["_law_pool", "_law_most"] (spLk3 K)) (F : Fun K "_law_versions" "_law_versions" (topS 35) f fd) : FnOk P w K mg base CX0 4 f fd ["_law_pool", "_law_many"] (spVs K) := by
  refine F.ok sc_vs (fun vs H Q E h => ?_) (fun cdv A outer s H vs Q E hr h => ?_)
  · obtain ⟨p, rfl, _⟩ := h; rfl
  · obtain ⟨p, rfl, hp, q⟩ := h
    refine ⟨_, pss_cons (ps_set (i := 2) sc_vs.nd rfl (.inl rfl) pe_dnewT)
      (pss_cons (ps_for PassesOwn.never rfl (pi_range1 (by rfl) B.range (pa_cons (pe_ca cD (hr.mono (by decide)) (by rfl) pass0 (pa_cons (pv 0) (pa_cons (pe_op op_add (pv 1) pe_int) pa_nil))) pa_nil)) (pg_name (i := 3) sc_vs.nd rfl (.inl rfl))
        (pss_cons (ps_set (i := 4) sc_vs.nd rfl (.inr rfl) (pe_ca cL (hr.mono (by decide)) (by rfl) pass0 (pa_cons (pv 0) pa_nil)))
        (pss_cons (ps_set (i := 5) sc_vs.nd rfl (.inl rfl) (pe_callTy call_tuple_of (by rfl) B.tuple boot_tuple (pa_cons (pe_lc (own := [("_law_one", 6)]) (g := gName 6) (te := tVar 6) (by rfl) sc_vs.nd (pi_tup (pe_ca cK hr (by rfl) pass0 (pa_cons (pv 0) (pa_cons pe_int pa_nil)))) (blkOk_by (own := [("_law_one", 6)]) (N := NVS) (sc := defScope (topS 35)) (by decide +kernel))
          (fun _ _ _ _ _ => pg_name (i := 6) sc_vs.nd rfl (Or.inl rfl)) (fun _ _ _ _ _ => pts_one (pt_cmpR op_lt (pe_ix (ix_tupK (K := K) rfl) (pv 6) pe_int (fun _ _ => rfl)) (pe_ix (ix_tupK (K := K) rfl) (pv 4) pe_int (fun _ _ => rfl)) (nomark _))) (fun _ _ _ _ _ => pv 6)) pa_nil)))
        (pss_one (ps_dput (hu_1 hr) (pv 2) (pv 4) (pe_tup (pa_cons (pv 4) (pa_cons (pv 5) (pa_cons (pe_ix ix_list (pe_lst (pa_cons pe_int (pa_cons (pe_un un_neg pe_int) (pa_cons pe_int (pa_cons (pe_tup (pa_cons pe_str (pa_cons pe_int pa_nil))) (pa_cons (pe_tup (pa_cons pe_str (pa_cons pe_int pa_nil))) pa_nil)))))) (pe_ca cD (hr.mono (by decide)) (by rfl) pass0 (pa_cons (pv 0) (pa_cons pe_int pa_nil))) (fun _ _ => rfl)) pa_nil)))) (by rfl))))))
      (pss_one (ps_ret (pv 2)))), ?_⟩
    intro D nD
    obtain ⟨s0, e0⟩ := newo (o := .dT []) nD
    generalize upd H D (.dT []) = H0 at s0 e0 ⊢
    have neD : D ≠ p := fun z => by
      obtain ⟨ys, hy⟩ := hp.is
      rw [z, hy] at nD
      cases nD
    refine ⟨_, rfl, _, rfl, 8, 1, rfl, rfl, p, _, rfl, hp.same s0, (by decide), (by decide), fun H1 r x1 p1 o1 r0 r1 => ?_⟩
    have r9 : r < 9 := r1
    refine ⟨r, rfl, (by omega), (by omega), for_range (lo := 0) (n := r.toNat) (fun i σ G => (∃ y3 y4 y5, σ = [some (.ref p), some (.int 8), some (.ref D), y3, y4, y5, none]) ∧ Ext p H G ∧ Pool G p ∧ ∃ zs : List Ver, G D = some (.dT (zs.map ent)) ∧ NdV zs ∧ (∀ z ∈ zs, ∃ wd, LV K G z wd) ∧ zs.length ≤ i) ⟨⟨none, none, none, rfl⟩, (Ext.of s0).trans x1, p1, [], x1 _ _ neD e0, .nil, (fun _ z => nomatch z), Nat.le_refl _⟩ (fun i σ G hi hP => ?_) (fun σ G hP => ?_)⟩
    · obtain ⟨⟨y3, y4, y5, rfl⟩, xG, pG, zs, eD, nd, lv, lz⟩ := hP
      obtain ⟨yg, hyg⟩ := pG.is
      refine ⟨_, rfl, p, rfl, pG, fun G1 o ko a1 b1 no eo mo => ?_⟩
      obtain ⟨yg1, hyg1⟩ := b1.is
      refine ⟨_, rfl, p, rfl, b1, fun G2 kn L a2 b2 ek dk ak lk mk => ?_⟩
      obtain ⟨yg2, hyg2⟩ := b2.is
      have no2 : o ≠ p := fun z => by rw [z, hyg1] at eo; cases eo
      have eo2 := a2 _ _ no2 eo
      have eD2 : G2 D = some (.dT (zs.map ent)) := a2 _ _ neD (a1 _ _ neD eD)
      have lv2 : ∀ z ∈ zs, ∃ wd, LV K G2 z wd := fun z hz => by
        obtain ⟨wd, h⟩ := lv z hz
        exact ⟨wd, (h.ext a1 hyg trivial).ext a2 hyg1 trivial⟩
      have x2 : Ext p H G2 := xG.trans (a1.trans a2)
      clear lv eD hyg hyg1 eo a1 a2 no
      obtain ⟨no', en, ef⟩ := fst_dot mo
      have hk : SqT K G2 kn (L.map fun q => V.ref q.1) := .inl (.inl ek)
      refine ⟨kn, rfl, ⟨_, hk⟩, fun E1 nE => lc_it (walk_tup (K := K) (a := kn) (xs := L.map fun q => V.ref q.1)) (fun j H' => Same G2 H' ∧ H' E1 = some (.lst (((L.take j).filter fun q => decide (fstI q.2 < fstI ko)).map fun q => V.ref q.1))) ⟨(newo nE).1, (newo nE).2⟩ (fun j H' _ hP => same_sqT hP.1 hk) (fun j x A1 A2 hj hP hy => ?_) (fun A1 hP => ?_)⟩
      · obtain ⟨rfl, hy⟩ := hy
        obtain ⟨s3, hl⟩ := hP
        rw [List.getElem?_map] at hy
        obtain ⟨u, hu, rfl⟩ := Option.map_eq_some_iff.mp hy
        have uin := List.mem_of_getElem? hu
        rw [List.length_map] at hj
        obtain ⟨nu, eu, fu⟩ := fst_dot (mk u uin)
        refine ⟨rfl, _, rfl, u.1, _, 0, V.int nu, rfl, rfl, .inl (.inl (s3 _ _ (dk u uin))), eu, _, rfl, o, _, 0, V.int no', rfl, rfl, .inl (.inl (s3 _ _ eo2)), en, nu, no', rfl, rfl, _, rfl, ?_⟩
        rw [← fu, ← ef]
        cases he : decide (fstI u.2 < fstI ko) with
        | false =>
          refine iteF ⟨s3, ?_⟩
          rw [hl, take_snoc hu, List.filter_append, List.filter_cons, he, if_neg (by decide), List.filter_nil, List.append_nil]
        | true =>
          refine iteT ⟨_, rfl, _, hl, ?_, same_but nE s3, ?_⟩
          · rw [List.length_map, sizeLine_eq]
            have := List.length_filter_le (fun q : MS.Row => decide (fstI q.2 < fstI ko)) (L.take j)
            rw [List.length_take] at this
            omega
          · rw [upd_same, take_snoc hu, List.filter_append, List.filter_cons, he, if_pos rfl, List.filter_nil, List.map_append]
            rfl
      obtain ⟨s3, hl⟩ := hP
      rw [List.length_map, List.take_of_length_le (Nat.le_refl _)] at hl
      obtain ⟨M, hM⟩ : ∃ M : List MS.Row, M = L.filter fun q => decide (fstI q.2 < fstI ko) := ⟨_, rfl⟩
      have mM : ∀ q ∈ M, q ∈ L ∧ fstI q.2 < fstI ko := fun q hq => by
        rw [hM, List.mem_filter, decide_eq_true_eq] at hq
        exact hq
      have lM : M.length ≤ 4 := by
        rw [hM]
        exact Nat.le_trans (List.length_filter_le _ _) lk
      have aM : Asc (M.map fun q => q.2) := by
        rw [hM]
        refine List.Pairwise.sublist (List.Sublist.map _ (List.filter_sublist ..)) ak
      rw [← hM] at hl
      refine ⟨E1, _, rfl, .inl ⟨.inl (.inl hl), fun kt nkt => ?_⟩⟩
      obtain ⟨s4, e4⟩ := newo (o := .tup (M.map fun q => V.ref q.1)) nkt
      generalize upd A1 kt (.tup (M.map fun q => V.ref q.1)) = G4 at s4 e4 ⊢
      have s24 : Same G2 G4 := s3.trans s4
      refine ⟨_, rfl, _, rfl, 1, rfl, (by show 2 ≤ sizeLine; decide), fun t1 nt1 => ?_⟩
      obtain ⟨s5, e5⟩ := newo (o := .tup [V.str gone, V.int 2]) nt1
      refine ⟨(by show 2 ≤ sizeLine; decide), fun t2 nt2 => ?_⟩
      obtain ⟨s6, e6⟩ := newo (o := .tup [V.str gone, V.int 7]) nt2
      refine ⟨(by show 5 ≤ sizeLine; decide), fun l nl => ?_⟩
      obtain ⟨s7, e7⟩ := newo (o := .lst [V.int 3, V.int (-1), V.int 0, V.ref t1, V.ref t2]) nl
      have p7 : Pool _ p := (((b2.same s24).same s5).same s6).same s7
      refine ⟨_, rfl, p, 5, rfl, p7, (by decide), (by decide), fun G8 r8 x8 p8 o8 r80 r81 => ?_⟩
      obtain ⟨ys7, hys7⟩ := p7.is
      obtain ⟨v, hv, ev⟩ := atI_ok (xs := [V.int 3, V.int (-1), V.int 0, V.ref t1, V.ref t2]) r80 (by simpa using r81)
      have nlp : l ≠ p := fun z => by
        obtain ⟨ys, hy⟩ := (((b2.same s24).same s5).same s6).is
        rw [z] at nl
        exact nomatch hy.symm.trans nl
      have x48 : Ext p G4 G8 := ((Ext.of s5).trans ((Ext.of s6).trans (Ext.of s7))).trans x8
      have wv : ∃ wd, WD K G8 v wd := by
        have q1 : SqT K G8 t1 [V.str gone, V.int 2] := x8.tupN hys7 trivial (.inl (.inl (s7 _ _ (s6 _ _ e5))))
        have q2 : SqT K G8 t2 [V.str gone, V.int 7] := x8.tupN hys7 trivial (.inl (.inl (s7 _ _ e6)))
        simp only [List.mem_cons, List.not_mem_nil, or_false] at hv
        rcases hv with rfl | rfl | rfl | rfl | rfl
        · exact ⟨_, .inl ⟨3, by decide, rfl, rfl⟩⟩
        · exact ⟨_, .inl ⟨-1, by decide, rfl, rfl⟩⟩
        · exact ⟨_, .inl ⟨0, by decide, rfl, rfl⟩⟩
        · exact ⟨_, .inr ⟨t1, 2, by decide, rfl, q1, rfl⟩⟩
        · exact ⟨_, .inr ⟨t2, 7, by decide, rfl, q2, rfl⟩⟩
      refine ⟨l, _, r8, v, rfl, rfl, .inl (.inl (x8 _ _ nlp e7)), ev, (by show 3 ≤ sizeLine; decide), fun vt nvt => ?_⟩
      obtain ⟨s9, e9⟩ := newo (o := .tup [V.ref o, V.ref kt, v]) nvt
      generalize upd G8 vt (.tup [V.ref o, V.ref kt, v]) = G9 at s9 e9 ⊢
      have ys4 : ∃ ys, G4 p = some (.lst ys) := (b2.same s24).is
      obtain ⟨ys4, hys4⟩ := ys4
      have eo9 : G9 o = some (.tup (ko.map kV)) := s9 _ _ (x48 _ _ no2 (s24 _ _ eo2))
      have eD9 : G9 D = some (.dT (zs.map ent)) := s9 _ _ (x48 _ _ neD (s24 _ _ eD2))
      obtain ⟨wd, hwd⟩ := wv
      have new : LV K G9 ⟨vt, (o, ko), kt, M, v⟩ wd := by
        refine ⟨⟨.inl (.inl e9), eo9, same_sqT s9 (x48.tupN hys4 trivial (.inl (.inl e4))), ?_⟩, mo, (fun q hq => ⟨mk q (mM q hq).1, (mM q hq).2⟩), aM, lM, hwd.same s9⟩
        have d4 : DotsH G4 M := fun q hq => s24 _ _ (dk q (mM q hq).1)
        exact (x48.dotsH hys4 trivial d4).same s9
      have lv9 : ∀ z ∈ zs, ∃ wd, LV K G9 z wd := fun z hz => by
        obtain ⟨wd, h⟩ := lv2 z hz
        exact ⟨wd, ((h.same s24).ext x48 hys4 trivial).same s9⟩
      have p9 : Pool G9 p := p8.same s9
      have x9 : Ext p H G9 := x2.trans ((Ext.of s24).trans (x48.trans (Ext.of s9)))
      refine ⟨_, rfl, _, rfl, D, _, rfl, DPut.t eD9 eo9 (by rw [List.length_map, sizeLine_eq]; omega), ⟨_, _, _, rfl⟩, ?_, ?_, putV zs ⟨vt, (o, ko), kt, M, v⟩, ?_, putV_nd nd, ?_, ?_⟩
      · intro b u nb hb
        by_cases z : b = D
        · subst z
          rw [nD] at hb
          cases hb
        · rw [upd_ne z]
          exact x9 _ _ nb hb
      · obtain ⟨u, v', hu, rest⟩ := p9
        exact ⟨u, v', by rw [upd_ne (Ne.symm neD)]; exact hu, rest⟩
      · rw [upd_same, ← putV_ent]
      · intro z hz
        rcases putV_mem hz with rfl | hz
        · exact ⟨wd, new.ext Ext.put eD9 trivial⟩
        · obtain ⟨wd', h⟩ := lv9 z hz
          exact ⟨wd', h.ext Ext.put eD9 trivial⟩
      · have := putV_len zs ⟨vt, (o, ko), kt, M, v⟩
        omega
    · obtain ⟨⟨y3, y4, y5, rfl⟩, xG, pG, zs, eD, nd, lv, lz⟩ := hP
      exact ⟨_, rfl, q G D zs xG pG eD nd lv (by omega)⟩
end
end K01

set_option Elab.async false
set_option linter.all false
set_option maxRecDepth 100000
set_option maxHeartbeats 4000000
namespace K01
open PySem PySem.Spec PyProof.Rows L2 MS
section
variable {P : Program} {w : World} {K : PySem.W.Frag} {mg : PySem.Str → Option Value} {base : Heap} {f : Addr} {fd : FuncData} {k : Nat}
def spLive (K : PySem.W.Frag) : Sp := fun vs H Q _ => ∃ (l : Addr) (zs : List Ver), vs = [.ref l] ∧ SqL K H l (zs.map fun z => V.ref z.a) ∧ (∀ z ∈ zs, VGood K H z) ∧ (∀ k ∈ knownOf zs, D3 k) ∧ NdV zs ∧ zs.length ≤ 1000 ∧
  ∀ H' r ls, Same H H' → H r = none → H' r = some (.tup ((ls : List Ver).map fun z => V.ref z.a)) → Asc (dotsOf ls) → (∀ z, z ∈ ls ↔ z ∈ zs ∧ z.d.2 ∉ knownOf zs) → ls.length ≤ zs.length → Q (.ref r) H'
abbrev NLV : List PySem.Str := ["_law_some", "_law_found", "_law_one", "_law_other"]
theorem sc_live : FnScope NLV ["_law_some"] (defScope (topS 36)) := ⟨rfl, rfl, rfl, by decide +kernel, rfl, by decide +kernel, by decide +kernel⟩
theorem ok_live (B : Bt mg) (F : Fun K "_law_live" "_law_live" (topS 36) f fd) : FnOk P w K mg base CX0 (k + 1) f fd ["_law_some"] (spLive K) := by
  classical
  refine F.ok sc_live (fun vs H Q E h => ?_) (fun cdv A outer s H vs Q E hr h => ?_)
  · obtain ⟨l, zs, rfl, _⟩ := h; rfl
  · obtain ⟨l, zs, rfl, hl, vg, d3, nd, lz, q⟩ := h
    refine ⟨_, pss_cons (ps_set (i := 1) sc_live.nd rfl (.inl rfl) (pe_lst pa_nil))
      (pss_cons (ps_for PassesOwn.never rfl (pi_list (pv 0)) (pg_name (i := 2) sc_live.nd rfl (.inr rfl))
        (pss_one (ps_if (pt_cmpR (VS.op_eqNil (K := K) rfl (hu_lt hr)) (pe_lc (own := [("_law_other", 3)]) (g := gName 3) (te := tVar 3) (by rfl) sc_live.nd (pi_list (pv 0)) (blkOk_by (own := [("_law_other", 3)]) (N := NLV) (sc := defScope (topS 36)) (by decide +kernel))
          (fun _ _ _ _ _ => pg_name (i := 3) sc_live.nd rfl (Or.inl rfl)) (fun _ _ _ _ _ => pts_one (pt_cmpR (VS.op_inDT (K := K) rfl (hu_65 hr)) (pe_ix (ix_tupK (K := K) rfl) (pv 2) pe_int (fun _ _ => rfl)) (pe_ix (ix_tupK (K := K) rfl) (pv 3) pe_int (fun _ _ => rfl)) (by rfl))) (fun _ _ _ _ _ => pv 3)) (pe_lst pa_nil) (nomark _))
          (pss_one (ps_expr (pe_bm PySem.F.plainAttrs_list PySem.F.slot_list_append PySem.F.type_list_append mt_append (pv 1) (pa_cons (pv 2) pa_nil)))) pss_nil)))
      (pss_one (ps_ret (pe_callTy call_tuple_of (by rfl) B.tuple boot_tuple (pa_cons (pe_callB (VS.cr_sortV hr) (by rfl) B.sorted boot_sorted (pa_cons (pv 1) pa_nil)) pa_nil))))), ?_⟩
    refine ⟨Nat.zero_le _, fun fa nfa => ?_⟩
    obtain ⟨s0, e0⟩ := newo (o := .lst []) nfa
    generalize upd H fa (.lst []) = H0 at s0 e0 ⊢
    have hl0 := s0.seq hl
    have vg0 : ∀ z ∈ zs, VGood K H0 z := fun z hz => (vg z hz).same s0
    have nfl : ∀ {G : Hp}, Ext fa H0 G → SqL K G l (zs.map fun z => V.ref z.a) := fun {G} e => by
      have ne : ∀ o, H l = some o → l ≠ fa := fun o h z => by rw [z, nfa] at h; cases h
      rcases hl with (h | ⟨ob, h⟩) | h
      · exact .inl (.inl (e _ _ (ne _ h) (s0 _ _ h)))
      · exact .inl (.inr ⟨ob, e _ _ (ne _ h) (s0 _ _ h)⟩)
      · exact .inr h
    have vgx : ∀ {G : Hp}, Ext fa H0 G → ∀ z ∈ zs, VGood K G z := fun {G} e z hz => by
      -- all that a version holds stands ahead of the new list
      have sG : Same H G := fun b o hb => e b o (fun z => by rw [z, nfa] at hb; cases hb) (s0 b o hb)
      exact (vg z hz).same sG
    obtain ⟨lv, hlv⟩ : ∃ lv : Ver → Bool, ∀ z, lv z = decide (z.d.2 ∉ knownOf zs) := ⟨fun z => decide (z.d.2 ∉ knownOf zs), fun _ => rfl⟩
    refine ⟨_, rfl, l, rfl, ⟨_, hl0⟩, for_it (walk_list (K := K) (a := l) (xs := zs.map fun z => V.ref z.a)) (fun i σ G => (∃ o, σ = [some (.ref l), some (.ref fa), o, none]) ∧ Ext fa H0 G ∧ G fa = some (.lst (((zs.take i).filter lv).map fun z => V.ref z.a))) ⟨⟨none, rfl⟩, Ext.refl, e0⟩ (fun i σ G _ hP => nfl hP.2.1) (fun i x σ G G' hi hP hy => ?_) (fun σ G hP => ?_)⟩
    · obtain ⟨⟨o, rfl⟩, xG, eG⟩ := hP
      obtain ⟨rfl, hx⟩ := hy
      rw [List.getElem?_map] at hx
      obtain ⟨z, hz, rfl⟩ := Option.map_eq_some_iff.mp hx
      have zin := List.mem_of_getElem? hz
      rw [List.length_map] at hi
      have hlG := nfl xG
      refine ⟨_, rfl, l, rfl, ⟨_, hlG⟩, fun D nD => lc_it (walk_list (K := K) (a := l) (xs := zs.map fun z => V.ref z.a)) (fun j H' => Same G' H' ∧ H' D = some (.lst (((zs.take j).filter fun y => decide (z.d.2 ∈ y.L.map fun q => q.2)).map fun y => V.ref y.a))) ⟨(newo nD).1, (newo nD).2⟩ (fun j H' _ hP => hP.1.seq hlG) (fun j x A1 A2 hj hP hy => ?_) (fun A1 hP => ?_)⟩
      · obtain ⟨rfl, hy⟩ := hy
        obtain ⟨s2, e2⟩ := hP
        rw [List.getElem?_map] at hy
        obtain ⟨y, hyj, rfl⟩ := Option.map_eq_some_iff.mp hy
        have yin := List.mem_of_getElem? hyj
        rw [List.length_map] at hj
        have gz := (vgx xG z zin).same s2
        have gy := (vgx xG y yin).same s2
        obtain ⟨⟨a1, a2, _⟩, _⟩ := id gz
        obtain ⟨⟨b1, _, b3, b4⟩, _⟩ := id gy
        refine ⟨rfl, _, rfl, z.a, _, 0, V.ref z.d.1, rfl, rfl, a1, atI_nat (j := 0) rfl, _, rfl, y.a, _, 1, V.ref y.kn, rfl, rfl, b1, atI_nat (j := 1) rfl, dD z.d.2, (y.L.map fun q => q.2).map dD, dp_dot (.inl (.inl a2)), .tup b3 (dp_dots b4.dots), dot_shaped gz.dots.1, shaped_tup gy.dots.2, _, rfl, ?_⟩
        have e : (((y.L.map fun q => q.2).map dD).any fun x => PyData.eqv x (dD z.d.2)) = decide (z.d.2 ∈ y.L.map fun q => q.2) := by
          rw [Bool.eq_iff_iff, VS.any_dD gz.2.1 (fun k hk => d3 k (knownOf_mem.mpr ⟨y, yin, hk⟩)), decide_eq_true_eq]
        change if (if false = true then _ else _) = true then _ else _
        rw [if_neg (show ¬ false = true by decide), e]
        cases he : decide (z.d.2 ∈ y.L.map fun q => q.2) with
        | false =>
          refine iteF ⟨s2, ?_⟩
          rw [e2, take_snoc hyj, List.filter_append, List.filter_cons, he, if_neg (by decide), List.filter_nil, List.append_nil]
        | true =>
          refine iteT ⟨_, rfl, _, e2, ?_, same_but nD s2, ?_⟩
          · rw [List.length_map, sizeLine_eq]
            have := List.length_filter_le (fun y : Ver => decide (z.d.2 ∈ y.L.map fun q => q.2)) (zs.take j)
            rw [List.length_take] at this
            omega
          · rw [upd_same, take_snoc hyj, List.filter_append, List.filter_cons, he, if_pos rfl, List.filter_nil, List.map_append]
            rfl
      obtain ⟨s2, e2⟩ := hP
      rw [List.length_map, List.take_of_length_le (Nat.le_refl _)] at e2
      refine ⟨Nat.zero_le _, fun n1 nn1 => ?_⟩
      obtain ⟨s3, e3⟩ := newo (o := .lst []) nn1
      generalize upd A1 n1 (.lst []) = A2 at s3 e3 ⊢
      refine ⟨D, n1, _, rfl, rfl, .inl (.inl (s3 _ _ e2)), .inl (.inl e3), _, rfl, ?_⟩
      have eE : (((zs.filter fun y => decide (z.d.2 ∈ y.L.map fun q => q.2)).map fun y => V.ref y.a).isEmpty) = lv z := by
        rw [hlv, Bool.eq_iff_iff, List.isEmpty_iff, List.map_eq_nil_iff, List.filter_eq_nil_iff, decide_eq_true_eq]
        constructor
        · intro h hk
          obtain ⟨y, hy, yk⟩ := knownOf_mem.mp hk
          exact h y hy (decide_eq_true yk)
        · intro h y hy yk
          exact h (knownOf_mem.mpr ⟨y, hy, of_decide_eq_true yk⟩)
      rw [eE]
      have xA : Ext fa H0 A2 := xG.trans (Ext.of (s2.trans s3))
      have eA : A2 fa = some (.lst (((zs.take i).filter lv).map fun z => V.ref z.a)) := s3 _ _ (s2 _ _ eG)
      cases he : lv z with
      | false =>
        refine iteF ⟨⟨_, rfl⟩, xA, ?_⟩
        rw [eA, take_snoc hz, List.filter_append, List.filter_cons, he, if_neg (by decide), List.filter_nil, List.append_nil]
      | true =>
        refine iteT ⟨_, rfl, .inl ⟨rfl, _, SqL.of eA⟩, _, rfl, fa, _, _, rfl, rfl, eA, ?_, ⟨_, rfl⟩, xA.trans Ext.put, ?_⟩
        · rw [List.length_map, sizeLine_eq]
          have := List.length_filter_le lv (zs.take i)
          rw [List.length_take] at this
          omega
        · rw [upd_same, take_snoc hz, List.filter_append, List.filter_cons, he, if_pos rfl, List.filter_nil, List.map_append]
          rfl
    obtain ⟨⟨o, rfl⟩, xG, eG⟩ := hP
    rw [List.length_map, List.take_of_length_le (Nat.le_refl _)] at eG
    have vgG := vgx xG
    have sG : Same H G := fun b o hb => xG b o (fun z => by rw [z, nfa] at hb; cases hb) (s0 b o hb)
    obtain ⟨ys, hys⟩ : ∃ ys, ys = zs.filter lv := ⟨_, rfl⟩
    rw [← hys] at eG
    have mY : ∀ z, z ∈ ys ↔ z ∈ zs ∧ z.d.2 ∉ knownOf zs := fun z => by rw [hys, List.mem_filter, hlv, decide_eq_true_eq]
    have ndY : (dotsOf ys).Nodup := by
      rw [hys]
      exact List.Pairwise.sublist (List.Sublist.map _ (List.filter_sublist ..)) nd
    have lY : ys.length ≤ zs.length := by rw [hys]; exact List.length_filter_le _ _
    have em : (ys.map fun z => V.ref z.a) = (ys.map fun z => ((z.a, z.d.2) : VS.VRow)).map fun z => V.ref z.1 := by rw [List.map_map]; rfl
    rw [em] at eG
    refine ⟨_, rfl, fa, ys.map fun z => (z.a, z.d.2), rfl, .inl (.inl eG), (fun z hz => ?_), (fun z hz => ?_), ?_, (by rw [List.length_map]; omega), fun ws p pm asc np => ?_⟩
    · obtain ⟨y, hy, rfl⟩ := List.mem_map.mp hz
      obtain ⟨⟨a1, a2, _⟩, _⟩ := vgG y ((mY y).mp hy).1
      exact ⟨_, _, a1, .inl (.inl a2)⟩
    · obtain ⟨y, hy, rfl⟩ := List.mem_map.mp hz
      exact (vgG y ((mY y).mp hy).1).2.1
    · rw [List.map_map]
      exact ndY
    obtain ⟨s4, e4⟩ := newo (o := .lst (ws.map fun z => V.ref z.1)) np
    generalize upd G p (.lst (ws.map fun z => V.ref z.1)) = G4 at s4 e4 ⊢
    refine ⟨p, _, rfl, .inl ⟨.inl (.inl e4), fun r nr => ?_⟩⟩
    obtain ⟨s5, e5⟩ := newo (o := .tup (ws.map fun z => V.ref z.1)) nr
    generalize upd G4 r (.tup (ws.map fun z => V.ref z.1)) = G5 at s5 e5 ⊢
    obtain ⟨ls, pl, el⟩ := VS.perm_lift (fun z : Ver => ((z.a, z.d.2) : VS.VRow)) pm (L := ys) rfl
    refine q G5 r ls (sG.trans (s4.trans s5)) (none_of (sG.trans s4) nr) ?_ ?_ (fun z => by rw [pl.mem_iff, mY]) (by rw [pl.length_eq]; exact lY)
    · rw [e5, ← el, List.map_map]
      rfl
    · rw [← el, List.map_map] at asc
      exact asc
end
end K01

set_option Elab.async false
set_option linter.all false
set_option maxRecDepth 100000
set_option maxHeartbeats 4000000
namespace K01
open PySem PySem.Spec PyProof.Rows L2 MS
theorem ent_get {zs : List Ver} {k : DK} (h : k ∈ dotsOf zs) : ∃ z ∈ zs, z.d.2 = k ∧ valV (zs.map ent) k = some (V.ref z.a) := by
  rw [← ent_keys] at h
  obtain ⟨v, e, hv⟩ := VS.val_in h
  obtain ⟨z, hz, y⟩ := List.mem_map.mp hv
  have y1 : z.d.2 = k := congrArg Prod.fst y
  have y2 : V.ref z.a = v := congrArg Prod.snd y
  exact ⟨z, hz, y1, by rw [e, y2]⟩
/-- a cell of some of these versions -/
def CIn (K : PySem.W.Frag) (H : Hp) (zs : List Ver) (c : Addr × List Ver) : Prop := SqT K H c.1 (c.2.map fun z => V.ref z.a) ∧ (∀ z ∈ c.2, z ∈ zs) ∧ cellB c.2 (knownOf c.2) ∧ c.2.length ≤ 8
theorem CIn.same {K : PySem.W.Frag} {H H' : Hp} {zs : List Ver} {c : Addr × List Ver} (s : Same H H') (h : CIn K H zs c) : CIn K H' zs c := ⟨same_sqT s h.1, h.2⟩
theorem CIn.ext {K : PySem.W.Frag} {H H' : Hp} {zs : List Ver} {c : Addr × List Ver} {p : Addr} {o : HO} (e : Ext p H H') (hp : H p = some o) (n : NT o) (h : CIn K H zs c) : CIn K H' zs c := ⟨e.tupN hp n h.1, h.2⟩
theorem CIn.cell {K : PySem.W.Frag} {H : Hp} {zs : List Ver} {c : Addr × List Ver} (h : CIn K H zs c) (lv : ∀ z ∈ zs, ∃ wd, LV K H z wd) : CellAt K H c.1 c.2 := by
  obtain ⟨h1, h2, h3, h4⟩ := h
  refine ⟨h1, fun z hz => ?_, by omega, h3⟩
  obtain ⟨wd, h⟩ := lv z (h2 z hz)
  exact h.good
theorem lv_d3 {K : PySem.W.Frag} {H : Hp} {zs : List Ver} (lv : ∀ z ∈ zs, ∃ wd, LV K H z wd) : ∀ k ∈ knownOf zs, D3 k := fun k hk => by
  obtain ⟨z, hz, y⟩ := knownOf_mem.mp hk
  obtain ⟨wd, h⟩ := lv z hz
  exact (h.mem k y).d3
section
variable {P : Program} {w : World} {K : PySem.W.Frag} {mg : PySem.Str → Option Value} {base : Heap} {f : Addr} {fd : FuncData} {k : Nat}
def spCs (K : PySem.W.Frag) : Sp := fun vs H Q _ => ∃ (p D : Addr) (m : Int) (zs : List Ver), vs = [.ref p, .ref D, .int m] ∧ Pool H p ∧ H D = some (.dT (zs.map ent)) ∧ NdV zs ∧ (∀ z ∈ zs, ∃ wd, LV K H z wd) ∧ zs.length ≤ 8 ∧ 0 ≤ m ∧ m ≤ 5 ∧
  ∀ H' l cs, Ext p H H' → Pool H' p → H' l = some (.lst ((cs : List (Addr × List Ver)).map fun c => V.ref c.1)) → cs.length ≤ 5 → (∀ c ∈ cs, CIn K H' zs c) → Q (.ref l) H'
abbrev NCS : List PySem.Str := ["_law_pool", "_law_book", "_law_many", "_law_found", "_law_turn", "_law_some", "_law_own"]
theorem sc_cs : FnScope NCS ["_law_pool", "_law_book", "_law_many"] (defScope (topS 37)) := ⟨rfl, rfl, rfl, by decide +kernel, rfl, by decide +kernel, by decide +kernel⟩
theorem ok_cs (B : Bt mg) (cD : Ca P w K mg base 1 "_law_draw" ["_law_pool", "_law_size"] spDraw) (cL : Ca P w K mg base 1 "_law_live" ["_law_some"] (spLive K)) (F : Fun K "_law_cells" "_law_cells" (topS 37) f fd) : FnOk P w K mg base CX0 2 f fd ["_law_pool", "_law_book", "_law_many"] (spCs K) := by
  refine F.ok sc_cs (fun vs H Q E h => ?_) (fun cdv A outer s H vs Q E hr h => ?_)
  · obtain ⟨p, D, m, zs, rfl, _⟩ := h; rfl
  · obtain ⟨p, D, m, zs, rfl, hp, eD, nd, lv, lz, m0, m5, q⟩ := h
    refine ⟨_, pss_cons (ps_set (i := 3) sc_cs.nd rfl (.inl rfl) (pe_lst pa_nil))
      (pss_cons (ps_for PassesOwn.never rfl (pi_range1 (by rfl) B.range (pa_cons (pv 2) pa_nil)) (pg_name (i := 4) sc_cs.nd rfl (.inl rfl))
        (pss_cons (ps_setLc (i := 5) (own := [("_law_own", 6)]) (g := gName 6) (by rfl) sc_cs.nd rfl rfl (sw_true rfl rfl rfl (by decide +kernel)) (pi_list (pe_callB (VS.cr_sortD (by rfl)) (by rfl) B.sorted boot_sorted (pa_cons (pv 1) pa_nil))) (blkOk_by (own := [("_law_own", 6)]) (N := NCS) (sc := defScope (topS 37)) (by decide +kernel))
          (fun _ _ _ _ _ => pg_name (i := 6) sc_cs.nd rfl (Or.inl rfl)) (fun _ _ _ _ _ => pts_one (pt_cmpR op_eq (pe_ca cD hr (by rfl) pass0 (pa_cons (pv 0) (pa_cons pe_int pa_nil))) pe_int (nomark _))) (fun _ _ _ _ _ => pe_dget (hu_1 hr) (pv 1) (pv 6) (fun _ _ => rfl)))
        (pss_one (ps_expr (pe_bm PySem.F.plainAttrs_list PySem.F.slot_list_append PySem.F.type_list_append mt_append (pv 3) (pa_cons (pe_ca cL hr (by rfl) pass0 (pa_cons (pv 5) pa_nil)) pa_nil))))))
      (pss_one (ps_ret (pv 3)))), ?_⟩
    have neDp : D ≠ p := fun z => by
      obtain ⟨ys, hy⟩ := hp.is
      rw [z, hy] at eD
      cases eD
    refine ⟨Nat.zero_le _, fun fa nfa => ?_⟩
    obtain ⟨s0, e0⟩ := newo (o := .lst []) nfa
    generalize upd H fa (.lst []) = H0 at s0 e0 ⊢
    have nfp : fa ≠ p := fun z => by
      obtain ⟨ys, hy⟩ := hp.is
      rw [z, hy] at nfa
      cases nfa
    refine ⟨_, rfl, m, rfl, (by omega), (by omega), for_range (lo := 0) (n := m.toNat) (fun i σ G => (∃ y4 y5, σ = [some (.ref p), some (.ref D), some (.int m), some (.ref fa), y4, y5, none]) ∧ Ext p H G ∧ Pool G p ∧ ∃ cs : List (Addr × List Ver), G fa = some (.lst (cs.map fun c => V.ref c.1)) ∧ cs.length = i ∧ ∀ c ∈ cs, CIn K G zs c) ⟨⟨none, none, rfl⟩, Ext.of s0, hp.same s0, [], e0, rfl, (fun _ z => nomatch z)⟩ (fun i σ G hi hP => ?_) (fun σ G hP => ?_)⟩
    · obtain ⟨⟨y4, y5, rfl⟩, xG, pG, cs, eF, lc, ci⟩ := hP
      obtain ⟨yg, hyg⟩ := pG.is
      obtain ⟨yh, hyh⟩ := hp.is
      have eDG := xG _ _ neDp eD
      have lvG : ∀ z ∈ zs, ∃ wd, LV K G z wd := fun z hz => by
        obtain ⟨wd, h⟩ := lv z hz
        exact ⟨wd, h.ext xG hyh trivial⟩
      have d3 : ∀ e ∈ zs.map ent, D3 e.1 := fun e he => by
        obtain ⟨z, hz, rfl⟩ := List.mem_map.mp he
        obtain ⟨wd, h⟩ := lv z hz
        exact h.2.1.d3
      refine ⟨_, rfl, D, _, rfl, eDG, d3, (by rw [List.length_map]; omega), fun L l hL pm pw nl => ?_⟩
      rw [ent_keys] at pm
      obtain ⟨s1, e1⟩ := newo (o := .lst (L.map fun q => V.ref q.1)) nl
      generalize upd G l (.lst (L.map fun q => V.ref q.1)) = G1 at s1 e1 ⊢
      have asc : Asc (L.map fun q => q.2) := asc_of pw (pm.nodup_iff.mpr nd)
      have lL : L.length = zs.length := by
        have y := pm.length_eq
        unfold dotsOf at y
        rw [List.length_map, List.length_map] at y
        exact y
      have p1 := pG.same s1
      obtain ⟨yg1, hyg1⟩ := p1.is
      have nlp : l ≠ p := fun z => by
        rw [z, hyg] at nl
        cases nl
      have hl1 : SqL K G1 l (L.map fun q => V.ref q.1) := .inl (.inl e1)
      refine ⟨l, rfl, ⟨_, hl1⟩, fun E1 nE => ?_⟩
      have nEp : E1 ≠ p := fun z => by
        rw [z, hyg1] at nE
        cases nE
      have nlE : l ≠ E1 := fun z => by
        rw [z, nE] at e1
        cases e1
      have x0 : Ext p G1 (upd G1 E1 (.lst [])) := Ext.of (newo nE).1
      refine lc_it (walk_list (K := K) (a := l) (xs := L.map fun q => V.ref q.1)) (fun j H' => Ext p G1 H' ∧ Pool H' p ∧ ∃ ss : List Ver, H' E1 = some (.lst (ss.map fun z => V.ref z.a)) ∧ (∀ z ∈ ss, z ∈ zs) ∧ (dotsOf ss).Sublist ((L.take j).map fun q => q.2) ∧ ss.length ≤ j) ⟨x0, p1.same (newo nE).1, [], (newo nE).2, (fun _ z => nomatch z), .slnil, Nat.le_refl _⟩ (fun j H' _ hP => .inl (.inl (hP.1 _ _ nlp e1))) (fun j x A1 A2 hj hP hy => ?_) (fun A1 hP => ?_)
      · obtain ⟨rfl, hy⟩ := hy
        obtain ⟨xa, pa, ss, eS, mS, subS, lS⟩ := hP
        rw [List.getElem?_map] at hy
        obtain ⟨u, hu, rfl⟩ := Option.map_eq_some_iff.mp hy
        have uin := List.mem_of_getElem? hu
        rw [List.length_map] at hj
        refine ⟨rfl, _, rfl, p, 2, rfl, pa, (by decide), (by decide), fun A3 r xr pr _ r0 r1 => ?_⟩
        have x3 : Ext p G1 A3 := xa.trans xr
        have eS3 := xr _ _ nEp eS
        refine ⟨rfl, _, rfl, ?_⟩
        have tk : (L.take (j + 1)).map (fun q => q.2) = (L.take j).map (fun q => q.2) ++ [u.2] := by rw [take_snoc hu, List.map_append]; rfl
        by_cases hr0 : r = 0
        · rw [decide_eq_true (show V.int r = V.int 0 by rw [hr0])]
          have nup : u.1 ≠ p := fun z => by
            have y := hL u uin
            rw [z, hyg] at y
            cases y
          have eu : A3 u.1 = some (.tup (u.2.map kV)) := x3 _ _ nup (s1 _ _ (hL u uin))
          obtain ⟨z, hz, ez, hv⟩ := ent_get (zs := zs) (pm.mem_iff.mp (List.mem_map_of_mem uin))
          have eD3 : A3 D = some (.dT (zs.map ent)) := x3 _ _ neDp (s1 _ _ eDG)
          refine iteT ⟨_, rfl, _, rfl, D, V.ref z.a, rfl, (by rw [← hv]; exact DGet.t eD3 eu), _, eS3, (by rw [List.length_map, sizeLine_eq]; omega), ?_, ?_, ss ++ [z], ?_, ?_, ?_, ?_⟩
          · intro b o nb hb
            by_cases y : b = E1
            · subst y
              rw [nE] at hb
              cases hb
            · rw [upd_ne y]
              exact x3 _ _ nb hb
          · obtain ⟨a, b, hab, rest⟩ := pr
            exact ⟨a, b, by rw [upd_ne (Ne.symm nEp)]; exact hab, rest⟩
          · rw [upd_same, List.map_append]
            rfl
          · intro y hy
            rcases List.mem_append.mp hy with hy | hy
            · exact mS y hy
            · rw [List.mem_singleton.mp hy]
              exact hz
          · rw [tk]
            unfold dotsOf at subS ⊢
            rw [List.map_append, List.map_cons, List.map_nil, ez]
            exact subS.append (List.Sublist.refl _)
          · rw [List.length_append]
            show ss.length + 1 ≤ j + 1
            omega
        · rw [decide_eq_false (show ¬ V.int r = V.int 0 from fun y => hr0 (by injection y))]
          refine iteF ⟨x3, pr, ss, eS3, mS, ?_, by omega⟩
          rw [tk]
          exact subS.trans (List.sublist_append_left _ _)
      · obtain ⟨xa, pa, ss, eS, mS, subS, lS⟩ := hP
        rw [List.length_map] at lS
        rw [List.length_map, List.take_of_length_le (Nat.le_refl _)] at subS
        have ndS : NdV ss := List.Pairwise.sublist subS (asc_nodup asc)
        have xGA : Ext p G A1 := (Ext.of s1).trans xa
        have lvA : ∀ z ∈ zs, ∃ wd, LV K A1 z wd := fun z hz => by
          obtain ⟨wd, h⟩ := lvG z hz
          exact ⟨wd, h.ext xGA hyg trivial⟩
        have ciA : ∀ c ∈ cs, CIn K A1 zs c := fun c hc => (ci c hc).ext xGA hyg trivial
        have eFA : A1 fa = some (.lst (cs.map fun c => V.ref c.1)) := xGA _ _ nfp eF
        have lvS : ∀ z ∈ ss, ∃ wd, LV K A1 z wd := fun z hz => lvA z (mS z hz)
        refine ⟨_, rfl, .inl ⟨rfl, _, SqL.of eFA⟩, _, rfl, E1, ss, rfl, .inl (.inl eS), (fun z hz => by obtain ⟨wd, h⟩ := lvS z hz; exact h.good), lv_d3 lvS, ndS, (by omega), fun A2 r ls s2 nr er ar mr lr => ?_⟩
        have new : CIn K A2 zs (r, ls) := by
          refine ⟨.inl (.inl er), (fun z hz => mS z ((mr z).mp hz).1), ⟨ar, fun z hz hk => ?_⟩, (by show ls.length ≤ 8; omega)⟩
          obtain ⟨y, hy, yk⟩ := knownOf_mem.mp hk
          exact ((mr z).mp hz).2 (knownOf_mem.mpr ⟨y, ((mr y).mp hy).1, yk⟩)
        refine ⟨fa, _, _, rfl, rfl, s2 _ _ eFA, (by rw [List.length_map, sizeLine_eq]; omega), ⟨_, _, rfl⟩, ?_, ?_, cs ++ [(r, ls)], ?_, ?_, ?_⟩
        · intro b o nb hb
          by_cases y : b = fa
          · subst y
            rw [nfa] at hb
            cases hb
          · rw [upd_ne y]
            exact s2 _ _ (xGA _ _ nb (xG _ _ nb hb))
        · obtain ⟨a, b, hab, rest⟩ := pa.same s2
          exact ⟨a, b, by rw [upd_ne (Ne.symm nfp)]; exact hab, rest⟩
        · rw [upd_same, List.map_append]
          rfl
        · rw [List.length_append, lc]
          rfl
        · intro c hc
          refine CIn.ext Ext.put (s2 _ _ eFA) trivial ?_
          rcases List.mem_append.mp hc with hc | hc
          · exact (ciA c hc).same s2
          · rw [List.mem_singleton.mp hc]
            exact new
    · obtain ⟨⟨y4, y5, rfl⟩, xG, pG, cs, eF, lc, ci⟩ := hP
      exact ⟨_, rfl, q G fa cs xG pG eF (by omega) ci⟩
def spAll (K : PySem.W.Frag) : Sp := fun vs H Q _ => ∃ (l : Addr) (cs : List (Addr × List Ver)), vs = [.ref l] ∧ SqL K H l (cs.map fun c => V.ref c.1) ∧ (∀ c ∈ cs, SqT K H c.1 (c.2.map fun z => V.ref z.a)) ∧ (∀ z ∈ allV cs, VerOk K H z ∧ D3 z.d.2) ∧ (allV cs).length ≤ 1000 ∧
  ∀ H' r ls, Same H H' → H' r = some (.lst ((ls : List Ver).map fun z => V.ref z.a)) → Asc (dotsOf ls) → (∀ z ∈ ls, z ∈ allV cs) → (∀ z ∈ allV cs, z.d.2 ∈ dotsOf ls) → ls.length ≤ (allV cs).length → Q (.ref r) H'
abbrev NAL : List PySem.Str := ["_law_cells_here", "_law_found", "_law_cell", "_law_one", "_law_own"]
theorem sc_all : FnScope NAL ["_law_cells_here"] (defScope (topS 38)) := ⟨rfl, rfl, rfl, by decide +kernel, rfl, by decide +kernel, by decide +kernel⟩
theorem ok_all (B : Bt mg) (F : Fun K "_law_all" "_law_all" (topS 38) f fd) : FnOk P w K mg base CX0 (k + 1) f fd ["_law_cells_here"] (spAll K) := by
  refine F.ok sc_all (fun vs H Q E h => ?_) (fun cdv A outer s H vs Q E hr h => ?_)
  · obtain ⟨l, cs, rfl, _⟩ := h; rfl
  · obtain ⟨l, cs, rfl, hl, ct, vo, la, q⟩ := h
    refine ⟨_, pss_cons (ps_set (i := 1) sc_all.nd rfl (.inr rfl) pe_dnewT)
      (pss_cons (ps_for PassesOwn.never rfl (pi_list (pv 0)) (pg_name (i := 2) sc_all.nd rfl (.inl rfl))
        (pss_one (ps_for PassesOwn.never rfl (pi_tup (pv 2)) (pg_name (i := 3) sc_all.nd rfl (.inl rfl))
          (pss_one (ps_dput (hu_1 hr) (pv 1) (pe_ix (ix_tupK (K := K) rfl) (pv 3) pe_int (fun _ _ => rfl)) (pv 3) (by rfl))))))
      (pss_one (ps_ret (pe_lc (own := [("_law_own", 4)]) (g := gName 4) (tt := tYes) (by rfl) sc_all.nd (pi_list (pe_callB (VS.cr_sortD (by rfl)) (by rfl) B.sorted boot_sorted (pa_cons (pv 1) pa_nil))) (blkOk_by (own := [("_law_own", 4)]) (N := NAL) (sc := defScope (topS 38)) (by decide +kernel))
          (fun _ _ _ _ _ => pg_name (i := 4) sc_all.nd rfl (Or.inl rfl)) (fun _ _ _ _ _ => pts_nil) (fun _ _ _ _ _ => pe_dget (hu_1 hr) (pv 1) (pv 4) (fun _ _ => rfl)))))), ?_⟩
    intro D nD
    obtain ⟨s0, e0⟩ := newo (o := .dT []) nD
    generalize upd H D (.dT []) = H0 at s0 e0 ⊢
    refine ⟨_, rfl, l, rfl, ⟨_, s0.seq hl⟩, for_it (walk_list (K := K) (a := l) (xs := cs.map fun c => V.ref c.1)) (fun i σ G => (∃ y2 y3, σ = [some (.ref l), some (.ref D), y2, y3, none]) ∧ Same H G ∧ ∃ kvs, G D = some (.dT kvs) ∧ ByD kvs (allV (cs.take i)) ∧ kvs.length ≤ (allV (cs.take i)).length) ⟨⟨none, none, rfl⟩, s0, [], e0, ByD.nil, Nat.le_refl _⟩ (fun i σ G _ hP => hP.2.1.seq hl) (fun i x σ G G' hi hP hy => ?_) (fun σ G hP => ?_)⟩
    · obtain ⟨⟨y2, y3, rfl⟩, sG, kvs, eG, bd, lk⟩ := hP
      obtain ⟨rfl, hx⟩ := hy
      rw [List.getElem?_map] at hx
      obtain ⟨c, hc, rfl⟩ := Option.map_eq_some_iff.mp hx
      have cin := List.mem_of_getElem? hc
      have ll := allV_len (cs := cs) (i := i + 1)
      rw [allV_succ hc, List.length_append] at ll
      have hct := same_sqT sG (ct c cin)
      refine ⟨_, rfl, c.1, rfl, ⟨_, hct⟩, for_it (walk_tup (K := K) (a := c.1) (xs := c.2.map fun z => V.ref z.a)) (fun j σ G => (∃ y3, σ = [some (.ref l), some (.ref D), some (.ref c.1), y3, none]) ∧ Same H G ∧ ∃ kvs, G D = some (.dT kvs) ∧ ByD kvs (allV (cs.take i) ++ c.2.take j) ∧ kvs.length ≤ (allV (cs.take i)).length + j) ⟨⟨y3, rfl⟩, sG, kvs, eG, (by rw [List.take_zero, List.append_nil]; exact bd), lk⟩ (fun j σ G _ hP => same_sqT hP.2.1 (ct c cin)) (fun j x σ A1 A2 hj hP hy => ?_) (fun σ A1 hP => ?_)⟩
      · obtain ⟨⟨y3, rfl⟩, sA, kvs, eA, bd, lk⟩ := hP
        obtain ⟨rfl, hx⟩ := hy
        rw [List.getElem?_map] at hx
        obtain ⟨z, hz, rfl⟩ := Option.map_eq_some_iff.mp hx
        have zin := List.mem_of_getElem? hz
        rw [List.length_map] at hj
        obtain ⟨⟨v1, v2, _⟩, _⟩ := vo z (allV_mem.mpr ⟨c, cin, zin⟩)
        refine ⟨_, rfl, _, rfl, _, rfl, z.a, _, 0, V.ref z.d.1, rfl, rfl, same_sqT sA v1, atI_nat (j := 0) rfl, D, _, rfl, DPut.t eA (sA _ _ v2) (by rw [sizeLine_eq]; omega), ⟨_, rfl⟩, same_but nD sA, _, upd_same, ?_, ?_⟩
        · rw [take_snoc hz, ← List.append_assoc]
          exact bd.put
        · have := length_putK kvs z.d.2 (V.ref z.a)
          omega
      · obtain ⟨⟨y3, rfl⟩, sA, kvs, eA, bd, lk⟩ := hP
        rw [List.length_map] at lk
        rw [List.length_map, List.take_of_length_le (Nat.le_refl _), ← allV_succ hc] at bd
        refine ⟨⟨_, _, rfl⟩, sA, kvs, eA, bd, ?_⟩
        rw [allV_succ hc, List.length_append]
        exact lk
    · obtain ⟨⟨y2, y3, rfl⟩, sG, kvs, eG, bd, lk⟩ := hP
      rw [List.length_map, List.take_of_length_le (Nat.le_refl _)] at bd lk
      have d3 : ∀ e ∈ kvs, D3 e.1 := fun e he => by
        obtain ⟨z, hz, y⟩ := bd.2.1 e he
        rw [y]
        exact (vo z hz).2
      refine ⟨_, rfl, D, kvs, rfl, eG, d3, (by omega), fun L p hL pm pw np => ?_⟩
      obtain ⟨s5, e5⟩ := newo (o := .lst (L.map fun q => V.ref q.1)) np
      generalize upd G p (.lst (L.map fun q => V.ref q.1)) = G1 at s5 e5 ⊢
      have lL : L.length = kvs.length := by
        have y := pm.length_eq
        rw [List.length_map, List.length_map] at y
        exact y
      have asc : Asc (L.map fun q => q.2) := asc_of pw (pm.nodup_iff.mpr bd.1)
      have hp1 : SqL K G1 p (L.map fun q => V.ref q.1) := .inl (.inl e5)
      refine ⟨p, rfl, ⟨_, hp1⟩, fun E1 nE => lc_it (walk_list (K := K) (a := p) (xs := L.map fun q => V.ref q.1)) (fun j H' => Same G1 H' ∧ ∃ ls : List Ver, H' E1 = some (.lst (ls.map fun z => V.ref z.a)) ∧ dotsOf ls = (L.take j).map (fun q => q.2) ∧ (∀ z ∈ ls, z ∈ allV cs)) ⟨(newo nE).1, [], (newo nE).2, rfl, (fun _ z => nomatch z)⟩ (fun j H' _ hP => hP.1.seq hp1) (fun j x A1 A2 hj hP hy => ?_) (fun A1 hP => ?_)⟩
      · obtain ⟨rfl, hy⟩ := hy
        obtain ⟨s6, ls, e6, dl, ml⟩ := hP
        rw [List.getElem?_map] at hy
        obtain ⟨u, hu, rfl⟩ := Option.map_eq_some_iff.mp hy
        have uin := List.mem_of_getElem? hu
        rw [List.length_map] at hj
        obtain ⟨z, hz, ez, hv⟩ := bd.get (pm.mem_iff.mp (List.mem_map_of_mem uin))
        have ll : ls.length ≤ j := by
          have y := congrArg List.length dl
          unfold dotsOf at y
          rw [List.length_map, List.length_map, List.length_take] at y
          omega
        refine ⟨rfl, VS.yes_if ⟨_, rfl, _, rfl, D, V.ref z.a, rfl, (by rw [← hv]; exact DGet.t (s6 _ _ (s5 _ _ eG)) (s6 _ _ (s5 _ _ (hL u uin)))), _, e6, (by rw [List.length_map, sizeLine_eq]; omega), same_but nE s6, ls ++ [z], ?_, ?_, ?_⟩⟩
        · rw [upd_same, List.map_append]
          rfl
        · unfold dotsOf at dl ⊢
          rw [take_snoc hu, List.map_append, List.map_append, dl, List.map_cons, List.map_nil, List.map_cons, List.map_nil, ez]
        · intro y hy
          rcases List.mem_append.mp hy with hy | hy
          · exact ml y hy
          · rw [List.mem_singleton.mp hy]
            exact hz
      · obtain ⟨s6, ls, e6, dl, ml⟩ := hP
        rw [List.length_map, List.take_of_length_le (Nat.le_refl _)] at dl
        refine q A1 E1 ls (sG.trans (s5.trans s6)) e6 (by rw [dl]; exact asc) ml (fun z hz => ?_) ?_
        · rw [dl]
          exact pm.mem_iff.mpr (bd.2.2 z hz)
        · have y := congrArg List.length dl
          unfold dotsOf at y
          rw [List.length_map, List.length_map] at y
          omega
end
end K01

set_option Elab.async false
set_option linter.all false
set_option maxRecDepth 100000
set_option maxHeartbeats 4000000
namespace VS
open PySem PySem.Spec PyProof.Rows L2 MS K01
section
variable {X : Cx}
theorem op_notInDL {K : PySem.W.Frag} (hK : X.K = K) (hu : X.A.units + 65 < cLine) : OpR X (compareOp .NotIn) (rNotInD K) := by
  subst hK
  exact op_notInD hu
theorem call_isiK' {K : PySem.W.Frag} (hK : X.K = K) : CallR X (.builtin "isinstance") (rIsi K) := by
  subst hK
  exact call_isi
end
end VS
namespace K01
open PySem PySem.Spec PyProof.Rows L2 MS
/-! ### data that can be laid -/
def Cl (d : PyData) (m : Nat) : Prop := d.canLay0 = true ∧ d.depth ≤ m
theorem lay_all : ∀ {ds : List PyData}, (∀ d ∈ ds, d.canLay0 = true) → PyData.canLayAll0 ds = true
  | [], _ => by rw [PyData.canLayAll0]
  | d :: ds, h => by
    rw [PyData.canLayAll0, h d List.mem_cons_self, lay_all fun e he => h e (List.mem_cons_of_mem _ he)]
    rfl
theorem Cl.tup {ds : List PyData} {m : Nat} (h : ∀ d ∈ ds, Cl d m) : Cl (.tuple ds) (m + 1) := by
  have c := dep_all (n := m) fun d hd => (h d hd).2
  exact ⟨by rw [PyData.canLay0]; exact lay_all fun d hd => (h d hd).1, by rw [PyData.depth]; omega⟩
theorem Cl.lst {ds : List PyData} {m : Nat} (h : ∀ d ∈ ds, Cl d m) : Cl (.list ds) (m + 1) := by
  have c := dep_all (n := m) fun d hd => (h d hd).2
  exact ⟨by rw [PyData.canLay0]; exact lay_all fun d hd => (h d hd).1, by rw [PyData.depth]; omega⟩
theorem Cl.mono {d : PyData} {m n : Nat} (h : Cl d m) (a : m ≤ n) : Cl d n := ⟨h.1, Nat.le_trans h.2 a⟩
theorem Cl.shaped {d : PyData} {m : Nat} (h : Cl d m) (a : m ≤ 64) : SeqAt.shaped d = true := by
  unfold SeqAt.shaped
  rw [h.1, decide_eq_true (Nat.le_trans h.2 a)]
  rfl
theorem Cl.of_shaped {d : PyData} {m : Nat} (h : SeqAt.shaped d = true) (a : d.depth ≤ m) : Cl d m := by
  unfold SeqAt.shaped at h
  rw [Bool.and_eq_true] at h
  exact ⟨h.1, a⟩
theorem Cl.eqv {d : PyData} {m : Nat} (h : Cl d m) : PyData.eqv d d = true := SeqAt.eqv_refl d h.1
theorem LV.cl {K : PySem.W.Frag} {H : Hp} {z : Ver} {wd : PyData} (h : LV K H z wd) : Cl (.tuple (vData z wd)) 3 := by
  have hm := h.mem
  obtain ⟨h1, h2, h3, h4, h5, h6⟩ := h
  obtain ⟨w1, w2, w3, w4, w5, w6⟩ := h6.ok'
  have cd : ∀ {k : DK}, Men3 k → Cl (dD k) 1 := fun {k} m => .of_shaped (dot_shaped (men3_ok m).2.2.2.1) (men3_ok m).2.2.2.2.1
  refine Cl.tup (m := 2) fun d hd => ?_
  have hd : d = dD z.d.2 ∨ d = .tuple ((z.L.map fun q => q.2).map dD) ∨ d = wd := by simpa [vData] using hd
  rcases hd with rfl | rfl | rfl
  · exact (cd h2).mono (by decide)
  · refine Cl.tup (m := 1) fun d hd => ?_
    obtain ⟨k, hk, rfl⟩ := List.mem_map.mp hd
    exact cd (hm k hk)
  · exact (Cl.of_shaped w6 w5).mono (by decide)
theorem dp_all {K : PySem.W.Frag} {H : Hp} {α : Type} {v : α → V} {d : α → PyData} : ∀ {xs : List α}, (∀ x ∈ xs, Dp K H (v x) (d x)) → DpAll K H (xs.map v) (xs.map d)
  | [], _ => .nil
  | x :: xs, h => .cons (h x List.mem_cons_self) (dp_all fun y hy => h y (List.mem_cons_of_mem _ hy))
/-- no more than those it is among -/
theorem nodup_le {α : Type} : ∀ {l m : List α}, l.Nodup → (∀ x ∈ l, x ∈ m) → l.length ≤ m.length
  | [], _, _, _ => Nat.zero_le _
  | a :: r, m, nd, h => by
    obtain ⟨m1, m2, rfl⟩ := List.append_of_mem (h a List.mem_cons_self)
    rw [List.nodup_cons] at nd
    have ih := nodup_le (l := r) (m := m1 ++ m2) nd.2 fun x hx => by
      have y := h x (List.mem_cons_of_mem _ hx)
      rw [List.mem_append, List.mem_cons] at y
      rw [List.mem_append]
      rcases y with y | y | y
      · exact .inl y
      · rw [y] at hx
        exact absurd hx nd.1
      · exact .inr y
    rw [List.length_append] at ih
    rw [List.length_append, List.length_cons, List.length_cons]
    omega
theorem known_len {zs : List Ver} {n : Nat} (h : ∀ z ∈ zs, z.L.length ≤ n) : (knownOf zs).length ≤ n * zs.length := by
  induction zs with
  | nil => exact Nat.zero_le _
  | cons z r ih =>
    have a := h z List.mem_cons_self
    have b := ih fun y hy => h y (List.mem_cons_of_mem _ hy)
    have e : knownOf (z :: r) = (z.L.map fun q => q.2) ++ knownOf r := rfl
    rw [e, List.length_append, List.length_map, List.length_cons, Nat.mul_succ]
    omega
/-- a cell of drawn versions, with its worths -/
def LCell (K : PySem.W.Frag) (H : Hp) (a : Addr) (zs : List Ver) (wdf : Ver → PyData) : Prop := SqT K H a (zs.map fun z => V.ref z.a) ∧ (∀ z ∈ zs, LV K H z (wdf z)) ∧ cellB zs (knownOf zs) ∧ zs.length ≤ 8
theorem LCell.same {K : PySem.W.Frag} {H H' : Hp} {a : Addr} {zs : List Ver} {wdf : Ver → PyData} (s : Same H H') (h : LCell K H a zs wdf) : LCell K H' a zs wdf := ⟨same_sqT s h.1, fun z hz => (h.2.1 z hz).same s, h.2.2⟩
theorem LCell.ext {K : PySem.W.Frag} {H H' : Hp} {a : Addr} {zs : List Ver} {wdf : Ver → PyData} {p : Addr} {o : HO} (e : Ext p H H') (hp : H p = some o) (n : NT o) (h : LCell K H a zs wdf) : LCell K H' a zs wdf := ⟨e.tupN hp n h.1, fun z hz => (h.2.1 z hz).ext e hp n, h.2.2⟩
theorem LCell.cell {K : PySem.W.Frag} {H : Hp} {a : Addr} {zs : List Ver} {wdf : Ver → PyData} (h : LCell K H a zs wdf) : CellAt K H a zs := ⟨h.1, fun z hz => (h.2.1 z hz).good, by have := h.2.2.2; omega, h.2.2.1⟩
theorem LCell.few {K : PySem.W.Frag} {H : Hp} {a : Addr} {zs : List Ver} {wdf : Ver → PyData} (h : LCell K H a zs wdf) : zs.length + (knownOf zs).length < 63 := by
  have a := known_len (n := 4) fun z hz => (h.2.1 z hz).2.2.2.2.1
  have b := h.2.2.2
  omega
theorem LCell.d3 {K : PySem.W.Frag} {H : Hp} {a : Addr} {zs : List Ver} {wdf : Ver → PyData} (h : LCell K H a zs wdf) : ∀ k ∈ knownOf zs, D3 k := lv_d3 fun z hz => ⟨_, h.2.1 z hz⟩
theorem LCell.men {K : PySem.W.Frag} {H : Hp} {a : Addr} {zs : List Ver} {wdf : Ver → PyData} (h : LCell K H a zs wdf) : ∀ k, k ∈ dotsOf zs ∨ k ∈ knownOf zs → Men3 k := fun k hk => by
  rcases hk with hk | hk
  · obtain ⟨z, hz, rfl⟩ := List.mem_map.mp hk
    exact (h.2.1 z hz).2.1
  · obtain ⟨z, hz, y⟩ := knownOf_mem.mp hk
    exact (h.2.1 z hz).mem k y
def cellD (wdf : Ver → PyData) (zs : List Ver) : PyData := .tuple (zs.map fun z => .tuple (vData z (wdf z)))
theorem cell_dp {K : PySem.W.Frag} {H : Hp} {a : Addr} {zs : List Ver} {wdf : Ver → PyData} (h : SqT K H a (zs.map fun z => V.ref z.a)) (l : ∀ z ∈ zs, LV K H z (wdf z)) : Dp K H (.ref a) (cellD wdf zs) := .tup h (dp_all fun z hz => (l z hz).dp)
theorem cell_cl {K : PySem.W.Frag} {H : Hp} {zs : List Ver} {wdf : Ver → PyData} (l : ∀ z ∈ zs, LV K H z (wdf z)) : Cl (cellD wdf zs) 4 := Cl.tup (m := 3) fun d hd => by
  obtain ⟨z, hz, rfl⟩ := List.mem_map.mp hd
  exact (l z hz).cl
theorem cell_sh {K : PySem.W.Frag} {H : Hp} {zs : List Ver} {wdf : Ver → PyData} (l : ∀ z ∈ zs, LV K H z (wdf z)) (n : zs.length ≤ 8) : Sh (cellD wdf zs) 2500 4 := by
  refine (Sh.tup (n := 300) (m := 3) fun d hd => ?_).mono ?_ (Nat.le_refl _)
  · obtain ⟨z, hz, rfl⟩ := List.mem_map.mp hd
    exact (l z hz).sh
  · rw [List.length_map]
    omega
/-- whether a worth is a tuple -/
theorem WD.ty {K : PySem.W.Frag} {H : Hp} {v : V} {wd : PyData} (h : WD K H v wd) : ∃ t, TyX K H v t ∧ PySem.W.kitOne K t (.type "tuple") = some (tmD wd).isSome := by
  rcases h with ⟨n, _, rfl, rfl⟩ | ⟨a, t, ht, rfl, h3, rfl⟩
  · exact ⟨.type "int", .base (.int n), kit_ty (show kitB "int" "tuple" = some false by decide +kernel)⟩
  · exact ⟨.type "tuple", tyx_tup h3, kit_ty (show kitB "tuple" "tuple" = some true by decide +kernel)⟩
end K01

set_option Elab.async false
set_option linter.all false
set_option maxRecDepth 100000
set_option maxHeartbeats 4000000
namespace K01
open PySem PySem.Spec PyProof.Rows L2 MS
section
variable {P : Program} {w : World} {K : PySem.W.Frag} {mg : PySem.Str → Option Value} {base : Heap} {f : Addr} {fd : FuncData} {k : Nat}
def rowsOf (zs : List Ver) : List MS.Row := (zs.map fun z => z.L).flatten
theorem rowsOf_succ {zs : List Ver} {i : Nat} {z : Ver} (h : zs[i]? = some z) : rowsOf (zs.take (i + 1)) = rowsOf (zs.take i) ++ z.L := by
  unfold rowsOf
  rw [take_snoc h, List.map_append, List.flatten_append]
  simp
theorem rowsOf_keys (zs : List Ver) : (rowsOf zs).map (fun q => q.2) = knownOf zs := by
  unfold rowsOf knownOf
  rw [List.map_flatten, List.map_map]
  rfl
theorem rowsOf_mem {zs : List Ver} {q : MS.Row} (h : q ∈ rowsOf zs) : ∃ z ∈ zs, q ∈ z.L := by
  unfold rowsOf at h
  obtain ⟨l, hl, hq⟩ := List.mem_flatten.mp h
  obtain ⟨z, hz, rfl⟩ := List.mem_map.mp hl
  exact ⟨z, hz, hq⟩
theorem rowsOf_len {zs : List Ver} {n : Nat} (h : ∀ z ∈ zs, z.L.length ≤ n) : (rowsOf zs).length ≤ n * zs.length := by
  have a := known_len h
  rw [← rowsOf_keys, List.length_map] at a
  exact a
def spTr (K : PySem.W.Frag) : Sp := fun vs H Q _ => ∃ (p a : Addr) (zs : List Ver) (wdf : Ver → PyData), vs = [.ref p, .ref a] ∧ Pool H p ∧ LCell K H a zs wdf ∧ ∀ H', Ext p H H' → Pool H' p → Q (.bl true) H'
abbrev NTR : List PySem.Str := ["_law_pool", "_law_cell", "_law_dots", "_law_one", "_law_known_here", "_law_time", "_law_due", "_law_asked", "_law_turn", "_law_left", "_law_own"]
theorem sc_tr : FnScope NTR ["_law_pool", "_law_cell"] (defScope (topS 39)) := ⟨rfl, rfl, rfl, by decide +kernel, rfl, by decide +kernel, by decide +kernel⟩
theorem ok_tr (B : Bt mg) (cD : Ca P w K mg base 1 "_law_draw" ["_law_pool", "_law_size"] spDraw) (cL : Ca P w K mg base 2 "_law_dot" ["_law_pool"] spLd3) (cDo : Ca P w K mg base 7 "dots_of" ["cell"] (spDots K)) (cKb : Ca P w K mg base 8 "known_by" ["cell"] (spKb K)) (cWo : Ca P w K mg base 7 "worths_of" ["cell"] (spWo K)) (cWe : Ca P w K mg base 7 "without_elder" ["cell", "time"] (spWe K)) (cHm : Ca P w K mg base 9 "has_or_more" ["cell", "dots"] (spHm K))
    (F : Fun K "_law_told_right" "_law_told_right" (topS 39) f fd) : FnOk P w K mg base CX0 10 f fd ["_law_pool", "_law_cell"] (spTr K) := by
  classical
  refine F.ok sc_tr (fun vs H Q E h => ?_) (fun cdv A outer s H vs Q E hr h => ?_)
  · obtain ⟨p, a, zs, wdf, rfl, _⟩ := h; rfl
  · obtain ⟨p, a, zs, wdf, rfl, hp, hc, q⟩ := h
    refine ⟨_, pss_cons (ps_setLc (i := 2) (own := [("_law_one", 3)]) (g := gName 3) (tt := tYes) (by rfl) sc_tr.nd rfl rfl (sw_true rfl rfl rfl (by decide +kernel)) (pi_tup (pv 1)) (blkOk_by (own := [("_law_one", 3)]) (N := NTR) (sc := defScope (topS 39)) (by decide +kernel))
          (fun _ _ _ _ _ => pg_name (i := 3) sc_tr.nd rfl (Or.inl rfl)) (fun _ _ _ _ _ => pts_nil) (fun _ _ _ _ _ => pe_ix (ix_tupK (K := K) rfl) (pv 3) pe_int (fun _ _ => rfl)))
      (pss_cons (ps_set (i := 4) sc_tr.nd rfl (.inr rfl) (pe_callTy call_list_of (by rfl) B.list boot_list (pa_cons (pv 2) pa_nil)))
      (pss_cons (ps_for PassesOwn.never rfl (pi_tup (pv 1)) (pg_name (i := 3) sc_tr.nd rfl (.inl rfl)) (pss_one (ps_set (i := 4) sc_tr.nd rfl (.inr rfl) (pe_op op_cat (pv 4) (pe_callTy call_list_of (by rfl) B.list boot_list (pa_cons (pe_ix (ix_tupK (K := K) rfl) (pv 3) pe_int (fun _ _ => rfl)) pa_nil))))))
      (pss_cons (ps_if (PW.pt (pw_or (pt_cmpR (VS.op_neDK (K := K) rfl (hu_64 hr)) (pe_ca cDo (hr.mono (by decide)) (by rfl) pass0 (pa_cons (pv 1) pa_nil)) (pe_callTy call_tuple_of (by rfl) B.tuple boot_tuple (pa_cons (pv 2) pa_nil)) (nomark _))
          (pw_or1 (pt_cmpR (VS.op_neDK (K := K) rfl (hu_64 hr)) (pe_ca cKb (hr.mono (by decide)) (by rfl) pass0 (pa_cons (pv 1) pa_nil)) (pe_callTy call_tuple_of (by rfl) B.tuple boot_tuple (pa_cons (pe_callB (cr_sortMK (K := K) (P := P) (w := w) rfl rfl rfl (by rfl)) (by rfl) B.sorted boot_sorted (pa_cons (pe_callTy (cr_setMK (K := K) (P := P) (w := w) rfl rfl rfl (by rfl) (hu_64 hr)) (by rfl) B.set boot_set (pa_cons (pv 4) pa_nil)) pa_nil)) pa_nil)) (nomark _))))) (pss_one (ps_ret pe_bl)) pss_nil)
      (pss_cons (ps_if (pt_cmpR (VS.op_neDK (K := K) rfl (hu_64 hr)) (pe_ca cWo (hr.mono (by decide)) (by rfl) pass0 (pa_cons (pv 1) pa_nil)) (pe_lc (own := [("_law_one", 3)]) (g := gName 3) (by rfl) sc_tr.nd (pi_tup (pv 1)) (blkOk_by (own := [("_law_one", 3)]) (N := NTR) (sc := defScope (topS 39)) (by decide +kernel))
          (fun _ _ _ _ _ => pg_name (i := 3) sc_tr.nd rfl (Or.inl rfl)) (fun _ _ _ _ _ => pts_one (pt_not (pt_val (pe_callB (VS.call_isiK' (K := K) rfl) (by rfl) B.isi boot_isinstance (pa_cons (pe_ix (ix_tupK (K := K) rfl) (pv 3) pe_int (fun _ _ => rfl)) (pa_cons (pe_bltn (v := .ty "tuple") (by rfl) B.tuple (by decide +kernel) rfl) pa_nil)))))) (fun _ _ _ _ _ => pe_ix (ix_tupK (K := K) rfl) (pv 3) pe_int (fun _ _ => rfl))) (nomark _)) (pss_one (ps_ret pe_bl)) pss_nil)
      (pss_cons (ps_set (i := 5) sc_tr.nd rfl (.inr rfl) (pe_ca cD (hr.mono (by decide)) (by rfl) pass0 (pa_cons (pv 0) (pa_cons pe_int pa_nil))))
      (pss_cons (ps_setLc (i := 6) (own := [("_law_one", 3)]) (g := gName 3) (te := tVar 3) (by rfl) sc_tr.nd rfl rfl (sw_true rfl rfl rfl (by decide +kernel)) (pi_tup (pv 1)) (blkOk_by (own := [("_law_one", 3)]) (N := NTR) (sc := defScope (topS 39)) (by decide +kernel))
          (fun _ _ _ _ _ => pg_name (i := 3) sc_tr.nd rfl (Or.inl rfl)) (fun _ _ _ _ _ => pts_one (PW.pt (pw_or (pt_not (pt_val (pe_callB (VS.call_isiK' (K := K) rfl) (by rfl) B.isi boot_isinstance (pa_cons (pe_ix (ix_tupK (K := K) rfl) (pv 3) pe_int (fun _ _ => rfl)) (pa_cons (pe_bltn (v := .ty "tuple") (by rfl) B.tuple (by decide +kernel) rfl) pa_nil)))))
            (pw_or1 (pt_cmpR op_gt (pe_ix (ix_tupK (K := K) rfl) (pe_ix (ix_tupK (K := K) rfl) (pv 3) pe_int (fun _ _ => rfl)) pe_int (fun _ _ => rfl)) (pv 5) (nomark _)))))) (fun _ _ _ _ _ => pv 3))
      (pss_cons (ps_if (pt_cmpR (VS.op_neDK (K := K) rfl (hu_64 hr)) (pe_ca cWe (hr.mono (by decide)) (by rfl) pass0 (pa_cons (pv 1) (pa_cons (pv 5) pa_nil))) (pe_callTy call_tuple_of (by rfl) B.tuple boot_tuple (pa_cons (pv 6) pa_nil)) (nomark _)) (pss_one (ps_ret pe_bl)) pss_nil)
      (pss_cons (ps_setLc (i := 7) (own := [("_law_turn", 8)]) (g := gName 8) (tt := tYes) (by rfl) sc_tr.nd rfl rfl (sw_true rfl rfl rfl (by decide +kernel)) (pi_range1 (by rfl) B.range (pa_cons (pe_ca cD (hr.mono (by decide)) (by rfl) pass0 (pa_cons (pv 0) (pa_cons pe_int pa_nil))) pa_nil)) (blkOk_by (own := [("_law_turn", 8)]) (N := NTR) (sc := defScope (topS 39)) (by decide +kernel))
          (fun _ _ _ _ _ => pg_name (i := 8) sc_tr.nd rfl (Or.inl rfl)) (fun _ _ _ _ _ => pts_nil) (fun _ _ _ _ _ => pe_ca cL (hr.mono (by decide)) (by rfl) pass0 (pa_cons (pv 0) pa_nil)))
      (pss_cons (ps_setLc (i := 9) (own := [("_law_own", 10)]) (g := gName 10) (te := tVar 10) (by rfl) sc_tr.nd rfl rfl (sw_true rfl rfl rfl (by decide +kernel)) (pi_list (pv 7)) (blkOk_by (own := [("_law_own", 10)]) (N := NTR) (sc := defScope (topS 39)) (by decide +kernel))
          (fun _ _ _ _ _ => pg_name (i := 10) sc_tr.nd rfl (Or.inl rfl)) (fun _ _ _ _ _ => pts_one (pt_cmpR (VS.op_notInDL (K := K) rfl (hu_65 hr)) (pv 10) (pv 4) (by rfl))) (fun _ _ _ _ _ => pv 10))
      (pss_one (ps_ret (pe_cmpR op_eq (pe_ca cHm hr (by rfl) pass0 (pa_cons (pv 1) (pa_cons (pv 7) pa_nil))) (pe_cmpR (VS.op_eqNil (K := K) rfl (hu_lt hr)) (pv 9) (pe_lst pa_nil) (nomark _)) (nomark _))))))))))))), ?_⟩
    obtain ⟨yh, hyh⟩ := hp.is
    -- dots
    refine ⟨_, rfl, a, rfl, ⟨_, hc.1⟩, fun D nD => lc_it (walk_tup (K := K) (a := a) (xs := zs.map fun z : Ver => V.ref z.a)) (fun i H' => Same H H' ∧ H' D = some (.lst ((zs.take i).map fun z => V.ref z.d.1))) ⟨(newo nD).1, (newo nD).2⟩ (fun i H' _ hP => same_sqT hP.1 hc.1) (fun i y A1 A2 hi hP hy => ?_) (fun G1 hP => ?_)⟩
    · obtain ⟨rfl, hy⟩ := hy
      obtain ⟨s2, hl⟩ := hP
      rw [List.getElem?_map] at hy
      obtain ⟨z, hzi, rfl⟩ := Option.map_eq_some_iff.mp hy
      obtain ⟨⟨v1, _⟩, _⟩ := ((hc.2.1 z (List.mem_of_getElem? hzi)).same s2)
      rw [List.length_map] at hi
      have := hc.2.2.2
      refine ⟨rfl, VS.yes_if ⟨_, rfl, z.a, _, 0, V.ref z.d.1, rfl, rfl, v1, atI_nat (j := 0) rfl, _, hl, (by rw [List.length_map, List.length_take, sizeLine_eq]; omega), same_but nD s2, ?_⟩⟩
      rw [upd_same, take_snoc hzi, List.map_append]
      rfl
    obtain ⟨s1, eD⟩ := hP
    rw [List.length_map, List.take_of_length_le (Nat.le_refl _)] at eD
    have eR : (zs.map fun z => V.ref z.d.1) = (zs.map fun z => z.d).map fun q : MS.Row => V.ref q.1 := by rw [List.map_map]; rfl
    -- known_here
    refine ⟨_, rfl, D, _, rfl, .inl (.inl (.inl eD)), fun d0 nd0 => ?_⟩
    obtain ⟨s2, e2⟩ := newo (o := .lst (zs.map fun z => V.ref z.d.1)) nd0
    generalize upd G1 d0 (.lst (zs.map fun z => V.ref z.d.1)) = G2 at s2 e2 ⊢
    have s12 : Same H G2 := s1.trans s2
    have rl : ∀ i, (rowsOf (zs.take i)).length ≤ 32 := fun i => by
      have x := rowsOf_len (zs := zs.take i) (n := 4) fun z hz => (hc.2.1 z (List.mem_of_mem_take hz)).2.2.2.2.1
      have y := hc.2.2.2
      rw [List.length_take] at x
      omega
    refine ⟨_, rfl, a, rfl, ⟨_, same_sqT s12 hc.1⟩, for_it (walk_tup (K := K) (a := a) (xs := zs.map fun z : Ver => V.ref z.a)) (fun i σ G => (∃ y3 dd, σ = [some (.ref p), some (.ref a), some (.ref D), y3, some (.ref dd), none, none, none, none, none, none] ∧ G dd = some (.lst (((zs.map fun z => z.d) ++ rowsOf (zs.take i)).map fun q : MS.Row => V.ref q.1))) ∧ Same G2 G) ⟨⟨none, d0, rfl, by rw [e2, eR]; rw [List.take_zero]; exact congrArg some (congrArg HO.lst (by rw [show rowsOf ([] : List Ver) = [] from rfl, List.append_nil]))⟩, Same.refl _⟩ (fun i σ G _ hP => same_sqT (s12.trans hP.2) hc.1) (fun i x σ G G' hi hP hy => ?_) (fun σ G hP => ?_)⟩
    · obtain ⟨⟨y3, dd, rfl, eG⟩, sG⟩ := hP
      obtain ⟨rfl, hx⟩ := hy
      rw [List.getElem?_map] at hx
      obtain ⟨z, hz, rfl⟩ := Option.map_eq_some_iff.mp hx
      obtain ⟨⟨v1, _, v3, _⟩, _, _, _, v5, _⟩ := ((hc.2.1 z (List.mem_of_getElem? hz)).same (s12.trans sG))
      refine ⟨_, rfl, _, rfl, z.a, _, 1, V.ref z.kn, rfl, rfl, v1, atI_nat (j := 1) rfl, z.kn, _, rfl, .inr v3, fun l nl => ?_⟩
      obtain ⟨s3, e3⟩ := newo (o := .lst (z.L.map fun q => V.ref q.1)) nl
      generalize upd G' l (.lst (z.L.map fun q => V.ref q.1)) = G3 at s3 e3 ⊢
      have l1 := rl i
      have l2 := hc.2.2.2
      refine ⟨dd, l, _, _, rfl, rfl, s3 _ _ eG, e3, (by rw [List.length_map, List.length_map, List.length_append, List.length_map, sizeLine_eq]; omega), fun c nc => ?_⟩
      obtain ⟨s4, e4⟩ := newo (o := .lst ((((zs.map fun z => z.d) ++ rowsOf (zs.take i)).map fun q : MS.Row => V.ref q.1) ++ z.L.map fun q => V.ref q.1)) nc
      refine ⟨⟨_, c, rfl, ?_⟩, sG.trans (s3.trans s4)⟩
      rw [e4, rowsOf_succ hz, ← List.append_assoc, List.map_append (l₁ := (zs.map fun z => z.d) ++ rowsOf (zs.take i))]
    obtain ⟨⟨y3, dd, rfl, eK⟩, sG2⟩ := hP
    rw [List.length_map, List.take_of_length_le (Nat.le_refl _)] at eK
    have sHG : Same H G := s12.trans sG2
    have eDG : G D = some (.lst (zs.map fun z => V.ref z.d.1)) := sG2 _ _ (s2 _ _ eD)
    have hG := hc.same sHG
    have pG := hp.same sHG
    obtain ⟨R, hR⟩ : ∃ R : List MS.Row, R = (zs.map fun z => z.d) ++ rowsOf zs := ⟨_, rfl⟩
    rw [← hR] at eK
    have kR : R.map (fun q => q.2) = dotsOf zs ++ knownOf zs := by
      rw [hR, List.map_append, rowsOf_keys, List.map_map]
      rfl
    have dR : DotsH G R := fun u hu => by
      rw [hR] at hu
      rcases List.mem_append.mp hu with hu | hu
      · obtain ⟨z, hz, rfl⟩ := List.mem_map.mp hu
        exact (hG.2.1 z hz).1.2.1
      · obtain ⟨z, hz, y⟩ := rowsOf_mem hu
        exact (hG.2.1 z hz).1.2.2.2 u y
    have mR : ∀ u ∈ R, Men3 u.2 := fun u hu => hc.men _ (by
      have y : u.2 ∈ R.map (fun q => q.2) := List.mem_map_of_mem hu
      rw [kR, List.mem_append] at y
      exact y)
    have lR : R.length < 63 := by
      have y := congrArg List.length kR
      rw [List.length_map, List.length_append] at y
      unfold dotsOf at y
      rw [List.length_map] at y
      have := hc.few
      omega
    clear eD e2 eR s1 s2 s12 sG2 rl hR
    -- the first two looks
    refine ⟨_, rfl, a, zs, rfl, hG.cell, fun G3 r3 s3 _ e3 => ?_⟩
    refine ⟨_, rfl, D, _, rfl, .inl ⟨.inl (.inl (s3 _ _ eDG)), fun r4 n4 => ?_⟩⟩
    obtain ⟨s4, e4⟩ := newo (o := .tup (zs.map fun z => V.ref z.d.1)) n4
    generalize upd G3 r4 (.tup (zs.map fun z => V.ref z.d.1)) = G4 at s4 e4 ⊢
    have dotsD : ∀ {X : Hp} {r : Addr}, Same G X → X r = some (.tup (zs.map fun z => V.ref z.d.1)) → Dp K X (.ref r) (.tuple ((dotsOf zs).map dD)) := fun {X r} sX e => by
      have y := dp_dots (K := K) (H := X) (L := zs.map fun z => z.d) fun u hu => by
        obtain ⟨z, hz, rfl⟩ := List.mem_map.mp hu
        exact .inl (.inl (sX _ _ (hG.2.1 z hz).1.2.1))
      have y1 : ((zs.map fun z => z.d).map fun q : MS.Row => V.ref q.1) = zs.map fun z => V.ref z.d.1 := by rw [List.map_map]; rfl
      have y2 : ((zs.map fun z => z.d).map fun q : MS.Row => q.2) = dotsOf zs := by rw [List.map_map]; rfl
      rw [y1, y2] at y
      exact .tup (.inl (.inl e)) y
    have clK : ∀ {ks : List DK}, (∀ k ∈ ks, k ∈ dotsOf zs ∨ k ∈ knownOf zs) → Cl (.tuple (ks.map dD)) 2 := fun {ks} h => Cl.tup (m := 1) fun d hd => by
      obtain ⟨k, hk, rfl⟩ := List.mem_map.mp hd
      have m := men3_ok (hc.men k (h k hk))
      exact .of_shaped (dot_shaped m.2.2.2.1) m.2.2.2.2.1
    have cl1 := clK (ks := dotsOf zs) fun k hk => .inl hk
    refine ⟨_, _, dotsD (s3.trans s4) (s4 _ _ e3), dotsD (s3.trans s4) e4, cl1.shaped (by decide), cl1.shaped (by decide), _, rfl, ?_⟩
    rw [cl1.eqv]
    refine iteF ?_
    have sG4 : Same G G4 := s3.trans s4
    have hG4 := hG.same sG4
    refine ⟨_, rfl, a, zs, rfl, hG4.cell, hc.d3, hc.few, fun G5 r5 ms s5 t5 a5 m5 => ?_⟩
    have eK5 := s5 _ _ (sG4 _ _ eK)
    have dR5 : DotsH G5 R := dR.same (sG4.trans s5)
    refine ⟨_, rfl, dd, R, rfl, .inl (.inl (.inl eK5)), dR5.dots, (by omega), fun S M nS of => ?_⟩
    obtain ⟨s6, e6⟩ := newo (o := MSO P w S M) nS
    generalize upd G5 S (MSO P w S M) = G6 at s6 e6 ⊢
    have dM : DotsH G6 M := fun q hq => s6 _ _ (dR5 q (of.sub q hq))
    refine ⟨S, M, rfl, e6, dM.dots, (fun q hq => (mR q (of.sub q hq)).d3), fun M' z pm nd lM pw nz => ?_⟩
    obtain ⟨s7, e7⟩ := newo (o := .lst (M'.map fun q => V.ref q.1)) nz
    generalize upd G6 z (.lst (M'.map fun q => V.ref q.1)) = G7 at s7 e7 ⊢
    refine ⟨z, _, rfl, .inl ⟨.inl (.inl e7), fun t nt => ?_⟩⟩
    obtain ⟨s8, e8⟩ := newo (o := .tup (M'.map fun q => V.ref q.1)) nt
    generalize upd G7 t (.tup (M'.map fun q => V.ref q.1)) = G8 at s8 e8 ⊢
    have eMs : M'.map (fun q => q.2) = ms := by
      refine canon (asc_of pw nd) a5 fun k => ?_
      rw [m5 k, ← List.mem_append, ← kR]
      constructor
      · intro hk
        obtain ⟨u, hu, rfl⟩ := List.mem_map.mp hk
        exact List.mem_map_of_mem (of.sub u (pm.mem_iff.mp hu))
      · intro hk
        obtain ⟨u, hu, rfl⟩ := List.mem_map.mp hk
        obtain ⟨y, hy, e⟩ := List.mem_map.mp (of.all u hu)
        rw [← e]
        exact List.mem_map_of_mem (pm.mem_iff.mpr hy)
    have cl2 := clK (ks := ms) fun k hk => (m5 k).mp hk
    have tM : TupOf K G8 t ms := ⟨M', .inl (.inl e8), (fun q hq => .inl (.inl ((s7.trans s8) _ _ (dM q (pm.mem_iff.mp hq))))), eMs⟩
    refine ⟨_, _, (t5.same (s6.trans (s7.trans s8))).dp, tM.dp, cl2.shaped (by decide), cl2.shaped (by decide), _, rfl, ?_⟩
    rw [cl2.eqv]
    refine iteF ?_
    have sG8 : Same G G8 := sG4.trans (s5.trans (s6.trans (s7.trans s8)))
    clear tM cl2 eMs e8 s8 e7 s7 dM e6 s6 dR5 eK5 m5 a5 t5 s5 hG4 sG4 cl1 e4 s4 e3 s3 pm nd pw of
    -- worths
    have h8 := hG.same sG8
    have e8K := sG8 _ _ eK
    have d8 : DotsH G8 R := dR.same sG8
    have p8 := pG.same sG8
    refine ⟨_, rfl, a, zs, (fun z => tmD (wdf z)), rfl, h8.cell, (fun z hz => (h8.2.1 z hz).2.2.2.2.2.wth), fun G9 r9 s9 _ e9 => ?_⟩
    have h9 := h8.same s9
    refine ⟨_, rfl, a, rfl, ⟨_, h9.1⟩, fun E1 nE => lc_it (walk_tup (K := K) (a := a) (xs := zs.map fun z : Ver => V.ref z.a)) (fun i H' => Same G9 H' ∧ H' E1 = some (.lst (((zs.take i).filter fun z => !(tmD (wdf z)).isSome).map fun z => z.wv))) ⟨(newo nE).1, (newo nE).2⟩ (fun i H' _ hP => same_sqT hP.1 h9.1) (fun i y A1 A2 hi hP hy => ?_) (fun G10 hP => ?_)⟩
    · obtain ⟨rfl, hy⟩ := hy
      obtain ⟨s2, hl⟩ := hP
      rw [List.getElem?_map] at hy
      obtain ⟨z, hzi, rfl⟩ := Option.map_eq_some_iff.mp hy
      have lv := ((h9.2.1 z (List.mem_of_getElem? hzi)).same s2)
      obtain ⟨⟨v1, _⟩, _, _, _, _, v6⟩ := lv
      rw [List.length_map] at hi
      have l8 := hc.2.2.2
      obtain ⟨ty, t1, t2⟩ := v6.ty
      refine ⟨rfl, _, rfl, z.a, _, 2, z.wv, rfl, rfl, v1, atI_nat (j := 2) rfl, z.wv, .ty "tuple", ty, _, _, rfl, .ty "tuple", t1, t2, _, rfl, ?_⟩
      cases he : (tmD (wdf z)).isSome with
      | true =>
        refine iteF ⟨s2, ?_⟩
        rw [hl, take_snoc hzi, List.filter_append, List.filter_cons, he, if_neg (by decide), List.filter_nil, List.append_nil]
      | false =>
        refine iteT ⟨_, rfl, z.a, _, 2, z.wv, rfl, rfl, v1, atI_nat (j := 2) rfl, _, hl, ?_, same_but nE s2, ?_⟩
        · rw [List.length_map, sizeLine_eq]
          have := List.length_filter_le (fun z => !(tmD (wdf z)).isSome) (zs.take i)
          rw [List.length_take] at this
          omega
        · rw [upd_same, take_snoc hzi, List.filter_append, List.filter_cons, he, if_pos (by decide), List.filter_nil, List.map_append]
          rfl
    obtain ⟨s10, e10⟩ := hP
    rw [List.length_map, List.take_of_length_le (Nat.le_refl _)] at e10
    have h10 := h9.same s10
    have wD : ∀ {r : Addr}, G10 r = some (.lst ((zs.filter fun z => !(tmD (wdf z)).isSome).map fun z => z.wv)) → Dp K G10 (.ref r) (.list ((zs.filter fun z => !(tmD (wdf z)).isSome).map wdf)) := fun {r} e => .lst (.inl (.inl e)) (dp_all fun z hz => (h10.2.1 z (List.mem_filter.mp hz).1).2.2.2.2.2.dp)
    have clW : Cl (.list ((zs.filter fun z => !(tmD (wdf z)).isSome).map wdf)) 2 := Cl.lst (m := 1) fun d hd => by
      obtain ⟨z, hz, rfl⟩ := List.mem_map.mp hd
      obtain ⟨_, _, _, _, w5, w6⟩ := (h10.2.1 z (List.mem_filter.mp hz).1).2.2.2.2.2.ok'
      exact .of_shaped w6 w5
    refine ⟨_, _, wD (s10 _ _ e9), wD e10, clW.shaped (by decide), clW.shaped (by decide), _, rfl, ?_⟩
    rw [clW.eqv]
    refine iteF ?_
    have s810 : Same G8 G10 := s9.trans s10
    have p10 := p8.same s810
    have e10K := s810 _ _ e8K
    have d10 : DotsH G10 R := d8.same s810
    clear wD clW e10 s10 e9 s9 h9
    -- the time
    refine ⟨_, rfl, p, 10, rfl, p10, (by decide), (by decide), fun G11 tm x11 p11 _ _ _ => ?_⟩
    obtain ⟨y10, hy10⟩ := p10.is
    have h11 := h10.ext x11 hy10 trivial
    have d11 : DotsH G11 R := x11.dotsH hy10 trivial d10
    have ndp : dd ≠ p := fun z => by
      obtain ⟨u, v, hu, _⟩ := p10
      rw [z, hu] at e10K
      have e : [V.int u, V.int v] = R.map fun q : MS.Row => V.ref q.1 := by injection (Option.some.inj e10K)
      cases R with
      | nil => cases e
      | cons t r => exact nomatch (List.cons.inj e).1
    have e11K := x11 _ _ ndp e10K
    refine ⟨_, rfl, a, rfl, ⟨_, h11.1⟩, fun E2 nE2 => lc_it (walk_tup (K := K) (a := a) (xs := zs.map fun z : Ver => V.ref z.a)) (fun i H' => Same G11 H' ∧ H' E2 = some (.lst (((zs.take i).filter fun z => !eld (tmD (wdf z)) tm).map fun z => V.ref z.a))) ⟨(newo nE2).1, (newo nE2).2⟩ (fun i H' _ hP => same_sqT hP.1 h11.1) (fun i y A1 A2 hi hP hy => ?_) (fun G12 hP => ?_)⟩
    · obtain ⟨rfl, hy⟩ := hy
      obtain ⟨s2, hl⟩ := hP
      rw [List.getElem?_map] at hy
      obtain ⟨z, hzi, rfl⟩ := Option.map_eq_some_iff.mp hy
      have lv := ((h11.2.1 z (List.mem_of_getElem? hzi)).same s2)
      obtain ⟨⟨v1, _⟩, _, _, _, _, v6⟩ := lv
      rw [List.length_map] at hi
      have l8 := hc.2.2.2
      obtain ⟨ty, t1, t2⟩ := v6.ty
      refine ⟨rfl, _, rfl, z.a, _, 2, z.wv, rfl, rfl, v1, atI_nat (j := 2) rfl, z.wv, .ty "tuple", ty, _, _, rfl, .ty "tuple", t1, t2, _, rfl, ?_⟩
      have yes : eld (tmD (wdf z)) tm = false → (∃ acc, A2 E2 = some (.lst acc) ∧ acc.length < sizeLine ∧ Same G11 (upd A2 E2 (.lst (acc ++ [V.ref z.a]))) ∧ (upd A2 E2 (.lst (acc ++ [V.ref z.a]))) E2 = some (.lst (((zs.take (i + 1)).filter fun z => !eld (tmD (wdf z)) tm).map fun z => V.ref z.a))) := fun he => by
        refine ⟨_, hl, ?_, same_but nE2 s2, ?_⟩
        · rw [List.length_map, sizeLine_eq]
          have := List.length_filter_le (fun z => !eld (tmD (wdf z)) tm) (zs.take i)
          rw [List.length_take] at this
          omega
        · rw [upd_same, take_snoc hzi, List.filter_append, List.filter_cons, he, if_pos (by decide), List.filter_nil, List.map_append]
          rfl
      have wt := v6.wth
      rcases wt with ⟨h0, _⟩ | ⟨ta, tt, h0, _, hv, hta⟩
      · rw [h0] at yes ⊢
        exact iteT (iteT ⟨_, rfl, yes rfl⟩)
      · rw [h0]
        refine iteF ⟨_, rfl, z.a, _, 2, z.wv, rfl, rfl, v1, atI_nat (j := 2) rfl, ta, _, 1, V.int tt, hv, rfl, hta, atI_nat (j := 1) rfl, _, rfl, tt, tm, rfl, rfl, _, rfl, ?_⟩
        by_cases ht : tm < tt
        · rw [decide_eq_true ht]
          refine iteT ⟨_, rfl, yes ?_⟩
          rw [h0]
          show decide (tt ≤ tm) = false
          exact decide_eq_false (by omega)
        · rw [decide_eq_false ht]
          refine iteF ⟨s2, ?_⟩
          have he : eld (tmD (wdf z)) tm = true := by
            rw [h0]
            show decide (tt ≤ tm) = true
            exact decide_eq_true (by omega)
          rw [hl, take_snoc hzi, List.filter_append, List.filter_cons, he, if_neg (by decide), List.filter_nil, List.append_nil]
    obtain ⟨s12, e12⟩ := hP
    rw [List.length_map, List.take_of_length_le (Nat.le_refl _)] at e12
    have h12 := h11.same s12
    refine ⟨_, rfl, _, rfl, a, zs, tm, (fun z => tmD (wdf z)), rfl, h12.cell, (fun z hz => (h12.2.1 z hz).2.2.2.2.2.wth), fun G13 r13 s13 _ e13 => ?_⟩
    refine ⟨_, rfl, E2, _, rfl, .inl ⟨.inl (.inl (s13 _ _ e12)), fun r14 n14 => ?_⟩⟩
    obtain ⟨s14, e14⟩ := newo (o := .tup ((zs.filter fun z => !eld (tmD (wdf z)) tm).map fun z => V.ref z.a)) n14
    generalize upd G13 r14 (.tup ((zs.filter fun z => !eld (tmD (wdf z)) tm).map fun z => V.ref z.a)) = G14 at s14 e14 ⊢
    have h14 := h12.same (s13.trans s14)
    have lf : ∀ z ∈ zs.filter (fun z => !eld (tmD (wdf z)) tm), LV K G14 z (wdf z) := fun z hz => h14.2.1 z (List.mem_filter.mp hz).1
    have cl3 := cell_cl lf
    refine ⟨_, _, cell_dp (.inl (.inl (s14 _ _ e13))) lf, cell_dp (.inl (.inl e14)) lf, cl3.shaped (by decide), cl3.shaped (by decide), _, rfl, ?_⟩
    rw [cl3.eqv]
    refine iteF ?_
    have s1114 : Same G11 G14 := s12.trans (s13.trans s14)
    have p14 := p11.same s1114
    have e14K := s1114 _ _ e11K
    have d14 : DotsH G14 R := d11.same s1114
    clear cl3 lf e14 s14 e13 s13 e12 s12
    -- those asked after
    refine ⟨_, rfl, p, 3, rfl, p14, (by decide), (by decide), fun G15 r15 x15 p15 _ r0 r1 => ?_⟩
    obtain ⟨y14, hy14⟩ := p14.is
    obtain ⟨y15, hy15⟩ := p15.is
    have h15 := h14.ext x15 hy14 trivial
    have d15 : DotsH G15 R := x15.dotsH hy14 trivial d14
    have e15K := x15 _ _ ndp e14K
    refine ⟨r15, rfl, (by omega), (by omega), fun E3 nE3 => ?_⟩
    have neE : E3 ≠ p := fun z => by
      rw [z, hy15] at nE3
      cases nE3
    refine lc_range (lo := 0) (n := r15.toNat) (fun i H' => Ext p G15 H' ∧ Pool H' p ∧ ∃ L : List MS.Row, H' E3 = some (.lst (L.map fun q => V.ref q.1)) ∧ DotsH H' L ∧ L.length = i ∧ ∀ q ∈ L, Men3 q.2) ⟨Ext.of (newo nE3).1, p15.same (newo nE3).1, [], (newo nE3).2, (fun _ z => nomatch z), rfl, (fun _ z => nomatch z)⟩ (fun i G hi hP => ?_) (fun G16 hP => ?_)
    · obtain ⟨xg, pg, L, hL, dL, lL, mL⟩ := hP
      refine ⟨rfl, VS.yes_if ?_⟩
      refine ⟨_, rfl, p, rfl, pg, fun G2 a2 k2 x2 p2 na e2 m2 => ?_⟩
      obtain ⟨yg, hyg⟩ := pg.is
      have hL2 : G2 E3 = some (.lst (L.map fun q => V.ref q.1)) := x2 _ _ neE hL
      have dL2 : DotsH G2 (L ++ [(a2, k2)]) := fun t ht => by
        rcases List.mem_append.mp ht with ht | ht
        · exact x2.dotsH hyg trivial dL t ht
        · rw [List.mem_singleton.mp ht]
          exact e2
      refine ⟨_, hL2, (by rw [List.length_map, sizeLine_eq]; omega), ?_, ?_, L ++ [(a2, k2)], ?_, Ext.put.dotsH hL2 trivial dL2, ?_, ?_⟩
      · intro b o nb hb
        by_cases z : b = E3
        · subst z
          rw [nE3] at hb
          cases hb
        · rw [upd_ne z]
          exact x2 _ _ nb (xg _ _ nb hb)
      · obtain ⟨u, v, hu, rest⟩ := p2
        exact ⟨u, v, by rw [upd_ne (Ne.symm neE)]; exact hu, rest⟩
      · rw [upd_same, List.map_append]
        rfl
      · rw [List.length_append, lL]
        rfl
      · intro t ht
        rcases List.mem_append.mp ht with ht | ht
        · exact mL t ht
        · rw [List.mem_singleton.mp ht]
          exact m2
    obtain ⟨x16, p16, L, eL, dL, lL, mL⟩ := hP
    have h16 := h15.ext x16 hy15 trivial
    have d16 : DotsH G16 R := x16.dotsH hy15 trivial d15
    have e16K := x16 _ _ ndp e15K
    have hE3 : SqL K G16 E3 (L.map fun q => V.ref q.1) := .inl (.inl eL)
    have clR : Cl (.list ((R.map fun q => q.2).map dD)) 2 := Cl.lst (m := 1) fun d hd => by
      obtain ⟨k, hk, rfl⟩ := List.mem_map.mp hd
      obtain ⟨u, hu, rfl⟩ := List.mem_map.mp hk
      have m := men3_ok (mR u hu)
      exact .of_shaped (dot_shaped m.2.2.2.1) m.2.2.2.2.1
    refine ⟨_, rfl, E3, rfl, ⟨_, hE3⟩, fun E4 nE4 => lc_it (walk_list (K := K) (a := E3) (xs := L.map fun q => V.ref q.1)) (fun i H' => Same G16 H' ∧ H' E4 = some (.lst (((L.take i).filter fun u => decide (u.2 ∉ R.map fun q => q.2)).map fun q => V.ref q.1))) ⟨(newo nE4).1, (newo nE4).2⟩ (fun i H' _ hP => hP.1.seq hE3) (fun i y A1 A2 hi hP hy => ?_) (fun G17 hP => ?_)⟩
    · obtain ⟨rfl, hy⟩ := hy
      obtain ⟨s2, hl⟩ := hP
      rw [List.getElem?_map] at hy
      obtain ⟨u, hu, rfl⟩ := Option.map_eq_some_iff.mp hy
      have uin := List.mem_of_getElem? hu
      rw [List.length_map] at hi
      have mu := mL u uin
      have mm := men3_ok mu
      refine ⟨rfl, _, rfl, _, rfl, dD u.2, (R.map fun q => q.2).map dD, dp_dot (.inl (.inl (s2 _ _ (dL u uin)))), .lst (.inl (.inl (s2 _ _ e16K))) (dp_dots (d16.same s2).dots), dot_shaped mm.2.2.2.1, clR.shaped (by decide), _, rfl, ?_⟩
      have e : (((R.map fun q => q.2).map dD).any fun x => PyData.eqv x (dD u.2)) = decide (u.2 ∈ R.map fun q => q.2) := by
        rw [Bool.eq_iff_iff, VS.any_dD mu.d3 (fun k hk => by obtain ⟨v, hv, rfl⟩ := List.mem_map.mp hk; exact (mR v hv).d3), decide_eq_true_eq]
      rw [e]
      by_cases hk : u.2 ∈ R.map fun q => q.2
      · rw [decide_eq_true hk]
        refine iteF ⟨s2, ?_⟩
        rw [hl, take_snoc hu, List.filter_append, List.filter_cons, if_neg (by rw [decide_eq_true_eq]; exact fun z => z hk), List.filter_nil, List.append_nil]
      · rw [decide_eq_false hk]
        refine iteT ⟨_, rfl, _, hl, ?_, same_but nE4 s2, ?_⟩
        · rw [List.length_map, sizeLine_eq]
          have := List.length_filter_le (fun u : MS.Row => decide (u.2 ∉ R.map fun q => q.2)) (L.take i)
          rw [List.length_take] at this
          omega
        · rw [upd_same, take_snoc hu, List.filter_append, List.filter_cons, if_pos (by rw [decide_eq_true_eq]; exact hk), List.filter_nil, List.map_append]
          rfl
    obtain ⟨s17, e17⟩ := hP
    rw [List.length_map, List.take_of_length_le (Nat.le_refl _)] at e17
    have h17 := h16.same s17
    refine ⟨_, rfl, _, rfl, a, E3, zs, L, rfl, h17.cell, hc.d3, hc.few, s17.seq hE3, (dL.same s17).dots, (fun q hq => ⟨(mL q hq).d3, (men3_ok (mL q hq)).2.2.2.1⟩), (by omega), fun G18 y18 s18 iff18 => ?_⟩
    refine ⟨_, rfl, Nat.zero_le _, fun n1 nn1 => ?_⟩
    obtain ⟨s19, e19⟩ := newo (o := .lst []) nn1
    generalize upd G18 n1 (.lst []) = G19 at s19 e19 ⊢
    refine ⟨E4, n1, _, rfl, rfl, .inl (.inl (s19 _ _ (s18 _ _ e17))), .inl (.inl e19), rfl, ?_⟩
    have eq : y18 = ((L.filter fun u => decide (u.2 ∉ R.map fun q => q.2)).map fun q => V.ref q.1).isEmpty := by
      rw [Bool.eq_iff_iff, iff18, List.isEmpty_iff, List.map_eq_nil_iff, List.filter_eq_nil_iff]
      constructor
      · intro h u hu hk
        rw [decide_eq_true_eq, kR, List.mem_append] at hk
        exact hk (h u hu)
      · intro h u hu
        have y := h u hu
        rw [decide_eq_true_eq, kR, List.mem_append] at y
        exact Classical.byContradiction fun z => y z
    rw [decide_eq_true (show V.bl y18 = V.bl _ by rw [eq])]
    refine q G19 ?_ ?_
    · exact (Ext.of (sHG.trans (sG8.trans s810))).trans (x11.trans ((Ext.of s1114).trans (x15.trans (x16.trans (Ext.of (s17.trans (s18.trans s19)))))))
    · exact p16.same (s17.trans (s18.trans s19))
end
end K01

set_option Elab.async false
set_option linter.all false
set_option maxRecDepth 100000
set_option maxHeartbeats 4000000
namespace K01
open PySem PySem.Spec PyProof.Rows L2 MS
theorem nd_inj : ∀ {zs : List Ver}, NdV zs → ∀ {y z : Ver}, y ∈ zs → z ∈ zs → y.d.2 = z.d.2 → y = z
  | [], _, _, _, h, _, _ => nomatch h
  | x :: r, nd, y, z, hy, hz, e => by
    unfold NdV dotsOf at nd
    rw [List.map_cons, List.nodup_cons] at nd
    rcases List.mem_cons.mp hy with ey | hy1
    · rcases List.mem_cons.mp hz with ez | hz1
      · rw [ey, ez]
      · exact absurd (by rw [← ey, e]; exact List.mem_map_of_mem hz1) nd.1
    · rcases List.mem_cons.mp hz with ez | hz1
      · exact absurd (by rw [← ez, ← e]; exact List.mem_map_of_mem hy1) nd.1
      · exact nd_inj (zs := r) nd.2 hy1 hz1 e
theorem map_inj {zs : List Ver} (nd : NdV zs) : ∀ {l m : List Ver}, (∀ z ∈ l, z ∈ zs) → (∀ z ∈ m, z ∈ zs) → dotsOf l = dotsOf m → l = m
  | [], [], _, _, _ => rfl
  | [], _ :: _, _, _, e => nomatch e
  | _ :: _, [], _, _, e => nomatch e
  | y :: l, z :: m, h1, h2, e => by
    unfold dotsOf at e
    rw [List.map_cons, List.map_cons, List.cons.injEq] at e
    rw [nd_inj nd (h1 y List.mem_cons_self) (h2 z List.mem_cons_self) e.1, map_inj nd (fun z hz => h1 z (List.mem_cons_of_mem _ hz)) (fun z hz => h2 z (List.mem_cons_of_mem _ hz)) e.2]
theorem canonV {zs l m : List Ver} (nd : NdV zs) (h1 : ∀ z ∈ l, z ∈ zs) (h2 : ∀ z ∈ m, z ∈ zs) (a1 : Asc (dotsOf l)) (a2 : Asc (dotsOf m)) (h : ∀ z, z ∈ l ↔ z ∈ m) : l = m := by
  refine map_inj nd h1 h2 (canon a1 a2 fun k => ?_)
  constructor
  · intro hk
    obtain ⟨z, hz, rfl⟩ := List.mem_map.mp hk
    exact List.mem_map_of_mem ((h z).mp hz)
  · intro hk
    obtain ⟨z, hz, rfl⟩ := List.mem_map.mp hk
    exact List.mem_map_of_mem ((h z).mpr hz)
/-- what joined tells of cells of one book -/
theorem joinV {zs l ls : List Ver} (nd : NdV zs) (hl : ∀ z ∈ l, z ∈ zs) (m1 : ∀ z ∈ ls, z ∈ l) (m2 : ∀ z ∈ l, z.d.2 ∉ knownOf l → z.d.2 ∈ dotsOf ls) (m3 : ∀ z ∈ ls, z.d.2 ∉ knownOf l) : ∀ z, z ∈ ls ↔ z ∈ l ∧ z.d.2 ∉ knownOf l := fun z => by
  constructor
  · exact fun h => ⟨m1 z h, m3 z h⟩
  · rintro ⟨h1, h2⟩
    obtain ⟨y, hy, e⟩ := List.mem_map.mp (m2 z h1 h2)
    rw [← nd_inj nd (hl y (m1 y hy)) (hl z h1) e]
    exact hy
theorem known_same {l m : List Ver} (h : ∀ z, z ∈ l ↔ z ∈ m) (k : DK) : k ∈ knownOf l ↔ k ∈ knownOf m := by
  rw [knownOf_mem, knownOf_mem]
  exact ⟨fun ⟨z, hz, y⟩ => ⟨z, (h z).mp hz, y⟩, fun ⟨z, hz, y⟩ => ⟨z, (h z).mpr hz, y⟩⟩
theorem empty_cell {K : PySem.W.Frag} {H : Hp} {t : Addr} (h : H t = some (.tup [])) : CellAt K H t [] := ⟨.inl (.inl h), (fun _ z => nomatch z), Nat.zero_le _, .nil, fun _ z => nomatch z⟩
theorem cells_sh {K : PySem.W.Frag} {H : Hp} {cs : List (Addr × List Ver)} {wdf : Ver → PyData} (l : ∀ c ∈ cs, ∀ z ∈ c.2, LV K H z (wdf z)) (n : ∀ c ∈ cs, c.2.length ≤ 8) (m : cs.length ≤ 5) : Sh (.list (cs.map fun c => cellD wdf c.2)) 20000 5 := by
  refine (Sh.lst (n := 2500) (m := 4) fun d hd => ?_).mono ?_ (Nat.le_refl _)
  · obtain ⟨c, hc, rfl⟩ := List.mem_map.mp hd
    exact cell_sh (l c hc) (n c hc)
  · rw [List.length_map]
    omega
theorem Sh.use {d : PyData} {n m : Nat} (h : Sh d n m) (a : n ≤ 30000) (b : m ≤ 40) : d.showable = true ∧ d.shown.length ≤ sizeLine ∧ d.depth ≤ 40 := ⟨h.1, by rw [sizeLine_eq]; have := h.2.1; omega, by have := h.2.2; omega⟩
abbrev NLW : List PySem.Str := ["_law_script", "_law_k", "_law_pool", "_law_book", "_law_cells_here", "_law_kept", "_law_found", "_law_cell"]
theorem sc_law : FnScope NLW ["_law_script"] (defScope (topS 40)) := ⟨rfl, rfl, rfl, by decide +kernel, rfl, by decide +kernel, by decide +kernel⟩
section
variable {P : Program} {w : World} {K : PySem.W.Frag} {mg : PySem.Str → Option Value} {base : Heap} {f : Addr} {fd : FuncData}
theorem ok_law (B : Bt mg) (cHand : Ca P w K mg base 1 "_law_hand" ["_law_script", "_law_k"] (spHand K)) (cD : Ca P w K mg base 1 "_law_draw" ["_law_pool", "_law_size"] spDraw) (cVs : Ca P w K mg base 4 "_law_versions" ["_law_pool", "_law_many"] (spVs K)) (cCs : Ca P w K mg base 2 "_law_cells" ["_law_pool", "_law_book", "_law_many"] (spCs K))
    (cJ : Ca P w K mg base 7 "joined" ["cells"] (spJoin K)) (cLv : Ca P w K mg base 1 "_law_live" ["_law_some"] (spLive K)) (cAl : Ca P w K mg base 1 "_law_all" ["_law_cells_here"] (spAll K)) (cC : Ca P w K mg base 5 "is_cell" ["thing"] (spCell K)) (cTr : Ca P w K mg base 10 "_law_told_right" ["_law_pool", "_law_cell"] (spTr K))
    (cKb : Ca P w K mg base 8 "known_by" ["cell"] (spKb K)) (cWo : Ca P w K mg base 7 "worths_of" ["cell"] (spWo K)) (F : Fun K "law" "law" (topS 40) f fd) : RunAt P w K mg base CX0 callerA f fd ["_law_script"] (spLaw K) := by
  classical
  have hr11 : Room 11 callerA := ⟨rfl, by decide, by decide⟩
  refine F.at (k := 10) sc_law (fun vs H Q E h => ?_) hr11 (fun cdv outer s H vs Q E h => ?_)
  · obtain ⟨a, ns, rfl, _⟩ := h; rfl
  · obtain ⟨a, ns, rfl, hS, h63, q⟩ := h
    have hr : Room 10 (callerA.deeper (envOfC "law" (defScope (topS 40)) s.heap.objs.size f cdv)) := hr11.deeper _
    have hr1 : Room 1 (callerA.deeper (envOfC "law" (defScope (topS 40)) s.heap.objs.size f cdv)) := hr.mono (by decide)
    have hr7 : Room 7 (callerA.deeper (envOfC "law" (defScope (topS 40)) s.heap.objs.size f cdv)) := hr.mono (by decide)
    refine ⟨_, pss_cons (ps_for PassesOwn.never rfl (pi_range1 (by rfl) B.range (pa_cons (pe_callB (call_max2 (by rfl)) (by rfl) B.max boot_max (pa_cons pe_int (pa_cons (pe_callB (call_min2 (by rfl)) (by rfl) B.min boot_min (pa_cons (pe_callB call_len_seq (by rfl) B.len PySem.boot_len (pa_cons (pv 0) pa_nil)) (pa_cons pe_int pa_nil))) pa_nil))) pa_nil)) (pg_name (i := 1) sc_law.nd rfl (.inl rfl))
        (pss_cons (ps_set (i := 2) sc_law.nd rfl (.inl rfl) (pe_ca cHand hr1 (by rfl) pass0 (pa_cons (pv 0) (pa_cons (pv 1) pa_nil))))
        (pss_cons (ps_set (i := 3) sc_law.nd rfl (.inl rfl) (pe_ca cVs (hr.mono (by decide)) (by rfl) pass0 (pa_cons (pv 2) (pa_cons pe_int pa_nil))))
        (pss_cons (ps_set (i := 4) sc_law.nd rfl (.inl rfl) (pe_ca cCs (hr.mono (by decide)) (by rfl) pass0 (pa_cons (pv 2) (pa_cons (pv 3) (pa_cons (pe_ca cD hr1 (by rfl) pass0 (pa_cons (pv 2) (pa_cons pe_int pa_nil))) pa_nil)))))
        (pss_cons (ps_set (i := 5) sc_law.nd rfl (.inl rfl) (pe_callB (call_repDK (K := K) rfl hr rfl) (by rfl) B.repr boot_repr (pa_cons (pv 4) pa_nil)))
        (pss_cons (ps_set (i := 6) sc_law.nd rfl (.inl rfl) (pe_ca cJ hr7 (by rfl) pass0 (pa_cons (pv 4) pa_nil)))
        (pss_cons (ps_if (PW.pt (pw_or (pt_cmpR op_ne (pe_callB (call_repDK (K := K) rfl hr rfl) (by rfl) B.repr boot_repr (pa_cons (pv 6) pa_nil)) (pe_callB (call_repDK (K := K) rfl hr rfl) (by rfl) B.repr boot_repr (pa_cons (pe_ca cLv hr1 (by rfl) pass0 (pa_cons (pe_ca cAl hr1 (by rfl) pass0 (pa_cons (pv 4) pa_nil)) pa_nil)) pa_nil)) (nomark _))
          (pw_or (pt_cmpR op_ne (pe_callB (call_repDK (K := K) rfl hr rfl) (by rfl) B.repr boot_repr (pa_cons (pv 4) pa_nil)) (pv 5) (nomark _)) (pw_or1 (pt_not (pt_val (pe_ca cC (hr.mono (by decide)) (by rfl) pass0 (pa_cons (pv 6) pa_nil)))))))) (pss_one (ps_ret pe_bl)) pss_nil)
        (pss_one (ps_for PassesOwn.never rfl (pi_list (pe_op op_cat (pv 4) (pe_lst (pa_cons (pv 6) pa_nil)))) (pg_name (i := 7) sc_law.nd rfl (.inl rfl))
          (pss_one (ps_if (PW.pt (pw_or (pt_cmpR (VS.op_neDK (K := K) rfl (hu_64 hr)) (pe_ca cJ hr7 (by rfl) pass0 (pa_cons (pe_lst (pa_cons (pv 7) pa_nil)) pa_nil)) (pv 7) (nomark _)) (pw_or (pt_cmpR (VS.op_neDK (K := K) rfl (hu_64 hr)) (pe_ca cJ hr7 (by rfl) pass0 (pa_cons (pe_lst (pa_cons (pv 7) (pa_cons (pv 7) (pa_cons (pe_tup pa_nil) pa_nil)))) pa_nil)) (pv 7) (nomark _))
            (pw_or1 (pt_not (pt_val (pe_ca cTr hr (by rfl) pass0 (pa_cons (pv 2) (pa_cons (pv 7) pa_nil))))))))) (pss_one (ps_ret pe_bl)) pss_nil)))))))))))
      (pss_one (ps_ret (pe_and (pe_cmpR (op_eqDK (K := K) rfl (hu_64 hr)) (pe_ca cJ hr7 (by rfl) pass0 (pa_cons (pe_lst pa_nil) pa_nil)) (pe_tup pa_nil) (nomark _)) (pe_and (pe_cmpR (op_eqDK (K := K) rfl (hu_64 hr)) (pe_ca cJ hr7 (by rfl) pass0 (pa_cons (pe_lst (pa_cons (pe_tup pa_nil) (pa_cons (pe_tup pa_nil) pa_nil))) pa_nil)) (pe_tup pa_nil) (nomark _))
        (pe_and (pe_cmpR (op_eqDK (K := K) rfl (hu_64 hr)) (pe_ca cKb (hr.mono (by decide)) (by rfl) pass0 (pa_cons (pe_tup pa_nil) pa_nil)) (pe_tup pa_nil) (nomark _)) (pe_one (pe_cmpR (VS.op_eqNil (K := K) rfl (hu_lt hr)) (pe_ca cWo hr7 (by rfl) pass0 (pa_cons (pe_tup pa_nil) pa_nil)) (pe_lst pa_nil) (nomark _)))))))), ?_⟩
    have bj : ∀ l : Int, 0 ≤ l → 0 ≤ (if (if (10 : Int) < l then 10 else l) > 1 then (if (10 : Int) < l then 10 else l) else 1) ∧ (if (if (10 : Int) < l then 10 else l) > 1 then (if (10 : Int) < l then 10 else l) else 1) ≤ 10 := fun l hl => by
      by_cases z : (10 : Int) < l
      · rw [if_pos z, if_pos (by decide)]
        decide
      · rw [if_neg z]
        by_cases y : l > 1
        · rw [if_pos y]
          omega
        · rw [if_neg y]
          decide
    obtain ⟨bj1, bj2⟩ := bj ((ns.map V.int).length : Int) (by omega)
    refine ⟨_, rfl, a, _, rfl, .inl hS, _, _, rfl, _, _, rfl, _, rfl, (by omega), (by omega), for_range (fun i σ G => ∃ y1 y2 y3 y4 y5 y6 y7, σ = [some (.ref a), y1, y2, y3, y4, y5, y6, y7] ∧ Same H G) ⟨none, none, none, none, none, none, none, rfl, Same.refl _⟩ (fun i σ G0 hi hP => ?_) (fun σ G hP => ?_)⟩
    · obtain ⟨y1, y2, y3, y4, y5, y6, y7, rfl, s0⟩ := hP
      have hS0 : SqL K G0 a (ns.map V.int) := s0.seq hS
      have i10 : i < 10 := by omega
      refine ⟨_, rfl, _, rfl, a, _, ns, rfl, hS0, h63, (by omega), (by omega), fun G1 p c1 np pool1 => ?_⟩
      have back : ∀ {G : Hp}, Ext p G1 G → Same H G := fun {G} e b o hb => by
        have y := s0 b o hb
        exact e b o (fun z => by rw [z, np] at y; cases y) (c1 b o y)
      refine ⟨_, rfl, p, rfl, pool1, fun G2 D zs x2 p2 eD nd lv lz => ?_⟩
      have neDp : D ≠ p := fun z => by
        obtain ⟨ys, hy⟩ := p2.is
        rw [z, hy] at eD
        cases eD
      obtain ⟨ys2, hys2⟩ := p2.is
      refine ⟨_, rfl, _, rfl, _, rfl, p, 6, rfl, p2, (by decide), (by decide), fun G3 r x3 p3 _ r0 r1 => ?_⟩
      obtain ⟨ys3, hys3⟩ := p3.is
      have lv3 : ∀ z ∈ zs, ∃ wd, LV K G3 z wd := fun z hz => by
        obtain ⟨wd, h⟩ := lv z hz
        exact ⟨wd, h.ext x3 hys2 trivial⟩
      refine ⟨p, D, r, zs, rfl, p3, x3 _ _ neDp eD, nd, lv3, lz, r0, (by omega), fun G4 l cs x4 p4 e4 lc ci => ?_⟩
      obtain ⟨wdf, lw⟩ : ∃ wdf : Ver → PyData, ∀ z ∈ zs, LV K G4 z (wdf z) := by
        have h : ∀ z, ∃ wd, z ∈ zs → LV K G4 z wd := fun z => by
          by_cases hz : z ∈ zs
          · obtain ⟨wd, h⟩ := lv3 z hz
            exact ⟨wd, fun _ => h.ext x4 hys3 trivial⟩
          · exact ⟨.none, fun z => absurd z hz⟩
        exact ⟨fun z => Classical.choose (h z), fun z hz => Classical.choose_spec (h z) hz⟩
      have x14 : Ext p G1 G4 := x2.trans (x3.trans x4)
      clear lv lv3 eD x2 x3 x4 hys2 hys3 p2 p3 pool1
      have lwc : ∀ {G : Hp}, Same G4 G → ∀ c ∈ cs, ∀ z ∈ c.2, LV K G z (wdf z) := fun {G} sG c hc z hz => (lw z ((ci c hc).2.1 z hz)).same sG
      have sh := cells_sh (lwc (Same.refl _)) (fun c hc => (ci c hc).2.2.2) lc
      obtain ⟨sh1, sh2, sh3⟩ := sh.use (by decide) (by decide)
      have dpC : ∀ {G : Hp}, Same G4 G → Dp K G (.ref l) (.list (cs.map fun c => cellD wdf c.2)) := fun {G} sG => .lst (.inl (.inl (sG _ _ e4))) (dp_all fun c hc => cell_dp (same_sqT sG (ci c hc).1) (lwc sG c hc))
      refine ⟨_, rfl, l, _, rfl, dpC (Same.refl _), sh1, sh2, sh3, ?_⟩
      -- joined
      have cellC : ∀ {G : Hp}, Same G4 G → ∀ c ∈ cs, CellAt K G c.1 c.2 := fun {G} sG c hc => ((ci c hc).same sG).cell fun z hz => ⟨wdf z, (lw z hz).same sG⟩
      have allZ : ∀ z ∈ allV cs, z ∈ zs := fun z hz => by
        obtain ⟨c, hc, y⟩ := allV_mem.mp hz
        exact (ci c hc).2.1 z y
      have allL : (allV cs).length ≤ 40 := by
        have y : ∀ (ds : List (Addr × List Ver)), (∀ c ∈ ds, c.2.length ≤ 8) → (allV ds).length ≤ 8 * ds.length := by
          intro ds
          induction ds with
          | nil => intro _; exact Nat.le_refl _
          | cons c r ih =>
            intro h
            have a := h c List.mem_cons_self
            have b := ih fun d hd => h d (List.mem_cons_of_mem _ hd)
            have e : allV (c :: r) = c.2 ++ allV r := rfl
            rw [e, List.length_append, List.length_cons]
            omega
        have z := y cs fun c hc => (ci c hc).2.2.2
        omega
      refine ⟨_, rfl, l, cs, rfl, .inl (.inl e4), cellC (Same.refl _), (by omega), (by omega), fun G5 r5 ls s5 _ c5 m1 m2 m3 => ?_⟩
      have memL := joinV nd allZ m1 m2 m3
      have lsZ : ∀ z ∈ ls, z ∈ zs := fun z hz => allZ z (m1 z hz)
      have ascL : Asc (dotsOf ls) := c5.2.2.2.1
      have lenL : ls.length ≤ 8 := by
        have y := nodup_le (l := dotsOf ls) (m := dotsOf zs) (asc_nodup ascL) fun k hk => by
          obtain ⟨z, hz, rfl⟩ := List.mem_map.mp hk
          exact List.mem_map_of_mem (lsZ z hz)
        unfold dotsOf at y
        rw [List.length_map, List.length_map] at y
        omega
      have lwl : ∀ {G : Hp}, Same G4 G → ∀ z ∈ ls, LV K G z (wdf z) := fun {G} sG z hz => (lw z (lsZ z hz)).same sG
      have shl := (cell_sh (lwl (Same.refl _)) lenL).use (by decide) (by decide)
      obtain ⟨shl1, shl2, shl3⟩ := shl
      refine ⟨_, rfl, r5, cellD wdf ls, rfl, cell_dp c5.1 (lwl s5), shl1, shl2, shl3, ?_⟩
      refine ⟨_, rfl, l, cs, rfl, .inl (.inl (s5 _ _ e4)), (fun c hc => same_sqT s5 (ci c hc).1), (fun z hz => ⟨((lw z (allZ z hz)).same s5).1, (lw z (allZ z hz)).2.1.d3⟩), (by omega), fun G6 r6 ms s6 e6 a6 n1 n2 n3 => ?_⟩
      have memM : ∀ z, z ∈ ms ↔ z ∈ allV cs := fun z => ⟨n1 z, fun h => by
        obtain ⟨y, hy, e⟩ := List.mem_map.mp (n2 z h)
        rw [← nd_inj nd (allZ y (n1 y hy)) (allZ z h) e]
        exact hy⟩
      have msZ : ∀ z ∈ ms, z ∈ zs := fun z hz => allZ z (n1 z hz)
      have s46 : Same G4 G6 := s5.trans s6
      refine ⟨r6, ms, rfl, .inl (.inl e6), (fun z hz => ((lw z (msZ z hz)).same s46).good), lv_d3 (K := K) (H := G6) (fun z hz => ⟨_, (lw z (msZ z hz)).same s46⟩), asc_nodup a6, (by omega), fun G7 r7 ks s7 _ e7 a7 mem7 _ => ?_⟩
      have eK : ks = ls := canonV nd (fun z hz => msZ z ((mem7 z).mp hz).1) lsZ a7 ascL fun z => by rw [mem7 z, memL z, memM z, known_same memM]
      subst eK
      have s47 : Same G4 G7 := s46.trans s7
      refine ⟨r7, cellD wdf ks, rfl, cell_dp (.inl (.inl e7)) (lwl s47), shl1, shl2, shl3, rfl, _, rfl, ?_⟩
      rw [decide_eq_true (show V.str (cellD wdf ks).shown = V.str (cellD wdf ks).shown from rfl)]
      refine iteF ?_
      refine ⟨_, rfl, l, _, rfl, dpC s47, sh1, sh2, sh3, _, rfl, rfl, _, rfl, ?_⟩
      rw [decide_eq_true (show V.str (PyData.list (cs.map fun c => cellD wdf c.2)).shown = V.str (PyData.list (cs.map fun c => cellD wdf c.2)).shown from rfl)]
      refine iteF ?_
      have c7 := c5.same (s6.trans s7)
      refine ⟨_, rfl, r5, ks, rfl, c7.1, c7.2.1, c7.2.2.1, c7.2.2.2, fun G8 s8 => ⟨_, rfl, iteF ?_⟩⟩
      -- each cell
      have s48 : Same G4 G8 := s47.trans s8
      have e8 := s48 _ _ e4
      refine ⟨_, rfl, _, rfl, (by show 1 ≤ sizeLine; decide), fun l2 nl2 => ?_⟩
      obtain ⟨s9, e9⟩ := newo (o := .lst [V.ref r5]) nl2
      generalize upd G8 l2 (.lst [V.ref r5]) = G9 at s9 e9 ⊢
      refine ⟨l, l2, _, _, rfl, rfl, s9 _ _ e8, e9, (by rw [List.length_map, sizeLine_eq]; show cs.length + 1 ≤ 16777216; omega), fun l3 nl3 => ?_⟩
      obtain ⟨s10, e10⟩ := newo (o := .lst ((cs.map fun c => V.ref c.1) ++ [V.ref r5])) nl3
      generalize upd G9 l3 (.lst ((cs.map fun c => V.ref c.1) ++ [V.ref r5])) = G10 at s10 e10 ⊢
      have s410 : Same G4 G10 := s48.trans (s9.trans s10)
      obtain ⟨cs', hcs'⟩ : ∃ cs' : List (Addr × List Ver), cs' = cs ++ [(r5, ks)] := ⟨_, rfl⟩
      have eL : ((cs.map fun c => V.ref c.1) ++ [V.ref r5]) = cs'.map fun c => V.ref c.1 := by
        rw [hcs', List.map_append]
        rfl
      rw [eL] at e10
      have lcs : ∀ c ∈ cs', LCell K G10 c.1 c.2 wdf ∧ ∀ z ∈ c.2, z ∈ zs := fun c hc => by
        rw [hcs'] at hc
        rcases List.mem_append.mp hc with hc | hc
        · exact ⟨⟨same_sqT s410 (ci c hc).1, lwc s410 c hc, (ci c hc).2.2.1, (ci c hc).2.2.2⟩, (ci c hc).2.1⟩
        · rw [List.mem_singleton.mp hc]
          exact ⟨⟨same_sqT (s8.trans (s9.trans s10)) c7.1, lwl s410, c7.2.2.2, lenL⟩, lsZ⟩
      have p10 := p4.same s410
      obtain ⟨ys10, hys10⟩ := p10.is
      have nl3p : l3 ≠ p := fun z => by
        obtain ⟨ys, hy⟩ := (p4.same (s48.trans s9)).is
        rw [z, hy] at nl3
        cases nl3
      refine ⟨l3, rfl, ⟨_, .inl (.inl (e10.trans (by rw [← eL])))⟩, for_it (walk_list (K := K) (a := l3) (xs := cs'.map fun c => V.ref c.1)) (fun j σ G => (∃ z7, σ = [some (.ref a), some (.int (0 + (i : Int))), some (.ref p), some (.ref D), some (.ref l), some (.str (PyData.list (cs.map fun c => cellD wdf c.2)).shown), some (.ref r5), z7]) ∧ Ext p G10 G ∧ Pool G p) ⟨⟨y7, rfl⟩, Ext.refl, p10⟩ (fun j σ G _ hP => .inl (.inl (hP.2.1 _ _ nl3p e10))) (fun j x σ G G' hj hP hy => ?_) (fun σ G hP => ?_)⟩
      · obtain ⟨⟨z7, rfl⟩, xG, pG⟩ := hP
        obtain ⟨rfl, hx⟩ := hy
        rw [List.getElem?_map] at hx
        obtain ⟨c, hc, rfl⟩ := Option.map_eq_some_iff.mp hx
        obtain ⟨lcl, cz⟩ := lcs c (List.mem_of_getElem? hc)
        have lG := lcl.ext xG hys10 trivial
        have fresh : ∀ z ∈ c.2, z.d.2 ∉ knownOf c.2 := lG.2.2.1.2
        have ascC : Asc (dotsOf c.2) := lG.2.2.1.1
        have clc := cell_cl lG.2.1
        refine ⟨_, rfl, (by show 1 ≤ sizeLine; decide), fun n1 nn1 => ?_⟩
        obtain ⟨t1, f1⟩ := newo (o := .lst [V.ref c.1]) nn1
        generalize upd G' n1 (.lst [V.ref c.1]) = A1 at t1 f1 ⊢
        have k1 := lG.same t1
        have al1 : allV [c] = c.2 := by
          unfold allV
          rw [List.map_cons, List.map_nil, List.flatten_cons, List.flatten_nil, List.append_nil]
        refine ⟨n1, [c], rfl, .inl (.inl f1), (fun d hd => by rw [List.mem_singleton.mp hd]; exact k1.cell), (by show 1 ≤ 1000; decide), (by rw [al1]; have := lG.2.2.2; omega), fun A2 r2 l2 t2 _ c2 w1 w2 w3 => ?_⟩
        rw [al1] at w1 w2 w3
        have e2 : l2 = c.2 := canonV nd (fun z hz => cz z (w1 z hz)) cz c2.2.2.2.1 ascC fun z => by
          rw [joinV nd cz w1 w2 w3 z]
          exact ⟨fun h => h.1, fun h => ⟨h, fresh z h⟩⟩
        subst e2
        have k2 := k1.same t2
        refine ⟨_, rfl, _, _, cell_dp c2.1 k2.2.1, cell_dp k2.1 k2.2.1, clc.shaped (by decide), clc.shaped (by decide), _, rfl, ?_⟩
        rw [clc.eqv]
        refine iteF ?_
        refine ⟨_, rfl, _, rfl, Nat.zero_le _, fun t0 nt0 => ?_⟩
        obtain ⟨t3, f3⟩ := newo (o := .tup []) nt0
        generalize upd A2 t0 (.tup []) = A3 at t3 f3 ⊢
        refine ⟨(by show 3 ≤ sizeLine; decide), fun n2 nn2 => ?_⟩
        obtain ⟨t4, f4⟩ := newo (o := .lst [V.ref c.1, V.ref c.1, V.ref t0]) nn2
        generalize upd A3 n2 (.lst [V.ref c.1, V.ref c.1, V.ref t0]) = A4 at t4 f4 ⊢
        have k4 := k2.same (t3.trans t4)
        have al3 : allV [c, c, (t0, [])] = c.2 ++ c.2 := by
          unfold allV
          rw [List.map_cons, List.map_cons, List.map_cons, List.map_nil, List.flatten_cons, List.flatten_cons, List.flatten_cons, List.flatten_nil, List.append_nil, List.append_nil]
        have mem3 : ∀ z, z ∈ c.2 ++ c.2 ↔ z ∈ c.2 := fun z => by rw [List.mem_append, or_self]
        refine ⟨n2, [c, c, (t0, [])], rfl, .inl (.inl f4), (fun d hd => ?_), (by show 3 ≤ 1000; decide), (by rw [al3, List.length_append]; have := lG.2.2.2; omega), fun A5 r3 l3' t5 _ c3 w1 w2 w3 => ?_⟩
        · have hd : d = c ∨ d = c ∨ d = (t0, []) := by simpa using hd
          rcases hd with rfl | rfl | rfl
          · exact k4.cell
          · exact k4.cell
          · exact empty_cell (t4 _ _ f3)
        rw [al3] at w1 w2 w3
        have e3 : l3' = c.2 := canonV nd (fun z hz => cz z ((mem3 z).mp (w1 z hz))) cz c3.2.2.2.1 ascC fun z => by
          rw [joinV nd (fun z hz => cz z ((mem3 z).mp hz)) w1 w2 w3 z, mem3 z, known_same mem3]
          exact ⟨fun h => h.1, fun h => ⟨h, fresh z h⟩⟩
        subst e3
        have k5 := k4.same t5
        refine ⟨_, rfl, _, _, cell_dp c3.1 k5.2.1, cell_dp k5.1 k5.2.1, clc.shaped (by decide), clc.shaped (by decide), _, rfl, ?_⟩
        rw [clc.eqv]
        refine iteF ?_
        have tt : Same G' A5 := t1.trans (t2.trans (t3.trans (t4.trans t5)))
        exact ⟨_, rfl, _, rfl, p, c.1, c.2, wdf, rfl, pG.same tt, k5, fun A6 x6 p6 => ⟨_, rfl, iteF ⟨⟨_, rfl⟩, xG.trans ((Ext.of tt).trans x6), p6⟩⟩⟩
      · obtain ⟨⟨z7, rfl⟩, xG, pG⟩ := hP
        exact ⟨_, _, _, _, _, _, _, rfl, back (x14.trans ((Ext.of s410).trans xG))⟩
    · obtain ⟨y1, y2, y3, y4, y5, y6, y7, rfl, s0⟩ := hP
      have cl0 : Cl (.tuple []) 1 := Cl.tup (m := 0) fun _ z => nomatch z
      have dp0 : ∀ {G : Hp} {t : Addr}, SqT K G t [] → Dp K G (.ref t) (.tuple []) := fun h => .tup h .nil
      refine ⟨Nat.zero_le _, fun n1 nn1 => ?_⟩
      obtain ⟨t1, f1⟩ := newo (o := .lst []) nn1
      generalize upd G n1 (.lst []) = A1 at t1 f1 ⊢
      refine ⟨n1, [], rfl, .inl (.inl f1), (fun _ z => nomatch z), Nat.zero_le _, Nat.zero_le _, fun A2 r2 l2 t2 _ c2 w1 _ _ => ?_⟩
      have e2 : l2 = [] := List.eq_nil_iff_forall_not_mem.mpr fun z hz => nomatch w1 z hz
      subst e2
      refine ⟨Nat.zero_le _, fun n2 nn2 => ?_⟩
      obtain ⟨t3, f3⟩ := newo (o := .tup []) nn2
      generalize upd A2 n2 (.tup []) = A3 at t3 f3 ⊢
      refine ⟨_, _, dp0 (same_sqT t3 c2.1), dp0 (.inl (.inl f3)), cl0.shaped (by decide), cl0.shaped (by decide), _, rfl, ?_⟩
      rw [cl0.eqv]
      refine iteT ?_
      refine ⟨Nat.zero_le _, fun m1 nm1 => ?_⟩
      obtain ⟨t4, f4⟩ := newo (o := .tup []) nm1
      generalize upd A3 m1 (.tup []) = A4 at t4 f4 ⊢
      refine ⟨Nat.zero_le _, fun m2 nm2 => ?_⟩
      obtain ⟨t5, f5⟩ := newo (o := .tup []) nm2
      generalize upd A4 m2 (.tup []) = A5 at t5 f5 ⊢
      refine ⟨(by show 2 ≤ sizeLine; decide), fun m3 nm3 => ?_⟩
      obtain ⟨t6, f6⟩ := newo (o := .lst [V.ref m1, V.ref m2]) nm3
      generalize upd A5 m3 (.lst [V.ref m1, V.ref m2]) = A6 at t6 f6 ⊢
      refine ⟨m3, [(m1, []), (m2, [])], rfl, .inl (.inl f6), (fun c hc => ?_), (by show 2 ≤ 1000; decide), Nat.zero_le _, fun A7 r7 l7 t7 _ c7 w1 _ _ => ?_⟩
      · have hc : c = (m1, []) ∨ c = (m2, []) := by simpa using hc
        rcases hc with rfl | rfl
        · exact empty_cell (t6 _ _ (t5 _ _ f4))
        · exact empty_cell (t6 _ _ f5)
      have e7 : l7 = [] := List.eq_nil_iff_forall_not_mem.mpr fun z hz => nomatch w1 z hz
      subst e7
      refine ⟨Nat.zero_le _, fun n3 nn3 => ?_⟩
      obtain ⟨t8, f8⟩ := newo (o := .tup []) nn3
      generalize upd A7 n3 (.tup []) = A8 at t8 f8 ⊢
      refine ⟨_, _, dp0 (same_sqT t8 c7.1), dp0 (.inl (.inl f8)), cl0.shaped (by decide), cl0.shaped (by decide), _, rfl, ?_⟩
      rw [cl0.eqv]
      refine iteT ?_
      refine ⟨Nat.zero_le _, fun m4 nm4 => ?_⟩
      obtain ⟨t9, f9⟩ := newo (o := .tup []) nm4
      generalize upd A8 m4 (.tup []) = A9 at t9 f9 ⊢
      refine ⟨m4, [], rfl, empty_cell f9, (fun _ z => nomatch z), (by show 0 < 63; decide), fun A10 r10 ks t10 tk _ mk => ?_⟩
      have e10 : ks = [] := List.eq_nil_iff_forall_not_mem.mpr fun k hk => by
        rcases (mk k).mp hk with z | z
        · exact nomatch z
        · exact nomatch z
      subst e10
      refine ⟨Nat.zero_le _, fun m5 nm5 => ?_⟩
      obtain ⟨t11, f11⟩ := newo (o := .tup []) nm5
      generalize upd A10 m5 (.tup []) = A11 at t11 f11 ⊢
      refine ⟨_, _, (tk.same t11).dp, dp0 (.inl (.inl f11)), cl0.shaped (by decide), cl0.shaped (by decide), _, rfl, ?_⟩
      have ee : PyData.eqv (.tuple (([] : List DK).map dD)) (.tuple []) = true := cl0.eqv
      rw [ee]
      refine iteT ?_
      refine ⟨Nat.zero_le _, fun m6 nm6 => ?_⟩
      obtain ⟨t12, f12⟩ := newo (o := .tup []) nm6
      generalize upd A11 m6 (.tup []) = A12 at t12 f12 ⊢
      refine ⟨m6, [], (fun _ => none), rfl, empty_cell f12, (fun _ z => nomatch z), fun A13 r13 t13 _ e13 => ?_⟩
      refine ⟨Nat.zero_le _, fun m7 nm7 => ?_⟩
      obtain ⟨t14, f14⟩ := newo (o := .lst []) nm7
      generalize upd A13 m7 (.lst []) = A14 at t14 f14 ⊢
      exact ⟨r13, m7, [], rfl, rfl, .inl (.inl (t14 _ _ e13)), .inl (.inl f14), q _⟩
end
end K01

set_option Elab.async false
set_option linter.all false
set_option maxRecDepth 100000
set_option maxHeartbeats 4000000
namespace K01
open PySem PySem.Spec PyProof.Rows L2 MS
theorem all_mk {l : PySem.W.OpenLaw} {w : World} {K : PySem.W.Frag} {h : Heap} {mg : PySem.Str → Option Value} {fa fL : Addr} {tgL tgM tgG tgW tgO : Tok} (X : K.In h) (G : h.Ns mainGlobals mg) (hfa : mg "law" = some (.ref fa))
    (b_isi : PySem.W.nsIn K mainGlobals "isinstance" = some none)
    (b_len : PySem.W.nsIn K mainGlobals "len" = some none)
    (b_all : PySem.W.nsIn K mainGlobals "all" = some none)
    (b_int : PySem.W.nsIn K mainGlobals "int" = some none)
    (b_bool : PySem.W.nsIn K mainGlobals "bool" = some none)
    (b_str : PySem.W.nsIn K mainGlobals "str" = some none)
    (b_tuple : PySem.W.nsIn K mainGlobals "tuple" = some none)
    (b_list : PySem.W.nsIn K mainGlobals "list" = some none)
    (b_set : PySem.W.nsIn K mainGlobals "set" = some none)
    (b_sorted : PySem.W.nsIn K mainGlobals "sorted" = some none)
    (b_zip : PySem.W.nsIn K mainGlobals "zip" = some none)
    (b_max : PySem.W.nsIn K mainGlobals "max" = some none)
    (b_min : PySem.W.nsIn K mainGlobals "min" = some none)
    (b_repr : PySem.W.nsIn K mainGlobals "repr" = some none)
    (b_range : PySem.W.nsIn K mainGlobals "range" = some none)
    (b_any : PySem.W.nsIn K mainGlobals "any" = some none)
    (gL : PySem.W.nsIn K mainGlobals "LETTERS" = some (some (.str letters tgL)))
    (gM : PySem.W.nsIn K mainGlobals "LONGEST_WORD" = some (some (.int 6 tgM)))
    (gG : PySem.W.nsIn K mainGlobals "GREATEST_NUMBER" = some (some (.int 1000000000000 tgG)))
    (gW : PySem.W.nsIn K mainGlobals "GREATEST_WORTH" = some (some (.int 1000000000 tgW)))
    (gO : PySem.W.nsIn K mainGlobals "GONE" = some (some (.str gone tgO)))
    (h_is_whole : HF K "is_whole" (topS 3))
    (h_is_word : HF K "is_word" (topS 4))
    (h_rises : HF K "rises" (topS 5))
    (h_is_dot : HF K "is_dot" (topS 8))
    (h_is_known : HF K "is_known" (topS 9))
    (h_together : HF K "together" (topS 10))
    (h_is_mark : HF K "is_mark" (topS 17))
    (h_is_worth : HF K "is_worth" (topS 18))
    (h_is_version : HF K "is_version" (topS 19))
    (h_all_known : HF K "all_known" (topS 20))
    (h_is_cell : HF K "is_cell" (topS 21))
    (h_look_at_cell : HF K "look_at_cell" (topS 22))
    (h_joined : HF K "joined" (topS 23))
    (h_is_elder : HF K "is_elder" (topS 25))
    (h_without_elder : HF K "without_elder" (topS 24))
    (h_dots_of : HF K "dots_of" (topS 26))
    (h_known_by : HF K "known_by" (topS 27))
    (h_worths_of : HF K "worths_of" (topS 28))
    (h_has_or_more : HF K "has_or_more" (topS 29))
    (h__law_hand : HF K "_law_hand" (topS 31))
    (h__law_draw : HF K "_law_draw" (topS 32))
    (h__law_dot : HF K "_law_dot" (topS 33))
    (h__law_known : HF K "_law_known" (topS 34))
    (h__law_versions : HF K "_law_versions" (topS 35))
    (h__law_live : HF K "_law_live" (topS 36))
    (h__law_cells : HF K "_law_cells" (topS 37))
    (h__law_all : HF K "_law_all" (topS 38))
    (h__law_told_right : HF K "_law_told_right" (topS 39))
    (aL : PySem.W.nsIn K mainGlobals "law" = some (some (.ref fL))) (hL : ∃ fd, Fun K "law" "law" (topS 40) fL fd) :
    ∃ fd : FuncData, (∀ (s : Shared) (v : Value), BindsTo s fd ⟨[v], []⟩ [("_law_script", v)]) ∧ ∀ base : Heap, K.In base → base.Ns mainGlobals mg → RunAt l.prog w K mg base CX0 callerA fa fd ["_law_script"] (spLaw K) := by
  have e := hfa.symm.trans (PySem.W.mg_of X G aL)
  cases e
  obtain ⟨fd, FL⟩ := hL
  refine ⟨fd, fun s v => ?_, fun base _ _ => ?_⟩
  · obtain ⟨oc, od, kV, doc, pm, an, cdv, ct, osl, rfl, lk, hcd⟩ := FL.ex
    exact .of_eq rfl
  have B : Bt mg := ⟨PySem.W.mg_none_of X G b_isi, PySem.W.mg_none_of X G b_len, PySem.W.mg_none_of X G b_all, PySem.W.mg_none_of X G b_int, PySem.W.mg_none_of X G b_bool, PySem.W.mg_none_of X G b_str, PySem.W.mg_none_of X G b_tuple, PySem.W.mg_none_of X G b_list, PySem.W.mg_none_of X G b_set, PySem.W.mg_none_of X G b_sorted, PySem.W.mg_none_of X G b_zip, PySem.W.mg_none_of X G b_max, PySem.W.mg_none_of X G b_min, PySem.W.mg_none_of X G b_repr, PySem.W.mg_none_of X G b_range⟩
  have f_any : mg "any" = none := PySem.W.mg_none_of X G b_any
  replace gL : ∃ t, mg "LETTERS" = some (.str letters t) := ⟨_, PySem.W.mg_of X G gL⟩
  replace gM : ∃ t, mg "LONGEST_WORD" = some (.int 6 t) := ⟨_, PySem.W.mg_of X G gM⟩
  replace gG : ∃ t, mg "GREATEST_NUMBER" = some (.int 1000000000000 t) := ⟨_, PySem.W.mg_of X G gG⟩
  replace gW : ∃ t, mg "GREATEST_WORTH" = some (.int 1000000000 t) := ⟨_, PySem.W.mg_of X G gW⟩
  replace gO : ∃ t, mg "GONE" = some (.str gone t) := ⟨_, PySem.W.mg_of X G gO⟩
  have c_is_whole : Ca l.prog w K mg base 1 "is_whole" ["thing"] (spWhole K) := by
    obtain ⟨fh, fdh, gh, Fh⟩ := h_is_whole
    exact ⟨fh, fdh, ok_whole (k := 0) B Fh, PySem.W.mg_of X G gh, Fh.kp, Fh.binds fun _ _ _ _ _ _ us hl => match us, hl with | [_], _ => rfl⟩
  have c_is_word : Ca l.prog w K mg base 1 "is_word" ["thing"] (spWord K) := by
    obtain ⟨fh, fdh, gh, Fh⟩ := h_is_word
    exact ⟨fh, fdh, ok_word (k := 0) B gL gM Fh, PySem.W.mg_of X G gh, Fh.kp, Fh.binds fun _ _ _ _ _ _ us hl => match us, hl with | [_], _ => rfl⟩
  have c_rises : Ca l.prog w K mg base 1 "rises" ["row"] (spRis K) := by
    obtain ⟨fh, fdh, gh, Fh⟩ := h_rises
    exact ⟨fh, fdh, ok_ris (k := 0) B Fh, PySem.W.mg_of X G gh, Fh.kp, Fh.binds fun _ _ _ _ _ _ us hl => match us, hl with | [_], _ => rfl⟩
  have c_risesL : Ca l.prog w K mg base 1 "rises" ["row"] (VS.spRisL K) := by
    obtain ⟨fh, fdh, gh, Fh⟩ := h_rises
    exact ⟨fh, fdh, ok_risL (k := 0) B Fh, PySem.W.mg_of X G gh, Fh.kp, Fh.binds fun _ _ _ _ _ _ us hl => match us, hl with | [_], _ => rfl⟩
  have c_is_dot : Ca l.prog w K mg base 2 "is_dot" ["thing"] (spDot K) := by
    obtain ⟨fh, fdh, gh, Fh⟩ := h_is_dot
    exact ⟨fh, fdh, ok_dot B gG c_is_whole c_is_word Fh, PySem.W.mg_of X G gh, Fh.kp, Fh.binds fun _ _ _ _ _ _ us hl => match us, hl with | [_], _ => rfl⟩
  have c_is_known : Ca l.prog w K mg base 3 "is_known" ["thing"] (spKn K) := by
    obtain ⟨fh, fdh, gh, Fh⟩ := h_is_known
    exact ⟨fh, fdh, ok_kn B c_is_dot c_rises Fh, PySem.W.mg_of X G gh, Fh.kp, Fh.binds fun _ _ _ _ _ _ us hl => match us, hl with | [_], _ => rfl⟩
  have c_together : Ca l.prog w K mg base 1 "together" ["some"] (spTog K) := by
    obtain ⟨fh, fdh, gh, Fh⟩ := h_together
    exact ⟨fh, fdh, ok_tog (k := 0) B Fh, PySem.W.mg_of X G gh, Fh.kp, Fh.binds fun _ _ _ _ _ _ us hl => match us, hl with | [_], _ => rfl⟩
  have c_is_mark : Ca l.prog w K mg base 2 "is_mark" ["thing"] (spMark K) := by
    obtain ⟨fh, fdh, gh, Fh⟩ := h_is_mark
    exact ⟨fh, fdh, ok_mark B gO c_is_whole Fh, PySem.W.mg_of X G gh, Fh.kp, Fh.binds fun _ _ _ _ _ _ us hl => match us, hl with | [_], _ => rfl⟩
  have c_is_worth : Ca l.prog w K mg base 3 "is_worth" ["thing"] (spWorth K) := by
    obtain ⟨fh, fdh, gh, Fh⟩ := h_is_worth
    exact ⟨fh, fdh, ok_worth gW c_is_whole c_is_mark Fh, PySem.W.mg_of X G gh, Fh.kp, Fh.binds fun _ _ _ _ _ _ us hl => match us, hl with | [_], _ => rfl⟩
  have c_is_version : Ca l.prog w K mg base 4 "is_version" ["thing"] (spVer K) := by
    obtain ⟨fh, fdh, gh, Fh⟩ := h_is_version
    exact ⟨fh, fdh, ok_ver B c_is_dot c_is_known c_is_worth Fh, PySem.W.mg_of X G gh, Fh.kp, Fh.binds fun _ _ _ _ _ _ us hl => match us, hl with | [_], _ => rfl⟩
  have c_all_known : Ca l.prog w K mg base 1 "all_known" ["versions"] (spAk K) := by
    obtain ⟨fh, fdh, gh, Fh⟩ := h_all_known
    exact ⟨fh, fdh, ok_ak (k := 0) Fh, PySem.W.mg_of X G gh, Fh.kp, Fh.binds fun _ _ _ _ _ _ us hl => match us, hl with | [_], _ => rfl⟩
  have c_is_cell : Ca l.prog w K mg base 5 "is_cell" ["thing"] (spCell K) := by
    obtain ⟨fh, fdh, gh, Fh⟩ := h_is_cell
    exact ⟨fh, fdh, ok_cell B f_any c_is_version c_all_known c_risesL Fh, PySem.W.mg_of X G gh, Fh.kp, Fh.binds fun _ _ _ _ _ _ us hl => match us, hl with | [_], _ => rfl⟩
  have c_look_at_cell : Ca l.prog w K mg base 6 "look_at_cell" ["thing"] (spLook K) := by
    obtain ⟨fh, fdh, gh, Fh⟩ := h_look_at_cell
    exact ⟨fh, fdh, ok_look c_is_cell Fh, PySem.W.mg_of X G gh, Fh.kp, Fh.binds fun _ _ _ _ _ _ us hl => match us, hl with | [_], _ => rfl⟩
  have c_joined : Ca l.prog w K mg base 7 "joined" ["cells"] (spJoin K) := by
    obtain ⟨fh, fdh, gh, Fh⟩ := h_joined
    exact ⟨fh, fdh, ok_join B c_look_at_cell c_all_known Fh, PySem.W.mg_of X G gh, Fh.kp, Fh.binds fun _ _ _ _ _ _ us hl => match us, hl with | [_], _ => rfl⟩
  have c_is_elder : Ca l.prog w K mg base 3 "is_elder" ["worth", "time"] (spEld K) := by
    obtain ⟨fh, fdh, gh, Fh⟩ := h_is_elder
    exact ⟨fh, fdh, ok_eld c_is_mark Fh, PySem.W.mg_of X G gh, Fh.kp, Fh.binds fun _ _ _ _ _ _ us hl => match us, hl with | [_, _], _ => rfl⟩
  have c_without_elder : Ca l.prog w K mg base 7 "without_elder" ["cell", "time"] (spWe K) := by
    obtain ⟨fh, fdh, gh, Fh⟩ := h_without_elder
    exact ⟨fh, fdh, ok_we B c_look_at_cell c_is_elder Fh, PySem.W.mg_of X G gh, Fh.kp, Fh.binds fun _ _ _ _ _ _ us hl => match us, hl with | [_, _], _ => rfl⟩
  have c_dots_of : Ca l.prog w K mg base 7 "dots_of" ["cell"] (spDots K) := by
    obtain ⟨fh, fdh, gh, Fh⟩ := h_dots_of
    exact ⟨fh, fdh, ok_dots B c_look_at_cell Fh, PySem.W.mg_of X G gh, Fh.kp, Fh.binds fun _ _ _ _ _ _ us hl => match us, hl with | [_], _ => rfl⟩
  have c_known_by : Ca l.prog w K mg base 8 "known_by" ["cell"] (spKb K) := by
    obtain ⟨fh, fdh, gh, Fh⟩ := h_known_by
    exact ⟨fh, fdh, ok_kb c_dots_of c_together Fh, PySem.W.mg_of X G gh, Fh.kp, Fh.binds fun _ _ _ _ _ _ us hl => match us, hl with | [_], _ => rfl⟩
  have c_worths_of : Ca l.prog w K mg base 7 "worths_of" ["cell"] (spWo K) := by
    obtain ⟨fh, fdh, gh, Fh⟩ := h_worths_of
    exact ⟨fh, fdh, ok_wo c_look_at_cell c_is_mark Fh, PySem.W.mg_of X G gh, Fh.kp, Fh.binds fun _ _ _ _ _ _ us hl => match us, hl with | [_], _ => rfl⟩
  have c_has_or_more : Ca l.prog w K mg base 9 "has_or_more" ["cell", "dots"] (spHm K) := by
    obtain ⟨fh, fdh, gh, Fh⟩ := h_has_or_more
    exact ⟨fh, fdh, ok_hm B c_known_by Fh, PySem.W.mg_of X G gh, Fh.kp, Fh.binds fun _ _ _ _ _ _ us hl => match us, hl with | [_, _], _ => rfl⟩
  have c__law_hand : Ca l.prog w K mg base 1 "_law_hand" ["_law_script", "_law_k"] (spHand K) := by
    obtain ⟨fh, fdh, gh, Fh⟩ := h__law_hand
    exact ⟨fh, fdh, ok_hand (k := 0) B Fh, PySem.W.mg_of X G gh, Fh.kp, Fh.binds fun _ _ _ _ _ _ us hl => match us, hl with | [_, _], _ => rfl⟩
  have c__law_draw : Ca l.prog w K mg base 1 "_law_draw" ["_law_pool", "_law_size"] spDraw := by
    obtain ⟨fh, fdh, gh, Fh⟩ := h__law_draw
    exact ⟨fh, fdh, ok_draw (k := 0) Fh, PySem.W.mg_of X G gh, Fh.kp, Fh.binds fun _ _ _ _ _ _ us hl => match us, hl with | [_, _], _ => rfl⟩
  have c__law_dot : Ca l.prog w K mg base 2 "_law_dot" ["_law_pool"] spLd3 := by
    obtain ⟨fh, fdh, gh, Fh⟩ := h__law_dot
    exact ⟨fh, fdh, ok_ld3 c__law_draw Fh, PySem.W.mg_of X G gh, Fh.kp, Fh.binds fun _ _ _ _ _ _ us hl => match us, hl with | [_], _ => rfl⟩
  have c__law_known : Ca l.prog w K mg base 3 "_law_known" ["_law_pool", "_law_most"] (spLk3 K) := by
    obtain ⟨fh, fdh, gh, Fh⟩ := h__law_known
    exact ⟨fh, fdh, ok_lk3 B c__law_draw c__law_dot Fh, PySem.W.mg_of X G gh, Fh.kp, Fh.binds fun _ _ _ _ _ _ us hl => match us, hl with | [_, _], _ => rfl⟩
  have c__law_versions : Ca l.prog w K mg base 4 "_law_versions" ["_law_pool", "_law_many"] (spVs K) := by
    obtain ⟨fh, fdh, gh, Fh⟩ := h__law_versions
    exact ⟨fh, fdh, ok_vs B c__law_draw c__law_dot c__law_known Fh, PySem.W.mg_of X G gh, Fh.kp, Fh.binds fun _ _ _ _ _ _ us hl => match us, hl with | [_, _], _ => rfl⟩
  have c__law_live : Ca l.prog w K mg base 1 "_law_live" ["_law_some"] (spLive K) := by
    obtain ⟨fh, fdh, gh, Fh⟩ := h__law_live
    exact ⟨fh, fdh, ok_live (k := 0) B Fh, PySem.W.mg_of X G gh, Fh.kp, Fh.binds fun _ _ _ _ _ _ us hl => match us, hl with | [_], _ => rfl⟩
  have c__law_cells : Ca l.prog w K mg base 2 "_law_cells" ["_law_pool", "_law_book", "_law_many"] (spCs K) := by
    obtain ⟨fh, fdh, gh, Fh⟩ := h__law_cells
    exact ⟨fh, fdh, ok_cs B c__law_draw c__law_live Fh, PySem.W.mg_of X G gh, Fh.kp, Fh.binds fun _ _ _ _ _ _ us hl => match us, hl with | [_, _, _], _ => rfl⟩
  have c__law_all : Ca l.prog w K mg base 1 "_law_all" ["_law_cells_here"] (spAll K) := by
    obtain ⟨fh, fdh, gh, Fh⟩ := h__law_all
    exact ⟨fh, fdh, ok_all (k := 0) B Fh, PySem.W.mg_of X G gh, Fh.kp, Fh.binds fun _ _ _ _ _ _ us hl => match us, hl with | [_], _ => rfl⟩
  have c__law_told_right : Ca l.prog w K mg base 10 "_law_told_right" ["_law_pool", "_law_cell"] (spTr K) := by
    obtain ⟨fh, fdh, gh, Fh⟩ := h__law_told_right
    exact ⟨fh, fdh, ok_tr B c__law_draw c__law_dot c_dots_of c_known_by c_worths_of c_without_elder c_has_or_more Fh, PySem.W.mg_of X G gh, Fh.kp, Fh.binds fun _ _ _ _ _ _ us hl => match us, hl with | [_, _], _ => rfl⟩
  exact ok_law B c__law_hand c__law_draw c__law_versions c__law_cells c_joined c__law_live c__law_all c_is_cell c__law_told_right c_known_by c_worths_of FL
end K01

open PySem PySem.W PyProof.Rows
set_option Elab.async false
set_option maxRecDepth 100000 in
set_option maxHeartbeats 0 in
theorem PySem.Challenge.cw_heldhints_k03_cells_joined_holds : PySem.Challenge.rw_heldhints_k03_cells_joined.Holds := by
  w_on; o_law; k_head; (case hw => w_witness2)
  k_fill
  refine L2.walk_at (l := PySem.Challenge.rw_heldhints_k03_cells_joined) (n := 63) (x := "_law_script") (CX := fun _ => L2.CX0) (sp := fun w => K01.spLaw _) rfl (by decide) rfl (fun w h Y => PySem.W.kIn_of Y) ?F (fun _ _ a ns hl _ hS => ⟨a, ns, rfl, hS, hl, fun _ => rfl⟩) (fun _ _ _ _ _ h => h)
  case F =>
    intro w mg fa h KX G hmg
    refine' K01.all_mk KX G hmg ?b_isi ?b_len ?b_all ?b_int ?b_bool ?b_str ?b_tuple ?b_list ?b_set ?b_sorted ?b_zip ?b_max ?b_min ?b_repr ?b_range ?b_any ?gL ?gM ?gG ?gW ?gO ?h_is_whole ?h_is_word ?h_rises ?h_is_dot ?h_is_known ?h_together ?h_is_mark ?h_is_worth ?h_is_version ?h_all_known ?h_is_cell ?h_look_at_cell ?h_joined ?h_is_elder ?h_without_elder ?h_dots_of ?h_known_by ?h_worths_of ?h_has_or_more ?h__law_hand ?h__law_draw ?h__law_dot ?h__law_known ?h__law_versions ?h__law_live ?h__law_cells ?h__law_all ?h__law_told_right ?aL ?hL
    (case b_isi => k_is)
    (case b_len => k_is)
    (case b_all => k_is)
    (case b_int => k_is)
    (case b_bool => k_is)
    (case b_str => k_is)
    (case b_tuple => k_is)
    (case b_list => k_is)
    (case b_set => k_is)
    (case b_sorted => k_is)
    (case b_zip => k_is)
    (case b_max => k_is)
    (case b_min => k_is)
    (case b_repr => k_is)
    (case b_range => k_is)
    (case b_any => k_is)
    (case gL => k_is)
    (case gM => k_is)
    (case gG => k_is)
    (case gW => k_is)
    (case gO => k_is)
    (case h_is_whole => (refine' ⟨_, _, ?i1, L2.fun_mk ?i3 ?i4 ?i5⟩; (case i1 => k_is); (case i3 => k_is); (case i4 => k_is); (case i5 => k_is)))
    (case h_is_word => (refine' ⟨_, _, ?i1, L2.fun_mk ?i3 ?i4 ?i5⟩; (case i1 => k_is); (case i3 => k_is); (case i4 => k_is); (case i5 => k_is)))
    (case h_rises => (refine' ⟨_, _, ?i1, L2.fun_mk ?i3 ?i4 ?i5⟩; (case i1 => k_is); (case i3 => k_is); (case i4 => k_is); (case i5 => k_is)))
    (case h_is_dot => (refine' ⟨_, _, ?i1, L2.fun_mk ?i3 ?i4 ?i5⟩; (case i1 => k_is); (case i3 => k_is); (case i4 => k_is); (case i5 => k_is)))
    (case h_is_known => (refine' ⟨_, _, ?i1, L2.fun_mk ?i3 ?i4 ?i5⟩; (case i1 => k_is); (case i3 => k_is); (case i4 => k_is); (case i5 => k_is)))
    (case h_together => (refine' ⟨_, _, ?i1, L2.fun_mk ?i3 ?i4 ?i5⟩; (case i1 => k_is); (case i3 => k_is); (case i4 => k_is); (case i5 => k_is)))
    (case h_is_mark => (refine' ⟨_, _, ?i1, L2.fun_mk ?i3 ?i4 ?i5⟩; (case i1 => k_is); (case i3 => k_is); (case i4 => k_is); (case i5 => k_is)))
    (case h_is_worth => (refine' ⟨_, _, ?i1, L2.fun_mk ?i3 ?i4 ?i5⟩; (case i1 => k_is); (case i3 => k_is); (case i4 => k_is); (case i5 => k_is)))
    (case h_is_version => (refine' ⟨_, _, ?i1, L2.fun_mk ?i3 ?i4 ?i5⟩; (case i1 => k_is); (case i3 => k_is); (case i4 => k_is); (case i5 => k_is)))
    (case h_all_known => (refine' ⟨_, _, ?i1, L2.fun_mk ?i3 ?i4 ?i5⟩; (case i1 => k_is); (case i3 => k_is); (case i4 => k_is); (case i5 => k_is)))
    (case h_is_cell => (refine' ⟨_, _, ?i1, L2.fun_mk ?i3 ?i4 ?i5⟩; (case i1 => k_is); (case i3 => k_is); (case i4 => k_is); (case i5 => k_is)))
    (case h_look_at_cell => (refine' ⟨_, _, ?i1, L2.fun_mk ?i3 ?i4 ?i5⟩; (case i1 => k_is); (case i3 => k_is); (case i4 => k_is); (case i5 => k_is)))
    (case h_joined => (refine' ⟨_, _, ?i1, L2.fun_mk ?i3 ?i4 ?i5⟩; (case i1 => k_is); (case i3 => k_is); (case i4 => k_is); (case i5 => k_is)))
    (case h_is_elder => (refine' ⟨_, _, ?i1, L2.fun_mk ?i3 ?i4 ?i5⟩; (case i1 => k_is); (case i3 => k_is); (case i4 => k_is); (case i5 => k_is)))
    (case h_without_elder => (refine' ⟨_, _, ?i1, L2.fun_mk ?i3 ?i4 ?i5⟩; (case i1 => k_is); (case i3 => k_is); (case i4 => k_is); (case i5 => k_is)))
    (case h_dots_of => (refine' ⟨_, _, ?i1, L2.fun_mk ?i3 ?i4 ?i5⟩; (case i1 => k_is); (case i3 => k_is); (case i4 => k_is); (case i5 => k_is)))
    (case h_known_by => (refine' ⟨_, _, ?i1, L2.fun_mk ?i3 ?i4 ?i5⟩; (case i1 => k_is); (case i3 => k_is); (case i4 => k_is); (case i5 => k_is)))
    (case h_worths_of => (refine' ⟨_, _, ?i1, L2.fun_mk ?i3 ?i4 ?i5⟩; (case i1 => k_is); (case i3 => k_is); (case i4 => k_is); (case i5 => k_is)))
    (case h_has_or_more => (refine' ⟨_, _, ?i1, L2.fun_mk ?i3 ?i4 ?i5⟩; (case i1 => k_is); (case i3 => k_is); (case i4 => k_is); (case i5 => k_is)))
    (case h__law_hand => (refine' ⟨_, _, ?i1, L2.fun_mk ?i3 ?i4 ?i5⟩; (case i1 => k_is); (case i3 => k_is); (case i4 => k_is); (case i5 => k_is)))
    (case h__law_draw => (refine' ⟨_, _, ?i1, L2.fun_mk ?i3 ?i4 ?i5⟩; (case i1 => k_is); (case i3 => k_is); (case i4 => k_is); (case i5 => k_is)))
    (case h__law_dot => (refine' ⟨_, _, ?i1, L2.fun_mk ?i3 ?i4 ?i5⟩; (case i1 => k_is); (case i3 => k_is); (case i4 => k_is); (case i5 => k_is)))
    (case h__law_known => (refine' ⟨_, _, ?i1, L2.fun_mk ?i3 ?i4 ?i5⟩; (case i1 => k_is); (case i3 => k_is); (case i4 => k_is); (case i5 => k_is)))
    (case h__law_versions => (refine' ⟨_, _, ?i1, L2.fun_mk ?i3 ?i4 ?i5⟩; (case i1 => k_is); (case i3 => k_is); (case i4 => k_is); (case i5 => k_is)))
    (case h__law_live => (refine' ⟨_, _, ?i1, L2.fun_mk ?i3 ?i4 ?i5⟩; (case i1 => k_is); (case i3 => k_is); (case i4 => k_is); (case i5 => k_is)))
    (case h__law_cells => (refine' ⟨_, _, ?i1, L2.fun_mk ?i3 ?i4 ?i5⟩; (case i1 => k_is); (case i3 => k_is); (case i4 => k_is); (case i5 => k_is)))
    (case h__law_all => (refine' ⟨_, _, ?i1, L2.fun_mk ?i3 ?i4 ?i5⟩; (case i1 => k_is); (case i3 => k_is); (case i4 => k_is); (case i5 => k_is)))
    (case h__law_told_right => (refine' ⟨_, _, ?i1, L2.fun_mk ?i3 ?i4 ?i5⟩; (case i1 => k_is); (case i3 => k_is); (case i4 => k_is); (case i5 => k_is)))
    (case aL => k_is)
    (case hL => (refine' ⟨_, L2.fun_mk ?i3 ?i4 ?i5⟩; (case i3 => k_is); (case i4 => k_is); (case i5 => k_is)))
