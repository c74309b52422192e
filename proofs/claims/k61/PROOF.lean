import PyProof.Rows.All
import Wide.All
import OpenK.AllK
import Wide.FinOn
import HandS.ForMost
import HandS.TupSets
import KE.KSortTupUse
import HandS.SetBool
import HandS.Comp
import HandS.TupAny
import HandS.TupLe
import HandS.Zip
import HandS.IsInst
import HandS.Style
import HandS.AnyAll
import HandS.Walk
import HandS.Defaults
import KE.SortCalls
import HandS.DictComp
import PyProof.P3In
import KE.KDictSum
import HandS.Conv
import HandS.Zip0
import HandS.Codes
import HandS.Deep
import KE.GoesMore
import KE.SortData
import HandS.Set
import HandS.SetTxt0
import HandS.Exc
import HandS.ExcInit
import KE.KExcIs
import HandS.Lambda
import HandS.Rev
import HandS.Wide
import HandS.TupMul
import HandS.NoneIn
import HandS.OwnEq
import HandS.DeepEq
import KE.DataMinMax
import HandS.Text
import KE.DataFind
import PyProof.StrHeap
import HandS.ExcOwn
import HandS.TryMany
import HandS.Finally
import HandS.BoundDict
import HandS.ListItems
import PyProof.TupleOfSeq
import HandS.CallSlots
import PyProof.ListStr
import HandS.List
import KE.KDictCopyH
import HandS.DictSubView
import PyProof.DictMoreH
import HandS.MakeKw
import HandS.MakeKwOnly
import HandS.Small
import HandS.RevRange
import HandS.Flow
import PyProof.StrBlock2
import HandS.Replace
import HandS.RaiseMore
import HandS.Nested
import HandS.EndTab
import HandS.EndBits
import HandS.More
import KE.KUnpackStar
import KE.GoesZip
import KE.DatumMoreOrd
import KE.IntTextLaws
import PySem.Challenge.RW_heldhints_k61_weavings_written
set_option Elab.async false
set_option linter.all false
set_option maxRecDepth 100000
set_option maxHeartbeats 4000000

namespace MS
open PySem PySem.Spec PyProof.Rows L2
abbrev MH (P : Program) (w : World) (k : List Key) : Int := tupleKeyHash (mixKind P w) k
abbrev MT (P : Program) (w : World) (h : Heap) (k : List Key) (a : Addr) : Prop := IsTupleKey (mixKind P w) h k a
abbrev Row := Addr × List Key
def enc (P : Program) (w : World) (p : Row) : Int × Value := (MH P w p.2, Value.ref p.1)
def hs (P : Program) (w : World) (L : List Row) : List Int := L.map fun p => MH P w p.2
section
variable {P : Program} {w : World} {A : Around} {E : Value → Shared → Prop} {s : Shared}

def Leaf (v : Value) : Prop := (∃ i t, v = Value.int i t) ∨ ∃ x t, v = Value.str x t

structure SR (P : Program) (w : World) (h : Heap) (a : Addr) (L : List Row) (es : Array (Int × Value)) (ep : Nat) (t : SetTable) : Prop where
  ob : ∃ o, h.get? a = some o ∧ o.ExactSet ∧ o.data = .set es ep t
  rw_ : es.toList = L.map (enc P w)
  tab : TabOk t (hs P w L)
  nd : (L.map (·.2)).Nodup
  led : w.params.followText "set-order" = true ∨ t.led = true
  room : L.length * 5 < t.mask * 3
  few : L.length < 64
def Tups (P : Program) (w : World) (h : Heap) (L : List Row) : Prop := ∀ p ∈ L, MT P w h p.2 p.1
variable {a : Addr} {L : List Row} {es : Array (Int × Value)} {ep : Nat} {t : SetTable}
theorem SR.at_ {h : Heap} (R : SR P w h a L es ep t) {i : Nat} {p : Row} (z : L[i]? = some p) : es[i]? = some (enc P w p) := by
  rw [← Array.getElem?_toList, R.rw_, List.getElem?_map, z] <;> rfl
abbrev st0 (m : Nat) (h : Int) : SetTable.Probe := runAt m (SetTable.bits h % (m + 1)) (SetTable.bits h)
end
end MS

set_option maxRecDepth 100000
set_option maxHeartbeats 4000000
namespace MS
open PySem PySem.Spec PyProof.Rows L2
section
variable {P : Program} {w : World} {A : Around} {E : Value → Shared → Prop} {s : Shared}
variable {a : Addr} {L : List Row} {es : Array (Int × Value)} {ep : Nat} {t : SetTable}
abbrev newO (w : World) : Obj := { cls := .type "set", dict := none, data := .set #[] 0 (.fresh 0 0 (!w.params.followText "set-order")) }
structure Of (ks : List Row) (L : List Row) : Prop where
  sub : ∀ p ∈ L, p ∈ ks
  all : ∀ p ∈ ks, p.2 ∈ L.map (·.2)
  len : L.length ≤ ks.length
theorem Of.nil : Of [] [] := ⟨(fun p z => nomatch z), (fun p z => nomatch z), Nat.le_refl _⟩
end
end MS

set_option maxRecDepth 100000
set_option maxHeartbeats 4000000
namespace MS
open PySem PySem.Spec PyProof.Rows L2
section
variable {P : Program} {w : World} {A : Around} {E : Value → Shared → Prop} {s : Shared}
def Keeps (h h' : Heap) : Prop := ∀ b o, h.get? b = some o → h'.get? b = some o
end
end MS

set_option maxRecDepth 100000
set_option maxHeartbeats 4000000
namespace MS
open PySem PySem.Spec PyProof.Rows L2
open PyProof.Rows.G (sh1 tupKindC tupKeyC tupKeyC_of list_sort_tups)
def D3 (k : List Key) : Prop := ∃ (n : Int) (x : PySem.Str) (l : Int), k = [.inl n, .inr x, .inl l]
def code (k : List Key) : List (Int ⊕ List Nat) := k.map fun | .inl i => .inl i | .inr x => .inr x.cps.toList
def dlt (a b : List Key) : Bool := lexLt itemOrd (code a) (code b)
section
variable {P : Program} {w : World} {A : Around} {E : Value → Shared → Prop} {s : Shared}
variable {a : Addr} {L : List Row} {es : Array (Int × Value)} {ep : Nat} {t : SetTable}
end

def MSO (P : Program) (w : World) (a : Addr) (L : List Row) : HO := .ext fun h => ∃ es ep t, SR P w h a L es ep t
def Dots (K : PySem.W.Frag) (H : Hp) (ps : List Row) : Prop := ∀ p ∈ ps, SqT K H p.1 (p.2.map kV)
section
variable {X : Cx}
def rSetM (K : PySem.W.Frag) (P : Program) (w : World) : List V → Hp → VK → Prop := fun xs H Q => ∃ (l : Addr) (ks : List Row), xs = [V.ref l] ∧ (SqL K H l (ks.map fun p => V.ref p.1) ∨ SqT K H l (ks.map fun p => V.ref p.1)) ∧ Dots K H ks ∧ ks.length < 64 ∧
  ∀ a L, H a = none → Of ks L → Q (.ref a) (upd H a (MSO P w a L))
def rSortM (K : PySem.W.Frag) (P : Program) (w : World) : List V → Hp → VK → Prop := fun vs H Q => ∃ (a : Addr) (L : List Row), vs = [V.ref a] ∧ H a = some (MSO P w a L) ∧ Dots K H L ∧ (∀ p ∈ L, D3 p.2) ∧
  ∀ (L' : List Row) (p : Addr), L'.Perm L → (L'.map (·.2)).Nodup → L'.length < 64 → L'.Pairwise (fun x y => dlt y.2 x.2 = false) → H p = none → Q (.ref p) (upd H p (.lst (L'.map fun q => V.ref q.1)))
end
end MS

set_option maxRecDepth 100000
set_option maxHeartbeats 4000000
namespace MS
open PySem PySem.Spec PyProof.Rows L2

section
variable {P : Program} {w : World} {A : Around} {E : Value → Shared → Prop} {s : Shared} {a : Addr} {L : List Row} {es : Array (Int × Value)} {ep : Nat} {t : SetTable}
end
section
variable {X : Cx}
end

section
variable {prog : Program} {w : World} {A : Around} {R : Result → Shared → Prop} {s : Shared} {e x0 y0 x1 y1 : Expr} {sc : Scope} {pos : Pos} {it acc : Value} {env : Env}
abbrev SC (e x0 y0 x1 y1 : Expr) (sc : Scope) (pos : Pos) : Expr := .SetComp e [⟨x0, y0, [], 0⟩, ⟨x1, y1, [], 0⟩] sc pos
abbrev NB (M : Model) (A : Around) (env : Env) (R : Result → Shared → Prop) : Value → Shared → Prop := notedBy M A env fun e s' => R (.error e) s'
end
end MS

set_option maxRecDepth 100000
set_option maxHeartbeats 4000000
namespace MS
open PySem PySem.Spec PyProof.Rows L2

section
variable {Y : Cx} {pl : List (Addr × Obj)} {tg : Expr} {J : It} {fp : List Addr} {it : Addr} {tn : Nat → Heap → Prop}
def Stand (Y : Cx) (pl : List (Addr × Obj)) (tn : Nat → Heap → Prop) (fp : List Addr) (i : Nat) (ρ : L2.St) (G : Hp) (z : Shared) : Prop := Inv Y pl ρ G z ∧ tn i z.heap ∧ ∀ b ∈ fp, G b = none
end

section
variable {X : Cx}
def tSc2 (K : PySem.W.Frag) (P : Program) (w : World) (wi : TI) (g : TG) (wi1 : TI) (g1 : TG) (te : TE) (vs vs1 : List Nat) : TE := fun σ H Q => wi σ H fun J H1 => ∀ D, H1 D = none → ∃ W : Nat → Nat → Hp → Prop, (∃ m, W 0 m (upd H1 D (MSO P w D []))) ∧
  ∀ i m H, W i m H → (J.stop i H ∧ Q (.ref D) H) ∨ (J.go i H ∧ ∃ Nx : Hp → Prop, (∀ H', Nx H' → ∃ m', m' < m ∧ W (i + 1) m' H') ∧ ∀ x H', J.yld i H x H' → g x (wipe σ vs) H' fun σ2 H2 => wipe σ2 vs = wipe σ vs ∧
    wi1 σ2 H2 fun J1 H4 => ∃ W1 : Nat → Nat → Hp → Prop, (∃ m, W1 0 m H4) ∧ ∀ j k H, W1 j k H → (J1.stop j H ∧ Nx H) ∨ (J1.go j H ∧ ∃ Nx1 : Hp → Prop, (∀ H', Nx1 H' → ∃ k', k' < k ∧ W1 (j + 1) k' H') ∧ ∀ x H', J1.yld j H x H' →
      g1 x (wipe σ2 vs1) H' fun σ3 H5 => wipe σ3 vs1 = wipe σ2 vs1 ∧ te σ3 H5 fun y H7 => ∃ (a : Addr) (k : List Key) (L : List Row), y = .ref a ∧ SqT K H7 a (k.map kV) ∧ H7 D = some (MSO P w D L) ∧ Dots K H7 L ∧ L.length + 1 < 64 ∧
        ∀ L', (k ∈ L.map (·.2) → L' = L) → (k ∉ L.map (·.2) → L'.Perm ((a, k) :: L)) → Nx1 (upd H7 D (MSO P w D L'))))
end
end MS

set_option maxRecDepth 100000
set_option maxHeartbeats 4000000
namespace L2
open PySem PySem.Spec PyProof.Rows
def RunAt (P : Program) (w : World) (K : PySem.W.Frag) (mg : Str → Option Value) (base : Heap) (CX : CXT) (A : Around) (f : Addr) (fd : FuncData) (ps : List Str) (sp : Sp) : Prop :=
  ∀ (outer : List Env) (s : Shared) (H : Hp) (args : Args) (us : List Value) (vs : List V) (Q : VK) (E : XK), Env0 P w K mg base A outer s H → BindsTo s fd args (ps.zip us) → Vals vs us → sp vs H Q E → codeAny (model P w) A (.call (.ref f) args) (CR CX outer P w H s Q E) s
theorem run_at {CX : CXT} {P : Program} {w : World} {K : PySem.W.Frag} {mg : Str → Option Value} {base : Heap} {k : Nat} {f : Addr} {name qual : Str} {params : Arguments} {body : List Stmt} {sc : Scope} {dV kV doc pm cdv ct oc : Value} {an od : Option Addr}
    {osl : Array (Option Value)} {N ps : List Str} {sp : Sp} {A : Around} (lk : K.lookup f = some ⟨oc, od, .func (PySem.W.fnOf name qual params body sc dV kV doc pm an cdv ct), osl⟩) (hcd : PySem.W.codeIn K cdv qual = true) (S : FnScope N ps sc)
    (len : ∀ vs H Q E, sp vs H Q E → vs.length = ps.length) (hr : Room (k + 1) A)
    (bd : ∀ (outer : List Env) (s : Shared) (H : Hp) (vs : List V) (Q : VK) (E : XK), sp vs H Q E → ∃ t, PSs (cxOf CX P w K mg base N qual sc f cdv A outer s H E) body t ∧ t { nx := fun _ H' => Q .non H', rt := Q } (start N vs) H) :
    RunAt P w K mg base CX A f (PySem.W.fnOf name qual params body sc dV kV doc pm an cdv ct) ps sp := by
  intro outer s H args us vs Q E e0 hb r hsp
  have l0 := len _ _ _ _ hsp
  have kx : K.In s.heap := e0.mod.kin.keeps fun b o z => (e0.bs b o z).1
  have nl : s.heap.NoLimit := e0.mod.nolimit.keeps fun b o z => (e0.bs b o z).1
  have kd : ∀ y ∈ ps.zip us, sc.names.lookup y.1 = some .local ∨ (sc.names.lookup y.1 = some .cell ∧ ((cellsFrom (s.heap.objs.size + 1) sc.names []).lookup y.1).isSome = true) := fun ⟨n, v⟩ hy => by
    rcases S.par n (List.of_mem_zip hy).1 with z | z
    · exact .inl z
    · exact .inr ⟨z, PySem.W.cellsFrom_some _ _ _ (.inl z)⟩
  refine codeAny_call_function hr.depth (kx _ _ lk) rfl S.co S.gen rfl (PySem.W.codeRec_of kx hcd) (hb _ _ _ _ ?_)
  refine wpAny_newFunctionEnv_cells S.kind kd fun env he s1 x => ?_
  subst he
  refine ⟨nl.keeps x.toInCall.keep, codeAny_func ?_⟩
  obtain ⟨t, ht, hq⟩ := bd outer s H vs Q E hsp
  have J : Inv (cxOf CX P w K mg base N qual sc f cdv A outer s H E) [] (start N vs) H s1 := inv_start S hr.hd e0 l0 r x
  refine wpAny_mono (ht.run [] s1 (start N vs) H _ J hq) (fun fl s' hs => ?_) fun e s' hs => hs
  cases fl with
  | ret u =>
    obtain ⟨v, σ', H', J, rv, q⟩ := hs
    exact ⟨v, H', J.os, J.bare, J.base, J.hok, rv, q⟩
  | next =>
    obtain ⟨σ', H', J, q⟩ := hs
    exact ⟨V.non, H', J.os, J.bare, J.base, J.hok, rfl, q⟩
  | brk =>
    obtain ⟨_, _, _, q⟩ := hs
    exact False.elim q
  | cont =>
    obtain ⟨_, _, _, q⟩ := hs
    exact False.elim q
theorem Fun.at {P : Program} {w : World} {K : PySem.W.Frag} {mg : Str → Option Value} {base : Heap} {x qual : Str} {st : Stmt} {f : Addr} {fd : FuncData} {N ps : List Str} {k : Nat} {sp : Sp} {A : Around} (F : Fun K x qual st f fd) (S : FnScope N ps (defScope st)) (len : ∀ vs H Q E, sp vs H Q E → vs.length = ps.length) (hr : Room (k + 1) A)
    (bd : ∀ (cdv : Value) (outer : List Env) (s : Shared) (H : Hp) (vs : List V) (Q : VK) (E : XK), sp vs H Q E →
      ∃ t, PSs (cxOf CX0 P w K mg base N qual (defScope st) f cdv A outer s H E).nox (defBody st) t ∧ t { nx := fun _ H' => Q .non H', rt := Q } (start N vs) H) : RunAt P w K mg base CX0 A f fd ps sp := by
  obtain ⟨oc, od, kV, doc, pm, an, cdv, ct, osl, rfl, lk, hcd⟩ := F.ex
  refine run_at lk hcd S len hr fun outer s H vs Q E hsp => ?_
  obtain ⟨t, h, q⟩ := bd cdv outer s H vs Q E hsp
  exact ⟨t, h.nox, q⟩
theorem law_at {P : Program} {w : World} {K : PySem.W.Frag} {mg mb : Str → Option Value} {CX : CXT} {fa a : Addr} {fd : FuncData} {x : Str} {sp : Sp} {s₁ : Shared} {vs : List Value} {ns : List Int}
    (kX : K.In s₁.heap) (gN : s₁.heap.Ns mainGlobals mg) (bN : s₁.heap.Ns builtinsNs mb) (bB : ∀ x : Str, x ≠ "__name__" → mb x = bootBuiltins x) (nL : s₁.heap.NoLimit) (g0 : s₁.gens = #[])
    (oa : s₁.heap.get? a = some { cls := .type "list", data := .seq vs.toArray }) (ia : IntsAre vs ns) (la : ns.length ≤ sizeLine)
    (F : ∀ base : Heap, K.In base → base.Ns mainGlobals mg → RunAt P w K mg base CX callerA fa fd [x] sp) (bi : ∀ (s : Shared) (u : Value), BindsTo s fd ⟨[u], []⟩ [(x, u)])
    (pr : ∀ H : Hp, Only H → SqL K H a (ns.map V.int) → sp [.ref a] H (fun v _ => v = .bl true) fun _ _ _ => False)
    (cx : ∀ H e s', CX [] H s₁ (fun _ _ _ => False) e s' → False) :
    codeAny (model P w) callerA (.call (.ref fa) ⟨[.ref a], []⟩) (fun r s' => r = .ok (.ret (.bool true)) ∧ OldK s₁.heap s'.heap ∧ s'.os = s₁.os ∧ AllBare s'.gens) s₁ := by
  have rv := vals_ints ia
  have lv := ia.length
  have kern : ∀ H : Hp, Only H → SqL K H a (ns.map V.int) → HOk P w H s₁.heap → (∀ b, H b ≠ none → b = a) → (H a ≠ none → K.lookup a = none) →
      codeAny (model P w) callerA (.call (.ref fa) ⟨[.ref a], []⟩) (fun r s' => r = .ok (.ret (.bool true)) ∧ OldK s₁.heap s'.heap ∧ s'.os = s₁.os ∧ AllBare s'.gens) s₁ := by
    intro H yO yS yok yA yK
    have up : ∀ {b : Addr} {o : Obj}, s₁.heap.get? b = some o → H b = none → (hidT s₁.heap H).get? b = some o := fun z n => hidT_get z n
    have off : ∀ {b : Addr} {o : Obj} {es : Array DictEntry} {ep : Nat}, s₁.heap.get? b = some o → o.data = .dict es ep → H b = none := fun {b o es ep} z d => by
      cases q : H b with
      | none => rfl
      | some u =>
        have z' : b = a := yA b (by rw [q]; simp)
        subst z'
        rw [oa] at z; cases z
        have d' : Data.seq vs.toArray _ = Data.dict es ep := d
        cases d'
    have nk : ∀ {b : Addr} {m : Str → Option Value}, s₁.heap.Ns b m → (hidT s₁.heap H).Ns b m := fun {b m} ⟨o, es, ep, z, d, r⟩ => ⟨o, es, ep, up z (off z d), d, r⟩
    have kb : K.In (hidT s₁.heap H) := fun b o z => up (kX b o z) (by
      cases q : H b with
      | none => rfl
      | some u =>
        have z' : b = a := yA b (by rw [q]; simp)
        subst z'
        rw [yK (by rw [q]; simp)] at z; cases z)
    have mo : Mod K mg (hidT s₁.heap H) := ⟨kb, nk gN, ⟨mb, nk bN, bB⟩, let ⟨mc, h1, h2⟩ := nL; ⟨mc, nk h1, h2⟩⟩
    have e0 : Env0 P w K mg (hidT s₁.heap H) callerA [] s₁ H := ⟨rfl, mo, fun b o z => of_hidT z, Nat.le_of_eq (hidT_size _ _), trivial, fun b z => absurd (show b ∈ ([] : List Addr) from z) (by simp), yok, .of_eq g0⟩
    refine codeAny_mono (F _ kb (nk gN) [] s₁ H ⟨[.ref a], []⟩ [.ref a] [.ref a] _ _ e0 (bi s₁ (.ref a)) (.cons rfl .nil) (pr H yO yS)) fun r s' h => ?_
    cases r with
    | error e => exact (cx H e s' h).elim
    | ok fl =>
      cases fl with
      | next => exact False.elim h
      | brk => exact False.elim h
      | cont => exact False.elim h
      | ret u =>
        obtain ⟨v, H', os, bare, un, hok', r', q⟩ := h
        have q' : v = .bl true := q
        subst q'
        obtain rfl : u = Value.bool true := r'
        refine ⟨rfl, OldK.of_keep fun b o z => ?_, os, bare⟩
        cases q : H b with
        | none => exact un.keep b o z q (by intro y; exact absurd (show b ∈ ([] : List Addr) from y) (by simp)) (by simp)
        | some u =>
          rcases yO b with y | ⟨ob, xs, y⟩
          · rw [q] at y; cases y
          · have y2 := un.frzs b ob _ y
            obtain ⟨e1, _⟩ := yok b _ y
            obtain ⟨e2, _⟩ := hok' b _ y2
            rw [z] at e1; cases e1
            exact e2
  cases hk : K.lookup a with
  | some o =>
    have z := kX a o hk
    rw [oa] at z
    cases z
    refine kern (fun _ => none) (fun _ => .inl rfl) (.inr ⟨_, vs.toArray, _, hk, rfl, rfl, rfl, by rw [List.size_toArray, lv]; exact la, by simpa using rv⟩) (fun b u y => by have y' : (none : Option HO) = some u := y; cases y') (fun b y => absurd rfl y) fun y => absurd rfl y
  | none =>
    refine kern (fun b => if b = a then some (.frz { cls := .type "list", data := .seq vs.toArray } (.lst (ns.map V.int))) else none) (fun b => ?_) (.inl (.inr ⟨{ cls := .type "list", data := .seq vs.toArray }, if_pos rfl⟩)) (fun b u y => ?_) (fun b y => ?_) fun _ => hk
    · by_cases hb : b = a
      · exact .inr ⟨_, _, if_pos hb⟩
      · exact .inl (if_neg hb)
    · by_cases hb : b = a
      · have y' := (if_pos hb).symm.trans y
        cases y'
        subst hb
        exact ⟨oa, by rw [List.length_map]; exact la, vs, _, rv, oa⟩
      · have y' := (if_neg hb).symm.trans y
        cases y'
    · by_cases hb : b = a
      · exact hb
      · exact absurd (if_neg hb) y
theorem walk_at {l : PySem.W.OpenLaw} {n : Nat} {q : Program} {loose : List Str} {XP : (Str → Option Value) → Heap → Prop} {YP : World → Heap → Prop} {d : DefRec} {K : Params → PySem.W.Frag} {CX : World → CXT} {sp : World → Sp} {x : Str}
    (hn : l.most = some n) (hn2 : n ≤ sizeLine) (hdf : d.params.defaults = [])
    (hY : ∀ (w : World) (h : Heap), YP w h → (K w.params).In h)
    (F : ∀ (w : World) (mg : Str → Option Value) (fa : Addr) (h : Heap), (K w.params).In h → h.Ns mainGlobals mg → mg d.name = some (.ref fa) →
      ∃ fd : FuncData, (∀ (s : Shared) (u : Value), BindsTo s fd ⟨[u], []⟩ [(x, u)]) ∧
        ∀ base : Heap, (K w.params).In base → base.Ns mainGlobals mg → RunAt l.prog w (K w.params) mg base (CX w) callerA fa fd [x] (sp w))
    (hsp : ∀ (w : World) (H : Hp) (a : Addr) (ns : List Int), ns.length ≤ n → Only H → SqL (K w.params) H a (ns.map V.int) → sp w [.ref a] H (fun v _ => v = .bl true) fun _ _ _ => False)
    (hCX : ∀ (w : World) (H : Hp) (s : Shared) (e : Value) (s' : Shared), CX w [] H s (fun _ _ _ => False) e s' → False) :
    PySem.W.WalkO q loose XP YP l.row.toRowW d [] (fun f vs => PySem.call f vs) := by
  refine Att.attach_call hn hdf fun w s₀ s₁ mg mb fa o pm cd doc a vs ns G Y ho hd hcd hmg hobj hints hlen hg => ?_
  have kX := hY w _ Y
  obtain ⟨fd, hb, hF⟩ := F w mg fa _ kX G.T.g hmg
  exact law_at kX G.T.g G.T.b G.T.builtins G.T.nolimit hg hobj hints (Nat.le_trans hlen hn2) hF hb (fun H hO hS => hsp w H a ns hlen hO hS) fun H e s' => hCX w H s₁ e s'
section
variable {X : Cx} {pins : List (Addr × Obj)} {σ : St} {H : Hp} {s : Shared}
end
end L2
namespace MS
open PySem PySem.Spec PyProof.Rows L2
section
variable {X : Cx}

def rRepD (K : PySem.W.Frag) : List V → Hp → VK → Prop := fun xs H Q => ∃ (a : Addr) (d : PyData), xs = [.ref a] ∧ Dp K H (.ref a) d ∧ d.showable = true ∧ d.shown.length ≤ sizeLine ∧ d.depth ≤ 40 ∧ Q (.str d.shown) H

def rLtD (K : PySem.W.Frag) : R2 := fun x y H Q => ∃ (a b : Addr) (k l : List Key), x = .ref a ∧ y = .ref b ∧ D3 k ∧ D3 l ∧ SqT K H a (k.map kV) ∧ SqT K H b (l.map kV) ∧ Q (.bl (dlt k l)) H

def rNeNil (K : PySem.W.Frag) : R2 := fun x y H Q => ∃ (a b : Addr) (xs : List V), x = .ref a ∧ y = .ref b ∧ SqL K H a xs ∧ SqL K H b [] ∧ Q (.bl (!xs.isEmpty)) H
end
end MS
namespace MS
open PySem PySem.Spec PyProof.Rows L2

section
variable {prog : Program} {w : World} {A : Around} {E : Value → Shared → Prop} {s : Shared}
end
section
variable {X : Cx}
def tRevT (K : PySem.W.Frag) (te : TE) : TE := fun σ H Q => te σ H fun x H1 => ∃ a xs, x = .ref a ∧ SqT K H1 a xs ∧ ∀ p, H1 p = none → Q (.ref p) (upd H1 p (.tup xs.reverse))
end
end MS

set_option maxRecDepth 100000
set_option maxHeartbeats 4000000
namespace K01
open PySem PySem.Spec PyProof.Rows L2 MS
abbrev DK := List Key

theorem dlt_irr (a : DK) : dlt a a = false := lex_irrefl _
theorem dlt_tr {a b c : DK} (h1 : dlt a b = true) (h2 : dlt b c = true) : dlt a c = true := lex_trans _ _ _ h1 h2
def Asc (ks : List DK) : Prop := ks.Pairwise fun a b => dlt a b = true
def ascB (ks : List DK) : Bool := (List.zipWith dlt ks (ks.drop 1)).all id
theorem asc_nodup {ks : List DK} (h : Asc ks) : ks.Nodup := by
  refine List.Pairwise.imp (fun {a b} z e => ?_) h
  subst e
  rw [dlt_irr] at z
  cases z
theorem canon : ∀ {l m : List DK}, Asc l → Asc m → (∀ k, k ∈ l ↔ k ∈ m) → l = m
  | [], [], _, _, _ => rfl
  | [], b :: t, _, _, h => nomatch (h b).mpr List.mem_cons_self
  | a :: r, [], _, _, h => nomatch (h a).mp List.mem_cons_self
  | a :: r, b :: t, .cons p1 h1, .cons p2 h2, h => by
    have ab : a = b := by
      rcases List.mem_cons.mp ((h a).mp List.mem_cons_self) with z | z
      · exact z
      · rcases List.mem_cons.mp ((h b).mpr List.mem_cons_self) with y | y
        · exact y.symm
        · have c := dlt_tr (p1 b y) (p2 a z)
          rw [dlt_irr] at c
          cases c
    subst ab
    have e : r = t := canon h1 h2 fun k => by
      constructor
      · intro z
        rcases List.mem_cons.mp ((h k).mp (List.mem_cons_of_mem _ z)) with y | y
        · subst y
          have c := p1 k z
          rw [dlt_irr] at c
          cases c
        · exact y
      · intro z
        rcases List.mem_cons.mp ((h k).mpr (List.mem_cons_of_mem _ z)) with y | y
        · subst y
          have c := p2 k z
          rw [dlt_irr] at c
          cases c
        · exact y
    rw [e]

def kD : Key → PyData
  | .inl n => .int n
  | .inr x => .str x
def dD (k : DK) : PyData := .tuple (k.map kD)
def TupOf (K : PySem.W.Frag) (H : Hp) (p : Addr) (ks : List DK) : Prop := ∃ L : List MS.Row, SqT K H p (L.map fun q => V.ref q.1) ∧ Dots K H L ∧ L.map (·.2) = ks
theorem dp_keys {K : PySem.W.Frag} {H : Hp} : ∀ k : DK, DpAll K H (k.map kV) (k.map kD)
  | [] => .nil
  | .inl n :: k => .cons (.int n) (dp_keys k)
  | .inr x :: k => .cons (.str x) (dp_keys k)
theorem dp_dot {K : PySem.W.Frag} {H : Hp} {a : Addr} {k : DK} (h : SqT K H a (k.map kV)) : Dp K H (.ref a) (dD k) := .tup h (dp_keys k)
theorem dp_dots {K : PySem.W.Frag} {H : Hp} : ∀ {L : List MS.Row}, Dots K H L → DpAll K H (L.map fun q => V.ref q.1) ((L.map (·.2)).map dD)
  | [], _ => .nil
  | p :: L, h => .cons (dp_dot (h p List.mem_cons_self)) (dp_dots fun q hq => h q (List.mem_cons_of_mem _ hq))
theorem TupOf.dp {K : PySem.W.Frag} {H : Hp} {p : Addr} {ks : List DK} (h : TupOf K H p ks) : Dp K H (.ref p) (.tuple (ks.map dD)) := by
  obtain ⟨L, h1, h2, rfl⟩ := h
  exact .tup h1 (dp_dots h2)
theorem same_sqT {K : PySem.W.Frag} {H H' : Hp} {a : Addr} {xs : List V} (s : Same H H') (h : SqT K H a xs) : SqT K H' a xs := by
  rcases h with (h | ⟨o, h⟩) | h
  · exact .inl (.inl (s _ _ h))
  · exact .inl (.inr ⟨o, s _ _ h⟩)
  · exact .inr h
theorem dots_same {K : PySem.W.Frag} {H H' : Hp} {L : List MS.Row} (s : Same H H') (h : Dots K H L) : Dots K H' L := fun p hp => same_sqT s (h p hp)
theorem TupOf.same {K : PySem.W.Frag} {H H' : Hp} {p : Addr} {ks : List DK} (s : Same H H') (h : TupOf K H p ks) : TupOf K H' p ks := by
  obtain ⟨L, h1, h2, h3⟩ := h
  exact ⟨L, same_sqT s h1, dots_same s h2, h3⟩
def Ext (p : Addr) (H H' : Hp) : Prop := ∀ b o, b ≠ p → H b = some o → H' b = some o
theorem Ext.refl {p : Addr} {H : Hp} : Ext p H H := fun _ _ _ h => h
theorem Ext.trans {p : Addr} {H H' H'' : Hp} (a : Ext p H H') (b : Ext p H' H'') : Ext p H H'' := fun c o n h => b c o n (a c o n h)
theorem Ext.of {p : Addr} {H H' : Hp} (s : Same H H') : Ext p H H' := fun b o _ h => s b o h
theorem Ext.put {p : Addr} {H : Hp} {o : HO} : Ext p H (upd H p o) := fun b u n h => by
  rw [upd_ne n]
  exact h
theorem Ext.sqT {K : PySem.W.Frag} {H H' : Hp} {p a : Addr} {xs ys : List V} (e : Ext p H H') (hp : H p = some (.lst ys)) (h : SqT K H a xs) : SqT K H' a xs := by
  rcases h with (h | ⟨o, h⟩) | h
  · exact .inl (.inl (e _ _ (fun z => by subst z; rw [hp] at h; cases h) h))
  · exact .inl (.inr ⟨o, e _ _ (fun z => by subst z; rw [hp] at h; cases h) h⟩)
  · exact .inr h
theorem Ext.dots {K : PySem.W.Frag} {H H' : Hp} {p : Addr} {L : List MS.Row} {ys : List V} (e : Ext p H H') (hp : H p = some (.lst ys)) (h : Dots K H L) : Dots K H' L := fun q hq => e.sqT hp (h q hq)
theorem Ext.tupOf {K : PySem.W.Frag} {H H' : Hp} {p a : Addr} {ks : List DK} {ys : List V} (e : Ext p H H') (hp : H p = some (.lst ys)) (h : TupOf K H a ks) : TupOf K H' a ks := by
  obtain ⟨L, h1, h2, h3⟩ := h
  exact ⟨L, e.sqT hp h1, e.dots hp h2, h3⟩

mutual
def short : PyData → Bool
  | .str x => decide (x.length ≤ 1000)
  | .list ds => shortAll ds
  | .tuple ds => shortAll ds
  | _ => true
def shortAll : List PyData → Bool
  | [] => true
  | d :: ds => short d && shortAll ds
end
def Rd (K : PySem.W.Frag) (H : Hp) (v : V) (d : PyData) : Prop := short d = true ∧ (Dp K H v d ∨ ∃ p, v = .ref p ∧ H p = some (.dK []) ∧ d = .dict [])
mutual
theorem dp_same {K : PySem.W.Frag} {H H' : Hp} (s : Same H H') : ∀ (d : PyData) (v : V), Dp K H v d → Dp K H' v d
  | .none, _, h => by cases h; exact .non
  | .bool b, _, h => by cases h; exact .bl b
  | .int i, _, h => by cases h; exact .int i
  | .str x, _, h => by cases h; exact .str x
  | .list ds, _, h => by
    cases h with
    | lst h1 h2 => exact .lst (s.seq h1) (dpAll_same s ds _ h2)
  | .tuple ds, _, h => by
    cases h with
    | tup h1 h2 => exact .tup (same_sqT s h1) (dpAll_same s ds _ h2)
  | .dict _, _, h => by cases h
theorem dpAll_same {K : PySem.W.Frag} {H H' : Hp} (s : Same H H') : ∀ (ds : List PyData) (vs : List V), DpAll K H vs ds → DpAll K H' vs ds
  | [], _, h => by cases h; exact .nil
  | d :: ds, _, h => by
    cases h with
    | cons h1 h2 => exact .cons (dp_same s d _ h1) (dpAll_same s ds _ h2)
end
theorem Rd.same {K : PySem.W.Frag} {H H' : Hp} {v : V} {d : PyData} (s : Same H H') (h : Rd K H v d) : Rd K H' v d := by
  obtain ⟨h0, h⟩ := h
  refine ⟨h0, ?_⟩
  rcases h with h | ⟨p, h1, h2, h3⟩
  · exact .inl (dp_same s d v h)
  · exact .inr ⟨p, h1, s _ _ h2, h3⟩
def tyN : PyData → String
  | .none => "NoneType"
  | .bool _ => "bool"
  | .int _ => "int"
  | .str _ => "str"
  | .list _ => "list"
  | .tuple _ => "tuple"
  | .dict _ => "dict"
inductive Lk (K : PySem.W.Frag) (H : Hp) : V → Option (List PyData) → Prop
  | no {v : V} {T : String} (h : TyX K H v (.type T)) (b : kitB T "tuple" = some false) : Lk K H v none
  | tup {a : Addr} {xs : List V} {ds : List PyData} (h : SqT K H a xs) (r : Paired (Rd K H) xs ds) : Lk K H (.ref a) (some ds)
def look : PyData → Option (List PyData)
  | .tuple ds => some ds
  | _ => none
def letters : PySem.Str := "abcdefghijklmnopqrstuvwxyz"
def dWh : PyData → Bool
  | .int _ => true
  | _ => false
def wordOk (x : PySem.Str) : Bool := decide (1 ≤ x.length) && decide (x.length ≤ 6) && x.cps.toList.all fun c => decide (c ∈ letters.cps.toList)
def dWord : PyData → Bool
  | .str x => wordOk x
  | _ => false
def dDot3 : PyData → PyData → PyData → Bool
  | .int n, .str x, .int l => wordOk x && (decide (1 ≤ n) && decide (n ≤ 1000000000000) && decide (1 ≤ l))
  | _, _, _ => false
def dotL : List PyData → Bool
  | [a, b, c] => dDot3 a b c
  | _ => false
def dotO (o : Option (List PyData)) : Bool := (o.map dotL).getD false
def dDot (d : PyData) : Bool := dotO (look d)
def keyD : PyData → DK
  | .tuple [.int n, .str x, .int l] => [.inl n, .inr x, .inl l]
  | _ => []
def knownO (o : Option (List PyData)) : Bool := (o.map fun ds => ds.all dDot && ascB (ds.map keyD)).getD false
end K01

set_option maxRecDepth 100000
set_option maxHeartbeats 4000000
namespace K01
open PySem PySem.Spec PyProof.Rows L2 MS
structure Bt (mg : PySem.Str → Option Value) : Prop where
  isi : mg "isinstance" = none
  len : mg "len" = none
  all : mg "all" = none
  int : mg "int" = none
  bool : mg "bool" = none
  str : mg "str" = none
  tuple : mg "tuple" = none
  list : mg "list" = none
  set : mg "set" = none
  sorted : mg "sorted" = none
  zip : mg "zip" = none
  max : mg "max" = none
  min : mg "min" = none
  repr : mg "repr" = none
  range : mg "range" = none
structure Ca (P : Program) (w : World) (K : PySem.W.Frag) (mg : PySem.Str → Option Value) (base : Heap) (k : Nat) (x : PySem.Str) (ps : List PySem.Str) (sp : Sp) : Prop where
  ex : ∃ f fd, FnOk P w K mg base CX0 k f fd ps sp ∧ mg x = some (.ref f) ∧ PySem.W.keepIn K (.ref f) = true ∧ Binds K fd ps []

def spWhole (K : PySem.W.Frag) : Sp := fun vs H Q _ => ∃ (v : V) (d : PyData), vs = [v] ∧ Rd K H v d ∧ Q (.bl (dWh d)) H

def spWord (K : PySem.W.Frag) : Sp := fun vs H Q _ => ∃ (v : V) (d : PyData), vs = [v] ∧ Rd K H v d ∧ ∀ H', Same H H' → Q (.bl (dWord d)) H'

def spRis (K : PySem.W.Frag) : Sp := fun vs H Q _ => ∃ (a : Addr) (ks : List DK), vs = [.ref a] ∧ TupOf K H a ks ∧ (∀ k ∈ ks, D3 k) ∧ ks.length ≤ 1000 ∧ ∀ H', Same H H' → Q (.bl (ascB ks)) H'

def spDot (K : PySem.W.Frag) : Sp := fun vs H Q _ => ∃ (v : V) (o : Option (List PyData)), vs = [v] ∧ Lk K H v o ∧ ∀ H', Same H H' → Q (.bl (dotO o)) H'
abbrev ND : List PySem.Str := ["thing", "number", "house", "life"]
def spKn (K : PySem.W.Frag) : Sp := fun vs H Q _ => ∃ (v : V) (o : Option (List PyData)), vs = [v] ∧ Lk K H v o ∧ (∀ ds, o = some ds → ds.length < 64) ∧ ∀ H', Same H H' → Q (.bl (knownO o)) H'

def dGe : PyData → Int → Bool
  | .int n, m => decide (m ≤ n)
  | _, _ => false
def spLw (K : PySem.W.Frag) : Sp := fun vs H Q _ => ∃ (v : V) (d : PyData) (m : Int), vs = [v, .int m] ∧ Rd K H v d ∧ Q (.bl (dGe d m)) H
theorem hu_64 {k : Nat} {A : Around} (h : Room k A) : A.units + 64 < cLine := by
  have := h.un
  omega
abbrev NLD : List PySem.Str := ["_law_thing", "_law_first", "_law_name", "_law_last", "_law_sign"]

def rowsTo (Ls : List (Addr × List MS.Row)) (i : Nat) : List MS.Row := ((Ls.take i).map (·.2)).flatten

def allOf (ts : List (Addr × List DK)) : List DK := (ts.map (·.2)).flatten
def spTog (K : PySem.W.Frag) : Sp := fun vs H Q _ => ∃ (l : Addr) (ts : List (Addr × List DK)), vs = [.ref l] ∧ SqL K H l (ts.map fun t => V.ref t.1) ∧ (∀ t ∈ ts, TupOf K H t.1 t.2) ∧ (∀ k ∈ allOf ts, D3 k) ∧ (allOf ts).length < 63 ∧
  ∀ H' r ms, Same H H' → TupOf K H' r ms → Asc ms → (∀ k, k ∈ ms ↔ k ∈ allOf ts) → ms.length < 64 → Q (.ref r) H'
abbrev NTG : List PySem.Str := ["some", "known", "dot"]

def spCut (K : PySem.W.Frag) : Sp := fun vs H Q _ => ∃ (a : Addr) (m : V) (ks : List DK), vs = [.ref a, m] ∧ TupOf K H a ks ∧ ((m = .non ∧ Q (.ref a) H) ∨ ∃ n : Nat, m = .int (n : Int) ∧ ∀ r H', Same H H' → TupOf K H' r (ks.drop (ks.length - n)) → Q (.ref r) H')

def fstI : DK → Int
  | .inl n :: _ => n
  | _ => 0
def IsMax (m : Int) (l : List Int) : Prop := m ∈ l ∧ ∀ y ∈ l, y ≤ m
def spNext (K : PySem.W.Frag) : Sp := fun vs H Q _ => ∃ (n : Int) (a : Addr) (ks : List DK), vs = [.int n, .ref a] ∧ TupOf K H a ks ∧ (∀ k ∈ ks, D3 k) ∧ ks.length ≤ 1000 ∧ ∀ H' m, Same H H' → IsMax m (n :: ks.map fstI) → Q (.int (m + 1)) H'
abbrev NNX : List PySem.Str := ["own", "known", "dot"]
def Pool (H : Hp) (p : Addr) : Prop := ∃ x y : Int, H p = some (.lst [.int x, .int y]) ∧ 0 ≤ x ∧ 0 ≤ y ∧ y < 2147483647
theorem Pool.is {H : Hp} {p : Addr} (h : Pool H p) : ∃ ys, H p = some (.lst ys) := by
  obtain ⟨x, y, h, _⟩ := h
  exact ⟨_, h⟩
theorem Pool.same {H H' : Hp} {p : Addr} (s : Same H H') (h : Pool H p) : Pool H' p := by
  obtain ⟨x, y, h, z⟩ := h
  exact ⟨x, y, s _ _ h, z⟩

def spHand (K : PySem.W.Frag) : Sp := fun vs H Q _ => ∃ (a : Addr) (i : Int) (ns : List Int), vs = [.ref a, .int i] ∧ SqL K H a (ns.map V.int) ∧ ns.length ≤ 63 ∧ 0 ≤ i ∧ i < 100 ∧ ∀ H' p, Same H H' → H p = none → Pool H' p → Q (.ref p) H'
abbrev NHA : List PySem.Str := ["_law_script", "_law_k", "_law_cell", "_law_seed"]

def spDraw : Sp := fun vs H Q _ => ∃ (p : Addr) (n : Int), vs = [.ref p, .int n] ∧ Pool H p ∧ 1 ≤ n ∧ n ≤ 1000 ∧ ∀ H' r, Ext p H H' → Pool H' p → (∀ b, b ≠ p → H' b = H b) → 0 ≤ r → r < n → Q (.int r) H'
abbrev NDR : List PySem.Str := ["_law_pool", "_law_size", "_law_found"]
theorem atI_ok {α : Type} {xs : List α} {r : Int} (h0 : 0 ≤ r) (h1 : r < (xs.length : Int)) : ∃ v, v ∈ xs ∧ atI xs r = some v := by
  obtain ⟨j, rfl⟩ : ∃ j : Nat, r = (j : Int) := ⟨r.toNat, by omega⟩
  have hj : j < xs.length := by omega
  exact ⟨xs[j], List.getElem_mem hj, atI_nat (List.getElem?_eq_getElem hj)⟩
def Men (k : DK) : Prop := ∃ (n : Int) (c : Nat) (l : Int), k = [.inl n, .inr ⟨#[c]⟩, .inl l] ∧ n ∈ [(1 : Int), 2, 9, 10, 12] ∧ c ∈ [97, 98, 99] ∧ l ∈ [(1 : Int), 2]
theorem Men.d3 {k : DK} (h : Men k) : D3 k := by
  obtain ⟨n, c, l, rfl, _⟩ := h
  exact ⟨_, _, _, rfl⟩

def spLdot : Sp := fun vs H Q _ => ∃ p : Addr, vs = [.ref p] ∧ Pool H p ∧ ∀ H' a k, Ext p H H' → Pool H' p → H a = none → H' a = some (.tup (k.map kV)) → Men k → Q (.ref a) H'

def spLkn (K : PySem.W.Frag) : Sp := fun vs H Q _ => ∃ p : Addr, vs = [.ref p, .int 6] ∧ Pool H p ∧ ∀ H' a ks, Ext p H H' → Pool H' p → TupOf K H' a ks → Asc ks → ks.length ≤ 6 → (∀ k ∈ ks, Men k) → Q (.ref a) H'
abbrev NKN : List PySem.Str := ["_law_pool", "_law_most", "_law_turn"]
def smallD (d : PyData) : Prop := ∀ es, look d = some es → es.length < 60

def spOdd (K : PySem.W.Frag) : Sp := fun vs H Q _ => vs = [] ∧ ∀ H' p xs ds, Same H H' → SqL K H' p xs → Paired (Rd K H') xs ds → (∀ d ∈ ds, smallD d) → Q (.ref p) H'
def oddD : List PyData := [.none, .int 0, .str "", .tuple [], .list [], .dict [], .tuple [.int 1, .str "a"], .tuple [.int 1, .str "a", .int 1, .int 1], .list [.int 1, .str "a", .int 1], .tuple [.int 0, .str "a", .int 1], .tuple [.bool true, .str "a", .int 1], .tuple [.int 1, .str "A", .int 1]] ++ [.tuple [.int 1, .str "", .int 1], .tuple [.int 1, .str "abcdefg", .int 1], .tuple [.int 1, .str "abcdef", .int 1], .tuple [.int 1, .str "a", .int 0], .tuple [.int 1, .str "a", .bool true], .tuple [.int (10 ^ (12 : Int).toNat), .str "z", .int 9]] ++ [.tuple [.int (10 ^ (12 : Int).toNat + 1), .str "a", .int 1], .tuple [.int 1, .none, .int 1], .tuple [.str "1", .str "a", .int 1], .tuple [.int 1, .str "a\n", .int 1], .tuple [.int (-1), .str "a", .int 1], .tuple [.int 1, .str "a", .none]]

def rRepB : List V → Hp → VK → Prop := fun xs H Q => ∃ b : Bool, xs = [.bl b] ∧ Q (.str (if b then "True" else "False" : String)) H

structure CaD (P : Program) (w : World) (K : PySem.W.Frag) (mg : PySem.Str → Option Value) (base : Heap) (k : Nat) (x : PySem.Str) (ps : List PySem.Str) (sp : Sp) (ds : List V) : Prop where
  ex : ∃ f fd us, FnOk P w K mg base CX0 k f fd ps sp ∧ mg x = some (.ref f) ∧ PySem.W.keepIn K (.ref f) = true ∧ Binds K fd ps us ∧ Vals ds us

def okD (d : PyData) : Bool := d.showable && (decide (d.shown.length ≤ 20) && (short d && (dDot d && decide (d.depth ≤ 1))))
def AllMen (ks : List DK) : Prop := ∀ k ∈ ks, Men k

theorem textFrom_le : ∀ (ts : List PySem.Str) (k : Nat) (acc : PySem.Str), (textFrom k acc ts).length ≤ acc.length + piled ts
  | [], k, acc => by rw [piled_nil]; exact Nat.le_refl _
  | t :: r, k, acc => by
    have ih := textFrom_le r (k + 1) (acc ++ (if k > 0 then ", " else "" : String) ++ t)
    rw [piled_cons]
    have e : (acc ++ (if k > 0 then ", " else "" : String) ++ t).length = acc.length + (if k > 0 then 2 else 0) + t.length := by
      rw [strLen_append, strLen_append]
      split <;> rfl
    rw [e] at ih
    show (textFrom (k + 1) (acc ++ (if k > 0 then ", " else "" : String) ++ t) r).length ≤ _
    have two : (if k > 0 then 2 else 0) ≤ 2 := by split <;> omega
    omega
theorem listText_le (ts : List PySem.Str) : (listText ts).length ≤ 2 + piled ts := by
  unfold listText
  rw [strLen_append]
  have := textFrom_le ts 0 "["
  have e1 : (("[" : String) : PySem.Str).length = 1 := rfl
  have e2 : (("]" : String) : PySem.Str).length = 1 := rfl
  omega
def tupsD (kss : List (List DK)) : PyData := .list (kss.map fun ks => .tuple (ks.map dD))


theorem TupOf.sq {K : PySem.W.Frag} {H : Hp} {a : Addr} {ks : List DK} (h : TupOf K H a ks) : ∃ xs, SqT K H a xs ∧ xs.length = ks.length := by
  obtain ⟨L, h1, _, rfl⟩ := h
  exact ⟨_, h1, by rw [List.length_map, List.length_map]⟩
abbrev NL : List PySem.Str := ["_law_script", "_law_thing", "_law_one", "_law_k", "_law_pool", "_law_some", "_law_turn", "_law_kept", "_law_due", "_law_size", "_law_left", "_law_own"]
def spLaw (K : PySem.W.Frag) : Sp := fun vs H Q _ => ∃ (a : Addr) (ns : List Int), vs = [.ref a] ∧ SqL K H a (ns.map V.int) ∧ ns.length ≤ 63 ∧ ∀ H', Q (.bl true) H'
def HF (K : PySem.W.Frag) (x : PySem.Str) (st : Stmt) : Prop := ∃ f fd, PySem.W.nsIn K mainGlobals x = some (some (.ref f)) ∧ Fun K x x st f fd
end K01

set_option maxRecDepth 100000
set_option maxHeartbeats 4000000
namespace VS
open PySem PySem.Spec PyProof.Rows L2 MS K01

abbrev VRow := Addr × DK
section
variable {P : Program} {w : World} {A : Around} {E : Value → Shared → Prop} {s : Shared}
def VerAt (P : Program) (w : World) (h : Heap) (z : VRow) : Prop := ∃ (o : Obj) (its : Array Value) (n : Nat) (d : Addr), h.get? z.1 = some o ∧ o.cls = .type "tuple" ∧ o.data = .seq its n ∧ its[0]? = some (.ref d) ∧ MT P w h z.2 d
noncomputable def verKind (ws : List VRow) : KeyKind where
  toKeyOrd := listOrd itemOrd
  keyOf := fun v => match v with
    | .ref a => (ws.find? fun z => z.1 == a).map fun z => MS.code z.2
    | _ => none
  dflt := []
end
end VS

set_option maxRecDepth 100000
set_option maxHeartbeats 4000000
namespace VS
open PySem PySem.Spec PyProof.Rows L2 MS K01
section
variable {X : Cx}
def VerH (K : PySem.W.Frag) (H : Hp) (z : VRow) : Prop := ∃ (d : Addr) (rest : List V), SqT K H z.1 (.ref d :: rest) ∧ SqT K H d (z.2.map kV)
def rSortV (K : PySem.W.Frag) : List V → Hp → VK → Prop := fun vs H Q => ∃ (l : Addr) (ws : List VRow), vs = [V.ref l] ∧ SqL K H l (ws.map fun z => V.ref z.1) ∧ (∀ z ∈ ws, VerH K H z) ∧ (∀ z ∈ ws, D3 z.2) ∧ (ws.map fun z => z.2).Nodup ∧ ws.length ≤ 1000 ∧
  ∀ (ws' : List VRow) (p : Addr), ws'.Perm ws → Asc (ws'.map fun z => z.2) → H p = none → Q (.ref p) (upd H p (.lst (ws'.map fun z => V.ref z.1)))
end
end VS

set_option maxRecDepth 100000
set_option maxHeartbeats 4000000
namespace VS
open PySem PySem.Spec PyProof.Rows L2 MS K01
section
variable {X : Cx}

def rInDT (K : PySem.W.Frag) (neg : Bool) : R2 := fun x y H Q => ∃ d ds, Dp K H x d ∧ Dp K H y (.tuple ds) ∧ SeqAt.shaped d = true ∧ SeqAt.shaped (.tuple ds) = true ∧ Q (.bl (if neg = true then !ds.any fun z => PyData.eqv z d else ds.any fun z => PyData.eqv z d)) H
theorem op_inDT {K : PySem.W.Frag} (hK : X.K = K) (hu : X.A.units + 65 < cLine) : OpR X (compareOp .In) (rInDT K false) := by
  subst hK
  intro pins s σ H x y v u Q I rx ry h
  obtain ⟨d, ds, hd, he, sd, se, q⟩ := h
  obtain ⟨as, r1⟩ := Dp.reads I d x v hd rx
  obtain ⟨bs, r2⟩ := Dp.reads I (.tuple ds) y u he ry
  exact SeqAt.in_tuple_reads r2 r1 (SeqAt.canLay_of_shaped se) (SeqAt.canLay_of_shaped sd) (room_in_shaped sd hu) ⟨.bl _, H, I, rfl, q⟩
end

section
variable {X : Cx}
end
section
variable {prog : Program} {w : World} {A : Around} {R : Result → Shared → Prop} {s : Shared} {kx vx x0 y0 x1 y1 : Expr} {sc : Scope} {pos : Pos} {it : Value} {D : Addr} {env : Env}
abbrev DC (kx vx x0 y0 x1 y1 : Expr) (sc : Scope) (pos : Pos) : Expr := .DictComp kx vx [⟨x0, y0, [], 0⟩, ⟨x1, y1, [], 0⟩] sc pos
end
end VS

set_option maxRecDepth 100000
set_option maxHeartbeats 4000000
namespace VS
open PySem PySem.Spec PyProof.Rows L2 MS K01

section
variable {X : Cx}
def tDc2 (wi : TI) (g : TG) (wi1 : TI) (g1 : TG) (tk tv : TE) (vs vs1 : List Nat) : TE := fun σ H Q => wi σ H fun J H1 => ∀ D, H1 D = none → ∃ W : Nat → Nat → Hp → Prop, (∃ m, W 0 m (upd H1 D (.dT []))) ∧
  ∀ i m H, W i m H → (J.stop i H ∧ Q (.ref D) H) ∨ (J.go i H ∧ ∃ Nx : Hp → Prop, (∀ H', Nx H' → ∃ m', m' < m ∧ W (i + 1) m' H') ∧ ∀ x H', J.yld i H x H' → g x (wipe σ vs) H' fun σ2 H2 => wipe σ2 vs = wipe σ vs ∧
    wi1 σ2 H2 fun J1 H4 => ∃ W1 : Nat → Nat → Hp → Prop, (∃ m, W1 0 m H4) ∧ ∀ j k H, W1 j k H → (J1.stop j H ∧ Nx H) ∨ (J1.go j H ∧ ∃ Nx1 : Hp → Prop, (∀ H', Nx1 H' → ∃ k', k' < k ∧ W1 (j + 1) k' H') ∧ ∀ x H', J1.yld j H x H' →
      g1 x (wipe σ2 vs1) H' fun σ3 H5 => wipe σ3 vs1 = wipe σ2 vs1 ∧ tk σ3 H5 fun y H6 => tv σ3 H6 fun v H7 => ∃ (a : Addr) (k : List Key) (kvs : List (List Key × V)), y = .ref a ∧ H7 a = some (.tup (k.map kV)) ∧ H7 D = some (.dT kvs) ∧ kvs.length < sizeLine ∧
        Nx1 (upd H7 D (.dT (putK kvs k v)))))
end
end VS

set_option maxRecDepth 100000
set_option maxHeartbeats 4000000
namespace VS
open PySem PySem.Spec PyProof.Rows L2 MS K01
section
variable {X : Cx}
def tDc1 (wi : TI) (g : TG) (tk tv : TE) (vs : List Nat) : TE := fun σ H Q => wi σ H fun J H1 => ∀ D, H1 D = none → ∃ W : Nat → Nat → Hp → Prop, (∃ m, W 0 m (upd H1 D (.dT []))) ∧
  ∀ i m H, W i m H → (J.stop i H ∧ Q (.ref D) H) ∨ (J.go i H ∧ ∃ Nx : Hp → Prop, (∀ H', Nx H' → ∃ m', m' < m ∧ W (i + 1) m' H') ∧ ∀ x H', J.yld i H x H' → g x (wipe σ vs) H' fun σ2 H2 => wipe σ2 vs = wipe σ vs ∧
    tk σ2 H2 fun y H6 => tv σ2 H6 fun v H7 => ∃ (a : Addr) (k : List Key) (kvs : List (List Key × V)), y = .ref a ∧ H7 a = some (.tup (k.map kV)) ∧ H7 D = some (.dT kvs) ∧ kvs.length < sizeLine ∧ Nx (upd H7 D (.dT (putK kvs k v))))
end
end VS

set_option maxRecDepth 100000
set_option maxHeartbeats 4000000
namespace VS
open PySem PySem.Spec PyProof.Rows L2 MS K01
open PyProof.Rows.G (sh1 tupKindC tupKeyC tupKeyC_of list_sort_tups)

section
variable {P : Program} {w : World} {A : Around} {E : Value → Shared → Prop} {s : Shared}
def Ends1 (s : Shared) (Pv : Nat → Value → Prop) (n : Nat) (q : Result) (z : Shared) : Prop := ∃ (h1 : Heap) (tk : Nat) (acc : Array Value) (c : Nat), q = .ok (.ret (.ref s.heap.objs.size)) ∧ z = { s with heap := h1, toks := tk } ∧ Keeps s.heap h1 ∧
  h1.get? s.heap.objs.size = some { cls := .type "list", dict := none, data := .seq acc c, slots := #[] } ∧ ItemsOf Pv acc n
end
section
variable {X : Cx}
def rSortD : List V → Hp → VK → Prop := fun vs H Q => ∃ (d : Addr) (kvs : List (List Key × V)), vs = [V.ref d] ∧ H d = some (.dT kvs) ∧ (∀ e ∈ kvs, D3 e.1) ∧ kvs.length ≤ 1000 ∧
  ∀ (L : List MS.Row) (p : Addr), (∀ q ∈ L, H q.1 = some (.tup (q.2.map kV))) → (L.map fun q => q.2).Perm (kvs.map fun e => e.1) → L.Pairwise (fun x y => dlt y.2 x.2 = false) → H p = none → Q (.ref p) (upd H p (.lst (L.map fun q => V.ref q.1)))
end
end VS

set_option maxRecDepth 100000
set_option maxHeartbeats 4000000
namespace VS
open PySem PySem.Spec PyProof.Rows L2 MS K01
section
variable {X : Cx}

def iSeq (K : PySem.W.Frag) (tl : TE) : TI := fun σ H R => tl σ H fun x H1 => ∃ a, x = .ref a ∧ (((∃ xs, SqL K H1 a xs) ∧ R (Itl K a) H1) ∨ ((∃ xs, SqT K H1 a xs) ∧ R (Itt K a) H1))
theorem pi_seq {K : PySem.W.Frag} {tg l : Expr} {tl : TE} (hK : X.K = K) (hl : PE X l tl) : PI X tg l (iSeq K tl) := by
  subst hK
  refine ⟨fun pins s σ H R I h => thn (hl.run pins s σ H _ I h) fun v z1 y1 => ?_⟩
  obtain ⟨x, G, J, rx, a, rfl, c⟩ := y1
  cases rx
  have grow : ∀ o : Obj, Inv X pins σ G { z1 with heap := z1.heap.push o } := fun o => J.kept (t' := z1.toks) fun b u y => Heap.get?_push_of_some _ y
  have own : ∀ b ∈ [z1.heap.objs.size], FpOk X pins G b := fun b hb => by
    rw [List.mem_singleton.mp hb]
    exact J.fpOk (Nat.le_refl _) (J.hok.fresh (Nat.le_refl _))
  rcases c with ⟨⟨xs, hx⟩, q⟩ | ⟨⟨xs, hx⟩, q⟩
  · obtain ⟨its, rv, pl, _⟩ := J.list hx
    exact wpAny_pyIter_list pl.isList ⟨z1.heap.objs.size, [z1.heap.objs.size], _, _, G, rfl, grow _, turn_list a _, ⟨_, Heap.get?_push_size _ rfl, rfl, rfl⟩, own, q⟩
  · obtain ⟨its, rv, pt, _⟩ := J.tuple hx
    exact wpAny_pyIter_tuple (show z1.heap.IsTuple a its.toArray from pt) ⟨z1.heap.objs.size, [z1.heap.objs.size], _, _, G, rfl, grow _, turn_tuple a _, ⟨_, Heap.get?_push_size _ rfl, rfl, rfl⟩, own, q⟩
end
end VS

set_option maxRecDepth 100000
set_option maxHeartbeats 4000000
namespace VS
open PySem PySem.Spec PyProof.Rows L2 MS K01
section
variable {J J1 : It} {n n1 : Nat} {G G1 : Hp → Prop} {Y Y1 : Nat → Hp → V → Hp → Prop}
end
end VS

set_option maxRecDepth 100000
set_option maxHeartbeats 4000000
namespace VS
open PySem PySem.Spec PyProof.Rows L2 MS K01
section
variable {X : Cx}

def rEqNil (K : PySem.W.Frag) : R2 := fun x y H Q => ∃ (a b : Addr) (xs : List V), x = .ref a ∧ y = .ref b ∧ SqL K H a xs ∧ SqL K H b [] ∧ Q (.bl xs.isEmpty) H
end
end VS

set_option maxRecDepth 100000
set_option maxHeartbeats 4000000

namespace RQ
open PySem PySem.Spec PyProof.Rows L2
open AutoSeq1 (wpAny_loadPart')
abbrev tIt (a : Addr) : Obj := { cls := .type "tuple_iterator", data := .fields #[.ref a, .int 0 0] }
abbrev eNew (b : Addr) : Obj := { cls := .type "enumerate", data := .fields #[.none, .bool false, .ref b, rawInt 0, .none, .none] }
theorem enumT_new (a : Addr) (xs : Array Value) (m : Nat) (dc : Option Addr) (sl : Array (Option Value)) :
    Meets (Builtin.«enumerate.__new__» ⟨[.type "enumerate", .ref a], []⟩) (fun _ R z => z.heap.get? a = some { cls := .type "tuple", dict := dc, data := .seq xs m, slots := sl } ∧
      R (.ok (.ret (.ref (z.heap.push (tIt a)).objs.size))) { z with heap := (z.heap.push (tIt a)).push (eNew z.heap.objs.size) }) :=
  .of_wp fun prog w A R z h => by
    obtain ⟨hp, g, dd, tk, os⟩ := z; obtain ⟨ha, h⟩ := h
    have su := sub_enumerate
    have hT : Heap.IsTuple (Shared.heap ⟨hp, g, dd, tk, os⟩) a xs := ⟨_, ha, rfl, m, rfl⟩
    wp_walk using wpAny_loadPart' ha
    refine wpAny_stack_any fun st => wpAny_pure ?_; split
    · rename_i c _ _ _ _ _; cases (c == Value.type "enumerate")
      all_goals (wp_walk using wpAny_loadPart' ha, wpAny_pyIter_tuple hT; exact ⟨_, rfl, h⟩)
    · wp_walk using wpAny_loadPart' ha, wpAny_pyIter_tuple hT; exact ⟨_, rfl, h⟩
section
variable {prog : Program} {w : World} {A : Around} {E : Value → Shared → Prop} {z : Shared}
theorem call_enumT {a : Addr} {xs : Array Value} {Q : Value → Shared → Prop} (ht : z.heap.IsTuple a xs)
    (q : ∀ h', IsEnum h' (z.heap.objs.size + 1) z.heap.objs.size 0 .none → h'.IsTupleIter z.heap.objs.size a 0 → h'.objs.size = z.heap.objs.size + 2 →
      (∀ b o, z.heap.get? b = some o → h'.get? b = some o) → Q (.ref (z.heap.objs.size + 1)) { z with heap := h' }) : wpAny (model prog w) A (call (.type "enumerate") [.ref a]) Q E z := by
  obtain ⟨⟨c, dc, dt, sl⟩, ha, hc, n, hd⟩ := ht
  replace hc : c = .type "tuple" := hc
  replace hd : dt = .seq xs n := hd
  subst hc hd
  refine callType_new F.called_enumerate (by decide) (F.typeCall_enumerate_1 _) (F.newCall_enumerate_1 _) (fun ob => F.args_object_init_2 ob _) F.entry_enumerate_new (enumT_new a xs n dc sl) ⟨ha, ?_⟩
  have sz : (z.heap.push (tIt a)).objs.size = z.heap.objs.size + 1 := Heap.size_push ..
  show _ ∧ _; rw [sz]
  have he : IsEnum ((z.heap.push (tIt a)).push (eNew z.heap.objs.size)) (z.heap.objs.size + 1) z.heap.objs.size 0 .none := by
    have y := Heap.get?_push_size (z.heap.push (tIt a)) (o := eNew z.heap.objs.size) rfl
    rw [sz] at y; exact y
  exact ⟨⟨_, he, rfl⟩, q _ he ⟨_, Heap.get?_push_of_some _ (Heap.get?_push_size _ rfl), rfl, rfl⟩ (by rw [Heap.size_push, sz]) fun b o y => Heap.get?_push_of_some _ (Heap.get?_push_of_some _ y)⟩
end
def ItE (sq : Hp → List V → Prop) (n : Nat) : It where
  go i H := ∃ xs, sq H xs ∧ xs.length = n ∧ i < n
  yld i H v H' := ∃ T, H T = none ∧ v = .ref T ∧ ∃ x, (∀ xs, sq H xs → xs[i]? = some x) ∧ H' = upd H T (.tup [.int (i : Nat), x])
  stop i H := ∃ xs, sq H xs ∧ xs.length = n ∧ n ≤ i
structure Feed (P : Program) (w : World) (K : PySem.W.Frag) (sq : Hp → List V → Prop) (it : Addr) (fp : List Addr) (St : Nat → Heap → Prop) : Prop where
  own : ∀ i h, St i h → ∃ o, h.get? it = some o ∧ ∀ v, o.data ≠ .cell v
  stays : ∀ i h h', St i h → (∀ o, h.get? it = some o → h'.get? it = some o) → St i h'
  gives : ∀ (X : Cx), X.prog = P → X.w = w → X.K = K → X.calm = true → ∀ (pins : List (Addr × Obj)) (s : Shared) (σ : L2.St) (H : Hp), Inv X pins σ H s → ∀ xs, sq H xs →
    (∀ ys, sq H ys → ys = xs) ∧ ∃ (its : List Value) (St' : Nat → Heap → Prop), Vals xs its ∧ Draws P w X.A.in1 it fp its.length (fun i v => its[i]? = some v) St' ∧ (∀ i, St i s.heap → St' i s.heap) ∧ ∀ i h, St' i h → St i h
theorem pair_comes {X : Cx} {pins : List (Addr × Obj)} {σ : L2.St} {H : Hp} {s : Shared} {e it : Addr} {h1 h2 : Heap} {k tk t2 : Nat} {x : V} {u : Value} (I : Inv X pins σ H s) (fe : FpOk X pins H e) (fi : FpOk X pins H it)
    (le : e < s.heap.objs.size) (made : h1.get? s.heap.objs.size = some { cls := .type "tuple", data := .seq #[.int k tk, u] }) (ru : RelV x u) (old : ∀ b o, b ≠ e → b ≠ it → s.heap.get? b = some o → h1.get? b = some o) (sb : Heap.SameBut e h1 h2) :
    Inv X pins σ (upd H s.heap.objs.size (.tup [.int (k : Nat), x])) { s with heap := h2, toks := t2 } := by
  refine I.turnedNew (ch := [it, e]) (fun b o nb g => ?_) (fun b hb => ?_) (Nat.le_refl _) ⟨by show 2 ≤ sizeLine; decide, [.int k tk, u], .cons ⟨_, rfl⟩ (.cons ru .nil), ?_⟩
  · have ne : b ≠ e ∧ b ≠ it := by constructor <;> (intro z; apply nb; simp [z])
    exact (sb.2 b ne.1).trans (old b o ne.1 ne.2 g)
  · rcases List.mem_cons.mp hb with z | z
    · exact z ▸ fi
    · exact List.mem_singleton.mp z ▸ fe
  · exact ⟨_, (sb.2 _ (Nat.ne_of_gt le)).trans made, rfl, _, rfl⟩
theorem Feed.enum {P : Program} {w : World} {K : PySem.W.Frag} {sq : Hp → List V → Prop} {it e : Addr} {fp : List Addr} {St : Nat → Heap → Prop} {elts : List Expr} {kk n : Nat} {tpos : Pos} (F : Feed P w K sq it fp St) (ei : e ≠ it) (ef : e ∉ fp) :
    Turn P w K (.Tuple elts kk tpos) (ItE sq n) [e, it] e (fun i h => (St i h ∧ i ≤ n) ∧ ∃ old, IsEnum h e it (i : Int) old) := by
  have both : ∀ {p : Addr → Prop}, p e → p it → ∀ b ∈ [e, it], p b := fun pe pi b hb => by
    rcases List.mem_cons.mp hb with z | z
    · exact z ▸ pe
    · exact List.mem_singleton.mp z ▸ pi
  refine ⟨List.mem_cons_self .., fun i h st => both ⟨_, st.2.choose_spec, fun v q => nomatch q⟩ (F.own i h st.1.1), fun i h h' st k => ⟨⟨F.stays i h h' st.1.1 fun o => k it (by simp) o, st.1.2⟩, st.2.choose, k e (by simp) _ st.2.choose_spec⟩, ?_, ?_, fun A i s Q E st h => wpAny_pyIter_enum st.2.choose_spec h⟩
  · intro X xp xw xk hc i pins s σ H E I hf ⟨⟨st, _⟩, old, he⟩ ⟨xs, hq, hx, hn⟩
    have hi : i < xs.length := by rw [hx]; exact hn
    obtain ⟨uniq, its, St', rv, D, up, down⟩ := F.gives X xp xw xk hc pins s σ H I xs hq
    obtain ⟨u, hu, ru⟩ := rv.get (List.getElem?_eq_getElem hi)
    subst xp xw
    have le := Heap.lt_size he
    refine wpAny_pyNext_enum_itemD D he (up i st) (by rw [← rv.length]; exact hi) ei ef fun u' h1 tk hu' out st1 made _ old => ⟨_, rfl, ?_⟩
    cases hu.symm.trans hu'
    refine wpAny_letOwnedTupleGo_enum (s := { s with heap := h1, toks := tk + 1 }) out fun h2 he2 sb => ⟨.ref s.heap.objs.size, _, pair_comes (s := s) I (hf e (by simp)) (hf it (by simp)) le made ru old sb, rfl, ?_, ?_, ?_⟩
    · exact ⟨_, I.hok.fresh (Nat.le_refl _), rfl, xs[i], fun ys hy => by rw [uniq ys hy]; exact List.getElem?_eq_getElem hi, rfl⟩
    · exact ⟨⟨F.stays _ _ _ (down _ _ st1) fun o g => (sb.2 it ei.symm).trans g, hn⟩, _, by rw [Int.natCast_succ]; exact he2⟩
    · have young : ∀ b o, s.heap.get? b = some o → H b = none → upd H s.heap.objs.size (.tup [.int (i : Nat), xs[i]]) b = none := fun b o g z => by
        rw [upd_ne (Nat.ne_of_lt (Heap.lt_size g))]; exact z
      obtain ⟨o, go, _⟩ := F.own i _ st
      exact both (young e _ he (hf e (by simp)).1) (young it o go (hf it (by simp)).1)
  · rintro X xp xw xk hc i pins s σ H E I hf ⟨⟨st, l1⟩, old, he⟩ ⟨xs, hq, hx, l2⟩
    obtain rfl : i = xs.length := by rw [hx]; exact Nat.le_antisymm l1 l2
    obtain ⟨-, its, St', rv, D, up, -⟩ := F.gives X xp xw xk hc pins s σ H I xs hq
    subst xp xw
    have z := up _ st
    rw [rv.length] at z
    refine wpAny_pyNext_enum_endD D he z fun h1 eb => ⟨rfl, ?_⟩
    obtain ⟨f0, f1, -, f3, f4, f5⟩ := hf it (by simp)
    exact I.turned (t' := s.toks) (fun b o nb g => eb b o nb g) f0 f1 f3 f4 f5
theorem feed_tup {P : Program} {w : World} {K : PySem.W.Frag} {a it : Addr} (ne : a ≠ it) : Feed P w K (fun H xs => SqT K H a xs) it [it, a] (fun i h => h.IsTupleIter it a i) where
  own := fun i h ⟨o, ho, _, hd⟩ => ⟨o, ho, fun v q => by rw [hd] at q; cases q⟩
  stays := fun i h h' ⟨o, ho, r⟩ k => ⟨o, k o ho, r⟩
  gives := fun X xp xw xk hc pins s σ H I xs hq => by
    subst xp xw xk
    obtain ⟨its, rv, pt, _⟩ := I.tuple hq
    refine ⟨fun ys hy => I.tuple_inj hy hq, its, fun i h => h.IsTupleIter it a i ∧ h.IsTuple a its.toArray, rv, ?_, fun i st => ⟨st, pt⟩, fun i h st => st.1⟩
    have D := Draws.tuple (prog := X.prog) (w := X.w) (A := X.A.in1) (by exact I.ok.hd hc) it a ne its.toArray
    simpa using D
abbrev IteT (K : PySem.W.Frag) (a : Addr) (n : Nat) : It := ItE (fun H xs => SqT K H a xs) n
def iEnumA (K : PySem.W.Frag) (ta : TA) : TI := fun σ H R => ta σ H fun vs H1 => ∃ a xs, vs = [.ref a] ∧ ((SqL K H1 a xs ∧ R (Ite K a) H1) ∨ (SqT K H1 a xs ∧ R (IteT K a xs.length) H1))
end RQ

set_option maxRecDepth 100000
set_option maxHeartbeats 4000000

namespace RQ
open PySem PySem.Spec PyProof.Rows L2
theorem pi_enumA {X : Cx} {e : Expr} {ta : TA} {p pos tpos : Pos} {elts : List Expr} {kk : Nat} (hg : Gl X "enumerate") (hm : X.mg "enumerate" = none) (ha : PA X [e] ta) (he : starEach [e] X.env = [(false, eval e X.env)] := by rfl) :
    PI X (.Tuple elts kk tpos) (.Call (.Name "enumerate" p) [e] [] pos) (iEnumA X.K ta) := by
  refine ⟨fun pins z σ H R I h => ?_⟩
  refine Call_ (ld_blt I hg hm boot_enumerate (PyProof.Rows.callWith_type1 (thn (ha.run pos pins z σ H _ I h) fun us z1 ⟨vs, H1, I1, r1, q1⟩ => ?_) he rfl))
  obtain ⟨a, xs, ex, q1⟩ := q1
  subst ex
  have hu : us = [.ref a] := by
    cases r1 with
    | cons r rr => cases rr; cases r; rfl
  subst hu
  have fp : ∀ b ∈ [z1.heap.objs.size + 1, z1.heap.objs.size], z1.heap.objs.size ≤ b := fun b hb => by
    rcases (by simpa using hb : b = z1.heap.objs.size + 1 ∨ b = z1.heap.objs.size) with y | y <;> omega
  rcases q1 with ⟨hq, q⟩ | ⟨hq, q⟩
  · obtain ⟨its, rv, pl, hz⟩ := I1.list hq
    refine call_enumerate_list pl.isList fun h' he hit sz hk => wpAny_pyIter_enum he ?_
    exact ⟨z1.heap.objs.size + 1, [z1.heap.objs.size + 1, z1.heap.objs.size], _, _, H1, rfl, I1.kept (t' := z1.toks) hk, turn_enum a (z1.heap.objs.size + 1) z1.heap.objs.size, ⟨⟨.none, he⟩, hit, Nat.succ_ne_self _⟩, fun b hb => I1.fpOk (fp b hb) (I1.hok.fresh (fp b hb)), q⟩
  · obtain ⟨its, rv, pl, hz⟩ := I1.tuple hq
    have la : a < z1.heap.objs.size := by
      obtain ⟨_, y, _⟩ := pl
      exact Heap.lt_size y
    refine call_enumT pl fun h' he hit sz hk => wpAny_pyIter_enum he ?_
    exact ⟨z1.heap.objs.size + 1, [z1.heap.objs.size + 1, z1.heap.objs.size], _, _, H1, rfl, I1.kept (t' := z1.toks) hk, (feed_tup (Nat.ne_of_lt la)).enum (Nat.succ_ne_self _) (fun hm => (List.mem_cons.mp hm).elim (Nat.succ_ne_self _) fun hm => Nat.ne_of_gt (Nat.lt_succ_of_lt la) (List.mem_singleton.mp hm)), ⟨⟨hit, Nat.zero_le _⟩, .none, he⟩, fun b hb => I1.fpOk (fp b hb) (I1.hok.fresh (fp b hb)), q⟩
def SqA (K : PySem.W.Frag) (H : Hp) (a : Addr) (xs : List V) : Prop := SqL K H a xs ∨ SqT K H a xs
def dSeq (b : Bool) (ds : List PyData) : PyData := if b = true then .list ds else .tuple ds
def okT (d : PyData) : Bool := PyData.canLay0 d && decide (d.depth ≤ 1)
theorem lay_all : ∀ {ds : List PyData}, ds.all okT = true → PyData.canLayAll0 ds = true ∧ PyData.depthAll ds ≤ 1
  | [], _ => ⟨by rw [PyData.canLayAll0], by rw [PyData.depthAll]; exact Nat.zero_le _⟩
  | d :: ds, h => by
    rw [List.all_cons, Bool.and_eq_true] at h
    obtain ⟨c1, c2⟩ := lay_all h.2
    have z := h.1
    unfold okT at z
    rw [Bool.and_eq_true] at z
    have z2 := of_decide_eq_true z.2
    refine ⟨by rw [PyData.canLayAll0, c1, z.1]; rfl, ?_⟩
    rw [PyData.depthAll]
    omega
theorem shaped_lst {ds : List PyData} (h : ds.all okT = true) : SeqAt.shaped (.list ds) = true := by
  obtain ⟨c1, c2⟩ := lay_all h
  unfold SeqAt.shaped
  rw [PyData.canLay0, c1, PyData.depth, Bool.true_and]
  exact decide_eq_true (by omega)
theorem dpAll_len {K : PySem.W.Frag} {H : Hp} : ∀ {xs : List V} {ds : List PyData}, DpAll K H xs ds → xs.length = ds.length
  | _, _, .nil => rfl
  | _, _, .cons h t => congrArg (· + 1) (dpAll_len t)
theorem cut_to {xs : List V} {i : Nat} (h : i < xs.length) : cutV xs none (some (i : Int)) = xs.take i := by
  have e1 : HT.sIx xs.length 0 none = 0 := rfl
  have e2 : HT.sIx xs.length xs.length (some (i : Int)) = i := by
    unfold HT.sIx
    simp
    rw [if_neg (by omega)]
    omega
  unfold cutV
  rw [e1, e2]
  rfl
end RQ

set_option maxRecDepth 100000
set_option maxHeartbeats 4000000

namespace RQ
open PySem PySem.Spec PyProof.Rows L2 K01
abbrev Mk2 := Addr × Int × PySem.Str
def dMk (m : Mk2) : PyData := .tuple [.int m.2.1, .str m.2.2]
abbrev rMk (m : Mk2) : V := .ref m.1
def MkH (K : PySem.W.Frag) (H : Hp) (m : Mk2) : Prop := SqT K H m.1 [.int m.2.1, .str m.2.2]
noncomputable def srt (ms : List Mk2) : List Mk2 := ms.mergeSort (PySem.W.dataLe false dMk)
def mlt (a b : Int × PySem.Str) : Bool := if a.1 = b.1 then decide (a.2.cps.toList < b.2.cps.toList) else decide (a.1 < b.1)
section
variable {X : Cx}
def rSortM2 (K : PySem.W.Frag) : List V → Hp → VK → Prop := fun vs H Q => ∃ (l : Addr) (ms : List Mk2), vs = [V.ref l] ∧ SqL K H l (ms.map rMk) ∧ (∀ m ∈ ms, MkH K H m) ∧ ms.length ≤ 1000 ∧ ∀ p, H p = none → Q (.ref p) (upd H p (.lst ((srt ms).map rMk)))
end
end RQ

set_option maxRecDepth 100000
set_option maxHeartbeats 4000000

namespace RQ
open PySem PySem.Spec PyProof.Rows L2 K01
def firsts (l : List PySem.Str) : List PySem.Str := l.foldl (fun acc x => if x ∈ acc then acc else acc ++ [x]) []
abbrev onT (h : PySem.Str) : Key × V := (.inr h, .bl true)
end RQ

set_option maxRecDepth 100000
set_option maxHeartbeats 4000000

namespace RQ
open PySem PySem.Spec PyProof.Rows L2 K01
open PySem.Froz (SD sObj TxOk addTx tailTx)
structure TxS (P : Program) (w : World) (h : Heap) (a : Addr) (L : List PySem.Str) : Prop where
  pay : ∃ D : SD, h.get? a = some (sObj "set" D) ∧ TxOk P w D L ∧ Ris D.2.2.place.toList ∧ (w.params.followText "set-order" = true ∨ D.2.2.led = true)
  nd : L.Nodup
  few : L.length < 64
def addL (k : PySem.Str) (L : List PySem.Str) : List PySem.Str := if k ∈ L then L else k :: L
section
variable {P : Program} {w : World} {A : Around} {E : Value → Shared → Prop} {s : Shared} {a : Addr} {L : List PySem.Str}
theorem TxS.keep {h h' : Heap} (R : TxS P w h a L) (k : ∀ o, h.get? a = some o → h'.get? a = some o) : TxS P w h' a L := by
  obtain ⟨⟨D, g, r⟩, nd, few⟩ := R
  exact ⟨⟨D, k _ g, r⟩, nd, few⟩
theorem TxS.ty (R : TxS P w s.heap a L) : s.TypeIs (.ref a) "set" := by
  obtain ⟨⟨D, g, _⟩, _⟩ := R
  exact ⟨_, g, rfl⟩
end
end RQ

set_option maxRecDepth 100000
set_option maxHeartbeats 4000000

namespace RQ
open PySem PySem.Spec PyProof.Rows L2 K01 MS
def TxO (P : Program) (w : World) (a : Addr) (L : List PySem.Str) : HO := .ext fun h => TxS P w h a L
section
variable {X : Cx}
def tScT (P : Program) (w : World) (wi : TI) (g : TG) (te : TE) (vs : List Nat) : TE := fun σ H Q => wi σ H fun J H1 => ∀ D, H1 D = none → ∃ W : Nat → Nat → Hp → Prop, (∃ m, W 0 m (upd H1 D (TxO P w D []))) ∧
  ∀ i m H, W i m H → (J.stop i H ∧ Q (.ref D) H) ∨ (J.go i H ∧ ∃ Nx : Hp → Prop, (∀ H', Nx H' → ∃ m', m' < m ∧ W (i + 1) m' H') ∧ ∀ x H', J.yld i H x H' → g x (wipe σ vs) H' fun σ2 H2 => wipe σ2 vs = wipe σ vs ∧
    te σ2 H2 fun y H7 => ∃ (k : PySem.Str) (L : List PySem.Str), y = .str k ∧ H7 D = some (TxO P w D L) ∧ L.length + 1 < 64 ∧ Nx (upd H7 D (TxO P w D (addL k L))))
end
section
variable {J : It} {n : Nat} {G : Hp → Prop} {Y : Nat → Hp → V → Hp → Prop}
end
end RQ

set_option maxRecDepth 100000
set_option maxHeartbeats 4000000

namespace RQ
open PySem PySem.Spec PyProof.Rows L2 K01 MS
theorem nodup_perm {α : Type} : ∀ {L M : List α}, L.Nodup → (∀ x ∈ L, x ∈ M) → M.length ≤ L.length → L.Perm M
  | [], M, _, _, h => by
    have : M = [] := List.eq_nil_of_length_eq_zero (by simpa using h)
    rw [this]
  | a :: L, M, nd, sub, h => by
    obtain ⟨s, t, rfl⟩ := List.append_of_mem (sub a List.mem_cons_self)
    rw [List.nodup_cons] at nd
    have ih : L.Perm (s ++ t) := nodup_perm nd.2 (fun x hx => by
      have y := sub x (List.mem_cons_of_mem _ hx)
      rw [List.mem_append, List.mem_cons] at y
      rw [List.mem_append]
      rcases y with y | y | y
      · exact .inl y
      · rw [y] at hx; exact absurd hx nd.1
      · exact .inr y) (by
      rw [List.length_append, List.length_cons] at h
      rw [List.length_cons] at h
      rw [List.length_append]
      omega)
    exact (ih.cons a).trans List.perm_middle.symm
abbrev STk := PySem.Str × Tok
abbrev vST (b : STk) : Value := .str b.1 b.2
def dST (b : STk) : PyData := .str b.1
def RisT (ys : List PySem.Str) : Prop := ys.Pairwise fun x y => decide (y.cps.toList < x.cps.toList) = false
section
variable {P : Program} {w : World} {A : Around} {E : Value → Shared → Prop} {s : Shared} {a : Addr} {L : List PySem.Str}
end
section
variable {X : Cx}
def rSortTx (P : Program) (w : World) : List V → Hp → VK → Prop := fun vs H Q => ∃ (a : Addr) (L : List PySem.Str), vs = [V.ref a] ∧ H a = some (TxO P w a L) ∧ ∀ ys p, ys.Perm L → RisT ys → H p = none → Q (.ref p) (upd H p (.lst (ys.map V.str)))
end
end RQ

set_option maxRecDepth 100000
set_option maxHeartbeats 4000000
namespace PySem
namespace XK
open Builtin
abbrev tKey : List Value := [.type "KeyError", .type "LookupError", .type "Exception", .type "BaseException", .type "object"]
abbrev tVal : List Value := [.type "ValueError", .type "Exception", .type "BaseException", .type "object"]
abbrev tLook : List Value := [.type "LookupError", .type "Exception", .type "BaseException", .type "object"]
abbrev tRun : List Value := [.type "RuntimeError", .type "Exception", .type "BaseException", .type "object"]
abbrev tOver : List Value := [.type "OverflowError", .type "ArithmeticError", .type "Exception", .type "BaseException", .type "object"]
theorem xpVal (z : Value) : refuseLoop z "__setattr__" tVal = pure () := by kernel_rfl
structure Ini (B initId : String) : Prop where
  slot : Slot B "__init__" initId
  entry : entryFor table initId = some Builtin.«BaseException.__init__»
  split : splitId initId = some (B, "__init__")
  kind : builtinKind initId = some .slot
  row : Manifest.signature? initId = some ⟨.positional, "*", B, .self, [⟨"args", .varPos, false⟩]⟩
  star : (B != "*") = true
theorem Ini.of {B newId initId : String} {bm : List Value} (F : ExcBaseFacts B newId initId bm) : Ini B initId := ⟨F.init, F.initEntry, F.initSplit, F.initKind, F.initRow, F.noStar⟩
structure Mro (B : String) (m : List Value) : Prop where
  hasB : m.contains (.type B) = true
  noA : m.contains (.type "AttributeError") = false
  noN : m.contains (.type "NameError") = false
section
variable {M : Model} {A : Around} {E : Value → Shared → Prop} {h : Heap} {g : Array GenState} {d : Drawn} {t : Nat} {os : OsState}
variable {nm q : Str} {C N : Addr} {bs bm bmB : List Value} {hdct : Bool} {sn : List Str} {sub : List Value} {ab : Bool} {col : Option Bool} {dd : Option Addr} {k0 k1 k2 k3 k5 : Option Value} {B B' newId initId initId' : String}
theorem newChk (F : ExcBaseFacts B newId initId bmB) (m : Mro B bm) {us : List Value} {kw : List (Str × Value)} {Q : Unit → Shared → Prop}
    (oC : h.get? C = some (excClassObj nm q C N bs bm hdct sn sub ab col dd k0 k1 k2 k3 k5 newId)) (hq : Q () ⟨h, g, d, t, os⟩) : wpAny M A (checkBuiltinCall newId ⟨.ref C :: us, kw⟩) Q E ⟨h, g, d, t, os⟩ := by
  have c1 : (Value.ref C :: bm).contains (.type B) = true := by rw [List.contains_cons, m.hasB, Bool.or_true]
  have c2 := F.noStar
  simp only [checkBuiltinCall, F.newKind, F.newSplit, F.newRow]
  repeat (first | refine wpAny_loadPart_at oC ?_ | (refine wpAny_isSubtype_exc oC ?_; rw [c1]) | refine wpAny_staticBase_exc oC ?_ | refine wpAny_madeBy_exc oC ?_ | simp only [bne_self_eq_false, Bool.false_eq_true, if_false] | wp_step)
  exact hq
theorem iniChk (F : Ini B' initId') (m : bm.contains (.type B') = true) {e : Addr} {oe : Obj} {us : List Value} {Q : Unit → Shared → Prop}
    (oC : h.get? C = some (excClassObj nm q C N bs bm hdct sn sub ab col dd k0 k1 k2 k3 k5 newId)) (he : h.get? e = some oe) (hcls : oe.cls = .ref C) (hq : Q () ⟨h, g, d, t, os⟩) :
    wpAny M A (checkBuiltinCall initId' ⟨.ref e :: us, []⟩) Q E ⟨h, g, d, t, os⟩ := by
  have c1 : (Value.ref C :: bm).contains (.type B') = true := by rw [List.contains_cons, m, Bool.or_true]
  have c2 := F.star
  simp only [checkBuiltinCall, F.kind, F.split, F.row]
  repeat (first | (with_reducible refine wpAny_loadPart_at he ?_; rw [hcls]) | with_reducible refine wpAny_loadPart_at oC ?_ | (with_reducible refine wpAny_isSubtype_exc oC ?_; rw [c1]) | wp_step)
  refine wpAny_onRaise ?_
  rw [show ∀ (a b : String) (n : Nat), Bind.check ⟨.positional, "*", B', .self, [⟨"args", .varPos, false⟩]⟩ a b n (List.map (fun x => x.fst) ({ pos := Value.ref e :: us } : Args).kw) = pure () from fun a b n => check_star_args _ _ _ _ _ _]
  exact wpAny_pure hq
end
section
variable {prog : Program} {w : World} {A : Around} {E : Value → Shared → Prop} {R : Result → Shared → Prop} {h : Heap} {g : Array GenState} {d : Drawn} {t : Nat} {os : OsState}
variable {nm q : Str} {C N : Addr} {bs bm bmB : List Value} {hdct : Bool} {sn : List Str} {sub : List Value} {ab : Bool} {col : Option Bool} {dd : Option Addr} {k0 k1 k2 k3 k5 : Option Value} {B B' newId initId initId' : String}
open HandSPX (excO)
theorem newRun (F : ExcBaseFacts B newId initId bmB) (m : Mro B bm) {us : List Value} {kw : List (Str × Value)}
    (oC : h.get? C = some (excClassObj nm q C N bs bm hdct sn sub ab col dd k0 k1 k2 k3 k5 newId)) (hus : us.length ≤ sizeLine)
    (hq : R (.ok (.ret (.ref (h.objs.size + 1)))) ⟨(h.push (W.kdv_tup us)).push (excO C h.objs.size), g, d, t, os⟩) :
    codeAny (model prog w) A (.builtin newId ⟨.ref C :: us, kw⟩) R ⟨h, g, d, t, os⟩ := by
  have c0 := F.ends
  have c1 : (Value.ref C :: bm).contains (.type B) = true := by rw [List.contains_cons, m.hasB, Bool.or_true]
  have c2 : (Value.ref C :: bm).contains (.type "AttributeError") = false := by rw [List.contains_cons, m.noA]; rfl
  have c3 : (Value.ref C :: bm).contains (.type "NameError") = false := by rw [List.contains_cons, m.noN]; rfl
  refine codeAny_builtinAt F.entry ?_
  unfold Builtin.«BaseException.__new__»
  refine wpAt_bind ?_
  show wpAt _ _ _ (stack >>= _) _ _ _
  refine wpAt_bind (wpAt_stack fun p below => wpAt_of_wpAny ?_)
  wp_walk
  refine wpAt_of_wpAny ?_
  rw [F.owner]
  repeat (first | with_reducible refine wpAny_madeHere_exc F.canon oC ?_ | with_reducible refine wpAny_loadPart_at oC ?_ | (with_reducible refine wpAny_isSubtype_exc oC ?_; first | rw [c1] | rw [c2] | rw [c3]) | wp_step)
  show R _ _
  rw [Heap.size_push]
  exact hq
theorem typeCall (F : ExcBaseFacts B newId initId bmB) (m : Mro B bm) {us : List Value} {kw : List (Str × Value)} {fI : Addr} {Q : Fin → Shared → Prop}
    (oC : h.get? C = some (excClassObj nm q C N bs bm hdct sn sub ab col dd k0 k1 k2 k3 k5 newId))
    (hi : W.Looks (model prog w) h (typeLookup (.ref C) "__init__") (some (.ref fI))) (hb : ∀ z, W.Looks (model prog w) h (bindSpecial (.ref fI) z) (.ref fI, [z])) (hus : us.length ≤ sizeLine)
    (hq : codeAny (model prog w) A (.call (.ref fI) ⟨.ref (h.objs.size + 1) :: us, kw⟩)
      (fun r s' => match r with | .ok (.ret v) => v = .none ∧ Q (.done (.ret (.ref (h.objs.size + 1)))) s' | .ok _ => False | .error e => E e s')
      ⟨(h.push (W.kdv_tup us)).push (excO C h.objs.size), g, d, t, os⟩) :
    wpAny (model prog w) A (Builtin.«type.__call__» ⟨.ref C :: us, kw⟩) Q E ⟨h, g, d, t, os⟩ := by
  repeat (first | with_reducible refine wpAny_loadPart_at oC ?_ | with_reducible refine wpAny_madeBy_exc oC ?_ | wp_step)
  refine codeAny_call_builtin_code (Code.quiet_builtin _ F.quiet) (newChk F m oC ?_)
  refine newRun F m oC hus ?_
  show wpAny _ _ _ _ _ _
  have kk : ∀ b o, h.get? b = some o → ((h.push (W.kdv_tup us)).push (excO C h.objs.size)).get? b = some o := fun b o z => Heap.get?_push_of_some _ (Heap.get?_push_of_some _ z)
  have oC1 := kk _ _ oC
  have oE : ((h.push (W.kdv_tup us)).push (excO C h.objs.size)).get? (h.objs.size + 1) = some (excO C h.objs.size) := by heap_get
  have cC : (Value.ref C :: bm).contains (.ref C) = true := by simp
  have i1 := hi.keeps kk
  have b1 := (hb (.ref (h.objs.size + 1))).keeps kk
  unfold isInstance
  repeat (first | with_reducible refine wpAny_loadPart_at oE ?_ | (with_reducible refine wpAny_isSubtype_exc oC1 ?_; rw [cC]) | wp_step)
  show wpAny _ _ (typeLookup (.ref C) _) _ _ _
  refine i1.at ?_
  refine wpAny_holding (wpAny_bind (b1.at ?_))
  refine wpAny_bind (wpAny_call (codeAny_mono hq fun r s' z => ?_))
  rcases r with e | (v | _ | _ | _) <;> first | exact z | exact z.elim | skip
  obtain ⟨rfl, z⟩ := z
  first | exact wpAny_pure (wpAny_pure z) | (wp_walk; exact z)
theorem tcChk {us : List Value} {kw : List (Str × Value)} {Q : Unit → Shared → Prop} (oC : h.get? C = some (excClassObj nm q C N bs bm hdct sn sub ab col dd k0 k1 k2 k3 k5 newId))
    (hq : Q () ⟨h, g, d, t, os⟩) : wpAny (model prog w) A (checkBuiltinCall "type.__call__" ⟨.ref C :: us, kw⟩) Q E ⟨h, g, d, t, os⟩ := by
  have f3 := tc_sub
  have y : (⟨h, g, d, t, os⟩ : Shared).TypeIs (.ref C) "type" := ⟨_, oC, rfl⟩
  simp only [checkBuiltinCall, tc_kind, tc_split]
  repeat (any_goals (first | assumption | with_reducible refine wpAny_loadPart_at oC ?_ | with_reducible refine wpAny_onRaise ?_ | with_reducible refine wpAny_map ?_ | wp_step))
theorem callCls (F : ExcBaseFacts B newId initId bmB) (m : Mro B bm) {us : List Value} {kw : List (Str × Value)} {fI : Addr}
    (oC : h.get? C = some (excClassObj nm q C N bs bm hdct sn sub ab col dd k0 k1 k2 k3 k5 newId))
    (hi : W.Looks (model prog w) h (typeLookup (.ref C) "__init__") (some (.ref fI))) (hb : ∀ z, W.Looks (model prog w) h (bindSpecial (.ref fI) z) (.ref fI, [z])) (hus : us.length ≤ sizeLine)
    (hq : codeAny (model prog w) (A.under (.builtin "type.__call__" ⟨.ref C :: us, kw⟩)) (.call (.ref fI) ⟨.ref (h.objs.size + 1) :: us, kw⟩) (W.InitBack (h.objs.size + 1) R)
      ⟨(h.push (W.kdv_tup us)).push (excO C h.objs.size), g, d, t, os⟩) :
    codeAny (model prog w) A (.call (.ref C) ⟨us, kw⟩) R ⟨h, g, d, t, os⟩ := by
  have f1 := tc_lookup
  have f2 := tc_bind (.ref C)
  have y : (⟨h, g, d, t, os⟩ : Shared).TypeIs (.ref C) "type" := ⟨_, oC, rfl⟩
  refine codeAny_of_tree ?_
  show wpAny _ _ (callAny (.ref C) _) _ _ _
  repeat (any_goals (first | assumption | with_reducible refine wpAny_loadPart_at oC ?_ | wp_step))
  refine ⟨rfl, ?_⟩
  refine codeAny_call_builtin_at (Code.quiet_builtin _ (by decide +kernel)) entry_typeCall (tcChk oC (typeCall F m oC hi hb hus ?_))
  refine codeAny_mono hq fun r s' z => ?_
  rcases r with e | (v | _ | _ | _) <;> exact z
theorem iniRun (F : Ini B' initId') (m : bm.contains (.type B') = true) {e t0 : Addr} {us : List Value}
    (oC : h.get? C = some (excClassObj nm q C N bs bm hdct sn sub ab col dd k0 k1 k2 k3 k5 newId)) (he : h.get? e = some (excO C t0)) (hus : us.length ≤ sizeLine)
    (hq : ∀ h' t1, (∀ b o, b ≠ e → h.get? b = some o → h'.get? b = some o) → h'.get? e = some (excO C t1) → R (.ok (.ret .none)) ⟨h', g, d, t, os⟩) :
    codeAny (model prog w) A (.call (.builtin initId') ⟨.ref e :: us, []⟩) R ⟨h, g, d, t, os⟩ := by
  refine codeAny_call_builtin F.slot.plain F.entry (iniChk F m oC he rfl ?_)
  wp_walk
  refine hq _ h.objs.size (fun b o hb ho => ?_) ?_
  · rw [Heap.get?_update_other _ _ (Ne.symm hb)]
    exact Heap.get?_push_of_some _ ho
  · rw [Heap.get?_update_self _ (Heap.get?_push_of_some _ he) rfl]
    rfl
end
section
open Builtin.ObjectAttr
variable {prog : Program} {w : World} {A : Around} {E : Value → Shared → Prop} {R : Result → Shared → Prop} {hp : Heap} {g : Array GenState} {d : Drawn} {t : Nat} {os : OsState}
theorem setNew {K : W.Frag} {name : Str} {tk : Tok} {v : Value} {x C : Addr} {fv : Array Value} {cd : ClassData}
    (X : K.In hp) (hx : hp.get? x = some { cls := .ref C, data := .fields fv }) (hcd : W.clsIn K C = some cd) (ps : refuseLoop (.ref x) "__setattr__" cd.mro = pure ()) (hob : W.mroIn K C (.type "object") = some true) (hh : cd.hasDict = true) (ha : W.findIn K (.ref C) name = some none)
    (hq : ∀ h' tk' dx, (∀ b o, b ≠ x → hp.get? b = some o → h'.get? b = some o) → hp.objs.size ≤ dx → dx ≠ x → h'.get? x = some { cls := .ref C, dict := some dx, data := .fields fv } →
      h'.Ns1 dx (fun y => if y = name then some v else none) → R (.ok (.ret .none)) ⟨h', g, d, tk', os⟩) :
    codeAny (model prog w) A (.call (.builtin "object.__setattr__") ⟨[.ref x, .str name tk, v], []⟩) R ⟨hp, g, d, t, os⟩ := by
  have J : W.InstAt hp x { cls := .ref C, data := .fields fv } C none := ⟨hx, rfl, rfl, trivial⟩
  have Z := F.store_object
  have xs : x ≠ hp.objs.size := Nat.ne_of_lt (Heap.lt_size hx)
  have s1 : W.Looks (model prog w) hp (isInstance (.ref x) (.type "object")) true := J.type.andThen (W.looks_mroIn X hob)
  refine codeAny_call_builtin Z.slot.plain Z.entry (@W.check_slot (model prog w) _ _ ⟨hp, g, d, t, os⟩ "object.__setattr__" "object" "__setattr__" (.ref x) [.str name tk, v] [] _ Z.kind Z.split s1 (Z.args (.ref x) (.str name tk) v) ?_)
  have l1 : W.Looks (model prog w) hp (mroOf (.ref C)) cd.mro := (W.looks_clsIn X hcd).andThen .now
  have l2 : W.Looks (model prog w) hp (storeTaker? none) none := .now
  have l3 : W.Looks (model prog w) hp (classData C) cd := W.looks_clsIn X hcd
  rw [W.osa_eq, refuse_eq]
  refine wpAny_bind (wpAny_bind (J.type.at (wpAny_bind (l1.at ?_))))
  rw [ps]
  refine wpAny_pure (wpAny_bind (J.type.at (wpAny_bind ((W.looks_findIn X ha).at (wpAny_bind (l2.at ?_))))))
  show wpAny _ _ (storeInOwnDict (.ref x) (.ref C) (.str name tk) name v false) _ _ _
  obtain ⟨nm, bs, mro, ns, qn, hd, sn, sb, ab, col, del⟩ := cd
  dsimp only at hh
  subst hh
  unfold storeInOwnDict ownDictForStores
  repeat (first | with_reducible refine HandSPX.store_in_new ?_ ?_ | with_reducible refine wpAny_loadPart_at hx ?_ | with_reducible refine l3.at ?_ | wp_step)
  · exact ⟨_, #[], _, (Heap.get?_update_ne _ _ _ _ xs.symm).trans (Heap.get?_push_at rfl rfl), rfl, fun e he => absurd he (by simp), fun _ => rfl⟩
  · intro h' tk' hn' hs
    have hx₁ : (hp.push { cls := .type "dict", data := .dict #[] }).get? x = some { cls := .ref C, data := .fields fv } := Heap.get?_push_of_some _ hx
    refine hq h' tk' hp.objs.size (fun b o hb ho => ?_) (Nat.le_refl _) xs.symm ?_ hn'
    · exact (hs.2 b (Nat.ne_of_lt (Heap.lt_size ho))).trans ((Heap.get?_update_ne _ _ _ _ hb).trans (Heap.get?_push_of_some _ ho))
    · exact (hs.2 x xs).trans (Heap.get?_update_self _ hx₁ rfl)
end
end XK
end PySem

set_option maxRecDepth 100000
set_option maxHeartbeats 4000000
namespace L2
open PySem PySem.Spec PyProof.Rows
structure ExK (K : PySem.W.Frag) (C : Addr) (bm : List Value) : Prop where
  ex : ∃ (B newId initId : String) (bmB : List Value) (nm q : Str) (N : Addr) (bs : List Value) (sn : List Str) (sub : List Value) (ab : Bool) (col : Option Bool) (dd : Option Addr) (k0 k1 k2 k3 k5 : Option Value),
    ExcBaseFacts B newId initId bmB ∧ XK.Mro B bm ∧ K.lookup C = some (excClassObj nm q C N bs bm true sn sub ab col dd k0 k1 k2 k3 k5 newId)
  ps : ∀ z, refuseLoop z "__setattr__" bm = pure ()
  ob : bm.contains (.type "object") = true
  be : bm.contains (.type "BaseException") = true
  sa : PySem.W.findIn K (.ref C) "__setattr__" = some (some (.builtin "object.__setattr__"))
  ga : PySem.W.findIn K (.ref C) "__getattribute__" = some (some (.builtin "BaseException.__getattribute__"))
  gt : PySem.W.findIn K (.ref C) "__getattr__" = some none
  ca : PySem.W.findIn K (.ref C) "__class__" = some (some (.builtin "object.__class__"))
  kC : PySem.W.keepIn K (.ref C) = true
section
variable {K : PySem.W.Frag} {C : Addr} {bm : List Value}
theorem ExK.cls (T : ExK K C bm) : ∃ cd : ClassData, PySem.W.clsIn K C = some cd ∧ cd.mro = .ref C :: bm ∧ cd.hasDict = true := by
  obtain ⟨B, n, i, bmB, nm, q, N, bs, sn, sub, ab, col, dd, k0, k1, k2, k3, k5, _, _, hC⟩ := T.ex
  refine ⟨{ name := nm, bases := bs, mro := .ref C :: bm, ns := N, qualname := q, hasDict := true, slotNames := sn, subclasses := sub, abstract := ab, collection := col, hasDel := false }, ?_, rfl, rfl⟩
  unfold PySem.W.clsIn
  rw [hC]
theorem ExK.mroIn (T : ExK K C bm) (v : Value) : PySem.W.mroIn K C v = some ((Value.ref C :: bm).contains v) := by
  obtain ⟨cd, h1, h2, _⟩ := T.cls
  unfold PySem.W.mroIn
  rw [h1, Option.bind_some, h2]
  rfl
theorem ExK.ty (T : ExK K C bm) : PySem.W.typeIn K (.ref C) = some (.type "type") := by
  obtain ⟨B, n, i, bmB, nm, q, N, bs, sn, sub, ab, col, dd, k0, k1, k2, k3, k5, _, _, hC⟩ := T.ex
  show (K.lookup C).map (·.cls) = _
  rw [hC]
  rfl
theorem ExK.sub (T : ExK K C bm) : PySem.W.subIn K (.ref C) (.type "BaseException") = some true := by
  show PySem.W.mroIn K C (.type "BaseException") = some true
  rw [T.mroIn, List.contains_cons, T.be, Bool.or_true]
theorem ExK.obj (T : ExK K C bm) : PySem.W.mroIn K C (.type "object") = some true := by
  rw [T.mroIn, List.contains_cons, T.ob, Bool.or_true]
theorem ExK.dct (T : ExK K C bm) : PySem.W.hasDictIn K C = true := by
  obtain ⟨cd, h1, _, h3⟩ := T.cls
  unfold PySem.W.hasDictIn
  rw [h1]
  exact h3
theorem ExK.some (T : ExK K C bm) : (PySem.W.clsIn K C).isSome = true := by
  obtain ⟨cd, h1, _, _⟩ := T.cls
  rw [h1]
  rfl
def IsCl (K : PySem.W.Frag) (v : Value) : Prop := (∃ D bm', v = .ref D ∧ ExK K D bm') ∨ ∃ T, v = .type T ∧ PySem.W.kitMeta T = true
theorem ExK.kit (T : ExK K C bm) {v : Value} (hv : IsCl K v) : PySem.W.kitOne K (.ref C) v = Option.some ((Value.ref C :: bm).contains v) := by
  unfold PySem.W.kitOne
  by_cases e : (Value.ref C == v) = true
  · rw [if_pos e]
    have e' : Value.ref C = v := beq_iff_eq.mp e
    subst e'
    rw [List.contains_cons]
    simp
  · rw [if_neg e]
    rcases hv with ⟨D, bm', rfl, T'⟩ | ⟨t, rfl, hm⟩
    · unfold PySem.W.kitCls
      dsimp only
      rw [T'.some, T'.ty]
      rw [if_pos (by decide)]
      exact T.mroIn _
    · unfold PySem.W.kitCls
      dsimp only
      rw [if_pos hm]
      exact T.mroIn _
end
def XAt (H : Hp) (a C : Addr) : Prop := H a = some (exo a C none) ∨ ∃ dx fs, H a = some (exo a C (some dx)) ∧ H dx = some (exd dx fs)
def rIsX (K : PySem.W.Frag) : List V → Hp → VK → Prop := fun xs H Q => ∃ (a C : Addr) (bm : List Value) (cv : Value) (c : V), xs = [.ref a, c] ∧ XAt H a C ∧ ExK K C bm ∧ (∀ u, RelV c u → u = cv) ∧ IsCl K cv ∧ Q (.bl ((Value.ref C :: bm).contains cv)) H
structure ClsG (K : PySem.W.Frag) : Prop where
  hn : PySem.W.specialIn K (.builtin "object.__class__") "__get__" = some (some (.builtin "getset_descriptor.__get__"))
  ht : PySem.W.takesIn K (.builtin "object.__class__") = some true
section
variable {X : Cx} {pins : List (Addr × Obj)} {σ : St} {H : Hp} {s : Shared} {a C : Addr} {bm : List Value}
theorem XAt.inst (I : Inv X pins σ H s) (h : XAt H a C) : ∃ (ox : Obj) (od : Option Obj), PySem.W.InstAt s.heap a ox C od := by
  rcases h with h | ⟨dx, fs, h, hd⟩
  · obtain ⟨t1, ho⟩ := exo_at I.hok h
    exact ⟨_, none, ho, rfl, rfl, trivial⟩
  · obtain ⟨t1, ho⟩ := exo_at I.hok h
    obtain ⟨mA, ⟨o, es, ep, h1, h2⟩, _⟩ := exd_at I.hok hd
    exact ⟨_, some o, ho, rfl, rfl, h1⟩
end
def tXg (K : PySem.W.Frag) (f : Str) (te : TE) : TE := fun σ H Q => te σ H fun x H1 => ∃ (a C dx : Addr) (fs : List (Str × V)) (v : V) (bm : List Value), x = .ref a ∧ H1 a = some (exo a C (some dx)) ∧ H1 dx = some (exd dx fs) ∧ fs.lookup f = some v ∧ ExK K C bm ∧ PySem.W.findIn K (.ref C) f = some none ∧ Q v H1
def tXs (K : PySem.W.Frag) (f : Str) (to te : TE) : TS := fun D σ H => te σ H fun y H1 => to σ H1 fun x H2 => ∃ (a C : Addr) (bm : List Value), x = .ref a ∧ ExK K C bm ∧ PySem.W.findIn K (.ref C) f = some none ∧ H2 a = some (exo a C none) ∧
  ∀ dx, H2 dx = none → dx ≠ a → D.nx σ (upd (upd H2 dx (exd dx [(f, y)])) a (exo a C (some dx)))
section
variable {X : Cx} {pins : List (Addr × Obj)} {σ : St} {H : Hp} {s : Shared} {a C : Addr} {bm : List Value} {f : Str} {y : V} {u : Value} {Q : Unit → Shared → Prop} {E : Value → Shared → Prop} {A : Around}
theorem xs_new (T : ExK X.K C bm) (I : Inv X pins σ H s) (e : H a = some (exo a C none)) (hno : PySem.W.findIn X.K (.ref C) f = some none) (ry : RelV y u)
    (h : ∀ dx s', H dx = none → dx ≠ a → Inv X pins σ (upd (upd H dx (exd dx [(f, y)])) a (exo a C (some dx))) s' → Q () s') : wpAny (model X.prog X.w) A (setAttr (.ref a) f u) Q E s := by
  obtain ⟨cd, hcl, hmro, hhd⟩ := T.cls
  obtain ⟨t1, ho⟩ := exo_at I.hok e
  obtain ⟨hp, g, d, t, os⟩ := s
  have hps : refuseLoop (.ref a) "__setattr__" cd.mro = pure () := by
    rw [hmro, refuseLoop_ref]
    exact T.ps _
  refine PySem.W.set_plain I.kIn (od := none) ⟨ho, rfl, rfl, trivial⟩ T.sa ?_
  refine XK.setNew I.kIn ho hcl hps T.obj hhd hno (fun h' tk' dx k dn dne hx hn => ?_)
  have fd : H dx = none := I.hok.fresh dn
  have n1 : ∀ {b : Addr} {o : Obj}, hp.get? b = some o → b ≠ dx := fun {b o} z => Nat.ne_of_lt (Nat.lt_of_lt_of_le (Heap.lt_size z) dn)
  have n2 : ∀ {b : Addr}, H b = none → b ≠ a := fun {b} n z => by
    rw [z, e] at n
    cases n
  have U : Un X.fs [] H (upd (upd H dx (exd dx [(f, y)])) a (exo a C (some dx))) hp h' := {
    keep := fun b o z n _ _ => k b o (n2 n) z
    slot := fun b o z n _ _ => ⟨o.slots, k b o (n2 n) z⟩
    free := fun b o z n _ => by rw [upd_ne (n2 n), upd_ne (n1 z)]; exact n
    there := fun b o z _ => by
      by_cases hb : b = a
      · exact ⟨_, by rw [hb]; exact hx⟩
      · exact ⟨o, k b o hb z⟩
    tups := fun b xs z => by rw [upd_ne (at_ne e z exo_tup), upd_ne (ne_of_none z fd)]; exact z
    frzs := fun b o v z => by rw [upd_ne (at_ne e z exo_frz), upd_ne (ne_of_none z fd)]; exact z
    tbls := fun b ps z => ⟨#[], by rw [upd_ne (at_ne e z exo_tbl), upd_ne (ne_of_none z fd), z]; simp⟩ }
  refine h dx _ fd dne (I.un (t' := tk') U fun b o z => ?_)
  by_cases hb : b = a
  · subst hb
    rw [upd_same] at z
    cases z
    exact exo_ok hx
  · rw [upd_ne hb] at z
    by_cases hd : b = dx
    · subst hd
      rw [upd_same] at z
      cases z
      exact exd_ok hn (relO_put (fs := []) ry fun g => True.intro)
    · rw [upd_ne hd] at z
      refine (I.hok b o z).stay (fun c v hc z2 => k c v ?_ z2) (fun c hc => ?_) (fun c xs hc => ?_)
      · rcases hc with hc | hc
        · rw [hc]
          exact hb
        · exact at_ne e hc exo_own
      · rw [upd_ne (at_ne e hc exo_own), upd_ne (ne_of_none hc fd)]
        exact hc
      · rw [upd_ne (at_ne e hc exo_tup), upd_ne (ne_of_none hc fd)]
        exact hc
theorem xi_ok {us : List Value} {Q : Value → Shared → Prop} {B id : String} (F : XK.Ini B id) (T : ExK X.K C bm) (hB : bm.contains (.type B) = true) (I : Inv X pins σ H s) (e : H a = some (exo a C none)) (hl : us.length ≤ sizeLine) (h : ∀ s', Inv X pins σ H s' → Q .none s') :
    wpAny (model X.prog X.w) A (call (.builtin id) (.ref a :: us)) Q E s := by
  obtain ⟨B', n, i, bmB, nm, q, N, bs, sn, sub, ab, col, dd, k0, k1, k2, k3, k5, _, _, hC⟩ := T.ex
  obtain ⟨t1, ho⟩ := exo_at I.hok e
  obtain ⟨hp, g, d, t, os⟩ := s
  refine wpAny_call (XK.iniRun F hB (I.kIn _ _ hC) ho hl fun h' t2 k hx => ?_)
  have J := I.write (t' := t) (x := a) (e := a) (o := exo a C none) (by rw [e]; exact True.intro) (.inl rfl) k ⟨_, hx⟩ (exo_ok hx)
  have eu : upd H a (exo a C none) = H := by
    funext b
    by_cases hb : b = a
    · rw [hb, upd_same, e]
    · rw [upd_ne hb]
  rw [eu] at J
  exact h _ J
end
theorem ps_xs {X : Cx} {o e : Expr} {to te : TE} {f : Str} {p' pos : Pos} (ho : PE X o to) (he : PE X e te) (hs : swapsWith e (some (.Attribute o f p')) pos.line X.env = pure false := by rfl) : PS X (.Assign [.Attribute o f p'] e pos) (tXs X.K f to te) := by
  refine ⟨fun pins s σ H D I h => ?_⟩
  refine plainObj_wpAny_Assign_Attribute (thn (he.run pins s σ H _ I h) fun v s1 ⟨y, H1, I1, r1, q1⟩ => thn (ho.run pins s1 σ H1 _ I1 q1) fun u s2 hz => ?_) hs
  obtain ⟨x, H2, I2, r2, a, C, bm, ex, T, hno, ea, q⟩ := hz
  subst ex
  obtain rfl : u = Value.ref a := r2
  exact xs_new T I2 ea hno r1 fun dx s' n ne J => ⟨σ, _, J, q dx n ne⟩
def tXi (K : PySem.W.Frag) (B : String) (ta : TA) : TE := fun σ H Q => ta σ H fun vs H1 => ∃ (a C : Addr) (ws : List V) (bm : List Value), vs = .ref a :: ws ∧ ws.length ≤ 1000 ∧ ExK K C bm ∧ bm.contains (.type B) = true ∧ H1 a = some (exo a C none) ∧ Q .non H1
section
variable {X : Cx} {e : Expr} {es : List Expr} {ta : TA} {p1 p2 pos : Pos} {x : Str} {B id : String} {D : Addr}
theorem xi_end {pins : List (Addr × Obj)} {σ : St} {H : Hp} {s : Shared} {Q : VK} (F : XK.Ini B id) (I : Inv X pins σ H s) (ha : PA X (e :: es) ta) (h : tXi X.K B ta σ H Q)
    (he : starEach (e :: es) X.env = (false, eval e X.env) :: starEach es X.env) (hpl : (backTo pos (starEach es X.env)).any (·.1) = false) :
    wpAny (model X.prog X.w) X.A (callWith pos (Value.builtin id) [] (backTo pos (starEach (e :: es) X.env)) []) (EP X pins σ Q) X.xe s := by
  refine PyProof.Rows.callWith_method1 (thn (ha.run pos pins s σ H _ I h) fun us s1 hz => ?_) he hpl
  obtain ⟨vs, H1, I1, r1, a, C, ws, bm, ev, hl, T, hB, ea, q⟩ := hz
  subst ev
  cases r1 with
  | @cons _ u0 _ ur ra rr =>
    obtain rfl : u0 = Value.ref a := ra
    have hlen : ur.length ≤ sizeLine := by
      rw [← Paired.length rr, sizeLine_eq]
      omega
    exact xi_ok F T hB I1 ea hlen fun s' J => ⟨.non, H1, J, rfl, q⟩
theorem pe_hi {pl : Sem Bool} (F : XK.Ini B id) (hg : Gl X x) (hm : X.mg x = some (.ref D)) (sg : PySem.W.specialIn X.K (.ref D) "__getattribute__" = some (some (.builtin "type.__getattribute__"))) (rd : PySem.W.readsIn X.K D (.type "type") = true) (hh : PySem.W.handedIn (.builtin id) = true)
    (vV : PySem.W.findCls X.K (.ref D) (.type "type") "__init__" = some (.val (.builtin id))) (ha : PA X (e :: es) ta)
    (hc : eval (.Call (.Attribute (.Name x p1) "__init__" p2) (e :: es) [] pos) X.env = (do
      let ov ← eval (.Name x p1) X.env
      standAt p2.atName
      let (f, first) ← holding [ov] (getMethod ov "__init__" pl)
      callWith pos f first (backTo pos (starEach (e :: es) X.env)) (backToKw pos (keywordEach [] X.env))) := by rfl)
    (he : starEach (e :: es) X.env = (false, eval e X.env) :: starEach es X.env := by rfl) (hpl : (backTo pos (starEach es X.env)).any (·.1) = false := by rfl) (hdb : (x == ("__debug__" : Str)) = false := by decide) :
    PE X (.Call (.Attribute (.Name x p1) "__init__" p2) (e :: es) [] pos) (tXi X.K B ta) := by
  refine ⟨fun pins s σ H Q I h => ?_⟩
  refine PySem.W.methodCall_KW (ld_glob I hg hm ?_ hdb) hc
  refine PySem.W.method_cls I.kIn sg (PySem.W.cls_value I.kIn rd vV hh ?_)
  show wpAny _ _ (callWith pos (Value.builtin id) [] (backTo pos (starEach (e :: es) X.env)) []) _ _ _
  exact xi_end F (I.tok _) ha h he hpl
end

def spI0 (C : Addr) : Sp := fun vs H Q _ => ∃ a, vs = [.ref a] ∧ H a = some (exo a C none) ∧ Q .non H
def spI1 (C : Addr) (f : Str) : Sp := fun vs H Q _ => ∃ a v, vs = [.ref a, v] ∧ H a = some (exo a C none) ∧ ∀ d, H d = none → d ≠ a → Q .non (upd (upd H d (exd d [(f, v)])) a (exo a C (some d)))
def tMk0 (C : Addr) : TE := fun σ H Q => ∀ a, H a = none → Q (.ref a) (upd H a (exo a C none))
def tMk1 (C : Addr) (f : Str) (te : TE) : TE := fun σ H Q => te σ H fun v H1 => ∀ a d, H1 a = none → H1 d = none → d ≠ a → Q (.ref a) (upd (upd H1 d (exd d [(f, v)])) a (exo a C (some d)))
structure XMk (K : PySem.W.Frag) (C fI : Addr) : Prop where
  kx : ∃ bm, ExK K C bm
  iC : PySem.W.findIn K (.ref C) "__init__" = some (some (.ref fI))
  tI : PySem.W.typeIn K (.ref fI) = some (.type "function")
section
variable {X : Cx} {CX : CXT} {k : Nat} {fI C : Addr} {fd : FuncData} {ps : List Str} {sp : Sp} {E : XK} {x f : Str} {p pos kpos : Pos} {e : Expr} {te : TE}
theorem mk1_heap {H : Hp} {a d : Addr} {o1 o2 o3 : HO} (n : d ≠ a) : upd (upd (upd H a o1) d o2) a o3 = upd (upd H d o2) a o3 := by
  funext b
  by_cases hb : b = a
  · rw [hb, upd_same, upd_same]
  · rw [upd_ne hb, upd_ne hb]
    by_cases hd : b = d
    · rw [hd, upd_same, upd_same]
    · rw [upd_ne hd, upd_ne hd, upd_ne hb]
def mk1Q (C : Addr) (f : Str) (Q : VK) : List V → Hp → Prop := fun xs H1 => match xs with
  | [v] => ∀ a d, H1 a = none → H1 d = none → d ≠ a → Q (.ref a) (upd (upd H1 d (exd d [(f, v)])) a (exo a C (some d)))
  | _ => False
end
end L2

set_option maxRecDepth 100000
set_option maxHeartbeats 4000000

namespace MM
open PySem PySem.Spec PyProof.Rows L2

inductive Wv where
  | non | bl (b : Bool) | int (i : Int) | str (x : PySem.Str) | tup (ws : List Wv) | obj (i : Nat) | glob (x : PySem.Str) | raw (v : V) | scr (ns : List Int) | ptp (ws : List Wv)
inductive Ob where
  | lst (ws : List Wv) | dk (kvs : List (Key × Wv)) | dt (kvs : List (List Key × Wv)) | ins (C : PySem.Str) (fs : List (PySem.Str × Wv))
  | frz (o : Ob) | stx (L : List PySem.Str) | sdt (L : List (List Key))
  | xd (fs : List (PySem.Str × Wv)) | exc (C : PySem.Str) (d : Option Nat) | tbl (x : PySem.Str)
  | fn (k : PySem.Str × List Nat × List Nat) (cs : List Wv) | dead
abbrev Hm := List Ob
structure Ex where
  C : PySem.Str
  d : Option Nat
inductive Out (α : Type) where
  | ok (a : α) (h : Hm) | ex (x : Ex) (h : Hm) | no
abbrev M (α : Type) := Hm → Out α
def Out.bind {α β : Type} : Out α → (α → M β) → Out β
  | .ok a h, f => f a h
  | .ex x h, _ => .ex x h
  | .no, _ => .no
def M.bind {α β : Type} (m : M α) (f : α → M β) : M β := fun h => (m h).bind f
def M.pure {α : Type} (a : α) : M α := fun h => .ok a h
def M.no {α : Type} : M α := fun _ => .no
instance : Monad M where
  pure := M.pure
  bind := M.bind
theorem bind_ok {α β : Type} {m : M α} {f : α → M β} {h : Hm} {b : β} {h' : Hm} (e : (m.bind f) h = .ok b h') : ∃ a h1, m h = .ok a h1 ∧ f a h1 = .ok b h' := by
  unfold M.bind at e
  cases q : m h with
  | ok a h1 => rw [q] at e; exact ⟨a, h1, rfl, e⟩
  | ex x h1 => rw [q] at e; cases e
  | no => rw [q] at e; cases e
abbrev Env := List (Option Wv)
abbrev EM := Env → M Wv
structure Cfg where
  P : Program
  w : World
  K : PySem.W.Frag
  mg : PySem.Str → Option Value
abbrev cfg (X : Cx) : Cfg := ⟨X.prog, X.w, X.K, X.mg⟩

def ScrAt (c : Cfg) (H : Hp) (a : Addr) (ns : List Int) : Prop := (∃ ob, H a = some (.frz ob (.lst (ns.map V.int)))) ∨
  ∃ (o : Obj) (its : Array Value) (n : Nat), c.K.lookup a = some o ∧ o.cls = .type "list" ∧ o.dict = none ∧ o.data = .seq its n ∧ its.size ≤ sizeLine ∧ Vals (ns.map V.int) its.toList
theorem ScrAt.sq {c : Cfg} {H : Hp} {a : Addr} {ns : List Int} (h : ScrAt c H a ns) : SqL c.K H a (ns.map V.int) := by
  rcases h with ⟨ob, h⟩ | h
  · exact .inl (.inr ⟨ob, h⟩)
  · exact .inr h
def NoD (u : HO) : Prop := (∀ k, u ≠ .dK k) ∧ ∀ k, u ≠ .dT k
theorem nod_lst {xs : List V} : NoD (.lst xs) := ⟨(fun _ z => by cases z), (fun _ z => by cases z)⟩
theorem nod_tup {xs : List V} : NoD (.tup xs) := ⟨(fun _ z => by cases z), (fun _ z => by cases z)⟩
theorem nod_own {x : Addr} : NoD (.own x) := ⟨(fun _ z => by cases z), (fun _ z => by cases z)⟩
def PlT (c : Cfg) (H : Hp) (a : Addr) (vs : List V) : Prop := (∃ ob : Obj, H a = some (.frz ob (.tup vs)) ∧ ob.dict = none) ∨
  ∃ (o : Obj) (its : Array Value) (n : Nat), c.K.lookup a = some o ∧ o.cls = .type "tuple" ∧ o.dict = none ∧ o.data = .seq its n ∧ its.size ≤ sizeLine ∧ Vals vs its.toList
theorem PlT.sq {c : Cfg} {H : Hp} {a : Addr} {vs : List V} (h : PlT c H a vs) : SqT c.K H a vs := by
  rcases h with ⟨ob, h, _⟩ | ⟨o, its, n, h1, h2, _, h4, h5, h6⟩
  · exact .inl (.inr ⟨ob, h⟩)
  · exact .inr ⟨o, its, n, h1, h2, h4, h5, h6⟩
mutual
inductive Rp (c : Cfg) (μ : List Addr) (H : Hp) : V → Wv → Prop
  | non : Rp c μ H .non .non
  | bl (b : Bool) : Rp c μ H (.bl b) (.bl b)
  | int (i : Int) : Rp c μ H (.int i) (.int i)
  | str (x : PySem.Str) : Rp c μ H (.str x) (.str x)
  | tup {a : Addr} {vs : List V} {ws : List Wv} (h : H a = some (.tup vs)) (r : Rps c μ H vs ws) : Rp c μ H (.ref a) (.tup ws)
  | obj {a : Addr} {i : Nat} (h : μ[i]? = some a) : Rp c μ H (.ref a) (.obj i)
  | glob {x : PySem.Str} {a : Addr} (h : c.mg x = some (.ref a)) : Rp c μ H (.ref a) (.glob x)
  | raw (v : V) : Rp c μ H v (.raw v)
  | scr {a : Addr} {ns : List Int} (h : ScrAt c H a ns) : Rp c μ H (.ref a) (.scr ns)
  | ptp {a : Addr} {vs : List V} {ws : List Wv} (h : PlT c H a vs) (r : Rps c μ H vs ws) : Rp c μ H (.ref a) (.ptp ws)
inductive Rps (c : Cfg) (μ : List Addr) (H : Hp) : List V → List Wv → Prop
  | nil : Rps c μ H [] []
  | cons {v : V} {vs : List V} {w : Wv} {ws : List Wv} (r : Rp c μ H v w) (t : Rps c μ H vs ws) : Rps c μ H (v :: vs) (w :: ws)
end

structure Gt (c : Cfg) (μ : List Addr) (H : Hp) (μ' : List Addr) (H' : Hp) : Prop where
  pre : μ <+: μ'
  tk : ∀ a vs, SqT c.K H a vs → SqT c.K H' a vs
  tq : ∀ a vs, H a = some (.tup vs) → H' a = some (.tup vs)
  fl : ∀ a ob u, NoD u → H a = some (.frz ob u) → H' a = some (.frz ob u)
structure Gw (c : Cfg) (μ : List Addr) (H : Hp) (μ' : List Addr) (H' : Hp) : Prop extends Gt c μ H μ' H' where
  fz : ∀ a ob u, H a = some (.frz ob u) → H' a = some (.frz ob u)
theorem Gt.trans {c : Cfg} {μ μ1 μ2 : List Addr} {H H1 H2 : Hp} (a : Gt c μ H μ1 H1) (b : Gt c μ1 H1 μ2 H2) : Gt c μ H μ2 H2 := ⟨a.pre.trans b.pre, fun x vs h => b.tk x vs (a.tk x vs h), fun x vs h => b.tq x vs (a.tq x vs h), fun x o vs n h => b.fl x o vs n (a.fl x o vs n h)⟩
theorem Gw.trans {c : Cfg} {μ μ1 μ2 : List Addr} {H H1 H2 : Hp} (a : Gw c μ H μ1 H1) (b : Gw c μ1 H1 μ2 H2) : Gw c μ H μ2 H2 := ⟨a.toGt.trans b.toGt, fun x o u h => b.fz x o u (a.fz x o u h)⟩
structure Go (c : Cfg) (μ : List Addr) (H : Hp) (μ' : List Addr) (H' : Hp) : Prop extends Gw c μ H μ' H' where
  fr : ∀ a o, H a = some o → a ∉ μ → H' a = some o
  new : ∀ a ∈ μ', a ∉ μ → H a = none
theorem Go.refl (c : Cfg) (μ : List Addr) (H : Hp) : Go c μ H μ H := ⟨⟨⟨List.prefix_refl _, fun _ _ h => h, fun _ _ h => h, fun _ _ _ _ h => h⟩, fun _ _ _ h => h⟩, fun _ _ h _ => h, fun a h n => absurd h n⟩
theorem Go.trans {c : Cfg} {μ μ1 μ2 : List Addr} {H H1 H2 : Hp} (a : Go c μ H μ1 H1) (b : Go c μ1 H1 μ2 H2) : Go c μ H μ2 H2 := by
  have out : ∀ x o, H x = some o → x ∉ μ → x ∉ μ1 := fun x o e n z => by
    have := a.new x z n
    rw [e] at this; cases this
  refine ⟨a.toGw.trans b.toGw, fun x o e n => b.fr x o (a.fr x o e n) (out x o e n), fun x h n => ?_⟩
  by_cases m1 : x ∈ μ1
  · exact a.new x m1 n
  · have := b.new x h m1
    cases q : H x with
    | none => rfl
    | some o =>
      have z := a.fr x o q n
      rw [this] at z
      cases z
theorem pre_at {μ μ' : List Addr} (p : μ <+: μ') {i : Nat} {a : Addr} (h : μ[i]? = some a) : μ'[i]? = some a := by
  obtain ⟨t, rfl⟩ := p
  rw [List.getElem?_append_left (List.getElem?_eq_some_iff.mp h).1]
  exact h
mutual
theorem Rp.mt {c : Cfg} {μ μ' : List Addr} {H H' : Hp} (g : Gt c μ H μ' H') : ∀ {v : V} {w : Wv}, Rp c μ H v w → Rp c μ' H' v w
  | _, _, .non => .non
  | _, _, .bl b => .bl b
  | _, _, .int i => .int i
  | _, _, .str x => .str x
  | _, _, .tup h r => .tup (g.tq _ _ h) (Rps.mt g r)
  | _, _, .obj h => .obj (pre_at g.pre h)
  | _, _, .glob h => .glob h
  | _, _, .raw v => .raw v
  | _, _, .scr (.inl ⟨ob, h⟩) => .scr (.inl ⟨ob, g.fl _ _ _ nod_lst h⟩)
  | _, _, .scr (.inr h) => .scr (.inr h)
  | _, _, .ptp (.inl ⟨ob, h, d⟩) r => .ptp (.inl ⟨ob, g.fl _ _ _ nod_tup h, d⟩) (Rps.mt g r)
  | _, _, .ptp (.inr h) r => .ptp (.inr h) (Rps.mt g r)
theorem Rps.mt {c : Cfg} {μ μ' : List Addr} {H H' : Hp} (g : Gt c μ H μ' H') : ∀ {vs : List V} {ws : List Wv}, Rps c μ H vs ws → Rps c μ' H' vs ws
  | _, _, .nil => .nil
  | _, _, .cons r t => .cons (Rp.mt g r) (Rps.mt g t)
end
theorem Rp.mv {c : Cfg} {μ μ' : List Addr} {H H' : Hp} (g : Gw c μ H μ' H') {v : V} {w : Wv} (p : Rp c μ H v w) : Rp c μ' H' v w := p.mt g.toGt
theorem Rps.mv {c : Cfg} {μ μ' : List Addr} {H H' : Hp} (g : Gw c μ H μ' H') {vs : List V} {ws : List Wv} (p : Rps c μ H vs ws) : Rps c μ' H' vs ws := p.mt g.toGt
theorem Rp.go {c : Cfg} {μ μ' : List Addr} {H H' : Hp} (g : Go c μ H μ' H') {v : V} {w : Wv} (p : Rp c μ H v w) : Rp c μ' H' v w := p.mv g.toGw
theorem Rps.go {c : Cfg} {μ μ' : List Addr} {H H' : Hp} (g : Go c μ H μ' H') {vs : List V} {ws : List Wv} (p : Rps c μ H vs ws) : Rps c μ' H' vs ws := p.mv g.toGw
section
variable {c : Cfg} {μ : List Addr} {H : Hp}
theorem Rps.length : ∀ {vs : List V} {ws : List Wv}, Rps c μ H vs ws → vs.length = ws.length
  | _, _, .nil => rfl
  | _, _, .cons _ t => by rw [List.length_cons, List.length_cons, Rps.length t]
theorem Rps.at : ∀ {vs : List V} {ws : List Wv} {i : Nat} {w : Wv}, Rps c μ H vs ws → ws[i]? = some w → ∃ v, vs[i]? = some v ∧ Rp c μ H v w
  | _, _, i, _, .nil, h => by simp at h
  | _, _, 0, _, .cons r _, h => by simp at h; subst h; exact ⟨_, rfl, r⟩
  | _, _, i + 1, w, .cons _ t, h => by
    obtain ⟨v, e, r⟩ := Rps.at (i := i) (w := w) t (by simpa using h)
    exact ⟨v, by simpa using e, r⟩
theorem Rps.append : ∀ {vs vs' : List V} {ws ws' : List Wv}, Rps c μ H vs ws → Rps c μ H vs' ws' → Rps c μ H (vs ++ vs') (ws ++ ws')
  | _, _, _, _, .nil, s => s
  | _, _, _, _, .cons r t, s => .cons r (Rps.append t s)
theorem Rps.take : ∀ {vs : List V} {ws : List Wv} (n : Nat), Rps c μ H vs ws → Rps c μ H (vs.take n) (ws.take n)
  | _, _, 0, _ => .nil
  | _, _, _ + 1, .nil => .nil
  | _, _, n + 1, .cons r t => .cons r (Rps.take n t)
theorem Rps.drop : ∀ {vs : List V} {ws : List Wv} (n : Nat), Rps c μ H vs ws → Rps c μ H (vs.drop n) (ws.drop n)
  | _, _, 0, r => r
  | _, _, _ + 1, .nil => .nil
  | _, _, n + 1, .cons _ t => Rps.drop n t
theorem Rps.set {v : V} {w : Wv} (r : Rp c μ H v w) : ∀ {vs : List V} {ws : List Wv} (i : Nat), Rps c μ H vs ws → Rps c μ H (vs.set i v) (ws.set i w)
  | _, _, _, .nil => .nil
  | _, _, 0, .cons _ t => .cons r t
  | _, _, i + 1, .cons q t => .cons q (Rps.set r i t)
theorem Rps.reverse : ∀ {vs : List V} {ws : List Wv}, Rps c μ H vs ws → Rps c μ H vs.reverse ws.reverse
  | _, _, .nil => .nil
  | _, _, .cons r t => by rw [List.reverse_cons, List.reverse_cons]; exact (Rps.reverse t).append (.cons r .nil)
abbrev Rkv {κ : Type} (c : Cfg) (μ : List Addr) (H : Hp) : List (κ × V) → List (κ × Wv) → Prop := Paired fun (p : κ × V) (q : κ × Wv) => p.1 = q.1 ∧ Rp c μ H p.2 q.2
end
theorem Rkv.mt {κ : Type} {c : Cfg} {μ μ' : List Addr} {H H' : Hp} (g : Gt c μ H μ' H') {a : List (κ × V)} {b : List (κ × Wv)} (h : Rkv c μ H a b) : Rkv c μ' H' a b := Paired.mapP h fun _ _ z => ⟨z.1, z.2.mt g⟩
theorem Rkv.mv {κ : Type} {c : Cfg} {μ μ' : List Addr} {H H' : Hp} (g : Gw c μ H μ' H') {a : List (κ × V)} {b : List (κ × Wv)} (h : Rkv c μ H a b) : Rkv c μ' H' a b := Rkv.mt g.toGt h
theorem Rkv.go {κ : Type} {c : Cfg} {μ μ' : List Addr} {H H' : Hp} (g : Go c μ H μ' H') {a : List (κ × V)} {b : List (κ × Wv)} (h : Rkv c μ H a b) : Rkv c μ' H' a b := Rkv.mv g.toGw h

def exq (e C : Addr) (d : Option Addr) : HO := .ext fun h => ∃ (oe : Obj) (vs : Array Value), h.get? e = some oe ∧ Zc (.ref C) d oe ∧ oe.data = .fields vs
def DxAt (μ : List Addr) : Option Nat → Option Addr → Prop
  | none, d => d = none
  | some j, d => ∃ dx, d = some dx ∧ μ[j]? = some dx
theorem DxAt.mv {μ μ' : List Addr} (p : μ <+: μ') : ∀ {j : Option Nat} {d : Option Addr}, DxAt μ j d → DxAt μ' j d
  | none, _, h => h
  | some _, _, ⟨dx, e, h⟩ => ⟨dx, e, pre_at p h⟩
def CodeNm (oc : Obj) (q : PySem.Str) : Prop := ∃ (vs : Array Value) (t : Tok), oc.data = .fields vs ∧ vs[1]? = some (.str q t)
def lamQ (x : PySem.Str) : PySem.Str := x ++ ".<locals>." ++ "<lambda>"
abbrev LKey := PySem.Str × List Nat × List Nat
def kidsE : Expr → List Expr
  | .Call f args _ _ => f :: args
  | .BoolOp _ vs _ => vs
  | .Compare l _ cs _ => l :: cs
  | .UnaryOp _ a _ => [a]
  | .BinOp a _ b _ => [a, b]
  | _ => []
def navE : List Nat → Expr → Option Expr
  | [], e => some e
  | i :: r, e => match (kidsE e)[i]? with | some d => navE r d | none => none
def headS : Stmt → Option Expr
  | .Return e _ => e
  | .Assign _ v _ => some v
  | .AugAssign _ _ v _ => some v
  | .Expr v _ => some v
  | .If t _ _ _ => some t
  | _ => none
def blkS : Stmt → List Stmt
  | .If _ a b _ => a ++ b
  | .For _ _ a _ _ => a
  | .While _ a _ _ => a
  | .FunctionDef (body := b) .. => b
  | _ => []
def navS : List Nat → List Stmt → Option Stmt
  | [], _ => none
  | [i], ss => ss[i]?
  | i :: j :: r, ss => match ss[i]? with | some s => navS (j :: r) (blkS s) | none => none
def isDef (x : PySem.Str) : Stmt → Bool
  | .FunctionDef (name := y) .. => y == x
  | _ => false
def lamAt (P : Program) (k : LKey) : Option Expr := match P.main.body.find? (isDef k.1) with
  | some st => match navS k.2.1 (blkS st) with
    | some s => (headS s).bind (navE k.2.2)
    | none => none
  | none => none
def frOf (sc : Scope) : List PySem.Str := sc.names.filterMap fun y => match y.2 with | .free => some y.1 | _ => none
def CellT (H : Hp) (f x : Addr) (v : V) : Prop := ∃ (o : Obj) (u : Value), H x = some (.frz o (.own f)) ∧ o.data = .cell (some u) ∧ RelV v u
def FnU (c : Cfg) (μ : List Addr) (H : Hp) (a : Addr) (e : LKey) (cs : List Wv) (u : HO) : Prop :=
  ∃ (params : Arguments) (body : Expr) (scope : Scope) (pos : Pos) (q : PySem.Str) (cl : List (PySem.Str × Addr)) (cc : Addr) (pm ctv : Value) (oc : Obj) (vs : List V),
    lamAt c.P e = some (.Lambda params body scope pos) ∧ u = .frz (PySem.W.kla_obj "<lambda>" q params body scope cl pm cc ctv) (.own a) ∧ H cc = some (.frz oc (.own cc)) ∧ CodeNm oc q ∧
    (∀ y x, cl.lookup y = some x → y ∈ frOf scope) ∧ (∀ y z x, cl.lookup y = some x → cl.lookup z = some x → y = z) ∧ Paired (fun (y : PySem.Str) v => ∃ x, cl.lookup y = some x ∧ CellT H a x v) (frOf scope) vs ∧ Rps c μ H vs cs
theorem FnU.mt {c : Cfg} {μ μ' : List Addr} {H H' : Hp} {a : Addr} {e : LKey} {cs : List Wv} {u : HO} (g : Gt c μ H μ' H') (h : FnU c μ H a e cs u) : FnU c μ' H' a e cs u := by
  obtain ⟨params, body, scope, pos, q, cl, cc, pm, ctv, oc, vs, e1, e2, e3, e4, e5, e6, e7, e8⟩ := h
  exact ⟨params, body, scope, pos, q, cl, cc, pm, ctv, oc, vs, e1, e2, g.fl _ _ _ nod_own e3, e4, e5, e6, Paired.mapP e7 fun y v ⟨x, z1, o, w, z2, z3⟩ => ⟨x, z1, o, w, g.fl _ _ _ nod_own z2, z3⟩, e8.mt g⟩
def ObjU (c : Cfg) (μ : List Addr) (H : Hp) (a : Addr) : Ob → HO → Prop
  | .lst ws, u => ∃ vs, u = .lst vs ∧ Rps c μ H vs ws
  | .dk kvs, u => ∃ kvs', u = .dK kvs' ∧ Rkv c μ H kvs' kvs
  | .dt kvs, u => ∃ kvs', u = .dT kvs' ∧ Rkv c μ H kvs' kvs
  | .ins C fs, u => ∃ Ca dx fs', c.mg C = some (.ref Ca) ∧ u = .ins Ca dx fs' ∧ Rkv c μ H fs' fs
  | .frz o, u => ∃ ob u', u = .frz ob u' ∧ ObjU c μ H a o u'
  | .stx L, u => u = RQ.TxO c.P c.w a L
  | .sdt L, u => ∃ rows : List MS.Row, u = MS.MSO c.P c.w a rows ∧ (∀ k, k ∈ rows.map (·.2) ↔ k ∈ L) ∧ ∀ p ∈ rows, H p.1 = some (.tup (p.2.map kV))
  | .xd fs, u => ∃ fs', u = exd a fs' ∧ Rkv c μ H fs' fs
  | .exc C j, u => ∃ Ca d, c.mg C = some (.ref Ca) ∧ u = exq a Ca d ∧ DxAt μ j d
  | .tbl x, u => (∃ C, PySem.W.tabIn c.K x = some (C, a)) ∧ ∃ ps : Array Value, u = .tbl ps ∧ TriplesOk ps.toList ∧ ∀ (pos : Pos) (cv : Value), codeAmong pos ps.toList = some cv → ∃ (d : Addr) (oc : Obj), cv = .ref d ∧ CodeNm oc (lamQ x) ∧ H d = some (.frz oc (.own d))
  | .fn e cs, u => FnU c μ H a e cs u
  | .dead, u => ∃ ob, u = .frz ob (.own a)
theorem ObjU.mt {c : Cfg} {μ μ' : List Addr} {H H' : Hp} {a : Addr} (g : Gt c μ H μ' H') : ∀ {o : Ob} {u : HO}, ObjU c μ H a o u → ObjU c μ' H' a o u
  | .lst _, _, ⟨vs, e, r⟩ => ⟨vs, e, r.mt g⟩
  | .dk _, _, ⟨k, e, r⟩ => ⟨k, e, Rkv.mt g r⟩
  | .dt _, _, ⟨k, e, r⟩ => ⟨k, e, Rkv.mt g r⟩
  | .ins _ _, _, ⟨Ca, dx, fs', m, e, r⟩ => ⟨Ca, dx, fs', m, e, Rkv.mt g r⟩
  | .frz _, _, ⟨ob, u', e, r⟩ => ⟨ob, u', e, ObjU.mt g r⟩
  | .stx _, _, e => e
  | .sdt _, _, ⟨rows, e, q, d⟩ => ⟨rows, e, q, fun p hp => g.tq _ _ (d p hp)⟩
  | .xd _, _, ⟨fs', e, r⟩ => ⟨fs', e, Rkv.mt g r⟩
  | .exc _ _, _, ⟨Ca, d, m, e, r⟩ => ⟨Ca, d, m, e, r.mv g.pre⟩
  | .tbl _, _, ⟨k, ps, e, t, q⟩ => ⟨k, ps, e, t, fun pos cv z => let ⟨d, oc, z1, z2, z3⟩ := q pos cv z; ⟨d, oc, z1, z2, g.fl _ _ _ nod_own z3⟩⟩
  | .fn _ _, _, h => FnU.mt g h
  | .dead, _, h => h
theorem ObjU.mv {c : Cfg} {μ μ' : List Addr} {H H' : Hp} {a : Addr} (g : Gw c μ H μ' H') {o : Ob} {u : HO} (h : ObjU c μ H a o u) : ObjU c μ' H' a o u := h.mt g.toGt
theorem ObjU.go {c : Cfg} {μ μ' : List Addr} {H H' : Hp} {a : Addr} (g : Go c μ H μ' H') {o : Ob} {u : HO} (h : ObjU c μ H a o u) : ObjU c μ' H' a o u := h.mv g.toGw
structure Rel (c : Cfg) (μ : List Addr) (h : Hm) (H : Hp) : Prop where
  len : μ.length = h.length
  nd : μ.Nodup
  at_ : ∀ (i : Nat) (a : Addr) (o : Ob), μ[i]? = some a → h[i]? = some o → ∃ u, H a = some u ∧ ObjU c μ H a o u
theorem Rel.get {c : Cfg} {μ : List Addr} {h : Hm} {H : Hp} (R : Rel c μ h H) {i : Nat} {o : Ob} {a : Addr} (ha : μ[i]? = some a) (e : h[i]? = some o) : ∃ u, H a = some u ∧ ObjU c μ H a o u := R.at_ i a o ha e
theorem ObjU.notup {c : Cfg} {μ : List Addr} {H : Hp} {a : Addr} : ∀ {o : Ob} {u : HO}, ObjU c μ H a o u → ∀ xs, ¬ (u = .tup xs ∨ ∃ ob, u = .frz ob (.tup xs))
  | .lst _, _, ⟨vs, e, r⟩, xs, z => by subst e; rcases z with z | ⟨_, z⟩ <;> cases z
  | .dk _, _, ⟨k, e, r⟩, xs, z => by subst e; rcases z with z | ⟨_, z⟩ <;> cases z
  | .dt _, _, ⟨k, e, r⟩, xs, z => by subst e; rcases z with z | ⟨_, z⟩ <;> cases z
  | .ins _ _, _, ⟨Ca, dx, fs', m, e, r⟩, xs, z => by subst e; rcases z with z | ⟨_, z⟩ <;> cases z
  | .frz _, _, ⟨ob, u', e, r⟩, xs, z => by
    subst e
    rcases z with z | ⟨ob', z⟩
    · cases z
    · injection z with z1 z2
      exact ObjU.notup r xs (.inl z2)
  | .stx _, _, e, xs, z => by
    have e : _ = RQ.TxO _ _ _ _ := e
    subst e
    rcases z with z | ⟨_, z⟩ <;> (unfold RQ.TxO at z; cases z)
  | .sdt _, _, ⟨rows, e, q, d⟩, xs, z => by
    subst e
    rcases z with z | ⟨_, z⟩ <;> (unfold MS.MSO at z; cases z)
  | .xd _, _, ⟨fs', e, r⟩, xs, z => by
    subst e
    rcases z with z | ⟨_, z⟩ <;> (unfold exd at z; cases z)
  | .exc _ _, _, ⟨Ca, d, m, e, r⟩, xs, z => by
    subst e
    rcases z with z | ⟨_, z⟩ <;> (unfold exq at z; cases z)
  | .tbl _, _, ⟨k, ps, e, t, q⟩, xs, z => by subst e; rcases z with z | ⟨_, z⟩ <;> cases z
  | .fn _ _, _, ⟨_, _, _, _, _, _, _, _, _, _, _, _, e, _⟩, xs, z => by subst e; rcases z with z | ⟨_, z⟩ <;> cases z
  | .dead, _, ⟨_, e⟩, xs, z => by subst e; rcases z with z | ⟨_, z⟩ <;> cases z
theorem Rel.tupout {c : Cfg} {μ : List Addr} {h : Hm} {H : Hp} (R : Rel c μ h H) {a : Addr} {xs : List V} (z : Rd H a (.tup xs)) : a ∉ μ := fun m => by
  obtain ⟨i, hi⟩ := List.getElem?_of_mem m
  have hl := (List.getElem?_eq_some_iff.mp hi).1
  rw [R.len] at hl
  obtain ⟨u, e, r⟩ := R.at_ i a _ hi (List.getElem?_eq_getElem hl)
  refine r.notup xs ?_
  rcases z with z | ⟨ob, z⟩
  · rw [e] at z; exact .inl (Option.some.inj z)
  · rw [e] at z; exact .inr ⟨ob, Option.some.inj z⟩
theorem Rel.tk {c : Cfg} {μ : List Addr} {h : Hm} {H H' : Hp} (R : Rel c μ h H) (fr : ∀ a o, H a = some o → a ∉ μ → H' a = some o) : ∀ a vs, SqT c.K H a vs → SqT c.K H' a vs := fun a vs z => by
  rcases z with z | z
  · have := R.tupout z
    rcases z with z | ⟨ob, z⟩
    · exact .inl (.inl (fr _ _ z this))
    · exact .inl (.inr ⟨ob, fr _ _ z this⟩)
  · exact .inr z
theorem Rel.tq {c : Cfg} {μ : List Addr} {h : Hm} {H H' : Hp} (R : Rel c μ h H) (fr : ∀ a o, H a = some o → a ∉ μ → H' a = some o) : ∀ a vs, H a = some (.tup vs) → H' a = some (.tup vs) := fun a vs z => fr a _ z (R.tupout (.inl z))
theorem Rel.lay {c : Cfg} {μ : List Addr} {h : Hm} {H : Hp} (R : Rel c μ h H) {p : Addr} (np : H p = none) {o : Ob} {u : HO} (hu : ∀ μ' H', Gw c μ H μ' H' → ObjU c μ' H' p o u) : Go c μ H (μ ++ [p]) (upd H p u) ∧ Rel c (μ ++ [p]) (h ++ [o]) (upd H p u) := by
  have out : p ∉ μ := fun m => by
    obtain ⟨i, hi⟩ := List.getElem?_of_mem m
    have hl := (List.getElem?_eq_some_iff.mp hi).1
    rw [R.len] at hl
    obtain ⟨v, e, _⟩ := R.at_ i p _ hi (List.getElem?_eq_getElem hl)
    rw [np] at e; cases e
  have fr : ∀ a o, H a = some o → upd H p u a = some o := fun a o e => by rw [upd_ne (ne_of_none e np)]; exact e
  have g : Go c μ H (μ ++ [p]) (upd H p u) := ⟨⟨⟨List.prefix_append _ _, R.tk fun a o e _ => fr a o e, R.tq fun a o e _ => fr a o e, fun a ob xs _ e => fr a _ e⟩, fun a ob u e => fr a _ e⟩, fun a o e _ => fr a o e, fun a m n => by
    rcases List.mem_append.mp m with m | m
    · exact absurd m n
    · rw [List.mem_singleton.mp m]; exact np⟩
  refine ⟨g, ⟨by rw [List.length_append, List.length_append, R.len]; rfl, List.nodup_append.mpr ⟨R.nd, (by simp), fun a ha b hb e => by rw [List.mem_singleton.mp hb] at e; exact out (by rw [← e]; exact ha)⟩, fun i a o' ha ho => ?_⟩⟩
  by_cases hi : i < μ.length
  · rw [List.getElem?_append_left hi] at ha
    rw [List.getElem?_append_left (by rw [← R.len]; exact hi)] at ho
    obtain ⟨v, e, r⟩ := R.at_ i a o' ha ho
    exact ⟨v, fr _ _ e, r.go g⟩
  · have hl := (List.getElem?_eq_some_iff.mp ha).1
    rw [List.length_append, List.length_singleton] at hl
    have e : i = μ.length := by omega
    subst e
    rw [List.getElem?_append_right (Nat.le_refl _), Nat.sub_self] at ha
    rw [R.len, List.getElem?_append_right (Nat.le_refl _), Nat.sub_self] at ho
    cases ha
    cases ho
    exact ⟨u, upd_same, hu _ _ g.toGw⟩
theorem Rel.put {c : Cfg} {μ : List Addr} {h : Hm} {H : Hp} (R : Rel c μ h H) {i : Nat} {a : Addr} (ha : μ[i]? = some a) (nf : ∀ ob u, H a ≠ some (.frz ob u)) {o : Ob} {u : HO} (hu : ∀ μ' H', Gw c μ H μ' H' → ObjU c μ' H' a o u) : Go c μ H μ (upd H a u) ∧ Rel c μ (h.set i o) (upd H a u) := by
  have am : a ∈ μ := List.mem_of_getElem? ha
  have fr : ∀ b o, H b = some o → b ∉ μ → upd H a u b = some o := fun b o e n => by rw [upd_ne (fun z => n (by rw [z]; exact am))]; exact e
  have g : Go c μ H μ (upd H a u) := ⟨⟨⟨List.prefix_refl _, R.tk fr, R.tq fr, fun b ob xs _ e => by rw [upd_ne (fun z => nf ob xs (by rw [← z]; exact e))]; exact e⟩, fun b ob v e => by rw [upd_ne (fun z => nf ob v (by rw [← z]; exact e))]; exact e⟩, fr, fun b m n => absurd m n⟩
  refine ⟨g, ⟨by rw [List.length_set]; exact R.len, R.nd, fun j b o' hb ho => ?_⟩⟩
  by_cases e : j = i
  · subst e
    rw [ha] at hb; cases hb
    have hl := (List.getElem?_eq_some_iff.mp ha).1
    rw [R.len] at hl
    rw [List.getElem?_set_self hl] at ho
    cases ho
    exact ⟨u, upd_same, hu _ _ g.toGw⟩
  · rw [List.getElem?_set_ne (fun z => e z.symm)] at ho
    obtain ⟨v, ev, r⟩ := R.at_ j b o' hb ho
    have nb : b ≠ a := fun z => by
      subst z
      have h1 := List.getElem?_eq_some_iff.mp ha
      have h2 := List.getElem?_eq_some_iff.mp hb
      exact e ((List.getElem_inj R.nd).mp (h2.2.trans h1.2.symm))
    exact ⟨v, by rw [upd_ne nb]; exact ev, r.go g⟩
theorem Rel.aside {c : Cfg} {μ : List Addr} {h : Hm} {H : Hp} (R : Rel c μ h H) {p : Addr} (np : H p = none) {u : HO} : Go c μ H μ (upd H p u) ∧ Rel c μ h (upd H p u) := by
  have fr : ∀ a o, H a = some o → upd H p u a = some o := fun a o e => by rw [upd_ne (ne_of_none e np)]; exact e
  have g : Go c μ H μ (upd H p u) := ⟨⟨⟨List.prefix_refl _, R.tk fun a o e _ => fr a o e, R.tq fun a o e _ => fr a o e, fun a ob xs _ e => fr a _ e⟩, fun a ob u e => fr a _ e⟩, fun a o e _ => fr a o e, fun a m n => absurd m n⟩
  refine ⟨g, ⟨R.len, R.nd, fun i a o ha ho => ?_⟩⟩
  obtain ⟨v, e, r⟩ := R.at_ i a o ha ho
  exact ⟨v, fr _ _ e, r.go g⟩
def RpO (c : Cfg) (μ : List Addr) (H : Hp) : Option V → Option Wv → Prop
  | some v, some w => Rp c μ H v w
  | _, none => True
  | none, some _ => False
abbrev RpS (c : Cfg) (μ : List Addr) (H : Hp) : L2.St → Env → Prop := Paired (RpO c μ H)
theorem RpO.mt {c : Cfg} {μ μ' : List Addr} {H H' : Hp} (g : Gt c μ H μ' H') : ∀ {v : Option V} {w : Option Wv}, RpO c μ H v w → RpO c μ' H' v w
  | some _, some _, h => Rp.mt g h
  | none, none, _ => trivial
  | some _, none, _ => trivial
  | none, some _, h => h
theorem RpS.mt {c : Cfg} {μ μ' : List Addr} {H H' : Hp} {σ : L2.St} {ρ : Env} (g : Gt c μ H μ' H') (h : RpS c μ H σ ρ) : RpS c μ' H' σ ρ := Paired.mapP h fun _ _ z => RpO.mt g z
theorem RpS.mv {c : Cfg} {μ μ' : List Addr} {H H' : Hp} {σ : L2.St} {ρ : Env} (g : Gw c μ H μ' H') (h : RpS c μ H σ ρ) : RpS c μ' H' σ ρ := h.mt g.toGt
theorem RpS.go {c : Cfg} {μ μ' : List Addr} {H H' : Hp} {σ : L2.St} {ρ : Env} (g : Go c μ H μ' H') (h : RpS c μ H σ ρ) : RpS c μ' H' σ ρ := h.mv g.toGw
theorem RpS.at {c : Cfg} {μ : List Addr} {H : Hp} : ∀ {σ : L2.St} {ρ : Env} {i : Nat} {w : Wv}, RpS c μ H σ ρ → ρ[i]? = some (some w) → ∃ v, σ[i]? = some (some v) ∧ Rp c μ H v w
  | _, _, i, _, .nil, h => by simp at h
  | _, _, 0, _, .cons (a := some v) r _, h => by simp at h; subst h; exact ⟨v, rfl, r⟩
  | _, _, 0, _, .cons (a := none) r _, h => by simp at h; subst h; exact absurd r (by simp [RpO])
  | _, _, i + 1, w, .cons _ t, h => by
    obtain ⟨v, e, r⟩ := RpS.at (i := i) (w := w) t (by simpa using h)
    exact ⟨v, by simpa using e, r⟩
theorem RpS.set {c : Cfg} {μ : List Addr} {H : Hp} {v : Option V} {w : Option Wv} (r : RpO c μ H v w) : ∀ {σ : L2.St} {ρ : Env} (i : Nat), RpS c μ H σ ρ → RpS c μ H (σ.set i v) (ρ.set i w)
  | _, _, _, .nil => .nil
  | _, _, 0, .cons _ t => .cons r t
  | _, _, i + 1, .cons q t => .cons q (RpS.set r i t)
structure At (c : Cfg) (μ : List Addr) (h : Hm) (H : Hp) (σ : L2.St) (ρ : Env) : Prop where
  rel : Rel c μ h H
  sl : RpS c μ H σ ρ
theorem At.go {c : Cfg} {μ μ' : List Addr} {h h' : Hm} {H H' : Hp} {σ : L2.St} {ρ : Env} (A : At c μ h H σ ρ) (g : Go c μ H μ' H') (R : Rel c μ' h' H') : At c μ' h' H' σ ρ := ⟨R, A.sl.go g⟩
end MM

set_option maxRecDepth 100000
set_option maxHeartbeats 4000000
namespace MM
open PySem PySem.Spec PyProof.Rows L2

def Nx (c : Cfg) (μ : List Addr) (H : Hp) (h' : Hm) (w : Wv) (Q : VK) : Prop := ∀ μ' v H', Go c μ H μ' H' → Rel c μ' h' H' → Rp c μ' H' v w → Q v H'
def Nb (c : Cfg) (μ : List Addr) (H : Hp) (h' : Hm) (b : Bool) (Q : Bool → Hp → Prop) : Prop := ∀ μ' H', Go c μ H μ' H' → Rel c μ' h' H' → Q b H'
def Na (c : Cfg) (μ : List Addr) (H : Hp) (h' : Hm) (ws : List Wv) (Q : List V → Hp → Prop) : Prop := ∀ μ' vs H', Go c μ H μ' H' → Rel c μ' h' H' → Rps c μ' H' vs ws → Q vs H'
abbrev TM := Env → M Bool
abbrev AM := Env → M (List Wv)
def mE (c : Cfg) (m : EM) : TE := fun σ H Q => ∃ μ ρ h w h', At c μ h H σ ρ ∧ m ρ h = .ok w h' ∧ Nx c μ H h' w Q
def mT (c : Cfg) (m : TM) : TT := fun σ H Q => ∃ μ ρ h b h', At c μ h H σ ρ ∧ m ρ h = .ok b h' ∧ Nb c μ H h' b Q
def mA (c : Cfg) (m : AM) : TA := fun σ H Q => ∃ μ ρ h ws h', At c μ h H σ ρ ∧ m ρ h = .ok ws h' ∧ Na c μ H h' ws Q
theorem PE.imp {X : Cx} {e : Expr} {t t' : TE} (p : PE X e t) (f : ∀ σ H Q, t' σ H Q → t σ H Q) : PE X e t' := ⟨fun pins s σ H Q I h => p.run pins s σ H Q I (f σ H Q h)⟩
theorem PT.imp {X : Cx} {e : Expr} {t t' : TT} (p : PT X e t) (f : ∀ σ H Q, t' σ H Q → t σ H Q) : PT X e t' := ⟨fun pins s σ H Q I h => p.run pins s σ H Q I (f σ H Q h)⟩
theorem PW.imp {X : Cx} {e : Expr} {t t' : TT} (p : PW X e t) (f : ∀ σ H Q, t' σ H Q → t σ H Q) : PW X e t' := ⟨fun wh pins s σ H Q I h => p.run wh pins s σ H Q I (f σ H Q h)⟩
theorem PA.imp {X : Cx} {e : List Expr} {t t' : TA} (p : PA X e t) (f : ∀ σ H Q, t' σ H Q → t σ H Q) : PA X e t' := ⟨fun pos pins s σ H Q I h => p.run pos pins s σ H Q I (f σ H Q h)⟩
abbrev ME (X : Cx) (e : Expr) (m : EM) : Prop := PE X e (mE (cfg X) m)
abbrev MT (X : Cx) (e : Expr) (m : TM) : Prop := PT X e (mT (cfg X) m)
abbrev MW (X : Cx) (e : Expr) (m : TM) : Prop := PW X e (mT (cfg X) m)
abbrev MA (X : Cx) (es : List Expr) (m : AM) : Prop := PA X es (mA (cfg X) m)
section
variable {c : Cfg} {μ μ1 : List Addr} {h h1 h' : Hm} {H H1 : Hp} {σ : L2.St} {ρ : Env} {w : Wv} {Q : VK}
theorem Nx.after (n : Nx c μ H h' w Q) (g : Go c μ H μ1 H1) : Nx c μ1 H1 h' w Q := fun μ' v H' g' r p => n μ' v H' (g.trans g') r p
theorem Nx.now {v : V} (n : Nx c μ H h' w Q) (r : Rel c μ h' H) (p : Rp c μ H v w) : Q v H := n μ v H (Go.refl ..) r p
theorem Nb.after {b : Bool} {Q : Bool → Hp → Prop} (n : Nb c μ H h' b Q) (g : Go c μ H μ1 H1) : Nb c μ1 H1 h' b Q := fun μ' H' g' r => n μ' H' (g.trans g') r
theorem Nb.now {b : Bool} {Q : Bool → Hp → Prop} (n : Nb c μ H h' b Q) (r : Rel c μ h' H) : Q b H := n μ H (Go.refl ..) r
theorem Na.after {ws : List Wv} {Q : List V → Hp → Prop} (n : Na c μ H h' ws Q) (g : Go c μ H μ1 H1) : Na c μ1 H1 h' ws Q := fun μ' vs H' g' r p => n μ' vs H' (g.trans g') r p
theorem Na.now {ws : List Wv} {vs : List V} {Q : List V → Hp → Prop} (n : Na c μ H h' ws Q) (r : Rel c μ h' H) (p : Rps c μ H vs ws) : Q vs H := n μ vs H (Go.refl ..) r p
theorem mE_first {m : EM} (A : At c μ h H σ ρ) (e : m ρ h = .ok w h1) (f : ∀ μ1 v H1, Go c μ H μ1 H1 → At c μ1 h1 H1 σ ρ → Rp c μ1 H1 v w → Q v H1) : mE c m σ H Q :=
  ⟨μ, ρ, h, w, h1, A, e, fun μ1 v H1 g r p => f μ1 v H1 g (A.go g r) p⟩
theorem mT_first {m : TM} {b : Bool} {Q : Bool → Hp → Prop} (A : At c μ h H σ ρ) (e : m ρ h = .ok b h1) (f : ∀ μ1 H1, Go c μ H μ1 H1 → At c μ1 h1 H1 σ ρ → Q b H1) : mT c m σ H Q :=
  ⟨μ, ρ, h, b, h1, A, e, fun μ1 H1 g r => f μ1 H1 g (A.go g r)⟩
theorem mA_first {m : AM} {ws : List Wv} {Q : List V → Hp → Prop} (A : At c μ h H σ ρ) (e : m ρ h = .ok ws h1) (f : ∀ μ1 vs H1, Go c μ H μ1 H1 → At c μ1 h1 H1 σ ρ → Rps c μ1 H1 vs ws → Q vs H1) : mA c m σ H Q :=
  ⟨μ, ρ, h, ws, h1, A, e, fun μ1 vs H1 g r p => f μ1 vs H1 g (A.go g r) p⟩
end

def eVar (i : Nat) : EM := fun ρ h => match ρ[i]? with | some (some w) => .ok w h | _ => .no
def eC (w : Wv) : EM := fun _ h => .ok w h
section
variable {X : Cx}
theorem me_var {i : Nat} {x : PySem.Str} {pos : Pos} (hN : X.N[i]? = some x) (hv : Vis X.env.scope x) (hd : (x == ("__debug__" : PySem.Str)) = false := by decide) (hcd : (x == ("__classdict__" : PySem.Str)) = false := by decide) : ME X (.Name x pos) (eVar i) :=
  PE.imp (pe_var hN hv hd hcd) fun σ H Q ⟨μ, ρ, h, w, h', A, e, n⟩ => by
    unfold eVar at e
    cases q : ρ[i]? with
    | none => rw [q] at e; cases e
    | some o =>
      cases o with
      | none => rw [q] at e; cases e
      | some w0 =>
        rw [q] at e
        cases e
        obtain ⟨v, hv, r⟩ := A.sl.at q
        exact ⟨v, hv, n.now A.rel r⟩
theorem me_c {e : Expr} {v : V} {w : Wv} (p : PE X e (tC v)) (r : ∀ μ H, Rp (cfg X) μ H v w) : ME X e (eC w) := PE.imp p fun σ H Q ⟨μ, ρ, h, w', h', A, e, n⟩ => by
  cases e
  exact n.now A.rel (r μ H)
theorem me_int {i : Int} {j : Nat} {pos : Pos} : ME X (.Constant (.int i) j pos) (eC (.int i)) := me_c pe_int fun _ _ => .int i
theorem me_bl {b : Bool} {j : Nat} {pos : Pos} : ME X (.Constant (.bool b) j pos) (eC (.bl b)) := me_c pe_bl fun _ _ => .bl b
theorem me_non {j : Nat} {pos : Pos} : ME X (.Constant .none j pos) (eC .non) := me_c pe_non fun _ _ => .non
theorem me_str {x : PySem.Str} {j : Nat} {pos : Pos} : ME X (.Constant (.str x) j pos) (eC (.str x)) := me_c pe_str fun _ _ => .str x
theorem me_gint {x : PySem.Str} {i : Int} {pos : Pos} (hg : Gl X x) (hm : ∃ t, X.mg x = some (.int i t)) (hd : (x == ("__debug__" : PySem.Str)) = false := by decide) : ME X (.Name x pos) (eC (.int i)) := by
  obtain ⟨t, hm⟩ := hm
  exact me_c (pe_glob (v := .int i) hg hm ⟨t, rfl⟩ hd) fun _ _ => .int i
theorem me_gstr {x z : PySem.Str} {pos : Pos} (hg : Gl X x) (hm : ∃ t, X.mg x = some (.str z t)) (hd : (x == ("__debug__" : PySem.Str)) = false := by decide) : ME X (.Name x pos) (eC (.str z)) := by
  obtain ⟨t, hm⟩ := hm
  exact me_c (pe_glob (v := .str z) hg hm ⟨t, rfl⟩ hd) fun _ _ => .str z
theorem me_glob {x : PySem.Str} {a : Addr} {pos : Pos} (hg : Gl X x) (hm : X.mg x = some (.ref a)) (hd : (x == ("__debug__" : PySem.Str)) = false := by decide) : ME X (.Name x pos) (eC (.glob x)) :=
  me_c (pe_glob (v := .ref a) hg hm rfl hd) fun _ _ => .glob hm
theorem me_bty {x : PySem.Str} {T : String} {pos : Pos} (hg : Gl X x) (hm : X.mg x = none) (hv : bootBuiltins x = some (.type T)) (hn : x ≠ "__name__" := by decide) (hd : (x == ("__debug__" : PySem.Str)) = false := by decide) : ME X (.Name x pos) (eC (.raw (.ty T))) :=
  me_c (pe_bltn (v := .ty T) hg hm hv rfl hn hd) fun _ _ => .raw _

def aNil : AM := fun _ h => .ok [] h
def aCons (e : EM) (r : AM) : AM := fun ρ => (e ρ).bind fun w => (r ρ).bind fun ws => M.pure (w :: ws)
theorem ma_nil : MA X [] aNil := PA.imp pa_nil fun σ H Q ⟨μ, ρ, h, w', h', A, e, n⟩ => by
  cases e
  exact n.now A.rel .nil
theorem ma_cons {e : Expr} {es : List Expr} {m : EM} {r : AM} (ha : ME X e m) (hr : MA X es r) (hs : starEach (e :: es) X.env = (false, eval e X.env) :: starEach es X.env := by rfl) : MA X (e :: es) (aCons m r) :=
  PA.imp (pa_cons ha hr hs) fun σ H Q ⟨μ, ρ, h, ws, h', A, e, n⟩ => by
    obtain ⟨w, h1, e1, e⟩ := bind_ok e
    obtain ⟨r1, h2, e2, e⟩ := bind_ok e
    cases e
    exact mE_first A e1 fun μ1 v H1 g1 A1 p1 => mA_first A1 e2 fun μ2 vs H2 g2 A2 p2 => (n.after (g1.trans g2)).now A2.rel (.cons (p1.go g2) p2)
def small {α : Type} (xs : List α) : Bool := decide (xs.length ≤ sizeLine)
def lay (o : Ob) : M Wv := fun h => .ok (.obj h.length) (h ++ [o])
def eTup (a : AM) : EM := fun ρ => (a ρ).bind fun ws => if small ws then M.pure (.tup ws) else M.no
def eLst (a : AM) : EM := fun ρ => (a ρ).bind fun ws => if small ws then lay (.lst ws) else M.no
theorem if_ok {α : Type} {b : Bool} {m : M α} {h : Hm} {a : α} {h' : Hm} (e : (if b = true then m else M.no) h = .ok a h') : b = true ∧ m h = .ok a h' := by
  cases b with
  | true => exact ⟨rfl, e⟩
  | false => cases e
theorem Rp.lay {c : Cfg} {μ : List Addr} {h : Hm} {H : Hp} {p : Addr} (R : Rel c μ h H) : Rp c (μ ++ [p]) H (.ref p) (.obj h.length) := .obj (by rw [← R.len]; simp)
theorem Nx.lay {c : Cfg} {μ : List Addr} {h : Hm} {H : Hp} {Q : VK} {o : Ob} {u : HO} {p : Addr} (n : Nx c μ H (h ++ [o]) (.obj h.length) Q) (R : Rel c μ h H) (np : H p = none) (hu : ∀ μ' H', Gw c μ H μ' H' → ObjU c μ' H' p o u) : Q (.ref p) (upd H p u) := by
  obtain ⟨g, R'⟩ := R.lay np hu
  exact n _ _ _ g R' (.obj (by rw [← R.len]; simp))
theorem Nx.tup {c : Cfg} {μ : List Addr} {h : Hm} {H : Hp} {Q : VK} {vs : List V} {ws : List Wv} {p : Addr} (n : Nx c μ H h (.tup ws) Q) (R : Rel c μ h H) (r : Rps c μ H vs ws) (np : H p = none) : Q (.ref p) (upd H p (.tup vs)) := by
  obtain ⟨g, R'⟩ := R.aside np (u := .tup vs)
  exact n _ _ _ g R' (.tup upd_same (r.go g))
theorem me_tup {es : List Expr} {m : AM} {k : Nat} {pos : Pos} (ha : MA X es m) : ME X (.Tuple es k pos) (eTup m) := PE.imp (pe_tup ha) fun σ H Q ⟨μ, ρ, h, w, h', A, e, n⟩ => by
  obtain ⟨ws, h1, e1, e⟩ := bind_ok e
  obtain ⟨sm, e⟩ := if_ok e
  cases e
  refine mA_first A e1 fun μ1 vs H1 g1 A1 p1 => ⟨by rw [p1.length]; exact of_decide_eq_true sm, fun p np => (n.after g1).tup A1.rel p1 np⟩
theorem me_lst {es : List Expr} {m : AM} {pos : Pos} (ha : MA X es m) : ME X (.List es pos) (eLst m) := PE.imp (pe_lst ha) fun σ H Q ⟨μ, ρ, h, w, h', A, e, n⟩ => by
  obtain ⟨ws, h1, e1, e⟩ := bind_ok e
  obtain ⟨sm, e⟩ := if_ok e
  cases e
  refine mA_first A e1 fun μ1 vs H1 g1 A1 p1 => ⟨by rw [p1.length]; exact of_decide_eq_true sm, fun p np => (n.after g1).lay A1.rel np fun _ _ g => ⟨vs, rfl, p1.mv g⟩⟩

abbrev F2 := Wv → Wv → M Wv
def LOp (c : Cfg) (f : F2) (r : R2) : Prop := ∀ {μ h H v1 v2 w1 w2 w h' Q}, Rel c μ h H → Rp c μ H v1 w1 → Rp c μ H v2 w2 → f w1 w2 h = .ok w h' → Nx c μ H h' w Q → r v1 v2 H Q
def eOp (f : F2) (a b : EM) : EM := fun ρ => (a ρ).bind fun x => (b ρ).bind fun y => f x y
theorem eOp_to {c : Cfg} {f : F2} {r : R2} {ma mb : EM} (l : LOp c f r) {σ : L2.St} {H : Hp} {Q : VK} (z : mE c (eOp f ma mb) σ H Q) : tOp r (mE c ma) (mE c mb) σ H Q := by
  obtain ⟨μ, ρ, h, w, h', A, e, n⟩ := z
  obtain ⟨x, h1, e1, e⟩ := bind_ok e
  obtain ⟨y, h2, e2, e⟩ := bind_ok e
  exact mE_first A e1 fun μ1 v1 H1 g1 A1 p1 => mE_first A1 e2 fun μ2 v2 H2 g2 A2 p2 => l A2.rel (p1.go g2) p2 e (n.after (g1.trans g2))
theorem me_op {a b : Expr} {op : Operator} {pos : Pos} {f : F2} {r : R2} {ma mb : EM} (ho : OpR X (binaryOp op) r) (l : LOp (cfg X) f r) (ha : ME X a ma) (hb : ME X b mb) : ME X (.BinOp a op b pos) (eOp f ma mb) :=
  PE.imp (pe_op ho ha hb) fun σ H Q z => eOp_to l z
theorem me_cmp {a b : Expr} {op : CmpOp} {pos : Pos} {f : F2} {r : R2} {ma mb : EM} (ho : OpR X (compareOp op) r) (l : LOp (cfg X) f r) (ha : ME X a ma) (hb : ME X b mb) (hm : behindInMarks op b = false) : ME X (.Compare a [op] [b] pos) (eOp f ma mb) :=
  PE.imp (pe_cmpR ho ha hb hm) fun σ H Q z => eOp_to l z
theorem me_ix {a b : Expr} {pos : Pos} {f : F2} {r : R2} {ma mb : EM} (ho : IxR X r) (l : LOp (cfg X) f r) (ha : ME X a ma) (hb : ME X b mb) (hs : PlainIx b) : ME X (.Subscript a b pos) (eOp f ma mb) :=
  PE.imp (pe_ix ho ha hb hs) fun σ H Q z => eOp_to l z
def asB : Wv → M Bool
  | .bl b => M.pure b
  | _ => M.no
def tOf (e : EM) : TM := fun ρ => (e ρ).bind asB
theorem asB_ok {w : Wv} {h h' : Hm} {b : Bool} (e : asB w h = .ok b h') : w = .bl b ∧ h' = h := by
  cases w with
  | bl b' => cases e; exact ⟨rfl, rfl⟩
  | _ => cases e
theorem Rp.bl_inv {c : Cfg} {μ : List Addr} {H : Hp} {v : V} {b : Bool} (p : Rp c μ H v (.bl b)) : v = .bl b := by cases p; rfl
theorem Rp.int_inv {c : Cfg} {μ : List Addr} {H : Hp} {v : V} {i : Int} (p : Rp c μ H v (.int i)) : v = .int i := by cases p; rfl
theorem Rp.str_inv {c : Cfg} {μ : List Addr} {H : Hp} {v : V} {x : PySem.Str} (p : Rp c μ H v (.str x)) : v = .str x := by cases p; rfl
theorem Rp.non_inv {c : Cfg} {μ : List Addr} {H : Hp} {v : V} (p : Rp c μ H v .non) : v = .non := by cases p; rfl
theorem Rp.raw_inv {c : Cfg} {μ : List Addr} {H : Hp} {v u : V} (p : Rp c μ H v (.raw u)) : v = u := by cases p; rfl
theorem Rp.tup_inv {c : Cfg} {μ : List Addr} {H : Hp} {v : V} {ws : List Wv} (p : Rp c μ H v (.tup ws)) : ∃ a vs, v = .ref a ∧ SqT c.K H a vs ∧ Rps c μ H vs ws := by
  cases p with
  | tup h r => exact ⟨_, _, rfl, .of h, r⟩
theorem Rp.tup_at {c : Cfg} {μ : List Addr} {H : Hp} {v : V} {ws : List Wv} (p : Rp c μ H v (.tup ws)) : ∃ a vs, v = .ref a ∧ H a = some (.tup vs) ∧ Rps c μ H vs ws := by
  cases p with
  | tup h r => exact ⟨_, _, rfl, h, r⟩
theorem Rp.obj_inv {c : Cfg} {μ : List Addr} {H : Hp} {v : V} {i : Nat} (p : Rp c μ H v (.obj i)) : ∃ a, v = .ref a ∧ μ[i]? = some a := by
  cases p with
  | obj h => exact ⟨_, rfl, h⟩
theorem Rp.ptp_inv {c : Cfg} {μ : List Addr} {H : Hp} {v : V} {ws : List Wv} (p : Rp c μ H v (.ptp ws)) : ∃ a vs, v = .ref a ∧ PlT c H a vs ∧ Rps c μ H vs ws := by
  cases p with
  | ptp h r => exact ⟨_, _, rfl, h, r⟩
theorem Rp.scr_inv {c : Cfg} {μ : List Addr} {H : Hp} {v : V} {ns : List Int} (p : Rp c μ H v (.scr ns)) : ∃ a, v = .ref a ∧ ScrAt c H a ns := by
  cases p with
  | scr h => exact ⟨_, rfl, h⟩
theorem Rp.glob_inv {c : Cfg} {μ : List Addr} {H : Hp} {v : V} {x : PySem.Str} (p : Rp c μ H v (.glob x)) : ∃ a, v = .ref a ∧ c.mg x = some (.ref a) := by
  cases p with
  | glob h => exact ⟨_, rfl, h⟩
theorem mt_cmp {a b : Expr} {op : CmpOp} {pos : Pos} {f : F2} {r : R2} {ma mb : EM} (ho : OpR X (compareOp op) r) (l : LOp (cfg X) f r) (ha : ME X a ma) (hb : ME X b mb) (hm : behindInMarks op b = false) : MT X (.Compare a [op] [b] pos) (tOf (eOp f ma mb)) :=
  PT.imp (pt_cmpR ho ha hb hm) fun σ H Q ⟨μ, ρ, h, b, h', A, e, n⟩ => by
    obtain ⟨w, h1, e1, e⟩ := bind_ok e
    obtain ⟨rfl, rfl⟩ := asB_ok e
    exact eOp_to l ⟨μ, ρ, h, _, h', A, e1, fun μ' v H' g r p => ⟨b, p.bl_inv, n μ' H' g r⟩⟩
def truM : Wv → M Bool
  | .non => M.pure false
  | .bl b => M.pure b
  | .int i => M.pure (i != 0)
  | .str y => fun h => if y.length ≤ sizeLine then .ok ((y.length : Int) != 0) h else .no
  | .tup ws => M.pure (!ws.isEmpty)
  | .obj i => fun h => match h[i]? with
    | some (.lst ws) => .ok (!ws.isEmpty) h
    | some (.frz (.lst ws)) => .ok (!ws.isEmpty) h
    | some (.dk kvs) => .ok (!kvs.isEmpty) h
    | _ => .no
  | .scr ns => M.pure (!ns.isEmpty)
  | .ptp ws => M.pure (!ws.isEmpty)
  | _ => M.no
def tTru (e : EM) : TM := fun ρ => (e ρ).bind truM
theorem Rps.isEmpty {c : Cfg} {μ : List Addr} {H : Hp} {vs : List V} {ws : List Wv} (r : Rps c μ H vs ws) : ws.isEmpty = vs.isEmpty := by cases r <;> rfl
theorem paired_isEmpty {α β : Type} {F : α → β → Prop} {a : List α} {b : List β} (r : Paired F a b) : b.isEmpty = a.isEmpty := by cases r <;> rfl
theorem tru_to {c : Cfg} {μ : List Addr} {h h' : Hm} {H : Hp} {v : V} {w : Wv} {b : Bool} (R : Rel c μ h H) (p : Rp c μ H v w) (e : truM w h = .ok b h') : h' = h ∧ TruV c.K v H b := by
  cases p with
  | non => cases e; exact ⟨rfl, rfl⟩
  | bl b => cases e; exact ⟨rfl, rfl⟩
  | int i => cases e; exact ⟨rfl, rfl⟩
  | str y =>
    simp only [truM] at e
    by_cases hy : y.length ≤ sizeLine
    · rw [if_pos hy] at e; cases e; exact ⟨rfl, hy, rfl⟩
    · rw [if_neg hy] at e; cases e
  | tup q r => cases e; exact ⟨rfl, .inr (.inl ⟨_, .of q, by rw [r.isEmpty]⟩)⟩
  | obj ha =>
    simp only [truM] at e
    split at e
    · next ws q =>
      cases e
      obtain ⟨u, hu, vs, rfl, r⟩ := R.get ha q
      exact ⟨rfl, .inl ⟨vs, .inl (.inl hu), by rw [r.isEmpty]⟩⟩
    · next ws q =>
      cases e
      obtain ⟨u, hu, ob, u', rfl, vs, rfl, r⟩ := R.get ha q
      exact ⟨rfl, .inl ⟨vs, .inl (.inr ⟨_, hu⟩), by rw [r.isEmpty]⟩⟩
    · next kvs q =>
      cases e
      obtain ⟨u, hu, vs, rfl, r⟩ := R.get ha q
      exact ⟨rfl, .inr (.inr ⟨vs, hu, by rw [paired_isEmpty r]⟩)⟩
    · cases e
  | glob _ => cases e
  | raw _ => cases e
  | @scr a ns hs =>
    cases e
    refine ⟨rfl, .inl ⟨_, hs.sq, ?_⟩⟩
    cases ns <;> rfl
  | ptp q r => cases e; exact ⟨rfl, .inr (.inl ⟨_, q.sq, by rw [r.isEmpty]⟩)⟩
theorem mt_tru {e : Expr} {m : EM} (he : ME X e m) (hw : ∀ whole, isTrue e X.env whole = (do let v ← whole; standAt e.pos; holding [v] (truthy v)) := by intro _; rfl) : MT X e (tTru m) :=
  PT.imp (pt_truth he hw) fun σ H Q ⟨μ, ρ, h, b, h', A, e, n⟩ => by
    obtain ⟨w, h1, e1, e⟩ := bind_ok e
    refine mE_first A e1 fun μ1 v H1 g A1 p => ?_
    obtain ⟨rfl, t⟩ := tru_to A1.rel p e
    exact ⟨b, t, n μ1 H1 g A1.rel⟩

def tAndM (a b : TM) : TM := fun ρ => (a ρ).bind fun x => if x = true then b ρ else M.pure false
def tOrM (a b : TM) : TM := fun ρ => (a ρ).bind fun x => if x = true then M.pure true else b ρ
def tNotM (a : TM) : TM := fun ρ => (a ρ).bind fun x => M.pure (!x)
theorem tAnd_to {c : Cfg} {ma mb : TM} {σ : L2.St} {H : Hp} {Q : Bool → Hp → Prop} (z : mT c (tAndM ma mb) σ H Q) : tAnd (mT c ma) (mT c mb) σ H Q := by
  obtain ⟨μ, ρ, h, b, h', A, e, n⟩ := z
  obtain ⟨x, h1, e1, e⟩ := bind_ok e
  refine mT_first A e1 fun μ1 H1 g1 A1 => ?_
  cases x with
  | true => exact ⟨μ1, ρ, h1, b, h', A1, e, n.after g1⟩
  | false => cases e; exact (n.after g1).now A1.rel
theorem tOr_to {c : Cfg} {ma mb : TM} {σ : L2.St} {H : Hp} {Q : Bool → Hp → Prop} (z : mT c (tOrM ma mb) σ H Q) : tOr (mT c ma) (mT c mb) σ H Q := by
  obtain ⟨μ, ρ, h, b, h', A, e, n⟩ := z
  obtain ⟨x, h1, e1, e⟩ := bind_ok e
  refine mT_first A e1 fun μ1 H1 g1 A1 => ?_
  cases x with
  | true => cases e; exact (n.after g1).now A1.rel
  | false => exact ⟨μ1, ρ, h1, b, h', A1, e, n.after g1⟩
theorem tNot_to {c : Cfg} {ma : TM} {σ : L2.St} {H : Hp} {Q : Bool → Hp → Prop} (z : mT c (tNotM ma) σ H Q) : tNot (mT c ma) σ H Q := by
  obtain ⟨μ, ρ, h, b, h', A, e, n⟩ := z
  obtain ⟨x, h1, e1, e⟩ := bind_ok e
  cases e
  exact mT_first A e1 fun μ1 H1 g1 A1 => (n.after g1).now A1.rel
theorem mw_and1 {a : Expr} {pos : Pos} {m : TM} (ha : MT X a m) : MW X (.BoolOp .And [a] pos) m := pw_and1 ha
theorem mw_or1 {a : Expr} {pos : Pos} {m : TM} (ha : MT X a m) : MW X (.BoolOp .Or [a] pos) m := pw_or1 ha
theorem mw_and {a b : Expr} {rest : List Expr} {pos : Pos} {ma mb : TM} (ha : MT X a ma) (hb : MW X (.BoolOp .And (b :: rest) pos) mb) : MW X (.BoolOp .And (a :: b :: rest) pos) (tAndM ma mb) := PW.imp (pw_and ha hb) fun _ _ _ z => tAnd_to z
theorem mw_or {a b : Expr} {rest : List Expr} {pos : Pos} {ma mb : TM} (ha : MT X a ma) (hb : MW X (.BoolOp .Or (b :: rest) pos) mb) : MW X (.BoolOp .Or (a :: b :: rest) pos) (tOrM ma mb) := PW.imp (pw_or ha hb) fun _ _ _ z => tOr_to z
theorem mt_bool {e : Expr} {m : TM} (h : MW X e m) : MT X e m := PW.pt h
theorem mt_not {a : Expr} {pos : Pos} {m : TM} (ha : MT X a m) : MT X (.UnaryOp .Not a pos) (tNotM m) := PT.imp (pt_not ha) fun _ _ _ z => tNot_to z
def eAnd (a b : EM) : EM := fun ρ => (a ρ).bind fun x => (asB x).bind fun k => if k = true then b ρ else M.pure (.bl false)
def eOr (a b : EM) : EM := fun ρ => (a ρ).bind fun x => (asB x).bind fun k => if k = true then M.pure (.bl true) else b ρ
def eNot (a : EM) : EM := fun ρ => (a ρ).bind fun x => (asB x).bind fun k => M.pure (.bl (!k))
theorem me_one {a : Expr} {op : BoolOp} {pos : Pos} {m : EM} (h : ME X a m) : ME X (.BoolOp op [a] pos) m := pe_one h
theorem me_and {a b : Expr} {rest : List Expr} {pos : Pos} {ma mb : EM} (ha : ME X a ma) (hb : ME X (.BoolOp .And (b :: rest) pos) mb) : ME X (.BoolOp .And (a :: b :: rest) pos) (eAnd ma mb) :=
  PE.imp (pe_and ha hb) fun σ H Q ⟨μ, ρ, h, w, h', A, e, n⟩ => by
    obtain ⟨x, h1, e1, e⟩ := bind_ok e
    obtain ⟨k, h2, e2, e⟩ := bind_ok e
    obtain ⟨rfl, rfl⟩ := asB_ok e2
    refine mE_first A e1 fun μ1 v H1 g1 A1 p1 => ⟨k, p1.bl_inv, ?_⟩
    cases k with
    | true => exact ⟨μ1, ρ, h2, w, h', A1, e, n.after g1⟩
    | false => cases e; exact (n.after g1).now A1.rel (.bl false)
theorem me_not {a : Expr} {pos : Pos} {m : EM} (ha : ME X a m) : ME X (.UnaryOp .Not a pos) (eNot m) :=
  PE.imp (pe_not ha) fun σ H Q ⟨μ, ρ, h, w, h', A, e, n⟩ => by
    obtain ⟨x, h1, e1, e⟩ := bind_ok e
    obtain ⟨k, h2, e2, e⟩ := bind_ok e
    obtain ⟨rfl, rfl⟩ := asB_ok e2
    cases e
    exact mE_first A e1 fun μ1 v H1 g1 A1 p1 => ⟨k, p1.bl_inv, (n.after g1).now A1.rel (.bl _)⟩
def eIf (t : TM) (a b : EM) : EM := fun ρ => (t ρ).bind fun k => if k = true then a ρ else b ρ
theorem me_if {t a b : Expr} {pos : Pos} {mt : TM} {ma mb : EM} (ht : MT X t mt) (ha : ME X a ma) (hb : ME X b mb) : ME X (.IfExp t a b pos) (eIf mt ma mb) :=
  PE.imp (pe_ifExp ht ha hb) fun σ H Q ⟨μ, ρ, h, w, h', A, e, n⟩ => by
    obtain ⟨k, h1, e1, e⟩ := bind_ok e
    refine mT_first A e1 fun μ1 H1 g1 A1 => ?_
    cases k with
    | true => exact ⟨μ1, ρ, h1, w, h', A1, e, n.after g1⟩
    | false => exact ⟨μ1, ρ, h1, w, h', A1, e, n.after g1⟩
def eCh (f f' : F2) (a b d : EM) : EM := fun ρ => (a ρ).bind fun x => (b ρ).bind fun y => (f x y).bind fun z => (asB z).bind fun k => if k = true then (d ρ).bind fun u => f' y u else M.pure (.bl false)
theorem eCh_to {c : Cfg} {f f' : F2} {r r' : R2} {ma mb md : EM} (l : LOp c f r) (l' : LOp c f' r') {σ : L2.St} {H : Hp} {Q : VK} (z : mE c (eCh f f' ma mb md) σ H Q) : tChain r r' (mE c ma) (mE c mb) (mE c md) σ H Q := by
  obtain ⟨μ, ρ, h, w, h', A, e, n⟩ := z
  obtain ⟨x, h1, e1, e⟩ := bind_ok e
  obtain ⟨y, h2, e2, e⟩ := bind_ok e
  obtain ⟨z, h3, e3, f3⟩ := bind_ok e
  clear e
  obtain ⟨k, h4, e4, e⟩ := bind_ok f3
  clear f3
  obtain ⟨rfl, rfl⟩ := asB_ok e4
  refine mE_first A e1 fun μ1 v1 H1 g1 A1 p1 => mE_first A1 e2 fun μ2 v2 H2 g2 A2 p2 => l A2.rel (p1.go g2) p2 e3 fun μ3 v3 H3 g3 R3 p3 => ⟨k, p3.bl_inv, ?_⟩
  have A3 := A2.go g3 R3
  have n3 := n.after (g1.trans (g2.trans g3))
  cases k with
  | true =>
    obtain ⟨u, h5, e5, e⟩ := bind_ok e
    exact mE_first A3 e5 fun μ4 v4 H4 g4 A4 p4 => l' A4.rel ((p2.go g3).go g4) p4 e (n3.after g4)
  | false => cases e; exact n3.now R3 (.bl false)
theorem me_chain {a b d : Expr} {op op' : CmpOp} {pos : Pos} {f f' : F2} {r r' : R2} {ma mb md : EM} (ho : OpR X (compareOp op) r) (l : LOp (cfg X) f r) (ho' : OpR X (compareOp op') r') (l' : LOp (cfg X) f' r') (ha : ME X a ma) (hb : ME X b mb) (hd : ME X d md)
    (hm : lastMarks [op, op'] [b, d] = false := by with_unfolding_all rfl) : ME X (.Compare a [op, op'] [b, d] pos) (eCh f f' ma mb md) := PE.imp (pe_chain ho ho' ha hb hd hm) fun _ _ _ z => eCh_to l l' z
theorem mt_chain {a b d : Expr} {op op' : CmpOp} {pos : Pos} {f f' : F2} {r r' : R2} {ma mb md : EM} (ho : OpR X (compareOp op) r) (l : LOp (cfg X) f r) (ho' : OpR X (compareOp op') r') (l' : LOp (cfg X) f' r') (ha : ME X a ma) (hb : ME X b mb) (hd : ME X d md)
    (hm : lastMarks [op, op'] [b, d] = false := by with_unfolding_all rfl) : MT X (.Compare a [op, op'] [b, d] pos) (tOf (eCh f f' ma mb md)) := PT.imp (pt_chain ho ho' ha hb hd hm) fun σ H Q ⟨μ, ρ, h, b, h', A, e, n⟩ => by
    obtain ⟨w, h1, e1, e⟩ := bind_ok e
    obtain ⟨rfl, rfl⟩ := asB_ok e
    exact eCh_to l l' ⟨μ, ρ, h, _, h', A, e1, fun μ' v H' g r p => ⟨b, p.bl_inv, n μ' H' g r⟩⟩

abbrev FM := List Wv → M Wv
def LCall (c : Cfg) (f : FM) (r : List V → Hp → VK → Prop) : Prop := ∀ {μ h H vs ws w h' Q}, Rel c μ h H → Rps c μ H vs ws → f ws h = .ok w h' → Nx c μ H h' w Q → r vs H Q
def eCall (f : FM) (a : AM) : EM := fun ρ => (a ρ).bind f
theorem eCall_to {c : Cfg} {f : FM} {r : List V → Hp → VK → Prop} {ma : AM} (l : LCall c f r) {σ : L2.St} {H : Hp} {Q : VK} (z : mE c (eCall f ma) σ H Q) : mA c ma σ H fun vs H1 => r vs H1 Q := by
  obtain ⟨μ, ρ, h, w, h', A, e, n⟩ := z
  obtain ⟨ws, h1, e1, e⟩ := bind_ok e
  exact mA_first A e1 fun μ1 vs H1 g1 A1 p1 => l A1.rel p1 e (n.after g1)
theorem me_callB {x : PySem.Str} {p pos : Pos} {e : Expr} {es : List Expr} {id : String} {r : List V → Hp → VK → Prop} {f : FM} {ma : AM} (hc : CallR X (.builtin id) r) (l : LCall (cfg X) f r) (hg : Gl X x) (hm : X.mg x = none) (hv : bootBuiltins x = some (.builtin id)) (ha : MA X (e :: es) ma) (hn : x ≠ "__name__" := by decide) (hdb : (x == ("__debug__" : PySem.Str)) = false := by decide)
    (he : starEach (e :: es) X.env = (false, eval e X.env) :: starEach es X.env := by rfl) (hpl : (backTo pos (starEach es X.env)).any (·.1) = false := by rfl) : ME X (.Call (.Name x p) (e :: es) [] pos) (eCall f ma) :=
  PE.imp (pe_callB hc hg hm hv ha hn hdb he hpl) fun _ _ _ z => eCall_to l z
theorem me_callTy {x : PySem.Str} {p pos : Pos} {e : Expr} {es : List Expr} {T : String} {r : List V → Hp → VK → Prop} {f : FM} {ma : AM} (hc : CallR X (.type T) r) (l : LCall (cfg X) f r) (hg : Gl X x) (hm : X.mg x = none) (hv : bootBuiltins x = some (.type T)) (ha : MA X (e :: es) ma) (hn : x ≠ "__name__" := by decide) (hdb : (x == ("__debug__" : PySem.Str)) = false := by decide)
    (he : starEach (e :: es) X.env = (false, eval e X.env) :: starEach es X.env := by rfl) (hpl : (backTo pos (starEach es X.env)).any (·.1) = false := by rfl) : ME X (.Call (.Name x p) (e :: es) [] pos) (eCall f ma) :=
  PE.imp (pe_callTy hc hg hm hv ha hn hdb he hpl) fun _ _ _ z => eCall_to l z
end
end MM

set_option maxRecDepth 100000
set_option maxHeartbeats 4000000
namespace MM
open PySem PySem.Spec PyProof.Rows L2

inductive Fl where
  | nx | ret (w : Wv) | bk | ct | xc (x : Ex)
abbrev SM := Env → M (Fl × Env)
def Goes (c : Cfg) (D : Ends) (fl : Fl) (μ : List Addr) (σ : L2.St) (H : Hp) : Prop := match fl with
  | .nx => D.nx σ H
  | .ret w => ∀ v, Rp c μ H v w → D.rt v H
  | .bk => D.bk σ H
  | .ct => D.ct σ H
  | .xc _ => False
def Ns (c : Cfg) (μ : List Addr) (H : Hp) (h' : Hm) (fl : Fl) (ρ' : Env) (D : Ends) : Prop := ∀ μ' σ' H', Go c μ H μ' H' → At c μ' h' H' σ' ρ' → Goes c D fl μ' σ' H'
def mS (c : Cfg) (m : SM) : TS := fun D σ H => ∃ μ ρ h fl ρ' h', At c μ h H σ ρ ∧ m ρ h = .ok (fl, ρ') h' ∧ Ns c μ H h' fl ρ' D
theorem PS.imp {X : Cx} {e : Stmt} {t t' : TS} (p : PS X e t) (f : ∀ D σ H, t' D σ H → t D σ H) : PS X e t' := ⟨fun pins s σ H D I h => p.run pins s σ H D I (f D σ H h)⟩
theorem PSs.imp {X : Cx} {e : List Stmt} {t t' : TS} (p : PSs X e t) (f : ∀ D σ H, t' D σ H → t D σ H) : PSs X e t' := ⟨fun pins s σ H D I h => p.run pins s σ H D I (f D σ H h)⟩
theorem PG.imp {X : Cx} {e : Expr} {t t' : TG} (p : PG X e t) (f : ∀ v σ H Q, t' v σ H Q → t v σ H Q) : PG X e t' := ⟨fun pins s σ H v u Q I r h => p.run pins s σ H v u Q I r (f v σ H Q h)⟩
theorem PGs.imp {X : Cx} {e : List Expr} {t t' : TGs} (p : PGs X e t) (f : ∀ v σ H Q, t' v σ H Q → t v σ H Q) : PGs X e t' := ⟨fun pins s σ H v u Q I r h => p.run pins s σ H v u Q I r (f v σ H Q h)⟩
abbrev MS (X : Cx) (st : Stmt) (m : SM) : Prop := PS X st (mS (cfg X) m)
abbrev MSs (X : Cx) (st : List Stmt) (m : SM) : Prop := PSs X st (mS (cfg X) m)
section
variable {c : Cfg} {μ μ1 : List Addr} {h h1 h' : Hm} {H H1 : Hp} {σ : L2.St} {ρ ρ' : Env} {fl : Fl} {D : Ends}
theorem Ns.after (n : Ns c μ H h' fl ρ' D) (g : Go c μ H μ1 H1) : Ns c μ1 H1 h' fl ρ' D := fun μ' σ' H' g' a => n μ' σ' H' (g.trans g') a
theorem Ns.now (n : Ns c μ H h' fl ρ' D) (a : At c μ h' H σ ρ') : Goes c D fl μ σ H := n μ σ H (Go.refl ..) a
theorem mS_first {m : SM} (A : At c μ h H σ ρ) (e : m ρ h = .ok (fl, ρ') h1) (f : ∀ μ1 σ1 H1, Go c μ H μ1 H1 → At c μ1 h1 H1 σ1 ρ' → Goes c D fl μ1 σ1 H1) : mS c m D σ H := ⟨μ, ρ, h, fl, ρ', h1, A, e, f⟩
end
def sNil : SM := fun ρ h => .ok (.nx, ρ) h
def sSeq (a b : SM) : SM := fun ρ => (a ρ).bind fun r => match r.1 with
  | .nx => b r.2
  | _ => M.pure r
def sRet (e : EM) : SM := fun ρ => (e ρ).bind fun w => M.pure (.ret w, ρ)
def sRetN : SM := fun ρ h => .ok (.ret .non, ρ) h
def sExpr (e : EM) : SM := fun ρ => (e ρ).bind fun _ => M.pure (.nx, ρ)
def sBk : SM := fun ρ h => .ok (.bk, ρ) h
def sCt : SM := fun ρ h => .ok (.ct, ρ) h
def sIf (t : TM) (a b : SM) : SM := fun ρ => (t ρ).bind fun k => if k = true then a ρ else b ρ
def sNo : SM := fun _ _ => .no
section
variable {X : Cx}
theorem mss_nil : MSs X [] sNil := PSs.imp pss_nil fun D σ H ⟨μ, ρ, h, fl, ρ', h', A, e, n⟩ => by
  cases e
  exact n.now A
theorem sSeq_to {c : Cfg} {a b : SM} {D : Ends} {σ : L2.St} {H : Hp} (z : mS c (sSeq a b) D σ H) : tSeq (mS c a) (mS c b) D σ H := by
  obtain ⟨μ, ρ, h, fl, ρ', h', A, e, n⟩ := z
  obtain ⟨⟨fl1, ρ1⟩, h1, e1, e⟩ := bind_ok e
  refine mS_first A e1 fun μ1 σ1 H1 g1 A1 => ?_
  cases fl1 with
  | nx => exact ⟨μ1, ρ1, h1, fl, ρ', h', A1, e, n.after g1⟩
  | ret w => cases e; exact (n.after g1).now A1
  | bk => cases e; exact (n.after g1).now A1
  | ct => cases e; exact (n.after g1).now A1
  | xc x => cases e; exact (n.after g1).now A1
theorem mss_cons {st : Stmt} {rest : List Stmt} {a b : SM} (h1 : MS X st a) (h2 : MSs X rest b) : MSs X (st :: rest) (sSeq a b) := PSs.imp (pss_cons h1 h2) fun _ _ _ z => sSeq_to z
theorem mss_one {st : Stmt} {a : SM} (h1 : MS X st a) : MSs X [st] a := pss_one h1
theorem ms_ret {e : Expr} {pos : Pos} {m : EM} (he : ME X e m) : MS X (.Return (some e) pos) (sRet m) := PS.imp (ps_ret he) fun D σ H ⟨μ, ρ, h, fl, ρ', h', A, e, n⟩ => by
  obtain ⟨w, h1, e1, e⟩ := bind_ok e
  cases e
  exact mE_first A e1 fun μ1 v H1 g1 A1 p1 => (n.after g1).now A1 v p1
theorem ms_expr {e : Expr} {pos : Pos} {m : EM} (he : ME X e m) (hs : swapsWith e none pos.line X.env = pure false := by rfl) : MS X (.Expr e pos) (sExpr m) := PS.imp (ps_expr he hs) fun D σ H ⟨μ, ρ, h, fl, ρ', h', A, e, n⟩ => by
  obtain ⟨w, h1, e1, e⟩ := bind_ok e
  cases e
  exact mE_first A e1 fun μ1 v H1 g1 A1 p1 => (n.after g1).now A1
theorem ms_no {st : Stmt} {m : SM} (hm : ∀ ρ h r h', m ρ h ≠ .ok r h') : MS X st m := ⟨fun _ _ _ _ _ _ ⟨μ, ρ, h, fl, ρ', h', A, e, n⟩ => absurd e (hm _ _ _ _)⟩
theorem ms_if {t : Expr} {a b : List Stmt} {pos : Pos} {mt : TM} {ma mb : SM} (ht : MT X t mt) (ha : MSs X a ma) (hb : MSs X b mb) : MS X (.If t a b pos) (sIf mt ma mb) := PS.imp (ps_if ht ha hb) fun D σ H ⟨μ, ρ, h, fl, ρ', h', A, e, n⟩ => by
  obtain ⟨k, h1, e1, e⟩ := bind_ok e
  refine mT_first A e1 fun μ1 H1 g1 A1 => ?_
  cases k with
  | true => exact ⟨μ1, ρ, h1, fl, ρ', h', A1, e, n.after g1⟩
  | false => exact ⟨μ1, ρ, h1, fl, ρ', h', A1, e, n.after g1⟩
end

abbrev GM := Wv → Env → M Env
abbrev GMs := List Wv → Env → M Env
def Ng (c : Cfg) (vs : List Nat) (σ : L2.St) (μ : List Addr) (H : Hp) (h' : Hm) (ρ' : Env) (Q : L2.St → Hp → Prop) : Prop := ∀ μ' σ' H', Go c μ H μ' H' → At c μ' h' H' σ' ρ' → wipe σ' vs = wipe σ vs → Q σ' H'
def mG (c : Cfg) (sl : List Nat) (g : GM) : TG := fun v σ H Q => ∃ μ ρ h w ρ' h', At c μ h H σ ρ ∧ Rp c μ H v w ∧ g w ρ h = .ok ρ' h' ∧ Ng c sl σ μ H h' ρ' Q
def mGs (c : Cfg) (sl : List Nat) (g : GMs) : TGs := fun vs σ H Q => ∃ μ ρ h ws ρ' h', At c μ h H σ ρ ∧ Rps c μ H vs ws ∧ g ws ρ h = .ok ρ' h' ∧ Ng c sl σ μ H h' ρ' Q
abbrev MG (X : Cx) (vs : List Nat) (e : Expr) (g : GM) : Prop := PG X e (mG (cfg X) vs g)
abbrev MGs (X : Cx) (vs : List Nat) (e : List Expr) (g : GMs) : Prop := PGs X e (mGs (cfg X) vs g)
theorem wipe_in {i : Nat} {v : Option V} : ∀ {vs : List Nat} {σ : L2.St}, i ∈ vs → wipe (σ.set i v) vs = wipe σ vs
  | [], _, h => absurd h (by simp)
  | j :: vs, σ, h => by
    by_cases e : i ∈ vs
    · unfold wipe; rw [wipe_in e]
    · have : i = j := (List.mem_cons.mp h).resolve_right e
      subst this
      have out : ∀ (ws : List Nat), i ∉ ws → wipe (σ.set i v) ws = (wipe σ ws).set i v := by
        intro ws
        induction ws with
        | nil => intro _; rfl
        | cons k ks ih =>
          intro nk
          have hk : i ≠ k := fun z => nk (by rw [z]; exact List.mem_cons_self)
          unfold wipe
          rw [ih (fun z => nk (List.mem_cons_of_mem _ z)), List.set_comm _ _ hk]
      unfold wipe
      rw [out vs e, List.set_set]
def gN (i : Nat) : GM := fun w ρ h => .ok (ρ.set i (some w)) h
def gsNil : GMs := fun ws ρ h => match ws with | [] => .ok ρ h | _ => .no
def gsCons (g : GM) (r : GMs) : GMs := fun ws ρ => match ws with | w :: t => (g w ρ).bind fun ρ1 => r t ρ1 | [] => M.no
def gT (n : Nat) (g : GMs) : GM := fun w ρ => match w with
  | .tup ws => if ws.length = n then g ws ρ else M.no
  | _ => M.no
section
variable {X : Cx}
theorem mg_name {vs : List Nat} {i : Nat} {x : PySem.Str} {pos : Pos} (hv : i ∈ vs) (hN : X.N.Nodup) (hi : X.N[i]? = some x) (hx : Loc X.env.scope x) (hf : X.fn x = true ∨ X.env.scope.names.lookup x = some .local := by first | exact .inl rfl | exact .inr rfl | assumption) : MG X vs (.Name x pos) (gN i) :=
  PG.imp (pg_name hN hi hx hf) fun v σ H Q ⟨μ, ρ, h, w, ρ', h', A, p, e, n⟩ => by
    cases e
    exact n μ _ H (Go.refl ..) ⟨A.rel, RpS.set (v := some v) (w := some w) p i A.sl⟩ (wipe_in hv)
theorem mgs_nil {vs : List Nat} : MGs X vs [] gsNil := PGs.imp pgs_nil fun v σ H Q ⟨μ, ρ, h, ws, ρ', h', A, p, e, n⟩ => by
  cases p with
  | nil => cases e; exact ⟨rfl, n μ _ H (Go.refl ..) A rfl⟩
  | cons _ _ => cases e
theorem mgs_cons {sl : List Nat} {e : Expr} {es : List Expr} {g : GM} {r : GMs} (h1 : MG X sl e g) (h2 : MGs X sl es r) (hs : (assignEach (e :: es) X.env).map (·.2) = assign e X.env :: (assignEach es X.env).map (·.2) := by rfl) : MGs X sl (e :: es) (gsCons g r) :=
  PGs.imp (pgs_cons h1 h2 hs) fun v σ H Q ⟨μ, ρ, h, ws, ρ', h', A, p, e, n⟩ => by
    cases p with
    | nil => cases e
    | @cons v vs w ws p t =>
      obtain ⟨ρ1, h1, e1, e⟩ := bind_ok e
      exact ⟨v, vs, rfl, μ, ρ, h, w, ρ1, h1, A, p, e1, fun μ1 σ1 H1 g1 A1 w1 => ⟨μ1, ρ1, h1, ws, ρ', h', A1, t.go g1, e, fun μ2 σ2 H2 g2 A2 w2 => n μ2 σ2 H2 (g1.trans g2) A2 (w2.trans w1)⟩⟩
theorem mg_tup {sl : List Nat} {es : List Expr} {k : Nat} {g : GMs} {n : Nat} {pos : Pos} (hc : X.calm = true) (hg : MGs X sl es g) (hn : (assignEach es X.env).length = n := by rfl) (hst : (assignEach es X.env).findIdx? (·.1) = none := by rfl) : MG X sl (.Tuple es k pos) (gT n g) :=
  PG.imp (pg_tup hc hg hn hst) fun v σ H Q ⟨μ, ρ, h, w, ρ', h', A, p, e, nx⟩ => by
    cases p with
    | @tup a vs ws q r =>
      have e : (if ws.length = n then g ws ρ else M.no) h = .ok ρ' h' := e
      by_cases hl : ws.length = n
      · rw [if_pos hl] at e
        exact ⟨a, vs, rfl, .of q, r.length.trans hl, μ, ρ, h, ws, ρ', h', A, r, e, nx⟩
      · rw [if_neg hl] at e; cases e
    | _ => cases e
def sAsg (e : EM) (g : GM) : SM := fun ρ => (e ρ).bind fun w => (g w ρ).bind fun ρ1 => M.pure (.nx, ρ1)
theorem sAsg_to {c : Cfg} {sl : List Nat} {m : EM} {g : GM} {D : Ends} {σ : L2.St} {H : Hp} (z : mS c (sAsg m g) D σ H) : tAsg (mE c m) (mG c sl g) D σ H := by
  obtain ⟨μ, ρ, h, fl, ρ', h', A, e, n⟩ := z
  obtain ⟨w, h1, e1, e⟩ := bind_ok e
  obtain ⟨ρ1, h2, e2, e⟩ := bind_ok e
  cases e
  exact mE_first A e1 fun μ1 v H1 g1 A1 p1 => ⟨μ1, ρ, h1, w, ρ', h', A1, p1, e2, fun μ2 σ2 H2 g2 A2 _ => n μ2 σ2 H2 (g1.trans g2) A2⟩
theorem ms_asg {sl : List Nat} {tg e : Expr} {pos : Pos} {m : EM} {g : GM} (he : ME X e m) (hg : MG X sl tg g) (hs : swapsWithSole [tg] e pos.line X.env = pure false := by rfl) (hw : swappedStores [tg] e X.env = pure none := by rfl)
    (h1 : (assignEach [tg] X.env).map (·.2) = [assign tg X.env] := by rfl) : MS X (.Assign [tg] e pos) (sAsg m g) := PS.imp (ps_asg he hg hs hw h1) fun _ _ _ z => sAsg_to z
def sSet (i : Nat) (e : EM) : SM := fun ρ => (e ρ).bind fun w => M.pure (.nx, ρ.set i (some w))
theorem sSet_to {c : Cfg} {m : EM} {i : Nat} {D : Ends} {σ : L2.St} {H : Hp} (z : mS c (sSet i m) D σ H) : tAsg (mE c m) (gName i) D σ H := by
  obtain ⟨μ, ρ, h, fl, ρ', h', A, e, n⟩ := z
  obtain ⟨w, h1, e1, e⟩ := bind_ok e
  cases e
  exact mE_first A e1 fun μ1 v H1 g1 A1 p1 => (n.after g1) μ1 _ H1 (Go.refl ..) ⟨A1.rel, RpS.set (v := some v) (w := some w) p1 i A1.sl⟩
theorem ms_set {i : Nat} {x : PySem.Str} {e : Expr} {m : EM} {pos pos' : Pos} (hN : X.N.Nodup) (hi : X.N[i]? = some x) (hx : Loc X.env.scope x) (he : ME X e m) (hs : swapsWith e (some (.Name x pos')) pos.line X.env = pure false := by rfl) (hf : X.fn x = true ∨ X.env.scope.names.lookup x = some .local := by first | exact .inl rfl | exact .inr rfl | assumption) :
    MS X (.Assign [.Name x pos'] e pos) (sSet i m) := PS.imp (ps_set hN hi hx he hs hf) fun _ _ _ z => sSet_to z
def sPar (i j : Nat) (a : AM) : SM := fun ρ => (a ρ).bind fun ws => match ws with
  | [x, y] => M.pure (.nx, (ρ.set i (some x)).set j (some y))
  | _ => M.no
theorem ms_par {i j : Nat} {x y : PySem.Str} {a b : Expr} {m : AM} {px py pt pos : Pos} {kt k2 pt2} (hc : X.calm = true) (hN : X.N.Nodup) (hi : X.N[i]? = some x) (hj : X.N[j]? = some y) (hij : i ≠ j)
    (hx : X.env.scope.names.lookup x = some .local) (hy : X.env.scope.names.lookup y = some .local) (ha : MA X [a, b] m)
    (hw : swappedStores [.Tuple [.Name x px, .Name y py] kt pt] (.Tuple [a, b] k2 pt2) X.env = pure (some [x, y]))
    (hs : swapsWithSole [.Tuple [.Name x px, .Name y py] kt pt] (.Tuple [a, b] k2 pt2) pos.line X.env = pure false := by rfl) :
    MS X (.Assign [.Tuple [.Name x px, .Name y py] kt pt] (.Tuple [a, b] k2 pt2) pos) (sPar i j m) := PS.imp (ps_par hc hN hi hj hij hx hy ha hw hs) fun D σ H ⟨μ, ρ, h, fl, ρ', h', A, e, n⟩ => by
  obtain ⟨ws, h1, e1, e⟩ := bind_ok e
  refine mA_first A e1 fun μ1 vs H1 g1 A1 p1 => ?_
  match ws, vs, p1, e with
  | [w1, w2], [v1, v2], .cons p (.cons q .nil), e =>
    cases e
    exact ⟨v1, v2, rfl, (n.after g1) μ1 _ H1 (Go.refl ..) ⟨A1.rel, RpS.set (v := some v2) (w := some w2) q j (RpS.set (v := some v1) (w := some w1) p i A1.sl)⟩⟩

def startM (n : Nat) (ws : List Wv) : Env := ws.map some ++ List.replicate (n - ws.length) none
def fun_ (n k : Nat) (b : SM) : FM := fun ws => if ws.length = k then (b (startM n ws)).bind fun r => match r.1 with
  | .nx => M.pure .non
  | .ret w => M.pure w
  | _ => M.no
  else M.no
def spF (c : Cfg) (k : Nat) (m : FM) : Sp := fun vs H Q _ => ∃ μ h ws w h', Rel c μ h H ∧ Rps c μ H vs ws ∧ ws.length = k ∧ m ws h = .ok w h' ∧ Nx c μ H h' w Q
theorem spF_len {c : Cfg} {k : Nat} {m : FM} {vs : List V} {H : Hp} {Q : VK} {E : XK} (h : spF c k m vs H Q E) : vs.length = k := by
  obtain ⟨μ, h, ws, w, h', R, p, l, _⟩ := h
  rw [p.length]; exact l
theorem rps_start {c : Cfg} {μ : List Addr} {H : Hp} : ∀ {vs : List V} {ws : List Wv}, Rps c μ H vs ws → RpS c μ H (vs.map some) (ws.map some)
  | _, _, .nil => .nil
  | _, _, .cons r t => .cons r (rps_start t)
theorem rps_none {c : Cfg} {μ : List Addr} {H : Hp} : ∀ n, RpS c μ H (List.replicate n none) (List.replicate n none)
  | 0 => .nil
  | n + 1 => .cons (show RpO c μ H none none from trivial) (rps_none n)
theorem paired_app {α β : Type} {F : α → β → Prop} : ∀ {a a' : List α} {b b' : List β}, Paired F a b → Paired F a' b' → Paired F (a ++ a') (b ++ b')
  | _, _, _, _, .nil, s => s
  | _, _, _, _, .cons r t, s => .cons r (paired_app t s)
theorem at_start {c : Cfg} {μ : List Addr} {h : Hm} {H : Hp} {N : List PySem.Str} {vs : List V} {ws : List Wv} (R : Rel c μ h H) (p : Rps c μ H vs ws) : At c μ h H (L2.start N vs) (startM N.length ws) := by
  refine ⟨R, ?_⟩
  unfold L2.start startM
  rw [p.length]
  exact paired_app (rps_start p) (rps_none _)
theorem Fun.okM {P : Program} {w : World} {K : PySem.W.Frag} {mg : PySem.Str → Option Value} {base : Heap} {x qual : PySem.Str} {st : Stmt} {f : Addr} {fd : FuncData} {N ps : List PySem.Str} {k : Nat} {n j : Nat} {b : SM} (F : Fun K x qual st f fd) (S : FnScope N ps (defScope st)) (hn : N.length = n) (hj : ps.length = j)
    (body : ∀ (cdv : Value) (A : Around) (outer : List PySem.Env) (s : Shared) (H : Hp) (E : XK), Room k (A.deeper (envOfC qual (defScope st) s.heap.objs.size f cdv)) → MSs (cxOf CX0 P w K mg base N qual (defScope st) f cdv A outer s H E).nox (defBody st) b) :
    FnOk P w K mg base CX0 (k + 1) f fd ps (spF ⟨P, w, K, mg⟩ j (fun_ n j b)) := by
  refine F.ok S (fun vs H Q E h => by rw [hj]; exact spF_len h) fun cdv A outer s H vs Q E hr h => ⟨_, body cdv A outer s H E hr, ?_⟩
  obtain ⟨μ, h, ws, u, h', R, p, l, e, nx⟩ := h
  unfold fun_ at e
  rw [if_pos l] at e
  obtain ⟨⟨fl, ρ'⟩, h1, e1, e⟩ := bind_ok e
  subst hn
  refine ⟨μ, _, h, fl, ρ', h1, at_start R p, e1, fun μ1 σ1 H1 g1 A1 => ?_⟩
  cases fl with
  | nx => cases e; exact nx μ1 _ H1 g1 A1.rel .non
  | ret w => cases e; exact fun v pv => nx μ1 v H1 g1 A1.rel pv
  | bk => cases e
  | ct => cases e
  | xc x => cases e
structure Df (P : Program) (w : World) (K : PySem.W.Frag) (mg : PySem.Str → Option Value) (base : Heap) (k : Nat) (x : PySem.Str) (j : Nat) (m : FM) : Prop where
  ex : ∃ (f : Addr) (fd : FuncData) (ps : List PySem.Str), mg x = some (.ref f) ∧ PySem.W.keepIn K (.ref f) = true ∧ Binds K fd ps [] ∧ FnOk P w K mg base CX0 k f fd ps (spF ⟨P, w, K, mg⟩ j m)
theorem spF_call {c : Cfg} {j : Nat} {m : FM} {ma : AM} {σ : L2.St} {H : Hp} {Q : VK} {E : XK} (lj : ∀ ws h w h', m ws h = .ok w h' → ws.length = j) (z : mE c (eCall m ma) σ H Q) : mA c ma σ H fun vs H1 => spF c j m (vs ++ []) H1 Q E := by
  obtain ⟨μ, ρ, h, w, h', A, e, n⟩ := z
  obtain ⟨ws, h1, e1, e⟩ := bind_ok e
  exact mA_first A e1 fun μ1 vs H1 g1 A1 p1 => ⟨μ1, h1, ws, w, h', A1.rel, by rw [List.append_nil]; exact p1, lj _ _ _ _ e, e, n.after g1⟩
theorem fun_len {n k : Nat} {b : SM} {ws : List Wv} {h h' : Hm} {w : Wv} (e : fun_ n k b ws h = .ok w h') : ws.length = k := by
  unfold fun_ at e
  by_cases l : ws.length = k
  · exact l
  · rw [if_neg l] at e; cases e
def Arity (j : Nat) (m : FM) : Prop := ∀ ws h w h', m ws h = .ok w h' → ws.length = j
theorem arity_fun {n k : Nat} {b : SM} : Arity k (fun_ n k b) := fun _ _ _ _ e => fun_len e
theorem me_call {x : PySem.Str} {p pos : Pos} {e : Expr} {es : List Expr} {k j : Nat} {m : FM} {ma : AM} (d : Df X.prog X.w X.K X.mg X.base k x j m) (lj : Arity j m) (hr : Room k X.A) (hg : Gl X x) (hx : Passes CX0 X E0) (ha : MA X (e :: es) ma)
    (hdb : (x == ("__debug__" : PySem.Str)) = false := by decide) (he : starEach (e :: es) X.env = (false, eval e X.env) :: starEach es X.env := by rfl) (hpl : (backTo pos (starEach es X.env)).any (·.1) = false := by rfl) :
    ME X (.Call (.Name x p) (e :: es) [] pos) (eCall m ma) := by
  obtain ⟨f, fd, ps, hm, hk, hb, F⟩ := d.ex
  exact PE.imp (pe_call F hr hg hm hk hb .nil hx ha hdb he hpl) fun _ _ _ z => spF_call lj z

def getF (f : PySem.Str) (C : PySem.Str) (w : Wv) : M Wv := fun h => match w with
  | .obj i => match h[i]? with
    | some (.ins D fs) => if D = C then (match fs.lookup f with | some v => .ok v h | none => .no) else .no
    | _ => .no
  | _ => .no
def eFld (C f : PySem.Str) (e : EM) : EM := fun ρ => (e ρ).bind (getF f C)
theorem lookup_rkv {c : Cfg} {μ : List Addr} {H : Hp} {f : PySem.Str} : ∀ {fs' : List (PySem.Str × V)} {fs : List (PySem.Str × Wv)} {w : Wv}, Rkv c μ H fs' fs → fs.lookup f = some w → ∃ v, fs'.lookup f = some v ∧ Rp c μ H v w
  | _, _, _, .nil, h => by cases h
  | _, _, w, .cons (a := (g', v)) (b := (g, u)) r t, h => by
    obtain ⟨e, p⟩ := r
    have e : g' = g := e
    subst e
    rw [List.lookup_cons] at h ⊢
    cases q : f == g' with
    | true => rw [q] at h; cases h; exact ⟨v, rfl, p⟩
    | false => rw [q] at h; exact lookup_rkv t h
structure Kl (K : PySem.W.Frag) (mg : PySem.Str → Option Value) (C : PySem.Str) : Prop where
  ex : ∃ a, mg C = some (.ref a) ∧ Cls K a
def NoF (K : PySem.W.Frag) (mg : PySem.Str → Option Value) (C f : PySem.Str) : Prop := ∀ a, mg C = some (.ref a) → NoAttr K a f
theorem Kl.at {K : PySem.W.Frag} {mg : PySem.Str → Option Value} {C : PySem.Str} (k : Kl K mg C) {a : Addr} (h : mg C = some (.ref a)) : Cls K a := by
  obtain ⟨b, e, c⟩ := k.ex
  rw [h] at e
  cases e
  exact c
def putW (f : PySem.Str) (v : Wv) : List (PySem.Str × Wv) → List (PySem.Str × Wv)
  | [] => [(f, v)]
  | (g, x) :: r => if g = f then (g, v) :: r else (g, x) :: putW f v r
def setF (C f : PySem.Str) (w v : Wv) : M Unit := fun h => match w with
  | .obj i => match h[i]? with
    | some (.ins D fs) => if D = C ∧ fs.length < 1000 then .ok () (h.set i (.ins D (putW f v fs))) else .no
    | _ => .no
  | _ => .no
def sFldM (C f : PySem.Str) (o e : EM) : SM := fun ρ => (e ρ).bind fun v => (o ρ).bind fun w => (setF C f w v).bind fun _ => M.pure (.nx, ρ)

structure Mf (P : Program) (w : World) (K : PySem.W.Frag) (mg : PySem.Str → Option Value) (base : Heap) (k : Nat) (C m : PySem.Str) (j : Nat) (f : FM) : Prop where
  ex : ∃ (a fa : Addr) (fd : FuncData) (ps : List PySem.Str), mg C = some (.ref a) ∧ Cls K a ∧ Meth K a m fa ∧ Binds K fd ps [] ∧ FnOk P w K mg base CX0 k fa fd ps (spF ⟨P, w, K, mg⟩ j f)
def isC (C m : PySem.Str) (w : Wv) : M Unit := fun h => match w with
  | .obj i => match h[i]? with
    | some (.ins D fs) => if D = C ∧ fs.lookup m = none then .ok () h else .no
    | _ => .no
  | _ => .no
def eMeth (C m : PySem.Str) (f : FM) (o : EM) (a : AM) : EM := fun ρ => (o ρ).bind fun w => (isC C m w).bind fun _ => (a ρ).bind fun ws => f (w :: ws)

structure Cf (P : Program) (w : World) (K : PySem.W.Frag) (mg : PySem.Str → Option Value) (base : Heap) (k : Nat) (C : PySem.Str) (j : Nat) (f : FM) : Prop where
  ex : ∃ (a fa : Addr) (fd : FuncData) (ps : List PySem.Str), mg C = some (.ref a) ∧ Mk K a fa ∧ Binds K fd ps [] ∧ FnOk P w K mg base CX0 k fa fd ps (spF ⟨P, w, K, mg⟩ j f)
def mkC (C : PySem.Str) (f : FM) : FM := fun ws h => ((f (.obj h.length :: ws)).bind fun r => match r with | .non => M.pure (.obj h.length) | _ => M.no) (h ++ [.ins C []])
end
end MM

set_option maxRecDepth 100000
set_option maxHeartbeats 4000000
namespace MM
open PySem PySem.Spec PyProof.Rows L2

structure Src where
  cnt : Nat
  at_ : Nat → Hm → Option (Option Wv)
structure ItR (c : Cfg) (J : It) (src : Src) (G : List Addr → Hp → Prop) : Prop where
  keep : ∀ μ H μ' H', G μ H → Gw c μ H μ' H' → G μ' H'
  go : ∀ μ h H k w, Rel c μ h H → G μ H → src.at_ k h = some (some w) → J.go k H ∧ ∀ x H', J.yld k H x H' → ∃ μ', Go c μ H μ' H' ∧ Rel c μ' h H' ∧ Rp c μ' H' x w
  stop : ∀ μ h H k, Rel c μ h H → G μ H → src.at_ k h = some none → J.stop k H
abbrev IM := MM.Env → M Src
def iM (c : Cfg) (mi : IM) : TI := fun σ H R => ∃ μ ρ h src h', At c μ h H σ ρ ∧ mi ρ h = .ok src h' ∧ ∀ μ' H' J G, Go c μ H μ' H' → Rel c μ' h' H' → ItR c J src G → G μ' H' → R J H'
theorem PI.imp {X : Cx} {tg it : Expr} {t t' : TI} (p : PI X tg it t) (f : ∀ σ H R, t' σ H R → t σ H R) : PI X tg it t' := ⟨fun pins s σ H R I h => p.run pins s σ H R I (f σ H R h)⟩
abbrev MI (X : Cx) (tg it : Expr) (m : IM) : Prop := PI X tg it (iM (cfg X) m)
def rdL (h : Hm) (i : Nat) : Option (List Wv) := match h[i]? with
  | some (.lst ws) => some ws
  | some (.frz (.lst ws)) => some ws
  | _ => none
theorem rdL_to {c : Cfg} {μ : List Addr} {h : Hm} {H : Hp} {i : Nat} {ws : List Wv} {a : Addr} (R : Rel c μ h H) (ha : μ[i]? = some a) (e : rdL h i = some ws) : ∃ vs, SqL c.K H a vs ∧ Rps c μ H vs ws := by
  unfold rdL at e
  split at e
  · next ws' q =>
    cases e
    obtain ⟨u, hu, vs, rfl, r⟩ := R.get ha q
    exact ⟨vs, .inl (.inl hu), r⟩
  · next ws' q =>
    cases e
    obtain ⟨u, hu, ob, u', rfl, vs, rfl, r⟩ := R.get ha q
    exact ⟨vs, .inl (.inr ⟨_, hu⟩), r⟩
  · cases e
def sL (n i : Nat) : Src := ⟨n, fun k h => (rdL h i).map fun ws => ws[k]?⟩
def sT (ws : List Wv) : Src := ⟨ws.length, fun k _ => some ws[k]?⟩
theorem Rps.none_at {c : Cfg} {μ : List Addr} {H : Hp} {vs : List V} {ws : List Wv} {k : Nat} (r : Rps c μ H vs ws) (e : ws[k]? = none) : vs.length ≤ k := by
  rw [r.length]
  exact List.getElem?_eq_none_iff.mp e
theorem itr_list {c : Cfg} {n i : Nat} {a : Addr} : ItR c (Itl c.K a) (sL n i) (fun μ _ => μ[i]? = some a) where
  keep := fun μ H μ' H' g go => pre_at go.pre g
  go := fun μ h H k w R g e => by
    simp only [sL] at e
    cases q : rdL h i with
    | none => rw [q] at e; cases e
    | some ws =>
      rw [q] at e
      have e : ws[k]? = some w := Option.some.inj e
      obtain ⟨vs, hq, r⟩ := rdL_to R g q
      obtain ⟨v, hv, p⟩ := r.at e
      refine ⟨⟨vs, v, hq, hv⟩, fun x H' ⟨e1, e2⟩ => ?_⟩
      subst e1
      have := e2 vs hq
      rw [hv] at this
      cases this
      exact ⟨μ, Go.refl .., R, p⟩
  stop := fun μ h H k R g e => by
    simp only [sL] at e
    cases q : rdL h i with
    | none => rw [q] at e; cases e
    | some ws =>
      rw [q] at e
      have e : ws[k]? = none := Option.some.inj e
      obtain ⟨vs, hq, r⟩ := rdL_to R g q
      exact ⟨vs, hq, r.none_at e⟩
theorem itr_tup {c : Cfg} {a : Addr} {ws : List Wv} : ItR c (Itt c.K a) (sT ws) (fun μ H => ∃ vs, SqT c.K H a vs ∧ Rps c μ H vs ws) where
  keep := fun μ H μ' H' ⟨vs, q, r⟩ go => ⟨vs, go.tk _ _ q, r.mv go⟩
  go := fun μ h H k w R ⟨vs, hq, r⟩ e => by
    have e : ws[k]? = some w := Option.some.inj e
    obtain ⟨v, hv, p⟩ := r.at e
    refine ⟨⟨vs, v, hq, hv⟩, fun x H' ⟨e1, e2⟩ => ?_⟩
    subst e1
    have := e2 vs hq
    rw [hv] at this
    cases this
    exact ⟨μ, Go.refl .., R, p⟩
  stop := fun μ h H k R ⟨vs, hq, r⟩ e => by
    have e : ws[k]? = none := Option.some.inj e
    exact ⟨vs, hq, r.none_at e⟩
def srcOf (w : Wv) : M Src := fun h => match w with
  | .obj i => match rdL h i with
    | some ws => .ok (sL ws.length i) h
    | none => .no
  | .tup ws => .ok (sT ws) h
  | .ptp ws => .ok (sT ws) h
  | _ => .no
def iSeqM (e : EM) : IM := fun ρ => (e ρ).bind srcOf
section
variable {X : Cx}
theorem mi_seq {tg e : Expr} {m : EM} (he : ME X e m) : MI X tg e (iSeqM m) := PI.imp (VS.pi_seq (K := X.K) rfl he) fun σ H R ⟨μ, ρ, h, src, h', A, e, n⟩ => by
  obtain ⟨w, h1, e1, e⟩ := bind_ok e
  refine mE_first A e1 fun μ1 v H1 g1 A1 p1 => ?_
  cases w with
  | obj i =>
    simp only [srcOf] at e
    cases q : rdL h1 i with
    | none => rw [q] at e; cases e
    | some ws =>
      rw [q] at e
      cases e
      obtain ⟨a, rfl, ha⟩ := p1.obj_inv
      obtain ⟨vs, hq, r⟩ := rdL_to A1.rel ha q
      exact ⟨a, rfl, .inl ⟨⟨vs, hq⟩, n μ1 H1 _ _ g1 A1.rel (itr_list (c := cfg X)) ha⟩⟩
  | tup ws =>
    cases e
    obtain ⟨a, vs, rfl, hq, r⟩ := p1.tup_inv
    exact ⟨a, rfl, .inr ⟨⟨vs, hq⟩, n μ1 H1 _ _ g1 A1.rel (itr_tup (c := cfg X)) ⟨vs, hq, r⟩⟩⟩
  | ptp ws =>
    cases e
    obtain ⟨a, vs, rfl, pq, r⟩ := p1.ptp_inv
    have hq := pq.sq
    exact ⟨a, rfl, .inr ⟨⟨vs, hq⟩, n μ1 H1 _ _ g1 A1.rel (itr_tup (c := cfg X)) ⟨vs, hq, r⟩⟩⟩
  | _ => cases e
def sS (x : PySem.Str) : Src := ⟨x.cps.size, fun k _ => some (x.cps[k]?.map fun ch => .str ⟨#[ch]⟩)⟩
theorem itr_str {c : Cfg} {x : PySem.Str} : ItR c (Its x) (sS x) (fun _ _ => True) where
  keep := fun _ _ _ _ _ _ => trivial
  go := fun μ h H k w R _ e => by
    have e : x.cps[k]?.map (fun ch => Wv.str ⟨#[ch]⟩) = some w := Option.some.inj e
    obtain ⟨ch, hc, rfl⟩ := Option.map_eq_some_iff.mp e
    refine ⟨(Array.getElem?_eq_some_iff.mp hc).1, fun y H' ⟨e1, ch', hc', e2⟩ => ?_⟩
    subst e1 e2
    rw [hc] at hc'
    cases hc'
    exact ⟨μ, Go.refl .., R, .str _⟩
  stop := fun μ h H k R _ e => by
    have e : x.cps[k]?.map (fun ch => Wv.str ⟨#[ch]⟩) = none := Option.some.inj e
    rw [Option.map_eq_none_iff] at e
    exact Array.getElem?_eq_none_iff.mp e
def iStrM (e : EM) : IM := fun ρ => (e ρ).bind fun w => match w with
  | .str x => M.pure (sS x)
  | _ => M.no
theorem mi_str {tg e : Expr} {m : EM} (he : ME X e m) : MI X tg e (iStrM m) := PI.imp (pi_str he) fun σ H R ⟨μ, ρ, h, src, h', A, e, n⟩ => by
  obtain ⟨w, h1, e1, e⟩ := bind_ok e
  refine mE_first A e1 fun μ1 v H1 g1 A1 p1 => ?_
  cases w with
  | str x => cases e; exact ⟨x, p1.str_inv, n μ1 H1 _ _ g1 A1.rel (itr_str (c := cfg X)) trivial⟩
  | _ => cases e
def sR (lo : Int) (n : Nat) : Src := ⟨n, fun k _ => some (if k < n then some (.int (lo + k)) else none)⟩
theorem itr_rng {c : Cfg} {lo : Int} {n : Nat} : ItR c (Itr lo n) (sR lo n) (fun _ _ => True) where
  keep := fun _ _ _ _ _ _ => trivial
  go := fun μ h H k w R _ e => by
    have e : (if k < n then some (Wv.int (lo + k)) else none) = some w := Option.some.inj e
    by_cases hk : k < n
    · rw [if_pos hk] at e
      cases e
      refine ⟨hk, fun y H' ⟨e1, e2⟩ => ?_⟩
      subst e1 e2
      exact ⟨μ, Go.refl .., R, .int _⟩
    · rw [if_neg hk] at e; cases e
  stop := fun μ h H k R _ e => by
    have e : (if k < n then some (Wv.int (lo + k)) else none) = none := Option.some.inj e
    by_cases hk : k < n
    · rw [if_pos hk] at e; cases e
    · exact Nat.le_of_not_lt hk
def rgB (j : Int) : Bool := decide (-(2 ^ 62) ≤ j) && decide (j < 2 ^ 62)
theorem rgB_of {j : Int} (h : rgB j = true) : -(2 ^ 62) ≤ j ∧ j < 2 ^ 62 := by
  unfold rgB at h
  rw [Bool.and_eq_true, decide_eq_true_eq, decide_eq_true_eq] at h
  exact h
def rng1 (ws : List Wv) : M Src := match ws with
  | [.int j] => if rgB j then M.pure (sR 0 j.toNat) else M.no
  | _ => M.no
def rng2 (ws : List Wv) : M Src := match ws with
  | [.int i, .int j] => if rgB i && rgB j then M.pure (sR i (j - i).toNat) else M.no
  | _ => M.no
def iArgs (f : List Wv → M Src) (a : AM) : IM := fun ρ => (a ρ).bind f
theorem mi_range1 {tg a : Expr} {p pos : Pos} {m : AM} (hg : Gl X "range") (hm : X.mg "range" = none) (ha : MA X [a] m) (hs : starEach [a] X.env = [(false, eval a X.env)] := by rfl) : MI X tg (.Call (.Name "range" p) [a] [] pos) (iArgs rng1 m) :=
  PI.imp (pi_range1 hg hm ha hs) fun σ H R ⟨μ, ρ, h, src, h', A, e, n⟩ => by
    obtain ⟨ws, h1, e1, e⟩ := bind_ok e
    refine mA_first A e1 fun μ1 vs H1 g1 A1 p1 => ?_
    unfold rng1 at e
    split at e
    · next j =>
      obtain ⟨b, e⟩ := if_ok e
      cases e
      obtain ⟨b1, b2⟩ := rgB_of b
      cases p1 with
      | cons p t => cases t; exact ⟨j, by rw [p.int_inv], b1, b2, n μ1 H1 _ _ g1 A1.rel (itr_rng (c := cfg X)) trivial⟩
    · cases e
def enum (ws : List Wv) : M Src := fun h => match ws with
  | [w] => match srcOf w h with
    | .ok s h' => .ok ⟨s.cnt, fun k h => (s.at_ k h).map fun o => o.map fun x => .tup [.int k, x]⟩ h'
    | _ => .no
  | _ => .no
theorem Rel.pair {c : Cfg} {μ : List Addr} {h : Hm} {H : Hp} (R : Rel c μ h H) {T : Addr} (nT : H T = none) {x y : V} {a b : Wv} (p : Rp c μ H x a) (q : Rp c μ H y b) : ∃ μ', Go c μ H μ' (upd H T (.tup [x, y])) ∧ Rel c μ' h (upd H T (.tup [x, y])) ∧ Rp c μ' (upd H T (.tup [x, y])) (.ref T) (.tup [a, b]) := by
  obtain ⟨g, R'⟩ := R.aside nT (u := .tup [x, y])
  exact ⟨μ, g, R', .tup upd_same (.cons (p.go g) (.cons (q.go g) .nil))⟩
theorem mi_enum {e : Expr} {p pos tpos : Pos} {elts : List Expr} {kk : Nat} {m : AM} (hg : Gl X "enumerate") (hm : X.mg "enumerate" = none) (ha : MA X [e] m) (he : starEach [e] X.env = [(false, eval e X.env)] := by rfl) : MI X (.Tuple elts kk tpos) (.Call (.Name "enumerate" p) [e] [] pos) (iArgs enum m) :=
  PI.imp (RQ.pi_enumA hg hm ha he) fun σ H R ⟨μ, ρ, h, src, h', A, e, n⟩ => by
    obtain ⟨ws, h1, e1, e⟩ := bind_ok e
    refine mA_first A e1 fun μ1 vs H1 g1 A1 p1 => ?_
    unfold enum at e
    split at e
    · next w =>
      cases p1 with
      | cons p t =>
        cases t
        cases w with
        | obj i =>
          simp only [srcOf] at e
          cases q : rdL h1 i with
          | none => rw [q] at e; cases e
          | some ws =>
            rw [q] at e
            cases e
            obtain ⟨a, rfl, ha⟩ := p.obj_inv
            obtain ⟨vs, hq, r⟩ := rdL_to A1.rel ha q
            refine ⟨a, vs, rfl, .inl ⟨hq, n μ1 H1 _ (fun μ _ => μ[i]? = some a) g1 A1.rel ⟨fun μ H μ' H' g go => pre_at go.pre g, fun μ h H k w R g e => ?_, fun μ h H k R g e => ?_⟩ ha⟩⟩
            · simp only [sL, Option.map_map] at e
              cases q : rdL h i with
              | none => rw [q] at e; cases e
              | some ws =>
                rw [q] at e
                have e : (ws[k]?).map (fun x => Wv.tup [.int k, x]) = some w := Option.some.inj e
                obtain ⟨x, hx, rfl⟩ := Option.map_eq_some_iff.mp e
                obtain ⟨vs, hq, r⟩ := rdL_to R g q
                obtain ⟨v, hv, p⟩ := r.at hx
                refine ⟨⟨vs, v, hq, hv⟩, fun y H' ⟨T, x', e1, nT, e2, e3⟩ => ?_⟩
                subst e1 e2
                have := e3 vs hq
                rw [hv] at this
                cases this
                exact R.pair nT (.int _) p
            · simp only [sL, Option.map_map] at e
              cases q : rdL h i with
              | none => rw [q] at e; cases e
              | some ws =>
                rw [q] at e
                have e : (ws[k]?).map (fun x => Wv.tup [.int k, x]) = none := Option.some.inj e
                rw [Option.map_eq_none_iff] at e
                obtain ⟨vs, hq, r⟩ := rdL_to R g q
                exact ⟨vs, hq, r.none_at e⟩
        | tup ws =>
          cases e
          obtain ⟨a, vs, rfl, hq, r⟩ := p.tup_inv
          have lv := r.length
          refine ⟨a, vs, rfl, .inr ⟨hq, n μ1 H1 _ (fun μ H => ∃ vs, SqT X.K H a vs ∧ Rps (cfg X) μ H vs ws) g1 A1.rel ⟨fun μ H μ' H' ⟨vs, q, r⟩ go => ⟨vs, go.tk _ _ q, r.mv go⟩, fun μ h H k w R ⟨vs, hq, r⟩ e => ?_, fun μ h H k R ⟨vs, hq, r⟩ e => ?_⟩ ⟨vs, hq, r⟩⟩⟩
          · have e : (ws[k]?).map (fun x => Wv.tup [.int k, x]) = some w := Option.some.inj e
            obtain ⟨x, hx, rfl⟩ := Option.map_eq_some_iff.mp e
            obtain ⟨v, hv, p⟩ := r.at hx
            have ln := r.length
            refine ⟨⟨vs, hq, by omega, by have := (List.getElem?_eq_some_iff.mp hv).1; omega⟩, fun y H' ⟨T, nT, e1, x', e3, e2⟩ => ?_⟩
            subst e1 e2
            have := e3 vs hq
            rw [hv] at this
            cases this
            exact R.pair nT (.int _) p
          · have e : (ws[k]?).map (fun x => Wv.tup [.int k, x]) = none := Option.some.inj e
            rw [Option.map_eq_none_iff] at e
            have ln := r.length
            exact ⟨vs, hq, by omega, by have := r.none_at e; omega⟩
        | ptp ws =>
          cases e
          obtain ⟨a, vs, rfl, pq, r⟩ := p.ptp_inv
          have hq := pq.sq
          have lv := r.length
          refine ⟨a, vs, rfl, .inr ⟨hq, n μ1 H1 _ (fun μ H => ∃ vs, SqT X.K H a vs ∧ Rps (cfg X) μ H vs ws) g1 A1.rel ⟨fun μ H μ' H' ⟨vs, q, r⟩ go => ⟨vs, go.tk _ _ q, r.mv go⟩, fun μ h H k w R ⟨vs, hq, r⟩ e => ?_, fun μ h H k R ⟨vs, hq, r⟩ e => ?_⟩ ⟨vs, hq, r⟩⟩⟩
          · have e : (ws[k]?).map (fun x => Wv.tup [.int k, x]) = some w := Option.some.inj e
            obtain ⟨x, hx, rfl⟩ := Option.map_eq_some_iff.mp e
            obtain ⟨v, hv, p⟩ := r.at hx
            have ln := r.length
            refine ⟨⟨vs, hq, by omega, by have := (List.getElem?_eq_some_iff.mp hv).1; omega⟩, fun y H' ⟨T, nT, e1, x', e3, e2⟩ => ?_⟩
            subst e1 e2
            have := e3 vs hq
            rw [hv] at this
            cases this
            exact R.pair nT (.int _) p
          · have e : (ws[k]?).map (fun x => Wv.tup [.int k, x]) = none := Option.some.inj e
            rw [Option.map_eq_none_iff] at e
            have ln := r.length
            exact ⟨vs, hq, by omega, by have := r.none_at e; omega⟩
        | _ => cases e
    · cases e

def forM (src : Src) (g : GM) (b : SM) : Nat → Nat → SM
  | 0, _ => sNo
  | n + 1, k => fun ρ h => match src.at_ k h with
    | none => .no
    | some none => .ok (.nx, ρ) h
    | some (some w) => ((g w ρ).bind fun ρ1 => (b ρ1).bind fun r => match r.1 with
      | .nx => forM src g b n (k + 1) r.2
      | .ct => forM src g b n (k + 1) r.2
      | .bk => M.pure (.nx, r.2)
      | .ret w => M.pure (.ret w, r.2)
      | .xc x => M.pure (.xc x, r.2)) h
def sFor (i : IM) (g : GM) (b : SM) : SM := fun ρ => (i ρ).bind fun src => forM src g b (src.cnt + 1) 0 ρ
theorem ms_for {sl : List Nat} {tg iter : Expr} {body : List Stmt} {pos : Pos} {mi : IM} {g : GM} {b : SM} (hp : PassesOwn (model X.prog X.w) X.A X.env X.xe) (hc : X.calm = true) (hi : MI X tg iter mi) (hg : MG X sl tg g) (hb : MSs X body b)
    (hs : ∀ x, foldedSetIterable iter X.env x = pure x := by intro _; rfl) : MS X (.For tg iter body [] pos) (sFor mi g b) := PS.imp (ps_for hp hc hi hg hb hs) fun D σ H ⟨μ, ρ, h, fl, ρ', h', A, e, n⟩ => by
  obtain ⟨src, h1, e1, e⟩ := bind_ok e
  refine ⟨μ, ρ, h, src, h1, A, e1, fun μ1 H1 J G g1 R1 it hG => ?_⟩
  refine ⟨fun i m σ H => ∃ μ ρ h, At (cfg X) μ h H σ ρ ∧ G μ H ∧ forM src g b m i ρ h = .ok (fl, ρ') h' ∧ Ns (cfg X) μ H h' fl ρ' D, ⟨_, μ1, ρ, h1, A.go g1 R1, hG, e, n.after g1⟩, ?_⟩
  rintro i m σ2 H2 ⟨μ2, ρ2, h2, A2, G2, e2, n2⟩
  cases m with
  | zero => cases e2
  | succ m =>
    simp only [forM] at e2
    split at e2
    · cases e2
    · next q =>
      cases e2
      exact .inl ⟨it.stop _ _ _ _ A2.rel G2 q, n2.now A2⟩
    · next w q =>
      obtain ⟨go, yl⟩ := it.go _ _ _ _ _ A2.rel G2 q
      obtain ⟨ρ3, h3, e3, f3⟩ := bind_ok e2
      obtain ⟨⟨fl4, ρ4⟩, h4, e4, f4⟩ := bind_ok f3
      clear e2 f3
      refine .inr ⟨go, fun σ' H' => ∃ μ ρ h, At (cfg X) μ h H' σ' ρ ∧ G μ H' ∧ forM src g b m (i + 1) ρ h = .ok (fl, ρ') h' ∧ Ns (cfg X) μ H' h' fl ρ' D, fun σ' H' z => ⟨m, Nat.lt_succ_self m, z⟩, fun x H' y => ?_⟩
      obtain ⟨μ5, g5, R5, p5⟩ := yl x H' y
      refine ⟨μ5, ρ2, h2, w, ρ3, h3, A2.go g5 R5, p5, e3, fun μ6 σ6 H6 g6 A6 _ => ?_⟩
      refine ⟨μ6, ρ3, h3, fl4, ρ4, h4, A6, e4, fun μ7 σ7 H7 g7 A7 => ?_⟩
      have gg := g5.trans (g6.trans g7)
      cases fl4 with
      | nx => exact ⟨μ7, ρ4, h4, A7, it.keep _ _ _ _ G2 gg.toGw, f4, n2.after gg⟩
      | ct => exact ⟨μ7, ρ4, h4, A7, it.keep _ _ _ _ G2 gg.toGw, f4, n2.after gg⟩
      | bk => cases f4; exact (n2.after gg).now A7
      | ret w => cases f4; exact (n2.after gg).now A7
      | xc x => cases f4; exact (n2.after gg).now A7
def whileM (t : TM) (b : SM) : Nat → SM
  | 0 => sNo
  | n + 1 => fun ρ => (t ρ).bind fun k => if k = true then (b ρ).bind fun r => match r.1 with
      | .nx => whileM t b n r.2
      | .ct => whileM t b n r.2
      | .bk => M.pure (.nx, r.2)
      | .ret w => M.pure (.ret w, r.2)
      | .xc x => M.pure (.xc x, r.2)
    else M.pure (.nx, ρ)
end
end MM

set_option maxRecDepth 100000
set_option maxHeartbeats 4000000
namespace MM
open PySem PySem.Spec PyProof.Rows L2

def wipeM (ρ : Env) : List Nat → Env
  | [] => ρ
  | v :: vs => (wipeM ρ vs).set v none
theorem RpS.wipe {c : Cfg} {μ : List Addr} {H : Hp} {σ : L2.St} {ρ : Env} (r : RpS c μ H σ ρ) : ∀ vs : List Nat, RpS c μ H (L2.wipe σ vs) (wipeM ρ vs)
  | [] => r
  | v :: vs => RpS.set (v := none) (w := none) trivial v (RpS.wipe r vs)
structure Sd (c : Cfg) (μ1 : List Addr) (H1 : Hp) (D : Addr) (μ : List Addr) (H : Hp) : Prop where
  go : Go c μ1 H1 μ H
  out : D ∉ μ
theorem Sd.step {c : Cfg} {μ1 μ μ' : List Addr} {H1 H H' : Hp} {D : Addr} {o : HO} (s : Sd c μ1 H1 D μ H) (e : H D = some o) (g : Go c μ H μ' H') : Sd c μ1 H1 D μ' H' ∧ H' D = some o :=
  ⟨⟨s.go.trans g, fun z => by have := g.new D z s.out; rw [e] at this; cases this⟩, g.fr D o e s.out⟩
theorem Sd.turn {c : Cfg} {μ1 μ : List Addr} {h h1 : Hm} {H1 H : Hp} {D : Addr} {o u : HO} (s : Sd c μ1 H1 D μ H) (R1 : Rel c μ1 h1 H1) (n1 : H1 D = none) (R : Rel c μ h H) (e : H D = some o) (nt : ∀ xs, o ≠ .tup xs ∧ ∀ ob, o ≠ .frz ob (.tup xs)) (nf : ∀ ob u, o ≠ .frz ob u) :
    Sd c μ1 H1 D μ (upd H D u) ∧ Rel c μ h (upd H D u) ∧ Gw c μ H μ (upd H D u) := by
  have tk : ∀ a vs, SqT c.K H a vs → SqT c.K (upd H D u) a vs := fun a vs z => by
    rcases z with z | z
    · have na : a ≠ D := fun q => by
        subst q
        rcases z with z | ⟨ob, z⟩
        · rw [e] at z; exact (nt vs).1 (Option.some.inj z)
        · rw [e] at z; exact (nt vs).2 ob (Option.some.inj z)
      rcases z with z | ⟨ob, z⟩
      · exact .inl (.inl (by rw [upd_ne na]; exact z))
      · exact .inl (.inr ⟨ob, by rw [upd_ne na]; exact z⟩)
    · exact .inr z
  have tq : ∀ a vs, H a = some (.tup vs) → upd H D u a = some (.tup vs) := fun a vs z => by
    have na : a ≠ D := fun q => by subst q; rw [e] at z; exact (nt vs).1 (Option.some.inj z)
    rw [upd_ne na]; exact z
  have gw : Gw c μ H μ (upd H D u) := ⟨⟨List.prefix_refl _, tk, tq, fun a ob xs _ z => by
    have na : a ≠ D := fun q => by subst q; rw [e] at z; exact nf ob xs (Option.some.inj z)
    rw [upd_ne na]; exact z⟩, fun a ob v z => by
    have na : a ≠ D := fun q => by subst q; rw [e] at z; exact nf ob v (Option.some.inj z)
    rw [upd_ne na]; exact z⟩
  refine ⟨⟨⟨s.go.toGw.trans gw, fun a o z n => ?_, s.go.new⟩, s.out⟩, ⟨R.len, R.nd, fun i a o ha ho => ?_⟩, gw⟩
  · rw [upd_ne (ne_of_none z n1)]; exact s.go.fr a o z n
  · obtain ⟨v, ev, r⟩ := R.at_ i a o ha ho
    have na : a ≠ D := fun q => s.out (by rw [← q]; exact List.mem_of_getElem? ha)
    exact ⟨v, by rw [upd_ne na]; exact ev, r.mv gw⟩
theorem Sd.begin {c : Cfg} {μ : List Addr} {h : Hm} {H : Hp} {D : Addr} {u : HO} (R : Rel c μ h H) (n : H D = none) : Sd c μ H D μ (upd H D u) ∧ Rel c μ h (upd H D u) := by
  obtain ⟨g, R'⟩ := R.aside n (u := u)
  refine ⟨⟨g, fun z => ?_⟩, R'⟩
  obtain ⟨i, hi⟩ := List.getElem?_of_mem z
  have hl := (List.getElem?_eq_some_iff.mp hi).1
  rw [R.len] at hl
  obtain ⟨v, e, _⟩ := R.at_ i D _ hi (List.getElem?_eq_getElem hl)
  rw [n] at e; cases e
theorem Sd.done {c : Cfg} {μ1 μ : List Addr} {h : Hm} {H1 H : Hp} {D : Addr} {o : Ob} {u : HO} (s : Sd c μ1 H1 D μ H) (n1 : H1 D = none) (R : Rel c μ h H) (e : H D = some u) (hu : ∀ μ' H', Gw c μ H μ' H' → ObjU c μ' H' D o u) : Go c μ1 H1 (μ ++ [D]) H ∧ Rel c (μ ++ [D]) (h ++ [o]) H := by
  have gw : Gw c μ H (μ ++ [D]) H := ⟨⟨List.prefix_append _ _, fun _ _ z => z, fun _ _ z => z, fun _ _ _ _ z => z⟩, fun _ _ _ z => z⟩
  refine ⟨⟨s.go.toGw.trans gw, s.go.fr, fun a m n => ?_⟩, ⟨by rw [List.length_append, List.length_append, R.len]; rfl, List.nodup_append.mpr ⟨R.nd, by simp, fun a ha b hb z => by rw [List.mem_singleton.mp hb] at z; exact s.out (by rw [← z]; exact ha)⟩, fun i a o' ha ho => ?_⟩⟩
  · rcases List.mem_append.mp m with m | m
    · exact s.go.new a m n
    · rw [List.mem_singleton.mp m]; exact n1
  · by_cases hi : i < μ.length
    · rw [List.getElem?_append_left hi] at ha
      rw [List.getElem?_append_left (by rw [← R.len]; exact hi)] at ho
      obtain ⟨v, ev, r⟩ := R.at_ i a o' ha ho
      exact ⟨v, ev, r.mv gw⟩
    · have hl := (List.getElem?_eq_some_iff.mp ha).1
      rw [List.length_append, List.length_singleton] at hl
      have z : i = μ.length := by omega
      subst z
      rw [List.getElem?_append_right (Nat.le_refl _), Nat.sub_self] at ha
      rw [R.len, List.getElem?_append_right (Nat.le_refl _), Nat.sub_self] at ho
      cases ha
      cases ho
      exact ⟨u, e, hu _ _ gw⟩
theorem Nx.made {c : Cfg} {μ1 μ : List Addr} {h : Hm} {H1 H : Hp} {D : Addr} {o : Ob} {u : HO} {Q : VK} (n : Nx c μ1 H1 (h ++ [o]) (.obj h.length) Q) (s : Sd c μ1 H1 D μ H) (n1 : H1 D = none) (R : Rel c μ h H) (e : H D = some u) (hu : ∀ μ' H', Gw c μ H μ' H' → ObjU c μ' H' D o u) : Q (.ref D) H := by
  obtain ⟨g, R'⟩ := s.done n1 R e hu
  exact n _ _ _ g R' (.obj (by rw [← R.len]; simp))
def PTs.imp {X : Cx} {ifs : List Expr} {t t' : TT} (p : PTs X ifs t) (f : ∀ σ H Q, t' σ H Q → t σ H Q) : PTs X ifs t' := ⟨fun pins s σ H Q I h => p.run pins s σ H Q I (f σ H Q h)⟩
abbrev MTs (X : Cx) (ifs : List Expr) (m : TM) : Prop := PTs X ifs (mT (cfg X) m)
def tYesM : TM := fun _ h => .ok true h
section
variable {X : Cx}
theorem mts_nil : MTs X [] tYesM := PTs.imp pts_nil fun σ H Q ⟨μ, ρ, h, b, h', A, e, n⟩ => by
  cases e
  exact n.now A.rel
def lcM (src : Src) (vs : List Nat) (g : GM) (t : TM) (e : EM) (ρ : Env) : Nat → Nat → List Wv → M (List Wv)
  | 0, _, _ => M.no
  | n + 1, k, acc => fun h => match src.at_ k h with
    | none => .no
    | some none => .ok acc h
    | some (some w) => ((g w (wipeM ρ vs)).bind fun ρ1 => (t ρ1).bind fun b => if b = true then (e ρ1).bind fun y => if acc.length < sizeLine then lcM src vs g t e ρ n (k + 1) (acc ++ [y]) else M.no
        else lcM src vs g t e ρ n (k + 1) acc) h
def eLc (i : IM) (vs : List Nat) (g : GM) (t : TM) (e : EM) : EM := fun ρ => (i ρ).bind fun src => (lcM src vs g t e ρ (src.cnt + 1) 0 []).bind fun ws => lay (.lst ws)
theorem ifD_ok {α : Type} {P : Prop} [Decidable P] {m : M α} {h : Hm} {a : α} {h' : Hm} (e : (if P then m else M.no) h = .ok a h') : P ∧ m h = .ok a h' := by
  by_cases p : P
  · rw [if_pos p] at e; exact ⟨p, e⟩
  · rw [if_neg p] at e; cases e
theorem lay_ok {o : Ob} {h h' : Hm} {w : Wv} (e : lay o h = .ok w h') : w = .obj h.length ∧ h' = h ++ [o] := by cases e; exact ⟨rfl, rfl⟩
theorem eLc_to {c : Cfg} {mi : IM} {sl : List Nat} {g : GM} {t : TM} {m : EM} {σ : L2.St} {H : Hp} {Q : VK} (z : mE c (eLc mi sl g t m) σ H Q) : tLc (iM c mi) (mG c sl g) (mT c t) (mE c m) sl σ H Q := by
  obtain ⟨μ, ρ, h, w, h', A, e, n⟩ := z
  obtain ⟨src, h1, e1, f1⟩ := bind_ok e
  obtain ⟨ws, h2, e2, f2⟩ := bind_ok f1
  clear e f1
  obtain ⟨rfl, rfl⟩ := lay_ok f2
  refine ⟨μ, ρ, h, src, h1, A, e1, fun μ1 H1 J G g1 R1 it hG D nD => ?_⟩
  have A1 := A.go g1 R1
  have n1 := n.after g1
  obtain ⟨sd, R2⟩ := Sd.begin R1 nD (u := .lst [])
  refine ⟨fun i k H' => ∃ μ' h' acc av, Sd c μ1 H1 D μ' H' ∧ Rel c μ' h' H' ∧ G μ' H' ∧ H' D = some (.lst av) ∧ Rps c μ' H' av acc ∧ lcM src sl g t m ρ k i acc h' = .ok ws h2, ⟨_, μ1, h1, [], [], sd, R2, it.keep _ _ _ _ hG (R1.aside nD).1.toGw, upd_same, .nil, e2⟩, ?_⟩
  rintro i k H3 ⟨μ3, h3, acc, av, s3, R3, G3, d3, p3, e3⟩
  cases k with
  | zero => cases e3
  | succ k =>
    simp only [lcM] at e3
    split at e3
    · cases e3
    · next q =>
      cases e3
      exact .inl ⟨it.stop _ _ _ _ R3 G3 q, n1.made s3 nD R3 d3 fun _ _ g => ⟨av, rfl, p3.mv g⟩⟩
    · next w q =>
      obtain ⟨go, yl⟩ := it.go _ _ _ _ _ R3 G3 q
      obtain ⟨ρ4, h4, e4, f4⟩ := bind_ok e3
      obtain ⟨b, h5, e5, f5⟩ := bind_ok f4
      clear e3 f4
      refine .inr ⟨go, fun H' => ∃ μ' h' acc av, Sd c μ1 H1 D μ' H' ∧ Rel c μ' h' H' ∧ G μ' H' ∧ H' D = some (.lst av) ∧ Rps c μ' H' av acc ∧ lcM src sl g t m ρ k (i + 1) acc h' = .ok ws h2, fun H' z => ⟨k, Nat.lt_succ_self k, z⟩, fun x H4 y => ?_⟩
      obtain ⟨μ4, g4, R4, px⟩ := yl x H4 y
      obtain ⟨s4, d4⟩ := s3.step d3 g4
      refine ⟨μ4, wipeM ρ sl, h3, w, ρ4, h4, ⟨R4, (A1.sl.go s4.go).wipe sl⟩, px, e4, fun μ5 σ5 H5 g5 A5 w5 => ⟨?_, ?_⟩⟩
      · rw [w5]
        have idem : ∀ (vs : List Nat) (σ : L2.St), wipe (wipe σ vs) vs = wipe σ vs := fun vs σ => by
          have : ∀ ws : List Nat, (∀ v ∈ ws, v ∈ vs) → wipe (wipe σ ws) vs = wipe σ vs := by
            intro ws
            induction ws with
            | nil => intro _; rfl
            | cons v ws ih =>
              intro hv
              show wipe ((wipe σ ws).set v none) vs = _
              rw [wipe_in (hv v List.mem_cons_self)]
              exact ih fun u hu => hv u (List.mem_cons_of_mem _ hu)
          exact this vs fun _ h => h
        exact idem sl σ
      · obtain ⟨s5, d5⟩ := s4.step d4 g5
        refine mT_first A5 e5 fun μ6 H6 g6 A6 => ?_
        obtain ⟨s6, d6⟩ := s5.step d5 g6
        have G6 := it.keep _ _ _ _ G3 (g4.trans (g5.trans g6)).toGw
        have p6 := ((p3.go g4).go g5).go g6
        cases b with
        | false => exact ⟨μ6, h5, acc, av, s6, A6.rel, G6, d6, p6, f5⟩
        | true =>
          rw [if_pos rfl] at f5 ⊢
          obtain ⟨y, h7, e7, f7⟩ := bind_ok f5
          obtain ⟨sz, f7⟩ := ifD_ok f7
          refine mE_first A6 e7 fun μ7 v H7 g7 A7 p7 => ?_
          obtain ⟨s7, d7⟩ := s6.step d6 g7
          have q7 := p6.go g7
          refine ⟨av, d7, by rw [q7.length]; exact sz, ?_⟩
          obtain ⟨s8, R8, gw⟩ := s7.turn (u := .lst (av ++ [v])) R1 nD A7.rel d7 (fun xs => ⟨(fun z => by cases z), (fun ob z => by cases z)⟩) (fun ob u z => by cases z)
          exact ⟨μ7, h7, acc ++ [y], av ++ [v], s8, R8, it.keep _ _ _ _ G6 (g7.toGw.trans gw), upd_same, (q7.mv gw).append (.cons (p7.mv gw) .nil), f7⟩
theorem me_lc {elt tg iter : Expr} {ifs : List Expr} {scope : Scope} {own : List (PySem.Str × Nat)} {pos : Pos} {mi : IM} {sl : List Nat} {g : GM} {t : TM} {m : EM} (hc : X.calm = true) (hN : X.N.Nodup) (hi : MI X tg iter mi) (ok : BlkOk X.N X.env.scope scope own) (hsl : own.map (·.2) = sl)
    (hg : ∀ (s : Shared) (H : Hp) (C : Addr) (cl : List (PySem.Str × Addr)) (fp : List Addr), MG (X.blk s H scope (compEnvC scope cl C X.env) fp) sl tg g) (ht : ∀ (s : Shared) (H : Hp) (C : Addr) (cl : List (PySem.Str × Addr)) (fp : List Addr), MTs (X.blk s H scope (compEnvC scope cl C X.env) fp) ifs t)
    (he : ∀ (s : Shared) (H : Hp) (C : Addr) (cl : List (PySem.Str × Addr)) (fp : List Addr), ME (X.blk s H scope (compEnvC scope cl C X.env) fp) elt m) (hs : ∀ x, foldedSetIterable iter X.env x = pure x := by intro _; rfl) :
    ME X (.ListComp elt [⟨tg, iter, ifs, 0⟩] scope pos) (eLc mi sl g t m) := by
  subst hsl
  exact PE.imp (pe_lc (g := mG (cfg X) _ g) (tt := mT (cfg X) t) (te := mE (cfg X) m) hc hN hi ok hg ht he hs) fun _ _ _ z => eLc_to z
theorem ms_setLc {i : Nat} {y : PySem.Str} {py : Pos} {elt tg iter : Expr} {ifs : List Expr} {scope : Scope} {own : List (PySem.Str × Nat)} {pos spos : Pos} {mi : IM} {sl : List Nat} {g : GM} {t : TM} {m : EM} (hc : X.calm = true) (hN : X.N.Nodup) (hy : X.N[i]? = some y) (hyl : X.env.scope.names.lookup y = some .local)
    (hsw : swapsWith (.ListComp elt [⟨tg, iter, ifs, 0⟩] scope pos) (some (.Name y py)) spos.line X.env = pure true) (hi : MI X tg iter mi) (ok : BlkOk X.N X.env.scope scope own) (hsl : own.map (·.2) = sl)
    (hg : ∀ (s : Shared) (H : Hp) (C : Addr) (cl : List (PySem.Str × Addr)) (fp : List Addr), MG (X.blk s H scope (compEnvC scope cl C X.env) fp) sl tg g) (ht : ∀ (s : Shared) (H : Hp) (C : Addr) (cl : List (PySem.Str × Addr)) (fp : List Addr), MTs (X.blk s H scope (compEnvC scope cl C X.env) fp) ifs t)
    (he : ∀ (s : Shared) (H : Hp) (C : Addr) (cl : List (PySem.Str × Addr)) (fp : List Addr), ME (X.blk s H scope (compEnvC scope cl C X.env) fp) elt m) (hs : ∀ x, foldedSetIterable iter X.env x = pure x := by intro _; rfl) :
    MS X (.Assign [.Name y py] (.ListComp elt [⟨tg, iter, ifs, 0⟩] scope pos) spos) (sSet i (eLc mi sl g t m)) := by
  subst hsl
  refine PS.imp (ps_setLc (g := mG (cfg X) _ g) (tt := mT (cfg X) t) (te := mE (cfg X) m) hc hN hy hyl hsw hi ok hg ht he hs) fun D σ H z => ?_
  have := sSet_to z
  exact eLc_to this
end
end MM

set_option maxRecDepth 100000
set_option maxHeartbeats 4000000
namespace MM
open PySem PySem.Spec PyProof.Rows L2

def dat (h : Hm) : Nat → Wv → Option PyData
  | 0, _ => none
  | _ + 1, .non => some .none
  | _ + 1, .bl b => some (.bool b)
  | _ + 1, .int i => some (.int i)
  | _ + 1, .str x => some (.str x)
  | n + 1, .tup ws => (ws.mapM (dat h n)).map .tuple
  | n + 1, .ptp ws => (ws.mapM (dat h n)).map .tuple
  | n + 1, .obj i => match rdL h i with
    | some ws => (ws.mapM (dat h n)).map .list
    | none => none
  | _ + 1, .scr ns => some (.list (ns.map .int))
  | _ + 1, _ => none
theorem mapM_some {α β : Type} {f : α → Option β} {a : α} {as : List α} {bs : List β} (e : (a :: as).mapM f = some bs) : ∃ b bs', f a = some b ∧ as.mapM f = some bs' ∧ bs = b :: bs' := by
  rw [List.mapM_cons] at e
  cases q : f a with
  | none => rw [q] at e; cases e
  | some b =>
    rw [q] at e
    cases q2 : as.mapM f with
    | none => rw [q2] at e; cases e
    | some bs' => rw [q2] at e; cases e; exact ⟨b, bs', rfl, rfl, rfl⟩
theorem dp_intsM {K : PySem.W.Frag} {H : Hp} : ∀ ns : List Int, DpAll K H (ns.map V.int) (ns.map PyData.int)
  | [] => .nil
  | n :: ns => .cons (.int n) (dp_intsM ns)
theorem dat_to {c : Cfg} {μ : List Addr} {h : Hm} {H : Hp} (R : Rel c μ h H) : ∀ {n : Nat} {w : Wv} {v : V} {d : PyData}, Rp c μ H v w → dat h n w = some d → Dp c.K H v d := by
  intro n
  induction n with
  | zero => intro w v d p e; cases e
  | succ n ih =>
    have all : ∀ {ws : List Wv} {vs : List V} {ds : List PyData}, Rps c μ H vs ws → ws.mapM (dat h n) = some ds → DpAll c.K H vs ds := by
      intro ws
      induction ws with
      | nil => intro vs ds r e; cases r; simp at e; subst e; exact .nil
      | cons w ws iw =>
        intro vs ds r e
        cases r with
        | cons p t =>
          obtain ⟨d, ds', e1, e2, rfl⟩ := mapM_some e
          exact .cons (ih p e1) (iw t e2)
    intro w v d p e
    cases p with
    | non => cases e; exact .non
    | bl b => cases e; exact .bl b
    | int i => cases e; exact .int i
    | str x => cases e; exact .str x
    | @tup a vs ws q r =>
      have e : (ws.mapM (dat h n)).map PyData.tuple = some d := e
      obtain ⟨ds, e1, rfl⟩ := Option.map_eq_some_iff.mp e
      exact .tup (.of q) (all r e1)
    | @obj a i ha =>
      simp only [dat] at e
      cases q : rdL h i with
      | none => rw [q] at e; cases e
      | some ws =>
        rw [q] at e
        obtain ⟨ds, e1, rfl⟩ := Option.map_eq_some_iff.mp e
        obtain ⟨vs, hq, r⟩ := rdL_to R ha q
        exact .lst hq (all r e1)
    | glob _ => cases e
    | raw _ => cases e
    | @scr a ns hs =>
      cases e
      exact .lst hs.sq (dp_intsM ns)
    | @ptp a vs ws q r =>
      have e : (ws.mapM (dat h n)).map PyData.tuple = some d := e
      obtain ⟨ds, e1, rfl⟩ := Option.map_eq_some_iff.mp e
      exact .tup q.sq (all r e1)

def intM (f : Int → Int → M Wv) : F2 := fun a b => match a, b with
  | .int i, .int j => f i j
  | _, _ => M.no
theorem intM_ok {f : Int → Int → M Wv} {a b w : Wv} {h h' : Hm} (e : intM f a b h = .ok w h') : ∃ i j, a = .int i ∧ b = .int j ∧ f i j h = .ok w h' := by
  unfold intM at e
  split at e
  · exact ⟨_, _, rfl, rfl, e⟩
  · cases e
def pI (g : Int → Int → Wv) : F2 := intM fun i j => M.pure (g i j)
def pIc (C : Int → Int → Bool) (g : Int → Int → Wv) : F2 := intM fun i j => if C i j = true then M.pure (g i j) else M.no
theorem lop_int {c : Cfg} {g : Int → Int → Int} : LOp c (pI fun i j => .int (g i j)) (rI0 fun i j => .int (g i j)) := by
  intro μ h H v1 v2 w1 w2 w h' Q R p1 p2 e n
  obtain ⟨i, j, rfl, rfl, e⟩ := intM_ok e
  cases e
  exact ⟨i, j, p1.int_inv, p2.int_inv, n.now R (.int _)⟩
theorem lop_cmpI {c : Cfg} {g : Int → Int → Bool} : LOp c (pI fun i j => .bl (g i j)) (rI0 fun i j => .bl (g i j)) := by
  intro μ h H v1 v2 w1 w2 w h' Q R p1 p2 e n
  obtain ⟨i, j, rfl, rfl, e⟩ := intM_ok e
  cases e
  exact ⟨i, j, p1.int_inv, p2.int_inv, n.now R (.bl _)⟩
theorem lop_intC {c : Cfg} {C : Int → Int → Prop} {B : Int → Int → Bool} {g : Int → Int → Int} (hB : ∀ i j, B i j = true → C i j) : LOp c (pIc B fun i j => .int (g i j)) (rI C fun i j => .int (g i j)) := by
  intro μ h H v1 v2 w1 w2 w h' Q R p1 p2 e n
  obtain ⟨i, j, rfl, rfl, e⟩ := intM_ok e
  obtain ⟨b, e⟩ := if_ok e
  cases e
  exact ⟨i, j, p1.int_inv, p2.int_inv, hB i j b, n.now R (.int _)⟩
def subM : F2 := pI fun i j => .int (i - j)
def bMul (i j : Int) : Bool := decide (i.natAbs < 2 ^ 64) || (decide (j.natAbs < 2 ^ 64) || decide (i.natAbs.log2 + j.natAbs.log2 < 1000000))
def bDiv (_ j : Int) : Bool := decide (0 < j) && decide (j.natAbs.log2 < 9000)
def bPow (i j : Int) : Bool := decide (0 ≤ j) && decide (j ≤ 1000000) && decide (i.natAbs < 2 ^ 64)
def fdivM : F2 := pIc bDiv fun i j => .int (i / j)
def modM : F2 := pIc (fun _ j => decide (0 < j)) fun i j => .int (i % j)
def powM : F2 := pIc bPow fun i j => .int (i ^ j.toNat)
def ltI : F2 := pI fun i j => .bl (decide (i < j))
def leI : F2 := pI fun i j => .bl (decide (i ≤ j))
def gtI : F2 := pI fun i j => .bl (decide (j < i))
def geI : F2 := pI fun i j => .bl (decide (j ≤ i))
section
variable {X : Cx} {a b : Expr} {pos : Pos} {ma mb : EM}
theorem me_sub (ha : ME X a ma) (hb : ME X b mb) : ME X (.BinOp a .Sub b pos) (eOp subM ma mb) := me_op op_sub lop_int ha hb
theorem me_fdiv (ha : ME X a ma) (hb : ME X b mb) : ME X (.BinOp a .FloorDiv b pos) (eOp fdivM ma mb) := me_op op_fdivW (lop_intC fun i j h => by
  unfold bDiv at h
  rw [Bool.and_eq_true, decide_eq_true_eq, decide_eq_true_eq] at h
  exact h) ha hb
theorem me_mod (ha : ME X a ma) (hb : ME X b mb) : ME X (.BinOp a .Mod b pos) (eOp modM ma mb) := me_op op_mod (lop_intC fun i j h => of_decide_eq_true h) ha hb
theorem me_pow (ha : ME X a ma) (hb : ME X b mb) : ME X (.BinOp a .Pow b pos) (eOp powM ma mb) := me_op op_pow (lop_intC fun i j h => by
  unfold bPow at h
  rw [Bool.and_eq_true, Bool.and_eq_true, decide_eq_true_eq, decide_eq_true_eq, decide_eq_true_eq] at h
  exact ⟨h.1.1, h.1.2, h.2⟩) ha hb

def lstOf (h : Hm) (i : Nat) : Option (List Wv) := match h[i]? with
  | some (.lst ws) => some ws
  | _ => none
theorem lstOf_to {c : Cfg} {μ : List Addr} {h : Hm} {H : Hp} {i : Nat} {ws : List Wv} {a : Addr} (R : Rel c μ h H) (ha : μ[i]? = some a) (e : lstOf h i = some ws) : ∃ vs, H a = some (.lst vs) ∧ Rps c μ H vs ws := by
  unfold lstOf at e
  split at e
  · next ws' q =>
    cases e
    obtain ⟨u, hu, vs, rfl, r⟩ := R.get ha q
    exact ⟨vs, hu, r⟩
  · cases e
def addM : F2 := fun a b => match a, b with
  | .int i, .int j => M.pure (.int (i + j))
  | .str x, .str y => if x.length + y.length ≤ sizeLine then M.pure (.str (x ++ y)) else M.no
  | .tup xs, .tup ys => if xs.length + ys.length ≤ sizeLine then M.pure (.tup (xs ++ ys)) else M.no
  | .obj i, .obj j => fun h => match lstOf h i, lstOf h j with
    | some xs, some ys => if xs.length + ys.length ≤ sizeLine then lay (.lst (xs ++ ys)) h else .no
    | _, _ => .no
  | _, _ => M.no
theorem Rps.nil_iff {c : Cfg} {μ : List Addr} {H : Hp} {vs : List V} {ws : List Wv} (r : Rps c μ H vs ws) : vs = [] ↔ ws = [] := by cases r <;> simp
theorem ifD_ok' {α : Type} {P : Prop} [Decidable P] {m : Out α} {a : α} {h' : Hm} (e : (if P then m else .no) = .ok a h') : P ∧ m = .ok a h' := by
  by_cases p : P
  · rw [if_pos p] at e; exact ⟨p, e⟩
  · rw [if_neg p] at e; cases e
theorem me_add (ha : ME X a ma) (hb : ME X b mb) : ME X (.BinOp a .Add b pos) (eOp addM ma mb) := me_op (((op_add.or op_add_str).or op_catA).or op_cat) (by
  intro μ h H v1 v2 w1 w2 w h' Q R p1 p2 e n
  unfold addM at e
  split at e
  · next i j =>
    cases e
    exact .inl (.inl (.inl ⟨i, j, p1.int_inv, p2.int_inv, n.now R (.int _)⟩))
  · next x y =>
    obtain ⟨l, e⟩ := ifD_ok e
    cases e
    exact .inl (.inl (.inr ⟨x, y, p1.str_inv, p2.str_inv, l, n.now R (.str _)⟩))
  · next xs ys =>
    obtain ⟨l, e⟩ := ifD_ok e
    cases e
    obtain ⟨a1, vs, rfl, q1, r1⟩ := p1.tup_at
    obtain ⟨a2, us, rfl, q2, r2⟩ := p2.tup_at
    refine .inl (.inr ⟨a1, a2, vs, us, rfl, rfl, .of q1, .of q2, by rw [r1.length, r2.length]; exact l, fun z => ?_, fun _ z => ?_, fun _ _ p np => n.tup R (r1.append r2) np⟩)
    · have := r1.nil_iff.mp z
      subst this
      exact n.now R (.tup q2 r2)
    · have := r2.nil_iff.mp z
      subst this
      rw [List.append_nil] at n
      exact n.now R (.tup q1 r1)
  · next i j =>
    split at e
    · next xs ys ex ey =>
      obtain ⟨l, e⟩ := ifD_ok' e
      obtain ⟨rfl, rfl⟩ := lay_ok e
      obtain ⟨a1, rfl, h1⟩ := p1.obj_inv
      obtain ⟨a2, rfl, h2⟩ := p2.obj_inv
      obtain ⟨vs, q1, r1⟩ := lstOf_to R h1 ex
      obtain ⟨us, q2, r2⟩ := lstOf_to R h2 ey
      exact .inr ⟨a1, a2, vs, us, rfl, rfl, q1, q2, by rw [r1.length, r2.length]; exact l, fun p np => n.lay R np fun _ _ g => ⟨_, rfl, (r1.append r2).mv g⟩⟩
    · cases e
  · cases e) ha hb
def mulM : F2 := fun a b => match a, b with
  | .int i, .int j => if bMul i j = true then M.pure (.int (i * j)) else M.no
  | .obj i, .int k => fun h => match lstOf h i with
    | some ws => if -(2 ^ 63) ≤ k ∧ k < 2 ^ 63 ∧ ws.length * k.toNat ≤ sizeLine then lay (.lst (List.replicate k.toNat ws).flatten) h else .no
    | none => .no
  | _, _ => M.no
theorem Rps.flat {c : Cfg} {μ : List Addr} {H : Hp} {vs : List V} {ws : List Wv} (r : Rps c μ H vs ws) : ∀ n, Rps c μ H (List.replicate n vs).flatten (List.replicate n ws).flatten
  | 0 => .nil
  | n + 1 => by rw [List.replicate_succ, List.replicate_succ, List.flatten_cons, List.flatten_cons]; exact r.append (r.flat n)
theorem me_mul (ha : ME X a ma) (hb : ME X b mb) : ME X (.BinOp a .Mult b pos) (eOp mulM ma mb) := me_op ((op_mulW.or op_mul).or op_rep) (by
  intro μ h H v1 v2 w1 w2 w h' Q R p1 p2 e n
  unfold mulM at e
  split at e
  · next i j =>
    obtain ⟨b, e⟩ := if_ok e
    cases e
    unfold bMul at b
    rcases Bool.or_eq_true_iff.mp b with b | b
    · have b := of_decide_eq_true b
      exact .inl (.inr ⟨i, j, p1.int_inv, p2.int_inv, .inl (by omega), n.now R (.int _)⟩)
    · rcases Bool.or_eq_true_iff.mp b with b | b
      · have b := of_decide_eq_true b
        exact .inl (.inr ⟨i, j, p1.int_inv, p2.int_inv, .inr (by omega), n.now R (.int _)⟩)
      · exact .inl (.inl ⟨i, j, p1.int_inv, p2.int_inv, (show i.natAbs.log2 + j.natAbs.log2 < 1000000 from of_decide_eq_true b), n.now R (.int _)⟩)
  · next i k =>
    split at e
    · next ws ex =>
      obtain ⟨⟨l1, l2, l3⟩, e⟩ := ifD_ok' e
      obtain ⟨rfl, rfl⟩ := lay_ok e
      obtain ⟨a1, rfl, h1⟩ := p1.obj_inv
      obtain ⟨vs, q1, r1⟩ := lstOf_to R h1 ex
      exact .inr ⟨a1, k, vs, rfl, p2.int_inv, q1, l1, l2, by rw [r1.length]; exact l3, fun p np => n.lay R np fun _ _ g => ⟨_, rfl, (r1.flat _).mv g⟩⟩
    · cases e
  · cases e) ha hb

theorem me_gt (ha : ME X a ma) (hb : ME X b mb) : ME X (.Compare a [.Gt] [b] pos) (eOp gtI ma mb) := me_cmp op_gt lop_cmpI ha hb (nomark _)
theorem me_ge (ha : ME X a ma) (hb : ME X b mb) : ME X (.Compare a [.GtE] [b] pos) (eOp geI ma mb) := me_cmp op_ge lop_cmpI ha hb (nomark _)
theorem mt_gt (ha : ME X a ma) (hb : ME X b mb) : MT X (.Compare a [.Gt] [b] pos) (tOf (eOp gtI ma mb)) := mt_cmp op_gt lop_cmpI ha hb (nomark _)
theorem mt_ge (ha : ME X a ma) (hb : ME X b mb) : MT X (.Compare a [.GtE] [b] pos) (tOf (eOp geI ma mb)) := mt_cmp op_ge lop_cmpI ha hb (nomark _)
theorem me_lele {d : Expr} {md : EM} (ha : ME X a ma) (hb : ME X b mb) (hd : ME X d md) (hm : lastMarks [.LtE, .LtE] [b, d] = false := by with_unfolding_all rfl) : ME X (.Compare a [.LtE, .LtE] [b, d] pos) (eCh leI leI ma mb md) := me_chain op_le lop_cmpI op_le lop_cmpI ha hb hd hm
theorem mt_lele {d : Expr} {md : EM} (ha : ME X a ma) (hb : ME X b mb) (hd : ME X d md) (hm : lastMarks [.LtE, .LtE] [b, d] = false := by with_unfolding_all rfl) : MT X (.Compare a [.LtE, .LtE] [b, d] pos) (tOf (eCh leI leI ma mb md)) := mt_chain op_le lop_cmpI op_le lop_cmpI ha hb hd hm
def eqB (neg : Bool) : F2 := fun a b h => match a, b with
  | .int i, .int j => .ok (.bl (if neg then !decide (i = j) else decide (i = j))) h
  | .str x, .str y => .ok (.bl (if neg then !decide (x = y) else decide (x = y))) h
  | .bl x, .bl y => .ok (.bl (if neg then !decide (x = y) else decide (x = y))) h
  | a, b => match dat h 60 a, dat h 60 b with
    | some d, some e => if (SeqAt.shaped d && SeqAt.shaped e) = true then .ok (.bl (if neg then !PyData.eqv d e else PyData.eqv d e)) h else .no
    | _, _ => .no
theorem lop_eq {c : Cfg} : LOp c (eqB false) (fun x y H Q => rEq x y H Q ∨ rEqD c.K x y H Q) := by
  intro μ h H v1 v2 w1 w2 w h' Q R p1 p2 e n
  unfold eqB at e
  split at e
  · next i j =>
    cases e
    obtain rfl := p1.int_inv
    obtain rfl := p2.int_inv
    exact .inl ⟨rfl, by have := n.now R (.bl _); simpa using this⟩
  · next i j =>
    cases e
    obtain rfl := p1.str_inv
    obtain rfl := p2.str_inv
    exact .inl ⟨rfl, by have := n.now R (.bl _); simpa using this⟩
  · next i j =>
    cases e
    obtain rfl := p1.bl_inv
    obtain rfl := p2.bl_inv
    exact .inl ⟨rfl, by have := n.now R (.bl _); simpa using this⟩
  · try simp only at e
    split at e
    · next d e' ed ee =>
      by_cases b : (SeqAt.shaped d && SeqAt.shaped e') = true
      · rw [if_pos b] at e
        cases e
        rw [Bool.and_eq_true] at b
        exact .inr ⟨d, e', dat_to R p1 ed, dat_to R p2 ee, b.1, b.2, n.now R (.bl _)⟩
      · rw [if_neg b] at e; cases e
    · cases e
theorem lop_ne {c : Cfg} : LOp c (eqB true) (fun x y H Q => rNe x y H Q ∨ rNeD c.K x y H Q) := by
  intro μ h H v1 v2 w1 w2 w h' Q R p1 p2 e n
  unfold eqB at e
  split at e
  · next i j =>
    cases e
    obtain rfl := p1.int_inv
    obtain rfl := p2.int_inv
    exact .inl ⟨rfl, by have := n.now R (.bl _); simpa using this⟩
  · next i j =>
    cases e
    obtain rfl := p1.str_inv
    obtain rfl := p2.str_inv
    exact .inl ⟨rfl, by have := n.now R (.bl _); simpa using this⟩
  · next i j =>
    cases e
    obtain rfl := p1.bl_inv
    obtain rfl := p2.bl_inv
    exact .inl ⟨rfl, by have := n.now R (.bl _); simpa using this⟩
  · try simp only at e
    split at e
    · next d e' ed ee =>
      by_cases b : (SeqAt.shaped d && SeqAt.shaped e') = true
      · rw [if_pos b] at e
        cases e
        rw [Bool.and_eq_true] at b
        exact .inr ⟨d, e', dat_to R p1 ed, dat_to R p2 ee, b.1, b.2, n.now R (.bl _)⟩
      · rw [if_neg b] at e; cases e
    · cases e
theorem me_eq (hu : X.A.units + 64 < cLine) (ha : ME X a ma) (hb : ME X b mb) : ME X (.Compare a [.Eq] [b] pos) (eOp (eqB false) ma mb) := me_cmp (op_eq.or (op_eqD hu)) lop_eq ha hb (nomark _)
theorem mt_eq (hu : X.A.units + 64 < cLine) (ha : ME X a ma) (hb : ME X b mb) : MT X (.Compare a [.Eq] [b] pos) (tOf (eOp (eqB false) ma mb)) := mt_cmp (op_eq.or (op_eqD hu)) lop_eq ha hb (nomark _)
theorem mt_ne (hu : X.A.units + 64 < cLine) (ha : ME X a ma) (hb : ME X b mb) : MT X (.Compare a [.NotEq] [b] pos) (tOf (eOp (eqB true) ma mb)) := mt_cmp (op_ne.or (op_neD hu)) lop_ne ha hb (nomark _)
def isNB (neg : Bool) : F2 := fun a b => match b with
  | .non => match a with
    | .non => M.pure (.bl (!neg))
    | .raw _ => M.no
    | _ => M.pure (.bl neg)
  | _ => M.no
theorem lop_isN {c : Cfg} : LOp c (isNB false) (fun x y H Q => y = .non ∧ Q (.bl (decide (x = .non))) H) := by
  intro μ h H v1 v2 w1 w2 w h' Q R p1 p2 e n
  unfold isNB at e
  cases w2 with
  | non =>
    refine ⟨p2.non_inv, ?_⟩
    cases p1 <;> first | (cases e; exact n.now R (.bl _)) | (cases e)
  | _ => cases e
theorem me_isN (ha : ME X a ma) (hb : ME X b mb) : ME X (.Compare a [.Is] [b] pos) (eOp (isNB false) ma mb) := me_cmp op_isN lop_isN ha hb (nomark _)
theorem mt_isN (ha : ME X a ma) (hb : ME X b mb) : MT X (.Compare a [.Is] [b] pos) (tOf (eOp (isNB false) ma mb)) := mt_cmp op_isN lop_isN ha hb (nomark _)
end
end MM

set_option maxRecDepth 100000
set_option maxHeartbeats 4000000
namespace MM
open PySem PySem.Spec PyProof.Rows L2

def ixM : F2 := fun a b h => match a, b with
  | .tup ws, .int i => match atI ws i with
    | some w => .ok w h
    | none => .no
  | .obj k, .int i => match rdL h k with
    | some ws => match atI ws i with
      | some w => .ok w h
      | none => .no
    | none => .no
  | .str z, .int i => match atI z.cps.toList i with
    | some ch => if z.length ≤ sizeLine then .ok (.str ⟨#[ch]⟩) h else .no
    | none => .no
  | .scr ns, .int i => match atI ns i with
    | some n => .ok (.int n) h
    | none => .no
  | _, _ => .no
theorem Rps.atI {c : Cfg} {μ : List Addr} {H : Hp} {vs : List V} {ws : List Wv} {i : Int} {w : Wv} (r : Rps c μ H vs ws) (e : L2.atI ws i = some w) : ∃ v, L2.atI vs i = some v ∧ Rp c μ H v w := by
  unfold L2.atI at e ⊢
  rw [r.length]
  cases q : ixN ws.length i with
  | none => rw [q] at e; cases e
  | some j => rw [q] at e; exact r.at e
theorem lop_ix {c : Cfg} : LOp c ixM (fun x y H Q => (rIxT c.K x y H Q ∨ rIxL c.K x y H Q) ∨ rIxS x y H Q) := by
  intro μ h H v1 v2 w1 w2 w h' Q R p1 p2 e n
  unfold ixM at e
  split at e
  · next ws i =>
    split at e
    · next w' q =>
      cases e
      obtain ⟨a, vs, rfl, hq, r⟩ := p1.tup_inv
      obtain ⟨v, hv, pv⟩ := r.atI q
      exact .inl (.inl ⟨a, vs, i, v, rfl, p2.int_inv, hq, hv, n.now R pv⟩)
    · cases e
  · next k i =>
    split at e
    · next ws q =>
      split at e
      · next w' q' =>
        cases e
        obtain ⟨a, rfl, ha⟩ := p1.obj_inv
        obtain ⟨vs, hq, r⟩ := rdL_to R ha q
        obtain ⟨v, hv, pv⟩ := r.atI q'
        exact .inl (.inr ⟨a, vs, i, v, rfl, p2.int_inv, hq, hv, n.now R pv⟩)
      · cases e
    · cases e
  · next z i =>
    split at e
    · next ch q =>
      obtain ⟨l, e⟩ := ifD_ok' e
      cases e
      exact .inr ⟨z, i, ch, p1.str_inv, p2.int_inv, l, q, n.now R (.str _)⟩
    · cases e
  · next ns i =>
    split at e
    · next m q =>
      cases e
      obtain ⟨a, rfl, hs⟩ := p1.scr_inv
      refine .inl (.inr ⟨a, _, i, .int m, rfl, p2.int_inv, hs.sq, ?_, n.now R (.int _)⟩)
      unfold atI at q ⊢
      rw [List.length_map]
      cases q2 : ixN ns.length i with
      | none => rw [q2] at q; cases q
      | some j =>
        rw [q2] at q
        have q : ns[j]? = some m := q
        show (ns.map V.int)[j]? = some (.int m)
        rw [List.getElem?_map, q]
        rfl
    · cases e
  · cases e
section
variable {X : Cx} {a b : Expr} {pos : Pos} {ma mb : EM}
theorem me_sub_ix (ha : ME X a ma) (hb : ME X b mb) (hs : PlainIx b) : ME X (.Subscript a b pos) (eOp ixM ma mb) := me_ix ((ix_tup.or ix_list).or ix_str) lop_ix ha hb hs

abbrev OM := Env → M (Option Int)
def mO (c : Cfg) (m : OM) : TO := fun σ H Q => ∃ μ ρ h o h', At c μ h H σ ρ ∧ m ρ h = .ok o h' ∧ ∀ μ' H', Go c μ H μ' H' → Rel c μ' h' H' → Q o H'
theorem PO.imp {X : Cx} {e : Option Expr} {t t' : TO} (p : PO X e t) (f : ∀ σ H Q, t' σ H Q → t σ H Q) : PO X e t' := ⟨fun pins s σ H Q I h => p.run pins s σ H Q I (f σ H Q h)⟩
abbrev MO (X : Cx) (e : Option Expr) (m : OM) : Prop := PO X e (mO (cfg X) m)
def oNone : OM := fun _ h => .ok none h
def oSome (e : EM) : OM := fun ρ => (e ρ).bind fun w => match w with
  | .int i => M.pure (some i)
  | _ => M.no
theorem mo_none : MO X none oNone := PO.imp po_none fun σ H Q ⟨μ, ρ, h, o, h', A, e, n⟩ => by
  cases e
  exact n μ H (Go.refl ..) A.rel
theorem mo_some {e : Expr} {m : EM} (he : ME X e m) : MO X (some e) (oSome m) := PO.imp (po_some he) fun σ H Q ⟨μ, ρ, h, o, h', A, e, n⟩ => by
  obtain ⟨w, h1, e1, e⟩ := bind_ok e
  refine mE_first A e1 fun μ1 v H1 g A1 p => ?_
  cases w with
  | int i => cases e; exact ⟨i, p.int_inv, n μ1 H1 g A1.rel⟩
  | _ => cases e
def cutW {α : Type} (xs : List α) (lo hi : Option Int) : List α := (xs.drop (HT.sIx xs.length 0 lo)).take (HT.sIx xs.length xs.length hi - HT.sIx xs.length 0 lo)
theorem Rps.cut {c : Cfg} {μ : List Addr} {H : Hp} {vs : List V} {ws : List Wv} (r : Rps c μ H vs ws) (lo hi : Option Int) : Rps c μ H (cutV vs lo hi) (cutW ws lo hi) := by
  unfold cutV cutW
  rw [r.length]
  exact (r.drop _).take _
def slM (w : Wv) (lo hi : Option Int) : M Wv := match w with
  | .tup ws => M.pure (.tup (cutW ws lo hi))
  | .obj i => fun h => match rdL h i with
    | some ws => lay (.lst (cutW ws lo hi)) h
    | none => .no
  | .str z => if z.length ≤ sizeLine then M.pure (.str (cutS z lo hi)) else M.no
  | _ => M.no
def eSl (e : EM) (l u : OM) : EM := fun ρ => (e ρ).bind fun w => (l ρ).bind fun lo => (u ρ).bind fun hi => slM w lo hi
theorem cutW_whole {α : Type} {xs : List α} {lo hi : Option Int} (h : HT.sIx xs.length 0 lo = 0 ∧ HT.sIx xs.length xs.length hi = xs.length) : cutW xs lo hi = xs := by
  unfold cutW
  rw [h.1, h.2]
  simp
theorem me_slice {e : Expr} {lo hi : Option Expr} {p2 : Pos} {m : EM} {ml mu : OM} (he : ME X e m) (hl : MO X lo ml) (hu : MO X hi mu) : ME X (.Subscript e (.Slice lo hi none p2) pos) (eSl m ml mu) :=
  PE.imp (pe_slice ((sl_tupA.or sl_list).or sl_str) he hl hu) fun σ H Q ⟨μ, ρ, h, w, h', A, e, n⟩ => by
    obtain ⟨x, h1, e1, f1⟩ := bind_ok e
    obtain ⟨lo, h2, e2, f2⟩ := bind_ok f1
    obtain ⟨hi, h3, e3, f3⟩ := bind_ok f2
    clear e f1 f2
    refine mE_first A e1 fun μ1 v H1 g1 A1 p1 => ⟨μ1, ρ, h1, lo, h2, A1, e2, fun μ2 H2 g2 R2 => ⟨μ2, ρ, h2, hi, h3, A1.go g2 R2, e3, fun μ3 H3 g3 R3 => ?_⟩⟩
    have p3 := (p1.go g2).go g3
    have n3 := n.after (g1.trans (g2.trans g3))
    unfold slM at f3
    split at f3
    · next ws =>
      cases f3
      obtain ⟨a, vs, rfl, hq, r⟩ := p3.tup_at
      refine .inl (.inl ⟨a, vs, rfl, .of hq, fun z => ?_, fun _ p np => n3.tup R3 (r.cut lo hi) np⟩)
      rw [r.length] at z
      rw [cutW_whole z] at n3
      exact n3.now R3 (.tup hq r)
    · next i =>
      split at f3
      · next ws q =>
        obtain ⟨rfl, rfl⟩ := lay_ok f3
        obtain ⟨a, rfl, ha⟩ := p3.obj_inv
        obtain ⟨vs, hq, r⟩ := rdL_to R3 ha q
        exact .inl (.inr ⟨a, vs, rfl, hq, fun p np => n3.lay R3 np fun _ _ g => ⟨_, rfl, (r.cut lo hi).mv g⟩⟩)
      · cases f3
    · next z =>
      obtain ⟨l, f3⟩ := ifD_ok f3
      cases f3
      exact .inr ⟨z, p3.str_inv, l, n3.now R3 (.str _)⟩
    · cases f3

def flatW : Wv → Option V
  | .non => some .non
  | .bl b => some (.bl b)
  | .int i => some (.int i)
  | .str x => some (.str x)
  | _ => none
theorem Rp.flat {c : Cfg} {μ : List Addr} {H : Hp} {v u : V} {w : Wv} (p : Rp c μ H v w) (e : flatW w = some u) : v = u ∧ flatV u = true := by
  cases p <;> cases e <;> exact ⟨rfl, rfl⟩
theorem Rps.flats {c : Cfg} {μ : List Addr} {H : Hp} : ∀ {vs us : List V} {ws : List Wv}, Rps c μ H vs ws → ws.mapM flatW = some us → vs = us ∧ us.all flatV = true
  | _, us, _, .nil, e => by simp at e; subst e; exact ⟨rfl, rfl⟩
  | _, us, _, .cons p t, e => by
    obtain ⟨u, us', e1, e2, rfl⟩ := mapM_some e
    obtain ⟨rfl, f⟩ := p.flat e1
    obtain ⟨rfl, fs⟩ := Rps.flats t e2
    exact ⟨rfl, by rw [List.all_cons, f, fs]; rfl⟩
def dsq (h : Hm) (w : Wv) : Option (List Wv) := match w with
  | .tup ws => some ws
  | .obj i => rdL h i
  | _ => none
def inM (neg : Bool) : F2 := fun a b h => match a, b with
  | .str x, .str z => match x.cps.toList with
    | [ch] => .ok (.bl (if neg then !decide (ch ∈ z.cps.toList) else decide (ch ∈ z.cps.toList))) h
    | _ => .no
  | a, b => match dsq h b with
    | none => .no
    | some ws => match flatW a, ws.mapM flatW with
      | some u, some us => .ok (.bl (if neg then !inV u us else inV u us)) h
      | _, _ => match dat h 60 a, ws.mapM (dat h 60) with
        | some d, some ds => if (SeqAt.shaped d && SeqAt.shaped (.list ds)) = true then .ok (.bl (if neg then !ds.any fun z => PyData.eqv z d else ds.any fun z => PyData.eqv z d)) h else .no
        | _, _ => .no
theorem dsq_to {c : Cfg} {μ : List Addr} {h : Hm} {H : Hp} {w : Wv} {v : V} {ws : List Wv} (R : Rel c μ h H) (p : Rp c μ H v w) (e : dsq h w = some ws) : ∃ a vs, v = .ref a ∧ (SqL c.K H a vs ∨ SqT c.K H a vs) ∧ Rps c μ H vs ws := by
  unfold dsq at e
  split at e
  · cases e
    obtain ⟨a, vs, rfl, hq, r⟩ := p.tup_inv
    exact ⟨a, vs, rfl, .inr hq, r⟩
  · obtain ⟨a, rfl, ha⟩ := p.obj_inv
    obtain ⟨vs, hq, r⟩ := rdL_to R ha e
    exact ⟨a, vs, rfl, .inl hq, r⟩
  · cases e
theorem shaped_tl {ds : List PyData} (h : SeqAt.shaped (.list ds) = true) : SeqAt.shaped (.tuple ds) = true := by
  unfold SeqAt.shaped at h ⊢
  have e1 : PyData.canLay0 (.tuple ds) = PyData.canLay0 (.list ds) := by simp [PyData.canLay0]
  have e2 : PyData.depth (.tuple ds) = PyData.depth (.list ds) := by simp [PyData.depth]
  rw [e1, e2]; exact h
theorem dpAll_of {c : Cfg} {μ : List Addr} {h : Hm} {H : Hp} (R : Rel c μ h H) {n : Nat} : ∀ {ws : List Wv} {vs : List V} {ds : List PyData}, Rps c μ H vs ws → ws.mapM (dat h n) = some ds → DpAll c.K H vs ds
  | _, _, ds, .nil, e => by simp at e; subst e; exact .nil
  | _, _, ds, .cons p t, e => by
    obtain ⟨d, ds', e1, e2, rfl⟩ := mapM_some e
    exact .cons (dat_to R p e1) (dpAll_of R t e2)
theorem one_sign {x : PySem.Str} {ch : Nat} (h : x.cps.toList = [ch]) : x = ⟨#[ch]⟩ := by
  obtain ⟨cps⟩ := x
  have : cps = #[ch] := Array.toList_inj.mp h
  rw [this]
theorem in_to {c : Cfg} {neg : Bool} {μ : List Addr} {h h' : Hm} {H : Hp} {v1 v2 : V} {w1 w2 w : Wv} {Q : VK} (R : Rel c μ h H) (p1 : Rp c μ H v1 w1) (p2 : Rp c μ H v2 w2) (e : inM neg w1 w2 h = .ok w h') (n : Nx c μ H h' w Q) :
    (∃ ch z, v1 = .str ⟨#[ch]⟩ ∧ v2 = .str z ∧ Q (.bl (if neg then !decide (ch ∈ z.cps.toList) else decide (ch ∈ z.cps.toList))) H) ∨ rIn c.K neg v1 v2 H Q ∨ ∃ d ds, Dp c.K H v1 d ∧ (Dp c.K H v2 (.list ds) ∨ Dp c.K H v2 (.tuple ds)) ∧ SeqAt.shaped d = true ∧ SeqAt.shaped (.list ds) = true ∧ Q (.bl (if neg then !ds.any fun z => PyData.eqv z d else ds.any fun z => PyData.eqv z d)) H := by
  unfold inM at e
  split at e
  · next x z =>
    split at e
    · next ch q =>
      cases e
      exact .inl ⟨ch, z, by rw [p1.str_inv, one_sign q], p2.str_inv, n.now R (.bl _)⟩
    · cases e
  · split at e
    · cases e
    · next ws q =>
      obtain ⟨a, vs, rfl, hq, r⟩ := dsq_to R p2 q
      split at e
      · next u us qu qs =>
        cases e
        obtain ⟨rfl, f1⟩ := p1.flat qu
        obtain ⟨rfl, f2⟩ := r.flats qs
        exact .inr (.inl ⟨a, vs, rfl, hq, f1, f2, n.now R (.bl _)⟩)
      · split at e
        · next d ds qd qs =>
          obtain ⟨b, e⟩ := ifD_ok' e
          cases e
          rw [Bool.and_eq_true] at b
          refine .inr (.inr ⟨d, ds, dat_to R p1 qd, ?_, b.1, b.2, n.now R (.bl _)⟩)
          rcases hq with hq | hq
          · exact .inl (.lst hq (dpAll_of R r qs))
          · exact .inr (.tup hq (dpAll_of R r qs))
        · cases e
theorem or4 {A B C D : Prop} (h : A ∨ B ∨ C ∨ D) : ((A ∨ B) ∨ C) ∨ D := by
  rcases h with h | h | h | h
  · exact .inl (.inl (.inl h))
  · exact .inl (.inl (.inr h))
  · exact .inl (.inr h)
  · exact .inr h
theorem opIn (hu : X.A.units + 65 < cLine) : OpR X (compareOp .In) (fun x y H Q => (((∃ (c : Nat) (z : PySem.Str), x = .str ⟨#[c]⟩ ∧ y = .str z ∧ Q (.bl (decide (c ∈ z.cps.toList))) H) ∨ rIn X.K false x y H Q) ∨ rInD X.K x y H Q) ∨ VS.rInDT X.K false x y H Q) := ((op_in_sign.or op_in_seq).or (op_inD hu)).or (VS.op_inDT rfl hu)
theorem lop_in : LOp (cfg X) (inM false) (fun x y H Q => (((∃ (c : Nat) (z : PySem.Str), x = .str ⟨#[c]⟩ ∧ y = .str z ∧ Q (.bl (decide (c ∈ z.cps.toList))) H) ∨ rIn X.K false x y H Q) ∨ rInD X.K x y H Q) ∨ VS.rInDT X.K false x y H Q) := by
  intro μ h H v1 v2 w1 w2 w h' Q R p1 p2 e n
  refine or4 ?_
  rcases in_to R p1 p2 e n with h | h | ⟨d, ds, h1, h2, h3, h4, q⟩
  · exact .inl h
  · exact .inr (.inl h)
  · rcases h2 with h2 | h2
    · exact .inr (.inr (.inl ⟨d, ds, h1, h2, h3, h4, q⟩))
    · exact .inr (.inr (.inr ⟨d, ds, h1, h2, h3, shaped_tl h4, q⟩))
theorem me_in (hu : X.A.units + 65 < cLine) (ha : ME X a ma) (hb : ME X b mb) (hm : behindInMarks .In b = false := by rfl) : ME X (.Compare a [.In] [b] pos) (eOp (inM false) ma mb) := me_cmp (opIn hu) lop_in ha hb hm
theorem mt_in (hu : X.A.units + 65 < cLine) (ha : ME X a ma) (hb : ME X b mb) (hm : behindInMarks .In b = false := by rfl) : MT X (.Compare a [.In] [b] pos) (tOf (eOp (inM false) ma mb)) := mt_cmp (opIn hu) lop_in ha hb hm
end
end MM

set_option maxRecDepth 100000
set_option maxHeartbeats 4000000
namespace MM
open PySem PySem.Spec PyProof.Rows L2
theorem Rps.one_inv {c : Cfg} {μ : List Addr} {H : Hp} {vs : List V} {w : Wv} (r : Rps c μ H vs [w]) : ∃ v, vs = [v] ∧ Rp c μ H v w := by
  cases r with
  | cons p t => cases t; exact ⟨_, rfl, p⟩
theorem Rps.two_inv {c : Cfg} {μ : List Addr} {H : Hp} {vs : List V} {w u : Wv} (r : Rps c μ H vs [w, u]) : ∃ v x, vs = [v, x] ∧ Rp c μ H v w ∧ Rp c μ H x u := by
  cases r with
  | cons p t => cases t with
    | cons q t => cases t; exact ⟨_, _, rfl, p, q⟩

def lenM : FM := fun ws h => match ws with
  | [.str x] => if x.length ≤ sizeLine then .ok (.int x.length) h else .no
  | [.tup us] => .ok (.int us.length) h
  | [.obj i] => match h[i]? with
    | some (.lst us) => .ok (.int us.length) h
    | some (.frz (.lst us)) => .ok (.int us.length) h
    | some (.dk kvs) => .ok (.int kvs.length) h
    | _ => .no
  | [.scr ns] => .ok (.int ns.length) h
  | [.ptp us] => .ok (.int us.length) h
  | _ => .no
section
variable {X : Cx}
theorem CallR.or {f : Value} {r r' : List V → Hp → VK → Prop} (h : CallR X f r) (h' : CallR X f r') : CallR X f (fun xs H Q => r xs H Q ∨ r' xs H Q) := by
  intro pins s σ H xs us Q I rx q
  rcases q with q | q
  · exact h pins s σ H xs us Q I rx q
  · exact h' pins s σ H xs us Q I rx q
theorem lc_len : LCall (cfg X) lenM (fun xs H Q => (∃ x n, xs = [x] ∧ LenV X.K x H n ∧ Q (.int n) H) ∨ ∃ a kvs, xs = [V.ref a] ∧ H a = some (.dK kvs) ∧ Q (.int kvs.length) H) := by
  intro μ h H vs ws w h' Q R r e n
  unfold lenM at e
  split at e
  · next x =>
    obtain ⟨l, e⟩ := ifD_ok' e
    cases e
    obtain ⟨v, rfl, p⟩ := r.one_inv
    obtain rfl := p.str_inv
    exact .inl ⟨_, x.length, rfl, ⟨l, rfl⟩, n.now R (.int _)⟩
  · next us =>
    cases e
    obtain ⟨v, rfl, p⟩ := r.one_inv
    obtain ⟨a, xs, rfl, hq, rr⟩ := p.tup_inv
    exact .inl ⟨_, us.length, rfl, .inr ⟨xs, hq, rr.length.symm⟩, n.now R (.int _)⟩
  · next i =>
    obtain ⟨v, rfl, p⟩ := r.one_inv
    obtain ⟨a, rfl, ha⟩ := p.obj_inv
    split at e
    · next us q =>
      cases e
      obtain ⟨u, hu, xs, rfl, rr⟩ := R.get ha q
      exact .inl ⟨_, us.length, rfl, .inl ⟨xs, .inl (.inl hu), rr.length.symm⟩, n.now R (.int _)⟩
    · next us q =>
      cases e
      obtain ⟨u, hu, ob, u', rfl, xs, rfl, rr⟩ := R.get ha q
      exact .inl ⟨_, us.length, rfl, .inl ⟨xs, .inl (.inr ⟨_, hu⟩), rr.length.symm⟩, n.now R (.int _)⟩
    · next kvs q =>
      cases e
      obtain ⟨u, hu, xs, rfl, rr⟩ := R.get ha q
      have l : xs.length = kvs.length := Paired.length rr
      refine .inr ⟨a, xs, rfl, hu, ?_⟩
      rw [l]
      exact n.now R (.int _)
    · cases e
  · next ns =>
    cases e
    obtain ⟨v, rfl, p⟩ := r.one_inv
    obtain ⟨a, rfl, hs⟩ := p.scr_inv
    exact .inl ⟨_, ns.length, rfl, .inl ⟨_, hs.sq, (List.length_map _).symm⟩, n.now R (.int _)⟩
  · next us =>
    cases e
    obtain ⟨v, rfl, p⟩ := r.one_inv
    obtain ⟨a, xs, rfl, hq, rr⟩ := p.ptp_inv
    exact .inl ⟨_, us.length, rfl, .inr ⟨xs, hq.sq, rr.length.symm⟩, n.now R (.int _)⟩
  · cases e
theorem cr_len : CallR X (.builtin "len") (fun xs H Q => (∃ x n, xs = [x] ∧ LenV X.K x H n ∧ Q (.int n) H) ∨ ∃ a kvs, xs = [V.ref a] ∧ H a = some (.dK kvs) ∧ Q (.int kvs.length) H) := CallR.or call_len call_lenD

def intOf : FM := fun ws h => match ws with
  | [.int i] => .ok (.int i) h
  | [.bl k] => .ok (.int (if k then 1 else 0)) h
  | _ => .no
theorem lc_int : LCall (cfg X) intOf (fun xs H Q => (∃ i, xs = [.int i] ∧ Q (.int i) H) ∨ ∃ k, xs = [.bl k] ∧ Q (.int (if k then 1 else 0)) H) := by
  intro μ h H vs ws w h' Q R r e n
  unfold intOf at e
  split at e
  · next i => cases e; obtain ⟨v, rfl, p⟩ := r.one_inv; exact .inl ⟨i, by rw [p.int_inv], n.now R (.int _)⟩
  · next k => cases e; obtain ⟨v, rfl, p⟩ := r.one_inv; exact .inr ⟨k, by rw [p.bl_inv], n.now R (.int _)⟩
  · cases e
def listOf : FM := fun ws h => match ws with
  | [w] => match dsq h w with
    | some us => lay (.lst us) h
    | none => match w with
      | .obj i => match h[i]? with
        | some (.dk kvs) => lay (.lst (kvs.map fun kv => match kv.1 with | .inl i => .int i | .inr x => .str x)) h
        | _ => .no
      | _ => .no
  | _ => .no
theorem rp_key {c : Cfg} {μ : List Addr} {H : Hp} (k : Key) : Rp c μ H (kV k) (match k with | .inl i => .int i | .inr x => .str x) := by
  cases k with
  | inl i => exact .int i
  | inr x => exact .str x
theorem rps_keys {c : Cfg} {μ μ' : List Addr} {H H' : Hp} : ∀ {ks : List (Key × V)} {kvs : List (Key × Wv)}, Rkv c μ H ks kvs → Rps c μ' H' (ks.map fun kv => kV kv.1) (kvs.map fun kv => match kv.1 with | .inl i => .int i | .inr x => .str x)
  | _, _, .nil => .nil
  | _, _, .cons (a := (k', v)) (b := (k, w)) r t => by
    obtain ⟨e, _⟩ := r
    have e : k' = k := e
    subst e
    exact .cons (rp_key k') (rps_keys t)
theorem lc_list0 : LCall (cfg X) listOf (fun xs H Q => (∃ p ys, xs = [.ref p] ∧ (SqL X.K H p ys ∨ SqT X.K H p ys) ∧ ∀ l, H l = none → Q (.ref l) (upd H l (.lst ys))) ∨ rListD xs H Q) := by
  intro μ h H vs ws w h' Q R r e n
  unfold listOf at e
  split at e
  · next w =>
    obtain ⟨v, rfl, p⟩ := r.one_inv
    split at e
    · next us q =>
      obtain ⟨rfl, rfl⟩ := lay_ok e
      obtain ⟨a, xs, rfl, hq, rr⟩ := dsq_to R p q
      exact .inl ⟨a, xs, rfl, hq, fun l nl => n.lay R nl fun _ _ g => ⟨xs, rfl, rr.mv g⟩⟩
    · split at e
      · next i =>
        obtain ⟨a, rfl, ha⟩ := p.obj_inv
        split at e
        · next kvs q =>
          obtain ⟨rfl, rfl⟩ := lay_ok e
          obtain ⟨u, hu, xs, rfl, rr⟩ := R.get ha q
          exact .inr ⟨a, xs, rfl, hu, fun l nl => n.lay R nl fun _ _ g => ⟨_, rfl, rps_keys rr⟩⟩
        · cases e
      · cases e
  · cases e
theorem cr_list (hc : X.calm = true) : CallR X (.type "list") (fun xs H Q => (∃ p ys, xs = [.ref p] ∧ (SqL X.K H p ys ∨ SqT X.K H p ys) ∧ ∀ l, H l = none → Q (.ref l) (upd H l (.lst ys))) ∨ rListD xs H Q) := CallR.or call_list_of (call_list_dK hc)
def tupOf : FM := fun ws h => match ws with
  | [.tup us] => .ok (.tup us) h
  | [.obj i] => match rdL h i with
    | some us => .ok (.tup us) h
    | none => .no
  | _ => .no
theorem lc_tup : LCall (cfg X) tupOf (fun xs H Q => ∃ p ys, xs = [.ref p] ∧ ((SqL X.K H p ys ∧ ∀ l, H l = none → Q (.ref l) (upd H l (.tup ys))) ∨ (SqT X.K H p ys ∧ Q (.ref p) H))) := by
  intro μ h H vs ws w h' Q R r e n
  unfold tupOf at e
  split at e
  · next us =>
    cases e
    obtain ⟨v, rfl, p⟩ := r.one_inv
    obtain ⟨a, xs, rfl, hq, rr⟩ := p.tup_at
    exact ⟨a, xs, rfl, .inr ⟨.of hq, n.now R (.tup hq rr)⟩⟩
  · next i =>
    obtain ⟨v, rfl, p⟩ := r.one_inv
    split at e
    · next us q =>
      cases e
      obtain ⟨a, rfl, ha⟩ := p.obj_inv
      obtain ⟨xs, hq, rr⟩ := rdL_to R ha q
      exact ⟨a, xs, rfl, .inl ⟨hq, fun l nl => n.tup R rr nl⟩⟩
    · cases e
  · cases e
def blW : Wv → Option Bool
  | .bl b => some b
  | _ => none
theorem Rps.bls {c : Cfg} {μ : List Addr} {H : Hp} : ∀ {vs : List V} {ws : List Wv} {bs : List Bool}, Rps c μ H vs ws → ws.mapM blW = some bs → vs = bs.map V.bl
  | _, _, bs, .nil, e => by simp at e; subst e; rfl
  | _, _, bs, .cons (w := w) p t, e => by
    obtain ⟨b, bs', e1, e2, rfl⟩ := mapM_some e
    cases w with
    | bl b' => cases e1; rw [p.bl_inv, Rps.bls t e2]; rfl
    | _ => cases e1
def quant (f : List Bool → Bool) : FM := fun ws h => match ws with
  | [.obj i] => match rdL h i with
    | some us => match us.mapM blW with
      | some bs => .ok (.bl (f bs)) h
      | none => .no
    | none => .no
  | _ => .no
def allM : FM := quant fun bs => bs.all id
def anyM : FM := quant fun bs => bs.any id
theorem lc_quant {f : List Bool → Bool} : LCall (cfg X) (quant f) (fun vs H Q => ∃ (a : Addr) (bs : List Bool), vs = [V.ref a] ∧ SqL X.K H a (bs.map V.bl) ∧ Q (.bl (f bs)) H) := by
  intro μ h H vs ws w h' Q R r e n
  unfold quant at e
  split at e
  · next i =>
    obtain ⟨v, rfl, p⟩ := r.one_inv
    obtain ⟨a, rfl, ha⟩ := p.obj_inv
    split at e
    · next us q =>
      split at e
      · next bs qb =>
        cases e
        obtain ⟨xs, hq, rr⟩ := rdL_to R ha q
        have := rr.bls qb
        subst this
        exact ⟨a, bs, rfl, hq, n.now R (.bl _)⟩
      · cases e
    · cases e
  · cases e
def ordM : FM := fun ws h => match ws with
  | [.str x] => if x.length = 1 then .ok (.int (x.cps.getD 0 0 : Nat)) h else .no
  | _ => .no
def two (f : Int → Int → Int) : FM := fun ws h => match ws with
  | [.int i, .int j] => .ok (.int (f i j)) h
  | _ => .no
theorem lc_two {f : Int → Int → Int} : LCall (cfg X) (two f) (fun xs H Q => ∃ i j, xs = [.int i, .int j] ∧ Q (.int (f i j)) H) := by
  intro μ h H vs ws w h' Q R r e n
  unfold two at e
  split at e
  · next i j =>
    cases e
    obtain ⟨v, x, rfl, p, q⟩ := r.two_inv
    exact ⟨i, j, by rw [p.int_inv, q.int_inv], n.now R (.int _)⟩
  · cases e
def max2 : FM := two fun i j => if j > i then j else i
def min2 : FM := two fun i j => if j < i then j else i

inductive Ty where
  | non | bl | int | str | lst | tup | dict
  deriving DecidableEq
def Ty.nm : Ty → String
  | .non => "NoneType" | .bl => "bool" | .int => "int" | .str => "str" | .lst => "list" | .tup => "tuple" | .dict => "dict"
def Ty.sub (a b : Ty) : Bool := decide (a = b) || (decide (a = .bl) && decide (b = .int))
theorem kit_sub (a b : Ty) : kitB a.nm b.nm = some (a.sub b) := by
  cases a <;> cases b <;> decide +kernel
def tyW (h : Hm) : Wv → Option Ty
  | .non => some .non
  | .bl _ => some .bl
  | .int _ => some .int
  | .str _ => some .str
  | .tup _ => some .tup
  | .ptp _ => some .tup
  | .obj i => match h[i]? with
    | some (.lst _) => some .lst
    | some (.frz (.lst _)) => some .lst
    | some (.dk _) => some .dict
    | some (.dt _) => some .dict
    | _ => none
  | _ => none
theorem tyW_to {c : Cfg} {μ : List Addr} {h : Hm} {H : Hp} {v : V} {w : Wv} {t : Ty} (R : Rel c μ h H) (p : Rp c μ H v w) (e : tyW h w = some t) : TyX c.K H v (.type t.nm) := by
  cases p with
  | non => cases e; exact .base .non
  | bl b => cases e; exact .base (.bl b)
  | int i => cases e; exact .base (.int i)
  | str x => cases e; exact .base (.str x)
  | @tup a vs ws q r =>
    cases e
    exact .base (.tup q)
  | obj ha =>
    simp only [tyW] at e
    split at e
    · next us q => cases e; obtain ⟨u, hu, xs, rfl, rr⟩ := R.get ha q; exact .base (.lst hu)
    · next us q => cases e; obtain ⟨u, hu, ob, u', rfl, xs, rfl, rr⟩ := R.get ha q; exact .base (.frz hu)
    · next us q => cases e; obtain ⟨u, hu, xs, rfl, rr⟩ := R.get ha q; exact .base (.dK hu)
    · next us q => cases e; obtain ⟨u, hu, xs, rfl, rr⟩ := R.get ha q; exact .base (.dT hu)
    · cases e
  | glob _ => cases e
  | raw _ => cases e
  | scr _ => cases e
  | ptp q r =>
    cases e
    rcases q with ⟨ob, q, _⟩ | ⟨o, its, n, h1, h2, _⟩
    · exact .fTuple q
    · exact .kTuple h1 h2
def isiM (T : Ty) : FM := fun ws h => match ws with
  | [w, .raw (.ty n)] => if n = T.nm then (match tyW h w with | some t => .ok (.bl (t.sub T)) h | none => .no) else .no
  | _ => .no
theorem lc_isi {T : Ty} : LCall (cfg X) (isiM T) (rIsi X.K) := by
  intro μ h H vs ws w h' Q R r e n
  unfold isiM at e
  split at e
  · next w m =>
    obtain ⟨l, e2⟩ := ifD_ok' e
    clear e
    subst l
    cases q : tyW h w with
    | some t =>
      rw [q] at e2
      cases e2
      obtain ⟨v, x, rfl, p, p2⟩ := r.two_inv
      exact ⟨v, x, _, _, _, rfl, by rw [p2.raw_inv]; exact .ty _, tyW_to R p q, kit_ty (kit_sub t T), n.now R (.bl _)⟩
    | none => rw [q] at e2; cases e2
  · cases e
def isi2M (S T : Ty) : FM := fun ws h => match ws with
  | [w, .tup [.raw (.ty m), .raw (.ty n)]] => if m = S.nm ∧ n = T.nm then (match tyW h w with | some t => .ok (.bl (t.sub S || t.sub T)) h | none => .no) else .no
  | _ => .no

abbrev FT := Wv → List Wv → M Wv
def LMt (c : Cfg) (T : String) (f : FT) (r : V → List V → Hp → VK → Prop) : Prop := ∀ {μ h H v vs w ws u h' Q}, Rel c μ h H → Rp c μ H v w → Rps c μ H vs ws → f w ws h = .ok u h' → Nx c μ H h' u Q → r v vs H Q
def LTy (c : Cfg) (T : String) (t : Wv → Hm → Bool) : Prop := ∀ {μ h H v w}, Rel c μ h H → Rp c μ H v w → t w h = true → tyV c.K T v H
def eBm (t : Wv → Hm → Bool) (f : FT) (o : EM) (a : AM) : EM := fun ρ => (o ρ).bind fun w => fun h => if t w h = true then ((a ρ).bind fun ws => f w ws) h else .no
def isLst (w : Wv) (h : Hm) : Bool := match w with
  | .obj i => (rdL h i).isSome
  | _ => false
theorem lty_list : LTy (cfg X) "list" isLst := by
  intro μ h H v w R p e
  unfold isLst at e
  cases w with
  | obj i =>
    obtain ⟨a, rfl, ha⟩ := p.obj_inv
    obtain ⟨ws, q⟩ := Option.isSome_iff_exists.mp e
    obtain ⟨vs, hq, _⟩ := rdL_to R ha q
    exact .inl ⟨rfl, vs, hq⟩
  | _ => cases e
def isStr (w : Wv) (_ : Hm) : Bool := match w with
  | .str _ => true
  | _ => false
theorem lty_str : LTy (cfg X) "str" isStr := by
  intro μ h H v w R p e
  cases w with
  | str x => rw [p.str_inv]; rfl
  | _ => cases e
theorem eBm_to {c : Cfg} {T : String} {t : Wv → Hm → Bool} {f : FT} {r : V → List V → Hp → VK → Prop} {mo : EM} {ma : AM} {σ : L2.St} {H : Hp} {Q : VK} (lt : LTy c T t) (l : LMt c T f r) (z : mE c (eBm t f mo ma) σ H Q) : tBM c.K T r (mE c mo) (mA c ma) σ H Q := by
  obtain ⟨μ, ρ, h, w, h', A, e, n⟩ := z
  obtain ⟨o, h1, e1, e⟩ := bind_ok e
  obtain ⟨b, e⟩ := ifD_ok' e
  obtain ⟨ws, h2, e2, e⟩ := bind_ok e
  exact mE_first A e1 fun μ1 v H1 g1 A1 p1 => ⟨lt A1.rel p1 b, mA_first A1 e2 fun μ2 vs H2 g2 A2 p2 => l A2.rel (p1.go g2) p2 e (n.after (g1.trans g2))⟩
theorem me_bm {o e : Expr} {es : List Expr} {name : PySem.Str} {apos cpos : Pos} {T id : String} {r : V → List V → Hp → VK → Prop} {t : Wv → Hm → Bool} {f : FT} {mo : EM} {ma : AM} (pa : PlainAttrs T) (slot : Slot T name id) (hty : typeOf (.builtin id) = pure (.type "method_descriptor")) (hm : MtR X id r) (lt : LTy (cfg X) T t) (l : LMt (cfg X) T f r) (ho : ME X o mo) (ha : MA X (e :: es) ma)
    (hbase : attributeBase o name X.env (eval o X.env) = eval o X.env := by rfl)
    (hfew : ((backTo cpos (starEach (e :: es) X.env)).all (fun x => !x.1) && (backToKw cpos (keywordEach [] X.env)).all (fun x => x.1.isSome)
      && decide ((e :: es).length + ([] : List Keyword).length + (if ([] : List Keyword).isEmpty then 0 else 1) < 30)) = true := by rfl)
    (hline : (apos.endLine == cpos.line) = true := by rfl) (hs : starEach (e :: es) X.env = (false, eval e X.env) :: starEach es X.env := by rfl) (hplain : (backTo cpos (starEach es X.env)).any (·.1) = false := by rfl) :
    ME X (.Call (.Attribute o name apos) (e :: es) [] cpos) (eBm t f mo ma) := PE.imp (pe_bm pa slot hty hm ho ha hbase hfew hline hs hplain) fun _ _ _ z => eBm_to lt l z
def eBm0 (t : Wv → Hm → Bool) (f : FT) (o : EM) : EM := fun ρ => (o ρ).bind fun w => fun h => if t w h = true then f w [] h else .no
theorem Nx.put {c : Cfg} {μ : List Addr} {h : Hm} {H : Hp} {i : Nat} {a : Addr} {o : Ob} {u u0 : HO} {w : Wv} {v : V} {Q : VK} (n : Nx c μ H (h.set i o) w Q) (R : Rel c μ h H) (ha : μ[i]? = some a) (h0 : H a = some u0) (nf : ∀ ob u, u0 ≠ .frz ob u) (hu : ∀ μ' H', Gw c μ H μ' H' → ObjU c μ' H' a o u) (pv : Rp c μ H v w) : Q v (upd H a u) := by
  obtain ⟨g, R'⟩ := R.put ha (fun ob u z => by rw [h0] at z; exact nf ob u (Option.some.inj z)) hu
  exact n _ _ _ g R' (pv.go g)
def appM : FT := fun w ws h => match w, ws with
  | .obj i, [y] => match lstOf h i with
    | some us => if us.length < sizeLine then .ok .non (h.set i (.lst (us ++ [y]))) else .no
    | none => .no
  | _, _ => .no
theorem lmt_app : LMt (cfg X) "list" appM rAppend := by
  intro μ h H v vs w ws u h' Q R p r e n
  unfold appM at e
  split at e
  · next i y =>
    split at e
    · next us q =>
      obtain ⟨l, e⟩ := ifD_ok' e
      cases e
      obtain ⟨a, rfl, ha⟩ := p.obj_inv
      obtain ⟨x, rfl, px⟩ := r.one_inv
      obtain ⟨xs, hx, rr⟩ := lstOf_to R ha q
      exact ⟨a, xs, x, rfl, rfl, hx, by rw [rr.length]; exact l, n.put R ha hx (fun _ _ z => by cases z) (fun _ _ g => ⟨_, rfl, (rr.mv g).append (.cons (px.mv g) .nil)⟩) .non⟩
    · cases e
  · cases e
theorem me_append {o e : Expr} {apos cpos : Pos} {mo : EM} {ma : AM} (ho : ME X o mo) (ha : MA X [e] ma) (hbase : attributeBase o "append" X.env (eval o X.env) = eval o X.env := by rfl)
    (hfew : ((backTo cpos (starEach [e] X.env)).all (fun x => !x.1) && (backToKw cpos (keywordEach [] X.env)).all (fun x => x.1.isSome) && decide ([e].length + ([] : List Keyword).length + (if ([] : List Keyword).isEmpty then 0 else 1) < 30)) = true := by rfl)
    (hline : (apos.endLine == cpos.line) = true := by rfl) (hs : starEach [e] X.env = (false, eval e X.env) :: starEach [] X.env := by rfl) (hplain : (backTo cpos (starEach [] X.env)).any (·.1) = false := by rfl) : ME X (.Call (.Attribute o "append" apos) [e] [] cpos) (eBm isLst appM mo ma) :=
  me_bm PySem.F.plainAttrs_list PySem.F.slot_list_append PySem.F.type_list_append mt_append lty_list lmt_app ho ha hbase hfew hline hs hplain
def setIx (o i v : Wv) : M Unit := fun h => match o, i with
  | .obj k, .int j => match lstOf h k with
    | some us => match ixN us.length j with
      | some n => .ok () (h.set k (.lst (us.set n v)))
      | none => .no
    | none => .no
  | _, _ => .no
def gIx (o i : EM) : GM := fun v ρ => (o ρ).bind fun w => (i ρ).bind fun j => (setIx w j v).bind fun _ => M.pure ρ
theorem mg_ix {sl : List Nat} {o i : Expr} {pos : Pos} {mo mi : EM} (ho : ME X o mo) (hi : ME X i mi) (ha : ∀ v, assign (.Subscript o i pos) X.env v = (do
      let ov ← holding [v] (eval o X.env)
      let iv ← holding [v, ov] (eval i X.env)
      standAt pos
      holding [v, ov, iv] (setItem ov iv v)
      release [v, ov, iv] []) := by intro _; rfl) : MG X sl (.Subscript o i pos) (gIx mo mi) := PG.imp (pg_sub ho hi set_list ha) fun v σ H Q ⟨μ, ρ, h, w, ρ', h', A, p, e, n⟩ => by
  obtain ⟨x, h1, e1, f1⟩ := bind_ok e
  obtain ⟨j, h2, e2, f2⟩ := bind_ok f1
  obtain ⟨_, h3, e3, f3⟩ := bind_ok f2
  clear e f1 f2
  cases f3
  refine mE_first A e1 fun μ1 vo H1 g1 A1 p1 => mE_first A1 e2 fun μ2 vi H2 g2 A2 p2 => ?_
  have p0 := (p.go g1).go g2
  have po := p1.go g2
  unfold setIx at e3
  split at e3
  · next k j =>
    split at e3
    · next us q =>
      split at e3
      · next m qm =>
        cases e3
        obtain ⟨a, rfl, ha⟩ := po.obj_inv
        obtain ⟨xs, hx, rr⟩ := lstOf_to A2.rel ha q
        refine ⟨a, xs, j, m, rfl, p2.int_inv, hx, by rw [rr.length]; exact qm, ?_⟩
        obtain ⟨g3, R3⟩ := A2.rel.put ha (fun ob u z => by rw [hx] at z; cases z) (o := .lst (us.set m w)) (u := .lst (xs.set m v)) fun _ _ g => ⟨_, rfl, Rps.set (p0.mv g) m (rr.mv g)⟩
        exact n _ _ _ (g1.trans (g2.trans g3)) (A2.go g3 R3) rfl
      · cases e3
    · cases e3
  · cases e3
end
end MM

set_option maxRecDepth 100000
set_option maxHeartbeats 4000000
namespace MM
open PySem PySem.Spec PyProof.Rows L2

def ins {α : Type} (le : α → α → Bool) (a : α) : List α → List α
  | [] => [a]
  | b :: l => if le a b = true then a :: b :: l else b :: ins le a l
def isort {α : Type} (le : α → α → Bool) : List α → List α
  | [] => []
  | a :: l => ins le a (isort le l)
def dle {β : Type} (a b : β × PyData) : Bool := !PySem.W.dataLt b.2 a.2
def alikeB (ds : List PyData) : Bool := ds.all fun d => ds.all fun e => PySem.W.alike d e
def sortB (ds : List PyData) : Bool := (ds.all fun d => match d with | .tuple (_ :: _) => true | _ => false) || (ds.all fun d => match d with | .none => false | .tuple _ => false | _ => true)
def sortable (ds : List PyData) : Bool := alikeB ds && (sortB ds && ds.all fun d => decide (d.depth ≤ 60))
section
variable {X : Cx}
abbrev Vd := V × PyData
def rSortX (K : PySem.W.Frag) : List V → Hp → VK → Prop := fun vs H Q => ∃ (l : Addr) (zs : List Vd), vs = [V.ref l] ∧ SqL K H l (zs.map (·.1)) ∧ (∀ z ∈ zs, Dp K H z.1 z.2) ∧ sortable (zs.map (·.2)) = true ∧ zs.length ≤ 10000 ∧ ∀ p, H p = none → Q (.ref p) (upd H p (.lst ((isort dle zs).map (·.1))))
abbrev Vdv := V × PyData × Value
def sleS (x y : PySem.Str) : Bool := !decide (y.cps.toList < x.cps.toList)
def sortM : FM := fun ws h => match ws with
  | [.obj i] => match h[i]? with
    | some (.stx L) => lay (.lst ((isort sleS L).map .str)) h
    | _ => match rdL h i with
      | some us => match us.mapM (dat h 60) with
        | some ds => if (sortable ds && decide (us.length ≤ 10000)) = true then lay (.lst ((isort dle (us.zip ds)).map (·.1))) h else .no
        | none => .no
      | none => .no
  | _ => .no
end
end MM

set_option maxRecDepth 100000
set_option maxHeartbeats 4000000
namespace MM
open PySem PySem.Spec PyProof.Rows L2

def keyOf : Wv → Option Key
  | .int i => some (.inl i)
  | .str x => some (.inr x)
  | _ => none
def tkOf : Wv → Option (List Key)
  | .tup ws => ws.mapM keyOf
  | _ => none
def ofKey : Key → Wv
  | .inl i => .int i
  | .inr x => .str x
section
variable {κ : Type} [DecidableEq κ]
def valW (kvs : List (κ × Wv)) (k : κ) : Option Wv := (kvs.find? fun kv => decide (kv.1 = k)).map (·.2)
def putKW (kvs : List (κ × Wv)) (k : κ) (v : Wv) : List (κ × Wv) :=
  if (kvs.any fun kv => decide (kv.1 = k)) = true then kvs.map (fun kv => if kv.1 = k then (kv.1, v) else kv) else kvs ++ [(k, v)]
def dropKW (kvs : List (κ × Wv)) (k : κ) : List (κ × Wv) := kvs.filter fun kv => decide (kv.1 ≠ k)
variable {c : Cfg} {μ : List Addr} {H : Hp}
end
section
variable {c : Cfg} {μ : List Addr} {h : Hm} {H : Hp}
def dGet (h : Hm) (d k : Wv) : Option (Option Wv) := match d with
  | .obj i => match h[i]? with
    | some (.dk kvs) => (keyOf k).map fun q => valW kvs q
    | some (.frz (.dk kvs)) => (keyOf k).map fun q => valW kvs q
    | some (.dt kvs) => (tkOf k).map fun q => valW kvs q
    | some (.frz (.dt kvs)) => (tkOf k).map fun q => valW kvs q
    | _ => none
  | _ => none
def dgetM : F2 := fun d k h => match dGet h d k with
  | some (some w) => .ok w h
  | _ => .no
def dinM (neg : Bool) : F2 := fun k d h => match dGet h d k with
  | some o => .ok (.bl (if neg then !o.isSome else o.isSome)) h
  | none => .no
def isDict (h : Hm) (d : Wv) : Bool := match d with
  | .obj i => match h[i]? with
    | some (.dk _) => true
    | some (.frz (.dk _)) => true
    | some (.dt _) => true
    | some (.frz (.dt _)) => true
    | _ => false
  | _ => false
def dPut (d k v : Wv) : M Unit := fun h => match d with
  | .obj i => match h[i]? with
    | some (.dk kvs) => match keyOf k with
      | some q => if kvs.length < sizeLine then .ok () (h.set i (.dk (putKW kvs q v))) else .no
      | none => .no
    | some (.dt kvs) => match tkOf k with
      | some q => if kvs.length < sizeLine then .ok () (h.set i (.dt (putKW kvs q v))) else .no
      | none => .no
    | _ => .no
  | _ => .no
end
def sDput (d k v : EM) : SM := fun ρ => (v ρ).bind fun wv => (d ρ).bind fun wd => (k ρ).bind fun wk => (dPut wd wk wv).bind fun _ => M.pure (.nx, ρ)
def eDget1 (d k : EM) : EM := fun ρ => (d ρ).bind fun wd => fun h => if isDict h wd = true then ((k ρ).bind fun wk => fun h => match dGet h wd wk with | some o => .ok (o.getD .non) h | none => .no) h else .no
def eDget2 (d k x : EM) : EM := fun ρ => (d ρ).bind fun wd => fun h => if isDict h wd = true then ((k ρ).bind fun wk => (x ρ).bind fun wx => fun h => match dGet h wd wk with | some o => .ok (o.getD wx) h | none => .no) h else .no
section
variable {X : Cx} {o i e f value : Expr} {pos pos' tpos apos cpos : Pos} {md mk mv mx : EM}
def eDnewK : EM := fun _ => lay (.dk [])
def eDnewT : EM := fun _ => lay (.dt [])
theorem me_dnewK : ME X (.Dict [] [] pos) eDnewK := PE.imp pe_dnewK fun σ H Q ⟨μ, ρ, h, w, h', A, e, n⟩ => by
  obtain ⟨rfl, rfl⟩ := lay_ok e
  exact fun p np => n.lay A.rel np fun _ _ _ => ⟨[], rfl, .nil⟩

def unDict (h : Hm) (w : Wv) : Option (Nat × Ob) := match w with
  | .obj i => match h[i]? with
    | some (.dk kvs) => some (i, .dk kvs)
    | some (.dt kvs) => some (i, .dt kvs)
    | _ => none
  | _ => none
def sLock (e : EM) (s : SM) : SM := fun ρ h => match e ρ h with
  | .ok w _ => match unDict h w with
    | some (i, o) => match s ρ (h.set i (.frz o)) with
      | .ok r h' => .ok r (h'.set i o)
      | _ => .no
    | none => .no
  | _ => .no
def eLock (e : EM) (m : EM) : EM := fun ρ h => match e ρ h with
  | .ok w _ => match unDict h w with
    | some (i, o) => match m ρ (h.set i (.frz o)) with
      | .ok r h' => .ok r (h'.set i o)
      | _ => .no
    | none => .no
  | _ => .no
def keysOf (h : Hm) (w : Wv) : Option (List Wv) := match w with
  | .obj i => match h[i]? with
    | some (.frz (.dk kvs)) => some (kvs.map fun kv => ofKey kv.1)
    | some (.frz (.dt kvs)) => some (kvs.map fun kv => .tup (kv.1.map ofKey))
    | _ => none
  | _ => none
def iKeysW (e : EM) : IM := fun ρ => (e ρ).bind fun w => fun h => match keysOf h w with
  | some ks => .ok (sT ks) h
  | none => .no
end
end MM

set_option maxRecDepth 100000
set_option maxHeartbeats 4000000
namespace MM
open PySem PySem.Spec PyProof.Rows L2
section
variable {X : Cx}
def dcM (src : Src) (vs : List Nat) (g : GM) (t : TM) (ek ev : EM) (ρ : Env) : Nat → Nat → List (Key × Wv) → M (List (Key × Wv))
  | 0, _, _ => M.no
  | n + 1, k, acc => fun h => match src.at_ k h with
    | none => .no
    | some none => .ok acc h
    | some (some w) => ((g w (wipeM ρ vs)).bind fun ρ1 => (t ρ1).bind fun b => if b = true then (ek ρ1).bind fun y => (ev ρ1).bind fun z => fun h => match keyOf y with
          | some q => if acc.length < sizeLine then dcM src vs g t ek ev ρ n (k + 1) (putKW acc q z) h else .no
          | none => .no
        else dcM src vs g t ek ev ρ n (k + 1) acc) h
def eDc (i : IM) (vs : List Nat) (g : GM) (t : TM) (ek ev : EM) : EM := fun ρ => (i ρ).bind fun src => (dcM src vs g t ek ev ρ (src.cnt + 1) 0 []).bind fun kvs => lay (.dk kvs)
def scM (src : Src) (vs : List Nat) (g : GM) (e : EM) (ρ : Env) : Nat → Nat → List PySem.Str → M (List PySem.Str)
  | 0, _, _ => M.no
  | n + 1, k, acc => fun h => match src.at_ k h with
    | none => .no
    | some none => .ok acc h
    | some (some w) => ((g w (wipeM ρ vs)).bind fun ρ1 => (e ρ1).bind fun y => fun h => match y with
          | .str x => if acc.length + 1 < 64 then scM src vs g e ρ n (k + 1) (RQ.addL x acc) h else .no
          | _ => .no) h
def eSc (i : IM) (vs : List Nat) (g : GM) (e : EM) : EM := fun ρ => (i ρ).bind fun src => (scM src vs g e ρ (src.cnt + 1) 0 []).bind fun L => lay (.stx L)

theorem mv (i : Nat) {x : PySem.Str} {pos : Pos} (hN : X.N[i]? = some x := by rfl) (hv : Vis X.env.scope x := by first | exact Or.inl rfl | exact Or.inr (Or.inl rfl) | exact Or.inr (Or.inr rfl)) (hd : (x == ("__debug__" : PySem.Str)) = false := by decide) (hcd : (x == ("__classdict__" : PySem.Str)) = false := by decide) : ME X (.Name x pos) (eVar i) := me_var hN hv hd hcd
def gTL (n : Nat) (g : GMs) : GM := fun w ρ h => match dsq h w with
  | some ws => if ws.length = n then g ws ρ h else .no
  | none => .no
end
end MM

set_option maxRecDepth 100000
set_option maxHeartbeats 4000000
namespace MM
open PySem PySem.Spec PyProof.Rows L2
section
variable {X : Cx}
def gL (n : Nat) (g : GMs) : GM := fun w ρ h => match w with
  | .obj i => match rdL h i with
    | some ws => if ws.length = n then g ws ρ h else .no
    | none => .no
  | _ => .no

theorem PE.some {ι : Type} {e : Expr} {t : ι → TE} (h : ∀ i, PE X e (t i)) : PE X e (fun σ H Q => ∃ i, t i σ H Q) := ⟨fun pins s σ H Q I ⟨i, z⟩ => (h i).run pins s σ H Q I z⟩
def callV (tab : List (PySem.Str × FM)) (w : Wv) (ws : List Wv) : M Wv := fun h => match w with
  | .glob x => match tab.lookup x with
    | some f => f ws h
    | none => .no
  | _ => .no
def eCallV (tab : List (PySem.Str × FM)) (i : Nat) (a : AM) : EM := fun ρ => (eVar i ρ).bind fun w => (a ρ).bind fun ws => callV tab w ws
structure Dv (P : Program) (w : World) (K : PySem.W.Frag) (mg : PySem.Str → Option Value) (base : Heap) (k : Nat) (p : PySem.Str × FM) : Prop where
  ex : ∃ j, Df P w K mg base k p.1 j p.2 ∧ Arity j p.2
theorem lookup_mem {tab : List (PySem.Str × FM)} {x : PySem.Str} {f : FM} (h : tab.lookup x = some f) : (x, f) ∈ tab := by
  induction tab with
  | nil => cases h
  | cons p t ih =>
    obtain ⟨y, g⟩ := p
    rw [List.lookup_cons] at h
    cases q : x == y with
    | true =>
      rw [q] at h
      cases h
      rw [beq_iff_eq.mp q]
      exact List.mem_cons_self
    | false => rw [q] at h; exact List.mem_cons_of_mem _ (ih h)
theorem me_cv {i k : Nat} {x : PySem.Str} {p pos : Pos} {e : Expr} {es : List Expr} {tab : List (PySem.Str × FM)} {ma : AM} (d : ∀ q ∈ tab, Dv X.prog X.w X.K X.mg X.base k q) (hr : Room k X.A) (hN : X.N[i]? = some x) (hv : Vis X.env.scope x) (ha : MA X (e :: es) ma)
    (hd : (x == ("__debug__" : PySem.Str)) = false := by decide) (hcd : (x == ("__classdict__" : PySem.Str)) = false := by decide)
    (he : starEach (e :: es) X.env = (false, eval e X.env) :: starEach es X.env := by rfl) (hpl : (backTo pos (starEach es X.env)).any (·.1) = false := by rfl) : ME X (.Call (.Name x p) (e :: es) [] pos) (eCallV tab i ma) := by
  have fam : ∀ z : { q : (PySem.Str × FM) × Addr × Nat // q.1 ∈ tab ∧ X.mg q.1.1 = some (.ref q.2.1) ∧ C8.CalAt X.prog X.w X.K X.mg X.base k q.2.1 (spF (cfg X) q.2.2 q.1.2) ∧ Arity q.2.2 q.1.2 }, PE X (.Call (.Name x p) (e :: es) [] pos) (C8.tCallV i z.1.2.1 z.1.2.1 (spF (cfg X) z.1.2.2 z.1.1.2) (spF (cfg X) z.1.2.2 z.1.1.2) (mA (cfg X) ma)) :=
    fun z => C8.pe_cv z.2.2.2.1 z.2.2.2.1 hr (Nat.le_refl _) (Nat.le_refl _) hN hv ha hd hcd he hpl
  refine PE.imp (PE.some fam) fun σ H Q ⟨μ, ρ, h, w, h', A, e, n⟩ => ?_
  obtain ⟨w0, h0, e0, f0⟩ := bind_ok e
  obtain ⟨ws, h1, e1, f1⟩ := bind_ok f0
  clear e f0
  unfold eVar at e0
  split at e0
  · next w0' q0 =>
    cases e0
    obtain ⟨v, hv2, pv⟩ := A.sl.at q0
    unfold callV at f1
    split at f1
    · next x0 =>
      cases q : tab.lookup x0 with
      | none => simp only [q] at f1; cases f1
      | some f =>
        simp only [q] at f1
        obtain ⟨a, rfl, hm⟩ := pv.glob_inv
        obtain ⟨j, df, ar⟩ := (d _ (lookup_mem q)).ex
        obtain ⟨fa, fd, ps, hm2, kp, b, F⟩ := df.ex
        have hm : X.mg x0 = some (.ref a) := hm
        rw [hm] at hm2
        cases hm2
        refine ⟨⟨((x0, f), a, j), lookup_mem q, hm, ⟨fd, ps, F, kp, b⟩, ar⟩, .inl ⟨hv2, ?_⟩⟩
        exact mA_first A e1 fun μ1 vs H1 g1 A1 p1 => ⟨μ1, h1, ws, w, h', A1.rel, p1, ar _ _ _ _ f1, f1, n.after g1⟩
    · cases f1
  · cases e0

def tStepL (K : PySem.W.Frag) (te ts : TE) : TE := fun σ H Q => te σ H fun x H1 => ts σ H1 fun y H2 => ∃ a xs k, x = .ref a ∧ y = .int k ∧ SqL K H2 a xs ∧ ((k = -1 ∧ ∀ p, H2 p = none → Q (.ref p) (upd H2 p (.lst xs.reverse))) ∨ (k = 1 ∧ ∀ p, H2 p = none → Q (.ref p) (upd H2 p (.lst xs))))
def stepM : F2 := fun a b h => match a, b with
  | .obj i, .int k => match rdL h i with
    | some ws => if k = -1 then lay (.lst ws.reverse) h else if k = 1 then lay (.lst ws) h else .no
    | none => .no
  | _, _ => .no

def mPairs : List (EM × EM) → Env → M (List (Wv × Wv))
  | [], _ => M.pure []
  | (k, v) :: r, ρ => (k ρ).bind fun x => (v ρ).bind fun y => (mPairs r ρ).bind fun ps => M.pure ((x, y) :: ps)
def keyPairs : List (Wv × Wv) → Option (List (Key × Wv))
  | [] => some []
  | (k, v) :: r => match keyOf k, keyPairs r with
    | some q, some t => some ((q, v) :: t)
    | _, _ => none
def mergeKW (kvs more : List (Key × Wv)) : List (Key × Wv) := more.foldl (fun acc kv => putKW acc kv.1 kv.2) kvs
def eDisp (ps : List (EM × EM)) : EM := fun ρ => (mPairs ps ρ).bind fun xs => fun h => match keyPairs xs with
  | some kvs => if kvs.length ≤ 15 then lay (.dk (mergeKW [] kvs)) h else .no
  | none => .no
abbrev Rvv (c : Cfg) (μ : List Addr) (H : Hp) : List (V × V) → List (Wv × Wv) → Prop := Paired fun p q => Rp c μ H p.1 q.1 ∧ Rp c μ H p.2 q.2
theorem Rvv.mv {c : Cfg} {μ μ' : List Addr} {H H' : Hp} (g : Gw c μ H μ' H') {a : List (V × V)} {b : List (Wv × Wv)} (h : Rvv c μ H a b) : Rvv c μ' H' a b := Paired.mapP h fun _ _ z => ⟨z.1.mv g, z.2.mv g⟩
abbrev MPs (X : Cx) (pos : Pos) (keys : List (Option Expr)) (values : List Expr) (ps : List (EM × EM)) : Prop := PPs X pos keys values (ps.map fun p => (mE (cfg X) p.1, mE (cfg X) p.2))

def rUpdK : V → List V → Hp → VK → Prop := fun x xs H Q => ∃ d o ks ls, x = .ref d ∧ xs = [.ref o] ∧ H d = some (.dK ks) ∧ H o = some (.dK ls) ∧ d ≠ o ∧ ks.length + ls.length ≤ sizeLine ∧ Q .non (upd H d (.dK (mergeK ks ls)))
def updM : FT := fun w ws h => match w, ws with
  | .obj i, [.obj j] => match h[i]?, h[j]? with
    | some (.dk ks), some (.dk ls) => if i ≠ j ∧ ks.length + ls.length ≤ sizeLine then .ok .non (h.set i (.dk (mergeKW ks ls))) else .no
    | _, _ => .no
  | _, _ => .no
def isDk (w : Wv) (h : Hm) : Bool := match w with
  | .obj i => match h[i]? with
    | some (.dk _) => true
    | some (.dt _) => true
    | _ => false
  | _ => false
end
end MM

set_option maxRecDepth 100000
set_option maxHeartbeats 4000000
namespace MM
open PySem PySem.Spec PyProof.Rows L2
structure Bm (mg : PySem.Str → Option Value) : Prop where
  isinstance : mg "isinstance" = none
  len : mg "len" = none
  all : mg "all" = none
  any : mg "any" = none
  int : mg "int" = none
  bool : mg "bool" = none
  str : mg "str" = none
  tuple : mg "tuple" = none
  list : mg "list" = none
  set : mg "set" = none
  dict : mg "dict" = none
  sorted : mg "sorted" = none
  zip : mg "zip" = none
  max : mg "max" = none
  min : mg "min" = none
  repr : mg "repr" = none
  range : mg "range" = none
  enumerate : mg "enumerate" = none
  reversed : mg "reversed" = none
  ord : mg "ord" = none
  abs : mg "abs" = none
  sum : mg "sum" = none
theorem hu65 {k : Nat} {A : Around} (h : Room k A) : A.units + 65 < cLine := by
  have := h.un
  omega
section
variable {X : Cx}
theorem me_globE {x : PySem.Str} {pos : Pos} (hg : Gl X x) (hm : ∃ a, X.mg x = some (.ref a)) (hd : (x == ("__debug__" : PySem.Str)) = false := by decide) : ME X (.Name x pos) (eC (.glob x)) := by
  obtain ⟨a, hm⟩ := hm
  exact me_glob hg hm hd
def eNeg (a : EM) : EM := fun ρ => (a ρ).bind fun w => match w with
  | .int i => M.pure (.int (-i))
  | _ => M.no
theorem me_neg {a : Expr} {pos : Pos} {m : EM} (ha : ME X a m) : ME X (.UnaryOp .USub a pos) (eNeg m) := PE.imp (pe_un un_neg ha) fun σ H Q ⟨μ, ρ, h, w, h', A, e, n⟩ => by
  obtain ⟨x, h1, e1, e⟩ := bind_ok e
  refine mE_first A e1 fun μ1 v H1 g1 A1 p1 => ?_
  cases x with
  | int i => cases e; exact ⟨i, p1.int_inv, (n.after g1).now A1.rel (.int _)⟩
  | _ => cases e
theorem lc_all : LCall (cfg X) allM (rAll X.K) := lc_quant
theorem lc_any : LCall (cfg X) anyM (rAny X.K) := lc_quant
end
section
variable {P : Program} {w : World} {K : PySem.W.Frag} {mg : PySem.Str → Option Value} {base : Heap}
theorem Df.mono {k j n : Nat} {x : PySem.Str} {m : FM} (d : Df P w K mg base k x n m) (h : k ≤ j) : Df P w K mg base j x n m := by
  obtain ⟨f, fd, ps, a, b, c, F⟩ := d.ex
  exact ⟨f, fd, ps, a, b, c, F.mono h⟩
theorem dv_nil {k : Nat} : ∀ q ∈ ([] : List (PySem.Str × FM)), Dv P w K mg base k q := fun q h => absurd h (by simp)
theorem dv_cons {k j n : Nat} {x : PySem.Str} {m : FM} {tab : List (PySem.Str × FM)} (d : Df P w K mg base j x n m) (a : Arity n m) (h : j ≤ k) (t : ∀ q ∈ tab, Dv P w K mg base k q) : ∀ q ∈ (x, m) :: tab, Dv P w K mg base k q := fun q hq => by
  rcases List.mem_cons.mp hq with rfl | hq
  · exact ⟨n, d.mono h, a⟩
  · exact t q hq
theorem Fun.atM {x qual : PySem.Str} {st : Stmt} {f : Addr} {fd : FuncData} {N ps : List PySem.Str} {k : Nat} {n j : Nat} {b : SM} {A : Around} (F : Fun K x qual st f fd) (S : FnScope N ps (defScope st)) (hn : N.length = n) (hj : ps.length = j) (hr : Room (k + 1) A)
    (body : ∀ (cdv : Value) (outer : List PySem.Env) (s : Shared) (H : Hp) (E : XK), Room k (A.deeper (envOfC qual (defScope st) s.heap.objs.size f cdv)) → MSs (cxOf CX0 P w K mg base N qual (defScope st) f cdv A outer s H E).nox (defBody st) b) :
    RunAt P w K mg base CX0 A f fd ps (spF ⟨P, w, K, mg⟩ j (fun_ n j b)) := by
  refine L2.Fun.at F S (fun vs H Q E h => by rw [hj]; exact spF_len h) hr fun cdv outer s H vs Q E h => ⟨_, body cdv outer s H E (hr.deeper _), ?_⟩
  obtain ⟨μ, h, ws, u, h', R, p, l, e, nx⟩ := h
  unfold fun_ at e
  rw [if_pos l] at e
  obtain ⟨⟨fl, ρ'⟩, h1, e1, e⟩ := bind_ok e
  subst hn
  refine ⟨μ, _, h, fl, ρ', h1, at_start R p, e1, fun μ1 σ1 H1 g1 A1 => ?_⟩
  cases fl with
  | nx => cases e; exact nx μ1 _ H1 g1 A1.rel .non
  | ret w => cases e; exact fun v pv => nx μ1 v H1 g1 A1.rel pv
  | bk => cases e
  | ct => cases e
  | xc x => cases e
end

def spScr (K : PySem.W.Frag) (m : FM) : Sp := fun vs H Q _ => ∃ (a : Addr) (ns : List Int), vs = [.ref a] ∧ ns.length ≤ 63 ∧ Only H ∧ SqL K H a (ns.map V.int) ∧ (∃ h', m [.scr ns] [] = .ok (.bl true) h') ∧ ∀ H', Q (.bl true) H'
theorem scr_law {K : PySem.W.Frag} {m : FM} {H : Hp} {a : Addr} {ns : List Int} {E : XK} (hl : ns.length ≤ 63) (hO : Only H) (hS : SqL K H a (ns.map V.int)) (T : ∀ ns : List Int, ns.length ≤ 63 → ∃ h', m [.scr ns] [] = .ok (.bl true) h') : spScr K m [.ref a] H (fun v _ => v = .bl true) E :=
  ⟨a, ns, rfl, hl, hO, hS, T ns hl, fun _ => rfl⟩
theorem spScr_to {c : Cfg} {m : FM} {vs : List V} {H : Hp} {Q : VK} {E : XK} (h : spScr c.K m vs H Q E) : spF c 1 m vs H Q E := by
  obtain ⟨a, ns, rfl, hl, hO, hS, ⟨h', e⟩, q⟩ := h
  refine ⟨[], [], [.scr ns], _, h', ⟨rfl, List.nodup_nil, fun i a o z => by simp at z⟩, .cons (.scr ?_) .nil, rfl, e, fun μ v H' g R p => by rw [p.bl_inv]; exact q H'⟩
  rcases hS with (z | ⟨ob, z⟩) | z
  · rcases hO a with y | ⟨ob, xs, y⟩
    · rw [z] at y; cases y
    · rw [z] at y; cases y
  · exact .inl ⟨ob, z⟩
  · exact .inr z
theorem run_scr {P : Program} {w : World} {K : PySem.W.Frag} {mg : PySem.Str → Option Value} {fa : Addr} {m : FM} {x : PySem.Str}
    (h : ∃ fd : FuncData, (∀ (s : Shared) (v : Value), BindsTo s fd ⟨[v], []⟩ [(x, v)]) ∧ ∀ base : Heap, K.In base → base.Ns mainGlobals mg → RunAt P w K mg base CX0 callerA fa fd [x] (spF ⟨P, w, K, mg⟩ 1 m)) :
    ∃ fd : FuncData, (∀ (s : Shared) (v : Value), BindsTo s fd ⟨[v], []⟩ [(x, v)]) ∧ ∀ base : Heap, K.In base → base.Ns mainGlobals mg → RunAt P w K mg base CX0 callerA fa fd [x] (spScr K m) := by
  obtain ⟨fd, b, r⟩ := h
  exact ⟨fd, b, fun base k g outer s H args us vs Q E e0 hb rv hsp => r base k g outer s H args us vs Q E e0 hb rv (spScr_to (c := ⟨P, w, K, mg⟩) hsp)⟩
end MM

set_option maxRecDepth 100000
set_option maxHeartbeats 4000000
namespace GP
open PySem PySem.Spec PyProof.Rows L2 K01 MM
def m_is_whole : FM := fun_ 1 1 ((sRet (eAnd (eCall (isiM .int) (aCons (eVar 0) (aCons (eC (.raw (.ty "int"))) aNil))) (eNot (eCall (isiM .bl) (aCons (eVar 0) (aCons (eC (.raw (.ty "bool"))) aNil)))))))
def m_is_between : FM := fun_ 3 3 ((sRet (eAnd (eCall m_is_whole (aCons (eVar 0) aNil)) (eCh leI leI (eVar 1) (eVar 0) (eVar 2)))))
def m_is_place : FM := fun_ 1 1 ((sRet (eCall m_is_between (aCons (eVar 0) (aCons (eC (.int 0)) (aCons (eOp subM (eC (.int 64)) (eC (.int 1))) aNil))))))
def m_is_word : FM := fun_ 2 1 ((sSeq (sIf (tOrM (tNotM (tTru (eCall (isiM .str) (aCons (eVar 0) (aCons (eC (.raw (.ty "str"))) aNil))))) (tNotM (tOf (eCh leI leI (eC (.int 1)) (eCall lenM (aCons (eVar 0) aNil)) (eC (.int 6)))))) (sRet (eC (.bl false))) sNil)
    (sRet (eCall allM (aCons (eLc (iStrM (eVar 0)) [1] (gN 1) tYesM (eOp (inM false) (eVar 1) (eC (.str "abcdefghijklmnopqrstuvwxyz")))) aNil)))))
def m_is_ring_mark : FM := fun_ 3 1 ((sSeq (sIf (tOrM (tNotM (tTru (eCall (isiM .tup) (aCons (eVar 0) (aCons (eC (.raw (.ty "tuple"))) aNil))))) (tOf (eOp (eqB true) (eCall lenM (aCons (eVar 0) aNil)) (eC (.int 2))))) (sRet (eC (.bl false))) sNil)
    (sSeq (sAsg (eVar 0) (gT 2 (gsCons (gN 1) (gsCons (gN 2) gsNil))))
    (sRet (eAnd (eCall m_is_place (aCons (eVar 1) aNil)) (eCall m_is_word (aCons (eVar 2) aNil)))))))
def m_first_wrong : FM := fun_ 4 2 ((sSeq (sFor (iArgs enum (aCons (eVar 0) aNil)) (gT 2 (gsCons (gN 2) (gsCons (gN 3) gsNil))) (sIf (tOrM (tNotM (tTru (eCallV [("is_ring_mark", m_is_ring_mark), ("is_place", m_is_place)] 1 (aCons (eVar 3) aNil)))) (tOf (eOp (inM false) (eVar 3) (eSl (eVar 0) oNone (oSome (eVar 2)))))) (sRet (eVar 2)) sNil))
    (sRet (eC .non))))
def m_look_at_row : FM := fun_ 4 3 ((sSeq (sIf (tOrM (tNotM (tTru (eCall (isi2M .lst .tup) (aCons (eVar 0) (aCons (eTup (aCons (eC (.raw (.ty "list"))) (aCons (eC (.raw (.ty "tuple"))) aNil))) aNil))))) (tNotM (tOf (eCh leI leI (eC (.int 1)) (eCall lenM (aCons (eVar 0) aNil)) (eVar 1))))) sNo sNil)
    (sSeq (sSet 3 (eCall m_first_wrong (aCons (eVar 0) (aCons (eVar 2) aNil))))
    (sIf (tOf (eOp (isNB true) (eVar 3) (eC .non))) sNo sNil))))
def m_Ring___init__ : FM := fun_ 2 2 ((sSeq (sExpr (eCall m_look_at_row (aCons (eVar 1) (aCons (eC (.int 48)) (aCons (eC (.glob "is_ring_mark")) aNil)))))
    (sFldM "Ring" "own_marks" (eVar 0) (eCall sortM (aCons (eVar 1) aNil)))))
def m_Ring_houses : FM := fun_ 3 1 ((sRet (eCall sortM (aCons (eSc (iSeqM (eFld "Ring" "own_marks" (eVar 0))) [1, 2] (gT 2 (gsCons (gN 1) (gsCons (gN 2) gsNil))) (eVar 2)) aNil))))
def m_Ring_with_house : FM := fun_ 4 3 ((sSeq (sIf (tOrM (tNotM (tTru (eCall m_is_word (aCons (eVar 1) aNil)))) (tOf (eOp (inM false) (eVar 1) (eMeth "Ring" "houses" m_Ring_houses (eVar 0) aNil)))) sNo sNil)
    (sSeq (sExpr (eCall m_look_at_row (aCons (eVar 2) (aCons (eOp subM (eC (.int 48)) (eCall lenM (aCons (eFld "Ring" "own_marks" (eVar 0)) aNil))) (aCons (eC (.glob "is_place")) aNil)))))
    (sRet (eCall (mkC "Ring" m_Ring___init__) (aCons (eOp addM (eFld "Ring" "own_marks" (eVar 0)) (eLc (iSeqM (eVar 2)) [3] (gN 3) tYesM (eTup (aCons (eVar 3) (aCons (eVar 1) aNil))))) aNil))))))
def m_Ring_without : FM := fun_ 3 2 ((sSeq (sIf (tOrM (tNotM (tTru (eCall m_is_word (aCons (eVar 1) aNil)))) (tOf (eOp (inM true) (eVar 1) (eMeth "Ring" "houses" m_Ring_houses (eVar 0) aNil)))) sNo sNil)
    (sRet (eCall (mkC "Ring" m_Ring___init__) (aCons (eLc (iSeqM (eFld "Ring" "own_marks" (eVar 0))) [2] (gN 2) (tOf (eOp (eqB true) (eOp ixM (eVar 2) (eC (.int 1))) (eVar 1))) (eVar 2)) aNil)))))
def m_is_key : FM := fun_ 1 1 ((sRet (eCall m_is_word (aCons (eVar 0) aNil))))
def m_look_at_key : FM := fun_ 1 1 ((sIf (tNotM (tTru (eCall m_is_key (aCons (eVar 0) aNil)))) sNo sNil))
def m_place_of : FM := fun_ 3 1 ((sSeq (sExpr (eCall m_look_at_key (aCons (eVar 0) aNil)))
    (sSeq (sSet 1 (eC (.int 0)))
    (sSeq (sFor (iStrM (eVar 0)) (gN 2) (sSet 1 (eOp modM (eOp addM (eOp subM (eOp addM (eOp mulM (eC (.int 5)) (eVar 1)) (eCall ordM (aCons (eVar 2) aNil))) (eCall ordM (aCons (eC (.str "a")) aNil))) (eC (.int 1))) (eC (.int 64)))))
    (sRet (eVar 1))))))
def m_Ring_order : FM := fun_ 7 2 ((sSeq (sSet 2 (eCall m_place_of (aCons (eVar 1) aNil)))
    (sSeq (sSet 3 (eLc (iSeqM (eFld "Ring" "own_marks" (eVar 0))) [5, 6] (gT 2 (gsCons (gN 5) (gsCons (gN 6) gsNil))) (tOf (eOp geI (eVar 5) (eVar 2))) (eVar 6)))
    (sSeq (sSet 4 (eLc (iSeqM (eFld "Ring" "own_marks" (eVar 0))) [5, 6] (gT 2 (gsCons (gN 5) (gsCons (gN 6) gsNil))) (tOf (eOp ltI (eVar 5) (eVar 2))) (eVar 6)))
    (sRet (eCall listOf (aCons (eDc (iSeqM (eOp addM (eVar 3) (eVar 4))) [6] (gN 6) tYesM (eVar 6) (eC (.bl true))) aNil)))))))
def m_Ring_homes : FM := fun_ 3 3 ((sRet (eSl (eMeth "Ring" "order" m_Ring_order (eVar 0) (aCons (eVar 1) aNil)) oNone (oSome (eVar 2)))))
end GP

set_option maxRecDepth 100000
set_option maxHeartbeats 4000000
namespace GP
open PySem PySem.Spec PyProof.Rows L2 K01 MM
def m__law_pool : FM := fun_ 4 2 ((sSeq (sSet 2 (eC (.int 0)))
    (sSeq (sIf (tOf (eOp (eqB true) (eVar 0) (eLst aNil))) (sSet 2 (eOp ixM (eVar 0) (eOp modM (eVar 1) (eCall lenM (aCons (eVar 0) aNil))))) sNil)
    (sSeq (sIf (tOf (eOp geI (eVar 1) (eCall lenM (aCons (eVar 0) aNil)))) (sSet 2 (eOp ixM (eLst (aCons (eOp modM (eVar 2) (eC (.int 1000003))) (aCons (eOp fdivM (eVar 2) (eOp powM (eC (.int 10)) (eC (.int 18)))) aNil))) (eCall intOf (aCons (eOp geI (eVar 2) (eOp powM (eC (.int 10)) (eC (.int 36)))) aNil)))) sNil)
    (sSeq (sSet 3 (eOp modM (eOp mulM (eOp addM (eOp addM (eOp modM (eVar 2) (eC (.int 2147483629))) (eOp mulM (eC (.int 104729)) (eVar 1))) (eC (.int 11))) (eC (.int 48271))) (eC (.int 2147483647))))
    (sRet (eLst (aCons (eOp mulM (eVar 2) (eCall intOf (aCons (eOp geI (eVar 2) (eOp powM (eC (.int 10)) (eC (.int 18)))) aNil))) (aCons (eVar 3) aNil)))))))))
def m__law_take : FM := fun_ 3 2 ((sSeq (sIf (tOf (eOp gtI (eOp ixM (eVar 0) (eC (.int 0))) (eC (.int 0)))) (sSeq (sSet 2 (eOp modM (eOp ixM (eVar 0) (eC (.int 0))) (eVar 1)))
    (sSeq (sAsg (eOp fdivM (eOp ixM (eVar 0) (eC (.int 0))) (eVar 1)) (gIx (eVar 0) (eC (.int 0))))
    (sRet (eVar 2)))) sNil)
    (sSeq (sAsg (eOp modM (eOp addM (eOp mulM (eOp ixM (eVar 0) (eC (.int 1))) (eC (.int 48271))) (eC (.int 11))) (eC (.int 2147483647))) (gIx (eVar 0) (eC (.int 1))))
    (sRet (eOp modM (eOp fdivM (eOp modM (eOp mulM (eOp ixM (eVar 0) (eC (.int 1))) (eOp ixM (eVar 0) (eC (.int 1)))) (eC (.int 2147483629))) (eC (.int 64))) (eVar 1))))))
end GP

set_option maxRecDepth 100000
set_option maxHeartbeats 4000000
namespace MM
open PySem PySem.Spec PyProof.Rows L2

theorem bind_run {α β : Type} {m : M α} {f : α → M β} {h : Hm} {a : α} {h' : Hm} (e : m h = .ok a h') : (m.bind f) h = f a h' := by
  unfold M.bind; rw [e]; rfl
def Pu {α : Type} (m : M α) (h : Hm) (a : α) : Prop := ∃ g, m h = .ok a (h ++ g)
theorem Pu.now {α : Type} {m : M α} {h : Hm} {a : α} (e : m h = .ok a h) : Pu m h a := ⟨[], by rw [List.append_nil]; exact e⟩
theorem Pu.bind {α β : Type} {m : M α} {f : α → M β} {h : Hm} {a : α} {b : β} (p : Pu m h a) (q : ∀ g, Pu (f a) (h ++ g) b) : Pu (m.bind f) h b := by
  obtain ⟨g, e⟩ := p
  obtain ⟨g', e'⟩ := q g
  exact ⟨g ++ g', by rw [bind_run e, e', List.append_assoc]⟩
theorem Pu.pure {α : Type} {h : Hm} {a : α} : Pu (M.pure a) h a := Pu.now rfl
theorem Pu.c {ρ : Env} {h : Hm} {w : Wv} : Pu (eC w ρ) h w := Pu.now rfl
theorem Pu.op {f : F2} {a b : EM} {ρ : Env} {h : Hm} {x y z : Wv} (p : Pu (a ρ) h x) (q : ∀ g, Pu (b ρ) (h ++ g) y) (r : ∀ g, Pu (f x y) (h ++ g) z) : Pu (eOp f a b ρ) h z :=
  p.bind fun g => (q g).bind fun g' => by rw [List.append_assoc]; exact r _
theorem Pu.nil {ρ : Env} {h : Hm} : Pu (aNil ρ) h [] := Pu.now rfl
theorem Pu.cons {e : EM} {r : AM} {ρ : Env} {h : Hm} {w : Wv} {ws : List Wv} (p : Pu (e ρ) h w) (q : ∀ g, Pu (r ρ) (h ++ g) ws) : Pu (aCons e r ρ) h (w :: ws) :=
  p.bind fun g => (q g).bind fun g' => Pu.pure
theorem Pu.call {f : FM} {a : AM} {ρ : Env} {h : Hm} {ws : List Wv} {w : Wv} (p : Pu (a ρ) h ws) (q : ∀ g, Pu (f ws) (h ++ g) w) : Pu (eCall f a ρ) h w := p.bind q
theorem Pu.tOf {e : EM} {ρ : Env} {h : Hm} {b : Bool} (p : Pu (e ρ) h (.bl b)) : Pu (MM.tOf e ρ) h b := p.bind fun g => Pu.now rfl
theorem Pu.tTru {e : EM} {ρ : Env} {h : Hm} {w : Wv} {b : Bool} (p : Pu (e ρ) h w) (q : ∀ g, truM w (h ++ g) = .ok b (h ++ g)) : Pu (MM.tTru e ρ) h b := p.bind fun g => Pu.now (q g)
theorem Pu.tNot {t : TM} {ρ : Env} {h : Hm} {b : Bool} (p : Pu (t ρ) h b) : Pu (tNotM t ρ) h (!b) := p.bind fun g => Pu.pure
theorem Pu.tAnd {a t : TM} {ρ : Env} {h : Hm} {x y : Bool} (p : Pu (a ρ) h x) (q : x = true → ∀ g, Pu (t ρ) (h ++ g) y) : Pu (tAndM a t ρ) h (x && y) := p.bind fun g => by
  cases x with
  | true => exact q rfl g
  | false => exact Pu.pure
theorem Pu.tOr {a t : TM} {ρ : Env} {h : Hm} {x y : Bool} (p : Pu (a ρ) h x) (q : x = false → ∀ g, Pu (t ρ) (h ++ g) y) : Pu (tOrM a t ρ) h (x || y) := p.bind fun g => by
  cases x with
  | true => exact Pu.pure
  | false => exact q rfl g
theorem Pu.eAnd {a b : EM} {ρ : Env} {h : Hm} {x : Bool} {w : Wv} (p : Pu (a ρ) h (.bl x)) (q : x = true → ∀ g, Pu (b ρ) (h ++ g) w) (q0 : x = false → w = .bl false) : Pu (MM.eAnd a b ρ) h w := p.bind fun g => by
  show Pu ((asB (.bl x)).bind _) _ _
  refine (Pu.now rfl : Pu (asB (.bl x)) (h ++ g) x).bind fun g' => ?_
  cases x with
  | true => rw [List.append_assoc]; exact q rfl _
  | false => rw [q0 rfl]; exact Pu.pure
theorem Pu.eNot {a : EM} {ρ : Env} {h : Hm} {x : Bool} (p : Pu (a ρ) h (.bl x)) : Pu (MM.eNot a ρ) h (.bl (!x)) := p.bind fun g => (Pu.now rfl : Pu (asB (.bl x)) (h ++ g) x).bind fun g' => Pu.pure
theorem Pu.eIf {t : TM} {a b : EM} {ρ : Env} {h : Hm} {k : Bool} {w : Wv} (p : Pu (t ρ) h k) (q : k = true → ∀ g, Pu (a ρ) (h ++ g) w) (r : k = false → ∀ g, Pu (b ρ) (h ++ g) w) : Pu (MM.eIf t a b ρ) h w := p.bind fun g => by
  cases k with
  | true => exact q rfl g
  | false => exact r rfl g
theorem Pu.eTup {a : AM} {ρ : Env} {h : Hm} {ws : List Wv} (p : Pu (a ρ) h ws) (l : ws.length ≤ 1000000) : Pu (MM.eTup a ρ) h (.tup ws) := p.bind fun g => by
  rw [if_pos (show small ws = true from decide_eq_true (by rw [sizeLine_eq]; omega))]; exact Pu.pure

theorem Pu.seq {a b : SM} {ρ ρ1 : Env} {h : Hm} {r : Fl × Env} (p : Pu (a ρ) h (.nx, ρ1)) (q : ∀ g, Pu (b ρ1) (h ++ g) r) : Pu (sSeq a b ρ) h r := p.bind q
theorem Pu.ret {e : EM} {ρ : Env} {h : Hm} {w : Wv} (p : Pu (e ρ) h w) : Pu (sRet e ρ) h (.ret w, ρ) := p.bind fun g => Pu.pure
theorem Pu.set {i : Nat} {e : EM} {ρ : Env} {h : Hm} {w : Wv} (p : Pu (e ρ) h w) : Pu (sSet i e ρ) h (.nx, ρ.set i (some w)) := p.bind fun g => Pu.pure
theorem Pu.sIf {t : TM} {a b : SM} {ρ : Env} {h : Hm} {k : Bool} {r : Fl × Env} (p : Pu (t ρ) h k) (q : k = true → ∀ g, Pu (a ρ) (h ++ g) r) (q0 : k = false → ∀ g, Pu (b ρ) (h ++ g) r) : Pu (MM.sIf t a b ρ) h r := p.bind fun g => by
  cases k with
  | true => exact q rfl g
  | false => exact q0 rfl g
theorem Pu.sNil {ρ : Env} {h : Hm} : Pu (MM.sNil ρ) h (.nx, ρ) := Pu.now rfl
theorem Pu.fn {n k : Nat} {b : SM} {ws : List Wv} {h : Hm} {w : Wv} {ρ : Env} (l : ws.length = k) (p : Pu (b (startM n ws)) h (.ret w, ρ)) : Pu (fun_ n k b ws) h w := by
  unfold fun_
  rw [if_pos l]
  exact p.bind fun g => Pu.pure

theorem at_app {h : Hm} {i : Nat} {o : Ob} (e : h[i]? = some o) (g : Hm) : (h ++ g)[i]? = some o := by
  rw [List.getElem?_append_left (List.getElem?_eq_some_iff.mp e).1]; exact e
theorem rdL_app {h : Hm} {i : Nat} {ws : List Wv} (e : rdL h i = some ws) (g : Hm) : rdL (h ++ g) i = some ws := by
  unfold rdL at e ⊢
  cases q : h[i]? with
  | none => rw [q] at e; cases e
  | some o => rw [at_app q g]; rw [q] at e; exact e
theorem rdL_new {h : Hm} {ws : List Wv} (g : Hm) : rdL (h ++ [.lst ws] ++ g) h.length = some ws := by
  unfold rdL
  rw [List.append_assoc, List.getElem?_append_right (Nat.le_refl _), Nat.sub_self]
  rfl

def Its (src : Src) (h : Hm) (its : List Wv) : Prop := ∀ k g, src.at_ k (h ++ g) = some its[k]?
theorem its_L {n i : Nat} {h : Hm} {ws : List Wv} (e : rdL h i = some ws) : MM.Its (sL n i) h ws := fun k g => by
  show (rdL (h ++ g) i).map _ = _
  rw [rdL_app e]; rfl
theorem its_R {lo : Int} {n : Nat} {h : Hm} : MM.Its (sR lo n) h ((List.range n).map fun (k : Nat) => Wv.int (lo + k)) := fun k g => by
  show some (if k < n then some (Wv.int (lo + k)) else none) = _
  rw [List.getElem?_map]
  by_cases hk : k < n
  · rw [if_pos hk, List.getElem?_range hk]; rfl
  · rw [if_neg hk, List.getElem?_eq_none (by rw [List.length_range]; omega)]; rfl
theorem its_S {x : PySem.Str} {h : Hm} : MM.Its (sS x) h (x.cps.toList.map fun ch => .str ⟨#[ch]⟩) := fun k g => by
  show some (x.cps[k]?.map _) = _
  rw [List.getElem?_map, Array.getElem?_toList]
end MM

set_option maxRecDepth 100000
set_option maxHeartbeats 4000000
namespace MM
open PySem PySem.Spec PyProof.Rows L2

def wpM {α : Type} (m : M α) (h : Hm) (Q : α → Hm → Prop) : Prop := ∃ a h1, m h = .ok a h1 ∧ Q a h1
section
variable {α β : Type} {h : Hm} {ρ : Env}
theorem wp_ok {m : M α} {a : α} {h1 : Hm} {Q : α → Hm → Prop} (e : m h = .ok a h1) : wpM m h Q ↔ Q a h1 := by
  constructor
  · rintro ⟨b, h2, e2, q⟩
    rw [e] at e2; cases e2; exact q
  · exact fun q => ⟨a, h1, e, q⟩
theorem wp_mono {m : M α} {Q Q' : α → Hm → Prop} (w : wpM m h Q) (f : ∀ a h1, Q a h1 → Q' a h1) : wpM m h Q' := by
  obtain ⟨a, h1, e, q⟩ := w
  exact ⟨a, h1, e, f a h1 q⟩
theorem wp_bad {m : M α} {Q : α → Hm → Prop} (e : ∀ a h1, m h ≠ .ok a h1) : wpM m h Q ↔ False := ⟨fun ⟨a, h1, z, _⟩ => e a h1 z, fun z => z.elim⟩
theorem wp_bind {m : M α} {f : α → M β} {Q : β → Hm → Prop} : wpM (m.bind f) h Q ↔ wpM m h fun a h1 => wpM (f a) h1 Q := by
  constructor
  · rintro ⟨b, h2, e, q⟩
    obtain ⟨a, h1, e1, e2⟩ := bind_ok e
    exact ⟨a, h1, e1, b, h2, e2, q⟩
  · rintro ⟨a, h1, e1, b, h2, e2, q⟩
    exact ⟨b, h2, by rw [bind_run e1]; exact e2, q⟩
theorem wp_pure {a : α} {Q : α → Hm → Prop} : wpM (M.pure a) h Q ↔ Q a h := wp_ok rfl
theorem wp_no {Q : α → Hm → Prop} : wpM (M.no : M α) h Q ↔ False := wp_bad fun _ _ z => by cases z
theorem wp_lay {o : Ob} {Q : Wv → Hm → Prop} : wpM (lay o) h Q ↔ Q (.obj h.length) (h ++ [o]) := wp_ok rfl
theorem wp_ite {P : Prop} [Decidable P] {m m' : M α} {Q : α → Hm → Prop} : wpM (if P then m else m') h Q ↔ if P then wpM m h Q else wpM m' h Q := by
  by_cases p : P <;> simp only [p, if_true, if_false]
theorem wp_var {i : Nat} {Q : Wv → Hm → Prop} : wpM (eVar i ρ) h Q ↔ ∃ w, ρ[i]? = some (some w) ∧ Q w h := by
  unfold eVar
  constructor
  · rintro ⟨a, h1, e, q⟩
    split at e
    · next w z => cases e; exact ⟨_, z, q⟩
    · cases e
  · rintro ⟨w, e, q⟩
    refine ⟨w, h, ?_, q⟩
    simp only [e]
theorem wp_c {w : Wv} {Q : Wv → Hm → Prop} : wpM (eC w ρ) h Q ↔ Q w h := wp_ok rfl
theorem wp_op {f : F2} {a b : EM} {Q : Wv → Hm → Prop} : wpM (eOp f a b ρ) h Q ↔ wpM (a ρ) h fun x h1 => wpM (b ρ) h1 fun y h2 => wpM (f x y) h2 Q := by
  unfold eOp; simp only [wp_bind]
theorem wp_aNil {Q : List Wv → Hm → Prop} : wpM (aNil ρ) h Q ↔ Q [] h := wp_ok rfl
theorem wp_aCons {e : EM} {r : AM} {Q : List Wv → Hm → Prop} : wpM (aCons e r ρ) h Q ↔ wpM (e ρ) h fun w h1 => wpM (r ρ) h1 fun ws h2 => Q (w :: ws) h2 := by
  unfold aCons; simp only [wp_bind, wp_pure]
theorem wp_call {f : FM} {a : AM} {Q : Wv → Hm → Prop} : wpM (eCall f a ρ) h Q ↔ wpM (a ρ) h fun ws h1 => wpM (f ws) h1 Q := by
  unfold eCall; simp only [wp_bind]
theorem wp_tup {a : AM} {Q : Wv → Hm → Prop} : wpM (eTup a ρ) h Q ↔ wpM (a ρ) h fun ws h1 => ws.length ≤ sizeLine ∧ Q (.tup ws) h1 := by
  unfold eTup
  simp only [wp_bind, wp_ite, wp_pure, wp_no, small, decide_eq_true_eq]
  constructor <;> intro z <;> refine wp_mono z fun ws h1 q => ?_
  · split at q
    · next l => exact ⟨l, q⟩
    · exact q.elim
  · rw [if_pos q.1]; exact q.2
theorem wp_lst {a : AM} {Q : Wv → Hm → Prop} : wpM (eLst a ρ) h Q ↔ wpM (a ρ) h fun ws h1 => ws.length ≤ sizeLine ∧ Q (.obj h1.length) (h1 ++ [.lst ws]) := by
  unfold eLst
  simp only [wp_bind, wp_ite, wp_lay, wp_no, small, decide_eq_true_eq]
  constructor <;> intro z <;> refine wp_mono z fun ws h1 q => ?_
  · split at q
    · next l => exact ⟨l, q⟩
    · exact q.elim
  · rw [if_pos q.1]; exact q.2
theorem wp_asB {w : Wv} {Q : Bool → Hm → Prop} : wpM (asB w) h Q ↔ ∃ b, w = .bl b ∧ Q b h := by
  constructor
  · rintro ⟨b, h1, e, q⟩
    obtain ⟨rfl, rfl⟩ := asB_ok e
    exact ⟨b, rfl, q⟩
  · rintro ⟨b, rfl, q⟩
    exact ⟨b, h, rfl, q⟩
theorem wp_tOf {e : EM} {Q : Bool → Hm → Prop} : wpM (tOf e ρ) h Q ↔ wpM (e ρ) h fun w h1 => ∃ b, w = .bl b ∧ Q b h1 := by
  unfold tOf; simp only [wp_bind, wp_asB]
theorem wp_tTru {e : EM} {Q : Bool → Hm → Prop} : wpM (tTru e ρ) h Q ↔ wpM (e ρ) h fun w h1 => wpM (truM w) h1 Q := by
  unfold tTru; simp only [wp_bind]
theorem wp_tru_bl {b : Bool} {Q : Bool → Hm → Prop} : wpM (truM (.bl b)) h Q ↔ Q b h := wp_ok rfl
theorem wp_tru_non {Q : Bool → Hm → Prop} : wpM (truM .non) h Q ↔ Q false h := wp_ok rfl
theorem wp_tru_int {i : Int} {Q : Bool → Hm → Prop} : wpM (truM (.int i)) h Q ↔ Q (i != 0) h := wp_ok rfl
theorem wp_tru_tup {ws : List Wv} {Q : Bool → Hm → Prop} : wpM (truM (.tup ws)) h Q ↔ Q (!ws.isEmpty) h := wp_ok rfl
theorem wp_tAnd {a b : TM} {Q : Bool → Hm → Prop} : wpM (tAndM a b ρ) h Q ↔ wpM (a ρ) h fun x h1 => if x = true then wpM (b ρ) h1 Q else Q false h1 := by
  unfold tAndM; simp only [wp_bind, wp_ite, wp_pure]
theorem wp_tOr {a b : TM} {Q : Bool → Hm → Prop} : wpM (tOrM a b ρ) h Q ↔ wpM (a ρ) h fun x h1 => if x = true then Q true h1 else wpM (b ρ) h1 Q := by
  unfold tOrM; simp only [wp_bind, wp_ite, wp_pure]
theorem wp_tNot {a : TM} {Q : Bool → Hm → Prop} : wpM (tNotM a ρ) h Q ↔ wpM (a ρ) h fun x h1 => Q (!x) h1 := by
  unfold tNotM; simp only [wp_bind, wp_pure]
theorem wp_tYes {Q : Bool → Hm → Prop} : wpM (tYesM ρ) h Q ↔ Q true h := wp_ok rfl
theorem wp_eAnd {a b : EM} {Q : Wv → Hm → Prop} : wpM (eAnd a b ρ) h Q ↔ wpM (a ρ) h fun x h1 => ∃ k, x = .bl k ∧ if k = true then wpM (b ρ) h1 Q else Q (.bl false) h1 := by
  unfold eAnd; simp only [wp_bind, wp_asB, wp_ite, wp_pure]
theorem wp_eOr {a b : EM} {Q : Wv → Hm → Prop} : wpM (eOr a b ρ) h Q ↔ wpM (a ρ) h fun x h1 => ∃ k, x = .bl k ∧ if k = true then Q (.bl true) h1 else wpM (b ρ) h1 Q := by
  unfold eOr; simp only [wp_bind, wp_asB, wp_ite, wp_pure]
theorem wp_eNot {a : EM} {Q : Wv → Hm → Prop} : wpM (eNot a ρ) h Q ↔ wpM (a ρ) h fun x h1 => ∃ k, x = .bl k ∧ Q (.bl (!k)) h1 := by
  unfold eNot; simp only [wp_bind, wp_asB, wp_pure]
theorem wp_eIf {t : TM} {a b : EM} {Q : Wv → Hm → Prop} : wpM (eIf t a b ρ) h Q ↔ wpM (t ρ) h fun k h1 => if k = true then wpM (a ρ) h1 Q else wpM (b ρ) h1 Q := by
  unfold eIf; simp only [wp_bind, wp_ite]
theorem wp_eCh {f f' : F2} {a b d : EM} {Q : Wv → Hm → Prop} : wpM (eCh f f' a b d ρ) h Q ↔ wpM (a ρ) h fun x h1 => wpM (b ρ) h1 fun y h2 => wpM (f x y) h2 fun z h3 => ∃ k, z = .bl k ∧ if k = true then wpM (d ρ) h3 fun u h4 => wpM (f' y u) h4 Q else Q (.bl false) h3 := by
  unfold eCh; simp only [wp_bind, wp_asB, wp_ite, wp_pure]
theorem wp_eNeg {a : EM} {Q : Wv → Hm → Prop} : wpM (eNeg a ρ) h Q ↔ wpM (a ρ) h fun x h1 => ∃ i, x = .int i ∧ Q (.int (-i)) h1 := by
  unfold eNeg; simp only [wp_bind]
  constructor <;> intro z <;> refine wp_mono z fun x h1 q => ?_
  · cases x with
    | int i => exact ⟨i, rfl, wp_pure.mp q⟩
    | _ => exact (wp_no.mp q).elim
  · obtain ⟨i, rfl, q⟩ := q
    exact wp_pure.mpr q

theorem wp_sNil {Q : Fl × Env → Hm → Prop} : wpM (sNil ρ) h Q ↔ Q (.nx, ρ) h := wp_ok rfl
theorem wp_seq {a b : SM} {Q : Fl × Env → Hm → Prop} : wpM (sSeq a b ρ) h Q ↔ wpM (a ρ) h fun r h1 => match r.1 with | .nx => wpM (b r.2) h1 Q | .ret w => Q (.ret w, r.2) h1 | .bk => Q (.bk, r.2) h1 | .ct => Q (.ct, r.2) h1 | .xc x => Q (.xc x, r.2) h1 := by
  unfold sSeq; simp only [wp_bind]
  constructor <;> intro z <;> refine wp_mono z fun r h1 q => ?_
  · obtain ⟨fl, ρ1⟩ := r
    cases fl <;> first | exact q | exact wp_pure.mp q
  · obtain ⟨fl, ρ1⟩ := r
    cases fl <;> first | exact q | exact wp_pure.mpr q
theorem wp_ret {e : EM} {Q : Fl × Env → Hm → Prop} : wpM (sRet e ρ) h Q ↔ wpM (e ρ) h fun w h1 => Q (.ret w, ρ) h1 := by
  unfold sRet; simp only [wp_bind, wp_pure]
theorem wp_retN {Q : Fl × Env → Hm → Prop} : wpM (sRetN ρ) h Q ↔ Q (.ret .non, ρ) h := wp_ok rfl
theorem wp_expr {e : EM} {Q : Fl × Env → Hm → Prop} : wpM (sExpr e ρ) h Q ↔ wpM (e ρ) h fun w h1 => Q (.nx, ρ) h1 := by
  unfold sExpr; simp only [wp_bind, wp_pure]
theorem wp_set {i : Nat} {e : EM} {Q : Fl × Env → Hm → Prop} : wpM (sSet i e ρ) h Q ↔ wpM (e ρ) h fun w h1 => Q (.nx, ρ.set i (some w)) h1 := by
  unfold sSet; simp only [wp_bind, wp_pure]
theorem wp_sIf {t : TM} {a b : SM} {Q : Fl × Env → Hm → Prop} : wpM (sIf t a b ρ) h Q ↔ wpM (t ρ) h fun k h1 => if k = true then wpM (a ρ) h1 Q else wpM (b ρ) h1 Q := by
  unfold sIf; simp only [wp_bind, wp_ite]
theorem wp_sNo {Q : Fl × Env → Hm → Prop} : wpM (sNo ρ) h Q ↔ False := wp_bad fun _ _ z => by cases z
theorem wp_bk {Q : Fl × Env → Hm → Prop} : wpM (sBk ρ) h Q ↔ Q (.bk, ρ) h := wp_ok rfl
theorem wp_ct {Q : Fl × Env → Hm → Prop} : wpM (sCt ρ) h Q ↔ Q (.ct, ρ) h := wp_ok rfl
theorem wp_asg {e : EM} {g : GM} {Q : Fl × Env → Hm → Prop} : wpM (sAsg e g ρ) h Q ↔ wpM (e ρ) h fun w h1 => wpM (g w ρ) h1 fun ρ1 h2 => Q (.nx, ρ1) h2 := by
  unfold sAsg; simp only [wp_bind, wp_pure]
theorem wp_par {i j : Nat} {a : AM} {Q : Fl × Env → Hm → Prop} : wpM (sPar i j a ρ) h Q ↔ wpM (a ρ) h fun ws h1 => ∃ x y, ws = [x, y] ∧ Q (.nx, (ρ.set i (some x)).set j (some y)) h1 := by
  unfold sPar; simp only [wp_bind]
  constructor <;> intro z <;> refine wp_mono z fun ws h1 q => ?_
  · match ws, q with
    | [x, y], q => exact ⟨x, y, rfl, wp_pure.mp q⟩
    | [], q => exact (wp_no.mp q).elim
    | [_], q => exact (wp_no.mp q).elim
    | _ :: _ :: _ :: _, q => exact (wp_no.mp q).elim
  · obtain ⟨x, y, rfl, q⟩ := q
    exact wp_pure.mpr q
theorem wp_gN {i : Nat} {w : Wv} {Q : Env → Hm → Prop} : wpM (gN i w ρ) h Q ↔ Q (ρ.set i (some w)) h := wp_ok rfl
theorem wp_gsNil {Q : Env → Hm → Prop} : wpM (gsNil [] ρ) h Q ↔ Q ρ h := wp_ok rfl
theorem wp_gsCons {g : GM} {r : GMs} {w : Wv} {ws : List Wv} {Q : Env → Hm → Prop} : wpM (gsCons g r (w :: ws) ρ) h Q ↔ wpM (g w ρ) h fun ρ1 h1 => wpM (r ws ρ1) h1 Q := wp_bind
theorem wp_gT {n : Nat} {g : GMs} {ws : List Wv} {Q : Env → Hm → Prop} : wpM (gT n g (.tup ws) ρ) h Q ↔ ws.length = n ∧ wpM (g ws ρ) h Q := by
  show wpM (if ws.length = n then g ws ρ else M.no) h Q ↔ _
  rw [wp_ite]
  by_cases l : ws.length = n
  · rw [if_pos l]; exact ⟨fun q => ⟨l, q⟩, fun q => q.2⟩
  · rw [if_neg l]; exact ⟨fun q => (wp_no.mp q).elim, fun q => absurd q.1 l⟩
theorem wp_fun {n k : Nat} {b : SM} {ws : List Wv} {Q : Wv → Hm → Prop} (l : ws.length = k) : wpM (fun_ n k b ws) h Q ↔ wpM (b (startM n ws)) h fun r h1 => match r.1 with | .nx => Q .non h1 | .ret w => Q w h1 | .bk => False | .ct => False | .xc _ => False := by
  unfold fun_
  rw [if_pos l, wp_bind]
  constructor <;> intro z <;> refine wp_mono z fun r h1 q => ?_
  · obtain ⟨fl, ρ1⟩ := r
    cases fl <;> first | exact wp_pure.mp q | exact wp_no.mp q
  · obtain ⟨fl, ρ1⟩ := r
    cases fl <;> first | exact wp_pure.mpr q | exact wp_no.mpr q
theorem wp_fun0 {n : Nat} {b : SM} {Q : Wv → Hm → Prop} : wpM (fun_ n 0 b []) h Q ↔ wpM (b (startM n [])) h fun r h1 => match r.1 with | .nx => Q .non h1 | .ret w => Q w h1 | .bk => False | .ct => False | .xc _ => False := wp_fun rfl
theorem wp_fun1 {n : Nat} {b : SM} {x0 : Wv} {Q : Wv → Hm → Prop} : wpM (fun_ n 1 b [x0]) h Q ↔ wpM (b (startM n [x0])) h fun r h1 => match r.1 with | .nx => Q .non h1 | .ret w => Q w h1 | .bk => False | .ct => False | .xc _ => False := wp_fun rfl
theorem wp_fun2 {n : Nat} {b : SM} {x0 x1 : Wv} {Q : Wv → Hm → Prop} : wpM (fun_ n 2 b [x0, x1]) h Q ↔ wpM (b (startM n [x0, x1])) h fun r h1 => match r.1 with | .nx => Q .non h1 | .ret w => Q w h1 | .bk => False | .ct => False | .xc _ => False := wp_fun rfl
theorem wp_fun3 {n : Nat} {b : SM} {x0 x1 x2 : Wv} {Q : Wv → Hm → Prop} : wpM (fun_ n 3 b [x0, x1, x2]) h Q ↔ wpM (b (startM n [x0, x1, x2])) h fun r h1 => match r.1 with | .nx => Q .non h1 | .ret w => Q w h1 | .bk => False | .ct => False | .xc _ => False := wp_fun rfl
theorem wp_fun4 {n : Nat} {b : SM} {x0 x1 x2 x3 : Wv} {Q : Wv → Hm → Prop} : wpM (fun_ n 4 b [x0, x1, x2, x3]) h Q ↔ wpM (b (startM n [x0, x1, x2, x3])) h fun r h1 => match r.1 with | .nx => Q .non h1 | .ret w => Q w h1 | .bk => False | .ct => False | .xc _ => False := wp_fun rfl
theorem wp_fun5 {n : Nat} {b : SM} {x0 x1 x2 x3 x4 : Wv} {Q : Wv → Hm → Prop} : wpM (fun_ n 5 b [x0, x1, x2, x3, x4]) h Q ↔ wpM (b (startM n [x0, x1, x2, x3, x4])) h fun r h1 => match r.1 with | .nx => Q .non h1 | .ret w => Q w h1 | .bk => False | .ct => False | .xc _ => False := wp_fun rfl
theorem wp_fun6 {n : Nat} {b : SM} {x0 x1 x2 x3 x4 x5 : Wv} {Q : Wv → Hm → Prop} : wpM (fun_ n 6 b [x0, x1, x2, x3, x4, x5]) h Q ↔ wpM (b (startM n [x0, x1, x2, x3, x4, x5])) h fun r h1 => match r.1 with | .nx => Q .non h1 | .ret w => Q w h1 | .bk => False | .ct => False | .xc _ => False := wp_fun rfl
theorem wp_fun7 {n : Nat} {b : SM} {x0 x1 x2 x3 x4 x5 x6 : Wv} {Q : Wv → Hm → Prop} : wpM (fun_ n 7 b [x0, x1, x2, x3, x4, x5, x6]) h Q ↔ wpM (b (startM n [x0, x1, x2, x3, x4, x5, x6])) h fun r h1 => match r.1 with | .nx => Q .non h1 | .ret w => Q w h1 | .bk => False | .ct => False | .xc _ => False := wp_fun rfl

variable {Q : Wv → Hm → Prop}
theorem wp_sub {i j : Int} : wpM (subM (.int i) (.int j)) h Q ↔ Q (.int (i - j)) h := wp_ok rfl
theorem wp_add_int {i j : Int} : wpM (addM (.int i) (.int j)) h Q ↔ Q (.int (i + j)) h := wp_ok rfl
theorem wp_pIc {C : Int → Int → Bool} {g : Int → Int → Wv} {i j : Int} (c : C i j = true) : wpM (pIc C g (.int i) (.int j)) h Q ↔ Q (g i j) h := by
  show wpM (if C i j = true then M.pure (g i j) else M.no) h Q ↔ _
  rw [if_pos c, wp_pure]
theorem wp_lt {i j : Int} : wpM (ltI (.int i) (.int j)) h Q ↔ Q (.bl (decide (i < j))) h := wp_ok rfl
theorem wp_le {i j : Int} : wpM (leI (.int i) (.int j)) h Q ↔ Q (.bl (decide (i ≤ j))) h := wp_ok rfl
theorem wp_gt {i j : Int} : wpM (gtI (.int i) (.int j)) h Q ↔ Q (.bl (decide (j < i))) h := wp_ok rfl
theorem wp_ge {i j : Int} : wpM (geI (.int i) (.int j)) h Q ↔ Q (.bl (decide (j ≤ i))) h := wp_ok rfl
theorem wp_eqI {i j : Int} : wpM (eqB false (.int i) (.int j)) h Q ↔ Q (.bl (decide (i = j))) h := wp_ok rfl
theorem wp_neI {i j : Int} : wpM (eqB true (.int i) (.int j)) h Q ↔ Q (.bl (!decide (i = j))) h := wp_ok rfl
theorem wp_eqS {i j : PySem.Str} : wpM (eqB false (.str i) (.str j)) h Q ↔ Q (.bl (decide (i = j))) h := wp_ok rfl
theorem wp_neS {i j : PySem.Str} : wpM (eqB true (.str i) (.str j)) h Q ↔ Q (.bl (!decide (i = j))) h := wp_ok rfl
theorem wp_isi {T : Ty} {w : Wv} {n : String} : wpM (isiM T [w, .raw (.ty n)]) h Q ↔ n = T.nm ∧ ∃ t, tyW h w = some t ∧ Q (.bl (t.sub T)) h := by
  unfold isiM
  constructor
  · rintro ⟨a, h1, e, q⟩
    simp only at e
    obtain ⟨l, e⟩ := ifD_ok' e
    cases z : tyW h w with
    | none => rw [z] at e; cases e
    | some t => rw [z] at e; cases e; exact ⟨l, t, rfl, q⟩
  · rintro ⟨l, t, z, q⟩
    exact ⟨_, h, by simp only [l, if_true, z], q⟩
theorem wp_len_str {x : PySem.Str} : wpM (lenM [.str x]) h Q ↔ x.length ≤ sizeLine ∧ Q (.int x.length) h := by
  unfold wpM lenM
  by_cases l : x.length ≤ sizeLine
  · simp only [l, if_true, true_and]; exact ⟨(fun ⟨a, h1, e, q⟩ => by cases e; exact q), fun q => ⟨_, _, rfl, q⟩⟩
  · simp only [l, if_false, false_and]; exact ⟨(fun ⟨a, h1, e, q⟩ => by cases e), fun q => q.elim⟩
theorem wp_len_tup {ws : List Wv} : wpM (lenM [.tup ws]) h Q ↔ Q (.int ws.length) h := wp_ok rfl
theorem wp_len_scr {ns : List Int} : wpM (lenM [.scr ns]) h Q ↔ Q (.int ns.length) h := wp_ok rfl
theorem wp_len_obj {i : Nat} {ws : List Wv} (e : rdL h i = some ws) : wpM (lenM [.obj i]) h Q ↔ Q (.int ws.length) h := by
  refine wp_ok ?_
  unfold rdL at e
  unfold lenM
  split at e
  · next us q => cases e; simp only [q]
  · next us q => cases e; simp only [q]
  · cases e
theorem wp_isN_non : wpM (isNB false .non .non) h Q ↔ Q (.bl true) h := wp_ok rfl
theorem wp_isN_int {i : Int} : wpM (isNB false (.int i) .non) h Q ↔ Q (.bl false) h := wp_ok rfl
theorem wp_notN_non : wpM (isNB true .non .non) h Q ↔ Q (.bl false) h := wp_ok rfl
theorem wp_notN_int {i : Int} : wpM (isNB true (.int i) .non) h Q ↔ Q (.bl true) h := wp_ok rfl
theorem wp_ix_obj {k : Nat} {ws : List Wv} {i : Int} {w : Wv} (r : rdL h k = some ws) (e : atI ws i = some w) : wpM (ixM (.obj k) (.int i)) h Q ↔ Q w h := wp_ok (by unfold ixM; simp only [r, e])
theorem wp_ix_scr {ns : List Int} {i : Int} {n : Int} (e : atI ns i = some n) : wpM (ixM (.scr ns) (.int i)) h Q ↔ Q (.int n) h := wp_ok (by unfold ixM; simp only [e])
theorem wp_fld {C f : PySem.Str} {e : EM} : wpM (eFld C f e ρ) h Q ↔ wpM (e ρ) h fun w h1 => wpM (getF f C w) h1 Q := by
  unfold eFld; simp only [wp_bind]
theorem wp_sFld {C f : PySem.Str} {o e : EM} {Q : Fl × Env → Hm → Prop} : wpM (sFldM C f o e ρ) h Q ↔ wpM (e ρ) h fun v h1 => wpM (o ρ) h1 fun w h2 => wpM (setF C f w v) h2 fun _ h3 => Q (.nx, ρ) h3 := by
  unfold sFldM; simp only [wp_bind, wp_pure]
theorem wp_meth {C m : PySem.Str} {f : FM} {o : EM} {a : AM} : wpM (eMeth C m f o a ρ) h Q ↔ wpM (o ρ) h fun w h1 => wpM (isC C m w) h1 fun _ h2 => wpM (a ρ) h2 fun ws h3 => wpM (f (w :: ws)) h3 Q := by
  unfold eMeth; simp only [wp_bind]
theorem wp_mkC {C : PySem.Str} {f : FM} {ws : List Wv} : wpM (mkC C f ws) h Q ↔ wpM (f (.obj h.length :: ws)) (h ++ [.ins C []]) fun r h1 => r = .non ∧ Q (.obj h.length) h1 := by
  unfold mkC
  show wpM ((f (.obj h.length :: ws)).bind fun r => match r with | .non => M.pure (.obj h.length) | _ => M.no) (h ++ [.ins C []]) Q ↔ _
  rw [wp_bind]
  constructor <;> intro z <;> refine wp_mono z fun r h1 q => ?_
  · cases r with
    | non => exact ⟨rfl, wp_pure.mp q⟩
    | _ => exact (wp_no.mp q).elim
  · obtain ⟨rfl, q⟩ := q
    exact wp_pure.mpr q
theorem wp_sl {e : EM} {l u : OM} : wpM (eSl e l u ρ) h Q ↔ wpM (e ρ) h fun w h1 => wpM (l ρ) h1 fun lo h2 => wpM (u ρ) h2 fun hi h3 => wpM (slM w lo hi) h3 Q := by
  unfold eSl; simp only [wp_bind]
theorem wp_oNone {Q : Option Int → Hm → Prop} : wpM (oNone ρ) h Q ↔ Q none h := wp_ok rfl
theorem wp_oSome {e : EM} {Q : Option Int → Hm → Prop} : wpM (oSome e ρ) h Q ↔ wpM (e ρ) h fun w h1 => ∃ i, w = .int i ∧ Q (some i) h1 := by
  unfold oSome; simp only [wp_bind]
  constructor <;> intro z <;> refine wp_mono z fun x h1 q => ?_
  · cases x with
    | int i => exact ⟨i, rfl, wp_pure.mp q⟩
    | _ => exact (wp_no.mp q).elim
  · obtain ⟨i, rfl, q⟩ := q
    exact wp_pure.mpr q
theorem wp_sl_tup {ws : List Wv} {lo hi : Option Int} : wpM (slM (.tup ws) lo hi) h Q ↔ Q (.tup (cutW ws lo hi)) h := wp_ok rfl
theorem wp_sl_obj {i : Nat} {ws : List Wv} {lo hi : Option Int} (e : rdL h i = some ws) : wpM (slM (.obj i) lo hi) h Q ↔ Q (.obj h.length) (h ++ [.lst (cutW ws lo hi)]) := wp_ok (by unfold slM; simp only [e]; rfl)
theorem wp_lc {i : IM} {vs : List Nat} {g : GM} {t : TM} {e : EM} : wpM (eLc i vs g t e ρ) h Q ↔ wpM (i ρ) h fun src h1 => wpM (lcM src vs g t e ρ (src.cnt + 1) 0 []) h1 fun ws h2 => Q (.obj h2.length) (h2 ++ [.lst ws]) := by
  unfold eLc; simp only [wp_bind, wp_lay]
theorem wp_dc {i : IM} {vs : List Nat} {g : GM} {t : TM} {ek ev : EM} : wpM (eDc i vs g t ek ev ρ) h Q ↔ wpM (i ρ) h fun src h1 => wpM (dcM src vs g t ek ev ρ (src.cnt + 1) 0 []) h1 fun ws h2 => Q (.obj h2.length) (h2 ++ [.dk ws]) := by
  unfold eDc; simp only [wp_bind, wp_lay]
theorem wp_sc {i : IM} {vs : List Nat} {g : GM} {e : EM} : wpM (eSc i vs g e ρ) h Q ↔ wpM (i ρ) h fun src h1 => wpM (scM src vs g e ρ (src.cnt + 1) 0 []) h1 fun ws h2 => Q (.obj h2.length) (h2 ++ [.stx ws]) := by
  unfold eSc; simp only [wp_bind, wp_lay]
theorem wp_for {i : IM} {g : GM} {b : SM} {Q : Fl × Env → Hm → Prop} : wpM (sFor i g b ρ) h Q ↔ wpM (i ρ) h fun src h1 => wpM (forM src g b (src.cnt + 1) 0 ρ) h1 Q := by
  unfold sFor; simp only [wp_bind]
theorem wp_iSeq {e : EM} {Q : Src → Hm → Prop} : wpM (iSeqM e ρ) h Q ↔ wpM (e ρ) h fun w h1 => wpM (srcOf w) h1 Q := by
  unfold iSeqM; simp only [wp_bind]
theorem wp_src_tup {ws : List Wv} {Q : Src → Hm → Prop} : wpM (srcOf (.tup ws)) h Q ↔ Q (sT ws) h := wp_ok rfl
theorem wp_iStr {e : EM} {Q : Src → Hm → Prop} : wpM (iStrM e ρ) h Q ↔ wpM (e ρ) h fun w h1 => ∃ x, w = .str x ∧ Q (sS x) h1 := by
  unfold iStrM; simp only [wp_bind]
  constructor <;> intro z <;> refine wp_mono z fun w h1 q => ?_
  · cases w with
    | str x => exact ⟨x, rfl, wp_pure.mp q⟩
    | _ => exact (wp_no.mp q).elim
  · obtain ⟨x, rfl, q⟩ := q
    exact wp_pure.mpr q
theorem wp_iArgs {f : List Wv → M Src} {a : AM} {Q : Src → Hm → Prop} : wpM (iArgs f a ρ) h Q ↔ wpM (a ρ) h fun ws h1 => wpM (f ws) h1 Q := by
  unfold iArgs; simp only [wp_bind]
theorem wp_rng1 {j : Int} {Q : Src → Hm → Prop} (b : rgB j = true) : wpM (rng1 [.int j]) h Q ↔ Q (sR 0 j.toNat) h := by
  show wpM (if rgB j = true then M.pure (sR 0 j.toNat) else M.no) h Q ↔ _
  rw [if_pos b, wp_pure]
end
end MM

set_option maxRecDepth 100000
set_option maxHeartbeats 4000000
namespace MM
open PySem PySem.Spec PyProof.Rows L2
section
variable {h : Hm} {ρ : Env}

theorem for_wp {src : Src} {g : GM} {b : SM} {its : List Wv} {Q : Fl × Env → Hm → Prop} (J : Nat → Env → Hm → Prop)
    (I : ∀ k ρ h, J k ρ h → src.at_ k h = some its[k]?)
    (step : ∀ k w ρ h, its[k]? = some w → J k ρ h → wpM (g w ρ) h fun ρ1 h1 => wpM (b ρ1) h1 fun r h2 => match r.1 with | .nx => J (k + 1) r.2 h2 | .ct => J (k + 1) r.2 h2 | .bk => Q (.nx, r.2) h2 | .ret w => Q (.ret w, r.2) h2 | .xc x => Q (.xc x, r.2) h2)
    (fin : ∀ ρ h, J its.length ρ h → Q (.nx, ρ) h) : ∀ (n k : Nat) (ρ : Env) (h : Hm), its.length - k < n → k ≤ its.length → J k ρ h → wpM (forM src g b n k ρ) h Q
  | 0, k, _, _, hn, _, _ => absurd hn (Nat.not_lt_zero _)
  | n + 1, k, ρ, h, hn, hk, j => by
    have ia := I k ρ h j
    cases q : its[k]? with
    | none =>
      have : its.length ≤ k := List.getElem?_eq_none_iff.mp q
      have e0 : k = its.length := by omega
      subst e0
      refine ⟨(.nx, ρ), h, ?_, fin ρ h j⟩
      unfold forM
      simp only [ia, q]
    | some w =>
      have kl : k < its.length := (List.getElem?_eq_some_iff.mp q).1
      obtain ⟨ρ1, h1, e1, r, h2, e2, z⟩ := step k w ρ h q j
      have run : ∀ x h3, (match r.1 with | .nx => forM src g b n (k + 1) r.2 | .ct => forM src g b n (k + 1) r.2 | .bk => M.pure (.nx, r.2) | .ret w => M.pure (.ret w, r.2) | .xc x => M.pure (.xc x, r.2)) h2 = .ok x h3 → forM src g b (n + 1) k ρ h = .ok x h3 := by
        intro x h3 e
        unfold forM
        simp only [ia, q]
        rw [bind_run e1, bind_run e2]
        exact e
      obtain ⟨fl, ρ2⟩ := r
      cases fl with
      | nx =>
        obtain ⟨x, h3, e, qq⟩ := for_wp J I step fin n (k + 1) ρ2 h2 (by omega) kl z
        exact ⟨x, h3, run x h3 e, qq⟩
      | ct =>
        obtain ⟨x, h3, e, qq⟩ := for_wp J I step fin n (k + 1) ρ2 h2 (by omega) kl z
        exact ⟨x, h3, run x h3 e, qq⟩
      | bk => exact ⟨_, _, run _ _ rfl, z⟩
      | ret w => exact ⟨_, _, run _ _ rfl, z⟩
      | xc x => exact ⟨_, _, run _ _ rfl, z⟩
theorem lc_wp {src : Src} {vs : List Nat} {g : GM} {t : TM} {e : EM} {its : List Wv} {Q : List Wv → Hm → Prop} (J : Nat → List Wv → Hm → Prop)
    (I : ∀ k acc h, J k acc h → src.at_ k h = some its[k]?) (few : ∀ k acc h, J k acc h → acc.length < sizeLine)
    (step : ∀ k w acc h, its[k]? = some w → J k acc h → wpM (g w (wipeM ρ vs)) h fun ρ1 h1 => wpM (t ρ1) h1 fun b h2 => if b = true then wpM (e ρ1) h2 fun y h3 => J (k + 1) (acc ++ [y]) h3 else J (k + 1) acc h2)
    (fin : ∀ acc h, J its.length acc h → Q acc h) : ∀ (n k : Nat) (acc : List Wv) (h : Hm), its.length - k < n → k ≤ its.length → J k acc h → wpM (lcM src vs g t e ρ n k acc) h Q
  | 0, k, _, _, hn, _, _ => absurd hn (Nat.not_lt_zero _)
  | n + 1, k, acc, h, hn, hk, j => by
    have ia := I k acc h j
    cases q : its[k]? with
    | none =>
      have : its.length ≤ k := List.getElem?_eq_none_iff.mp q
      have e0 : k = its.length := by omega
      subst e0
      refine ⟨acc, h, ?_, fin acc h j⟩
      unfold lcM
      simp only [ia, q]
    | some w =>
      have kl : k < its.length := (List.getElem?_eq_some_iff.mp q).1
      obtain ⟨ρ1, h1, e1, b, h2, e2, z⟩ := step k w acc h q j
      cases b with
      | false =>
        obtain ⟨x, h3, e3, qq⟩ := lc_wp J I few step fin n (k + 1) acc h2 (by omega) kl z
        refine ⟨x, h3, ?_, qq⟩
        unfold lcM
        simp only [ia, q]
        rw [bind_run e1, bind_run e2]
        exact e3
      | true =>
        rw [if_pos rfl] at z
        obtain ⟨y, h3, e3, z⟩ := z
        obtain ⟨x, h4, e4, qq⟩ := lc_wp J I few step fin n (k + 1) (acc ++ [y]) h3 (by omega) kl z
        refine ⟨x, h4, ?_, qq⟩
        unfold lcM
        simp only [ia, q]
        rw [bind_run e1, bind_run e2, if_pos rfl, bind_run e3, if_pos (few k acc h j)]
        exact e4
theorem lc_const {src : Src} {vs : List Nat} {g : GM} {t : TM} {e : EM} {its : List Wv} {Q : List Wv → Hm → Prop} (B : Wv → Bool) (f : Wv → Wv)
    (I : ∀ k, src.at_ k h = some its[k]?) (hc : src.cnt = its.length) (few : its.length < 1000000)
    (step : ∀ w ∈ its, wpM (g w (wipeM ρ vs)) h fun ρ1 h1 => h1 = h ∧ wpM (t ρ1) h fun b h2 => h2 = h ∧ b = B w ∧ (B w = true → wpM (e ρ1) h fun y h3 => h3 = h ∧ y = f w)) :
    wpM (lcM src vs g t e ρ (src.cnt + 1) 0 []) h Q ↔ Q ((its.filter B).map f) h := by
  have main : wpM (lcM src vs g t e ρ (src.cnt + 1) 0 []) h fun ws h1 => ws = (its.filter B).map f ∧ h1 = h := by
    refine lc_wp (fun k acc h1 => h1 = h ∧ acc = ((its.take k).filter B).map f ∧ k ≤ its.length) (its := its) (fun k acc h1 z => by rw [z.1]; exact I k) (fun k acc h1 z => ?_) (fun k w acc h1 q z => ?_) (fun acc h1 z => ⟨?_, z.1⟩) _ 0 [] h (by omega) (Nat.zero_le _) ⟨rfl, by simp, Nat.zero_le _⟩
    · rw [z.2.1, List.length_map, sizeLine_eq]
      have := List.length_filter_le B (its.take k)
      rw [List.length_take] at this
      omega
    · obtain ⟨rfl, rfl, kl⟩ := z
      have wm := List.mem_of_getElem? q
      have kl := (List.getElem?_eq_some_iff.mp q).1
      have et : its.take (k + 1) = its.take k ++ [w] := by
        rw [List.take_succ, q]; rfl
      refine wp_mono (step w wm) fun ρ1 h2 z => ?_
      obtain ⟨rfl, z⟩ := z
      refine wp_mono z fun b h3 z => ?_
      obtain ⟨rfl, rfl, z⟩ := z
      cases hb : B w with
      | false =>
        rw [if_neg Bool.false_ne_true]
        exact ⟨rfl, by rw [et, List.filter_append, List.filter_cons_of_neg (by rw [hb]; exact Bool.false_ne_true)]; simp, kl⟩
      | true =>
        rw [if_pos rfl]
        refine wp_mono (z hb) fun y h4 z => ?_
        obtain ⟨rfl, rfl⟩ := z
        exact ⟨rfl, by rw [et, List.filter_append, List.filter_cons_of_pos hb, List.map_append]; rfl, kl⟩
    · rw [z.2.1, List.take_of_length_le (Nat.le_refl _)]
  obtain ⟨ws, h1, e1, rfl, rfl⟩ := main
  exact wp_ok e1
theorem lc_ext {src : Src} {vs : List Nat} {g : GM} {t : TM} {e : EM} {its : List Wv} {Q : List Wv → Hm → Prop} (B : Wv → Bool) (f : Wv → Wv)
    (I : ∀ k g, src.at_ k (h ++ g) = some its[k]?) (hc : src.cnt = its.length) (few : its.length < 1000000)
    (step : ∀ w ∈ its, ∀ g0, wpM (g w (wipeM ρ vs)) (h ++ g0) fun ρ1 h1 => ∃ g1, h1 = h ++ g1 ∧ wpM (t ρ1) h1 fun b h2 => ∃ g2, h2 = h ++ g2 ∧ b = B w ∧ (B w = true → wpM (e ρ1) h2 fun y h3 => ∃ g3, h3 = h ++ g3 ∧ y = f w))
    (q : ∀ g, Q ((its.filter B).map f) (h ++ g)) : wpM (lcM src vs g t e ρ (src.cnt + 1) 0 []) h Q := by
  refine lc_wp (fun k acc h1 => (∃ g, h1 = h ++ g) ∧ acc = ((its.take k).filter B).map f ∧ k ≤ its.length) (its := its) (fun k acc h1 z => ?_) (fun k acc h1 z => ?_) (fun k w acc h1 q z => ?_) (fun acc h1 z => ?_) _ 0 [] h (by omega) (Nat.zero_le _) ⟨⟨[], by simp⟩, by simp, Nat.zero_le _⟩
  · obtain ⟨⟨g0, rfl⟩, _⟩ := z
    exact I k g0
  · rw [z.2.1, List.length_map, sizeLine_eq]
    have := List.length_filter_le B (its.take k)
    rw [List.length_take] at this
    omega
  · obtain ⟨⟨g0, rfl⟩, rfl, kl⟩ := z
    have wm := List.mem_of_getElem? q
    have kl := (List.getElem?_eq_some_iff.mp q).1
    have et : its.take (k + 1) = its.take k ++ [w] := by
      rw [List.take_succ, q]; rfl
    refine wp_mono (step w wm g0) fun ρ1 h2 z => ?_
    obtain ⟨g1, rfl, z⟩ := z
    refine wp_mono z fun b h3 z => ?_
    obtain ⟨g2, rfl, rfl, z⟩ := z
    cases hb : B w with
    | false =>
      rw [if_neg Bool.false_ne_true]
      exact ⟨⟨g2, rfl⟩, by rw [et, List.filter_append, List.filter_cons_of_neg (by rw [hb]; exact Bool.false_ne_true)]; simp, kl⟩
    | true =>
      rw [if_pos rfl]
      refine wp_mono (z hb) fun y h4 z => ?_
      obtain ⟨g3, rfl, rfl⟩ := z
      exact ⟨⟨g3, rfl⟩, by rw [et, List.filter_append, List.filter_cons_of_pos hb, List.map_append]; rfl, kl⟩
  · obtain ⟨⟨g0, rfl⟩, rfl, _⟩ := z
    rw [List.take_of_length_le (Nat.le_refl _)]
    exact q g0
theorem wp_all {i : Nat} {ws : List Wv} {bs : List Bool} {Q : Wv → Hm → Prop} (e : rdL h i = some ws) (eb : ws.mapM blW = some bs) : wpM (allM [.obj i]) h Q ↔ Q (.bl (bs.all id)) h := wp_ok (by unfold allM quant; simp only [e, eb])
theorem wp_any {i : Nat} {ws : List Wv} {bs : List Bool} {Q : Wv → Hm → Prop} (e : rdL h i = some ws) (eb : ws.mapM blW = some bs) : wpM (anyM [.obj i]) h Q ↔ Q (.bl (bs.any id)) h := wp_ok (by unfold anyM quant; simp only [e, eb])
theorem mapM_bl (bs : List Bool) : (bs.map Wv.bl).mapM blW = some bs := by
  induction bs with
  | nil => rfl
  | cons b bs ih => rw [List.map_cons, List.mapM_cons, ih]; rfl
theorem rdL_last {h : Hm} {ws : List Wv} : rdL (h ++ [.lst ws]) h.length = some ws := by
  have := rdL_new (h := h) (ws := ws) []
  rwa [List.append_nil] at this
end
end MM

set_option maxRecDepth 100000
set_option maxHeartbeats 4000000

namespace MM
open PySem PySem.Spec PyProof.Rows L2

def pairOf : Wv → Option (Key × Wv)
  | .tup [k, v] => (keyOf k).map fun q => (q, v)
  | _ => none
def dictP : FM := fun ws h => match ws with
  | [.obj i] => match rdL h i with
    | some xs => match xs.mapM pairOf with
      | some kvs => lay (.dk (mergeKW [] kvs)) h
      | none => .no
    | none => .no
  | _ => .no
section
variable {X : Cx}
end

inductive HitD (K : PySem.W.Frag) (H : Hp) (ls : List (Key × V)) : List (Key × V) → Bool → Prop
  | nil : HitD K H ls [] true
  | miss {k : Key} {v : V} {r : List (Key × V)} (e : valV ls k = none) : HitD K H ls ((k, v) :: r) false
  | hit {k : Key} {v u : V} {r : List (Key × V)} {d d' : PyData} {b : Bool} (e : valV ls k = some u) (p : Dp K H v d) (q : Dp K H u d') (sd : SeqAt.shaped d = true) (sd' : SeqAt.shaped d' = true) (m : HitD K H ls r b) : HitD K H ls ((k, v) :: r) (PyData.eqv d d' && b)
theorem HitD.run {X : Cx} {pins : List (Addr × Obj)} {σ : L2.St} {H : Hp} {s : Shared} {A : Around} (I : Inv X pins σ H s) (hu : A.in1.units + 64 < cLine) {ls : List (Key × V)} {vb : List (Key × Value)} (rb : KV ls vb) {ks : List (Key × V)} {b : Bool} (m : HitD X.K H ls ks b) :
    ∀ {va : List (Key × Value)}, KV ks va → PySem.W.KeqHits A.in1 s vb va b := by
  induction m with
  | nil => intro va ra; cases ra; exact .nil
  | @miss k v r e =>
    intro va ra
    cases ra with
    | @cons p q ps qs h t =>
      obtain ⟨k', x⟩ := q
      obtain ⟨h1, h2⟩ := h
      have h1 : k = k' := h1
      subst h1
      refine .miss ?_
      have z := rb.val k
      rw [e] at z
      cases y : valueAt vb k with
      | none => rfl
      | some w => rw [y] at z; exact z.elim
  | @hit k v u r d d' b e p q sd sd' m ih =>
    intro va ra
    cases ra with
    | @cons p' q' ps qs h t =>
      obtain ⟨k', x⟩ := q'
      obtain ⟨h1, h2⟩ := h
      have h1 : k = k' := h1
      subst h1
      have z := rb.val k
      rw [e] at z
      obtain ⟨y, hy, ry⟩ := z.some_of
      obtain ⟨as, r1⟩ := Dp.reads I d v x p h2
      obtain ⟨bs, r2⟩ := Dp.reads I d' u y q ry
      exact .hit hy (PySem.W.keq_at r1 r2 sd sd' hu) (ih t)
def rEqK (neg : Bool) (K : PySem.W.Frag) : R2 := fun x y H Q => ∃ a b ks ls r, x = .ref a ∧ y = .ref b ∧ H a = some (.dK ks) ∧ H b = some (.dK ls) ∧ (ks.length = ls.length → HitD K H ls ks r) ∧ Q (.bl (if neg then !(ks.length == ls.length && r) else (ks.length == ls.length && r))) H
section
variable {X : Cx}
end
def hitsW (h : Hm) (kb : List (Key × Wv)) : List (Key × Wv) → Option Bool
  | [] => some true
  | (k, v) :: r => match valW kb k with
    | none => some false
    | some u => match dat h 50 v, dat h 50 u, hitsW h kb r with
      | some d, some d', some b => if (SeqAt.shaped d && SeqAt.shaped d') = true then some (PyData.eqv d d' && b) else none
      | _, _, _ => none
def dkEq (h : Hm) (ka kb : List (Key × Wv)) : Option Bool := if ka.length = kb.length then hitsW h kb ka else some false
def dkOf (h : Hm) : Wv → Option (List (Key × Wv))
  | .obj i => match h[i]? with
    | some (.dk kvs) => some kvs
    | _ => none
  | _ => none
def eqK (neg : Bool) : F2 := fun a b h => match dkOf h a, dkOf h b with
  | some ka, some kb => match dkEq h ka kb with
    | some r => .ok (.bl (if neg then !r else r)) h
    | none => .no
  | _, _ => .no
section
variable {X : Cx} {a b : Expr} {pos : Pos} {ma mb : EM}
end
end MM

set_option maxRecDepth 100000
set_option maxHeartbeats 4000000
namespace MM
open PySem PySem.Spec PyProof.Rows L2

section
variable {prog : Program} {w : World} {A : Around} {E : Value → Shared → Prop} {s : Shared}
end
def rMax2 (K : PySem.W.Frag) : List V → Hp → VK → Prop := fun xs H Q => ∃ x y d e, xs = [x, y] ∧ Dp K H x d ∧ Dp K H y e ∧ SeqAt.shaped d = true ∧ SeqAt.shaped e = true ∧ PySem.W.AlikeAll [d, e] ∧ Q (if PySem.W.dataLt d e = true then y else x) H
def alB (d e : PyData) : Bool := PySem.W.alike d d && PySem.W.alike d e && PySem.W.alike e d && PySem.W.alike e e && !(match d with | .none => true | _ => false) && !(match e with | .none => true | _ => false)
def maxD2 : FM := fun ws h => match ws with
  | [a, b] => match dat h 50 a, dat h 50 b with
    | some d, some e => if (SeqAt.shaped d && SeqAt.shaped e && alB d e) = true then .ok (if PySem.W.dataLt d e = true then b else a) h else .no
    | _, _ => .no
  | _ => .no

def isIns (C : PySem.Str) (w : Wv) (h : Hm) : Bool := match w with
  | .obj i => match h[i]? with
    | some (.ins D _) => decide (D = C)
    | _ => false
  | _ => false
def ownEq (C : PySem.Str) (f : FM) : F2 := fun a b h => if (isIns C a h && isIns C b h) = true then ((f [a, b]).bind fun r => match r with | .bl k => M.pure (.bl k) | _ => M.no) h else .no
structure Ef (K : PySem.W.Frag) (mg : PySem.Str → Option Value) (C : PySem.Str) : Prop where
  ex : ∀ a, mg C = some (.ref a) → ∃ f, PySem.W.findIn K (.ref a) "__eq__" = some (some (.ref f))
section
variable {X : Cx} {a b : Expr} {pos : Pos} {ma mb : EM} {C : PySem.Str} {k : Nat} {f : FM}
def isiC (C : PySem.Str) : FM := fun ws h => match ws with
  | [a, .glob D] => if (decide (D = C) && isIns C a h) = true then .ok (.bl true) h else .no
  | _ => .no
structure Ic (K : PySem.W.Frag) (mg : PySem.Str → Option Value) (C : PySem.Str) : Prop where
  ex : ∃ a, mg C = some (.ref a) ∧ C8.InsC K a
end
end MM

set_option maxRecDepth 100000
set_option maxHeartbeats 4000000

namespace MM
open PySem PySem.Spec PyProof.Rows L2
open AutoSeq1 (wpAny_loadPart')
open MeetsSeq MeetsSeq2 MeetsSeq3 SeqAt
def DkSame (K : PySem.W.Frag) (H : Hp) (x y : V) : Prop := (∃ a, x = .ref a ∧ y = .ref a) ∨ ∃ a b ks ls, a ≠ b ∧ x = .ref a ∧ y = .ref b ∧ H a = some (.dK ks) ∧ H b = some (.dK ls) ∧ ks.length = ls.length ∧ HitD K H ls ks true
theorem keqP {P : Program} {w : World} {A : Around} {s : Shared} {κ : Type} [DecidableEq κ] {kb ka : List (κ × Value)} {r : Bool} (h : PySem.W.KeqHits A s kb ka r) : PySem.W.KeqHitsP P w A s kb ka r := by
  induction h with
  | nil => exact .nil
  | miss e => exact .miss e
  | hit e p _ ih => exact .hit e p.eqP ih
theorem DkSame.run {X : Cx} {pins : List (Addr × Obj)} {σ : L2.St} {H : Hp} {s : Shared} {A : Around} (I : Inv X pins σ H s) (hu : A.units + 65 < cLine) {x y : V} {v u : Value} (h : DkSame X.K H x y) (rx : RelV x v) (ry : RelV y u) : EqP X.prog X.w A s v u true := by
  rcases h with ⟨a, rfl, rfl⟩ | ⟨a, b, ks, ls, ne, rfl, rfl, ea, eb, hl, hh⟩
  · cases (show v = Value.ref a from rx)
    cases (show u = Value.ref a from ry)
    exact (EqAt.same _).eqP
  · cases (show v = Value.ref a from rx)
    cases (show u = Value.ref b from ry)
    obtain ⟨_, ya, va, ra, da⟩ := (show ObjOk X.prog X.w H s.heap a (.dK ks) from I.hok a _ ea)
    obtain ⟨_, yb, vb, rb, db⟩ := (show ObjOk X.prog X.w H s.heap b (.dK ls) from I.hok b _ eb)
    refine eqP_refs ne fun E Q q => PySem.W.rcP_dicts (knd := mixKind X.prog X.w) (r := true) ya yb da db (by omega) (fun _ => keqP (hh.run I (by show A.units + 1 + 64 < cLine; omega) rb ra)) E Q ?_
    rw [show (va.length == vb.length && true) = true by rw [← ra.length, ← rb.length, hl]; simp]
    exact q
def rNeLK (K : PySem.W.Frag) : R2 := fun x y H Q => ∃ a b xs ys, x = .ref a ∧ y = .ref b ∧ SqL K H a xs ∧ SqL K H b ys ∧ Paired (DkSame K H) xs ys ∧ Q (.bl false) H
def dkSameW (h : Hm) : Wv → Wv → Bool
  | .obj i, .obj j => if i = j then true else match h[i]?, h[j]? with
    | some (.dk ka), some (.dk kb) => decide (ka.length = kb.length) && (match hitsW h kb ka with | some true => true | _ => false)
    | _, _ => false
  | _, _ => false
def allSame (h : Hm) : List Wv → List Wv → Bool
  | [], [] => true
  | a :: as, b :: bs => dkSameW h a b && allSame h as bs
  | _, _ => false
def neLK : F2 := fun a b h => match a, b with
  | .obj i, .obj j => match rdL h i, rdL h j with
    | some xs, some ys => if allSame h xs ys = true then .ok (.bl false) h else .no
    | _, _ => .no
  | _, _ => .no
section
variable {X : Cx} {a b : Expr} {pos : Pos} {ma mb : EM}
end
end MM

set_option maxRecDepth 100000
set_option maxHeartbeats 4000000
namespace MM
open PySem PySem.Spec PyProof.Rows L2

def txKeys (kvs : List (Key × Wv)) : Option (List PySem.Str) := kvs.mapM fun kv => match kv.1 with | .inr x => some x | .inl _ => none
def sortDk : FM := fun ws h => match ws with
  | [w] => match dkOf h w with
    | some kvs => match txKeys kvs with
      | some ks => if ks.length < 64 then lay (.lst ((isort sleS ks).map .str)) h else .no
      | none => .no
    | none => .no
  | _ => .no
end MM

set_option maxRecDepth 100000
set_option maxHeartbeats 4000000
namespace GP
open PySem PySem.Spec PyProof.Rows L2 K01 MM
def m_News___eq__ : FM := fun_ 2 2 ((sRet (eAnd (eCall (isiC "News") (aCons (eVar 1) (aCons (eC (.glob "News")) aNil))) (eAnd (eOp (eqB false) (eFld "News" "own_name" (eVar 0)) (eFld "News" "own_name" (eVar 1))) (eOp (eqK false) (eFld "News" "own_entries" (eVar 0)) (eFld "News" "own_entries" (eVar 1)))))))
def m_News_come : FM := fun_ 2 2 ((sSeq (sIf (tNotM (tTru (eCall m_is_word (aCons (eVar 1) aNil)))) sNo sNil)
    (sIf (tOf (eOp (dinM true) (eVar 1) (eFld "News" "own_entries" (eVar 0)))) (sDput (eFld "News" "own_entries" (eVar 0)) (eVar 1) (eTup (aCons (eC (.int 0)) (aCons (eC (.bl false)) aNil)))) sNil)))
def m_News___init__ : FM := fun_ 4 3 ((sSeq (sFldM "News" "own_name" (eVar 0) (eVar 1))
    (sSeq (sFldM "News" "own_entries" (eVar 0) eDnewK)
    (sFor (iSeqM (eOp addM (eLst (aCons (eVar 1) aNil)) (eCall listOf (aCons (eVar 2) aNil)))) (gN 3) (sExpr (eMeth "News" "come" m_News_come (eVar 0) (aCons (eVar 3) aNil)))))))
def m_is_entry : FM := fun_ 3 1 ((sSeq (sIf (tOrM (tNotM (tTru (eCall (isiM .tup) (aCons (eVar 0) (aCons (eC (.raw (.ty "tuple"))) aNil))))) (tOf (eOp (eqB true) (eCall lenM (aCons (eVar 0) aNil)) (eC (.int 2))))) (sRet (eC (.bl false))) sNil)
    (sSeq (sAsg (eVar 0) (gT 2 (gsCons (gN 1) (gsCons (gN 2) gsNil))))
    (sRet (eAnd (eCall m_is_between (aCons (eVar 1) (aCons (eC (.int 0)) (aCons (eC (.int 1000000000000)) aNil)))) (eCall (isiM .bl) (aCons (eVar 2) (aCons (eC (.raw (.ty "bool"))) aNil))))))))
def m_look_at_news : FM := fun_ 5 1 ((sSeq (sIf (tNotM (tTru (eCall (isiM .dict) (aCons (eVar 0) (aCons (eC (.raw (.ty "dict"))) aNil))))) sNo sNil)
    (sSeq (sLock (eVar 0) (sSet 1 (eLc (iKeysW (eVar 0)) [3] (gN 3) (tNotM (tTru (eCall m_is_word (aCons (eVar 3) aNil)))) (eVar 3))))
    (sSeq (sIf (tTru (eVar 1)) sNo sNil)
    (sSeq (sLock (eVar 0) (sSet 2 (eLc (iKeysW (eVar 0)) [4] (gN 4) (tNotM (tTru (eCall m_is_entry (aCons (eOp dgetM (eVar 0) (eVar 4)) aNil)))) (eVar 4))))
    (sIf (tTru (eVar 2)) sNo sNil))))))
def m_News_look_at_known : FM := fun_ 2 2 ((sIf (tOrM (tNotM (tTru (eCall m_is_word (aCons (eVar 1) aNil)))) (tOf (eOp (dinM true) (eVar 1) (eFld "News" "own_entries" (eVar 0))))) sNo sNil))
def m_News_entry : FM := fun_ 2 2 ((sSeq (sExpr (eMeth "News" "look_at_known" m_News_look_at_known (eVar 0) (aCons (eVar 1) aNil)))
    (sRet (eOp dgetM (eFld "News" "own_entries" (eVar 0)) (eVar 1)))))
def m_News_here : FM := fun_ 2 2 ((sRet (eNot (eOp ixM (eMeth "News" "entry" m_News_entry (eVar 0) (aCons (eVar 1) aNil)) (eC (.int 1))))))
def m_News_rise : FM := fun_ 2 1 ((sSeq (sSet 1 (eOp addM (eOp ixM (eOp dgetM (eFld "News" "own_entries" (eVar 0)) (eFld "News" "own_name" (eVar 0))) (eC (.int 0))) (eC (.int 1))))
    (sSeq (sDput (eFld "News" "own_entries" (eVar 0)) (eFld "News" "own_name" (eVar 0)) (eTup (aCons (eVar 1) (aCons (eC (.bl false)) aNil))))
    (sRet (eVar 1)))))
def m_News_take : FM := fun_ 4 2 ((sSeq (sExpr (eCall m_look_at_news (aCons (eVar 1) aNil)))
    (sSeq (sSet 2 (eFld "News" "own_entries" (eVar 0)))
    (sSeq (sFldM "News" "own_entries" (eVar 0) (eLock (eVar 2) (eDc (iKeysW (eVar 2)) [3] (gN 3) tYesM (eVar 3) (eCall maxD2 (aCons (eOp dgetM (eVar 2) (eVar 3)) (aCons (eDget2 (eVar 1) (eVar 3) (eOp dgetM (eVar 2) (eVar 3))) aNil))))))
    (sSeq (sIf (tNotM (tTru (eMeth "News" "here" m_News_here (eVar 0) (aCons (eFld "News" "own_name" (eVar 0)) aNil)))) (sExpr (eMeth "News" "rise" m_News_rise (eVar 0) aNil)) sNil)
    (sRet (eOp (eqK true) (eFld "News" "own_entries" (eVar 0)) (eVar 2))))))))
def m_News_entries : FM := fun_ 2 1 ((sRet (eDc (iSeqM (eCall sortDk (aCons (eFld "News" "own_entries" (eVar 0)) aNil))) [1] (gN 1) tYesM (eVar 1) (eOp dgetM (eFld "News" "own_entries" (eVar 0)) (eVar 1)))))
def m_News_look_at_other : FM := fun_ 2 2 ((sSeq (sExpr (eMeth "News" "look_at_known" m_News_look_at_known (eVar 0) (aCons (eVar 1) aNil)))
    (sIf (tOf (eOp (eqB false) (eVar 1) (eFld "News" "own_name" (eVar 0)))) sNo sNil)))
def m_News_doubt : FM := fun_ 4 2 ((sSeq (sExpr (eMeth "News" "look_at_other" m_News_look_at_other (eVar 0) (aCons (eVar 1) aNil)))
    (sSeq (sAsg (eOp dgetM (eFld "News" "own_entries" (eVar 0)) (eVar 1)) (gT 2 (gsCons (gN 2) (gsCons (gN 3) gsNil))))
    (sSeq (sDput (eFld "News" "own_entries" (eVar 0)) (eVar 1) (eTup (aCons (eVar 2) (aCons (eC (.bl true)) aNil))))
    (sRet (eNot (eVar 3)))))))
end GP

set_option maxRecDepth 100000
set_option maxHeartbeats 4000000

namespace MM
open PySem PySem.Spec PyProof.Rows L2

def txtW : Wv → Option PySem.Str
  | .str x => some x
  | _ => none
def joinW (a : PySem.Str) (w : Wv) : M Wv := fun h => match dsq h w with
  | some us => match us.mapM txtW with
    | some ys => if (ys.map (·.length)).sum + ys.length * a.length ≤ 16777216 then .ok (.str (Txt.join a ys)) h else .no
    | none => .no
  | none => .no
def eJoin (o e : EM) : EM := fun ρ => (o ρ).bind fun x => match x with
  | .str a => (e ρ).bind fun y => joinW a y
  | _ => M.no
theorem txts_to {c : Cfg} {μ : List Addr} {H : Hp} : ∀ {vs : List V} {ws : List Wv} {ys : List PySem.Str}, Rps c μ H vs ws → ws.mapM txtW = some ys → vs = ys.map V.str
  | _, _, _, .nil, e => by simp at e; subst e; rfl
  | _, _, _, .cons (w := w) p t, e => by
    obtain ⟨y, ys, e1, e2, rfl⟩ := mapM_some e
    cases w with
    | str x => cases e1; rw [p.str_inv, txts_to t e2]; rfl
    | _ => cases e1
theorem me_join {X : Cx} {o e : Expr} {apos pos : Pos} {mo me : EM} (ho : ME X o mo) (he : ME X e me) (hs : starEach [e] X.env = [(false, eval e X.env)] := by rfl) (hbase : attributeBase o "join" X.env (eval o X.env) = eval o X.env := by rfl) (hline : (apos.endLine == pos.line) = true := by rfl) :
    ME X (.Call (.Attribute o "join" apos) [e] [] pos) (eJoin mo me) := PE.imp (pe_join ho he hs hbase hline) fun σ H Q ⟨μ, ρ, h, w, h', A, e, n⟩ => by
  obtain ⟨x, h1, e1, e⟩ := bind_ok e
  split at e
  · next a =>
    obtain ⟨y, h2, e2, e⟩ := bind_ok e
    refine mE_first A e1 fun μ1 v1 H1 g1 A1 p1 => ⟨⟨a, p1.str_inv⟩, mE_first A1 e2 fun μ2 v2 H2 g2 A2 p2 => ?_⟩
    unfold joinW at e
    split at e
    · next us q =>
      split at e
      · next ys q2 =>
        obtain ⟨l, e⟩ := ifD_ok' e
        cases e
        obtain ⟨p, vs, rfl, hq, rr⟩ := dsq_to A2.rel p2 q
        have ev := txts_to rr q2
        subst ev
        exact ⟨a, p, ys, p1.str_inv, rfl, hq, l, (n.after (g1.trans g2)).now A2.rel (.str _)⟩
      · cases e
    · cases e
  · cases e

def rCntD (K : PySem.W.Frag) : V → List V → Hp → VK → Prop := fun x xs H Q => ∃ (a : Addr) (y : V) (d : PyData) (ds : List PyData), x = .ref a ∧ xs = [y] ∧ Dp K H (.ref a) (.list ds) ∧ Dp K H y d ∧ PyData.plainAll ds = true ∧ d.plain = true ∧ PyData.depthAll ds ≤ 40 ∧ Q (.int (ds.countP fun z => PyData.eqv z d : Nat)) H
def cntM : FT := fun w ws h => match w, ws with
  | .obj i, [x] => match dat h 60 (.obj i), dat h 60 x with
    | some (.list ds), some d => if (PyData.plainAll ds && d.plain && decide (PyData.depthAll ds ≤ 40)) = true then .ok (.int (ds.countP fun z => PyData.eqv z d : Nat)) h else .no
    | _, _ => .no
  | _, _ => .no

def rRepD (K : PySem.W.Frag) : List V → Hp → VK → Prop := fun xs H Q => ∃ (a : Addr) (ds : List PyData), xs = [.ref a] ∧ Dp K H (.ref a) (.list ds) ∧ ds ≠ [] ∧ PyData.showableAll ds = true ∧ PyData.hasDictAll ds = false ∧ (listText (PyData.shownAll ds)).length ≤ sizeLine ∧ PyData.depthAll ds ≤ 40 ∧ Q (.str (listText (PyData.shownAll ds))) H
def repM : FM := fun ws h => match ws with
  | [.obj i] => match dat h 60 (.obj i) with
    | some (.list ds) => if (!ds.isEmpty && PyData.showableAll ds && !PyData.hasDictAll ds && decide ((listText (PyData.shownAll ds)).length ≤ sizeLine) && decide (PyData.depthAll ds ≤ 40)) = true then .ok (.str (listText (PyData.shownAll ds))) h else .no
    | _ => .no
  | _ => .no

section
variable {prog : Program} {w : World} {A : Around} {E : Value → Shared → Prop} {s : Shared} {K : PySem.W.Frag} {x y C f : Addr} {ox oy : Obj} {od od' : Option Obj}
end
structure Nf (K : PySem.W.Frag) (mg : PySem.Str → Option Value) (C : PySem.Str) : Prop where
  ex : ∃ a, mg C = some (.ref a) ∧ PySem.W.mroIn K a (.type "object") = some true ∧ PySem.W.findIn K (.ref a) "__ne__" = some (some (.builtin "object.__ne__"))
def rNeO (c : Cfg) (C : PySem.Str) (f : FM) : R2 := fun x y H Q => ∃ a b Ca dx dy fs gs, c.mg C = some (.ref Ca) ∧ x = .ref a ∧ y = .ref b ∧ H a = some (.ins Ca dx fs) ∧ H b = some (.ins Ca dy gs) ∧ spF c 2 f [x, y] H (fun v H' => ∃ k, v = .bl k ∧ Q (.bl (!k)) H') E0
end MM

set_option maxRecDepth 100000
set_option maxHeartbeats 4000000
namespace MM
open PySem PySem.Spec PyProof.Rows L2
theorem Room.up {k : Nat} {A : Around} (h : Room (k + 1) A) : Room k A.in1 := h.in1
def ownNe (C : PySem.Str) (f : FM) : F2 := fun a b h => if (isIns C a h && isIns C b h) = true then ((f [a, b]).bind fun r => match r with | .bl k => M.pure (.bl (!k)) | _ => M.no) h else .no
section
variable {X : Cx} {a b : Expr} {pos : Pos} {ma mb : EM} {C : PySem.Str} {k : Nat} {f : FM}
end
end MM

set_option maxRecDepth 100000
set_option maxHeartbeats 4000000
namespace GP
open PySem PySem.Spec PyProof.Rows L2 K01 MM
def m_Ring___eq__ : FM := fun_ 2 2 ((sRet (eAnd (eCall (isiC "Ring") (aCons (eVar 1) (aCons (eC (.glob "Ring")) aNil))) (eOp (eqB false) (eFld "Ring" "own_marks" (eVar 0)) (eFld "Ring" "own_marks" (eVar 1))))))
def m_Ring_marks : FM := fun_ 1 1 ((sRet (eCall listOf (aCons (eFld "Ring" "own_marks" (eVar 0)) aNil))))
end GP

set_option maxRecDepth 100000
set_option maxHeartbeats 4000000

namespace MM
open PySem PySem.Spec PyProof.Rows L2

def rLClr : V → List V → Hp → VK → Prop := fun x vs H Q => ∃ l xs, x = .ref l ∧ vs = [] ∧ H l = some (.lst xs) ∧ Q .non (upd H l (.lst []))
def clrM : FT := fun w ws h => match w, ws with
  | .obj i, [] => match lstOf h i with
    | some _ => .ok .non (h.set i (.lst []))
    | none => .no
  | _, _ => .no

def rRepB : List V → Hp → VK → Prop := fun xs H Q => ∃ b, xs = [.bl b] ∧ Q (.str (if b then "True" else "False")) H
def repB : FM := fun ws h => match ws with
  | [.bl b] => .ok (.str (if b then "True" else "False")) h
  | _ => .no

def dictC : FM := fun ws h => match ws with
  | [.obj i] => match h[i]? with
    | some (.dk kvs) => lay (.dk kvs) h
    | _ => .no
  | _ => .no

abbrev DK := K01.DK
def insK (k : DK) : List DK → List DK
  | [] => [k]
  | x :: xs => if MS.dlt k x = true then k :: x :: xs else if x = k then x :: xs else x :: insK k xs
def sortK (L : List DK) : List DK := L.foldr insK []
def tupK (k : DK) : Wv := .tup (k.map ofKey)
def d3B (k : DK) : Bool := match k with
  | [.inl _, .inr _, .inl _] => true
  | _ => false
def setM : FM := fun ws h => match ws with
  | [w] => match dsq h w with
    | some us => match us.mapM tkOf with
      | some ks => if ks.length < 64 then lay (.sdt ks) h else .no
      | none => .no
    | none => .no
  | _ => .no
def sortSd : FM := fun ws h => match ws with
  | [.obj i] => match h[i]? with
    | some (.sdt L) => if L.all d3B = true then lay (.lst ((sortK L).map tupK)) h else .no
    | _ => .no
  | _ => .no
end MM

set_option maxRecDepth 100000
set_option maxHeartbeats 4000000

namespace MM
open PySem PySem.Spec PyProof.Rows L2
def sc2in (src : Src) (vs : List Nat) (g : GM) (e : EM) (ρ : Env) : Nat → Nat → List DK → M (List DK)
  | 0, _, _ => M.no
  | n + 1, k, acc => fun h => match src.at_ k h with
    | none => .no
    | some none => .ok acc h
    | some (some w) => ((g w (wipeM ρ vs)).bind fun ρ1 => (e ρ1).bind fun y => fun h => match tkOf y with
          | some x => if acc.length + 1 < 64 then sc2in src vs g e ρ n (k + 1) (x :: acc) h else .no
          | none => .no) h
def sc2out (src : Src) (vs : List Nat) (g : GM) (i1 : IM) (vs1 : List Nat) (g1 : GM) (e : EM) (ρ : Env) : Nat → Nat → List DK → M (List DK)
  | 0, _, _ => M.no
  | n + 1, k, acc => fun h => match src.at_ k h with
    | none => .no
    | some none => .ok acc h
    | some (some w) => ((g w (wipeM ρ vs)).bind fun ρ1 => (i1 ρ1).bind fun src1 => (sc2in src1 vs1 g1 e ρ1 (src1.cnt + 1) 0 acc).bind fun acc' => sc2out src vs g i1 vs1 g1 e ρ n (k + 1) acc') h
def eSc2 (i : IM) (vs : List Nat) (g : GM) (i1 : IM) (vs1 : List Nat) (g1 : GM) (e : EM) : EM := fun ρ => (i ρ).bind fun src => (sc2out src vs g i1 vs1 g1 e ρ (src.cnt + 1) 0 []).bind fun L => lay (.sdt L)
structure RwA (H : Hp) (rows : List MS.Row) (acc : List DK) : Prop where
  mem : ∀ k, k ∈ rows.map (·.2) ↔ k ∈ acc
  len : rows.length ≤ acc.length
  at_ : ∀ p ∈ rows, H p.1 = some (.tup (p.2.map kV))
theorem RwA.mt {c : Cfg} {μ μ' : List Addr} {H H' : Hp} {rows : List MS.Row} {acc : List DK} (r : RwA H rows acc) (g : Gt c μ H μ' H') : RwA H' rows acc := ⟨r.mem, r.len, fun p hp => g.tq _ _ (r.at_ p hp)⟩
end MM

set_option maxRecDepth 100000
set_option maxHeartbeats 4000000

namespace MM
open PySem PySem.Spec PyProof.Rows L2
structure Oc (K : PySem.W.Frag) (mg : PySem.Str → Option Value) (C : PySem.Str) : Prop where
  ex : ∃ a, mg C = some (.ref a) ∧ PySem.W.isClsIn K a = true ∧ PySem.W.typeIn K (.ref a) = some (.type "type")
section
variable {X : Cx} {C : PySem.Str}
def rIsX (c : Cfg) (C : PySem.Str) : List V → Hp → VK → Prop := fun xs H Q => ∃ Ca x t, c.mg C = some (.ref Ca) ∧ xs = [x, .ref Ca] ∧ TyX c.K H x (.type (Ty.nm t)) ∧ Q (.bl false) H
def isiX (C : PySem.Str) : FM := fun ws h => match ws with
  | [a, .glob D] => if D = C then (if isIns C a h = true then .ok (.bl true) h else match tyW h a with | some _ => .ok (.bl false) h | none => .no) else .no
  | _ => .no

def rOwnT (c : Cfg) (C : PySem.Str) (f : FM) : R2 := fun x y H Q => ∃ a Ca dx fs t, c.mg C = some (.ref Ca) ∧ x = .ref a ∧ H a = some (.ins Ca dx fs) ∧ TyX c.K H y (.type (Ty.nm t)) ∧ spF c 2 f [x, y] H (fun v H' => ∃ k, v = .bl k ∧ Q v H') E0
def ownEqT (C : PySem.Str) (f : FM) : F2 := fun a b h => if isIns C a h = true then (match tyW h b with | some _ => ((f [a, b]).bind fun r => match r with | .bl k => M.pure (.bl k) | _ => M.no) h | none => .no) else .no
variable {a b : Expr} {pos : Pos} {ma mb : EM} {k : Nat} {f : FM}
end
end MM

set_option maxRecDepth 100000
set_option maxHeartbeats 4000000

namespace MM
open PySem PySem.Spec PyProof.Rows L2

def pairsW (xs ys : List Wv) : List Wv := List.zipWith (fun x y => .tup [x, y]) xs ys
def sLL (n i j : Nat) : Src := ⟨n, fun k h => match rdL h i, rdL h j with
  | some xs, some ys => some (pairsW xs ys)[k]?
  | _, _ => none⟩
def zipS (ws : List Wv) : M Src := fun h => match ws with
  | [.tup xs, .tup ys] => .ok (sT (pairsW xs ys)) h
  | [.tup xs, .ptp ys] => .ok (sT (pairsW xs ys)) h
  | [.obj i, .obj j] => match rdL h i, rdL h j with
    | some xs, some ys => .ok (sLL (pairsW xs ys).length i j) h
    | _, _ => .no
  | _ => .no
theorem pairsW_some {xs ys : List Wv} {k : Nat} {w : Wv} (e : (pairsW xs ys)[k]? = some w) : ∃ x y, xs[k]? = some x ∧ ys[k]? = some y ∧ w = .tup [x, y] := by
  unfold pairsW at e
  rw [List.getElem?_zipWith] at e
  cases q : xs[k]? with
  | none => rw [q] at e; cases e
  | some x =>
    cases q2 : ys[k]? with
    | none => rw [q, q2] at e; cases e
    | some y =>
      rw [q, q2] at e
      exact ⟨x, y, rfl, rfl, (Option.some.inj e).symm⟩
theorem pairsW_none {xs ys : List Wv} {k : Nat} (e : (pairsW xs ys)[k]? = none) : xs.length ≤ k ∨ ys.length ≤ k := by
  unfold pairsW at e
  rw [List.getElem?_eq_none_iff, List.length_zipWith] at e
  omega
section
variable {X : Cx}
theorem mi_zip {e e2 : Expr} {p pos tpos : Pos} {elts : List Expr} {kk : Nat} {m : AM} (hg : Gl X "zip") (hm : X.mg "zip" = none) (ha : MA X [e, e2] m) (hs : starEach [e, e2] X.env = (false, eval e X.env) :: starEach [e2] X.env := by rfl) (hpl : (backTo pos (starEach [e2] X.env)).any (·.1) = false := by rfl) :
    MI X (.Tuple elts kk tpos) (.Call (.Name "zip" p) [e, e2] [] pos) (iArgs zipS m) :=
  PI.imp (RZ.pi_zipA hg hm ha hs hpl) fun σ H R ⟨μ, ρ, h, src, h', A, e, n⟩ => by
    obtain ⟨ws, h1, e1, e⟩ := bind_ok e
    refine mA_first A e1 fun μ1 vs H1 g1 A1 p1 => ?_
    unfold zipS at e
    split at e
    · next xs ys =>
      cases e
      obtain ⟨v1, v2, rfl, q1, q2⟩ := p1.two_inv
      obtain ⟨a, vs1, rfl, hq1, r1⟩ := q1.tup_inv
      obtain ⟨b, vs2, rfl, hq2, r2⟩ := q2.tup_inv
      refine ⟨a, b, vs1, vs2, rfl, .inr ⟨hq1, hq2, n μ1 H1 _ (fun μ H => (∃ vs, SqT X.K H a vs ∧ Rps (cfg X) μ H vs xs) ∧ ∃ vs, SqT X.K H b vs ∧ Rps (cfg X) μ H vs ys) g1 A1.rel ⟨fun μ H μ' H' ⟨⟨vs, q, r⟩, us, q', r'⟩ go => ⟨⟨vs, go.tk _ _ q, r.mv go⟩, us, go.tk _ _ q', r'.mv go⟩, fun μ h H k w R ⟨⟨vs, q, r⟩, us, q', r'⟩ e => ?_, fun μ h H k R ⟨⟨vs, q, r⟩, us, q', r'⟩ e => ?_⟩ ⟨⟨_, hq1, r1⟩, _, hq2, r2⟩⟩⟩
      · obtain ⟨x, y, hx, hy, rfl⟩ := pairsW_some (Option.some.inj e)
        obtain ⟨v, hv, pv⟩ := r.at hx
        obtain ⟨u, hu, pu⟩ := r'.at hy
        refine ⟨⟨vs, us, v, u, q, q', hv, hu⟩, fun z H' ⟨T, x', y', e1, nT, e2, f1, f2⟩ => ?_⟩
        subst e1 e2
        have z1 := f1 vs q
        have z2 := f2 us q'
        rw [hv] at z1
        rw [hu] at z2
        cases z1
        cases z2
        exact R.pair nT pv pu
      · refine ⟨vs, us, q, q', ?_⟩
        have l1 := r.length
        have l2 := r'.length
        rcases pairsW_none (Option.some.inj e) with z | z <;> omega
    · next xs ys =>
      cases e
      obtain ⟨v1, v2, rfl, q1, q2⟩ := p1.two_inv
      obtain ⟨a, vs1, rfl, hq1, r1⟩ := q1.tup_inv
      obtain ⟨b, vs2, rfl, pq2, r2⟩ := q2.ptp_inv
      have hq2 := pq2.sq
      refine ⟨a, b, vs1, vs2, rfl, .inr ⟨hq1, hq2, n μ1 H1 _ (fun μ H => (∃ vs, SqT X.K H a vs ∧ Rps (cfg X) μ H vs xs) ∧ ∃ vs, SqT X.K H b vs ∧ Rps (cfg X) μ H vs ys) g1 A1.rel ⟨fun μ H μ' H' ⟨⟨vs, q, r⟩, us, q', r'⟩ go => ⟨⟨vs, go.tk _ _ q, r.mv go⟩, us, go.tk _ _ q', r'.mv go⟩, fun μ h H k w R ⟨⟨vs, q, r⟩, us, q', r'⟩ e => ?_, fun μ h H k R ⟨⟨vs, q, r⟩, us, q', r'⟩ e => ?_⟩ ⟨⟨_, hq1, r1⟩, _, hq2, r2⟩⟩⟩
      · obtain ⟨x, y, hx, hy, rfl⟩ := pairsW_some (Option.some.inj e)
        obtain ⟨v, hv, pv⟩ := r.at hx
        obtain ⟨u, hu, pu⟩ := r'.at hy
        refine ⟨⟨vs, us, v, u, q, q', hv, hu⟩, fun z H' ⟨T, x', y', e1, nT, e2, f1, f2⟩ => ?_⟩
        subst e1 e2
        have z1 := f1 vs q
        have z2 := f2 us q'
        rw [hv] at z1
        rw [hu] at z2
        cases z1
        cases z2
        exact R.pair nT pv pu
      · refine ⟨vs, us, q, q', ?_⟩
        have l1 := r.length
        have l2 := r'.length
        rcases pairsW_none (Option.some.inj e) with z | z <;> omega
    · next i j =>
      split at e
      · next xs ys qx qy =>
        cases e
        obtain ⟨v1, v2, rfl, q1, q2⟩ := p1.two_inv
        obtain ⟨a, rfl, ha⟩ := q1.obj_inv
        obtain ⟨b, rfl, hb⟩ := q2.obj_inv
        obtain ⟨vs1, hq1, r1⟩ := rdL_to A1.rel ha qx
        obtain ⟨vs2, hq2, r2⟩ := rdL_to A1.rel hb qy
        refine ⟨a, b, vs1, vs2, rfl, .inl ⟨hq1, hq2, n μ1 H1 _ (fun μ _ => μ[i]? = some a ∧ μ[j]? = some b) g1 A1.rel ⟨fun μ H μ' H' ⟨ga, gb⟩ go => ⟨pre_at go.pre ga, pre_at go.pre gb⟩, fun μ h H k w R ⟨ga, gb⟩ e => ?_, fun μ h H k R ⟨ga, gb⟩ e => ?_⟩ ⟨ha, hb⟩⟩⟩
        · simp only [sLL] at e
          split at e
          · next xs ys qx qy =>
            obtain ⟨x, y, hx, hy, rfl⟩ := pairsW_some (Option.some.inj e)
            obtain ⟨vs, q, r⟩ := rdL_to R ga qx
            obtain ⟨us, q', r'⟩ := rdL_to R gb qy
            obtain ⟨v, hv, pv⟩ := r.at hx
            obtain ⟨u, hu, pu⟩ := r'.at hy
            refine ⟨⟨vs, us, v, u, q, q', hv, hu⟩, fun z H' ⟨T, x', y', e1, nT, e2, f1, f2⟩ => ?_⟩
            subst e1 e2
            have z1 := f1 vs q
            have z2 := f2 us q'
            rw [hv] at z1
            rw [hu] at z2
            cases z1
            cases z2
            exact R.pair nT pv pu
          · cases e
        · simp only [sLL] at e
          split at e
          · next xs ys qx qy =>
            obtain ⟨vs, q, r⟩ := rdL_to R ga qx
            obtain ⟨us, q', r'⟩ := rdL_to R gb qy
            refine ⟨vs, us, q, q', ?_⟩
            have l1 := r.length
            have l2 := r'.length
            rcases pairsW_none (Option.some.inj e) with z | z <;> omega
          · cases e
      · cases e
    · cases e
end

def rLtA (K : PySem.W.Frag) : R2 := fun x y H Q => ∃ d e, Dp K H x d ∧ Dp K H y e ∧ PySem.W.alike d e = true ∧ d ≠ .none ∧ d.depth ≤ 60 ∧ Q (.bl (PySem.W.dataLt d e)) H
def ltD : F2 := fun a b h => match dat h 60 a, dat h 60 b with
  | some d, some e => if (PySem.W.alike d e && decide (d.depth ≤ 60) && !(match d with | .none => true | _ => false)) = true then .ok (.bl (PySem.W.dataLt d e)) h else .no
  | _, _ => .no
section
variable {X : Cx} {a b : Expr} {pos : Pos} {ma mb : EM}
end
end MM

set_option maxRecDepth 100000
set_option maxHeartbeats 4000000

namespace MM
open PySem PySem.Spec PyProof.Rows L2
def rLenO (c : Cfg) (C : PySem.Str) (f : FM) : List V → Hp → VK → Prop := fun xs H Q => ∃ a Ca dx fs, c.mg C = some (.ref Ca) ∧ xs = [.ref a] ∧ H a = some (.ins Ca dx fs) ∧ spF c 1 f [.ref a] H (fun v H' => ∃ n : Nat, v = .int n ∧ (n : Int) < 2 ^ 63 ∧ Q (.int n) H') E0
def lenO (C : PySem.Str) (f : FM) : FM := fun ws h => match ws with
  | [a] => if isIns C a h = true then ((f [a]).bind fun r => fun h => match r with | .int (.ofNat n) => if (n : Int) < 2 ^ 63 then .ok (.int n) h else .no | _ => .no) h else .no
  | _ => .no
end MM

set_option maxRecDepth 100000
set_option maxHeartbeats 4000000

namespace MM
open PySem PySem.Spec PyProof.Rows L2
open SeqAt
def EqN (K : PySem.W.Frag) (H : Hp) (v u : V) (b : Bool) : Prop := (∃ d d', Dp K H v d ∧ Dp K H u d' ∧ shaped d = true ∧ shaped d' = true ∧ b = PyData.eqv d d') ∨
  ∃ p q ks ls r, p ≠ q ∧ v = .ref p ∧ u = .ref q ∧ H p = some (.dK ks) ∧ H q = some (.dK ls) ∧ (ks.length = ls.length → HitD K H ls ks r) ∧ b = (ks.length == ls.length && r)
theorem EqN.run {X : Cx} {pins : List (Addr × Obj)} {σ : L2.St} {H : Hp} {s : Shared} {A : Around} (I : Inv X pins σ H s) (hu : A.in1.units + 65 < cLine) {x y : V} {v u : Value} {b : Bool} (h : EqN X.K H x y b) (rx : RelV x v) (ry : RelV y u) : EqP X.prog X.w A.in1 s v u b := by
  rcases h with ⟨d, d', hd, hd', sd, sd', rfl⟩ | ⟨p, q, ks, ls, r, ne, rfl, rfl, ep, eq, hh, rfl⟩
  · obtain ⟨as, r1⟩ := Dp.reads I d x v hd rx
    obtain ⟨bs, r2⟩ := Dp.reads I d' y u hd' ry
    exact (PySem.W.keq_at r1 r2 sd sd' (by omega)).eqP
  · cases (show v = Value.ref p from rx)
    cases (show u = Value.ref q from ry)
    obtain ⟨_, ya, va, ra, da⟩ := (show ObjOk X.prog X.w H s.heap p (.dK ks) from I.hok p _ ep)
    obtain ⟨_, yb, vb, rb, db⟩ := (show ObjOk X.prog X.w H s.heap q (.dK ls) from I.hok q _ eq)
    refine eqP_refs ne fun E Q z => PySem.W.rcP_dicts (knd := mixKind X.prog X.w) (r := r) ya yb da db (by omega) (fun l => keqP ((hh (by rw [ra.length, rb.length]; exact l)).run I (by show A.in1.units + 1 + 64 < cLine; omega) rb ra)) E Q ?_
    rw [← ra.length, ← rb.length]
    exact z
inductive HitN (K : PySem.W.Frag) (H : Hp) (ls : List (Key × V)) : List (Key × V) → Bool → Prop
  | nil : HitN K H ls [] true
  | miss {k : Key} {v : V} {r : List (Key × V)} (e : valV ls k = none) : HitN K H ls ((k, v) :: r) false
  | hit {k : Key} {v u : V} {r : List (Key × V)} {e' b : Bool} (e : valV ls k = some u) (p : EqN K H v u e') (m : HitN K H ls r b) : HitN K H ls ((k, v) :: r) (e' && b)
theorem HitN.run {X : Cx} {pins : List (Addr × Obj)} {σ : L2.St} {H : Hp} {s : Shared} {A : Around} (I : Inv X pins σ H s) (hu : A.in1.units + 65 < cLine) {ls : List (Key × V)} {vb : List (Key × Value)} (rb : KV ls vb) {ks : List (Key × V)} {b : Bool} (m : HitN X.K H ls ks b) :
    ∀ {va : List (Key × Value)}, KV ks va → PySem.W.KeqHitsP X.prog X.w A.in1 s vb va b := by
  induction m with
  | nil => intro va ra; cases ra; exact .nil
  | @miss k v r e =>
    intro va ra
    match va, ra with
    | (k', x) :: qs, .cons ⟨h1, h2⟩ t =>
      have h1 : k = k' := h1
      subst h1
      have z := rb.val k
      rw [e] at z
      exact .miss (by cases y : valueAt vb k with
        | none => rfl
        | some w => rw [y] at z; exact z.elim)
  | @hit k v u r e' b e p m ih =>
    intro va ra
    match va, ra with
    | (k', x) :: qs, .cons ⟨h1, h2⟩ t =>
      have h1 : k = k' := h1
      subst h1
      have z := rb.val k
      rw [e] at z
      obtain ⟨y, hy, ry⟩ := z.some_of
      exact .hit hy (p.run I hu h2 ry) (ih t)
def rEqN (K : PySem.W.Frag) : R2 := fun x y H Q => ∃ a b ks ls r, x = .ref a ∧ y = .ref b ∧ H a = some (.dK ks) ∧ H b = some (.dK ls) ∧ (ks.length = ls.length → HitN K H ls ks r) ∧ Q (.bl (ks.length == ls.length && r)) H
def eqvN (h : Hm) (v u : Wv) : Option Bool := match dkOf h v, dkOf h u with
  | some ka, some kb => match v, u with
    | .obj i, .obj j => if i = j then none else dkEq h ka kb
    | _, _ => none
  | _, _ => match dat h 50 v, dat h 50 u with
    | some d, some d' => if (shaped d && shaped d') = true then some (PyData.eqv d d') else none
    | _, _ => none
def hitsN (h : Hm) (kb : List (Key × Wv)) : List (Key × Wv) → Option Bool
  | [] => some true
  | (k, v) :: r => match valW kb k with
    | none => some false
    | some u => match eqvN h v u, hitsN h kb r with
      | some e, some b => some (e && b)
      | _, _ => none
def eqDD : F2 := fun a b h => match dkOf h a, dkOf h b with
  | some ka, some kb => if ka.length = kb.length then (match hitsN h kb ka with | some r => .ok (.bl r) h | none => .no) else .ok (.bl false) h
  | _, _ => .no
section
variable {X : Cx} {a b : Expr} {pos : Pos} {ma mb : EM}
end
end MM

set_option maxRecDepth 100000
set_option maxHeartbeats 4000000
namespace GP
open PySem PySem.Spec PyProof.Rows L2 K01 MM
def m_Asker_words : FM := fun_ 1 1 ((sRet (eCall sortDk (aCons (eFld "Asker" "own_known" (eVar 0)) aNil))))
def m_Asker_state : FM := fun_ 3 1 ((sSeq (sSet 1 (eCall tupOf (aCons (eLc (iSeqM (eMeth "Asker" "words" m_Asker_words (eVar 0) aNil)) [2] (gN 2) tYesM (eTup (aCons (eVar 2) (aCons (eOp dgetM (eFld "Asker" "own_known" (eVar 0)) (eVar 2)) aNil)))) aNil)))
    (sRet (eTup (aCons (eFld "Asker" "own_name" (eVar 0)) (aCons (eFld "Asker" "own_busy" (eVar 0)) (aCons (eCall tupOf (aCons (eFld "Asker" "own_tellings" (eVar 0)) aNil)) (aCons (eVar 1) aNil))))))))
def m_Asker___eq__ : FM := fun_ 2 2 ((sRet (eAnd (eCall (isiX "Asker") (aCons (eVar 1) (aCons (eC (.glob "Asker")) aNil))) (eOp (eqB false) (eMeth "Asker" "state" m_Asker_state (eVar 0) aNil) (eMeth "Asker" "state" m_Asker_state (eVar 1) aNil)))))
def m_Asker___init__ : FM := fun_ 2 2 ((sSeq (sIf (tNotM (tTru (eCall m_is_word (aCons (eVar 1) aNil)))) sNo sNil)
    (sSeq (sFldM "Asker" "own_name" (eVar 0) (eVar 1))
    (sSeq (sFldM "Asker" "own_known" (eVar 0) eDnewK)
    (sSeq (sFldM "Asker" "own_busy" (eVar 0) (eC .non))
    (sFldM "Asker" "own_tellings" (eVar 0) (eLst aNil)))))))
def m_Asker_known : FM := fun_ 2 2 ((sSeq (sExpr (eCall m_look_at_key (aCons (eVar 1) aNil)))
    (sRet (eDget2 (eFld "Asker" "own_known" (eVar 0)) (eVar 1) (eTup aNil)))))
def m_together : FM := fun_ 3 1 ((sRet (eCall tupOf (aCons (eCall sortSd (aCons (eSc2 (iSeqM (eVar 0)) [1, 2] (gN 1) (iSeqM (eVar 1)) [2] (gN 2) (eVar 2)) aNil)) aNil))))
def m_rises : FM := fun_ 3 1 ((sRet (eCall allM (aCons (eLc (iArgs zipS (aCons (eVar 0) (aCons (eSl (eVar 0) (oSome (eC (.int 1))) oNone) aNil))) [1, 2] (gT 2 (gsCons (gN 1) (gsCons (gN 2) gsNil))) tYesM (eOp ltD (eVar 1) (eVar 2))) aNil))))
def m_is_dot : FM := fun_ 4 1 ((sSeq (sIf (tOrM (tNotM (tTru (eCall (isiM .tup) (aCons (eVar 0) (aCons (eC (.raw (.ty "tuple"))) aNil))))) (tOf (eOp (eqB true) (eCall lenM (aCons (eVar 0) aNil)) (eC (.int 3))))) (sRet (eC (.bl false))) sNil)
    (sSeq (sAsg (eVar 0) (gT 3 (gsCons (gN 1) (gsCons (gN 2) (gsCons (gN 3) gsNil)))))
    (sSeq (sIf (tOrM (tNotM (tTru (eCall m_is_whole (aCons (eVar 1) aNil)))) (tOrM (tNotM (tTru (eCall m_is_whole (aCons (eVar 3) aNil)))) (tNotM (tTru (eCall m_is_word (aCons (eVar 2) aNil)))))) (sRet (eC (.bl false))) sNil)
    (sRet (eAnd (eCh leI leI (eC (.int 1)) (eVar 1) (eC (.int 1000000000000))) (eOp geI (eVar 3) (eC (.int 1)))))))))
def m_is_known : FM := fun_ 2 1 ((sSeq (sIf (tOrM (tNotM (tTru (eCall (isiM .tup) (aCons (eVar 0) (aCons (eC (.raw (.ty "tuple"))) aNil))))) (tNotM (tTru (eCall allM (aCons (eLc (iSeqM (eVar 0)) [1] (gN 1) tYesM (eCall m_is_dot (aCons (eVar 1) aNil))) aNil))))) (sRet (eC (.bl false))) sNil)
    (sRet (eCall m_rises (aCons (eVar 0) aNil)))))
def m_Asker_learn : FM := fun_ 5 3 ((sSeq (sSet 3 (eMeth "Asker" "known" m_Asker_known (eVar 0) (aCons (eVar 1) aNil)))
    (sSeq (sIf (tNotM (tTru (eCall m_is_known (aCons (eVar 2) aNil)))) sNo sNil)
    (sSeq (sSet 4 (eCall m_together (aCons (eLst (aCons (eVar 3) (aCons (eVar 2) aNil))) aNil)))
    (sSeq (sIf (tTru (eVar 4)) (sDput (eFld "Asker" "own_known" (eVar 0)) (eVar 1) (eVar 4)) sNil)
    (sRet (eOp (eqB true) (eVar 4) (eVar 3))))))))
def m_Asker___len__ : FM := fun_ 1 1 ((sRet (eCall lenM (aCons (eFld "Asker" "own_tellings" (eVar 0)) aNil))))
def m_Asker_tellings : FM := fun_ 1 1 ((sRet (eCall listOf (aCons (eFld "Asker" "own_tellings" (eVar 0)) aNil))))
def m_Asker_busy : FM := fun_ 1 1 ((sRet (eFld "Asker" "own_busy" (eVar 0))))
def m_Asker_called : FM := fun_ 1 1 ((sRet (eFld "Asker" "own_name" (eVar 0))))
def m_Asker_twin : FM := fun_ 2 1 ((sSeq (sSet 1 (eCall (mkC "Asker" m_Asker___init__) (aCons (eFld "Asker" "own_name" (eVar 0)) aNil)))
    (sSeq (sFldM "Asker" "own_known" (eVar 1) (eCall dictC (aCons (eFld "Asker" "own_known" (eVar 0)) aNil)))
    (sSeq (sFldM "Asker" "own_busy" (eVar 1) (eFld "Asker" "own_busy" (eVar 0)))
    (sSeq (sFldM "Asker" "own_tellings" (eVar 1) (eMeth "Asker" "tellings" m_Asker_tellings (eVar 0) aNil))
    (sRet (eVar 1)))))))
def m_Asker_hear : FM := fun_ 6 5 ((sSeq (sIf (tOrM (tNotM (tTru (eCall m_is_whole (aCons (eVar 1) aNil)))) (tOf (eOp (eqB true) (eVar 1) (eFld "Asker" "own_busy" (eVar 0))))) (sRet (eC (.bl false))) sNil)
    (sSeq (sSet 5 (eTup (aCons (eVar 1) (aCons (eVar 2) (aCons (eIf (tOf (eOp (isNB false) (eVar 3) (eC .non))) (eC .non) (eCall tupOf (aCons (eVar 3) aNil))) aNil)))))
    (sSeq (sExpr (eMeth "Asker" "learn" m_Asker_learn (eVar 0) (aCons (eVar 2) (aCons (eVar 4) aNil))))
    (sSeq (sFldM "Asker" "own_busy" (eVar 0) (eC .non))
    (sSeq (sExpr (eBm isLst appM (eFld "Asker" "own_tellings" (eVar 0)) (aCons (eVar 5) aNil)))
    (sRet (eC (.bl true)))))))))
def m_Asker_begin : FM := fun_ 2 2 ((sSeq (sIf (tOf (eOp (isNB true) (eFld "Asker" "own_busy" (eVar 0)) (eC .non))) sNo sNil)
    (sFldM "Asker" "own_busy" (eVar 0) (eVar 1))))
def m_Asker_leave_off : FM := fun_ 2 1 ((sSeq (sIf (tOf (eOp (isNB false) (eFld "Asker" "own_busy" (eVar 0)) (eC .non))) sNo sNil)
    (sSeq (sSet 1 (eFld "Asker" "own_busy" (eVar 0)))
    (sSeq (sFldM "Asker" "own_busy" (eVar 0) (eC .non))
    (sRet (eVar 1))))))
end GP

set_option maxRecDepth 100000
set_option maxHeartbeats 4000000

namespace MM
open PySem PySem.Spec PyProof.Rows L2

section
variable {P : Program} {w : World} {H : Hp} {h : Heap} {e C : Addr} {d : Option Addr}
theorem exq_ok {oe : Obj} {vs : Array Value} (he : h.get? e = some oe) (z : Zc (.ref C) d oe) (f : oe.data = .fields vs) : ObjOk P w H h e (exq e C d) :=
  ⟨⟨oe, vs, he, z, f⟩, ⟨oe, he⟩, fun h1 h2 ⟨o, v, e1, z1, f1⟩ k => ⟨o, v, k o e1, z1, f1⟩⟩
theorem exq_at (hok : HOk P w H h) (q : H e = some (exq e C d)) : ∃ oe vs, h.get? e = some oe ∧ Zc (.ref C) d oe ∧ oe.data = .fields vs := (hok e _ q).1
end
theorem fly_keeps {B h h' : Heap} {l : List PySem.Env} {a : Addr} {Z : Obj → Prop} (x : HandSPX.FlyingZ B l a Z h) (k : ∀ b o, h.get? b = some o → h'.get? b = some o) : HandSPX.FlyingZ B l a Z h' := by
  obtain ⟨x1, x2, x3, oe, vs, T, oT, ts, y1, y2, y3, y4, y5, y6, y7, y8, y9⟩ := x
  exact ⟨fun b o e => k b o (x1 b o e), x2, Heap.FunFrames.of_keeps (fun b o e _ => ⟨o, k b o e, rfl⟩) x3, oe, vs, T, oT, ts, k _ _ y1, y2, y3, y4, y5, y6, k _ _ y7, y8, y9⟩
section
variable {X : Cx} {pins : List (Addr × Obj)} {σ : L2.St} {H : Hp} {sI s' : Shared} {B : Heap} {a C : Addr} {d : Option Addr}
theorem inv_caught {oe : Obj} {vs : Array Value} (I : Inv X pins σ H sI) (nb : ∀ b o, sI.heap.get? b = some o → b ∉ frs X.stack → B.get? b = some o) (nB : B.get? a = none) (st : B.StaysIn s'.heap) (up : sI.heap.UpToSlots s'.heap) (os : s'.os = sI.os) (ag : AllBare s'.gens)
    (he : s'.heap.get? a = some oe) (hz : Zc (.ref C) d oe) (hd : oe.data = .fields vs) (na : H a = none) (nfr : a ∉ frs X.stack) : Inv X pins σ (upd H a (exq a C d)) s' := by
  have new : ∀ {b o}, sI.heap.get? b = some o → b ≠ a := fun {b o} e z => by
    subst z
    have := nb b o e nfr
    rw [nB] at this; cases this
  have fr : ∀ b, b ∈ frs X.stack → ∀ o, sI.heap.get? b = some o → ∃ sl, s'.heap.get? b = some { o with slots := sl } := fun b hb o e => by
    obtain ⟨_, o', e', q⟩ := I.stack.mem hb
    rw [e] at e'; cases e'
    exact up b o e q
  have g : HOk X.prog X.w H s'.heap := (I.inGround nb).kept st
  have hk : HOk X.prog X.w (upd H a (exq a C d)) s'.heap := fun b o q => by
    by_cases hb : b = a
    · subst hb
      rw [upd_same] at q; cases q
      exact exq_ok he hz hd
    · rw [upd_ne hb] at q
      exact (g b o q).stay (fun _ _ _ y => y) (fun c y => by rw [upd_ne (ne_of_none y na)]; exact y) fun c xs y => by rw [upd_ne (ne_of_none y na)]; exact y
  refine I.call' (ch := []) os ⟨fun b o e n hb _ => st b o (nb b o e hb), fun b o e _ hb _ => fr b hb o e, fun b o e n _ => by rw [upd_ne (new e)]; exact n, fun b o e _ => ?_, fun b xs y => ?_, fun b o xs y => ?_, fun b ps y => ⟨#[], ?_⟩⟩ hk ag fun b z => absurd z (by simp)
  · by_cases hb : b ∈ frs X.stack
    · obtain ⟨sl, q⟩ := fr b hb o e
      exact ⟨_, q⟩
    · exact ⟨o, st b o (nb b o e hb)⟩
  · rw [upd_ne (ne_of_none y na)]; exact y
  · rw [upd_ne (ne_of_none y na)]; exact y
  · rw [upd_ne (ne_of_none y na), y]; simp
theorem inv_suite {s : Shared} (I : Inv X pins σ H s) (b : Addr) : Inv (X.suite b (X.pn ++ pins)) [] σ H s := ⟨I.ok.suite _ _, I.os, I.bare, I.base, I.loc, I.cell, I.free, I.freeC, fun p hp => I.pin p (by rw [List.append_nil] at hp; exact hp), I.hok, I.len⟩
theorem inv_unsuite {s : Shared} {pn : List (Addr × Obj)} {b : Addr} (I : Inv (X.suite b (X.pn ++ pins)) pn σ H s) (ok : X.Ok) : Inv X pins σ H s := ⟨ok, I.os, I.bare, I.base, I.loc, I.cell, I.free, I.freeC, fun p hp => I.pin p (List.mem_append_left _ hp), I.hok, I.len⟩
end

theorem all_exc {M : Model} {A : Around} {E : Value → Shared → Prop} {s : Shared} {f : Value → PUnit → Sem (ForInStep PUnit)} : ∀ {cs : List Value} {Q : PUnit → Shared → Prop}, (∀ c ∈ cs, ∀ Q' : ForInStep PUnit → Shared → Prop, Q' (.yield ⟨⟩) s → wpAny M A (f c ⟨⟩) Q' E s) → Q ⟨⟩ s → wpAny M A (forIn cs PUnit.unit f) Q E s
  | [], Q, _, q => wpAny_pure q
  | c :: cs, Q, hf, q => by
    rw [List.forIn_cons]
    exact wpAny_bind (hf c (by simp) _ (all_exc (fun c' m => hf c' (List.mem_cons_of_mem _ m)) q))
theorem some_exc {M : Model} {A : Around} {E : Value → Shared → Prop} {s : Shared} {β : Type} {f : Value → β → Sem (ForInStep β)} {r0 r1 : β} {K : PySem.W.Frag} {cls : Value} : ∀ {cs : List Value} {b : Bool} {Q : β → Shared → Prop}, PySem.W.exmAny K cls cs = some b →
    (∀ c ∈ cs, ∀ b1, PySem.W.exmOne K cls c = some b1 → ∀ Q' : ForInStep β → Shared → Prop, Q' (if b1 = true then .done r1 else .yield r0) s → wpAny M A (f c r0) Q' E s) → Q (if b = true then r1 else r0) s → wpAny M A (forIn cs r0 f) Q E s
  | [], b, Q, e, _, q => by
    have e : some false = some b := e
    cases e
    exact wpAny_pure q
  | c :: cs, b, Q, e, hf, q => by
    obtain ⟨b1, d1, x1, y1, rfl⟩ := PySem.W.exmAny_cons e
    rw [List.forIn_cons]
    refine wpAny_bind (hf c (by simp) b1 x1 _ ?_)
    cases b1 with
    | true => exact wpAny_pure q
    | false => exact some_exc y1 (fun c' m => hf c' (List.mem_cons_of_mem _ m)) q
theorem exm_all {M : Model} {K : PySem.W.Frag} {cls : Value} {cs : List Value} {tp e : Addr} {b : Bool} {h : Heap} (X : K.In h) (LT : PySem.W.Looks M h (typeOf (.ref e)) cls) (hp : h.get? tp = some { cls := .type "tuple", data := .seq cs.toArray }) (hx : PySem.W.exmAny K cls cs = some b) :
    PySem.W.Looks M h (excMatches (.ref e) (.ref tp)) b := by
  intro A Q E s k q
  have isT : PySem.W.Looks M h (isInstance (.ref tp) (.type "tuple")) true := ((PySem.W.Looks.ld hp).andThen .now).andThen (PySem.W.Looks.of_pure isSubtype_tuple_tuple)
  obtain ⟨hh, g, d, tk, os⟩ := s
  have k : ∀ b o, h.get? b = some o → hh.get? b = some o := k
  have Kh := X.keeps k
  have LT := LT.keeps k
  have isT := isT.keeps k
  have hq := k _ _ hp
  unfold excMatches
  refine wpAny_bind (isT.at ?_)
  dsimp only
  rw [if_pos rfl]
  first
    | refine wpAny_bind (wpAny_seqItems hq rfl ?_)
    | refine wpAny_bind (wpAny_bind (wpAny_seqItems hq rfl (wpAny_pure ?_)))
  dsimp only [Option.getD_some, Option.getD]
  refine wpAny_bind (wpAny_pure ?_)
  refine wpAny_bind (all_exc (fun c m Q' q' => ?_) ?_)
  · obtain ⟨b1, x1⟩ : ∃ b1, PySem.W.exmOne K cls c = some b1 := by
      clear q hp hq
      induction cs generalizing b with
      | nil => cases m
      | cons c' cs ih =>
        obtain ⟨b1, d1, x1, y1, _⟩ := PySem.W.exmAny_cons hx
        rcases List.mem_cons.mp m with rfl | m
        · exact ⟨b1, x1⟩
        · exact ih y1 m
    obtain ⟨e1, _⟩ := PySem.W.exm_cls (M := M) Kh x1
    refine wpAny_bind (e1.at ?_)
    simp only [Bool.not_true, Bool.false_eq_true, if_false]
    exact wpAny_pure q'
  · refine wpAny_bind (LT.at ?_)
    refine wpAny_bind (some_exc (K := K) (cls := cls) (r1 := (some true, ())) hx (fun c m b1 x1 Q' q' => ?_) ?_)
    · obtain ⟨_, e2⟩ := PySem.W.exm_cls (M := M) Kh x1
      refine wpAny_bind (e2.at ?_)
      cases b1 with
      | true => exact wpAny_pure q'
      | false => exact wpAny_pure q'
    · cases b with
      | true => exact wpAny_pure q
      | false => exact wpAny_pure q
inductive ClsT (N : PySem.Str → Value → Prop) : Expr → List Value → Prop
  | one {x : PySem.Str} {np : Pos} {c : Value} (h : N x c) : ClsT N (.Name x np) [c]
  | tup {es : List Expr} {cs : List Value} {kk : Nat} {tpos : Pos} (h : Paired (fun e c => ∃ x np, e = Expr.Name x np ∧ N x c) es cs) (hl : cs.length ≤ sizeLine) : ClsT N (.Tuple es kk tpos) cs
section
variable {X : Cx} {pins : List (Addr × Obj)} {σ : L2.St} {H : Hp} {s : Shared} {a : Addr} {cls : Value}
theorem name_run {x : PySem.Str} {c : Value} {np : Pos} {Q : Value → Shared → Prop} {E : Value → Shared → Prop} (I : Inv X pins σ H s) (n : Names X x c) (q : Q c s) : wpAny (model X.prog X.w) X.A (eval (.Name x np) X.env) Q E s := by
  obtain ⟨hg, hd, hm | ⟨hm, hv, hn⟩⟩ := n
  · exact ld_glob I hg hm q hd
  · exact ld_blt I hg hm hv q hn hd
theorem names_run {pos : Pos} {E : Value → Shared → Prop} : ∀ {es : List Expr} {cs : List Value} {Q : List Value → Shared → Prop}, Paired (fun e c => ∃ x np, e = Expr.Name x np ∧ Names X x c) es cs → Inv X pins σ H s → Q cs s → wpAny (model X.prog X.w) X.A (spliced (backTo pos (starEach es X.env))) Q E s
  | _, _, Q, .nil, I, q => wpAny_items_nil q
  | _, _, Q, .cons r t, I, q => by
    obtain ⟨x, np, rfl, n⟩ := r
    exact wpAny_items_cons (name_run I n (names_run t I q))
theorem cls_run {t : Expr} {cs : List Value} {b : Bool} {Q : Bool → Shared → Prop} {E : Value → Shared → Prop} (I : Inv X pins σ H s) (T : ClsT (Names X) t cs) (LT : PySem.W.Looks (model X.prog X.w) s.heap (typeOf (.ref a)) cls) (hx : PySem.W.exmAny X.K cls cs = some b)
    (q : ∀ h', (∀ b o, s.heap.get? b = some o → h'.get? b = some o) → Q b { s with heap := h' }) : wpAny (model X.prog X.w) X.A (eval t X.env) (fun v t1 => wpAny (model X.prog X.w) X.A (excMatches (.ref a) v) Q E t1) E s := by
  cases T with
  | one n =>
    obtain ⟨b1, d1, x1, y1, rfl⟩ := PySem.W.exmAny_cons hx
    have y1 : some false = some d1 := y1
    cases y1
    rw [Bool.or_false] at q
    exact name_run I n ((PySem.W.exm_one I.kIn LT x1).here (q s.heap fun _ _ z => z))
  | tup h hl =>
    refine wpAny_Tuple (names_run h I ⟨hl, ?_⟩)
    have kp : ∀ b o, s.heap.get? b = some o → (s.heap.push { cls := .type "tuple", data := .seq cs.toArray }).get? b = some o := fun _ _ z => Heap.get?_push_of_some _ z
    exact (exm_all (I.kIn.keeps kp) (LT.keeps kp) (Heap.get?_push_size s.heap rfl) hx).here (q _ kp)
end

structure Cl where
  cs : List Value
  sl : Option Nat
  ts : TS
def slotS (σ : L2.St) (v : Option V) : Option Nat → L2.St
  | none => σ
  | some i => σ.set i v
def goneE (D : Ends) (o : Option Nat) : Ends := { nx := fun σ H => D.nx (slotS σ none o) H, rt := D.rt, bk := fun σ H => D.bk (slotS σ none o) H, ct := fun σ H => D.ct (slotS σ none o) H }
def wCl (K : PySem.W.Frag) (Wout : WX) (D : Ends) : List Cl → WX
  | [] => Wout
  | k :: r => fun cls d σ H => ∃ b, PySem.W.exmAny K cls k.cs = some b ∧ (b = true → ∃ C, cls = .ref C ∧ ∀ a, H a = none → k.ts (goneE D k.sl) (slotS σ (some (.ref a)) k.sl) (upd H a (exq a C d))) ∧ (b = false → wCl K Wout D r cls d σ H)
inductive HdR (X : Cx) : List ExceptHandler → List Cl → Prop
  | nil : HdR X [] []
  | as_ {t : Expr} {cs : List Value} {n : PySem.Str} {i : Nat} {ts : TS} {b₀ : Stmt} {suite : List Stmt} {pos' : Pos} {hds : List ExceptHandler} {l : List Cl} (hc : ClsT (Names X) t cs) (hi : X.N[i]? = some n) (hl : X.env.kindOf n = some .local)
      (hsu : ∀ (a : Addr) (pn : List (Addr × Obj)), PSs (X.suite a pn) (b₀ :: suite) ts) (r : HdR X hds l) : HdR X (.ExceptHandler (some t) (some n) (b₀ :: suite) pos' :: hds) (⟨cs, some i, ts⟩ :: l)
  | no {t : Expr} {cs : List Value} {ts : TS} {b₀ : Stmt} {suite : List Stmt} {pos' : Pos} {hds : List ExceptHandler} {l : List Cl} (hc : ClsT (Names X) t cs)
      (hsu : ∀ (a : Addr) (pn : List (Addr × Obj)), PSs (X.suite a pn) (b₀ :: suite) ts) (r : HdR X hds l) : HdR X (.ExceptHandler (some t) none (b₀ :: suite) pos' :: hds) (⟨cs, none, ts⟩ :: l)
section
variable {X : Cx} {body : List Stmt} {h₀ : ExceptHandler} {hds : List ExceptHandler} {l : List Cl} {pos : Pos} {tb : WX → TS} {Wout : WX}
theorem hands {pins : List (Addr × Obj)} {D : Ends} {a : Addr} {B : Heap} {sI s' : Shared} {σ : L2.St} {H : Hp} {cls : Value} {d : Option Addr} (ok : X.Ok) (hs : X.stack = X.env :: X.outer) (hf : X.env.frame = some X.env.locals) (hN : X.N.Nodup) (tk : Takes X Wout)
    (J : Inv X pins σ H sI) (nb : ∀ b o, sI.heap.get? b = some o → b ∉ frs X.stack → B.get? b = some o) (na : H a = none) (os : s'.os = sI.os) (ag : AllBare s'.gens) {hds : List ExceptHandler} {l : List Cl} (R : HdR X hds l) :
    ∀ (h : Heap), HandSPX.FlyingZ B (X.env :: X.outer) a (Zc cls d) h → sI.heap.UpToSlots h → wCl X.K Wout D l cls d σ H → wpAny (model X.prog X.w) X.A (handleBy (.ref a) X.env hds) (SP X pins D) X.xe { s' with heap := h } := by
  have nfr : ∀ {h : Heap}, HandSPX.FlyingZ B (X.env :: X.outer) a (Zc cls d) h → a ∉ frs X.stack := fun {h} fl hm => by
    obtain ⟨oe, vs, he, hz, hd⟩ := fl.there
    rw [hs] at hm
    obtain ⟨_, o', e', q⟩ := fl.2.2.1.mem hm
    rw [he] at e'; cases e'
    exact q _ hd
  induction R with
  | nil =>
    intro h fl up wi
    refine wpAny_handleBy_nil ?_
    obtain ⟨_, _, _, oe, vs, T, _, _, he, _, hd, h1, _⟩ := id fl
    unfold PySem.passOn
    refine wpAny_bind (wpAny_field he hd h1 ?_)
    rw [if_neg (show ¬ ((Value.ref T == Value.none) = true) from by simp)]
    have fin : wpAny (model X.prog X.w) X.A (setFlight (.ref a) X.env.frame) (fun _ t4 => wpAny (model X.prog X.w) X.A (throw (.ref a) : Sem Flow) (SP X pins D) X.xe t4) X.xe { s' with heap := h } := by
      rw [hf]
      exact HandSPX.setFlight_upZ fl fun h4 hh4 up4 => wpAny_throw (tk _ _ ⟨a, B, sI, pins, σ, H, cls, d, rfl, J, nb, up.trans up4, .inr (.inr (by rw [hs]; exact hh4)), na, os, ag, wi⟩)
    first
      | exact wpAny_bind (wpAny_pure (wpAny_bind fin))
      | exact wpAny_bind fin
  | @as_ t cs n i ts b₀ suite pos' hds2 l2 hc hi hl hsu r ih =>
    intro h fl up wi
    obtain ⟨b, hb, yes, no⟩ := wi
    have J3 : Inv X pins σ H { s' with heap := h } := J.landed nb fl.1 up os ag
    obtain ⟨oe, vs, he, hz, hd⟩ := fl.there
    have LT : PySem.W.Looks (model X.prog X.w) h (typeOf (.ref a)) cls := fun _ _ _ _ k q => wpAny_typeOf_ref (k _ _ he) (by rw [hz.1]; exact q)
    refine wpAny_handleBy_cons (codeAny_handlers_test ?_) (by intro z; cases z)
    refine cls_run (X := X.suite a (X.pn ++ pins)) (inv_suite J3 a) hc LT hb fun h5 k5 => ?_
    have fl5 := fly_keeps fl k5
    have up5 := up.trans (Heap.UpToSlots.of_keeps k5)
    cases b with
    | false => exact ih h5 fl5 up5 (no rfl)
    | true =>
      obtain ⟨C, rfl, ys⟩ := yes rfl
      refine codeAny_handlers_suite_as (HandSPX.lands_againZ fl5 fun h6 fl6 up6 => ?_)
      obtain ⟨oe6, vs6, he6, hz6, hd6⟩ := fl6.there
      have S6 := inv_suite (inv_caught (s' := { s' with heap := h6 }) J nb fl6.2.1 fl6.1 (up5.trans up6) os ag he6 hz6 hd6 na (nfr fl6)) a
      refine store_ok (X := X.suite a (X.pn ++ pins)) (v := .ref a) S6 hN hi (.inl hl) rfl (fun s7 S7 => ?_) (.inr hl)
      refine wpAny_mono ((hsu a (X.pn ++ pins)).run [] s7 _ _ (goneE D (some i)) S7 (ys a na)) (fun f s8 z => ?_) (fun _ _ z => False.elim z)
      have fin : ∀ {σ8 : L2.St} {H8 : Hp} {Q : Shared → Prop}, Inv (X.suite a (X.pn ++ pins)) [] σ8 H8 s8 → (∀ s9, Inv X pins (σ8.set i none) H8 s9 → Q s9) → wpAny (model X.prog X.w) X.A (do bindName X.env n .none; unbindBehindTheSuite X.env n pos') (fun _ s9 => Q s9) X.xe s8 :=
        fun S8 q => gone_ok (inv_unsuite S8 ok) hN hi hl q
      cases f with
      | next =>
        obtain ⟨σ8, H8, S8, q8⟩ := z
        exact fin S8 fun s9 J9 => ⟨_, _, J9, q8⟩
      | brk =>
        obtain ⟨σ8, H8, S8, q8⟩ := z
        exact fin S8 fun s9 J9 => ⟨_, _, J9, q8⟩
      | cont =>
        obtain ⟨σ8, H8, S8, q8⟩ := z
        exact fin S8 fun s9 J9 => ⟨_, _, J9, q8⟩
      | ret u =>
        obtain ⟨v8, σ8, H8, S8, r8, q8⟩ := z
        exact fin S8 fun s9 J9 => ⟨_, _, _, J9, r8, q8⟩
  | @no t cs ts b₀ suite pos' hds2 l2 hc hsu r ih =>
    intro h fl up wi
    obtain ⟨b, hb, yes, no⟩ := wi
    have J3 : Inv X pins σ H { s' with heap := h } := J.landed nb fl.1 up os ag
    obtain ⟨oe, vs, he, hz, hd⟩ := fl.there
    have LT : PySem.W.Looks (model X.prog X.w) h (typeOf (.ref a)) cls := fun _ _ _ _ k q => wpAny_typeOf_ref (k _ _ he) (by rw [hz.1]; exact q)
    refine wpAny_handleBy_cons (codeAny_handlers_test ?_) (by intro z; cases z)
    refine cls_run (X := X.suite a (X.pn ++ pins)) (inv_suite J3 a) hc LT hb fun h5 k5 => ?_
    have fl5 := fly_keeps fl k5
    have up5 := up.trans (Heap.UpToSlots.of_keeps k5)
    cases b with
    | false => exact ih h5 fl5 up5 (no rfl)
    | true =>
      obtain ⟨C, rfl, ys⟩ := yes rfl
      refine codeAny_handlers_suite (HandSPX.lands_againZ fl5 fun h6 fl6 up6 => ?_)
      obtain ⟨oe6, vs6, he6, hz6, hd6⟩ := fl6.there
      have S6 := inv_suite (inv_caught (s' := { s' with heap := h6 }) J nb fl6.2.1 fl6.1 (up5.trans up6) os ag he6 hz6 hd6 na (nfr fl6)) a
      refine wpAny_mono ((hsu a (X.pn ++ pins)).run [] _ _ _ (goneE D none) S6 (ys a na)) (fun f s8 z => ?_) (fun _ _ z => False.elim z)
      cases f with
      | next =>
        obtain ⟨σ8, H8, S8, q8⟩ := z
        exact ⟨_, _, inv_unsuite S8 ok, q8⟩
      | brk =>
        obtain ⟨σ8, H8, S8, q8⟩ := z
        exact ⟨_, _, inv_unsuite S8 ok, q8⟩
      | cont =>
        obtain ⟨σ8, H8, S8, q8⟩ := z
        exact ⟨_, _, inv_unsuite S8 ok, q8⟩
      | ret u =>
        obtain ⟨v8, σ8, H8, S8, r8, q8⟩ := z
        exact ⟨_, _, _, inv_unsuite S8 ok, r8, q8⟩
theorem ps_tryC (hs : X.stack = X.env :: X.outer) (hf : X.env.frame = some X.env.locals) (hN : X.N.Nodup) (tk : Takes X Wout)
    (hb : ∀ (W : WX) (pn : List (Addr × Obj)) (xe : Value → Shared → Prop), Takes (X.tr pn xe) W → PassesOwn (model X.prog X.w) X.A X.env xe → PSs (X.tr pn xe) body (tb W))
    (hh : HdR X (h₀ :: hds) l) : PS X (.Try body (h₀ :: hds) [] [] pos) (fun D σ H => tb (wCl X.K Wout D l) D σ H) := by
  refine ⟨fun pins s σ H D I z => ?_⟩
  have ok := I.ok
  have fr : X.A.frames = some (X.env :: X.outer) := by rw [ok.frames, hs]
  refine wpAny_Try_except (wpAny_mono ((hb (wCl X.K Wout D l) (X.pn ++ pins) (fun e t1 => wpAny (model X.prog X.w) X.A (noteFrame e X.env) (fun _ t2 => wpAny (model X.prog X.w) X.A (setFlight e none) (fun _ t3 =>
    wpAny (model X.prog X.w) X.A (handleBy e X.env (h₀ :: hds)) (SP X pins D) X.xe t3) X.xe t2) X.xe t1) (fun u s' x => ?_) PassesOwn.looking).run [] s σ H D (I.toTry _) z) (fun f t1 y => ?_) fun _ _ y => y)
  · obtain ⟨a, B, sI, pins', σ', H', cls, d, rfl, J', nb, up, sky, na, os, ag, wi⟩ := x
    have J : Inv X pins σ' H' sI := J'.ofTry ok
    have sky : Sky B X.stack a (Zc cls d) X.env.locals s'.heap := sky
    rw [hs] at sky
    show wpAny (model X.prog X.w) X.A (noteFrame (.ref a) X.env) _ _ _
    exact Sky.land Zc.steady fr hf sky fun h3 fl3 up3 => hands ok hs hf hN tk J nb na os ag hh h3 fl3 (up.trans up3) wi
  · cases f with
    | next =>
      obtain ⟨σ', H', J', q⟩ := y
      exact wpAny_execs_nil ⟨σ', H', J'.ofTry ok, q⟩
    | brk =>
      obtain ⟨σ', H', J', q⟩ := y
      exact ⟨σ', H', J'.ofTry ok, q⟩
    | cont =>
      obtain ⟨σ', H', J', q⟩ := y
      exact ⟨σ', H', J'.ofTry ok, q⟩
    | ret u =>
      obtain ⟨v, σ', H', J', r, q⟩ := y
      exact ⟨v, σ', H', J'.ofTry ok, r, q⟩
end
end MM

set_option maxRecDepth 100000
set_option maxHeartbeats 4000000

namespace MM
open PySem PySem.Spec PyProof.Rows L2
section
variable {X : Cx} {pins : List (Addr × Obj)} {σ : L2.St}
theorem let_go {H1 H2 : Hp} {hp hp2 h2 : Heap} {g1 g2 : Array GenState} {d1 d2 : Drawn} {t1 t2 : Nat} {os1 os2 : OsState} {a C : Addr} {d : Option Addr} (I1 : Inv X pins σ H1 ⟨hp, g1, d1, t1, os1⟩) (ha : hp.objs.size ≤ a) (k : ∀ b o, hp.get? b = some o → hp2.get? b = some o)
    (un : Un (frs X.stack) [] (upd H1 a (exo a C none)) H2 hp2 h2) (hok : HOk X.prog X.w H2 h2) (ho : os2 = os1) (hb : AllBare g2) (ea : H2 a = some (exo a C d)) :
    ∃ (t0 : Addr) (G : Heap), Inv X pins σ (del H2 a) ⟨G, g2, d2, t2, os2⟩ ∧ (∀ b o, G.get? b = some o → h2.get? b = some o) ∧ G.get? a = none ∧
      h2.get? a = some ({ cls := .ref C, dict := d, data := .fields #[.ref t0, .none, .none, .none, .bool false, .none] } : Obj) := by
  obtain ⟨t0, oa⟩ := exo_at hok ea
  have na : H1 a = none := I1.hok.fresh ha
  obtain ⟨G, q1, q2⟩ := restrict h2 fun b => decide (b ≠ a)
  have gq : ∀ b, b ≠ a → G.get? b = h2.get? b := fun b z => q1 b (decide_eq_true z)
  have ga : G.get? a = none := q2 a (by simp)
  have old : ∀ {b : Addr} {o : Obj}, hp.get? b = some o → b ≠ a := fun {b o} z y => by
    subst y
    exact Nat.lt_irrefl _ (Nat.lt_of_lt_of_le (Heap.lt_size z) ha)
  have nn : ∀ {b : Addr}, b ≠ a → H1 b = none → upd H1 a (exo a C none) b = none := fun {b} z n => by rw [upd_ne z]; exact n
  have U : Un (frs X.stack) [] H1 (del H2 a) hp G := {
    keep := fun b o z n f x => (gq b (old z)).trans (un.keep b o (k b o z) (nn (old z) n) f x)
    slot := fun b o z n f x => by
      obtain ⟨sl, y⟩ := un.slot b o (k b o z) (nn (old z) n) f x
      exact ⟨sl, (gq b (old z)).trans y⟩
    free := fun b o z n x => (del_ne (old z)).trans (un.free b o (k b o z) (nn (old z) n) x)
    there := fun b o z x => by
      obtain ⟨o', y⟩ := un.there b o (k b o z) x
      exact ⟨o', (gq b (old z)).trans y⟩
    tups := fun b xs z => (del_ne (ne_of_none z na)).trans (un.tups b xs (by rw [upd_ne (ne_of_none z na)]; exact z))
    frzs := fun b o v z => (del_ne (ne_of_none z na)).trans (un.frzs b o v (by rw [upd_ne (ne_of_none z na)]; exact z))
    tbls := fun b ps z => by
      obtain ⟨m, y⟩ := un.tbls b ps (by rw [upd_ne (ne_of_none z na)]; exact z)
      exact ⟨m, (del_ne (ne_of_none z na)).trans y⟩ }
  have hk : HOk X.prog X.w (del H2 a) G := fun b o z => by
    have hba : b ≠ a := fun y => by rw [y, del_same] at z; cases z
    rw [del_ne hba] at z
    have no : ∀ {c : Addr}, H2 c = some (.own b) → c ≠ a := fun {c} q => at_ne ea q exo_own
    refine (hok b o z).stay (fun c v q y => ?_) (fun c q => (del_ne (no q)).trans q) fun c xs q => (del_ne (at_ne ea q exo_tup)).trans q
    have : c ≠ a := by rcases q with q | q; · rw [q]; exact hba
                       · exact no q
    exact (gq c this).trans y
  refine ⟨t0, G, I1.call' (ch := []) ho U hk hb (fun b z => absurd z (by simp)), fun b o z => ?_, ga, oa⟩
  by_cases hba : b = a
  · rw [hba, ga] at z; cases z
  · exact (gq b hba).symm.trans z
end
section
variable {X : Cx} {CX : CXT} {k : Nat} {fI C : Addr} {fd : FuncData} {ps : List PySem.Str} {sp : Sp} {E : XK} {x f : PySem.Str} {p pos : Pos} {e : Expr} {te : TE}
theorem run_mkZ {pins : List (Addr × Obj)} {σ : L2.St} {H : Hp} {s : Shared} {Q : XK} {us : List Value} {fu : Value → List Value} {fv : V → List V} (M : XMk X.K C fI) (F1 : FnOk X.prog X.w X.K X.mg X.base CX k fI fd ps sp) (hr : Room (k + 1) X.A) (hx : Passes CX X E)
    (hb : ∀ (s' : Shared) (b : Addr), BindsTo s' fd ⟨.ref b :: us, []⟩ (ps.zip (fu (.ref b)))) (hv : ∀ b : Addr, Vals (fv (.ref b)) (fu (.ref b))) (hus : us.length ≤ sizeLine) (I : Inv X pins σ H s)
    (h : ∀ a, H a = none → sp (fv (.ref a)) (upd H a (exo a C none)) (fun v H2 => v = .non ∧ ∃ d, H2 a = some (exo a C d) ∧ Q (.ref C) d (del H2 a)) E) : wpAny (model X.prog X.w) X.A (call (.ref C) us []) (MkP X pins σ Q) X.xe s := by
  obtain ⟨bm, T⟩ := M.kx
  obtain ⟨B, nid, iid, bmB, nm, q, N, bs, sn, sub, ab, col, dd, k0, k1, k2, k3, k5, F, m, hC⟩ := T.ex
  obtain ⟨hp, g, dr, tk, os⟩ := s
  have le : hp.objs.size ≤ hp.objs.size + 1 := Nat.le_succ _
  have hq := h (hp.objs.size + 1) (I.hok.fresh le)
  have kk : ∀ b o, hp.get? b = some o → ((hp.push (PySem.W.kdv_tup us)).push (PySem.HandSPX.excO C hp.objs.size)).get? b = some o := fun b o z => Heap.get?_push_of_some _ (Heap.get?_push_of_some _ z)
  have oE : ((hp.push (PySem.W.kdv_tup us)).push (PySem.HandSPX.excO C hp.objs.size)).get? (hp.objs.size + 1) = some (PySem.HandSPX.excO C hp.objs.size) := by heap_get
  have I2 : Inv X pins σ (upd H (hp.objs.size + 1) (exo (hp.objs.size + 1) C none)) ⟨(hp.push (PySem.W.kdv_tup us)).push (PySem.HandSPX.excO C hp.objs.size), g, dr, tk, os⟩ :=
    I.laid (t' := tk) (a := hp.objs.size + 1) (o := exo (hp.objs.size + 1) C none) (h' := (hp.push (PySem.W.kdv_tup us)).push (PySem.HandSPX.excO C hp.objs.size)) kk le (exo_ok oE)
  refine wpAny_call (XK.callCls F m (I.kIn _ _ hC) (PySem.W.looks_findIn I.kIn M.iC) (fun z => PySem.W.bind_fn I.kIn z M.tI) hus
    (codeAny_mono (F1.run _ X.stack _ _ ⟨Value.ref (hp.objs.size + 1) :: us, []⟩ (fu (.ref (hp.objs.size + 1))) _ _ E (hr.make C us []) (I2.env0.make C us []) (hb _ _) (hv _) hq) fun r s' z => ?_))
  cases r with
  | error er => exact hx pins σ _ _ er s' I2 z
  | ok fl =>
    cases fl with
    | ret u =>
      obtain ⟨v, H2, o2, ab2, un2, hok2, rv, ev, d, ed, qq⟩ := z
      subst ev
      obtain ⟨h2, g2, d2, t2, os'⟩ := s'
      obtain ⟨t0, G, J, kG, gn, oa⟩ := let_go (d2 := d2) (t2 := t2) I le kk un2 hok2 o2 ab2 ed
      exact ⟨rv, _, _, _, ⟨G, g2, d2, t2, os'⟩, _, .ref C, d, rfl, J, kG, gn, oa, ⟨rfl, rfl⟩, rfl, rfl, del_same, rfl, ab2, raises_own T.sub T.ty, qq⟩
    | next => exact z.elim
    | brk => exact z.elim
    | cont => exact z.elim
theorem del_upd {H : Hp} {a : Addr} {o : HO} (n : H a = none) : del (upd H a o) a = H := by
  funext b
  by_cases z : b = a
  · rw [z, del_same, n]
  · rw [del_ne z, upd_ne z]
def pmQ (C : Addr) (f : PySem.Str) (Q : XK) : List V → Hp → Prop := fun xs H1 => match xs with
  | [v] => ∀ d, H1 d = none → Q (.ref C) (some d) (upd H1 d (exd d [(f, v)]))
  | _ => False
theorem pmk1 {sf nf : PySem.Str} (M : XMk X.K C fI) (F1 : FnOk X.prog X.w X.K X.mg X.base CX k fI fd [sf, nf] (spI1 C f)) (hr : Room (k + 1) X.A) (hx : Passes CX X E) (hb : ∀ (s' : Shared) (b v : Value), BindsTo s' fd ⟨[b, v], []⟩ [(sf, b), (nf, v)])
    (hg : Gl X x) (hm : X.mg x = some (.ref C)) (he : PE X e te) (hdb : (x == ("__debug__" : PySem.Str)) = false := by decide) (hs : starEach [e] X.env = (false, eval e X.env) :: starEach [] X.env := by rfl) :
    PMk X (.Call (.Name x p) [e] [] pos) (fun σ H Q => te σ H fun v H1 => ∀ d, H1 d = none → Q (.ref C) (some d) (upd H1 d (exd d [(f, v)]))) := by
  intro pins s σ H Q I h
  obtain ⟨bm, T⟩ := M.kx
  refine wpAny_Call_Name_kw (ld_glob I hg hm (PySem.W.callWith_K (h₀ := X.base) I.ok.mod.kin T.kC (thn ((pa_cons he pa_nil hs).run pos pins s σ H (pmQ C f Q) I h) fun us s1 hz => ?_) hs rfl) hdb)
  obtain ⟨vs, H1, I1, r1, q⟩ := hz
  match vs, r1, q with
  | [v], .cons ru .nil, q =>
      rename_i u
      refine ⟨I1.kIn, ?_⟩
      refine run_mkZ (E := E) (us := [u]) (fu := fun b => [b, u]) (fv := fun b => [b, v]) M F1 hr hx (fun s' b => hb s' _ _) (fun b => .cons rfl (.cons ru .nil)) (by show 1 ≤ sizeLine; rw [sizeLine_eq]; decide) I1 fun a fa => ⟨a, v, rfl, upd_same, fun d nd ne => ⟨rfl, some d, upd_same, ?_⟩⟩
      rw [upd_ne ne] at nd
      have : del (upd (upd (upd H1 a (exo a C none)) d (exd d [(f, v)])) a (exo a C (some d))) a = upd H1 d (exd d [(f, v)]) := by
        rw [mk1_heap ne]
        exact del_upd (by rw [upd_ne (Ne.symm ne)]; exact fa)
      rw [this]
      exact q d nd
end

section
variable {X : Cx} {CX : CXT} {k : Nat} {f C : Addr} {fd : FuncData} {ps : List PySem.Str} {sp : Sp} {E : L2.St → XK} {x m : PySem.Str} {p pos apos : Pos} {e o : Expr} {es : List Expr} {ta : TE} {t : TA}
def tMethS (C : Addr) (m : PySem.Str) (sp : Sp) (E : L2.St → XK) (ta : TE) (t : TA) : TE := fun σ H Q => ta σ H fun x H1 => ∃ a dx fs, x = .ref a ∧ H1 a = some (.ins C dx fs) ∧ fs.lookup m = none ∧ t σ H1 fun vs H2 => sp (x :: vs) H2 Q (E σ)
def tMakeS (C : Addr) (sp : Sp) (E : L2.St → XK) (t : TA) : TE := fun σ H Q => t σ H fun vs H1 => ∀ x dx, H1 x = none → H1 dx = none → dx ≠ x → sp (.ref x :: vs) (upd (upd H1 dx (.own x)) x (.ins C dx [])) (fun v H2 => v = .non ∧ Q (.ref x) H2) (E σ)
end

section
variable {X : Cx} {pins : List (Addr × Obj)} {σ : L2.St} {H : Hp} {s : Shared} {a C : Addr}
def XqAt (H : Hp) (a C : Addr) : Prop := H a = some (exq a C none) ∨ ∃ dx fs, H a = some (exq a C (some dx)) ∧ H dx = some (exd dx fs)
theorem XqAt.inst (I : Inv X pins σ H s) (h : XqAt H a C) : ∃ (ox : Obj) (od : Option Obj), PySem.W.InstAt s.heap a ox C od := by
  rcases h with h | ⟨dx, fs, h, hd⟩
  · obtain ⟨oe, vs, he, z, f⟩ := exq_at I.hok h
    exact ⟨oe, none, he, z.1, (by unfold PySem.W.notCls; rw [f]), by rw [show oe.dict = none from z.2]; trivial⟩
  · obtain ⟨oe, vs, he, z, f⟩ := exq_at I.hok h
    obtain ⟨mA, ⟨o, es, ep, h1, h2⟩, _⟩ := exd_at I.hok hd
    exact ⟨oe, some o, he, z.1, (by unfold PySem.W.notCls; rw [f]), by rw [show oe.dict = some dx from z.2]; exact h1⟩
def rIsQ (K : PySem.W.Frag) : List V → Hp → VK → Prop := fun xs H Q => ∃ (a C : Addr) (bm : List Value) (cv : Value) (c : V), xs = [.ref a, c] ∧ XqAt H a C ∧ ExK K C bm ∧ (∀ u, RelV c u → u = cv) ∧ IsCl K cv ∧ Q (.bl ((Value.ref C :: bm).contains cv)) H
theorem call_isQ (G : ClsG X.K) : CallR X (.builtin "isinstance") (rIsQ X.K) := by
  intro pins s σ H xs us Q I r h
  obtain ⟨a, C, bm, cv, c, rfl, hx, T, hcv, hC, q⟩ := h
  cases r with
  | cons rx rr =>
    cases rr with
    | cons rt rr =>
      cases rr
      cases rx
      have ec := hcv _ rt
      subst ec
      obtain ⟨ox, od, J⟩ := hx.inst I
      exact PySem.W.kia_one (PySem.W.kitx_exc (gt := none) T.some T.ga T.gt T.sub T.ca G.hn G.ht T.obj) I.kIn J (T.kit hC) (fun z => nomatch z) fun tk => ⟨.bl _, H, I.kept (t' := tk) fun _ _ z => z, rfl, q⟩
def tXq (K : PySem.W.Frag) (f : PySem.Str) (te : TE) : TE := fun σ H Q => te σ H fun x H1 => ∃ (a C dx : Addr) (fs : List (PySem.Str × V)) (v : V) (bm : List Value), x = .ref a ∧ H1 a = some (exq a C (some dx)) ∧ H1 dx = some (exd dx fs) ∧ fs.lookup f = some v ∧ ExK K C bm ∧ PySem.W.findIn K (.ref C) f = some none ∧ Q v H1
theorem pe_xq {e : Expr} {te : TE} {pos : Pos} {n : PySem.Str} (he : PE X e te) (hb : attributeBase e n X.env (eval e X.env) = eval e X.env := by rfl) : PE X (.Attribute e n pos) (tXq X.K n te) := by
  refine ⟨fun pins s σ H Q I h => attr_of hb (thn (he.run pins s σ H _ I h) fun u s1 hh => ?_)⟩
  obtain ⟨x, H1, I1, rx, a, C, dx, fs, v, bm, rfl, ha, hd, hl, T, hno, q⟩ := hh
  obtain rfl : u = Value.ref a := rx
  obtain ⟨oe, vs, he, z, f⟩ := exq_at I1.hok ha
  obtain ⟨mA, hns, hr⟩ := exd_at I1.hok hd
  obtain ⟨od, hod, hlk⟩ := lookIn_ns hns
  obtain ⟨y, hy, ry⟩ := RelO.some_of (v := v) (o := mA n) (by rw [← hl]; exact hr n)
  have J : PySem.W.InstAt s1.heap a oe C (some od) := ⟨he, z.1, (by unfold PySem.W.notCls; rw [f]), by rw [show oe.dict = some dx from z.2]; exact hod⟩
  exact HandSPX.exc_get I1.kIn J T.ga T.gt T.sub (PySem.W.findObj_own T.dct hno rfl (by rw [hlk, hy])) (handed_of ry) ⟨v, H1, I1.tok _, ry, q⟩
end
end MM

set_option maxRecDepth 100000
set_option maxHeartbeats 4000000

namespace MM
open PySem PySem.Spec PyProof.Rows L2

def wpB {α : Type} (m : M α) (h : Hm) (Q : α → Hm → Prop) (R : Ex → Hm → Prop) : Prop := match m h with
  | .ok a h1 => Q a h1
  | .ex x h1 => R x h1
  | .no => False
section
variable {α β : Type} {h : Hm} {Q : α → Hm → Prop} {R : Ex → Hm → Prop}
theorem wpB_bind {m : M α} {f : α → M β} {Q : β → Hm → Prop} : wpB (m.bind f) h Q R ↔ wpB m h (fun a h1 => wpB (f a) h1 Q R) R := by
  unfold wpB M.bind
  cases m h <;> exact Iff.rfl
theorem wpB_mono {m : M α} {Q' : α → Hm → Prop} {R' : Ex → Hm → Prop} (w : wpB m h Q R) (f : ∀ a h1, Q a h1 → Q' a h1) (g : ∀ x h1, R x h1 → R' x h1) : wpB m h Q' R' := by
  unfold wpB at w ⊢
  cases e : m h with
  | ok a h1 => rw [e] at w; exact f _ _ w
  | ex x h1 => rw [e] at w; exact g _ _ w
  | no => rw [e] at w; exact w
theorem wpB_pure {a : α} : wpB (M.pure a) h Q R ↔ Q a h := Iff.rfl
def nr (m : M α) : M α := fun h => match m h with
  | .ok a h1 => .ok a h1
  | _ => .no
theorem wpB_nr {m : M α} : wpB (nr m) h Q R ↔ wpM m h Q := by
  unfold wpB nr wpM
  cases e : m h with
  | ok a h1 => exact ⟨fun q => ⟨a, h1, rfl, q⟩, fun ⟨_, _, z, q⟩ => by cases z; exact q⟩
  | ex x h1 => exact ⟨fun q => q.elim, fun ⟨_, _, z, q⟩ => by cases z⟩
  | no => exact ⟨fun q => q.elim, fun ⟨_, _, z, q⟩ => by cases z⟩
theorem wp_B {m : M α} : wpM m h Q ↔ wpB m h Q fun _ _ => False := by
  unfold wpB wpM
  cases e : m h with
  | ok a h1 => exact ⟨(fun ⟨_, _, z, q⟩ => by cases z; exact q), fun q => ⟨a, h1, rfl, q⟩⟩
  | ex x h1 => exact ⟨(fun ⟨_, _, z, q⟩ => by cases z), fun q => q.elim⟩
  | no => exact ⟨(fun ⟨_, _, z, q⟩ => by cases z), fun q => q.elim⟩
theorem wp_nr {m : M α} : wpM (nr m) h Q ↔ wpM m h Q := by rw [wp_B, wpB_nr]
end

def RpX (c : Cfg) (μ : List Addr) (x : Ex) (cls : Value) (d : Option Addr) : Prop := ∃ Ca, c.mg x.C = some (.ref Ca) ∧ cls = .ref Ca ∧ DxAt μ x.d d
def Nxx (c : Cfg) (μ : List Addr) (H : Hp) (h' : Hm) (x : Ex) (E : XK) : Prop := ∀ μ' H' cls d, Go c μ H μ' H' → Rel c μ' h' H' → RpX c μ' x cls d → E cls d H'
theorem Nxx.after {c : Cfg} {μ μ1 : List Addr} {H H1 : Hp} {h' : Hm} {x : Ex} {E : XK} (n : Nxx c μ H h' x E) (g : Go c μ H μ1 H1) : Nxx c μ1 H1 h' x E := fun μ' H' cls d g' r p => n μ' H' cls d (g.trans g') r p
def mEX (c : Cfg) (W : WX) (m : EM) : TE := fun σ H Q => ∃ μ ρ h, At c μ h H σ ρ ∧ wpB (m ρ) h (fun w h' => Nx c μ H h' w Q) fun x h' => Nxx c μ H h' x (WE W σ)
def mTX (c : Cfg) (W : WX) (m : TM) : TT := fun σ H Q => ∃ μ ρ h, At c μ h H σ ρ ∧ wpB (m ρ) h (fun b h' => Nb c μ H h' b Q) fun x h' => Nxx c μ H h' x (WE W σ)
def mAX (c : Cfg) (W : WX) (m : AM) : TA := fun σ H Q => ∃ μ ρ h, At c μ h H σ ρ ∧ wpB (m ρ) h (fun ws h' => Na c μ H h' ws Q) fun x h' => Nxx c μ H h' x (WE W σ)
def GoesX (c : Cfg) (W : WX) (D : Ends) (fl : Fl) (μ : List Addr) (σ : L2.St) (H : Hp) : Prop := match fl with
  | .nx => D.nx σ H
  | .ret w => ∀ v, Rp c μ H v w → D.rt v H
  | .bk => D.bk σ H
  | .ct => D.ct σ H
  | .xc x => ∀ cls d, RpX c μ x cls d → W cls d σ H
def NsX (c : Cfg) (W : WX) (μ : List Addr) (H : Hp) (h' : Hm) (fl : Fl) (ρ' : Env) (D : Ends) : Prop := ∀ μ' σ' H', Go c μ H μ' H' → At c μ' h' H' σ' ρ' → GoesX c W D fl μ' σ' H'
def mSX (c : Cfg) (W : WX) (m : SM) : TS := fun D σ H => ∃ μ ρ h fl ρ' h', At c μ h H σ ρ ∧ m ρ h = .ok (fl, ρ') h' ∧ NsX c W μ H h' fl ρ' D
section
variable {c : Cfg} {W : WX} {μ μ1 : List Addr} {h h1 h' : Hm} {H H1 : Hp} {σ : L2.St} {ρ ρ' : Env} {fl : Fl} {D : Ends}
theorem NsX.after (n : NsX c W μ H h' fl ρ' D) (g : Go c μ H μ1 H1) : NsX c W μ1 H1 h' fl ρ' D := fun μ' σ' H' g' a => n μ' σ' H' (g.trans g') a
theorem NsX.now (n : NsX c W μ H h' fl ρ' D) (a : At c μ h' H σ ρ') : GoesX c W D fl μ σ H := n μ σ H (Go.refl ..) a
theorem NsX.ex {x : Ex} (n : NsX c W μ H h' (.xc x) ρ D) (A : At c μ h H σ ρ) : Nxx c μ H h' x (WE W σ) := fun μ' H' cls d g R r => n μ' σ H' g (A.go g R) cls d r
end
abbrev CE (X : Cx) (W : WX) (e : Expr) (m : EM) : Prop := PE X e (mEX (cfg X) W m)
abbrev CT (X : Cx) (W : WX) (e : Expr) (m : TM) : Prop := PT X e (mTX (cfg X) W m)
abbrev CW (X : Cx) (W : WX) (e : Expr) (m : TM) : Prop := PW X e (mTX (cfg X) W m)
abbrev CA (X : Cx) (W : WX) (es : List Expr) (m : AM) : Prop := PA X es (mAX (cfg X) W m)
abbrev CS (X : Cx) (W : WX) (st : Stmt) (m : SM) : Prop := PS X st (mSX (cfg X) W m)
abbrev CSs (X : Cx) (W : WX) (st : List Stmt) (m : SM) : Prop := PSs X st (mSX (cfg X) W m)

def nrE (m : EM) : EM := fun ρ => nr (m ρ)
def nrT (m : TM) : TM := fun ρ => nr (m ρ)
def nrA (m : AM) : AM := fun ρ => nr (m ρ)
def nrS (m : SM) : SM := fun ρ h => match m ρ h with
  | .ok (.xc _, _) _ => .no
  | .ok r h1 => .ok r h1
  | _ => .no
theorem nrS_ok {m : SM} {ρ ρ' : Env} {h h' : Hm} {fl : Fl} (e : nrS m ρ h = .ok (fl, ρ') h') : m ρ h = .ok (fl, ρ') h' ∧ ∀ x, fl ≠ .xc x := by
  unfold nrS at e
  split at e
  · cases e
  · next r h1 ne q =>
    cases e
    exact ⟨q, fun x z => ne x ρ' (by rw [z])⟩
  · cases e
theorem Goes_of {c : Cfg} {W : WX} {D : Ends} {fl : Fl} {μ : List Addr} {σ : L2.St} {H : Hp} (n : ∀ x, fl ≠ .xc x) (g : GoesX c W D fl μ σ H) : Goes c D fl μ σ H := by
  cases fl with
  | xc x => exact absurd rfl (n x)
  | _ => exact g
section
variable {X : Cx} {W : WX}
theorem ct_of {e : Expr} {m : TM} (p : MT X.nox e m) : CT X W e (nrT m) := PT.imp (PT.nox p) fun σ H Q ⟨μ, ρ, h, A, b⟩ => by
  obtain ⟨w, h', e, n⟩ := wpB_nr.mp b
  exact ⟨μ, ρ, h, w, h', A, e, n⟩
theorem pa_nox {es : List Expr} {t : TA} (h : PA X.nox es t) : PA X es t := ⟨fun pos pins s σ H Q I z =>
  wpAny_mono (h.run pos pins s σ H Q (I.wish _) z) (fun _ _ ⟨vs, H', I', r, q⟩ => ⟨vs, H', I'.unwish, r, q⟩) fun _ _ z => False.elim z⟩
theorem ps_nox {st : Stmt} {t : TS} (h : PS X.nox st t) : PS X st t := ⟨fun pins s σ H D I z =>
  wpAny_mono (h.run pins s σ H D (I.wish _) z) (fun _ _ q => q.unwish) fun _ _ z => False.elim z⟩
theorem ca_of {es : List Expr} {m : AM} (p : MA X.nox es m) : CA X W es (nrA m) := PA.imp (pa_nox p) fun σ H Q ⟨μ, ρ, h, A, b⟩ => by
  obtain ⟨w, h', e, n⟩ := wpB_nr.mp b
  exact ⟨μ, ρ, h, w, h', A, e, n⟩
theorem cs_of {st : Stmt} {m : SM} (p : MS X.nox st m) : CS X W st (nrS m) := PS.imp (ps_nox p) fun D σ H ⟨μ, ρ, h, fl, ρ', h', A, e, n⟩ => by
  obtain ⟨e, nx⟩ := nrS_ok e
  exact ⟨μ, ρ, h, fl, ρ', h', A, e, fun μ' σ' H' g a => Goes_of nx (n μ' σ' H' g a)⟩
abbrev WF : WX := fun _ _ _ _ => False
theorem ms_ofC {st : Stmt} {m : SM} (p : CS X WF st m) : MS X st m := PS.imp p fun D σ H ⟨μ, ρ, h, fl, ρ', h', A, e, n⟩ => ⟨μ, ρ, h, fl, ρ', h', A, e, fun μ' σ' H' g a => by
  have := n μ' σ' H' g a
  cases fl with
  | xc x => exact this.elim
  | _ => exact this⟩

def spX (c : Cfg) (k : Nat) (m : FM) : Sp := fun vs H Q E => ∃ μ h ws, Rel c μ h H ∧ Rps c μ H vs ws ∧ ws.length = k ∧ wpB (m ws) h (fun w h' => Nx c μ H h' w Q) fun x h' => Nxx c μ H h' x E
def ArityX (j : Nat) (m : FM) : Prop := ∀ ws h, m ws h ≠ .no → ws.length = j
structure DfX (P : Program) (w : World) (K : PySem.W.Frag) (mg : PySem.Str → Option Value) (base : Heap) (k : Nat) (x : PySem.Str) (j : Nat) (m : FM) : Prop where
  ex : ∃ (f : Addr) (fd : FuncData) (ps : List PySem.Str), mg x = some (.ref f) ∧ PySem.W.keepIn K (.ref f) = true ∧ Binds K fd ps [] ∧ FnOk P w K mg base (L2.CX P w) k f fd ps (spX ⟨P, w, K, mg⟩ j m)
structure MfX (P : Program) (w : World) (K : PySem.W.Frag) (mg : PySem.Str → Option Value) (base : Heap) (k : Nat) (C m : PySem.Str) (j : Nat) (f : FM) : Prop where
  ex : ∃ (a fa : Addr) (fd : FuncData) (ps : List PySem.Str), mg C = some (.ref a) ∧ Cls K a ∧ Meth K a m fa ∧ Binds K fd ps [] ∧ FnOk P w K mg base (L2.CX P w) k fa fd ps (spX ⟨P, w, K, mg⟩ j f)
structure CfX (P : Program) (w : World) (K : PySem.W.Frag) (mg : PySem.Str → Option Value) (base : Heap) (k : Nat) (C : PySem.Str) (j : Nat) (f : FM) : Prop where
  ex : ∃ (a fa : Addr) (fd : FuncData) (ps : List PySem.Str), mg C = some (.ref a) ∧ Mk K a fa ∧ Binds K fd ps [] ∧ FnOk P w K mg base (L2.CX P w) k fa fd ps (spX ⟨P, w, K, mg⟩ j f)
theorem fnX_ok {P : Program} {w : World} {K : PySem.W.Frag} {mg : PySem.Str → Option Value} {base : Heap} {k j : Nat} {f : Addr} {fd : FuncData} {ps : List PySem.Str} {m : FM} (F : FnOk P w K mg base (L2.CX P w) k f fd ps (spX ⟨P, w, K, mg⟩ j m)) : FnOk P w K mg base CX0 k f fd ps (spF ⟨P, w, K, mg⟩ j m) := by
  have to : ∀ vs H Q E, spF ⟨P, w, K, mg⟩ j m vs H Q E → spX ⟨P, w, K, mg⟩ j m vs H Q (fun _ _ _ => False) := fun vs H Q E ⟨μ, h, ws, u, h', R, p, l, e, n⟩ => ⟨μ, h, ws, R, p, l, by unfold wpB; rw [e]; exact n⟩
  refine ⟨fun vs H Q E z => F.len _ _ _ _ (to vs H Q E z), fun A outer s H args us vs Q E hr e0 hb r z => codeAny_mono (F.run A outer s H args us vs Q (fun _ _ _ => False) hr e0 hb r (to vs H Q E z)) fun r s' q => ?_⟩
  cases r with
  | ok fl =>
    cases fl with
    | ret u => exact q
    | next => exact q
    | brk => exact q
    | cont => exact q
  | error e =>
    obtain ⟨_, _, _, _, _, _, _, _, _, _, _, _, z⟩ := (show L2.CX P w outer H s (fun _ _ _ => False) e s' from q)
    exact z.elim
theorem DfX.ok {P : Program} {w : World} {K : PySem.W.Frag} {mg : PySem.Str → Option Value} {base : Heap} {k j : Nat} {x : PySem.Str} {m : FM} (d : DfX P w K mg base k x j m) : Df P w K mg base k x j m := by
  obtain ⟨f, fd, ps, h1, h2, h3, F⟩ := d.ex
  exact ⟨f, fd, ps, h1, h2, h3, fnX_ok F⟩
theorem MfX.ok {P : Program} {w : World} {K : PySem.W.Frag} {mg : PySem.Str → Option Value} {base : Heap} {k j : Nat} {C x : PySem.Str} {m : FM} (d : MfX P w K mg base k C x j m) : Mf P w K mg base k C x j m := by
  obtain ⟨a, f, fd, ps, h1, h2, h3, h4, F⟩ := d.ex
  exact ⟨a, f, fd, ps, h1, h2, h3, h4, fnX_ok F⟩
theorem CfX.ok {P : Program} {w : World} {K : PySem.W.Frag} {mg : PySem.Str → Option Value} {base : Heap} {k j : Nat} {C : PySem.Str} {m : FM} (d : CfX P w K mg base k C j m) : Cf P w K mg base k C j m := by
  obtain ⟨a, f, fd, ps, h1, h2, h3, F⟩ := d.ex
  exact ⟨a, f, fd, ps, h1, h2, h3, fnX_ok F⟩
theorem wpB_len {j : Nat} {m : FM} {ws : List Wv} {h : Hm} {Q : Wv → Hm → Prop} {R : Ex → Hm → Prop} (l : ArityX j m) (b : wpB (m ws) h Q R) : ws.length = j := l ws h fun z => by
  unfold wpB at b
  rw [z] at b
  exact b
theorem call_toX {c : Cfg} {j : Nat} {m : FM} {ma : AM} {σ : L2.St} {H : Hp} {Q : VK} (lj : ArityX j m) (z : mEX c W (eCall m ma) σ H Q) : tCallS (spX c j m) (WE W) (mAX c W ma) σ H Q := by
  obtain ⟨μ, ρ, h, A, b⟩ := z
  refine ⟨μ, ρ, h, A, wpB_mono (wpB_bind.mp b) (fun ws h1 b1 μ1 vs H1 g1 R1 p1 => ?_) fun _ _ n => n⟩
  exact ⟨μ1, h1, ws, R1, p1, wpB_len lj b1, wpB_mono b1 (fun w h' n => n.after g1) fun x h' n => n.after g1⟩
theorem ce_call {x : PySem.Str} {p pos : Pos} {e : Expr} {es : List Expr} {k j : Nat} {m : FM} {ma : AM} (d : DfX X.prog X.w X.K X.mg X.base k x j m) (lj : ArityX j m) (hr : Room k X.A) (hg : Gl X x) (tk : Takes X W) (ha : CA X W (e :: es) ma)
    (hdb : (x == ("__debug__" : PySem.Str)) = false := by decide) (he : starEach (e :: es) X.env = (false, eval e X.env) :: starEach es X.env := by rfl) (hpl : (backTo pos (starEach es X.env)).any (·.1) = false := by rfl) : CE X W (.Call (.Name x p) (e :: es) [] pos) (eCall m ma) := by
  obtain ⟨f, fd, ps, hm, hk, hb, F⟩ := d.ex
  exact PE.imp (pe_callS F hr hg hm hk hb (passAt tk) ha hdb he hpl) fun _ _ _ z => call_toX lj z

def nrF (f : F2) : F2 := fun a b => nr (f a b)

def tOfX (e : EM) : TM := fun ρ => (e ρ).bind fun w => nr (asB w)
end
end MM

set_option maxRecDepth 100000
set_option maxHeartbeats 4000000
namespace MM
open PySem PySem.Spec PyProof.Rows L2

def sX (m : SM) : SM := fun ρ h => match m ρ h with
  | .ex x h' => .ok (.xc x, ρ) h'
  | r => r
theorem sX_to {m : SM} {ρ ρ' : Env} {h h' : Hm} {fl : Fl} (e : sX m ρ h = .ok (fl, ρ') h') : wpB (m ρ) h (fun r h1 => r = (fl, ρ') ∧ h1 = h') fun x h1 => fl = .xc x ∧ ρ' = ρ ∧ h1 = h' := by
  unfold sX at e
  unfold wpB
  cases q : m ρ h with
  | ok a h1 => rw [q] at e; cases e; exact ⟨rfl, rfl⟩
  | ex x h1 => rw [q] at e; cases e; exact ⟨rfl, rfl, rfl⟩
  | no => rw [q] at e; cases e
def sIfX (t : TM) (a b : SM) : SM := fun ρ h => match t ρ h with
  | .ok k h1 => (if k = true then a ρ else b ρ) h1
  | .ex x h1 => .ok (.xc x, ρ) h1
  | .no => .no
section
variable {X : Cx} {W : WX}
theorem css_nil : CSs X W [] sNil := PSs.imp pss_nil fun D σ H ⟨μ, ρ, h, fl, ρ', h', A, e, n⟩ => by
  cases e
  exact n.now A
theorem seq_toX {c : Cfg} {a b : SM} {D : Ends} {σ : L2.St} {H : Hp} (z : mSX c W (sSeq a b) D σ H) : tSeq (mSX c W a) (mSX c W b) D σ H := by
  obtain ⟨μ, ρ, h, fl, ρ', h', A, e, n⟩ := z
  obtain ⟨⟨fl1, ρ1⟩, h1, e1, e⟩ := bind_ok e
  refine ⟨μ, ρ, h, fl1, ρ1, h1, A, e1, fun μ1 σ1 H1 g1 A1 => ?_⟩
  cases fl1 with
  | nx => exact ⟨μ1, ρ1, h1, fl, ρ', h', A1, e, n.after g1⟩
  | ret w => cases e; exact (n.after g1).now A1
  | bk => cases e; exact (n.after g1).now A1
  | ct => cases e; exact (n.after g1).now A1
  | xc x => cases e; exact (n.after g1).now A1
theorem css_cons {st : Stmt} {rest : List Stmt} {a b : SM} (h1 : CS X W st a) (h2 : CSs X W rest b) : CSs X W (st :: rest) (sSeq a b) := PSs.imp (pss_cons h1 h2) fun _ _ _ z => seq_toX z
theorem css_one {st : Stmt} {a : SM} (h1 : CS X W st a) : CSs X W [st] a := pss_one h1
theorem cs_expr {e : Expr} {pos : Pos} {m : EM} (he : CE X W e m) (hs : swapsWith e none pos.line X.env = pure false := by rfl) : CS X W (.Expr e pos) (sX (sExpr m)) := PS.imp (ps_expr he hs) fun D σ H ⟨μ, ρ, h, fl, ρ', h', A, e, n⟩ => by
  refine ⟨μ, ρ, h, A, wpB_mono (wpB_bind.mp (sX_to e)) (fun w h1 ⟨q1, q2⟩ => ?_) fun x h1 ⟨q1, q2, q3⟩ => ?_⟩
  · cases q1; subst q2
    exact fun μ1 v H1 g1 R1 p1 => n μ1 σ H1 g1 (A.go g1 R1)
  · subst q1 q2 q3
    exact n.ex A
def nrG (g : GM) : GM := fun w ρ => nr (g w ρ)
theorem cs_if {t : Expr} {a b : List Stmt} {pos : Pos} {mt : TM} {ma mb : SM} (ht : CT X W t mt) (ha : CSs X W a ma) (hb : CSs X W b mb) : CS X W (.If t a b pos) (sIfX mt ma mb) := PS.imp (ps_if ht ha hb) fun D σ H ⟨μ, ρ, h, fl, ρ', h', A, e, n⟩ => by
  refine ⟨μ, ρ, h, A, ?_⟩
  unfold sIfX at e
  unfold wpB
  cases q : mt ρ h with
  | no => rw [q] at e; cases e
  | ex x h1 => rw [q] at e; cases e; exact n.ex A
  | ok k h1 =>
    rw [q] at e
    intro μ1 H1 g1 R1
    cases k with
    | true => exact ⟨μ1, ρ, h1, fl, ρ', h', A.go g1 R1, e, n.after g1⟩
    | false => exact ⟨μ1, ρ, h1, fl, ρ', h', A.go g1 R1, e, n.after g1⟩
theorem cs_for {sl : List Nat} {tg iter : Expr} {body : List Stmt} {pos : Pos} {mi : IM} {g : GM} {b : SM} (hp : PassesOwn (model X.prog X.w) X.A X.env X.xe) (hc : X.calm = true) (hi : MI X tg iter mi) (hg : MG X sl tg g) (hb : CSs X W body b)
    (hs : ∀ x, foldedSetIterable iter X.env x = pure x := by intro _; rfl) : CS X W (.For tg iter body [] pos) (sFor mi g b) := PS.imp (ps_for hp hc hi hg hb hs) fun D σ H ⟨μ, ρ, h, fl, ρ', h', A, e, n⟩ => by
  obtain ⟨src, h1, e1, e⟩ := bind_ok e
  refine ⟨μ, ρ, h, src, h1, A, e1, fun μ1 H1 J G g1 R1 it hG => ?_⟩
  refine ⟨fun i m σ H => ∃ μ ρ h, At (cfg X) μ h H σ ρ ∧ G μ H ∧ forM src g b m i ρ h = .ok (fl, ρ') h' ∧ NsX (cfg X) W μ H h' fl ρ' D, ⟨_, μ1, ρ, h1, A.go g1 R1, hG, e, n.after g1⟩, ?_⟩
  rintro i m σ2 H2 ⟨μ2, ρ2, h2, A2, G2, e2, n2⟩
  cases m with
  | zero => cases e2
  | succ m =>
    simp only [forM] at e2
    split at e2
    · cases e2
    · next q =>
      cases e2
      exact .inl ⟨it.stop _ _ _ _ A2.rel G2 q, n2.now A2⟩
    · next w q =>
      obtain ⟨go, yl⟩ := it.go _ _ _ _ _ A2.rel G2 q
      obtain ⟨ρ3, h3, e3, f3⟩ := bind_ok e2
      obtain ⟨⟨fl4, ρ4⟩, h4, e4, f4⟩ := bind_ok f3
      clear e2 f3
      refine .inr ⟨go, fun σ' H' => ∃ μ ρ h, At (cfg X) μ h H' σ' ρ ∧ G μ H' ∧ forM src g b m (i + 1) ρ h = .ok (fl, ρ') h' ∧ NsX (cfg X) W μ H' h' fl ρ' D, fun σ' H' z => ⟨m, Nat.lt_succ_self m, z⟩, fun x H' y => ?_⟩
      obtain ⟨μ5, g5, R5, p5⟩ := yl x H' y
      refine ⟨μ5, ρ2, h2, w, ρ3, h3, A2.go g5 R5, p5, e3, fun μ6 σ6 H6 g6 A6 _ => ?_⟩
      refine ⟨μ6, ρ3, h3, fl4, ρ4, h4, A6, e4, fun μ7 σ7 H7 g7 A7 => ?_⟩
      have gg := g5.trans (g6.trans g7)
      cases fl4 with
      | nx => exact ⟨μ7, ρ4, h4, A7, it.keep _ _ _ _ G2 gg.toGw, f4, n2.after gg⟩
      | ct => exact ⟨μ7, ρ4, h4, A7, it.keep _ _ _ _ G2 gg.toGw, f4, n2.after gg⟩
      | bk => cases f4; exact (n2.after gg).now A7
      | ret w => cases f4; exact (n2.after gg).now A7
      | xc x => cases f4; exact (n2.after gg).now A7

structure Xf0 (P : Program) (w : World) (K : PySem.W.Frag) (mg : PySem.Str → Option Value) (base : Heap) (C : PySem.Str) : Prop where
  ex : ∃ (a fI : Addr) (fd : FuncData) (sf : PySem.Str), mg C = some (.ref a) ∧ XMk K a fI ∧ FnOk P w K mg base CX0 1 fI fd [sf] (spI0 a) ∧ ∀ (s' : Shared) (b : Value), BindsTo s' fd ⟨[b], []⟩ [(sf, b)]
structure Xf1 (P : Program) (w : World) (K : PySem.W.Frag) (mg : PySem.Str → Option Value) (base : Heap) (C f : PySem.Str) : Prop where
  ex : ∃ (a fI : Addr) (fd : FuncData) (sf nf : PySem.Str), mg C = some (.ref a) ∧ XMk K a fI ∧ FnOk P w K mg base CX0 1 fI fd [sf, nf] (spI1 a f) ∧ ∀ (s' : Shared) (b v : Value), BindsTo s' fd ⟨[b, v], []⟩ [(sf, b), (nf, v)]
def sRaise0 (C : PySem.Str) : SM := fun ρ h => .ok (.xc ⟨C, none⟩, ρ) h
def sRaise1 (C f : PySem.Str) (e : EM) : SM := fun ρ => (e ρ).bind fun v => fun h => .ok (.xc ⟨C, some h.length⟩, ρ) (h ++ [.xd [(f, v)]])
theorem cs_raise1 {C f : PySem.Str} {p pos pos' : Pos} {e : Expr} {m : EM} (x : Xf1 X.prog X.w X.K X.mg X.base C f) (hr : Room 2 X.A) (hc : X.calm = true) (tk : Takes X W) (hg : Gl X C) (he : ME X e m) (hdb : (C == ("__debug__" : PySem.Str)) = false := by decide) (hs : starEach [e] X.env = (false, eval e X.env) :: starEach [] X.env := by rfl) :
    CS X W (.Raise (some (.Call (.Name C p) [e] [] pos)) none pos') (sRaise1 C f m) := by
  obtain ⟨a, fI, fd, sf, nf, hC, mk, F, hb⟩ := x.ex
  refine PS.imp (ps_raise hc tk (pmk1 mk F hr pass0 hb hg hC he hdb hs)) fun D σ H ⟨μ, ρ, h, fl, ρ', h', A, e, n⟩ => ?_
  obtain ⟨v, h1, e1, e⟩ := bind_ok e
  cases e
  refine mE_first A e1 fun μ1 u H1 g1 A1 p1 d nd => ?_
  obtain ⟨g2, R2⟩ := A1.rel.lay nd (o := .xd [(f, v)]) (u := exd d [(f, u)]) fun μ' H' g => ⟨_, rfl, .cons ⟨rfl, p1.mv g⟩ .nil⟩
  exact n _ σ _ (g1.trans g2) (A1.go g2 R2) _ _ ⟨a, hC, rfl, d, rfl, by rw [← A1.rel.len]; simp⟩
end

def supT : List (PySem.Str × List PySem.Str) :=
  [("NoVersion", ["HintError", "ValueError"]), ("NoCell", ["HintError", "ValueError"]), ("NoRing", ["HintError", "ValueError"]), ("NoKey", ["HintError", "ValueError"]), ("NoShape", ["HintError", "ValueError"]), ("NoKnown", ["HintError", "ValueError"]),
   ("NoDeed", ["HintError", "ValueError"]), ("NoNews", ["HintError", "ValueError"]), ("NoText", ["HintError", "ValueError"]), ("NoRow", ["HintError", "ValueError"]), ("NoSteps", ["HintError", "ValueError"]), ("NoHouse", ["KeyError", "LookupError"]), ("NoAsker", ["KeyError", "LookupError"]),
   ("NoAsk", ["LookupError"]), ("NoLetter", ["LookupError"]), ("Busy", ["RuntimeError"]), ("Away", ["RuntimeError"]), ("TooMany", ["OverflowError"]), ("NoWorld", ["LookupError"])]
def supM (C D : PySem.Str) : Bool := C == D || ((supT.lookup C).getD []).contains D
def NmV (mg : PySem.Str → Option Value) (D : PySem.Str) (v : Value) : Prop := mg D = some v ∨ (mg D = none ∧ bootBuiltins D = some v ∧ D ≠ "__name__")
def Xt (K : PySem.W.Frag) (mg : PySem.Str → Option Value) (cls : List PySem.Str) (D : PySem.Str) : Prop := ∃ v, NmV mg D v ∧ IsCl K v ∧ ∀ C ∈ cls, ∃ a bm, mg C = some (.ref a) ∧ ExK K a bm ∧ (Value.ref a :: bm).contains v = supM C D
def Xo (K : PySem.W.Frag) (mg : PySem.Str → Option Value) (cls : List PySem.Str) (D : PySem.Str) : Prop := ∃ v bm', mg D = some (.ref v) ∧ ExK K v bm' ∧ ∀ C ∈ cls, ∃ a bm, mg C = some (.ref a) ∧ ExK K a bm ∧ (Value.ref a :: bm).contains (.ref v) = supM C D
theorem exk_exm {K : PySem.W.Frag} {C D : Addr} {bm bm' : List Value} (T : ExK K C bm) (T' : ExK K D bm') : PySem.W.exmOne K (.ref C) (.ref D) = some ((Value.ref C :: bm).contains (.ref D)) := by
  unfold PySem.W.exmOne
  rw [T'.sub, if_pos (by decide)]
  unfold PySem.W.kitCls
  dsimp only
  rw [T'.some, T'.ty, if_pos (by decide)]
  exact T.mroIn _

structure Hd where
  ns : List PySem.Str
  sl : Option Nat
  b : SM
def slotM (ρ : Env) (w : Option Wv) : Option Nat → Env
  | none => ρ
  | some i => ρ.set i w
def suiteM (k : Hd) (x : Ex) : SM := fun ρ h => match k.b (slotM ρ (some (.obj h.length)) k.sl) (h ++ [.exc x.C x.d]) with
  | .ok (.xc _, _) _ => .no
  | .ok (fl, ρ') h' => .ok (fl, slotM ρ' none k.sl) h'
  | _ => .no
def handM (cls : List PySem.Str) (x : Ex) : List Hd → SM
  | [] => fun ρ h => .ok (.xc x, ρ) h
  | k :: r => if cls.contains x.C then (if k.ns.any (supM x.C) then suiteM k x else handM cls x r) else sNo
def sTry (cls : List PySem.Str) (mb : SM) (hs : List Hd) : SM := fun ρ h => match mb ρ h with
  | .ok (.xc x, ρ1) h1 => handM cls x hs ρ1 h1
  | r => r
inductive HdM (X : Cx) (cls : List PySem.Str) : List ExceptHandler → List Hd → Prop
  | nil : HdM X cls [] []
  | as_ {t : Expr} {ns : List PySem.Str} {n : PySem.Str} {i : Nat} {m : SM} {b₀ : Stmt} {suite : List Stmt} {pos' : Pos} {hds : List ExceptHandler} {l : List Hd} (hc : ∃ cs, ClsT (Names X) t cs ∧ Paired (fun D v => ∃ a, v = Value.ref a ∧ X.mg D = some (.ref a)) ns cs) (hx : ∀ D ∈ ns, Xo X.K X.mg cls D) (hi : X.N[i]? = some n) (hl : X.env.kindOf n = some .local)
      (hsu : ∀ (a : Addr) (pn : List (Addr × Obj)), MSs (X.suite a pn) (b₀ :: suite) m) (r : HdM X cls hds l) : HdM X cls (.ExceptHandler (some t) (some n) (b₀ :: suite) pos' :: hds) (⟨ns, some i, m⟩ :: l)
  | no {t : Expr} {ns : List PySem.Str} {m : SM} {b₀ : Stmt} {suite : List Stmt} {pos' : Pos} {hds : List ExceptHandler} {l : List Hd} (hc : ∃ cs, ClsT (Names X) t cs ∧ Paired (fun D v => ∃ a, v = Value.ref a ∧ X.mg D = some (.ref a)) ns cs) (hx : ∀ D ∈ ns, Xo X.K X.mg cls D)
      (hsu : ∀ (a : Addr) (pn : List (Addr × Obj)), MSs (X.suite a pn) (b₀ :: suite) m) (r : HdM X cls hds l) : HdM X cls (.ExceptHandler (some t) none (b₀ :: suite) pos' :: hds) (⟨ns, none, m⟩ :: l)
theorem exm_any {K : PySem.W.Frag} {mg : PySem.Str → Option Value} {cls : List PySem.Str} {C : PySem.Str} {a : Addr} (hC : C ∈ cls) (ha : mg C = some (.ref a)) : ∀ {ns : List PySem.Str} {cs : List Value}, Paired (fun D v => ∃ a, v = Value.ref a ∧ mg D = some (.ref a)) ns cs → (∀ D ∈ ns, Xo K mg cls D) → PySem.W.exmAny K (.ref a) cs = some (ns.any (supM C))
  | _, _, .nil, _ => rfl
  | D :: ns, v :: cs, .cons ⟨d, e, hd⟩ t, hx => by
    subst e
    obtain ⟨v, bm', hv, T', tb⟩ := hx D (by simp)
    rw [hd] at hv
    cases hv
    obtain ⟨a', bm, ha', T, q⟩ := tb C hC
    rw [ha] at ha'
    cases ha'
    unfold PySem.W.exmAny
    rw [exk_exm T T', exm_any hC ha t fun D' m => hx D' (List.mem_cons_of_mem _ m), q]
    rfl
section
variable {X : Cx} {W : WX} {cls : List PySem.Str}
def clsOf (c : Cfg) : List Hd → List (List Value) → List Cl
  | k :: r, cs :: t => ⟨cs, k.sl, mS c k.b⟩ :: clsOf c r t
  | _, _ => []
theorem HdM.to {hds : List ExceptHandler} {l : List Hd} (h : HdM X cls hds l) : ∃ css, HdR X hds (clsOf (cfg X) l css) ∧ Paired (fun (k : Hd) cs => Paired (fun D v => ∃ a, v = Value.ref a ∧ X.mg D = some (.ref a)) k.ns cs ∧ ∀ D ∈ k.ns, Xo X.K X.mg cls D) l css := by
  induction h with
  | nil => exact ⟨[], .nil, .nil⟩
  | @as_ t ns n i m b₀ suite pos' hds l hc hx hi hl hsu r ih =>
    obtain ⟨cs, T, p⟩ := hc
    obtain ⟨css, R, q⟩ := ih
    exact ⟨cs :: css, .as_ T hi hl hsu R, .cons ⟨p, hx⟩ q⟩
  | @no t ns m b₀ suite pos' hds l hc hx hsu r ih =>
    obtain ⟨cs, T, p⟩ := hc
    obtain ⟨css, R, q⟩ := ih
    exact ⟨cs :: css, .no T hsu R, .cons ⟨p, hx⟩ q⟩
theorem slot_rp {c : Cfg} {μ : List Addr} {H : Hp} {σ : L2.St} {ρ : Env} {v : Option V} {w : Option Wv} (r : RpO c μ H v w) (o : Option Nat) (s : RpS c μ H σ ρ) : RpS c μ H (slotS σ v o) (slotM ρ w o) := by
  cases o with
  | none => exact s
  | some i => exact RpS.set r i s
theorem hand_to {c : Cfg} {D : Ends} {x : Ex} {a : Addr} (ha : c.mg x.C = some (.ref a)) : ∀ {l : List Hd} {css : List (List Value)}, Paired (fun (k : Hd) cs => Paired (fun D v => ∃ a, v = Value.ref a ∧ c.mg D = some (.ref a)) k.ns cs ∧ ∀ D ∈ k.ns, Xo c.K c.mg cls D) l css →
    ∀ {μ h H σ ρ fl ρ' h' d}, At c μ h H σ ρ → handM cls x l ρ h = .ok (fl, ρ') h' → NsX c W μ H h' fl ρ' D → DxAt μ x.d d → wCl c.K W D (clsOf c l css) (.ref a) d σ H
  | _, _, .nil, μ, h, H, σ, ρ, fl, ρ', h', d, A, e, n, dx => by
    cases e
    exact n.now A _ _ ⟨a, ha, rfl, dx⟩
  | k :: l, cs :: css, .cons ⟨p, hx⟩ t, μ, h, H, σ, ρ, fl, ρ', h', d, A, e, n, dx => by
    unfold handM at e
    by_cases hc : cls.contains x.C = true
    · rw [if_pos hc] at e
      have hm : x.C ∈ cls := List.contains_iff_mem.mp hc
      refine ⟨k.ns.any (supM x.C), exm_any hm ha p hx, fun b => ⟨a, rfl, fun y ny => ?_⟩, fun b => ?_⟩
      · rw [if_pos b] at e
        unfold suiteM at e
        obtain ⟨g, R⟩ := A.rel.lay ny (o := .exc x.C x.d) (u := exq y a d) fun μ' H' g => ⟨a, d, ha, rfl, dx.mv g.pre⟩
        have A1 : At c (μ ++ [y]) (h ++ [.exc x.C x.d]) (upd H y (exq y a d)) (slotS σ (some (.ref y)) k.sl) (slotM ρ (some (.obj h.length)) k.sl) := ⟨R, slot_rp (v := some (.ref y)) (w := some (.obj h.length)) (.obj (by rw [← A.rel.len]; simp)) k.sl (A.sl.go g)⟩
        cases q : k.b (slotM ρ (some (.obj h.length)) k.sl) (h ++ [.exc x.C x.d]) with
        | no => rw [q] at e; cases e
        | ex y h2 => rw [q] at e; cases e
        | ok r2 h2 =>
          obtain ⟨fl2, ρ2⟩ := r2
          rw [q] at e
          refine ⟨_, _, _, fl2, ρ2, h2, A1, q, fun μ2 σ2 H2 g2 A2 => ?_⟩
          have At2 : At c μ2 h2 H2 (slotS σ2 none k.sl) (slotM ρ2 none k.sl) := ⟨A2.rel, slot_rp (v := none) (w := none) trivial k.sl A2.sl⟩
          cases fl2 with
          | xc z => cases e
          | nx => cases e; exact n μ2 _ H2 (g.trans g2) At2
          | bk => cases e; exact n μ2 _ H2 (g.trans g2) At2
          | ct => cases e; exact n μ2 _ H2 (g.trans g2) At2
          | ret w => cases e; exact n μ2 _ H2 (g.trans g2) At2
      · rw [if_neg (by rw [b]; decide)] at e
        exact hand_to ha t A e n dx
    · rw [if_neg hc] at e; cases e
theorem cs_try {body : List Stmt} {h₀ : ExceptHandler} {hds : List ExceptHandler} {l : List Hd} {pos : Pos} {mb : SM} (hs : X.stack = X.env :: X.outer) (hf : X.env.frame = some X.env.locals) (hN : X.N.Nodup) (tk : Takes X W)
    (hb : ∀ (W' : WX) (pn : List (Addr × Obj)) (xe : Value → Shared → Prop), Takes (X.tr pn xe) W' → PassesOwn (model X.prog X.w) X.A X.env xe → CSs (X.tr pn xe) W' body mb) (hh : HdM X cls (h₀ :: hds) l) : CS X W (.Try body (h₀ :: hds) [] [] pos) (sTry cls mb l) := by
  obtain ⟨css, R, p⟩ := hh.to
  refine PS.imp (ps_tryC (tb := fun W' => mSX (cfg X) W' mb) hs hf hN tk (fun W' pn xe t p => hb W' pn xe t p) R) fun D σ H ⟨μ, ρ, h, fl, ρ', h', A, e, n⟩ => ?_
  unfold sTry at e
  cases q : mb ρ h with
  | no => rw [q] at e; cases e
  | ex x h1 => rw [q] at e; cases e
  | ok r h1 =>
    obtain ⟨fl1, ρ1⟩ := r
    rw [q] at e
    refine ⟨μ, ρ, h, fl1, ρ1, h1, A, q, fun μ1 σ1 H1 g1 A1 => ?_⟩
    cases fl1 with
    | nx => cases e; exact (n.after g1).now A1
    | ret w => cases e; exact (n.after g1).now A1
    | bk => cases e; exact (n.after g1).now A1
    | ct => cases e; exact (n.after g1).now A1
    | xc x =>
      intro cl d ⟨a, ha, e1, dx⟩
      subst e1
      exact hand_to (c := cfg X) ha p A1 e (n.after g1) dx
end

def funX (n k : Nat) (b : SM) : FM := fun ws h => if ws.length = k then (match b (startM n ws) h with
  | .ok (.nx, _) h1 => .ok .non h1
  | .ok (.ret w, _) h1 => .ok w h1
  | .ok (.xc x, _) h1 => .ex x h1
  | _ => .no) else .no
theorem arity_funX {n k : Nat} {b : SM} : ArityX k (funX n k b) := fun ws h z => by
  unfold funX at z
  by_cases l : ws.length = k
  · exact l
  · rw [if_neg l] at z; exact absurd rfl z
theorem Fun.okX {P : Program} {w : World} {K : PySem.W.Frag} {mg : PySem.Str → Option Value} {base : Heap} {x qual : PySem.Str} {st : Stmt} {f : Addr} {fd : FuncData} {N ps : List PySem.Str} {k : Nat} {n j : Nat} {b : SM} (F : Fun K x qual st f fd) (S : FnScope N ps (defScope st)) (hn : N.length = n) (hj : ps.length = j)
    (body : ∀ (cdv : Value) (A : Around) (outer : List PySem.Env) (s : Shared) (H : Hp) (E : XK), Room k (A.deeper (envOfC qual (defScope st) s.heap.objs.size f cdv)) → Takes (cxOf (L2.CX P w) P w K mg base N qual (defScope st) f cdv A outer s H E) (fun cls d _ H => E cls d H) →
      PassesOwn (model P w) (cxOf (L2.CX P w) P w K mg base N qual (defScope st) f cdv A outer s H E).A (cxOf (L2.CX P w) P w K mg base N qual (defScope st) f cdv A outer s H E).env (cxOf (L2.CX P w) P w K mg base N qual (defScope st) f cdv A outer s H E).xe →
      CSs (cxOf (L2.CX P w) P w K mg base N qual (defScope st) f cdv A outer s H E) (fun cls d _ H => E cls d H) (defBody st) b) :
    FnOk P w K mg base (L2.CX P w) (k + 1) f fd ps (spX ⟨P, w, K, mg⟩ j (funX n j b)) := by
  obtain ⟨oc, od, kV, doc, pm, an, cdv, ct, osl, rfl, lk, hcd⟩ := F.ex
  refine fn_of lk hcd S (fun vs H Q E h => ?_) fun A outer s H vs Q E hr h => ⟨_, body cdv A outer s H E hr (takes_of rfl rfl rfl rfl) (passes_of rfl), ?_⟩
  · obtain ⟨μ, h, ws, R, p, l, _⟩ := h
    rw [hj, p.length]; exact l
  · obtain ⟨μ, h, ws, R, p, l, z⟩ := h
    unfold wpB funX at z
    rw [if_pos l] at z
    subst hn
    cases q : b (startM N.length ws) h with
    | no => rw [q] at z; exact z.elim
    | ex x h1 => rw [q] at z; exact z.elim
    | ok r h1 =>
      obtain ⟨fl, ρ'⟩ := r
      rw [q] at z
      refine ⟨μ, _, h, fl, ρ', h1, at_start R p, q, fun μ1 σ1 H1 g1 A1 => ?_⟩
      cases fl with
      | nx => exact z μ1 _ H1 g1 A1.rel .non
      | ret w => exact fun v pv => z μ1 v H1 g1 A1.rel pv
      | bk => exact z.elim
      | ct => exact z.elim
      | xc x => exact fun cls d r => z μ1 H1 cls d g1 A1.rel r
end MM

set_option maxRecDepth 100000
set_option maxHeartbeats 4000000

namespace MM
open PySem PySem.Spec PyProof.Rows L2
structure DfG (P : Program) (w : World) (K : PySem.W.Frag) (mg : PySem.Str → Option Value) (base : Heap) (k : Nat) (x : PySem.Str) (j : Nat) (m : FM) : Prop where
  ex : ∃ (f : Addr) (fd : FuncData) (ps : List PySem.Str), mg x = some (.ref f) ∧ PySem.W.keepIn K (.ref f) = true ∧ Binds K fd ps [] ∧ ps.length = j ∧ ∀ A : Around, Room k A → A.guards = some [] → RunAt P w K mg base CX0 A f fd ps (spF ⟨P, w, K, mg⟩ j m)
section
variable {X : Cx}
end
end MM

set_option maxRecDepth 100000
set_option maxHeartbeats 4000000

namespace MM
open PySem PySem.Spec PyProof.Rows L2
def dclrM : FT := fun w ws h => match w, ws with
  | .obj i, [] => match h[i]? with
    | some (.dk _) => .ok .non (h.set i (.dk []))
    | _ => .no
  | _, _ => .no
def dDrop (w k : Wv) : M Wv := fun h => match w with
  | .obj i => match h[i]?, keyOf k with
    | some (.dk kvs), some y => match valW kvs y with
      | some v => .ok v (h.set i (.dk (dropKW kvs y)))
      | none => .no
    | _, _ => .no
  | _ => .no
def eDpop (d k : EM) : EM := fun ρ => (d ρ).bind fun w => fun h => if isDict h w = true then ((k ρ).bind fun y => dDrop w y) h else .no
def sDdel (d k : EM) : SM := fun ρ => (d ρ).bind fun w => (k ρ).bind fun y => (dDrop w y).bind fun _ => M.pure (.nx, ρ)
section
variable {X : Cx} {o e : Expr} {apos cpos tpos pos : Pos} {md mk : EM}
end
end MM

set_option maxRecDepth 100000
set_option maxHeartbeats 4000000

namespace MM
open PySem PySem.Spec PyProof.Rows L2
def setdM : FT := fun w ws h => match w, ws with
  | .obj i, [k, v] => match h[i]?, keyOf k with
    | some (.dk kvs), some y => if kvs.length < sizeLine then (match valW kvs y with
      | some u => .ok u h
      | none => .ok v (h.set i (.dk (putKW kvs y v)))) else .no
    | _, _ => .no
  | _, _ => .no
end MM

set_option maxRecDepth 100000
set_option maxHeartbeats 4000000

namespace MM
open PySem PySem.Spec PyProof.Rows L2
theorem Rel.more {c : Cfg} {μ : List Addr} {h : Hm} {H H' : Hp} {p : Addr} {o : Ob} {u : HO} (R : Rel c μ h H) (sub : ∀ b v, H b = some v → H' b = some v) (np : H p = none) (hp : H' p = some u) (hu : Gw c μ H (μ ++ [p]) H' → ObjU c (μ ++ [p]) H' p o u) : Go c μ H (μ ++ [p]) H' ∧ Rel c (μ ++ [p]) (h ++ [o]) H' := by
  have gw : Gw c μ H (μ ++ [p]) H' := by
    refine ⟨⟨List.prefix_append _ _, fun a vs z => ?_, fun a vs z => sub a _ z, fun a ob xs _ z => sub a _ z⟩, fun a ob v z => sub a _ z⟩
    rcases z with (z | ⟨ob, z⟩) | z
    · exact .inl (.inl (sub a _ z))
    · exact .inl (.inr ⟨ob, sub a _ z⟩)
    · exact .inr z
  have out : p ∉ μ := fun m => by
    obtain ⟨i, hi⟩ := List.getElem?_of_mem m
    have li := (List.getElem?_eq_some_iff.mp hi).1
    rw [R.len] at li
    obtain ⟨v, e, _⟩ := R.at_ i p _ hi (List.getElem?_eq_getElem li)
    rw [np] at e
    cases e
  refine ⟨⟨gw, fun a v z _ => sub a v z, fun a m n => ?_⟩, ⟨by rw [List.length_append, List.length_append, R.len]; rfl, List.nodup_append.mpr ⟨R.nd, by simp, fun a ha b hb z => by rw [List.mem_singleton.mp hb] at z; rw [z] at ha; exact out ha⟩, fun i a o' ha ho => ?_⟩⟩
  · rcases List.mem_append.mp m with m | m
    · exact absurd m n
    · rw [List.mem_singleton.mp m]; exact np
  · rcases Nat.lt_or_ge i μ.length with l | l
    · rw [List.getElem?_append_left l] at ha
      rw [List.getElem?_append_left (by rw [← R.len]; exact l)] at ho
      obtain ⟨v, ev, r⟩ := R.at_ i a o' ha ho
      exact ⟨v, sub a v ev, r.mv gw⟩
    · have li := (List.getElem?_eq_some_iff.mp ha).1
      rw [List.length_append, List.length_singleton] at li
      obtain rfl : i = μ.length := by omega
      rw [List.getElem?_append_right (Nat.le_refl _), Nat.sub_self] at ha
      rw [R.len, List.getElem?_append_right (Nat.le_refl _), Nat.sub_self] at ho
      cases ha
      cases ho
      exact ⟨u, hp, hu gw⟩
def itemW (kv : Key × Wv) : Wv := .tup [ofKey kv.1, kv.2]
def itemsM (w : Wv) : M Wv := fun h => match w with
  | .obj i => match h[i]? with
    | some (.dk kvs) => lay (.lst (kvs.map itemW)) h
    | _ => .no
  | _ => .no
def eItems (e : EM) : EM := fun ρ => (e ρ).bind itemsM
end MM

set_option maxRecDepth 100000
set_option maxHeartbeats 4000000

namespace MM
open PySem PySem.Spec PyProof.Rows L2
mutual
def flatB : PyData → Bool
  | .list _ => false
  | .dict _ => false
  | .tuple ds => flatAll ds
  | _ => true
def flatAll : List PyData → Bool
  | [] => true
  | d :: ds => flatB d && flatAll ds
end
section
variable {X : Cx} {pins : List (Addr × Obj)} {σ : L2.St} {H : Hp} {s : Shared}
mutual
theorem reads0 (I : Inv X pins σ H s) : ∀ (d : PyData) (v : V) (u : Value), Dp X.K H v d → RelV v u → flatB d = true → Reads s.heap u d []
  | .none, _, _, h, r, _ => by cases h; cases r; exact .none
  | .bool b, _, _, h, r, _ => by cases h; cases r; exact .bool b
  | .int i, _, _, h, r, _ => by cases h; obtain ⟨t, rfl⟩ := r; exact .int i t
  | .str x, _, _, h, r, _ => by cases h; obtain ⟨t, rfl⟩ := r; exact .str x t
  | .list _, _, _, _, _, f => by simp [flatB] at f
  | .dict _, _, _, _, _, f => by simp [flatB] at f
  | .tuple ds, _, _, h, r, f => by
    cases h with
    | tup sq all =>
      cases r
      obtain ⟨its, rv, ⟨o, h1, h2, n, h3⟩, _⟩ := I.tuple sq
      exact .tuple h1 h2 h3 (by simpa using reads0All I ds _ its all rv (by rw [flatB] at f; exact f))
theorem reads0All (I : Inv X pins σ H s) : ∀ (ds : List PyData) (vs : List V) (us : List Value), DpAll X.K H vs ds → Vals vs us → flatAll ds = true → ReadsAll s.heap us ds []
  | [], _, _, h, r, _ => by cases h; cases r; exact .nil
  | d :: ds, _, _, h, r, f => by
    rw [flatAll, Bool.and_eq_true] at f
    cases h with
    | cons h1 h2 =>
      cases r with
      | cons r1 r2 => exact .cons (as := []) (bs := []) (reads0 I d _ _ h1 r1 f.1) (reads0All I ds _ _ h2 r2 f.2)
end
end
end MM

set_option maxRecDepth 100000
set_option maxHeartbeats 4000000

namespace MM
open PySem PySem.Spec PyProof.Rows L2
def kyD : Key → PyData
  | .inl i => .int i
  | .inr x => .str x
section
variable {X : Cx} {pins : List (Addr × Obj)} {σ : L2.St} {H : Hp} {s : Shared}
theorem key_reads {P : Program} {w : World} {k : Key} {v : Value} (h : (mixKind P w).is k v = true) : Reads s.heap v (kyD k) [] := by
  rcases keyIs_shape h with ⟨i, t, rfl, rfl⟩ | ⟨x, t, rfl, rfl⟩
  · exact .int i t
  · exact .str x t
theorem pairs_reads (I : Inv X pins σ H s) {es : List DictEntry} {vs : List (Key × Value)} (p : Pairs (mixKind X.prog X.w) es vs) : ∀ {kvs : List (Key × V)} {ds : List PyData}, KV kvs vs → DpAll X.K H (kvs.map (·.2)) ds → flatAll ds = true →
    ReadsAll s.heap (es.map (·.key)) (kvs.map fun kv => kyD kv.1) [] ∧ ReadsAll s.heap (es.map (·.val)) ds [] := by
  induction p with
  | nil =>
    intro kvs ds q hd f
    cases q
    cases hd
    exact ⟨.nil, .nil⟩
  | cons hk hv hp ih =>
    intro kvs ds q hd f
    cases q with
    | cons q t =>
      cases hd with
      | cons hd ht =>
        obtain ⟨e0, rv⟩ := q
        rw [flatAll, Bool.and_eq_true] at f
        obtain ⟨a1, a2⟩ := ih t ht f.2
        exact ⟨.cons (as := []) (bs := []) (key_reads (by rw [e0]; exact hk)) a1, .cons (as := []) (bs := []) (by dsimp only; rw [hv]; exact reads0 I _ _ _ hd rv f.1) a2⟩
def rRepK (K : PySem.W.Frag) : List V → Hp → VK → Prop := fun xs H Q => ∃ (a : Addr) (kvs : List (Key × V)) (ds : List PyData), xs = [.ref a] ∧ H a = some (.dK kvs) ∧ DpAll K H (kvs.map (·.2)) ds ∧ flatAll ds = true ∧
  (PyData.dict ((kvs.map fun kv => kyD kv.1).zip ds)).showable = true ∧ (PyData.dict ((kvs.map fun kv => kyD kv.1).zip ds)).depth ≤ 40 ∧ (PyData.dict ((kvs.map fun kv => kyD kv.1).zip ds)).shown.length ≤ sizeLine ∧ Q (.str (PyData.dict ((kvs.map fun kv => kyD kv.1).zip ds)).shown) H
theorem dpAll_len {K : PySem.W.Frag} {H : Hp} : ∀ {vs : List V} {ds : List PyData}, DpAll K H vs ds → vs.length = ds.length
  | _, _, .nil => rfl
  | _, _, .cons _ t => by rw [List.length_cons, List.length_cons, dpAll_len t]
theorem cr_repK (hG : X.A.guards = some []) (hu : X.A.units + 65 < cLine) : CallR X (.builtin "repr") (rRepK X.K) := by
  intro pins s σ H xs us Q I r ⟨a, kvs, ds, ex, ha, hd, fl, sh, dp, sz, q⟩
  subst ex
  rw [Vals.ref1 r]
  obtain ⟨_, hs, vs, rel, o, es, ep, ho, hx, hdat, _, pr, _⟩ := dk_of I.hok ha
  obtain ⟨r1, r2⟩ := pairs_reads I pr rel hd fl
  have l1 := dpAll_len hd
  rw [List.length_map] at l1
  have m1 : ((kvs.map fun kv => kyD kv.1).zip ds).map (·.1) = kvs.map fun kv => kyD kv.1 := List.map_fst_zip (by rw [List.length_map]; omega)
  have m2 : ((kvs.map fun kv => kyD kv.1).zip ds).map (·.2) = ds := List.map_snd_zip (by rw [List.length_map]; omega)
  have rd : Reads s.heap (.ref a) (.dict ((kvs.map fun kv => kyD kv.1).zip ds)) (a :: [] ++ []) := .dict ho hx.1 hdat (by rw [m1]; exact r1) (by rw [m2]; exact r2)
  refine repr_of_reads' rd sh (fun _ z => ?_) hG (by omega) (fun _ _ z => z) (fun h' u tk kp => ⟨.str _, H, I.kept (t' := tk) kp, ⟨u, rfl⟩, q⟩) sz
  have e : sysModules = a := by simpa using z
  rw [← e] at hs
  simp at hs
end
end MM

set_option maxRecDepth 100000
set_option maxHeartbeats 4000000
namespace MM
open PySem PySem.Spec PyProof.Rows L2
def dkD (kvs : List (Key × Wv)) (ds : List PyData) : PyData := .dict ((kvs.map fun kv => kyD kv.1).zip ds)
def repK : FM := fun ws h => match ws with
  | [.obj i] => match h[i]? with
    | some (.dk kvs) => match (kvs.map (·.2)).mapM (dat h 40) with
      | some ds => if (flatAll ds && (dkD kvs ds).showable && decide ((dkD kvs ds).depth ≤ 40) && decide ((dkD kvs ds).shown.length ≤ sizeLine)) = true then .ok (.str (dkD kvs ds).shown) h else .no
      | none => .no
    | _ => .no
  | _ => .no
theorem rkv_both {c : Cfg} {μ : List Addr} {h : Hm} {H : Hp} (R : Rel c μ h H) {n : Nat} : ∀ {xs : List (Key × V)} {kvs : List (Key × Wv)} {ds : List PyData}, Rkv c μ H xs kvs → (kvs.map (·.2)).mapM (dat h n) = some ds → (xs.map fun kv => kyD kv.1) = (kvs.map fun kv => kyD kv.1) ∧ DpAll c.K H (xs.map (·.2)) ds
  | _, _, _, .nil, e => by simp at e; subst e; exact ⟨rfl, .nil⟩
  | _, _, _, .cons q t, e => by
    obtain ⟨d, ds, e1, e2, rfl⟩ := mapM_some e
    obtain ⟨e0, p⟩ := q
    obtain ⟨a1, a2⟩ := rkv_both R t e2
    exact ⟨by rw [List.map_cons, List.map_cons, a1, e0], .cons (dat_to R p e1) a2⟩
theorem lc_repK {X : Cx} : LCall (cfg X) repK (rRepK X.K) := by
  intro μ h H vs ws w h' Q R r e n
  unfold repK at e
  split at e
  · next i =>
    split at e
    · next kvs q =>
      split at e
      · next ds qd =>
        obtain ⟨b, e⟩ := ifD_ok' e
        cases e
        simp only [Bool.and_eq_true, decide_eq_true_eq] at b
        obtain ⟨v, rfl, p⟩ := r.one_inv
        obtain ⟨a, rfl, ha⟩ := p.obj_inv
        obtain ⟨u, hu, xs, rfl, rr⟩ := R.get ha q
        obtain ⟨a1, a2⟩ := rkv_both R rr qd
        have z := n.now R (.str (dkD kvs ds).shown)
        unfold dkD at b z
        exact ⟨a, xs, ds, rfl, hu, a2, b.1.1.1, by rw [a1]; exact b.1.1.2, by rw [a1]; exact b.1.2, by rw [a1]; exact b.2, by rw [a1]; exact z⟩
      · cases e
    · cases e
  · cases e
end MM

set_option maxRecDepth 100000
set_option maxHeartbeats 4000000

namespace MM
open PySem PySem.Spec PyProof.Rows L2
def excAt (h : Hm) (i : Nat) : Option PySem.Str := match h[i]? with
  | some (.exc C none) => some C
  | some (.exc C (some j)) => match h[j]? with
    | some (.xd _) => some C
    | _ => none
  | _ => none
theorem excAt_to {c : Cfg} {μ : List Addr} {h : Hm} {H : Hp} {i : Nat} {a : Addr} {C : PySem.Str} (R : Rel c μ h H) (ha : μ[i]? = some a) (e : excAt h i = some C) : ∃ Ca, c.mg C = some (.ref Ca) ∧ XqAt H a Ca := by
  unfold excAt at e
  split at e
  · next C' q =>
    cases e
    obtain ⟨u, hu, Ca, d, mC, rfl, dx⟩ := R.get ha q
    have : d = none := dx
    subst this
    exact ⟨Ca, mC, .inl hu⟩
  · next C' j q =>
    split at e
    · next fs q2 =>
      cases e
      obtain ⟨u, hu, Ca, d, mC, rfl, dx, e1, hj⟩ := R.get ha q
      subst e1
      obtain ⟨u2, hu2, fs', rfl, r⟩ := R.get hj q2
      exact ⟨Ca, mC, .inr ⟨dx, fs', hu, hu2⟩⟩
    · cases e
  · cases e
def isQo (cls : List PySem.Str) (D : PySem.Str) : FM := fun ws h => match ws with
  | [.obj i, .glob D'] => match excAt h i with
    | some C => if (decide (D' = D) && cls.contains C) = true then .ok (.bl (supM C D)) h else .no
    | none => .no
  | _ => .no
def isQb (cls : List PySem.Str) (T : String) : FM := fun ws h => match ws with
  | [.obj i, .raw (.ty T')] => match excAt h i with
    | some C => if (decide (T' = T) && cls.contains C) = true then .ok (.bl (supM C (PySem.Str.ofString T))) h else .no
    | none => .no
  | _ => .no
section
variable {X : Cx} {cls : List PySem.Str}
theorem lc_isQo {D : PySem.Str} (t : Xt X.K X.mg cls D) (o : ∃ a, X.mg D = some (.ref a)) : LCall (cfg X) (isQo cls D) (rIsQ X.K) := by
  intro μ h H vs ws w h' Q R r e n
  unfold isQo at e
  split at e
  · next i D' =>
    cases q : excAt h i with
    | none => rw [q] at e; cases e
    | some C =>
      rw [q] at e
      obtain ⟨b, e⟩ := ifD_ok' e
      cases e
      simp only [Bool.and_eq_true, decide_eq_true_eq] at b
      obtain ⟨rfl, hc⟩ := b
      obtain ⟨x, y, rfl, p1, p2⟩ := r.two_inv
      obtain ⟨a, rfl, ha⟩ := p1.obj_inv
      obtain ⟨d, rfl, hd⟩ := p2.glob_inv
      obtain ⟨Ca, mC, at_⟩ := excAt_to R ha q
      obtain ⟨v, nv, ic, tb⟩ := t
      obtain ⟨a', bm, ha', T, z⟩ := tb C (List.contains_iff_mem.mp hc)
      have mC : X.mg C = some (.ref Ca) := mC
      rw [mC] at ha'
      cases ha'
      have hd : X.mg D' = some (.ref d) := hd
      have ev : v = .ref d := by
        rcases nv with nv | ⟨nv, _⟩
        · rw [hd] at nv; cases nv; rfl
        · rw [hd] at nv; cases nv
      subst ev
      exact ⟨a, Ca, bm, .ref d, .ref d, rfl, at_, T, fun u hu => hu, ic, by rw [z]; exact n.now R (.bl _)⟩
  · cases e
theorem lc_isQb {T : String} (t : Xt X.K X.mg cls (PySem.Str.ofString T)) (hm : X.mg (PySem.Str.ofString T) = none) (hv : bootBuiltins (PySem.Str.ofString T) = some (.type T)) : LCall (cfg X) (isQb cls T) (rIsQ X.K) := by
  intro μ h H vs ws w h' Q R r e n
  unfold isQb at e
  split at e
  · next i T' =>
    cases q : excAt h i with
    | none => rw [q] at e; cases e
    | some C =>
      rw [q] at e
      obtain ⟨b, e⟩ := ifD_ok' e
      cases e
      simp only [Bool.and_eq_true, decide_eq_true_eq] at b
      obtain ⟨rfl, hc⟩ := b
      obtain ⟨x, y, rfl, p1, p2⟩ := r.two_inv
      obtain ⟨a, rfl, ha⟩ := p1.obj_inv
      have ey := p2.raw_inv
      subst ey
      obtain ⟨Ca, mC, at_⟩ := excAt_to R ha q
      obtain ⟨v, nv, ic, tb⟩ := t
      obtain ⟨a', bm, ha', T, z⟩ := tb C (List.contains_iff_mem.mp hc)
      have mC : X.mg C = some (.ref Ca) := mC
      rw [mC] at ha'
      cases ha'
      have ev : v = .type T' := by
        rcases nv with nv | ⟨_, nv, _⟩
        · rw [hm] at nv; cases nv
        · rw [hv] at nv; cases nv; rfl
      subst ev
      exact ⟨a, Ca, bm, .type T', .ty T', rfl, at_, T, fun u hu => hu, ic, by rw [z]; exact n.now R (.bl _)⟩
  · cases e
end
def getX (f : PySem.Str) (cls : List PySem.Str) (w : Wv) : M Wv := fun h => match w with
  | .obj i => match h[i]? with
    | some (.exc C (some j)) => match h[j]? with
      | some (.xd fs) => match fs.lookup f with
        | some v => if cls.contains C = true then .ok v h else .no
        | none => .no
      | _ => .no
    | _ => .no
  | _ => .no
def eXf (f : PySem.Str) (cls : List PySem.Str) (e : EM) : EM := fun ρ => (e ρ).bind (getX f cls)
def Xn (K : PySem.W.Frag) (mg : PySem.Str → Option Value) (cls : List PySem.Str) (f : PySem.Str) : Prop := ∀ C ∈ cls, ∃ a bm, mg C = some (.ref a) ∧ ExK K a bm ∧ PySem.W.findIn K (.ref a) f = some none
theorem getX_ok {f : PySem.Str} {cls : List PySem.Str} {w v : Wv} {h h' : Hm} (e : getX f cls w h = .ok v h') : ∃ i C j fs, w = .obj i ∧ h[i]? = some (.exc C (some j)) ∧ h[j]? = some (.xd fs) ∧ fs.lookup f = some v ∧ C ∈ cls ∧ h' = h := by
  unfold getX at e
  cases w with
  | obj i =>
    simp only at e
    split at e
    · next C j q =>
      split at e
      · next fs q2 =>
        split at e
        · next v' q3 =>
          obtain ⟨b, e⟩ := ifD_ok' e
          cases e
          exact ⟨i, C, j, fs, rfl, q, q2, q3, List.contains_iff_mem.mp b, rfl⟩
        · cases e
      · cases e
    · cases e
  | _ => cases e
theorem me_xf {X : Cx} {cls : List PySem.Str} {f : PySem.Str} {e : Expr} {pos : Pos} {m : EM} (t : Xn X.K X.mg cls f) (he : ME X e m) (hb : attributeBase e f X.env (eval e X.env) = eval e X.env := by rfl) : ME X (.Attribute e f pos) (eXf f cls m) :=
  PE.imp (pe_xq he hb) fun σ H Q ⟨μ, ρ, h, w, h', A, e, n⟩ => by
    obtain ⟨u, h1, e1, e⟩ := bind_ok e
    obtain ⟨i, C, j, fs, rfl, hi, hj, l, hc, rfl⟩ := getX_ok e
    refine mE_first A e1 fun μ1 v H1 g1 A1 p1 => ?_
    obtain ⟨a, rfl, ha⟩ := p1.obj_inv
    obtain ⟨u, hu, Ca, d, mC, rfl, dx, e1, hdx⟩ := A1.rel.get ha hi
    subst e1
    obtain ⟨u2, hu2, fs', rfl, r⟩ := A1.rel.get hdx hj
    obtain ⟨v, lv, pv⟩ := lookup_rkv r l
    obtain ⟨a', bm, ha', T, no⟩ := t C hc
    have mC : X.mg C = some (.ref Ca) := mC
    rw [mC] at ha'
    cases ha'
    exact ⟨a, Ca, dx, fs', v, bm, rfl, hu, hu2, lv, T, no, (n.after g1).now A1.rel pv⟩

def rRepA (K : PySem.W.Frag) : List V → Hp → VK → Prop := fun xs H Q => (∃ (v : V) (d : PyData), xs = [v] ∧ Dp K H v d ∧ d.showable = true ∧ d.hasDict = false ∧ d.depth ≤ 40 ∧ d.shown.length ≤ sizeLine ∧ Q (.str d.shown) H) ∨ rRepK K xs H Q
theorem cr_repA {X : Cx} (hG : X.A.guards = some []) (hu : X.A.units + 65 < cLine) : CallR X (.builtin "repr") (rRepA X.K) := by
  intro pins s σ H xs us Q I r z
  rcases z with ⟨v, d, ex, hd, sh, nd, dp, sz, q⟩ | z
  · subst ex
    obtain ⟨u, rfl, ru⟩ := r.one
    obtain ⟨as, rd⟩ := Dp.reads I d v u hd ru
    cases rd with
    | none => exact PySem.P.repr_of_none ⟨.str _, H, I.tok _, ⟨_, rfl⟩, by simpa [PyData.shown] using q⟩
    | bool b => exact PySem.P.repr_of_bool ⟨.str _, H, I.tok _, ⟨_, rfl⟩, by simpa [PyData.shown] using q⟩
    | int i t => exact PySem.P.repr_of_int (by simpa [PyData.showable] using sh) ⟨.str _, H, I.tok _, ⟨_, rfl⟩, by simpa [PyData.shown] using q⟩
    | str x t => exact PySem.P.repr_of_str ⟨.str _, H, I.tok _, ⟨_, rfl⟩, by simpa [PyData.shown] using q⟩ (by simpa [PyData.shown] using sz)
    | list a b c e => exact repr_of_reads' (.list a b c e) sh (PyData.noDict_hsm nd) hG (by omega) (fun _ _ z => z) (fun h' u tk kp => ⟨.str _, H, I.kept (t' := tk) kp, ⟨u, rfl⟩, q⟩) sz
    | tuple a b c e => exact repr_of_reads' (.tuple a b c e) sh (PyData.noDict_hsm nd) hG (by omega) (fun _ _ z => z) (fun h' u tk kp => ⟨.str _, H, I.kept (t' := tk) kp, ⟨u, rfl⟩, q⟩) sz
    | dict a b c e f => simp [PyData.hasDict] at nd
  · exact cr_repK hG hu pins s σ H xs us Q I r z
def repA : FM := fun ws h => match ws with
  | [w] => match dat h 60 w with
    | some d => if (d.showable && !d.hasDict && decide (d.depth ≤ 40) && decide (d.shown.length ≤ sizeLine)) = true then .ok (.str d.shown) h else .no
    | none => repK ws h
  | _ => .no
theorem lc_repA {X : Cx} : LCall (cfg X) repA (rRepA X.K) := by
  intro μ h H vs ws w h' Q R r e n
  unfold repA at e
  split at e
  · next w0 =>
    split at e
    · next d q =>
      obtain ⟨b, e⟩ := ifD_ok' e
      cases e
      simp only [Bool.and_eq_true, decide_eq_true_eq, Bool.not_eq_true'] at b
      obtain ⟨v, rfl, p⟩ := r.one_inv
      exact .inl ⟨v, d, rfl, dat_to R p q, b.1.1.1, b.1.1.2, b.1.2, b.2, n.now R (.str _)⟩
    · exact .inr (lc_repK R r e n)
  · cases e

def idxM : FT := fun w ws h => match w, ws with
  | .obj i, [x] => match dat h 60 (.obj i), dat h 60 x with
    | some (.list ds), some d => match ds.findIdx? fun z => PyData.eqv z d with
      | some j => if (SeqAt.shaped (.list ds) && SeqAt.shaped d) = true then .ok (.int (j : Nat)) h else .no
      | none => .no
    | _, _ => .no
  | _, _ => .no
end MM

set_option maxRecDepth 100000
set_option maxHeartbeats 4000000

namespace MM
open PySem PySem.Spec PyProof.Rows L2
theorem iVal : XK.Ini "ValueError" "ValueError.__init__" := .of F.excBase_ValueError
theorem hVal : PySem.W.handedIn (.builtin "ValueError.__init__") = true := by decide +kernel
structure Hn (K : PySem.W.Frag) (mg : PySem.Str → Option Value) (D : Addr) : Prop where
  g : mg "HintError" = some (.ref D)
  kx : ExK K D XK.tVal
  sg : PySem.W.specialIn K (.ref D) "__getattribute__" = some (some (.builtin "type.__getattribute__"))
  rd : PySem.W.readsIn K D (.type "type") = true
  vV : PySem.W.findCls K (.ref D) (.type "type") "__init__" = some (.val (.builtin "ValueError.__init__"))
structure Bn (K : PySem.W.Frag) (mg : PySem.Str → Option Value) (B : String) (id : String) : Prop where
  g : mg (PySem.Str.ofString B) = none
  vV : PySem.W.findCls K (.type B) (.type "type") "__init__" = some (.val (.builtin id))
section
variable {K : PySem.W.Frag} {C D N : Addr} {nm q : PySem.Str} {bs sub : List Value} {sn : List PySem.Str} {ab : Bool} {col : Option Bool} {dd : Option Addr} {k0 k1 k2 k3 k5 : Option Value}
theorem exV (l : K.lookup C = some (excClassObj nm q C N bs XK.tVal true sn sub ab col dd k0 k1 k2 k3 k5 "ValueError.__new__")) (sa : PySem.W.findIn K (.ref C) "__setattr__" = some (some (.builtin "object.__setattr__"))) (ga : PySem.W.findIn K (.ref C) "__getattribute__" = some (some (.builtin "BaseException.__getattribute__")))
    (gt : PySem.W.findIn K (.ref C) "__getattr__" = some none) (ca : PySem.W.findIn K (.ref C) "__class__" = some (some (.builtin "object.__class__"))) (kC : PySem.W.keepIn K (.ref C) = true) : ExK K C XK.tVal :=
  ⟨⟨_, _, _, _, _, _, _, _, _, _, _, _, _, _, _, _, _, _, F.excBase_ValueError, ⟨by rfl, by rfl, by rfl⟩, l⟩, XK.xpVal, by rfl, by rfl, sa, ga, gt, ca, kC⟩
theorem exH (l : K.lookup C = some (excClassObj nm q C N bs (.ref D :: XK.tVal) true sn sub ab col dd k0 k1 k2 k3 k5 "ValueError.__new__")) (sa : PySem.W.findIn K (.ref C) "__setattr__" = some (some (.builtin "object.__setattr__"))) (ga : PySem.W.findIn K (.ref C) "__getattribute__" = some (some (.builtin "BaseException.__getattribute__")))
    (gt : PySem.W.findIn K (.ref C) "__getattr__" = some none) (ca : PySem.W.findIn K (.ref C) "__class__" = some (some (.builtin "object.__class__"))) (kC : PySem.W.keepIn K (.ref C) = true) : ExK K C (.ref D :: XK.tVal) :=
  ⟨⟨_, _, _, _, _, _, _, _, _, _, _, _, _, _, _, _, _, _, F.excBase_ValueError, ⟨by rfl, by rfl, by rfl⟩, l⟩, (fun z => by rw [refuseLoop_ref]; exact XK.xpVal z), by rfl, by rfl, sa, ga, gt, ca, kC⟩
end
structure IF (K : PySem.W.Frag) (C fI : Addr) (fd : FuncData) (qual : PySem.Str) (st : Stmt) : Prop where
  iC : PySem.W.findIn K (.ref C) "__init__" = some (some (.ref fI))
  tI : PySem.W.typeIn K (.ref fI) = some (.type "function")
  fn : Fun K "__init__" qual st fI fd
end MM

set_option maxRecDepth 100000
set_option maxHeartbeats 4000000
namespace MM
open PySem PySem.Spec PyProof.Rows L2

theorem ball_nil {P : PySem.Str → Prop} : ∀ x ∈ ([] : List PySem.Str), P x := fun _ h => absurd h (by simp)
theorem ball_cons {P : PySem.Str → Prop} {a : PySem.Str} {l : List PySem.Str} (h : P a) (t : ∀ x ∈ l, P x) : ∀ x ∈ a :: l, P x := fun x m => by
  rcases List.mem_cons.mp m with rfl | m
  · exact h
  · exact t x m
def NmC (X : Cx) (e : Expr) (D : PySem.Str) : Prop := (∃ np, e = Expr.Name D np) ∧ Gl X D ∧ (D == ("__debug__" : PySem.Str)) = false ∧ ∃ a, X.mg D = some (.ref a)
theorem cls_one {X : Cx} {D : PySem.Str} {np : Pos} (hg : Gl X D) (hd : (D == ("__debug__" : PySem.Str)) = false) (h : ∃ a, X.mg D = some (.ref a)) : ∃ cs, ClsT (Names X) (.Name D np) cs ∧ Paired (fun D v => ∃ a, v = Value.ref a ∧ X.mg D = some (.ref a)) [D] cs := by
  obtain ⟨a, ha⟩ := h
  exact ⟨[.ref a], .one ⟨hg, hd, .inl ha⟩, .cons ⟨a, rfl, ha⟩ .nil⟩

section
variable {h : Hm} {ρ : Env} {R : Ex → Hm → Prop}
theorem wp_sX {m : SM} {Q : Fl × Env → Hm → Prop} : wpM (sX m ρ) h Q ↔ wpB (m ρ) h Q fun x h1 => Q (.xc x, ρ) h1 := by
  unfold wpM wpB sX
  cases e : m ρ h with
  | ok a h1 => exact ⟨(fun ⟨_, _, z, q⟩ => by cases z; exact q), fun q => ⟨_, _, rfl, q⟩⟩
  | ex x h1 => exact ⟨(fun ⟨_, _, z, q⟩ => by cases z; exact q), fun q => ⟨_, _, rfl, q⟩⟩
  | no => exact ⟨(fun ⟨_, _, z, q⟩ => by cases z), fun q => q.elim⟩
theorem wp_sIfX {t : TM} {a b : SM} {Q : Fl × Env → Hm → Prop} : wpM (sIfX t a b ρ) h Q ↔ wpB (t ρ) h (fun k h1 => if k = true then wpM (a ρ) h1 Q else wpM (b ρ) h1 Q) fun x h1 => Q (.xc x, ρ) h1 := by
  unfold wpB sIfX
  cases e : t ρ h with
  | ok k h1 => cases k <;> simp only [wpM, e, if_true, if_false, Bool.false_eq_true]
  | ex x h1 => simp only [wpM, e]; exact ⟨(fun ⟨_, _, z, q⟩ => by cases z; exact q), fun q => ⟨_, _, rfl, q⟩⟩
  | no => simp only [wpM, e]; exact ⟨(fun ⟨_, _, z, q⟩ => by cases z), fun q => q.elim⟩
theorem wpB_expr {e : EM} {Q : Fl × Env → Hm → Prop} : wpB (sExpr e ρ) h Q R ↔ wpB (e ρ) h (fun _ h1 => Q (.nx, ρ) h1) R := by unfold sExpr; simp only [wpB_bind, wpB_pure]
theorem wpB_ret {e : EM} {Q : Fl × Env → Hm → Prop} : wpB (sRet e ρ) h Q R ↔ wpB (e ρ) h (fun w h1 => Q (.ret w, ρ) h1) R := by unfold sRet; simp only [wpB_bind, wpB_pure]
theorem wpB_set {i : Nat} {e : EM} {Q : Fl × Env → Hm → Prop} : wpB (sSet i e ρ) h Q R ↔ wpB (e ρ) h (fun w h1 => Q (.nx, ρ.set i (some w)) h1) R := by unfold sSet; simp only [wpB_bind, wpB_pure]
theorem wpB_nrE {m : EM} {Q : Wv → Hm → Prop} : wpB (nrE m ρ) h Q R ↔ wpM (m ρ) h Q := wpB_nr
theorem wpB_nrT {m : TM} {Q : Bool → Hm → Prop} : wpB (nrT m ρ) h Q R ↔ wpM (m ρ) h Q := wpB_nr
theorem wpB_nrA {m : AM} {Q : List Wv → Hm → Prop} : wpB (nrA m ρ) h Q R ↔ wpM (m ρ) h Q := wpB_nr
theorem wpM_nrE {m : EM} {Q : Wv → Hm → Prop} : wpM (nrE m ρ) h Q ↔ wpM (m ρ) h Q := wp_nr
theorem wp_nrS {m : SM} {Q : Fl × Env → Hm → Prop} : wpM (nrS m ρ) h Q ↔ wpM (m ρ) h fun r h1 => match r.1 with | .xc _ => False | _ => Q r h1 := by
  unfold wpM nrS
  cases e : m ρ h with
  | ok r h1 =>
    obtain ⟨fl, ρ'⟩ := r
    cases fl <;> first
      | exact ⟨(fun ⟨_, _, z, q⟩ => by cases z), fun ⟨_, _, z, q⟩ => by cases z; exact q.elim⟩
      | exact ⟨(fun ⟨_, _, z, q⟩ => by cases z; exact ⟨_, _, rfl, q⟩), fun ⟨_, _, z, q⟩ => by cases z; exact ⟨_, _, rfl, q⟩⟩
  | ex x h1 => exact ⟨(fun ⟨_, _, z, q⟩ => by cases z), fun ⟨_, _, z, q⟩ => by cases z⟩
  | no => exact ⟨(fun ⟨_, _, z, q⟩ => by cases z), fun ⟨_, _, z, q⟩ => by cases z⟩
theorem wp_raise0 {C : PySem.Str} {Q : Fl × Env → Hm → Prop} : wpM (sRaise0 C ρ) h Q ↔ Q (.xc ⟨C, none⟩, ρ) h := wp_ok rfl
theorem wp_raise1 {C f : PySem.Str} {e : EM} {Q : Fl × Env → Hm → Prop} : wpM (sRaise1 C f e ρ) h Q ↔ wpM (e ρ) h fun v h1 => Q (.xc ⟨C, some h1.length⟩, ρ) (h1 ++ [.xd [(f, v)]]) := by
  unfold sRaise1
  rw [wp_bind]
  constructor <;> intro z <;> refine wp_mono z fun v h1 q => ?_
  · exact (wp_ok rfl).mp q
  · exact (wp_ok rfl).mpr q
theorem wpB_aNil {Q : List Wv → Hm → Prop} : wpB (aNil ρ) h Q R ↔ Q [] h := Iff.rfl
theorem wpB_aCons {e : EM} {r : AM} {Q : List Wv → Hm → Prop} : wpB (aCons e r ρ) h Q R ↔ wpB (e ρ) h (fun w h1 => wpB (r ρ) h1 (fun ws h2 => Q (w :: ws) h2) R) R := by unfold aCons; simp only [wpB_bind, wpB_pure]
theorem wpB_call {f : FM} {a : AM} {Q : Wv → Hm → Prop} : wpB (eCall f a ρ) h Q R ↔ wpB (a ρ) h (fun ws h1 => wpB (f ws) h1 Q R) R := by unfold eCall; simp only [wpB_bind]
theorem wpB_meth {C m : PySem.Str} {f : FM} {o : EM} {a : AM} {Q : Wv → Hm → Prop} : wpB (eMeth C m f o a ρ) h Q R ↔ wpB (o ρ) h (fun w h1 => wpB (isC C m w) h1 (fun _ h2 => wpB (a ρ) h2 (fun ws h3 => wpB (f (w :: ws)) h3 Q R) R) R) R := by unfold eMeth; simp only [wpB_bind]
theorem wpB_funX {n k : Nat} {b : SM} {ws : List Wv} {Q : Wv → Hm → Prop} (l : ws.length = k) : wpB (funX n k b ws) h Q R ↔ wpM (b (startM n ws)) h fun r h1 => match r.1 with | .nx => Q .non h1 | .ret w => Q w h1 | .xc x => R x h1 | .bk => False | .ct => False := by
  unfold wpB funX wpM
  rw [if_pos l]
  cases e : b (startM n ws) h with
  | ok r h1 =>
    obtain ⟨fl, ρ'⟩ := r
    cases fl <;> exact ⟨(fun q => ⟨_, _, rfl, q⟩), fun ⟨_, _, z, q⟩ => by cases z; exact q⟩
  | ex x h1 => exact ⟨(fun q => q.elim), fun ⟨_, _, z, q⟩ => by cases z⟩
  | no => exact ⟨(fun q => q.elim), fun ⟨_, _, z, q⟩ => by cases z⟩
theorem wpB_fx1 {n : Nat} {b : SM} {x0 : Wv} {Q : Wv → Hm → Prop} : wpB (funX n 1 b [x0]) h Q R ↔ wpM (b (startM n [x0])) h fun r h1 => match r.1 with | .nx => Q .non h1 | .ret w => Q w h1 | .xc x => R x h1 | .bk => False | .ct => False := wpB_funX rfl
theorem wpB_fx2 {n : Nat} {b : SM} {x0 x1 : Wv} {Q : Wv → Hm → Prop} : wpB (funX n 2 b [x0, x1]) h Q R ↔ wpM (b (startM n [x0, x1])) h fun r h1 => match r.1 with | .nx => Q .non h1 | .ret w => Q w h1 | .xc x => R x h1 | .bk => False | .ct => False := wpB_funX rfl
theorem wpB_fx3 {n : Nat} {b : SM} {x0 x1 x2 : Wv} {Q : Wv → Hm → Prop} : wpB (funX n 3 b [x0, x1, x2]) h Q R ↔ wpM (b (startM n [x0, x1, x2])) h fun r h1 => match r.1 with | .nx => Q .non h1 | .ret w => Q w h1 | .xc x => R x h1 | .bk => False | .ct => False := wpB_funX rfl
theorem wpB_fx4 {n : Nat} {b : SM} {x0 x1 x2 x3 : Wv} {Q : Wv → Hm → Prop} : wpB (funX n 4 b [x0, x1, x2, x3]) h Q R ↔ wpM (b (startM n [x0, x1, x2, x3])) h fun r h1 => match r.1 with | .nx => Q .non h1 | .ret w => Q w h1 | .xc x => R x h1 | .bk => False | .ct => False := wpB_funX rfl
theorem wpB_fx5 {n : Nat} {b : SM} {x0 x1 x2 x3 x4 : Wv} {Q : Wv → Hm → Prop} : wpB (funX n 5 b [x0, x1, x2, x3, x4]) h Q R ↔ wpM (b (startM n [x0, x1, x2, x3, x4])) h fun r h1 => match r.1 with | .nx => Q .non h1 | .ret w => Q w h1 | .xc x => R x h1 | .bk => False | .ct => False := wpB_funX rfl
theorem wpB_fx6 {n : Nat} {b : SM} {x0 x1 x2 x3 x4 x5 : Wv} {Q : Wv → Hm → Prop} : wpB (funX n 6 b [x0, x1, x2, x3, x4, x5]) h Q R ↔ wpM (b (startM n [x0, x1, x2, x3, x4, x5])) h fun r h1 => match r.1 with | .nx => Q .non h1 | .ret w => Q w h1 | .xc x => R x h1 | .bk => False | .ct => False := wpB_funX rfl
theorem wpB_fx7 {n : Nat} {b : SM} {x0 x1 x2 x3 x4 x5 x6 : Wv} {Q : Wv → Hm → Prop} : wpB (funX n 7 b [x0, x1, x2, x3, x4, x5, x6]) h Q R ↔ wpM (b (startM n [x0, x1, x2, x3, x4, x5, x6])) h fun r h1 => match r.1 with | .nx => Q .non h1 | .ret w => Q w h1 | .xc x => R x h1 | .bk => False | .ct => False := wpB_funX rfl
theorem wp_sTry {cls : List PySem.Str} {mb : SM} {hs : List Hd} {Q : Fl × Env → Hm → Prop} : wpM (sTry cls mb hs ρ) h Q ↔ wpM (mb ρ) h fun r h1 => match r.1 with | .xc x => wpM (handM cls x hs r.2) h1 Q | .nx => Q (.nx, r.2) h1 | .ret w => Q (.ret w, r.2) h1 | .bk => Q (.bk, r.2) h1 | .ct => Q (.ct, r.2) h1 := by
  unfold wpM sTry
  cases e : mb ρ h with
  | ok r h1 =>
    obtain ⟨fl, ρ'⟩ := r
    cases fl with
    | xc x =>
      constructor
      · rintro ⟨r2, h2, z, q⟩
        exact ⟨_, _, rfl, r2, h2, z, q⟩
      · rintro ⟨r1, h2, z, q⟩
        cases z
        obtain ⟨r2, h3, z2, q⟩ := q
        exact ⟨r2, h3, z2, q⟩
    | _ => exact ⟨(fun ⟨_, _, z, q⟩ => by cases z; exact ⟨_, _, rfl, q⟩), fun ⟨_, _, z, q⟩ => by cases z; exact ⟨_, _, rfl, q⟩⟩
  | ex x h1 => exact ⟨(fun ⟨_, _, z, q⟩ => by cases z), fun ⟨_, _, z, q⟩ => by cases z⟩
  | no => exact ⟨(fun ⟨_, _, z, q⟩ => by cases z), fun ⟨_, _, z, q⟩ => by cases z⟩
theorem wp_handYes {cls : List PySem.Str} {x : Ex} {k : Hd} {hs : List Hd} {Q : Fl × Env → Hm → Prop} (h1 : cls.contains x.C = true) (h2 : k.ns.any (supM x.C) = true) : wpM (handM cls x (k :: hs) ρ) h Q ↔ wpM (k.b (slotM ρ (some (.obj h.length)) k.sl)) (h ++ [.exc x.C x.d]) fun r h1 => match r.1 with | .xc _ => False | _ => Q (r.1, slotM r.2 none k.sl) h1 := by
  unfold handM
  rw [if_pos h1, if_pos h2]
  unfold wpM suiteM
  cases e : k.b (slotM ρ (some (.obj h.length)) k.sl) (h ++ [.exc x.C x.d]) with
  | ok r h1 =>
    obtain ⟨fl, ρ'⟩ := r
    cases fl <;> first
      | exact ⟨(fun ⟨_, _, z, q⟩ => by cases z), fun ⟨_, _, z, q⟩ => by cases z; exact q.elim⟩
      | exact ⟨(fun ⟨_, _, z, q⟩ => by cases z; exact ⟨_, _, rfl, q⟩), fun ⟨_, _, z, q⟩ => by cases z; exact ⟨_, _, rfl, q⟩⟩
  | ex x h1 => exact ⟨(fun ⟨_, _, z, q⟩ => by cases z), fun ⟨_, _, z, q⟩ => by cases z⟩
  | no => exact ⟨(fun ⟨_, _, z, q⟩ => by cases z), fun ⟨_, _, z, q⟩ => by cases z⟩
variable {Q : Wv → Hm → Prop}
theorem wp_isQo {cls : List PySem.Str} {D C : PySem.Str} {i : Nat} (e : excAt h i = some C) (hc : cls.contains C = true) : wpM (isQo cls D [.obj i, .glob D]) h Q ↔ Q (.bl (supM C D)) h := wp_ok (by unfold isQo; simp only [e, decide_true, Bool.true_and, hc, if_true])
theorem wp_isQb {cls : List PySem.Str} {T : String} {C : PySem.Str} {i : Nat} (e : excAt h i = some C) (hc : cls.contains C = true) : wpM (isQb cls T [.obj i, .raw (.ty T)]) h Q ↔ Q (.bl (supM C (PySem.Str.ofString T))) h := wp_ok (by unfold isQb; simp only [e, decide_true, Bool.true_and, hc, if_true])
theorem wp_xf {f : PySem.Str} {cls : List PySem.Str} {e : EM} : wpM (eXf f cls e ρ) h Q ↔ wpM (e ρ) h fun w h1 => wpM (getX f cls w) h1 Q := by unfold eXf; simp only [wp_bind]
theorem wp_getX {f : PySem.Str} {cls : List PySem.Str} {C : PySem.Str} {i j : Nat} {fs : List (PySem.Str × Wv)} {v : Wv} (e : h[i]? = some (.exc C (some j))) (e2 : h[j]? = some (.xd fs)) (l : fs.lookup f = some v) (hc : cls.contains C = true) : wpM (getX f cls (.obj i)) h Q ↔ Q v h := wp_ok (by unfold getX; simp only [e, e2, l, hc, if_true])
end
end MM

set_option maxRecDepth 100000
set_option maxHeartbeats 4000000
namespace GP
open PySem PySem.Spec PyProof.Rows L2 K01 MM
def x_Asker___init__ : FM := funX 2 2 ((sSeq (sIfX (nrT (tNotM (tTru (eCall m_is_word (aCons (eVar 1) aNil))))) (sRaise1 "NoAsker" "asker" (eVar 1)) sNil)
    (sSeq (nrS (sFldM "Asker" "own_name" (eVar 0) (eVar 1)))
    (sSeq (nrS (sFldM "Asker" "own_known" (eVar 0) eDnewK))
    (sSeq (nrS (sFldM "Asker" "own_busy" (eVar 0) (eC .non)))
    (nrS (sFldM "Asker" "own_tellings" (eVar 0) (eLst aNil))))))))
def x_look_at_key : FM := funX 1 1 ((sIfX (nrT (tNotM (tTru (eCall m_is_key (aCons (eVar 0) aNil))))) (sRaise0 "NoKey") sNil))
def x_Asker_known : FM := funX 2 2 ((sSeq (sX (sExpr (eCall x_look_at_key (nrA (aCons (eVar 1) aNil)))))
    (nrS (sRet (eDget2 (eFld "Asker" "own_known" (eVar 0)) (eVar 1) (eTup aNil))))))
def x_Asker_learn : FM := funX 5 3 ((sSeq (sX (sSet 3 (eMeth "Asker" "known" x_Asker_known (nrE (eVar 0)) (nrA (aCons (eVar 1) aNil)))))
    (sSeq (sIfX (nrT (tNotM (tTru (eCall m_is_known (aCons (eVar 2) aNil))))) (sRaise0 "NoKnown") sNil)
    (sSeq (nrS (sSet 4 (eCall m_together (aCons (eLst (aCons (eVar 3) (aCons (eVar 2) aNil))) aNil))))
    (sSeq (nrS (sIf (tTru (eVar 4)) (sDput (eFld "Asker" "own_known" (eVar 0)) (eVar 1) (eVar 4)) sNil))
    (nrS (sRet (eOp (eqB true) (eVar 4) (eVar 3)))))))))
def x_Asker_begin : FM := funX 2 2 ((sSeq (sIfX (nrT (tOf (eOp (isNB true) (eFld "Asker" "own_busy" (eVar 0)) (eC .non)))) (sRaise1 "Busy" "what" (eFld "Asker" "own_name" (eVar 0))) sNil)
    (nrS (sFldM "Asker" "own_busy" (eVar 0) (eVar 1)))))
def x_Asker_hear : FM := funX 6 5 ((sSeq (nrS (sIf (tOrM (tNotM (tTru (eCall m_is_whole (aCons (eVar 1) aNil)))) (tOf (eOp (eqB true) (eVar 1) (eFld "Asker" "own_busy" (eVar 0))))) (sRet (eC (.bl false))) sNil))
    (sSeq (nrS (sSet 5 (eTup (aCons (eVar 1) (aCons (eVar 2) (aCons (eIf (tOf (eOp (isNB false) (eVar 3) (eC .non))) (eC .non) (eCall tupOf (aCons (eVar 3) aNil))) aNil))))))
    (sSeq (sX (sExpr (eMeth "Asker" "learn" x_Asker_learn (nrE (eVar 0)) (nrA (aCons (eVar 2) (aCons (eVar 4) aNil))))))
    (sSeq (nrS (sFldM "Asker" "own_busy" (eVar 0) (eC .non)))
    (sSeq (nrS (sExpr (eBm isLst appM (eFld "Asker" "own_tellings" (eVar 0)) (aCons (eVar 5) aNil))))
    (nrS (sRet (eC (.bl true))))))))))
def x_Asker_leave_off : FM := funX 2 1 ((sSeq (sIfX (nrT (tOf (eOp (isNB false) (eFld "Asker" "own_busy" (eVar 0)) (eC .non)))) (sRaise1 "NoAsk" "number" (eC .non)) sNil)
    (sSeq (nrS (sSet 1 (eFld "Asker" "own_busy" (eVar 0))))
    (sSeq (nrS (sFldM "Asker" "own_busy" (eVar 0) (eC .non)))
    (nrS (sRet (eVar 1)))))))
end GP

set_option maxRecDepth 100000
set_option maxHeartbeats 4000000

namespace MM
open PySem PySem.Spec PyProof.Rows L2
def itv (r d : Addr) : HO := .ext fun h => h.get? r = some { cls := .type "dict_items", data := .fields #[.ref d] }
def tItemsV (te : TE) : TE := fun σ H Q => te σ H fun x H1 => ∃ (d : Addr) (kvs : List (Key × V)), x = .ref d ∧ H1 d = some (.dK kvs) ∧ ∀ r, H1 r = none → Q (.ref r) (upd H1 r (itv r d))
section
variable {X : Cx} {e : Expr} {te : TE} {p apos cpos pos : Pos}
end
section
variable {X : Cx} {pins : List (Addr × Obj)} {σ : L2.St} {H : Hp} {s : Shared}
def itemD (kvs : List (Key × V)) (ds : List PyData) : List PyData := List.zipWith (fun (kv : Key × V) d => PyData.tuple [kyD kv.1, d]) kvs ds
def rSI (K : PySem.W.Frag) : List V → Hp → VK → Prop := fun xs H Q => ∃ (r d : Addr) (kvs : List (Key × V)) (vd : List PyData), xs = [.ref r] ∧ H r = some (itv r d) ∧ H d = some (.dK kvs) ∧ kvs.length ≤ 1000 ∧ (∀ H1 : Hp, (∀ b o, H b = some o → H1 b = some o) → DpAll K H1 (kvs.map (·.2)) vd) ∧ flatAll vd = true ∧ sortable (itemD kvs vd) = true ∧
  ∀ (H' : Hp) (p : Addr) (ts : List Addr), (∀ b o, H b = some o → H' b = some o) → H p = none → H' p = some (.lst ((isort dle ((ts.map V.ref).zip (itemD kvs vd))).map (·.1))) → Paired (fun (t : Addr) (q : Key × V) => H' t = some (.tup [kV q.1, q.2])) ts kvs → Q (.ref p) H'
end
end MM

set_option maxRecDepth 100000
set_option maxHeartbeats 4000000
namespace MM
open PySem PySem.Spec PyProof.Rows L2
theorem Rel.sub {c : Cfg} {μ : List Addr} {h : Hm} {H H' : Hp} (R : Rel c μ h H) (sub : ∀ b v, H b = some v → H' b = some v) : Go c μ H μ H' ∧ Rel c μ h H' := by
  have gw : Gw c μ H μ H' := by
    refine ⟨⟨List.prefix_refl _, fun a vs z => ?_, fun a vs z => sub a _ z, fun a ob xs _ z => sub a _ z⟩, fun a ob v z => sub a _ z⟩
    rcases z with (z | ⟨ob, z⟩) | z
    · exact .inl (.inl (sub a _ z))
    · exact .inl (.inr ⟨ob, sub a _ z⟩)
    · exact .inr z
  refine ⟨⟨gw, fun a v z _ => sub a v z, fun a m n => absurd m n⟩, R.len, R.nd, fun i a o ha ho => ?_⟩
  obtain ⟨v, ev, r⟩ := R.at_ i a o ha ho
  exact ⟨v, sub a v ev, r.mv gw⟩
def itemDW (kvs : List (Key × Wv)) (ds : List PyData) : List PyData := List.zipWith (fun (kv : Key × Wv) d => PyData.tuple [kyD kv.1, d]) kvs ds
def sortIM (w : Wv) : M Wv := fun h => match w with
  | .obj i => match h[i]? with
    | some (.dk kvs) => match (kvs.map (·.2)).mapM (dat h 40) with
      | some vd => if (flatAll vd && sortable (itemDW kvs vd) && decide (kvs.length ≤ 1000)) = true then lay (.lst ((isort dle ((kvs.map itemW).zip (itemDW kvs vd))).map (·.1))) h else .no
      | none => .no
    | _ => .no
  | _ => .no
def eSortI (e : EM) : EM := fun ρ => (e ρ).bind sortIM
theorem mapM_len {α β : Type} {f : α → Option β} : ∀ {as : List α} {bs : List β}, as.mapM f = some bs → as.length = bs.length
  | [], _, e => by simp at e; subst e; rfl
  | a :: as, _, e => by
    obtain ⟨b, bs, e1, e2, rfl⟩ := mapM_some e
    rw [List.length_cons, List.length_cons, mapM_len e2]
end MM

set_option maxRecDepth 100000
set_option maxHeartbeats 4000000
namespace GP
open PySem PySem.Spec PyProof.Rows L2 K01 MM
def m_News_twin : FM := fun_ 2 1 ((sSeq (sSet 1 (eCall (mkC "News" m_News___init__) (aCons (eFld "News" "own_name" (eVar 0)) (aCons (eLst aNil) aNil))))
    (sSeq (sFldM "News" "own_entries" (eVar 1) (eMeth "News" "entries" m_News_entries (eVar 0) aNil))
    (sRet (eVar 1)))))
def m_News_called : FM := fun_ 1 1 ((sRet (eFld "News" "own_name" (eVar 0))))
def m_News_leave : FM := fun_ 2 2 ((sSeq (sExpr (eMeth "News" "look_at_other" m_News_look_at_other (eVar 0) (aCons (eVar 1) aNil)))
    (sDdel (eFld "News" "own_entries" (eVar 0)) (eVar 1))))
end GP

set_option maxRecDepth 100000
set_option maxHeartbeats 4000000

namespace MM
open PySem PySem.Spec PyProof.Rows L2
def eSlX (e : EM) (u : OM) : EM := fun ρ => (e ρ).bind fun w => nr ((u ρ).bind fun hi => slM w none hi)
section
variable {X : Cx} {W : WX}
end
end MM

set_option maxRecDepth 100000
set_option maxHeartbeats 4000000

namespace MM
open PySem PySem.Spec PyProof.Rows L2
def isBB (neg : Bool) : F2 := fun a b h => match a, b with
  | .bl i, .bl j => .ok (.bl (if neg then !decide (i = j) else decide (i = j))) h
  | _, _ => .no
def leS : F2 := fun a b h => match a, b with
  | .str i, .str j => .ok (.bl (!decide (j.cps.toList < i.cps.toList))) h
  | _, _ => .no
section
variable {X : Cx} {a b : Expr} {pos : Pos} {ma mb : EM}
end
end MM

set_option maxRecDepth 100000
set_option maxHeartbeats 4000000

namespace MM
open PySem PySem.Spec PyProof.Rows L2
section
variable {X : Cx}
def rSortTu (K : PySem.W.Frag) : List V → Hp → VK → Prop := fun vs H Q => ∃ (l : Addr) (zs : List Vd), vs = [V.ref l] ∧ SqT K H l (zs.map (·.1)) ∧ (∀ z ∈ zs, Dp K H z.1 z.2) ∧ (∀ z ∈ zs, flatB z.2 = true) ∧ sortable (zs.map (·.2)) = true ∧ zs.length ≤ 10000 ∧ ∀ p, H p = none → Q (.ref p) (upd H p (.lst ((isort dle zs).map (·.1))))
def sortE : FM := fun ws h => match ws with
  | [.tup us] => match us.mapM (dat h 60) with
    | some ds => if (sortable ds && (flatAll ds && decide (us.length ≤ 10000))) = true then lay (.lst ((isort dle (us.zip ds)).map (·.1))) h else .no
    | none => .no
  | ws => sortM ws h
end
end MM

set_option maxRecDepth 100000
set_option maxHeartbeats 4000000
namespace GP
open PySem PySem.Spec PyProof.Rows L2 K01 MM
def x_look_at_row : FM := funX 4 3 ((sSeq (sIfX (nrT (tOrM (tNotM (tTru (eCall (isi2M .lst .tup) (aCons (eVar 0) (aCons (eTup (aCons (eC (.raw (.ty "list"))) (aCons (eC (.raw (.ty "tuple"))) aNil))) aNil))))) (tNotM (tOf (eCh leI leI (eC (.int 1)) (eCall lenM (aCons (eVar 0) aNil)) (eVar 1)))))) (sRaise1 "NoRing" "number" (eC .non)) sNil)
    (sSeq (nrS (sSet 3 (eCall m_first_wrong (aCons (eVar 0) (aCons (eVar 2) aNil)))))
    (sIfX (nrT (tOf (eOp (isNB true) (eVar 3) (eC .non)))) (sRaise1 "NoRing" "number" (eVar 3)) sNil))))
def x_Ring___init__ : FM := funX 2 2 ((sSeq (sX (sExpr (eCall x_look_at_row (nrA (aCons (eVar 1) (aCons (eC (.int 48)) (aCons (eC (.glob "is_ring_mark")) aNil)))))))
    (nrS (sFldM "Ring" "own_marks" (eVar 0) (eCall sortE (aCons (eVar 1) aNil))))))
def x_place_of : FM := funX 3 1 ((sSeq (sX (sExpr (eCall x_look_at_key (nrA (aCons (eVar 0) aNil)))))
    (sSeq (nrS (sSet 1 (eC (.int 0))))
    (sSeq (nrS (sFor (iStrM (eVar 0)) (gN 2) (sSet 1 (eOp modM (eOp addM (eOp subM (eOp addM (eOp mulM (eC (.int 5)) (eVar 1)) (eCall ordM (aCons (eVar 2) aNil))) (eCall ordM (aCons (eC (.str "a")) aNil))) (eC (.int 1))) (eC (.int 64))))))
    (nrS (sRet (eVar 1)))))))
def x_Ring_order : FM := funX 7 2 ((sSeq (sX (sSet 2 (eCall x_place_of (nrA (aCons (eVar 1) aNil)))))
    (sSeq (nrS (sSet 3 (eLc (iSeqM (eFld "Ring" "own_marks" (eVar 0))) [5, 6] (gT 2 (gsCons (gN 5) (gsCons (gN 6) gsNil))) (tOf (eOp geI (eVar 5) (eVar 2))) (eVar 6))))
    (sSeq (nrS (sSet 4 (eLc (iSeqM (eFld "Ring" "own_marks" (eVar 0))) [5, 6] (gT 2 (gsCons (gN 5) (gsCons (gN 6) gsNil))) (tOf (eOp ltI (eVar 5) (eVar 2))) (eVar 6))))
    (nrS (sRet (eCall listOf (aCons (eDc (iSeqM (eOp addM (eVar 3) (eVar 4))) [6] (gN 6) tYesM (eVar 6) (eC (.bl true))) aNil))))))))
def x_Ring_homes : FM := funX 3 3 ((sX (sRet (eSlX (eMeth "Ring" "order" x_Ring_order (nrE (eVar 0)) (nrA (aCons (eVar 1) aNil))) (oSome (eVar 2))))))
def x_Ring_with_house : FM := funX 4 3 ((sSeq (sIfX (nrT (tOrM (tNotM (tTru (eCall m_is_word (aCons (eVar 1) aNil)))) (tOf (eOp (inM false) (eVar 1) (eMeth "Ring" "houses" m_Ring_houses (eVar 0) aNil))))) (sRaise1 "NoHouse" "house" (eVar 1)) sNil)
    (sSeq (sX (sExpr (eCall x_look_at_row (nrA (aCons (eVar 2) (aCons (eOp subM (eC (.int 48)) (eCall lenM (aCons (eFld "Ring" "own_marks" (eVar 0)) aNil))) (aCons (eC (.glob "is_place")) aNil)))))))
    (sX (sRet (eCall (mkC "Ring" x_Ring___init__) (nrA (aCons (eOp addM (eFld "Ring" "own_marks" (eVar 0)) (eLc (iSeqM (eVar 2)) [3] (gN 3) tYesM (eTup (aCons (eVar 3) (aCons (eVar 1) aNil))))) aNil))))))))
def x_Ring_without : FM := funX 3 2 ((sSeq (sIfX (nrT (tOrM (tNotM (tTru (eCall m_is_word (aCons (eVar 1) aNil)))) (tOf (eOp (inM true) (eVar 1) (eMeth "Ring" "houses" m_Ring_houses (eVar 0) aNil))))) (sRaise1 "NoHouse" "house" (eVar 1)) sNil)
    (sX (sRet (eCall (mkC "Ring" x_Ring___init__) (nrA (aCons (eLc (iSeqM (eFld "Ring" "own_marks" (eVar 0))) [2] (gN 2) (tOf (eOp (eqB true) (eOp ixM (eVar 2) (eC (.int 1))) (eVar 1))) (eVar 2)) aNil)))))))
end GP

set_option maxRecDepth 100000
set_option maxHeartbeats 4000000

namespace MM
open PySem PySem.Spec PyProof.Rows L2
def dtM (src : Src) (vs : List Nat) (g : GM) (ek ev : EM) (ρ : Env) : Nat → Nat → List (List Key × Wv) → M (List (List Key × Wv))
  | 0, _, _ => M.no
  | n + 1, k, acc => fun h => match src.at_ k h with
    | none => .no
    | some none => .ok acc h
    | some (some w) => ((g w (wipeM ρ vs)).bind fun ρ1 => (ek ρ1).bind fun y => (ev ρ1).bind fun z => fun h => match tkOf y with
          | some q => if acc.length < sizeLine then dtM src vs g ek ev ρ n (k + 1) (putKW acc q z) h else .no
          | none => .no) h
def eDcT (i : IM) (vs : List Nat) (g : GM) (ek ev : EM) : EM := fun ρ => (i ρ).bind fun src => (dtM src vs g ek ev ρ (src.cnt + 1) 0 []).bind fun kvs => lay (.dt kvs)

def dt2in (src : Src) (vs : List Nat) (g : GM) (ek ev : EM) (ρ : Env) : Nat → Nat → List (List Key × Wv) → M (List (List Key × Wv)) := dtM src vs g ek ev ρ
def dt2out (src : Src) (vs : List Nat) (g : GM) (i1 : IM) (vs1 : List Nat) (g1 : GM) (ek ev : EM) (ρ : Env) : Nat → Nat → List (List Key × Wv) → M (List (List Key × Wv))
  | 0, _, _ => M.no
  | n + 1, k, acc => fun h => match src.at_ k h with
    | none => .no
    | some none => .ok acc h
    | some (some w) => ((g w (wipeM ρ vs)).bind fun ρ1 => (i1 ρ1).bind fun src1 => (dtM src1 vs1 g1 ek ev ρ1 (src1.cnt + 1) 0 acc).bind fun acc' => dt2out src vs g i1 vs1 g1 ek ev ρ n (k + 1) acc') h
def eDc2 (i : IM) (vs : List Nat) (g : GM) (i1 : IM) (vs1 : List Nat) (g1 : GM) (ek ev : EM) : EM := fun ρ => (i ρ).bind fun src => (dt2out src vs g i1 vs1 g1 ek ev ρ (src.cnt + 1) 0 []).bind fun kvs => lay (.dt kvs)
end MM

set_option maxRecDepth 100000
set_option maxHeartbeats 4000000

namespace MM
open PySem PySem.Spec PyProof.Rows L2
def lc2in (src : Src) (vs : List Nat) (g : GM) (t : TM) (e : EM) (ρ : Env) : Nat → Nat → List Wv → M (List Wv) := lcM src vs g t e ρ
def lc2out (src : Src) (vs : List Nat) (g : GM) (t : TM) (i1 : IM) (vs1 : List Nat) (g1 : GM) (t1 : TM) (e : EM) (ρ : Env) : Nat → Nat → List Wv → M (List Wv)
  | 0, _, _ => M.no
  | n + 1, k, acc => fun h => match src.at_ k h with
    | none => .no
    | some none => .ok acc h
    | some (some w) => ((g w (wipeM ρ vs)).bind fun ρ1 => (t ρ1).bind fun b => if b = true then (i1 ρ1).bind fun src1 => (lcM src1 vs1 g1 t1 e ρ1 (src1.cnt + 1) 0 acc).bind fun acc' => lc2out src vs g t i1 vs1 g1 t1 e ρ n (k + 1) acc'
        else lc2out src vs g t i1 vs1 g1 t1 e ρ n (k + 1) acc) h
def eLc2 (i : IM) (vs : List Nat) (g : GM) (t : TM) (i1 : IM) (vs1 : List Nat) (g1 : GM) (t1 : TM) (e : EM) : EM := fun ρ => (i ρ).bind fun src => (lc2out src vs g t i1 vs1 g1 t1 e ρ (src.cnt + 1) 0 []).bind fun ws => lay (.lst ws)
section
variable {X : Cx} {elt tg iter tg1 iter1 : Expr} {ifs ifs1 : List Expr} {scope : Scope} {own : List (PySem.Str × Nat)} {pos : Pos} {mi mi1 : IM} {sl sl1 : List Nat} {g g1 : GM} {t t1 : TM} {m : EM}
end

def dtKeys (h : Hm) : Wv → Option (List DK)
  | .obj i => match h[i]? with
    | some (.dt kvs) => some (kvs.map (·.1))
    | _ => none
  | _ => none
def sortDt : FM := fun ws h => match ws with
  | [w] => match dtKeys h w with
    | some ks => if ks.all d3B = true ∧ ks.length ≤ 1000 ∧ ks.Nodup then lay (.lst ((sortK ks).map tupK)) h else .no
    | none => .no
  | _ => .no

end MM

set_option maxRecDepth 100000
set_option maxHeartbeats 4000000

namespace MM
open PySem PySem.Spec PyProof.Rows L2
def CstV (dvs : List V) (ds : List Wv) : Prop := ∀ c μ H, Rps c μ H dvs ds
def dflt (ds : List Wv) (m : FM) : FM := fun ws => m (ws ++ ds)
structure DfD (P : Program) (w : World) (K : PySem.W.Frag) (mg : PySem.Str → Option Value) (base : Heap) (k : Nat) (x : PySem.Str) (j : Nat) (m : FM) (ds : List Wv) : Prop where
  ex : ∃ (f : Addr) (fd : FuncData) (ps : List PySem.Str) (dvs : List V) (us : List Value), mg x = some (.ref f) ∧ PySem.W.keepIn K (.ref f) = true ∧ Vals dvs us ∧ Binds K fd ps us ∧ CstV dvs ds ∧ FnOk P w K mg base CX0 k f fd ps (spF ⟨P, w, K, mg⟩ j m)
structure DfXD (P : Program) (w : World) (K : PySem.W.Frag) (mg : PySem.Str → Option Value) (base : Heap) (k : Nat) (x : PySem.Str) (j : Nat) (m : FM) (ds : List Wv) : Prop where
  ex : ∃ (f : Addr) (fd : FuncData) (ps : List PySem.Str) (dvs : List V) (us : List Value), mg x = some (.ref f) ∧ PySem.W.keepIn K (.ref f) = true ∧ Vals dvs us ∧ Binds K fd ps us ∧ CstV dvs ds ∧ FnOk P w K mg base (L2.CX P w) k f fd ps (spX ⟨P, w, K, mg⟩ j m)
section
variable {X : Cx} {W : WX}

abbrev MKw (X : Cx) (kws : List Keyword) (m : AM) : Prop := PK X kws (mA (cfg X) m)
theorem PK.imp {kws : List Keyword} {t t' : TA} (p : PK X kws t) (f : ∀ σ H Q, t' σ H Q → t σ H Q) : PK X kws t' := ⟨fun pos pins s σ H Q I h => p.run pos pins s σ H Q I (f σ H Q h)⟩
def appV {α : Type} (a b : List α) : List α := a ++ b
structure DfK (P : Program) (w : World) (K : PySem.W.Frag) (mg : PySem.Str → Option Value) (base : Heap) (k : Nat) (x : PySem.Str) (n : Nat) (ks : List PySem.Str) (j : Nat) (m : FM) : Prop where
  ex : ∃ (f : Addr) (fd : FuncData) (ps : List PySem.Str), mg x = some (.ref f) ∧ PySem.W.keepIn K (.ref f) = true ∧ KBn K fd ps n ks appV appV ∧ FnOk P w K mg base CX0 k f fd ps (spF ⟨P, w, K, mg⟩ j m)
def eCallK (n k : Nat) (m : FM) (a b : AM) : EM := fun ρ => (a ρ).bind fun ws => (b ρ).bind fun zs => if ws.length = n ∧ zs.length = k then m (ws ++ zs) else M.no
end

section
variable {P : Program} {w : World} {K : PySem.W.Frag} {mg : PySem.Str → Option Value} {base : Heap} {x qual : PySem.Str} {st : Stmt} {f : Addr} {fd : FuncData} {dvs : List V} {kws : List (PySem.Str × V)}
abbrev FunS (K : PySem.W.Frag) (x qual : PySem.Str) (st : Stmt) (dvs : List V) (kws : List (PySem.Str × V)) (f : Addr) (fd : FuncData) : Prop := FunD K x qual (defArgs st) (defBody st) (defScope st) dvs kws f fd
theorem FunS.okM {N ps : List PySem.Str} {k : Nat} {n j : Nat} {b : SM} (F : FunS K x qual st dvs kws f fd) (S : FnScope N ps (defScope st)) (hn : N.length = n) (hj : ps.length = j)
    (body : ∀ (cdv : Value) (A : Around) (outer : List PySem.Env) (s : Shared) (H : Hp) (E : XK), Room k (A.deeper (envOfC qual (defScope st) s.heap.objs.size f cdv)) → MSs (cxOf CX0 P w K mg base N qual (defScope st) f cdv A outer s H E).nox (defBody st) b) :
    FnOk P w K mg base CX0 (k + 1) f fd ps (spF ⟨P, w, K, mg⟩ j (fun_ n j b)) := by
  refine FunD.ok F S (fun vs H Q E h => by rw [hj]; exact spF_len h) fun cdv A outer s H vs Q E hr h => ⟨_, (body cdv A outer s H E hr).nox, ?_⟩
  obtain ⟨μ, h, ws, u, h', R, p, l, e, nx⟩ := h
  unfold fun_ at e
  rw [if_pos l] at e
  obtain ⟨⟨fl, ρ'⟩, h1, e1, e⟩ := bind_ok e
  subst hn
  refine ⟨μ, _, h, fl, ρ', h1, at_start R p, e1, fun μ1 σ1 H1 g1 A1 => ?_⟩
  cases fl with
  | nx => cases e; exact nx μ1 _ H1 g1 A1.rel .non
  | ret w => cases e; exact fun v pv => nx μ1 v H1 g1 A1.rel pv
  | bk => cases e
  | ct => cases e
  | xc x => cases e
theorem FunS.okX {N ps : List PySem.Str} {k : Nat} {n j : Nat} {b : SM} (F : FunS K x qual st dvs kws f fd) (S : FnScope N ps (defScope st)) (hn : N.length = n) (hj : ps.length = j)
    (body : ∀ (cdv : Value) (A : Around) (outer : List PySem.Env) (s : Shared) (H : Hp) (E : XK), Room k (A.deeper (envOfC qual (defScope st) s.heap.objs.size f cdv)) → Takes (cxOf (L2.CX P w) P w K mg base N qual (defScope st) f cdv A outer s H E) (fun cls d _ H => E cls d H) →
      PassesOwn (model P w) (cxOf (L2.CX P w) P w K mg base N qual (defScope st) f cdv A outer s H E).A (cxOf (L2.CX P w) P w K mg base N qual (defScope st) f cdv A outer s H E).env (cxOf (L2.CX P w) P w K mg base N qual (defScope st) f cdv A outer s H E).xe →
      CSs (cxOf (L2.CX P w) P w K mg base N qual (defScope st) f cdv A outer s H E) (fun cls d _ H => E cls d H) (defBody st) b) :
    FnOk P w K mg base (L2.CX P w) (k + 1) f fd ps (spX ⟨P, w, K, mg⟩ j (funX n j b)) := by
  obtain ⟨oc, od, dV, kV, doc, pm, an, cdv, ct, osl, rfl, lk, hcd, _, _⟩ := F.ex
  refine fn_of lk hcd S (fun vs H Q E h => ?_) fun A outer s H vs Q E hr h => ⟨_, body cdv A outer s H E hr (takes_of rfl rfl rfl rfl) (passes_of rfl), ?_⟩
  · obtain ⟨μ, h, ws, R, p, l, _⟩ := h
    rw [hj, p.length]; exact l
  · obtain ⟨μ, h, ws, R, p, l, z⟩ := h
    unfold wpB funX at z
    rw [if_pos l] at z
    subst hn
    cases q : b (startM N.length ws) h with
    | no => rw [q] at z; exact z.elim
    | ex x h1 => rw [q] at z; exact z.elim
    | ok r h1 =>
      obtain ⟨fl, ρ'⟩ := r
      rw [q] at z
      refine ⟨μ, _, h, fl, ρ', h1, at_start R p, q, fun μ1 σ1 H1 g1 A1 => ?_⟩
      cases fl with
      | nx => exact z μ1 _ H1 g1 A1.rel .non
      | ret w => exact fun v pv => z μ1 v H1 g1 A1.rel pv
      | bk => exact z.elim
      | ct => exact z.elim
      | xc x => exact fun cls d r => z μ1 H1 cls d g1 A1.rel r
end
end MM
namespace MM
open PySem PySem.Spec PyProof.Rows L2

def nrM (m : FM) : FM := fun ws => nr (m ws)
end MM

set_option maxRecDepth 100000
set_option maxHeartbeats 4000000

namespace MM
open PySem PySem.Spec PyProof.Rows L2
def verKeyW : Wv → Option DK
  | .tup (w :: _) => tkOf w
  | _ => none
def isKeyW (k : DK) (u : Wv) : Bool := match verKeyW u with
  | some j => decide (j = k)
  | none => false
def sortedV (us : List Wv) (ks : List DK) : List Wv := (sortK ks).map fun k => (us.find? (isKeyW k)).getD .non
def sortVM : FM := fun ws h => match ws with
  | [.obj i] => match rdL h i with
    | some us => match us.mapM verKeyW with
      | some ks => if ks.all d3B = true ∧ ks.length ≤ 1000 ∧ ks.Nodup then lay (.lst (sortedV us ks)) h else .no
      | none => .no
    | none => .no
  | _ => .no
structure VT where
  a : Addr
  u : Wv
  k : DK

def slS (w : Wv) (lo hi : Option Int) : M Wv := match w with
  | .scr ns => lay (.lst ((cutW ns lo hi).map Wv.int))
  | _ => M.no
def eSlS (e : EM) (l u : OM) : EM := fun ρ => (e ρ).bind fun w => (l ρ).bind fun lo => (u ρ).bind fun hi => slS w lo hi

def eRevT (e : EM) : EM := fun ρ => (e ρ).bind fun w => match w with
  | .tup ws => M.pure (.tup ws.reverse)
  | _ => M.no
end MM

set_option maxRecDepth 100000
set_option maxHeartbeats 4000000
namespace GP
open PySem PySem.Spec PyProof.Rows L2 K01 MM
def m__law_hand : FM := fun_ 4 2 ((sSeq (sSet 2 (eOp ixM (eOp addM (eSlS (eVar 0) (oSome (eVar 1)) (oSome (eOp addM (eVar 1) (eC (.int 1))))) (eLst (aCons (eC (.int 0)) aNil))) (eC (.int 0))))
    (sSeq (sSet 3 (eOp modM (eOp mulM (eOp addM (eOp addM (eOp modM (eVar 2) (eC (.int 2147483647))) (eOp mulM (eC (.int 7919)) (eVar 1))) (eC (.int 1))) (eC (.int 48271))) (eC (.int 2147483629))))
    (sRet (eLst (aCons (eOp mulM (eCall intOf (aCons (eOp geI (eVar 2) (eOp powM (eC (.int 10)) (eC (.int 18)))) aNil)) (eVar 2)) (aCons (eVar 3) aNil)))))))
def m__law_draw : FM := fun_ 3 2 ((sSeq (sIf (tOf (eOp gtI (eOp ixM (eVar 0) (eC (.int 0))) (eC (.int 0)))) (sSeq (sSet 2 (eOp modM (eOp ixM (eVar 0) (eC (.int 0))) (eVar 1)))
    (sSeq (sAsg (eOp fdivM (eOp ixM (eVar 0) (eC (.int 0))) (eVar 1)) (gIx (eVar 0) (eC (.int 0))))
    (sRet (eVar 2)))) sNil)
    (sSeq (sAsg (eOp modM (eOp addM (eOp mulM (eOp ixM (eVar 0) (eC (.int 1))) (eC (.int 48271))) (eC (.int 11))) (eC (.int 2147483647))) (gIx (eVar 0) (eC (.int 1))))
    (sRet (eOp modM (eOp fdivM (eOp modM (eOp mulM (eOp ixM (eVar 0) (eC (.int 1))) (eOp ixM (eVar 0) (eC (.int 1)))) (eC (.int 2147483629))) (eC (.int 64))) (eVar 1))))))
def m__law_dot : FM := fun_ 1 1 ((sRet (eTup (aCons (eOp addM (eC (.int 1)) (eCall m__law_draw (aCons (eVar 0) (aCons (eC (.int 5)) aNil)))) (aCons (eOp ixM (eC (.str "abc")) (eCall m__law_draw (aCons (eVar 0) (aCons (eC (.int 3)) aNil)))) (aCons (eOp addM (eC (.int 1)) (eCall m__law_draw (aCons (eVar 0) (aCons (eC (.int 2)) aNil)))) aNil))))))
def m__law_known : FM := fun_ 3 2 ((sRet (eCall tupOf (aCons (eCall sortSd (aCons (eCall setM (aCons (eLc (iArgs rng1 (aCons (eCall m__law_draw (aCons (eVar 0) (aCons (eOp addM (eVar 1) (eC (.int 1))) aNil))) aNil)) [2] (gN 2) tYesM (eCall m__law_dot (aCons (eVar 0) aNil))) aNil)) aNil)) aNil))))
def m__law_versions : FM := fun_ 7 2 ((sSeq (sSet 2 eDnewT)
    (sSeq (sFor (iArgs rng1 (aCons (eCall m__law_draw (aCons (eVar 0) (aCons (eOp addM (eVar 1) (eC (.int 1))) aNil))) aNil)) (gN 3) (sSeq (sSet 4 (eCall m__law_dot (aCons (eVar 0) aNil)))
    (sSeq (sSet 5 (eCall tupOf (aCons (eLc (iSeqM (eCall m__law_known (aCons (eVar 0) (aCons (eC (.int 4)) aNil)))) [6] (gN 6) (tOf (eOp ltI (eOp ixM (eVar 6) (eC (.int 0))) (eOp ixM (eVar 4) (eC (.int 0))))) (eVar 6)) aNil)))
    (sDput (eVar 2) (eVar 4) (eTup (aCons (eVar 4) (aCons (eVar 5) (aCons (eOp ixM (eLst (aCons (eC (.int 3)) (aCons (eNeg (eC (.int 1))) (aCons (eC (.int 0)) (aCons (eTup (aCons (eC (.str "gone")) (aCons (eC (.int 2)) aNil))) (aCons (eTup (aCons (eC (.str "gone")) (aCons (eC (.int 7)) aNil))) aNil)))))) (eCall m__law_draw (aCons (eVar 0) (aCons (eC (.int 5)) aNil)))) aNil))))))))
    (sRet (eVar 2)))))
def m__law_live : FM := fun_ 4 1 ((sSeq (sSet 1 (eLst aNil))
    (sSeq (sFor (iSeqM (eVar 0)) (gN 2) (sIf (tOf (eOp (eqB false) (eLc (iSeqM (eVar 0)) [3] (gN 3) (tOf (eOp (inM false) (eOp ixM (eVar 2) (eC (.int 0))) (eOp ixM (eVar 3) (eC (.int 1))))) (eVar 3)) (eLst aNil))) (sExpr (eBm isLst appM (eVar 1) (aCons (eVar 2) aNil))) sNil))
    (sRet (eCall tupOf (aCons (eCall sortVM (aCons (eVar 1) aNil)) aNil))))))
def m_all_known : FM := fun_ 3 1 ((sRet (eDc2 (iSeqM (eVar 0)) [1, 2] (gN 1) (iSeqM (eOp ixM (eVar 1) (eC (.int 1)))) [2] (gN 2) (eVar 2) (eC (.bl true)))))
def m_is_mark : FM := fun_ 3 1 ((sSeq (sIf (tOrM (tNotM (tTru (eCall (isiM .tup) (aCons (eVar 0) (aCons (eC (.raw (.ty "tuple"))) aNil))))) (tOf (eOp (eqB true) (eCall lenM (aCons (eVar 0) aNil)) (eC (.int 2))))) (sRet (eC (.bl false))) sNil)
    (sSeq (sAsg (eVar 0) (gT 2 (gsCons (gN 1) (gsCons (gN 2) gsNil))))
    (sSeq (sIf (tOrM (tNotM (tTru (eCall (isiM .str) (aCons (eVar 1) (aCons (eC (.raw (.ty "str"))) aNil))))) (tNotM (tTru (eCall m_is_whole (aCons (eVar 2) aNil))))) (sRet (eC (.bl false))) sNil)
    (sRet (eAnd (eOp (eqB false) (eVar 1) (eC (.str "gone"))) (eOp geI (eVar 2) (eC (.int 0)))))))))
def m_is_worth : FM := fun_ 1 1 ((sSeq (sIf (tTru (eCall m_is_whole (aCons (eVar 0) aNil))) (sRet (eCh leI leI (eNeg (eC (.int 1000000000))) (eVar 0) (eC (.int 1000000000)))) sNil)
    (sRet (eCall m_is_mark (aCons (eVar 0) aNil)))))
def m_is_version : FM := fun_ 4 1 ((sSeq (sIf (tOrM (tNotM (tTru (eCall (isiM .tup) (aCons (eVar 0) (aCons (eC (.raw (.ty "tuple"))) aNil))))) (tOf (eOp (eqB true) (eCall lenM (aCons (eVar 0) aNil)) (eC (.int 3))))) (sRet (eC (.bl false))) sNil)
    (sSeq (sAsg (eVar 0) (gT 3 (gsCons (gN 1) (gsCons (gN 2) (gsCons (gN 3) gsNil)))))
    (sSeq (sIf (tOrM (tNotM (tTru (eCall m_is_dot (aCons (eVar 1) aNil)))) (tOrM (tNotM (tTru (eCall m_is_known (aCons (eVar 2) aNil)))) (tNotM (tTru (eCall m_is_worth (aCons (eVar 3) aNil)))))) (sRet (eC (.bl false))) sNil)
    (sRet (eOp (inM true) (eVar 1) (eVar 2)))))))
def m_is_cell : FM := fun_ 5 1 ((sSeq (sIf (tOrM (tNotM (tTru (eCall (isiM .tup) (aCons (eVar 0) (aCons (eC (.raw (.ty "tuple"))) aNil))))) (tNotM (tTru (eCall allM (aCons (eLc (iSeqM (eVar 0)) [3] (gN 3) tYesM (eCall m_is_version (aCons (eVar 3) aNil))) aNil))))) (sRet (eC (.bl false))) sNil)
    (sSeq (sSet 1 (eLc (iSeqM (eVar 0)) [3] (gN 3) tYesM (eOp ixM (eVar 3) (eC (.int 0)))))
    (sSeq (sSet 2 (eCall m_all_known (aCons (eVar 0) aNil)))
    (sRet (eAnd (eCall m_rises (aCons (eVar 1) aNil)) (eNot (eCall anyM (aCons (eLc (iSeqM (eVar 1)) [4] (gN 4) tYesM (eOp (dinM false) (eVar 4) (eVar 2))) aNil)))))))))
def m_cut : FM := fun_ 2 2 ((sSeq (sIf (tOf (eOp (isNB false) (eVar 1) (eC .non))) (sRet (eVar 0)) sNil)
    (sRet (eSl (eVar 0) (oSome (eCall max2 (aCons (eC (.int 0)) (aCons (eOp subM (eCall lenM (aCons (eVar 0) aNil)) (eVar 1)) aNil)))) oNone))))
def x_new_version : FM := funX 4 4 ((sSeq (sIfX (nrT (tNotM (tTru (eCall m_is_version (aCons (eTup (aCons (eVar 0) (aCons (eVar 1) (aCons (eVar 2) aNil)))) aNil))))) (sRaise0 "NoVersion") sNil)
    (nrS (sRet (eTup (aCons (eVar 0) (aCons (eCall m_cut (aCons (eVar 1) (aCons (eVar 3) aNil))) (aCons (eVar 2) aNil))))))))
def x_look_at_cell : FM := funX 1 1 ((sIfX (nrT (tNotM (tTru (eCall m_is_cell (aCons (eVar 0) aNil))))) (sRaise0 "NoCell") sNil))
def x_joined : FM := funX 7 1 ((sSeq (sIfX (nrT (tNotM (tTru (eCall (isi2M .lst .tup) (aCons (eVar 0) (aCons (eTup (aCons (eC (.raw (.ty "list"))) (aCons (eC (.raw (.ty "tuple"))) aNil))) aNil)))))) (sRaise0 "NoCell") sNil)
    (sSeq (sFor (iSeqM (eVar 0)) (gN 1) (sX (sExpr (eCall x_look_at_cell (nrA (aCons (eVar 1) aNil))))))
    (sSeq (nrS (sSet 2 (eLc2 (iSeqM (eVar 0)) [1, 5] (gN 1) tYesM (iSeqM (eVar 1)) [5] (gN 5) tYesM (eVar 5))))
    (sSeq (nrS (sSet 3 (eDcT (iSeqM (eVar 2)) [5] (gN 5) (eOp ixM (eVar 5) (eC (.int 0))) (eVar 5))))
    (sSeq (nrS (sSet 4 (eCall m_all_known (aCons (eVar 2) aNil))))
    (nrS (sRet (eCall tupOf (aCons (eLc (iSeqM (eCall sortDt (aCons (eVar 3) aNil))) [6] (gN 6) (tOf (eOp (dinM true) (eVar 6) (eVar 4))) (eOp dgetM (eVar 3) (eVar 6))) aNil))))))))))
def x_dots_of : FM := funX 2 1 ((sSeq (sX (sExpr (eCall x_look_at_cell (nrA (aCons (eVar 0) aNil)))))
    (nrS (sRet (eCall tupOf (aCons (eLc (iSeqM (eVar 0)) [1] (gN 1) tYesM (eOp ixM (eVar 1) (eC (.int 0)))) aNil))))))
def x_known_by : FM := funX 2 1 ((sX (sRet (eCall (nrM m_together) (aCons (eOp (nrF addM) (eLst (aCons (eCall x_dots_of (nrA (aCons (eVar 0) aNil))) (nrA aNil))) (nrE (eLc (iSeqM (eVar 0)) [1] (gN 1) tYesM (eOp ixM (eVar 1) (eC (.int 1)))))) (nrA aNil))))))
def x_worths_of : FM := funX 2 1 ((sSeq (sX (sExpr (eCall x_look_at_cell (nrA (aCons (eVar 0) aNil)))))
    (nrS (sRet (eLc (iSeqM (eVar 0)) [1] (gN 1) (tNotM (tTru (eCall m_is_mark (aCons (eOp ixM (eVar 1) (eC (.int 2))) aNil)))) (eOp ixM (eVar 1) (eC (.int 2))))))))
def m_is_elder : FM := fun_ 2 2 ((sRet (eAnd (eCall m_is_mark (aCons (eVar 0) aNil)) (eOp leI (eOp ixM (eVar 0) (eC (.int 1))) (eVar 1)))))
def x_without_elder : FM := funX 3 2 ((sSeq (sX (sExpr (eCall x_look_at_cell (nrA (aCons (eVar 0) aNil)))))
    (nrS (sRet (eCall tupOf (aCons (eLc (iSeqM (eVar 0)) [2] (gN 2) (tNotM (tTru (eCall m_is_elder (aCons (eOp ixM (eVar 2) (eC (.int 2))) (aCons (eVar 1) aNil))))) (eVar 2)) aNil))))))
def x_has_or_more : FM := funX 4 2 ((sSeq (sX (sSet 2 (eCall x_known_by (nrA (aCons (eVar 0) aNil)))))
    (nrS (sRet (eCall allM (aCons (eLc (iSeqM (eVar 1)) [3] (gN 3) tYesM (eOp (inM false) (eVar 3) (eVar 2))) aNil))))))
def m_new_version : FM := fun_ 4 4 ((sSeq (sIf (tNotM (tTru (eCall m_is_version (aCons (eTup (aCons (eVar 0) (aCons (eVar 1) (aCons (eVar 2) aNil)))) aNil)))) sNo sNil)
    (sRet (eTup (aCons (eVar 0) (aCons (eCall m_cut (aCons (eVar 1) (aCons (eVar 3) aNil))) (aCons (eVar 2) aNil)))))))
def m_puts_out : FM := fun_ 2 2 ((sRet (eOp (inM false) (eOp ixM (eVar 1) (eC (.int 0))) (eOp ixM (eVar 0) (eC (.int 1))))))
end GP

set_option maxRecDepth 100000
set_option maxHeartbeats 4000000

namespace MM
open PySem PySem.Spec PyProof.Rows L2
def signsV (x : PySem.Str) : List V := x.cps.toList.map fun c => V.str ⟨#[c]⟩
def signsW (x : PySem.Str) : List Wv := x.cps.toList.map fun c => Wv.str ⟨#[c]⟩
def rListS : List V → Hp → VK → Prop := fun xs H Q => ∃ x : PySem.Str, xs = [.str x] ∧ x.cps.size ≤ sizeLine ∧ ∀ p, H p = none → Q (.ref p) (upd H p (.lst (signsV x)))
def listS : FM := fun ws h => match ws with
  | [.str x] => if x.length ≤ sizeLine then lay (.lst (signsW x)) h else .no
  | _ => .no
end MM

set_option maxRecDepth 100000
set_option maxHeartbeats 4000000
namespace GP
open PySem PySem.Spec PyProof.Rows L2 K01 MM
def m_look_at_cell : FM := fun_ 1 1 ((sIf (tNotM (tTru (eCall m_is_cell (aCons (eVar 0) aNil)))) sNo sNil))
def m_dots_of : FM := fun_ 2 1 ((sSeq (sExpr (eCall m_look_at_cell (aCons (eVar 0) aNil)))
    (sRet (eCall tupOf (aCons (eLc (iSeqM (eVar 0)) [1] (gN 1) tYesM (eOp ixM (eVar 1) (eC (.int 0)))) aNil)))))
def m_known_by : FM := fun_ 2 1 ((sRet (eCall m_together (aCons (eOp addM (eLst (aCons (eCall m_dots_of (aCons (eVar 0) aNil)) aNil)) (eLc (iSeqM (eVar 0)) [1] (gN 1) tYesM (eOp ixM (eVar 1) (eC (.int 1))))) aNil))))
def m_joined : FM := fun_ 7 1 ((sSeq (sIf (tNotM (tTru (eCall (isi2M .lst .tup) (aCons (eVar 0) (aCons (eTup (aCons (eC (.raw (.ty "list"))) (aCons (eC (.raw (.ty "tuple"))) aNil))) aNil))))) sNo sNil)
    (sSeq (sFor (iSeqM (eVar 0)) (gN 1) (sExpr (eCall m_look_at_cell (aCons (eVar 1) aNil))))
    (sSeq (sSet 2 (eLc2 (iSeqM (eVar 0)) [1, 5] (gN 1) tYesM (iSeqM (eVar 1)) [5] (gN 5) tYesM (eVar 5)))
    (sSeq (sSet 3 (eDcT (iSeqM (eVar 2)) [5] (gN 5) (eOp ixM (eVar 5) (eC (.int 0))) (eVar 5)))
    (sSeq (sSet 4 (eCall m_all_known (aCons (eVar 2) aNil)))
    (sRet (eCall tupOf (aCons (eLc (iSeqM (eCall sortDt (aCons (eVar 3) aNil))) [6] (gN 6) (tOf (eOp (dinM true) (eVar 6) (eVar 4))) (eOp dgetM (eVar 3) (eVar 6))) aNil)))))))))
def m_Reading___init__ : FM := fun_ 4 4 ((sSeq (sFldM "Reading" "own_word" (eVar 0) (eVar 1))
    (sSeq (sFldM "Reading" "own_targets" (eVar 0) (eCall listOf (aCons (eVar 2) aNil)))
    (sSeq (sFldM "Reading" "own_need" (eVar 0) (eVar 3))
    (sSeq (sFldM "Reading" "own_answers" (eVar 0) eDnewK)
    (sSeq (sFldM "Reading" "own_joined" (eVar 0) (eTup aNil))
    (sFldM "Reading" "own_telling" (eVar 0) (eC .non))))))))
def m_worths_of : FM := fun_ 2 1 ((sSeq (sExpr (eCall m_look_at_cell (aCons (eVar 0) aNil)))
    (sRet (eLc (iSeqM (eVar 0)) [1] (gN 1) (tNotM (tTru (eCall m_is_mark (aCons (eOp ixM (eVar 1) (eC (.int 2))) aNil)))) (eOp ixM (eVar 1) (eC (.int 2)))))))
def m_Reading_unlike_ones : FM := fun_ 4 2 ((sSeq (sSet 2 (eCall dictP (aCons (eFld "Reading" "own_targets" (eVar 0)) aNil)))
    (sRet (eLc (iSeqM (eVar 1)) [3] (gN 3) (tOf (eOp (eqB true) (eOp dgetM (eFld "Reading" "own_answers" (eVar 0)) (eVar 3)) (eFld "Reading" "own_joined" (eVar 0)))) (eTup (aCons (eVar 3) (aCons (eOp dgetM (eVar 2) (eVar 3)) aNil)))))))
def m_is_awaited : FM := fun_ 5 3 ((sRet (eAnd (eOp (inM false) (eVar 2) (eLc (iSeqM (eVar 0)) [3, 4] (gT 2 (gsCons (gN 3) (gsCons (gN 4) gsNil))) tYesM (eVar 3))) (eOp (inM true) (eVar 2) (eVar 1)))))
def m_Reading_held : FM := fun_ 1 1 ((sRet (eCall listOf (aCons (eFld "Reading" "own_answers" (eVar 0)) aNil))))
def m_Reading_answered : FM := fun_ 3 3 ((sSeq (sExpr (eCall m_look_at_cell (aCons (eVar 2) aNil)))
    (sSeq (sIf (tNotM (tTru (eCall m_is_awaited (aCons (eFld "Reading" "own_targets" (eVar 0)) (aCons (eMeth "Reading" "held" m_Reading_held (eVar 0) aNil) (aCons (eVar 1) aNil)))))) (sRet (eLst aNil)) sNil)
    (sSeq (sDput (eFld "Reading" "own_answers" (eVar 0)) (eVar 1) (eVar 2))
    (sSeq (sFldM "Reading" "own_joined" (eVar 0) (eCall m_joined (aCons (eLst (aCons (eFld "Reading" "own_joined" (eVar 0)) (aCons (eVar 2) aNil))) aNil)))
    (sSeq (sIf (tOf (eOp ltI (eCall lenM (aCons (eFld "Reading" "own_answers" (eVar 0)) aNil)) (eFld "Reading" "own_need" (eVar 0)))) (sRet (eLst aNil)) sNil)
    (sSeq (sIf (tOf (eOp (isNB true) (eFld "Reading" "own_telling" (eVar 0)) (eC .non))) (sRet (eMeth "Reading" "unlike_ones" m_Reading_unlike_ones (eVar 0) (aCons (eLst (aCons (eVar 1) aNil)) aNil))) sNil)
    (sSeq (sFldM "Reading" "own_telling" (eVar 0) (eTup (aCons (eCall tupOf (aCons (eCall m_worths_of (aCons (eFld "Reading" "own_joined" (eVar 0)) aNil)) aNil)) (aCons (eCall m_known_by (aCons (eFld "Reading" "own_joined" (eVar 0)) aNil)) aNil))))
    (sRet (eMeth "Reading" "unlike_ones" m_Reading_unlike_ones (eVar 0) (aCons (eMeth "Reading" "held" m_Reading_held (eVar 0) aNil) aNil)))))))))))
def x_Reading_answered : FM := funX 3 3 ((sSeq (sX (sExpr (eCall x_look_at_cell (nrA (aCons (eVar 2) aNil)))))
    (sSeq (nrS (sIf (tNotM (tTru (eCall m_is_awaited (aCons (eFld "Reading" "own_targets" (eVar 0)) (aCons (eMeth "Reading" "held" m_Reading_held (eVar 0) aNil) (aCons (eVar 1) aNil)))))) (sRet (eLst aNil)) sNil))
    (sSeq (nrS (sDput (eFld "Reading" "own_answers" (eVar 0)) (eVar 1) (eVar 2)))
    (sSeq (nrS (sFldM "Reading" "own_joined" (eVar 0) (eCall m_joined (aCons (eLst (aCons (eFld "Reading" "own_joined" (eVar 0)) (aCons (eVar 2) aNil))) aNil))))
    (sSeq (nrS (sIf (tOf (eOp ltI (eCall lenM (aCons (eFld "Reading" "own_answers" (eVar 0)) aNil)) (eFld "Reading" "own_need" (eVar 0)))) (sRet (eLst aNil)) sNil))
    (sSeq (nrS (sIf (tOf (eOp (isNB true) (eFld "Reading" "own_telling" (eVar 0)) (eC .non))) (sRet (eMeth "Reading" "unlike_ones" m_Reading_unlike_ones (eVar 0) (aCons (eLst (aCons (eVar 1) aNil)) aNil))) sNil))
    (sSeq (nrS (sFldM "Reading" "own_telling" (eVar 0) (eTup (aCons (eCall tupOf (aCons (eCall m_worths_of (aCons (eFld "Reading" "own_joined" (eVar 0)) aNil)) aNil)) (aCons (eCall m_known_by (aCons (eFld "Reading" "own_joined" (eVar 0)) aNil)) aNil)))))
    (nrS (sRet (eMeth "Reading" "unlike_ones" m_Reading_unlike_ones (eVar 0) (aCons (eMeth "Reading" "held" m_Reading_held (eVar 0) aNil) aNil))))))))))))
def m_Reading_twin : FM := fun_ 3 1 ((sSeq (sSet 1 (eCall (mkC "Reading" m_Reading___init__) (aCons (eFld "Reading" "own_word" (eVar 0)) (aCons (eFld "Reading" "own_targets" (eVar 0)) (aCons (eFld "Reading" "own_need" (eVar 0)) aNil)))))
    (sSeq (sFldM "Reading" "own_answers" (eVar 1) (eLock (eFld "Reading" "own_answers" (eVar 0)) (eDc (iKeysW (eFld "Reading" "own_answers" (eVar 0))) [2] (gN 2) tYesM (eVar 2) (eOp dgetM (eFld "Reading" "own_answers" (eVar 0)) (eVar 2)))))
    (sSeq (sFldM "Reading" "own_joined" (eVar 1) (eFld "Reading" "own_joined" (eVar 0)))
    (sSeq (sFldM "Reading" "own_telling" (eVar 1) (eFld "Reading" "own_telling" (eVar 0)))
    (sRet (eVar 1)))))))
def m_Reading_targets : FM := fun_ 1 1 ((sRet (eCall listOf (aCons (eFld "Reading" "own_targets" (eVar 0)) aNil))))
def m_Reading_told : FM := fun_ 3 1 ((sSeq (sIf (tOf (eOp (isNB false) (eFld "Reading" "own_telling" (eVar 0)) (eC .non))) (sRet (eC .non)) sNil)
    (sSeq (sAsg (eFld "Reading" "own_telling" (eVar 0)) (gT 2 (gsCons (gN 1) (gsCons (gN 2) gsNil))))
    (sRet (eTup (aCons (eCall listOf (aCons (eVar 1) aNil)) (aCons (eVar 2) aNil)))))))
def m_Reading_word : FM := fun_ 1 1 ((sRet (eFld "Reading" "own_word" (eVar 0))))
def m_Reading_cell : FM := fun_ 1 1 ((sRet (eFld "Reading" "own_joined" (eVar 0))))
def m_Reading_is_told : FM := fun_ 1 1 ((sRet (eOp (isNB true) (eFld "Reading" "own_telling" (eVar 0)) (eC .non))))
end GP

set_option maxRecDepth 100000
set_option maxHeartbeats 4000000

namespace MM
open PySem PySem.Spec PyProof.Rows L2
def intW : Wv → Option Int
  | .int i => some i
  | _ => none
def maxI (n : Int) (ns : List Int) : Int := ns.foldl max n
def maxL : FM := fun ws h => match ws with
  | [.obj i] => match rdL h i with
    | some us => match us.mapM intW with
      | some (n :: ns) => .ok (.int (maxI n ns)) h
      | _ => .no
    | none => .no
  | _ => .no

def augM (g : Int → Int → Int) (u v : Wv) : M Wv := fun h => match u, v with
  | .int i, .int j => .ok (.int (g i j)) h
  | _, _ => .no
def sFldAug (C f : PySem.Str) (g : Int → Int → Int) (o e : EM) : SM := fun ρ => (o ρ).bind fun w => (getF f C w).bind fun u => (e ρ).bind fun v => (augM g u v).bind fun z => (setF C f w z).bind fun _ => M.pure (.nx, ρ)
section
variable {X : Cx}
def rIn (g : Int → Int → Int) : V → V → Hp → VK → Prop := fun x y H Q => ∃ i j, x = .int i ∧ y = .int j ∧ Q (.int (g i j)) H
end
end MM

set_option maxRecDepth 100000
set_option maxHeartbeats 4000000

namespace MM
open PySem PySem.Spec PyProof.Rows L2

def altM {α : Type} (m n : M α) : M α := fun h => match m h with
  | .no => n h
  | r => r
def eAlt (a b : EM) : EM := fun ρ => altM (a ρ) (b ρ)
def sAlt (a b : SM) : SM := fun ρ => altM (a ρ) (b ρ)

def rVals : V → List V → Hp → VK → Prop := fun x vs H Q => ∃ d, x = .ref d ∧ vs = [] ∧ ((∃ kvs, H d = some (.dK kvs)) ∨ ∃ kvs, H d = some (.dT kvs)) ∧ ∀ p, H p = none → Q (.ref p) (upd H p (viewO "dict_values" p d))
def Vals2 (H : Hp) (d : Addr) (vs : List V) : Prop := (∃ kvs : List (Key × V), H d = some (.dK kvs) ∧ vs = kvs.map (·.2)) ∨ ∃ kvs : List (List Key × V), H d = some (.dT kvs) ∧ vs = kvs.map (·.2)
section
variable {X : Cx}
def rListVw : List V → Hp → VK → Prop := fun xs H Q => ∃ (p d : Addr) (vs : List V), xs = [.ref p] ∧ H p = some (viewO "dict_values" p d) ∧ Vals2 H d vs ∧ ∀ l, H l = none → Q (.ref l) (upd H l (.lst vs))
end

def valsM (w : Wv) : M Wv := fun h => match w with
  | .obj i => match h[i]? with
    | some (.dk kvs) => lay (.lst (kvs.map (·.2))) h
    | some (.dt kvs) => lay (.lst (kvs.map (·.2))) h
    | _ => .no
  | _ => .no
def eVals (e : EM) : EM := fun ρ => (e ρ).bind valsM
end MM

set_option maxRecDepth 100000
set_option maxHeartbeats 4000000

namespace MM
open PySem PySem.Spec PyProof.Rows L2
def Del (H : Hp) (a : Addr) (y : V) (H' : Hp) : Prop := (∃ kvs k, H a = some (.dK kvs) ∧ y = kV k ∧ (valV kvs k).isSome = true ∧ H' = upd H a (.dK (dropK kvs k))) ∨
  ∃ (kvs : List (List Key × V)) (k : List Key) (b : Addr), H a = some (.dT kvs) ∧ y = .ref b ∧ H b = some (.tup (k.map kV)) ∧ (valV kvs k).isSome = true ∧ H' = upd H a (.dT (dropK kvs k))
section
variable {X : Cx}
def tDelA (td ty : TE) : TS := fun D σ H => td σ H fun x H1 => ty σ H1 fun y H2 => ∃ a H3, x = .ref a ∧ Del H2 a y H3 ∧ D.nx σ H3
def dCut (d k : Wv) : M Unit := fun h => match d with
  | .obj i => match h[i]? with
    | some (.dk kvs) => match keyOf k with
      | some q => if (valW kvs q).isSome then .ok () (h.set i (.dk (dropKW kvs q))) else .no
      | none => .no
    | some (.dt kvs) => match tkOf k with
      | some q => if (valW kvs q).isSome then .ok () (h.set i (.dt (dropKW kvs q))) else .no
      | none => .no
    | _ => .no
  | _ => .no
def sCut (d k : EM) : SM := fun ρ => (d ρ).bind fun w => (k ρ).bind fun y => (dCut w y).bind fun _ => M.pure (.nx, ρ)
end
end MM

set_option maxRecDepth 100000
set_option maxHeartbeats 4000000

namespace MM
open PySem PySem.Spec PyProof.Rows L2
def tkD (k : List Key) : PyData := .tuple (k.map kyD)
def sortTk (ks : List (List Key)) : List (List Key) := isort (fun a b => !PySem.W.dataLt (tkD b) (tkD a)) ks
section
variable {X : Cx}
def rSortG : List V → Hp → VK → Prop := fun vs H Q => ∃ (d : Addr) (kvs : List (List Key × V)), vs = [V.ref d] ∧ H d = some (.dT kvs) ∧ sortable (kvs.map fun e => tkD e.1) = true ∧ kvs.length ≤ 10000 ∧
  ∀ (L : List MS.Row) (p : Addr), (∀ t ∈ L, H t.1 = some (.tup (t.2.map kV))) → L.map (·.2) = sortTk (kvs.map (·.1)) → H p = none → Q (.ref p) (upd H p (.lst (L.map fun q => V.ref q.1)))
end
def sortGt : FM := fun ws h => match ws with
  | [w] => match dtKeys h w with
    | some ks => if sortable (ks.map tkD) = true ∧ ks.length ≤ 10000 then lay (.lst ((sortTk ks).map tupK)) h else .no
    | none => .no
  | _ => .no

def listDt : FM := fun ws h => match ws with
  | [w] => match dtKeys h w with
    | some ks => lay (.lst (ks.map tupK)) h
    | none => .no
  | _ => .no
abbrev rListDt : List V → Hp → VK → Prop := fun xs H Q => ∃ d kvs, xs = [V.ref d] ∧ Rd H d (.dT kvs) ∧ ∀ p bs, H p = none → IsKeys H kvs bs → Q (.ref p) (upd H p (.lst (bs.map V.ref)))
end MM

set_option maxRecDepth 100000
set_option maxHeartbeats 4000000

namespace MM
open PySem PySem.Spec PyProof.Rows L2
def pick {α : Type} (ix : List Nat) (xs : List α) : List α := ix.filterMap fun i => xs[i]?
structure KS (K : PySem.W.Frag) (fd : FuncData) (ps : List PySem.Str) (n : Nat) (ks : List PySem.Str) (ds : List Wv) (ix : List Nat) : Prop where
  ex : ∃ (g : List Value → List Value → List Value) (dvs : List V), CstV dvs ds ∧ KBn K fd ps n ks g fun vs zs => pick ix (vs ++ (dvs ++ zs))
structure MfK (P : Program) (w : World) (K : PySem.W.Frag) (mg : PySem.Str → Option Value) (base : Heap) (k : Nat) (C m : PySem.Str) (n : Nat) (ks : List PySem.Str) (ds : List Wv) (ix : List Nat) (j : Nat) (f : FM) : Prop where
  ex : ∃ (a fa : Addr) (fd : FuncData) (ps : List PySem.Str), mg C = some (.ref a) ∧ Cls K a ∧ Meth K a m fa ∧ KS K fd ps (n + 1) ks ds ix ∧ FnOk P w K mg base CX0 k fa fd ps (spF ⟨P, w, K, mg⟩ j f)
structure MfKX (P : Program) (w : World) (K : PySem.W.Frag) (mg : PySem.Str → Option Value) (base : Heap) (k : Nat) (C m : PySem.Str) (n : Nat) (ks : List PySem.Str) (ds : List Wv) (ix : List Nat) (j : Nat) (f : FM) : Prop where
  ex : ∃ (a fa : Addr) (fd : FuncData) (ps : List PySem.Str), mg C = some (.ref a) ∧ Cls K a ∧ Meth K a m fa ∧ KS K fd ps (n + 1) ks ds ix ∧ FnOk P w K mg base (L2.CX P w) k fa fd ps (spX ⟨P, w, K, mg⟩ j f)
structure CfK (P : Program) (w : World) (K : PySem.W.Frag) (mg : PySem.Str → Option Value) (base : Heap) (k : Nat) (C : PySem.Str) (n : Nat) (ks : List PySem.Str) (ds : List Wv) (ix : List Nat) (j : Nat) (f : FM) : Prop where
  ex : ∃ (a fa : Addr) (fd : FuncData) (ps : List PySem.Str), mg C = some (.ref a) ∧ Mk K a fa ∧ KS K fd ps (n + 1) ks ds ix ∧ FnOk P w K mg base CX0 k fa fd ps (spF ⟨P, w, K, mg⟩ j f)
structure CfKX (P : Program) (w : World) (K : PySem.W.Frag) (mg : PySem.Str → Option Value) (base : Heap) (k : Nat) (C : PySem.Str) (n : Nat) (ks : List PySem.Str) (ds : List Wv) (ix : List Nat) (j : Nat) (f : FM) : Prop where
  ex : ∃ (a fa : Addr) (fd : FuncData) (ps : List PySem.Str), mg C = some (.ref a) ∧ Mk K a fa ∧ KS K fd ps (n + 1) ks ds ix ∧ FnOk P w K mg base (L2.CX P w) k fa fd ps (spX ⟨P, w, K, mg⟩ j f)
def kwF (ix : List Nat) (ds zs : List Wv) (f : FM) : FM := fun ws => f (pick ix (ws ++ (ds ++ zs)))
def eMethK (C m : PySem.Str) (n nk : Nat) (ix : List Nat) (ds : List Wv) (f : FM) (o : EM) (a b : AM) : EM := fun ρ => (o ρ).bind fun w => (isC C m w).bind fun _ => (a ρ).bind fun ws => (b ρ).bind fun zs => if ws.length = n ∧ zs.length = nk then kwF ix ds zs f (w :: ws) else M.no
def eMakeK (C : PySem.Str) (n nk : Nat) (ix : List Nat) (ds : List Wv) (f : FM) (a b : AM) : EM := fun ρ => (a ρ).bind fun ws => (b ρ).bind fun zs => if ws.length = n ∧ zs.length = nk then mkC C (kwF ix ds zs f) ws else M.no
section
variable {X : Cx} {CX : CXT} {k n : Nat} {f C : Addr} {fd : FuncData} {ps ks : List PySem.Str} {sp : Sp} {E : L2.St → XK} {x m : PySem.Str} {p pos apos : Pos} {e o : Expr} {es : List Expr} {kws : List Keyword} {ta : TE} {t tk : TA} {g : List Value → List Value → List Value} {gV : List V → List V → List V}
def tMethKS (C : Addr) (m : PySem.Str) (n nk : Nat) (sp : Sp) (gV : List V → List V → List V) (E : L2.St → XK) (ta : TE) (t tk : TA) : TE := fun σ H Q => ta σ H fun x H1 => ∃ a dx fs, x = .ref a ∧ H1 a = some (.ins C dx fs) ∧ fs.lookup m = none ∧ t σ H1 fun vs H2 => tk σ H2 fun zs H3 => vs.length = n ∧ zs.length = nk ∧ sp (gV (x :: vs) zs) H3 Q (E σ)
def tMakeKS (C : Addr) (n nk : Nat) (sp : Sp) (gV : List V → List V → List V) (E : L2.St → XK) (t tk : TA) : TE := fun σ H Q => t σ H fun vs H1 => tk σ H1 fun zs H2 => vs.length = n ∧ zs.length = nk ∧ ∀ x dx, H2 x = none → H2 dx = none → dx ≠ x → sp (gV (.ref x :: vs) zs) (upd (upd H2 dx (.own x)) x (.ins C dx [])) (fun v H3 => v = .non ∧ Q (.ref x) H3) (E σ)
end
end MM

set_option maxRecDepth 100000
set_option maxHeartbeats 4000000

namespace MM
open PySem PySem.Spec PyProof.Rows L2
abbrev CKw (X : Cx) (W : WX) (kws : List Keyword) (m : AM) : Prop := PK X kws (mAX (cfg X) W m)
section
variable {X : Cx} {W : WX}


end
end MM

set_option maxRecDepth 100000
set_option maxHeartbeats 4000000

namespace MM
open PySem PySem.Spec PyProof.Rows L2
section
variable {X : Cx}
def gDx (o i : EM) : GM := fun v ρ => (o ρ).bind fun w => (i ρ).bind fun j => (dPut w j v).bind fun _ => M.pure ρ
end
section
variable {K : PySem.W.Frag} {x qual : PySem.Str} {st : Stmt} {dvs : List V} {kws : List (PySem.Str × V)} {f : Addr} {fd : FuncData} {ps : List PySem.Str} {ds : List Wv}
end
end MM

set_option maxRecDepth 100000
set_option maxHeartbeats 4000000

namespace VS
open PySem PySem.Spec PyProof.Rows L2 MS K01
section
variable {X : Cx}
def tDct (wi : TI) (g : TG) (tt : TT) (tk tv : TE) (vs : List Nat) : TE := fun σ H Q => wi σ H fun J H1 => ∀ D, H1 D = none → ∃ W : Nat → Nat → Hp → Prop, (∃ m, W 0 m (upd H1 D (.dT []))) ∧
  ∀ i m H, W i m H → (J.stop i H ∧ Q (.ref D) H) ∨ (J.go i H ∧ ∃ Nx : Hp → Prop, (∀ H', Nx H' → ∃ m', m' < m ∧ W (i + 1) m' H') ∧ ∀ x H', J.yld i H x H' → g x (wipe σ vs) H' fun σ2 H2 => wipe σ2 vs = wipe σ vs ∧
    tt σ2 H2 fun b H5 => if b = true then tk σ2 H5 fun y H6 => tv σ2 H6 fun v H7 => ∃ (a : Addr) (k : List Key) (kvs : List (List Key × V)), y = .ref a ∧ H7 a = some (.tup (k.map kV)) ∧ H7 D = some (.dT kvs) ∧ kvs.length < sizeLine ∧ Nx (upd H7 D (.dT (putK kvs k v))) else Nx H5)
end
end VS
namespace MM
open PySem PySem.Spec PyProof.Rows L2
def dttM (src : Src) (vs : List Nat) (g : GM) (t : TM) (ek ev : EM) (ρ : Env) : Nat → Nat → List (List Key × Wv) → M (List (List Key × Wv))
  | 0, _, _ => M.no
  | n + 1, k, acc => fun h => match src.at_ k h with
    | none => .no
    | some none => .ok acc h
    | some (some w) => ((g w (wipeM ρ vs)).bind fun ρ1 => (t ρ1).bind fun b => if b = true then (ek ρ1).bind fun y => (ev ρ1).bind fun z => fun h => match tkOf y with
          | some q => if acc.length < sizeLine then dttM src vs g t ek ev ρ n (k + 1) (putKW acc q z) h else .no
          | none => .no
        else dttM src vs g t ek ev ρ n (k + 1) acc) h
def eDcTt (i : IM) (vs : List Nat) (g : GM) (t : TM) (ek ev : EM) : EM := fun ρ => (i ρ).bind fun src => (dttM src vs g t ek ev ρ (src.cnt + 1) 0 []).bind fun kvs => lay (.dt kvs)
end MM

set_option maxRecDepth 100000
set_option maxHeartbeats 4000000

namespace MS
open PySem PySem.Spec PyProof.Rows L2
section
variable {P : Program} {w : World} {A : Around} {E : Value → Shared → Prop} {s : Shared}
end
section
variable {X : Cx}
end
end MS

set_option maxRecDepth 100000
set_option maxHeartbeats 4000000

namespace MS
open PySem PySem.Spec PyProof.Rows L2
section
variable {X : Cx}
def rSetDD (K : PySem.W.Frag) (P : Program) (w : World) : List V → Hp → VK → Prop := fun xs H Q => ∃ (l : Addr) (ks : List Row), xs = [V.ref l] ∧ (SqL K H l (ks.map fun p => V.ref p.1) ∨ SqT K H l (ks.map fun p => V.ref p.1)) ∧ Dots K H ks ∧ (∃ D : List (List Key), D.length < 63 ∧ ∀ p ∈ ks, p.2 ∈ D) ∧
  ∀ a L, H a = none → Of ks L → Q (.ref a) (upd H a (MSO P w a L))
end
end MS
namespace MM
open PySem PySem.Spec PyProof.Rows L2 K01
def setDM : FM := fun ws h => match ws with
  | [w] => match dsq h w with
    | some us => match us.mapM tkOf with
      | some ks => if (sortK ks).length < 63 then lay (.sdt ks) h else .no
      | none => .no
    | none => .no
  | _ => .no

section
variable {X : Cx}
def rSetdT : V → List V → Hp → VK → Prop := fun x vs H Q => ∃ (a : Addr) (kvs : List (List Key × V)) (k : List Key) (b : Addr) (dv : V), x = .ref a ∧ vs = [.ref b, dv] ∧ H a = some (.dT kvs) ∧ H b = some (.tup (k.map kV)) ∧ kvs.length < sizeLine ∧
  (∀ y, valV kvs k = some y → Q y H) ∧ (valV kvs k = none → Q dv (upd H a (.dT (putK kvs k dv))))
def setdTM : FT := fun w ws h => match w, ws with
  | .obj i, [k, v] => match h[i]?, tkOf k with
    | some (.dt kvs), some y => if kvs.length < sizeLine then (match valW kvs y with
      | some u => .ok u h
      | none => .ok v (h.set i (.dt (putKW kvs y v)))) else .no
    | _, _ => .no
  | _, _ => .no
end
end MM

set_option maxRecDepth 100000
set_option maxHeartbeats 4000000

namespace MM
open PySem PySem.Spec PyProof.Rows L2
def isDtW (w : Wv) (h : Hm) : Bool := match w with
  | .obj i => match h[i]? with
    | some (.dt _) => true
    | some (.frz (.dt _)) => true
    | _ => false
  | _ => false
def eBy (d a b : EM) : EM := fun ρ h => match d ρ h with
  | .ok w _ => if isDtW w h = true then b ρ h else a ρ h
  | _ => .no
end MM

set_option maxRecDepth 100000
set_option maxHeartbeats 4000000
namespace GP
open PySem PySem.Spec PyProof.Rows L2 K01 MM
def m_House_cell : FM := fun_ 2 2 ((sRet (eDget2 (eFld "House" "own_cells" (eVar 0)) (eVar 1) (eTup aNil))))
def m_House_words : FM := fun_ 1 1 ((sRet (eCall sortDk (aCons (eFld "House" "own_cells" (eVar 0)) aNil))))
def m_House_note : FM := fun_ 3 3 ((sRet (eDget2 (eFld "House" "own_notes" (eVar 0)) (eTup (aCons (eVar 1) (aCons (eVar 2) aNil))) (eTup aNil))))
def m_House_notes : FM := fun_ 1 1 ((sRet (eCall sortGt (aCons (eFld "House" "own_notes" (eVar 0)) aNil))))
def m_House_state : FM := fun_ 5 1 ((sSeq (sSet 1 (eCall tupOf (aCons (eLc (iSeqM (eMeth "House" "words" m_House_words (eVar 0) aNil)) [3] (gN 3) tYesM (eTup (aCons (eVar 3) (aCons (eMeth "House" "cell" m_House_cell (eVar 0) (aCons (eVar 3) aNil)) aNil)))) aNil)))
    (sSeq (sSet 2 (eCall tupOf (aCons (eLc (iSeqM (eMeth "House" "notes" m_House_notes (eVar 0) aNil)) [3, 4] (gT 2 (gsCons (gN 3) (gsCons (gN 4) gsNil))) tYesM (eTup (aCons (eVar 3) (aCons (eVar 4) (aCons (eMeth "House" "note" m_House_note (eVar 0) (aCons (eVar 3) (aCons (eVar 4) aNil))) aNil))))) aNil)))
    (sRet (eTup (aCons (eFld "House" "own_name" (eVar 0)) (aCons (eFld "House" "own_life" (eVar 0)) (aCons (eFld "House" "own_number" (eVar 0)) (aCons (eVar 1) (aCons (eVar 2) aNil))))))))))
def m_House___eq__ : FM := fun_ 2 2 ((sRet (eAnd (eCall (isiX "House") (aCons (eVar 1) (aCons (eC (.glob "House")) aNil))) (eOp (eqB false) (eMeth "House" "state" m_House_state (eVar 0) aNil) (eMeth "House" "state" m_House_state (eVar 1) aNil)))))
def m_House___init__ : FM := fun_ 3 3 ((sSeq (sFldM "House" "own_name" (eVar 0) (eVar 1))
    (sSeq (sFldM "House" "own_life" (eVar 0) (eVar 2))
    (sSeq (sFldM "House" "own_number" (eVar 0) (eC (.int 0)))
    (sSeq (sFldM "House" "own_cells" (eVar 0) eDnewK)
    (sFldM "House" "own_notes" (eVar 0) eDnewT))))))
def m_House_twin : FM := fun_ 4 1 ((sSeq (sSet 1 (eMakeK "House" 2 0 [0, 1, 2] [.int 1] m_House___init__ (aCons (eFld "House" "own_name" (eVar 0)) (aCons (eFld "House" "own_life" (eVar 0)) aNil)) aNil))
    (sSeq (sFldM "House" "own_number" (eVar 1) (eFld "House" "own_number" (eVar 0)))
    (sSeq (sFldM "House" "own_cells" (eVar 1) (eLock (eFld "House" "own_cells" (eVar 0)) (eDc (iKeysW (eFld "House" "own_cells" (eVar 0))) [2] (gN 2) tYesM (eVar 2) (eOp dgetM (eFld "House" "own_cells" (eVar 0)) (eVar 2)))))
    (sSeq (sFldM "House" "own_notes" (eVar 1) (eLock (eFld "House" "own_notes" (eVar 0)) (eDcTt (iKeysW (eFld "House" "own_notes" (eVar 0))) [3] (gN 3) tYesM (eVar 3) (eOp dgetM (eFld "House" "own_notes" (eVar 0)) (eVar 3)))))
    (sRet (eVar 1)))))))
def m_put_or_drop : FM := fun_ 3 3 ((sIf (tTru (eVar 2)) (sDput (eVar 0) (eVar 1) (eVar 2)) (sIf (tOf (eOp (dinM false) (eVar 1) (eVar 0))) (sCut (eVar 0) (eVar 1)) sNil)))
def m_House_put_cell : FM := fun_ 3 3 ((sSeq (sExpr (eCall m_look_at_cell (aCons (eVar 2) aNil)))
    (sExpr (eCall m_put_or_drop (aCons (eFld "House" "own_cells" (eVar 0)) (aCons (eVar 1) (aCons (eVar 2) aNil)))))))
def m_House_put_note : FM := fun_ 4 4 ((sSeq (sExpr (eCall m_look_at_cell (aCons (eVar 3) aNil)))
    (sExpr (eCall m_put_or_drop (aCons (eFld "House" "own_notes" (eVar 0)) (aCons (eTup (aCons (eVar 1) (aCons (eVar 2) aNil))) (aCons (eVar 3) aNil)))))))
def m_House_keep : FM := fun_ 4 4 ((sIf (tOrM (tOf (eOp (isNB false) (eVar 3) (eC .non))) (tOf (eOp (eqB false) (eVar 3) (eFld "House" "own_name" (eVar 0))))) (sExpr (eMeth "House" "put_cell" m_House_put_cell (eVar 0) (aCons (eVar 1) (aCons (eCall m_joined (aCons (eLst (aCons (eMeth "House" "cell" m_House_cell (eVar 0) (aCons (eVar 1) aNil)) (aCons (eVar 2) aNil))) aNil)) aNil)))) (sExpr (eMeth "House" "put_note" m_House_put_note (eVar 0) (aCons (eVar 1) (aCons (eVar 3) (aCons (eCall m_joined (aCons (eLst (aCons (eMeth "House" "note" m_House_note (eVar 0) (aCons (eVar 1) (aCons (eVar 3) aNil))) (aCons (eVar 2) aNil))) aNil)) aNil)))))))
def m_House_lose_all : FM := fun_ 1 1 ((sSeq (sFldAug "House" "own_life" (fun i j => i + j) (eVar 0) (eC (.int 1)))
    (sSeq (sFldM "House" "own_number" (eVar 0) (eC (.int 0)))
    (sSeq (sFldM "House" "own_cells" (eVar 0) eDnewK)
    (sFldM "House" "own_notes" (eVar 0) eDnewT)))))
def x_House_put_cell : FM := funX 3 3 ((sSeq (sX (sExpr (eCall x_look_at_cell (nrA (aCons (eVar 2) aNil)))))
    (nrS (sExpr (eCall m_put_or_drop (aCons (eFld "House" "own_cells" (eVar 0)) (aCons (eVar 1) (aCons (eVar 2) aNil))))))))
def x_House_put_note : FM := funX 4 4 ((sSeq (sX (sExpr (eCall x_look_at_cell (nrA (aCons (eVar 3) aNil)))))
    (nrS (sExpr (eCall m_put_or_drop (aCons (eFld "House" "own_notes" (eVar 0)) (aCons (eTup (aCons (eVar 1) (aCons (eVar 2) aNil))) (aCons (eVar 3) aNil))))))))
def x_House_keep : FM := funX 4 4 ((sIfX (nrT (tOrM (tOf (eOp (isNB false) (eVar 3) (eC .non))) (tOf (eOp (eqB false) (eVar 3) (eFld "House" "own_name" (eVar 0)))))) (sX (sExpr (eMeth "House" "put_cell" x_House_put_cell (nrE (eVar 0)) (aCons (nrE (eVar 1)) (aCons (eCall x_joined (nrA (aCons (eLst (aCons (eMeth "House" "cell" m_House_cell (eVar 0) (aCons (eVar 1) aNil)) (aCons (eVar 2) aNil))) aNil))) (nrA aNil)))))) (sX (sExpr (eMeth "House" "put_note" x_House_put_note (nrE (eVar 0)) (aCons (nrE (eVar 1)) (aCons (nrE (eVar 3)) (aCons (eCall x_joined (nrA (aCons (eLst (aCons (eMeth "House" "note" m_House_note (eVar 0) (aCons (eVar 1) (aCons (eVar 3) aNil))) (aCons (eVar 2) aNil))) aNil))) (nrA aNil)))))))))
def m_next_number : FM := fun_ 3 2 ((sRet (eOp addM (eCall maxL (aCons (eOp addM (eLst (aCons (eVar 0) aNil)) (eLc (iSeqM (eVar 1)) [2] (gN 2) tYesM (eOp ixM (eVar 2) (eC (.int 0))))) aNil)) (eC (.int 1)))))
def m_House_new_dot : FM := fun_ 2 2 ((sSeq (sFldM "House" "own_number" (eVar 0) (eCall m_next_number (aCons (eFld "House" "own_number" (eVar 0)) (aCons (eVar 1) aNil))))
    (sRet (eTup (aCons (eFld "House" "own_number" (eVar 0)) (aCons (eFld "House" "own_name" (eVar 0)) (aCons (eFld "House" "own_life" (eVar 0)) aNil)))))))
def m_House_given_back : FM := fun_ 6 4 ((sSeq (sSet 4 (eLc (iSeqM (eMeth "House" "note" m_House_note (eVar 0) (aCons (eVar 1) (aCons (eVar 2) aNil)))) [5] (gN 5) (tOf (eOp (inM true) (eOp ixM (eVar 5) (eC (.int 0))) (eVar 3))) (eVar 5)))
    (sExpr (eMeth "House" "put_note" m_House_put_note (eVar 0) (aCons (eVar 1) (aCons (eVar 2) (aCons (eCall tupOf (aCons (eVar 4) aNil)) aNil)))))))
def m_without_elder : FM := fun_ 3 2 ((sSeq (sExpr (eCall m_look_at_cell (aCons (eVar 0) aNil)))
    (sRet (eCall tupOf (aCons (eLc (iSeqM (eVar 0)) [2] (gN 2) (tNotM (tTru (eCall m_is_elder (aCons (eOp ixM (eVar 2) (eC (.int 2))) (aCons (eVar 1) aNil))))) (eVar 2)) aNil)))))
def m_without_elder_marks : FM := fun_ 4 2 ((sSeq (sSet 2 (eLock (eVar 0) (eBy (eVar 0) (eDc (iKeysW (eVar 0)) [3] (gN 3) tYesM (eVar 3) (eCall m_without_elder (aCons (eOp dgetM (eVar 0) (eVar 3)) (aCons (eVar 1) aNil)))) (eDcTt (iKeysW (eVar 0)) [3] (gN 3) tYesM (eVar 3) (eCall m_without_elder (aCons (eOp dgetM (eVar 0) (eVar 3)) (aCons (eVar 1) aNil)))))))
    (sRet (eLock (eVar 2) (eBy (eVar 2) (eDc (iKeysW (eVar 2)) [3] (gN 3) (tTru (eOp dgetM (eVar 2) (eVar 3))) (eVar 3) (eOp dgetM (eVar 2) (eVar 3))) (eDcTt (iKeysW (eVar 2)) [3] (gN 3) (tTru (eOp dgetM (eVar 2) (eVar 3))) (eVar 3) (eOp dgetM (eVar 2) (eVar 3))))))))
def m_House_sweep : FM := fun_ 6 2 ((sSeq (sSet 2 (eOp addM (eVals (eFld "House" "own_cells" (eVar 0))) (eVals (eFld "House" "own_notes" (eVar 0)))))
    (sSeq (sSet 3 (eLc2 (iSeqM (eVar 2)) [4, 5] (gN 4) tYesM (iSeqM (eVar 4)) [5] (gN 5) (tTru (eCall m_is_elder (aCons (eOp ixM (eVar 5) (eC (.int 2))) (aCons (eVar 1) aNil)))) (eOp ixM (eVar 5) (eC (.int 0)))))
    (sSeq (sFldM "House" "own_cells" (eVar 0) (eCall m_without_elder_marks (aCons (eFld "House" "own_cells" (eVar 0)) (aCons (eVar 1) aNil))))
    (sSeq (sFldM "House" "own_notes" (eVar 0) (eCall m_without_elder_marks (aCons (eFld "House" "own_notes" (eVar 0)) (aCons (eVar 1) aNil))))
    (sRet (eCall sortSd (aCons (eCall setDM (aCons (eVar 3) aNil)) aNil))))))))
def m_House___len__ : FM := fun_ 1 1 ((sRet (eCall lenM (aCons (eFld "House" "own_cells" (eVar 0)) aNil))))
def m_House_called : FM := fun_ 1 1 ((sRet (eFld "House" "own_name" (eVar 0))))
def m_House_life : FM := fun_ 1 1 ((sRet (eFld "House" "own_life" (eVar 0))))
def m_House_counted : FM := fun_ 1 1 ((sRet (eFld "House" "own_number" (eVar 0))))
def m_House_all_of : FM := fun_ 3 2 ((sRet (eCall m_joined (aCons (eOp addM (eLst (aCons (eMeth "House" "cell" m_House_cell (eVar 0) (aCons (eVar 1) aNil)) aNil)) (eLc (iSeqM (eMeth "House" "notes" m_House_notes (eVar 0) aNil)) [2] (gN 2) (tOf (eOp (eqB false) (eOp ixM (eVar 2) (eC (.int 0))) (eVar 1))) (eOp dgetM (eFld "House" "own_notes" (eVar 0)) (eVar 2)))) aNil))))
end GP

set_option maxRecDepth 100000
set_option maxHeartbeats 4000000

namespace MM
open PySem PySem.Spec PyProof.Rows L2

def sRv (n : Nat) : Src := ⟨n, fun k _ => some (if k < n then some (.int ((n : Int) - 1 - k)) else none)⟩
def iRevM (m : EM) : IM := fun ρ => (m ρ).bind fun w => match w with
  | .int j => if rgB j then M.pure (sRv j.toNat) else M.no
  | _ => M.no
section
variable {X : Cx}

def rSortVw (K : PySem.W.Frag) : List V → Hp → VK → Prop := fun xs H Q => ∃ (p d : Addr) (zs : List Vd), xs = [.ref p] ∧ H p = some (viewO "dict_values" p d) ∧ Vals2 H d (zs.map (·.1)) ∧ (∀ z ∈ zs, Dp K H z.1 z.2) ∧ (∀ z ∈ zs, flatB z.2 = true) ∧ sortable (zs.map (·.2)) = true ∧ zs.length ≤ 10000 ∧ ∀ l, H l = none → Q (.ref l) (upd H l (.lst ((isort dle zs).map (·.1))))
def valsOf (h : Hm) (i : Nat) : Option (List Wv) := match h[i]? with
  | some (.dk kvs) => some (kvs.map (·.2))
  | some (.dt kvs) => some (kvs.map (·.2))
  | _ => none
def sortValsM (w : Wv) : M Wv := fun h => match w with
  | .obj i => match valsOf h i with
    | some us => match us.mapM (dat h 60) with
      | some ds => if (sortable ds && (flatAll ds && decide (us.length ≤ 10000))) = true then lay (.lst ((isort dle (us.zip ds)).map (·.1))) h else .no
      | none => .no
    | none => .no
  | _ => .no
def eSortVals (e : EM) : EM := fun ρ => (e ρ).bind sortValsM
end
end MM

set_option maxRecDepth 100000
set_option maxHeartbeats 4000000

namespace MM
open PySem PySem.Spec PyProof.Rows L2
def sLockX (e : EM) (s : SM) : SM := fun ρ h => match e ρ h with
  | .ok w _ => match unDict h w with
    | some (i, o) => match s ρ (h.set i (.frz o)) with
      | .ok r h' => match r.1 with
        | .xc _ => .ok r h'
        | _ => .ok r (h'.set i o)
      | _ => .no
    | none => .no
  | _ => .no
section
variable {X : Cx} {W : WX}
end
end MM

set_option maxRecDepth 100000
set_option maxHeartbeats 4000000

namespace MM
open PySem PySem.Spec PyProof.Rows L2
def sAugN (i : Nat) (g : Int → Int → Int) (e : EM) : SM := fun ρ => match ρ[i]? with
  | some (some u) => (e ρ).bind fun v => (augM g u v).bind fun z => M.pure (.nx, ρ.set i (some z))
  | _ => M.no
section
variable {X : Cx}
end
end MM

set_option maxRecDepth 100000
set_option maxHeartbeats 4000000

namespace MM
open PySem PySem.Spec PyProof.Rows L2
section
variable {X : Cx} {CX : CXT} {k n : Nat} {f C : Addr} {fd : FuncData} {ps ks : List PySem.Str} {sp : Sp} {E : L2.St → XK} {x m : PySem.Str} {p pos apos : Pos} {kws : List Keyword} {tk : TA} {g : List Value → List Value → List Value} {gV : List V → List V → List V}
end
section
variable {X : Cx}
end
end MM

set_option maxRecDepth 100000
set_option maxHeartbeats 4000000

namespace MM
open PySem PySem.Spec PyProof.Rows L2
def eOrT (a b : EM) : EM := fun ρ => (a ρ).bind fun w => (truM w).bind fun k => if k = true then M.pure w else b ρ
section
variable {X : Cx}
theorem me_orT {a b : Expr} {rest : List Expr} {pos : Pos} {ma mb : EM} (ha : ME X a ma) (hb : ME X (.BoolOp .Or (b :: rest) pos) mb) : ME X (.BoolOp .Or (a :: b :: rest) pos) (eOrT ma mb) :=
  PE.imp (pe_orT ha hb) fun σ H Q ⟨μ, ρ, h, w, h', A, e, n⟩ => by
    obtain ⟨x, h1, e1, e⟩ := bind_ok e
    obtain ⟨k, h2, e2, e⟩ := bind_ok e
    refine mE_first A e1 fun μ1 v H1 g1 A1 p1 => ?_
    obtain ⟨rfl, t⟩ := tru_to A1.rel p1 e2
    refine ⟨k, t, ?_⟩
    cases k with
    | true =>
      cases e
      exact n μ1 v H1 g1 A1.rel p1
    | false => exact ⟨μ1, ρ, h2, w, h', A1, e, n.after g1⟩
def mulSM : F2 := fun a b => match a, b with
  | .str x, .int n => if 1 ≤ n ∧ n ≤ 1000 ∧ x.length ≤ 1000 then M.pure (.str (Txt.mul x n)) else M.no
  | _, _ => M.no
end
theorem wp_orT {a b : EM} {ρ : Env} {h : Hm} {Q : Wv → Hm → Prop} : wpM (eOrT a b ρ) h Q ↔ wpM (a ρ) h fun w h1 => wpM (truM w) h1 fun k h2 => if k = true then Q w h2 else wpM (b ρ) h2 Q := by
  unfold eOrT; simp only [wp_bind, wp_ite, wp_pure]
end MM

set_option maxRecDepth 100000
set_option maxHeartbeats 4000000

namespace MM
open PySem PySem.Spec PyProof.Rows L2
section
variable {X : Cx}
def popM : FT := fun w ws h => match w, ws with
  | .obj i, [] => match lstOf h i with
    | some us => match us.getLast? with
      | some y => .ok y (h.set i (.lst us.dropLast))
      | none => .no
    | none => .no
  | _, _ => .no
def pop0M : FT := fun w ws h => match w, ws with
  | .obj i, [.int 0] => match lstOf h i with
    | some (y :: us) => .ok y (h.set i (.lst us))
    | _ => .no
  | _, _ => .no
end
section
variable {h : Hm} {i : Nat} {us : List Wv} {y : Wv} {Q : Wv → Hm → Prop}
end
end MM

set_option maxRecDepth 100000
set_option maxHeartbeats 4000000

namespace MM
open PySem PySem.Spec PyProof.Rows L2
def augL (u v : Wv) : M Unit := fun h => match u, v with
  | .obj k, .obj j => match lstOf h k, lstOf h j with
    | some xs, some zs => if xs.length + zs.length ≤ 1000000 then .ok () (h.set k (.lst (xs ++ zs))) else .no
    | _, _ => .no
  | _, _ => .no
def sAugL (i : Nat) (e : EM) : SM := fun ρ => match ρ[i]? with
  | some (some u) => (e ρ).bind fun v => (augL u v).bind fun _ => M.pure (.nx, ρ)
  | _ => M.no
section
variable {X : Cx}
end
end MM

set_option maxRecDepth 100000
set_option maxHeartbeats 4000000

namespace MS
open PySem PySem.Spec PyProof.Rows L2 RQ
def accX (xs : List PySem.Str) : List PySem.Str := xs.foldl (fun L k => addL k L) []
section
variable {P : Program} {w : World} {A : Around} {E : Value → Shared → Prop} {s : Shared}
end
section
variable {X : Cx}
def rSetX (P : Program) (w : World) : List V → Hp → VK → Prop := fun vs H Q => ∃ (l : Addr) (ys : List PySem.Str), vs = [V.ref l] ∧ H l = some (.lst (ys.map V.str)) ∧ ys.length < 63 ∧ ∀ a, H a = none → Q (.ref a) (upd H a (TxO P w a (accX ys)))
end
end MS
namespace MM
open PySem PySem.Spec PyProof.Rows L2 K01
def strOf : Wv → Option PySem.Str
  | .str x => some x
  | _ => none
def setX : FM := fun ws h => match ws with
  | [.obj i] => match lstOf h i with
    | some us => match us.mapM strOf with
      | some ys => if ys.length < 63 then lay (.stx (MS.accX ys)) h else .no
      | none => .no
    | none => .no
  | _ => .no
end MM

set_option maxRecDepth 100000
set_option maxHeartbeats 4000000

namespace ND
open PySem PySem.Spec PyProof.Rows
section
variable {P : Program} {w : World} {κ : Type} [DecidableEq κ] {kd : KeyKind P w κ} {A : Around} {E : Value → Shared → Prop} {s : Shared}
def putAll (a b : Addr) : Sem Unit := do
  let size := (← dictEntries b).size
  let epoch ← dictEpoch b
  for i in List.range size do
    let some e := (← dictEntries b)[i]? | unsupported "dict.changed-during-merge"
    holding [e.key, e.val] (dictPut a e.hash e.key e.val)
    if (← dictEpoch b) != epoch then unsupported "dict.changed-during-merge"
end
end ND

set_option maxRecDepth 100000
set_option maxHeartbeats 4000000

namespace ND
open PySem PySem.Spec PyProof.Rows L2
section
variable {X : Cx}
def rSt (D : Addr) (acc : List (Key × V)) (N : List (Key × V) → Hp → Prop) : VK := fun x H => ∃ b ks, x = .ref b ∧ b ≠ D ∧ H D = some (.dK acc) ∧ H b = some (.dK ks) ∧ acc.length + ks.length ≤ 1000 ∧ N (mergeK acc ks) (upd H D (.dK (mergeK acc ks)))
def tStar2 (t1 t2 : TE) : TE := fun σ H Q => ∀ D, H D = none → t1 σ (upd H D (.dK [])) (rSt D [] fun acc H1 => t2 σ H1 (rSt D acc fun _ H2 => Q (.ref D) H2))
end
end ND

set_option maxRecDepth 100000
set_option maxHeartbeats 4000000

namespace MM
open PySem PySem.Spec PyProof.Rows L2
def dkRow (w : Wv) : M (List (Key × Wv)) := fun h => match w with
  | .obj i => match h[i]? with
    | some (.dk ks) => if ks.length ≤ 400 then .ok ks h else .no
    | _ => .no
  | _ => .no
def eStar2 (m1 m2 : EM) : EM := fun ρ => (m1 ρ).bind fun x => (dkRow x).bind fun k1 => (m2 ρ).bind fun y => (dkRow y).bind fun k2 => lay (.dk (mergeKW (mergeKW [] k1) k2))
section
variable {X : Cx}
end
end MM

set_option maxRecDepth 100000
set_option maxHeartbeats 4000000

namespace MM
open PySem PySem.Spec PyProof.Rows L2
abbrev rSidx : V → List V → Hp → VK → Prop := fun x xs H Q => ∃ a b i rest, x = .str a ∧ xs = [.str b] ∧ Builtin.Str.occurrences a b 0 a.length 1 = i :: rest ∧ Q (.int (i : Nat)) H
def sidxM : FT := fun w ws h => match w, ws with
  | .str a, [.str b] => match Builtin.Str.occurrences a b 0 a.length 1 with
    | i :: _ => .ok (.int (i : Nat)) h
    | [] => .no
  | _, _ => .no
section
variable {X : Cx}
end
end MM

set_option maxRecDepth 100000
set_option maxHeartbeats 4000000

namespace MM
open PySem PySem.Spec PyProof.Rows L2
section
variable {b tb : Value} {prog : Program} {w : World} {A : Around} {E : Value → Shared → Prop} {s : Shared} {K : PySem.W.Frag} {x y C f : Addr} {ox oy : Obj} {od od' : Option Obj}
end
section
variable {X : Cx} {C : PySem.Str}
def rNeT (c : Cfg) (C : PySem.Str) (f : FM) : R2 := fun x y H Q => ∃ a Ca dx fs t, c.mg C = some (.ref Ca) ∧ x = .ref a ∧ H a = some (.ins Ca dx fs) ∧ TyX c.K H y (.type (Ty.nm t)) ∧ spF c 2 f [x, y] H (fun v H' => ∃ k, v = .bl k ∧ Q (.bl (!k)) H') E0
def ownNeT (C : PySem.Str) (f : FM) : F2 := fun a b h => if isIns C a h = true then (match tyW h b with | some _ => ((f [a, b]).bind fun r => match r with | .bl k => M.pure (.bl (!k)) | _ => M.no) h | none => .no) else .no
variable {a b : Expr} {pos : Pos} {ma mb : EM} {k : Nat} {f : FM}
end
end MM

set_option maxRecDepth 100000
set_option maxHeartbeats 4000000

namespace MM
open PySem PySem.Spec PyProof.Rows L2
def swM : FT := fun w ws h => match w, ws with
  | .str a, [.str b] => .ok (.bl (Txt.startswith a b)) h
  | _, _ => .no
theorem lmt_sw {c : Cfg} : LMt c "str" swM (fun x xs H Q => ∃ a b, x = .str a ∧ xs = [.str b] ∧ Q (.bl (Txt.startswith a b)) H) := by
  intro μ h H v vs w ws u h' Q R p r e n
  unfold swM at e
  split at e
  · next a b =>
    cases e
    cases p
    obtain ⟨x, rfl, px⟩ := r.one_inv
    cases px
    exact ⟨a, b, rfl, rfl, n.now R (.bl _)⟩
  · cases e
def splM : FT := fun w ws h => match w, ws with
  | .str a, [.str b] => if (b.length == 0) = false ∧ a.length ≤ 1000000 then lay (.lst ((Txt.split a b).map .str)) h else .no
  | _, _ => .no
theorem rps_txts {c : Cfg} {μ : List Addr} {H : Hp} : ∀ ys : List PySem.Str, Rps c μ H (ys.map V.str) (ys.map Wv.str)
  | [] => .nil
  | y :: ys => .cons (.str y) (rps_txts ys)
theorem lmt_spl {c : Cfg} : LMt c "str" splM (fun x xs H Q => ∃ a b, x = .str a ∧ xs = [.str b] ∧ (b.length == 0) = false ∧ a.length + 2 ≤ sizeLine ∧ rNewStrs (Txt.split a b) H Q) := by
  intro μ h H v vs w ws u h' Q R p r e n
  unfold splM at e
  split at e
  · next a b =>
    obtain ⟨l, e⟩ := ifD_ok' e
    obtain ⟨rfl, rfl⟩ := lay_ok e
    cases p
    obtain ⟨x, rfl, px⟩ := r.one_inv
    cases px
    refine ⟨a, b, rfl, rfl, l.1, by rw [sizeLine_eq]; omega, ?_⟩
    exact fun q nq => n.lay R nq fun _ _ g => ⟨_, rfl, rps_txts _⟩
  · cases e
def strI : FM := fun ws h => match ws with
  | [.int i] => if i.natAbs.log2 < 1920 then .ok (.str (toString i)) h else .no
  | _ => .no
def strT : FM := fun ws h => match ws with
  | [.str x] => .ok (.str x) h
  | _ => .no
theorem lc_strI {c : Cfg} : LCall c strI (fun xs H Q => ∃ i : Int, xs = [.int i] ∧ i.natAbs.log2 < 1920 ∧ Q (.str (toString i)) H) := by
  intro μ h H vs ws w h' Q R r e n
  unfold strI at e
  split at e
  · next i =>
    obtain ⟨l, e⟩ := ifD_ok' e
    cases e
    obtain ⟨x, rfl, px⟩ := r.one_inv
    cases px
    exact ⟨i, rfl, l, n.now R (.str _)⟩
  · cases e
theorem lc_strT {c : Cfg} : LCall c strT (fun xs H Q => ∃ a, xs = [.str a] ∧ Q (.str a) H) := by
  intro μ h H vs ws w h' Q R r e n
  unfold strT at e
  split at e
  · next i =>
    cases e
    obtain ⟨x, rfl, px⟩ := r.one_inv
    cases px
    exact ⟨i, rfl, n.now R (.str _)⟩
  · cases e
def strA : FM := fun ws h => match ws with
  | [.int i] => if i.natAbs.log2 < 1920 then .ok (.str (toString i)) h else .no
  | [.str x] => .ok (.str x) h
  | _ => .no
theorem cr_strA {X : Cx} : CallR X (.type "str") (fun xs H Q => (∃ i : Int, xs = [.int i] ∧ i.natAbs.log2 < 1920 ∧ Q (.str (toString i)) H) ∨ ∃ a, xs = [.str a] ∧ Q (.str a) H) := CallR.or call_str_int SkE.call_str_str
theorem lc_strA {c : Cfg} : LCall c strA (fun xs H Q => (∃ i : Int, xs = [.int i] ∧ i.natAbs.log2 < 1920 ∧ Q (.str (toString i)) H) ∨ ∃ a, xs = [.str a] ∧ Q (.str a) H) := by
  intro μ h H vs ws w h' Q R r e n
  cases ws with
  | nil => cases e
  | cons u us =>
    cases us with
    | cons _ _ => cases u <;> cases e
    | nil =>
      cases u with
      | int i => exact .inl (lc_strI (μ := μ) (h := h) (ws := [.int i]) (w := w) (h' := h') R r e n)
      | str x => exact .inr (lc_strT (μ := μ) (h := h) (ws := [.str x]) (w := w) (h' := h') R r e n)
      | _ => cases e
def intT : FM := fun ws h => match ws with
  | [.str a] => match PySem.intText? a with
    | some n => if a.length ≤ 640 then .ok (.int n) h else .no
    | none => .no
  | _ => .no
theorem lc_intT {c : Cfg} : LCall c intT (fun xs H Q => ∃ a n, xs = [.str a] ∧ PySem.intText? a = some n ∧ a.length ≤ 640 ∧ Q (.int n) H) := by
  intro μ h H vs ws w h' Q R r e n
  unfold intT at e
  split at e
  · next a =>
    split at e
    · next k q =>
      obtain ⟨l, e⟩ := ifD_ok' e
      cases e
      obtain ⟨x, rfl, px⟩ := r.one_inv
      cases px
      exact ⟨a, k, rfl, q, l, n.now R (.int _)⟩
    · cases e
  · cases e
section
variable {X : Cx}
theorem me_split {o e : Expr} {apos cpos : Pos} {mo : EM} {ma : AM} (ho : ME X o mo) (ha : MA X [e] ma) (hbase : attributeBase o "split" X.env (eval o X.env) = eval o X.env := by rfl)
    (hfew : ((backTo cpos (starEach [e] X.env)).all (fun x => !x.1) && (backToKw cpos (keywordEach [] X.env)).all (fun x => x.1.isSome) && decide ([e].length + ([] : List Keyword).length + (if ([] : List Keyword).isEmpty then 0 else 1) < 30)) = true := by rfl)
    (hline : (apos.endLine == cpos.line) = true := by rfl) (hs : starEach [e] X.env = (false, eval e X.env) :: starEach [] X.env := by rfl) (hplain : (backTo cpos (starEach [] X.env)).any (·.1) = false := by rfl) : ME X (.Call (.Attribute o "split" apos) [e] [] cpos) (eBm isStr splM mo ma) :=
  me_bm PySem.F.plainAttrs_str PySem.F.slot_str_split PySem.F.type_str_split mt_split lty_str lmt_spl ho ha hbase hfew hline hs hplain
theorem me_startswith {o e : Expr} {apos cpos : Pos} {mo : EM} {ma : AM} (ho : ME X o mo) (ha : MA X [e] ma) (hbase : attributeBase o "startswith" X.env (eval o X.env) = eval o X.env := by rfl)
    (hfew : ((backTo cpos (starEach [e] X.env)).all (fun x => !x.1) && (backToKw cpos (keywordEach [] X.env)).all (fun x => x.1.isSome) && decide ([e].length + ([] : List Keyword).length + (if ([] : List Keyword).isEmpty then 0 else 1) < 30)) = true := by rfl)
    (hline : (apos.endLine == cpos.line) = true := by rfl) (hs : starEach [e] X.env = (false, eval e X.env) :: starEach [] X.env := by rfl) (hplain : (backTo cpos (starEach [] X.env)).any (·.1) = false := by rfl) : ME X (.Call (.Attribute o "startswith" apos) [e] [] cpos) (eBm isStr swM mo ma) :=
  me_bm PySem.F.plainAttrs_str PySem.F.slot_str_startswith PySem.F.type_str_startswith mt_startswith lty_str lmt_sw ho ha hbase hfew hline hs hplain
end
section
variable {h : Hm} {a b : PySem.Str} {i : Int} {Q : Wv → Hm → Prop}
theorem wp_sw : wpM (swM (.str a) [.str b]) h Q ↔ Q (.bl (Txt.startswith a b)) h := wp_ok rfl
theorem wp_spl (l : (b.length == 0) = false ∧ a.length ≤ 1000000) : wpM (splM (.str a) [.str b]) h Q ↔ Q (.obj h.length) (h ++ [.lst ((Txt.split a b).map .str)]) := wp_ok (by
  unfold splM; simp only [if_pos l]; rfl)
theorem wp_strA_i (l : i.natAbs.log2 < 1920) : wpM (strA [.int i]) h Q ↔ Q (.str (toString i)) h := wp_ok (by unfold strA; simp only [if_pos l])
theorem wp_strA_s : wpM (strA [.str a]) h Q ↔ Q (.str a) h := wp_ok rfl
theorem wp_intT {n : Int} (e : PySem.intText? a = some n) (l : a.length ≤ 640) : wpM (intT [.str a]) h Q ↔ Q (.int n) h := wp_ok (by unfold intT; simp only [e, if_pos l])
end
end MM

set_option maxRecDepth 100000
set_option maxHeartbeats 4000000

namespace MM
open PySem PySem.Spec PyProof.Rows L2
abbrev Cells := List (Addr × Obj)
def tellC (H : Hp) (C : Cells) (f : Addr) : Hp := fun b => match C.lookup b with
  | some o => some (.frz o (.own f))
  | none => H b
def hideC (H : Hp) (C : Cells) : Hp := fun b => match C.lookup b with
  | some _ => none
  | none => H b
section
variable {H H' : Hp} {C : Cells} {f b : Addr} {o : Obj} {u : HO}
theorem tellC_in (e : C.lookup b = some o) : tellC H C f b = some (.frz o (.own f)) := by unfold tellC; rw [e]
theorem tellC_out (e : C.lookup b = none) : tellC H C f b = H b := by unfold tellC; rw [e]
theorem hideC_in (e : C.lookup b = some o) : hideC H C b = none := by unfold hideC; rw [e]
theorem hideC_out (e : C.lookup b = none) : hideC H C b = H b := by unfold hideC; rw [e]
theorem tellC_sub (n : ∀ b o, C.lookup b = some o → H b = none) : ∀ b v, H b = some v → tellC H C f b = some v := fun b v e => by
  cases q : C.lookup b with
  | none => rw [tellC_out q]; exact e
  | some o => rw [n b o q] at e; cases e
theorem hideC_le (e : hideC H C b = some u) : H b = some u := by
  unfold hideC at e
  split at e
  · cases e
  · exact e
theorem out_of (t : ∀ b o, C.lookup b = some o → H b = some (.frz o (.own f))) (e : H b = some u) (n : ∀ o, u ≠ .frz o (.own f)) : C.lookup b = none := by
  cases q : C.lookup b with
  | none => rfl
  | some o => rw [t b o q] at e; exact absurd (Option.some.inj e).symm (n o)
end
section
variable {P : Program} {w : World} {H H' H1 : Hp} {h h' : Heap} {C : Cells} {f : Addr} {fs ex : List Addr}
theorem HOk.tellC (x : HOk P w H h) (t : ∀ b o, C.lookup b = some o → h.get? b = some o ∧ H b = none) : HOk P w (MM.tellC H C f) h := fun b u e => by
  cases q : C.lookup b with
  | none =>
    rw [tellC_out q] at e
    have sub := tellC_sub (f := f) (fun b o z => (t b o z).2)
    exact (x b u e).stay (fun _ _ _ z => z) (fun c z => sub c _ z) fun c xs z => sub c _ z
  | some o =>
    rw [tellC_in q] at e
    cases e
    exact ⟨(t b o q).1, o, (t b o q).1⟩
theorem HOk.hideC (x : HOk P w H h) (t : ∀ b o, C.lookup b = some o → H b = some (.frz o (.own f))) : HOk P w (MM.hideC H C) h := fun b u e => by
  have e' := hideC_le e
  refine (x b u e').stay (fun _ _ _ z => z) (fun c z => ?_) fun c xs z => ?_
  · rw [hideC_out (out_of t z fun o q => by cases q)]; exact z
  · rw [hideC_out (out_of t z fun o q => by cases q)]; exact z
theorem Un.hideC (u : Un fs ex (MM.tellC H C f) H' h h') (hx : HOk P w H' h') (t : ∀ b o, C.lookup b = some o → h.get? b = some o ∧ H b = none) :
    Un fs ex H (MM.hideC H' C) h h' ∧ ∀ b o, C.lookup b = some o → H' b = some (.frz o (.own f)) := by
  have k : ∀ b o, C.lookup b = some o → H' b = some (.frz o (.own f)) := fun b o q => u.frzs b o _ (tellC_in q)
  have g : ∀ b o, C.lookup b = some o → h'.get? b = some o := fun b o q => (hx b _ (k b o q)).1
  have sub := tellC_sub (f := f) (fun b o z => (t b o z).2)
  refine ⟨⟨fun b o e n hf he => ?_, fun b o e n hf he => ?_, fun b o e n he => ?_, u.there, fun b xs e => ?_, fun b o v e => ?_, fun b ps e => ?_⟩, k⟩
  · cases q : C.lookup b with
    | none => exact u.keep b o e (by rw [tellC_out q]; exact n) hf he
    | some o' =>
      have := (t b o' q).1
      rw [e] at this
      cases this
      exact g b o q
  · cases q : C.lookup b with
    | none => exact u.slot b o e (by rw [tellC_out q]; exact n) hf he
    | some o' =>
      have := (t b o' q).1
      rw [e] at this
      cases this
      exact ⟨o.slots, g b o q⟩
  · cases q : C.lookup b with
    | none => rw [hideC_out q]; exact u.free b o e (by rw [tellC_out q]; exact n) he
    | some o' => exact hideC_in q
  · cases q : C.lookup b with
    | none => rw [hideC_out q]; exact u.tups b xs (sub b _ e)
    | some o' => rw [(t b o' q).2] at e; cases e
  · cases q : C.lookup b with
    | none => rw [hideC_out q]; exact u.frzs b o v (sub b _ e)
    | some o' => rw [(t b o' q).2] at e; cases e
  · cases q : C.lookup b with
    | none => rw [hideC_out q]; exact u.tbls b ps (sub b _ e)
    | some o' => rw [(t b o' q).2] at e; cases e
theorem Un.tellC (u : Un fs ex (MM.hideC H C) H' h h') (hx : HOk P w H h) (t : ∀ b o, C.lookup b = some o → H b = some (.frz o (.own f))) (hf : ∀ b o, C.lookup b = some o → b ∉ fs) (he : ∀ b o, C.lookup b = some o → b ∉ ex) :
    Un fs ex H (MM.tellC H' C f) h h' ∧ ∀ b o, C.lookup b = some o → h'.get? b = some o ∧ H' b = none := by
  have g : ∀ b o, C.lookup b = some o → h.get? b = some o := fun b o q => (hx b _ (t b o q)).1
  have k : ∀ b o, C.lookup b = some o → h'.get? b = some o ∧ H' b = none := fun b o q => ⟨u.keep b o (g b o q) (hideC_in q) (hf b o q) (he b o q), u.free b o (g b o q) (hideC_in q) (he b o q)⟩
  refine ⟨⟨fun b o e n h1 h2 => ?_, fun b o e n h1 h2 => ?_, fun b o e n h2 => ?_, u.there, fun b xs e => ?_, fun b o v e => ?_, fun b ps e => ?_⟩, k⟩
  · cases q : C.lookup b with
    | none => exact u.keep b o e (by rw [hideC_out q]; exact n) h1 h2
    | some o' => rw [t b o' q] at n; cases n
  · cases q : C.lookup b with
    | none => exact u.slot b o e (by rw [hideC_out q]; exact n) h1 h2
    | some o' => rw [t b o' q] at n; cases n
  · cases q : C.lookup b with
    | none => rw [tellC_out q]; exact u.free b o e (by rw [hideC_out q]; exact n) h2
    | some o' => rw [t b o' q] at n; cases n
  · have q := out_of t e fun o z => by cases z
    rw [tellC_out q]; exact u.tups b xs (by rw [hideC_out q]; exact e)
  · cases q : C.lookup b with
    | none => rw [tellC_out q]; exact u.frzs b o v (by rw [hideC_out q]; exact e)
    | some o' => rw [t b o' q] at e; rw [tellC_in q]; exact e
  · have q := out_of t e fun o z => by cases z
    rw [tellC_out q]; exact u.tbls b ps (by rw [hideC_out q]; exact e)
end

section
variable {c : Cfg} {μ μ' : List Addr} {h h' : Hm} {H H' : Hp} {C : Cells} {f : Addr}
structure Hsd (c : Cfg) (H H' : Hp) : Prop where
  tq : ∀ a vs, H a = some (.tup vs) → H' a = some (.tup vs)
  ft : ∀ a ob vs, H a = some (.frz ob (.tup vs)) → H' a = some (.frz ob (.tup vs))
  fl : ∀ a ob vs, H a = some (.frz ob (.lst vs)) → H' a = some (.frz ob (.lst vs))
mutual
theorem Rp.hd (g : Hsd c H H') : ∀ {v : V} {w : Wv}, Rp c μ H v w → Rp c μ H' v w
  | _, _, .non => .non
  | _, _, .bl b => .bl b
  | _, _, .int i => .int i
  | _, _, .str x => .str x
  | _, _, .tup h r => .tup (g.tq _ _ h) (Rps.hd g r)
  | _, _, .obj h => .obj h
  | _, _, .glob h => .glob h
  | _, _, .raw v => .raw v
  | _, _, .scr (.inl ⟨ob, h⟩) => .scr (.inl ⟨ob, g.fl _ _ _ h⟩)
  | _, _, .scr (.inr h) => .scr (.inr h)
  | _, _, .ptp (.inl ⟨ob, h, d⟩) r => .ptp (.inl ⟨ob, g.ft _ _ _ h, d⟩) (Rps.hd g r)
  | _, _, .ptp (.inr h) r => .ptp (.inr h) (Rps.hd g r)
theorem Rps.hd (g : Hsd c H H') : ∀ {vs : List V} {ws : List Wv}, Rps c μ H vs ws → Rps c μ H' vs ws
  | _, _, .nil => .nil
  | _, _, .cons r t => .cons (Rp.hd g r) (Rps.hd g t)
end
theorem Rkv.hd {κ : Type} (g : Hsd c H H') {a : List (κ × V)} {b : List (κ × Wv)} (h : Rkv c μ H a b) : Rkv c μ H' a b := Paired.mapP h fun _ _ z => ⟨z.1, z.2.hd g⟩
end
end MM

set_option maxRecDepth 100000
set_option maxHeartbeats 4000000

namespace MM
open PySem PySem.Spec PyProof.Rows L2
section
variable {X : Cx} {pins : List (Addr × Obj)} {σ : L2.St} {H : Hp} {s : Shared}
end
structure LamAt (X : Cx) (H : Hp) (params : Arguments) (body : Expr) (scope : Scope) (q : PySem.Str) (f : Addr) : Prop where
  ex : ∃ (cc : Addr) (oc : Obj) (pm ctv : Value), H f = some (.frz (PySem.W.kla_obj "<lambda>" q params body scope (cloFrom X.env.cells scope.names []) pm cc ctv) (.own f)) ∧ H cc = some (.frz oc (.own cc)) ∧ CodeNm oc q
section
variable {X : Cx} {pins : List (Addr × Obj)} {σ : L2.St} {H : Hp} {s : Shared} {μ : List Addr} {h : Hm}
end
end MM

set_option maxRecDepth 100000
set_option maxHeartbeats 4000000

namespace MM
open PySem PySem.Spec PyProof.Rows L2
def lamM (n j : Nat) (b : EM) : List Wv → FM := fun cs ws => if ws.length = j then b (ws.map some ++ (cs.map some ++ List.replicate (n - ws.length - cs.length) none)) else M.no
section
variable {P : Program} {w : World} {K : PySem.W.Frag} {mg : PySem.Str → Option Value} {base : Heap}
def cellsC (H : Hp) (cl : List (PySem.Str × Addr)) (fr : List PySem.Str) : Cells := fr.filterMap fun y => match cl.lookup y with
  | some x => match H x with
    | some (.frz o _) => some (x, o)
    | _ => none
  | none => none
structure Lk (P : Program) (w : World) (K : PySem.W.Frag) (mg : PySem.Str → Option Value) (base : Heap) (k : Nat) (e : LKey) (m : List Wv → FM) : Prop where
  run : ∀ {A : Around} {outer : List PySem.Env} {s : Shared} {H : Hp} {f : Addr} {u : HO} {us : List Value} {vs : List V} {cs ws : List Wv} {μ : List Addr} {h h' : Hm} {i : Nat} {w' : Wv} {Q : VK}, Room k A → Env0 P w K mg base A outer s H → H f = some u → μ[i]? = some f → FnU ⟨P, w, K, mg⟩ μ H f e cs u →
    Vals vs us → Rel ⟨P, w, K, mg⟩ μ h H → Rps ⟨P, w, K, mg⟩ μ H vs ws → m cs ws (h.set i .dead) = .ok w' h' → Nx ⟨P, w, K, mg⟩ μ H (h'.set i (.fn e cs)) w' Q → codeAny (model P w) A (.call (.ref f) ⟨us, []⟩) (CR CX0 outer P w H s Q E0) s
theorem Lk.mono {j k : Nat} {e : LKey} {m : List Wv → FM} (o : Lk P w K mg base j e m) (h : j ≤ k) : Lk P w K mg base k e m := ⟨fun hr => o.run (hr.mono h)⟩
end

def callL (tab : List (LKey × (List Wv → FM))) (w : Wv) (ws : List Wv) : M Wv := fun h => match w with
  | .obj i => match h[i]? with
    | some (.fn e cs) => match tab.lookup e with
      | some m => match m cs ws (h.set i .dead) with
        | .ok r h' => .ok r (h'.set i (.fn e cs))
        | _ => .no
      | none => .no
    | _ => .no
  | _ => .no
def isFn (w : Wv) : M Unit := fun h => match w with
  | .obj i => match h[i]? with
    | some (.fn _ _) => .ok () h
    | _ => .no
  | _ => .no
def eCallL (tab : List (LKey × (List Wv → FM))) (i : Nat) (a : AM) : EM := fun ρ => (eVar i ρ).bind fun w => (isFn w).bind fun _ => (a ρ).bind fun ws => callL tab w ws
section
variable {X : Cx}
end
end MM

set_option maxRecDepth 100000
set_option maxHeartbeats 4000000

namespace MM
open PySem PySem.Spec PyProof.Rows L2
structure LamH (X : Cx) (x : PySem.Str) : Prop where
  ex : ∃ c P, LamX.TabB X.base X.mg c P ∧ X.env.code = .ref c ∧ PySem.W.tabIn X.K x = some (c, P)
  qual : X.env.qual ++ "<lambda>" = lamQ x
  fn : ∀ y, X.fn y = true
def hasTab (h : Hm) (k : Nat) (x : PySem.Str) : Bool := match h[k]? with
  | some (.tbl y) => decide (y = x)
  | _ => false
def capB (N : List PySem.Str) (sc scope : Scope) (js : List Nat) : Bool :=
  decide (js.map (fun j => N[j]?) = (frOf scope).map some) && scope.names.all fun y => !decide (y.2 = .free) || decide (sc.names.lookup y.1 = some .cell) || decide (sc.names.lookup y.1 = some .free)
structure MAL (X : Cx) (es : List Expr) (params : Arguments) (body : Expr) (scope : Scope) (x : PySem.Str) (m : AM) : Prop where
  run : ∀ (pos : Pos) (pins : List (Addr × Obj)) (s : Shared) (σ : L2.St) (H : Hp) (μ : List Addr) (ρ : Env) (h : Hm) (ws : List Wv) (h1 : Hm) (k : Nat) (Q : List Value → Shared → Prop), Inv X pins σ H s → At (cfg X) μ h H σ ρ → m ρ h = .ok ws h1 → h1[k]? = some (.tbl x) →
    (∀ (us : List Value) (s' : Shared) (H' : Hp) (μ' : List Addr) (vs : List V) (f : Addr), Inv X pins σ H' s' → Go (cfg X) μ H (μ' ++ [f]) H' → At (cfg X) (μ' ++ [f]) (h1 ++ [.dead]) H' σ ρ → Rps (cfg X) (μ' ++ [f]) H' vs ws → Vals vs us → LamAt X H' params body scope (lamQ x) f → Q (us ++ [.ref f]) s') →
    wpAny (model X.prog X.w) X.A (spliced (backTo pos (starEach es X.env))) Q X.xe s
section
variable {X : Cx} {params : Arguments} {body : Expr} {scope : Scope} {x : PySem.Str}
def capt (ρ : Env) (js : List Nat) : Option (List Wv) := js.mapM fun j => (ρ[j]?).join
def eCallLam (m : FM) (k : Nat) (x : PySem.Str) (key : LKey) (js : List Nat) (a : AM) : EM := fun ρ => (a ρ).bind fun ws h => if hasTab h k x = true then match capt ρ js with
  | some cs => match m (ws ++ [.obj h.length]) (h ++ [.fn key cs]) with
    | .ok w h' => .ok w (h'.set h.length .dead)
    | _ => .no
  | none => .no
  else .no
def cellsX (X : Cx) (g : Heap) (fr : List PySem.Str) : Cells := fr.filterMap fun y => match X.env.cells.lookup y with
  | some x => match g.get? x with
    | some o => some (x, o)
    | none => none
  | none => none
end
end MM

set_option maxRecDepth 100000
set_option maxHeartbeats 4000000

namespace MM
open PySem PySem.Spec PyProof.Rows L2
abbrev empT : Obj := { cls := .none, data := .fields #[] }
structure OnlyT (T : List Addr) (H : Hp) : Prop where
  tab : ∀ b ∈ T, H b = some (.tbl #[])
  all : ∀ b u, H b = some u → (b ∈ T ∧ u = .tbl #[]) ∨ ∃ o xs, u = .frz o (.lst xs)
def spTab (K : PySem.W.Frag) (m : FM) (T : List (PySem.Str × Addr × Addr)) : Sp := fun vs H Q _ => ∃ (a : Addr) (ns : List Int), vs = [.ref a] ∧ ns.length ≤ 63 ∧ OnlyT (T.map (·.2.2)) H ∧ (T.map (·.2.2)).Nodup ∧ (∀ p ∈ T, PySem.W.tabIn K p.1 = some p.2) ∧ SqL K H a (ns.map V.int) ∧ (∃ h', m [.scr ns] (T.map fun p => .tbl p.1) = .ok (.bl true) h') ∧ ∀ H', Q (.bl true) H'
end MM

set_option maxRecDepth 100000
set_option maxHeartbeats 4000000

namespace MM
open PySem PySem.Spec PyProof.Rows L2
def insM : FT := fun w ws h => match w, ws with
  | .obj l, [.int i, y] => match lstOf h l with
    | some us => if us.length < sizeLine ∧ 0 ≤ i ∧ i < 2 ^ 63 then .ok .non (h.set l (.lst (us.take i.toNat ++ [y] ++ us.drop i.toNat))) else .no
    | none => .no
  | _, _ => .no
section
variable {X : Cx}
end
def lamArgs : Expr → Arguments
  | .Lambda a _ _ _ => a
  | _ => ⟨[], [], none, [], [], none, []⟩
def lamBody : Expr → Expr
  | .Lambda _ b _ _ => b
  | e => e
def lamScope : Expr → Scope
  | .Lambda _ _ s _ => s
  | _ => ⟨.function, [], false, false, []⟩
def lamPos : Expr → Pos
  | .Lambda _ _ _ p => p
  | _ => ⟨0, 0, 0, 0⟩

def codeB (o : Obj) (c P : Addr) : Bool := PySem.W.codeHdIn [(c, o)] c P
end MM

set_option maxRecDepth 100000
set_option maxHeartbeats 4000000

namespace MM
open PySem PySem.Spec PyProof.Rows L2
abbrev TabT := List (PySem.Str × List PySem.Str)
def TxtsK (K : PySem.W.Frag) (v : Value) (ys : List PySem.Str) : Prop := ∃ (p : Addr) (l : Array Value) (n : Nat) (sl : Array (Option Value)), v = .ref p ∧ K.lookup p = some ⟨.type "tuple", none, .seq l n, sl⟩ ∧ l.size ≤ 1000 ∧ Vals (ys.map V.str) l.toList
inductive RowsK (K : PySem.W.Frag) (P : Params) : List DictEntry → TabT → Prop
  | nil : RowsK K P [] []
  | cons {x : PySem.Str} {t : Tok} {v : Value} {ys : List PySem.Str} {es : List DictEntry} {tab : TabT} (h : TxtsK K v ys) (r : RowsK K P es tab) : RowsK K P (⟨PyData.keyHash P x, .str x t, v⟩ :: es) ((x, ys) :: tab)
def GTab (w : World) (K : PySem.W.Frag) (mg : PySem.Str → Option Value) (x : PySem.Str) (tab : TabT) : Prop := ∃ (d : Addr) (es : Array DictEntry) (n : Nat), mg x = some (.ref d) ∧ (d == sysModules) = false ∧ K.lookup d = some ⟨.type "dict", none, .dict es n, #[]⟩ ∧ RowsK K w.params es.toList tab
theorem RowsK.lit {K : PySem.W.Frag} {P : Params} : ∀ {es : List DictEntry} {tab : TabT}, RowsK K P es tab → PySem.W.KeysLit P es
  | _, _, .nil => trivial
  | _, _, .cons _ r => ⟨⟨_, _, rfl, rfl⟩, r.lit⟩
theorem RowsK.noRef {K : PySem.W.Frag} {P : Params} : ∀ {es : List DictEntry} {tab : TabT}, RowsK K P es tab → es.any (·.refKey) = false
  | _, _, .nil => rfl
  | _, _, .cons _ r => by rw [List.any_cons, r.noRef]; rfl
theorem RowsK.has {K : PySem.W.Frag} {P : Params} (z : PySem.Str) : ∀ {es : List DictEntry} {tab : TabT}, RowsK K P es tab → (∃ e ys, es.find? (·.key.isStr z) = some e ∧ tab.lookup z = some ys ∧ TxtsK K e.val ys) ∨ (es.find? (·.key.isStr z) = none ∧ tab.lookup z = none)
  | _, _, .nil => .inr ⟨rfl, rfl⟩
  | _, _, .cons (x := x) (t := t) (v := v) (ys := ys) (es := es) (tab := tab) h r => by
    have k : Value.isStr (Value.str x t) z = (z == x) := by
      rw [PySem.W.isStr_of]
      by_cases q : x = z
      · subst q; simp [Value.isStrOf]
      · have q' : ¬ z = x := fun e => q e.symm
        rw [show (z == x) = false from by simpa using q']
        simpa [Value.isStrOf] using q
    by_cases q : (z == x) = true
    · refine .inl ⟨_, ys, List.find?_cons_of_pos (by show Value.isStr _ z = true; rw [k]; exact q), ?_, h⟩
      rw [List.lookup_cons, q]
    · have q2 : (z == x) = false := by simpa using q
      rcases r.has z with ⟨e, ys', h1, h2, h3⟩ | ⟨h1, h2⟩
      · refine .inl ⟨e, ys', ?_, ?_, h3⟩
        · rw [List.find?_cons_of_neg (by show ¬ Value.isStr _ z = true; rw [k]; exact q)]; exact h1
        · rw [List.lookup_cons, q2]; exact h2
      · refine .inr ⟨?_, ?_⟩
        · rw [List.find?_cons_of_neg (by show ¬ Value.isStr _ z = true; rw [k]; exact q)]; exact h1
        · rw [List.lookup_cons, q2]; exact h2
theorem gtab_at {w : World} {K : PySem.W.Frag} {d : Addr} {es : Array DictEntry} {n : Nat} {tab : TabT} (hl : K.lookup d = some ⟨.type "dict", none, .dict es n, #[]⟩) (r : RowsK K w.params es.toList tab) (z : PySem.Str) : (∃ u ys, PySem.W.nsIn K d z = some (some u) ∧ tab.lookup z = some ys ∧ TxtsK K u ys) ∨ (PySem.W.nsIn K d z = some none ∧ tab.lookup z = none) := by
  unfold PySem.W.nsIn
  rw [hl]
  rcases r.has z with ⟨e, ys, h1, h2, h3⟩ | ⟨h1, h2⟩
  · exact .inl ⟨e.val, ys, by simp only [h1], h2, h3⟩
  · exact .inr ⟨by simp only [h1, r.noRef]; rfl, h2⟩
def inG (b : Bool) (x : PySem.Str) (tab : TabT) : F2 := fun u v h => match u, v with
  | .str z, .glob y => if y = x then .ok (.bl (b != (tab.lookup z).isSome)) h else .no
  | _, _ => .no
def ixG (x : PySem.Str) (tab : TabT) : F2 := fun u v h => match u, v with
  | .glob y, .str z => if y = x then (match tab.lookup z with | some ys => .ok (.ptp (ys.map .str)) h | none => .no) else .no
  | _, _ => .no
theorem okOk {α : Type} {a b : α} {h h' : Hm} (e : Out.ok a h = .ok b h') : b = a ∧ h' = h := by cases e; exact ⟨rfl, rfl⟩
theorem rps_txt {c : Cfg} {μ : List Addr} {H : Hp} : ∀ ys : List PySem.Str, Rps c μ H (ys.map V.str) (ys.map Wv.str)
  | [] => .nil
  | y :: ys => .cons (.str y) (rps_txt ys)
section
variable {X : Cx} {x : PySem.Str} {tab : TabT} {a : Expr} {ma : EM} {pos p2 : Pos}
theorem mt_notInG (G : GTab X.w X.K X.mg x tab) (hg : Gl X x) (ha : ME X a ma) (hd : (x == ("__debug__" : PySem.Str)) = false := by decide) (hm : behindInMarks .NotIn (.Name x p2) = false := by rfl) : MT X (.Compare a [.NotIn] [.Name x p2] pos) (tOf (eOp (inG true x tab) ma (eC (.glob x)))) := by
  obtain ⟨d, es, n, m, s, hl, r⟩ := G
  refine mt_cmp (op_notIn_kd ⟨hl, r.lit, s⟩) ?_ ha (me_globE hg ⟨d, m⟩ hd) hm
  intro μ h H v1 v2 w1 w2 w' h' Q R p1 p2 e nx
  unfold inG at e
  split at e
  · next z y =>
    obtain ⟨ey, e2⟩ := ifD_ok' e
    subst ey
    obtain ⟨rfl, rfl⟩ := okOk e2
    cases p1
    cases p2 with
    | glob hq =>
      have hq : X.mg y = _ := hq
      rw [m] at hq
      cases hq
      rcases gtab_at hl r z with ⟨u, ys, h1, h2, _⟩ | ⟨h1, h2⟩
      · exact ⟨z, some u, rfl, rfl, h1, by rw [h2] at nx; exact nx.now R (.bl _)⟩
      · exact ⟨z, none, rfl, rfl, h1, by rw [h2] at nx; exact nx.now R (.bl _)⟩
  · cases e
theorem me_ixG (G : GTab X.w X.K X.mg x tab) (hg : Gl X x) (ha : ME X a ma) (hs : PlainIx a) (hd : (x == ("__debug__" : PySem.Str)) = false := by decide) : ME X (.Subscript (.Name x p2) a pos) (eOp (ixG x tab) (eC (.glob x)) ma) := by
  obtain ⟨d, es, n, m, s, hl, r⟩ := G
  refine me_ix ix_kdict ?_ (me_globE hg ⟨d, m⟩ hd) ha hs
  intro μ h H v1 v2 w1 w2 w' h' Q R p1 p2 e nx
  unfold ixG at e
  split at e
  · next y z =>
    obtain ⟨ey, e2⟩ := ifD_ok' e
    subst ey
    cases p2
    cases p1 with
    | glob hq =>
      have hq : X.mg y = _ := hq
      rw [m] at hq
      cases hq
      rcases gtab_at hl r z with ⟨u, ys, h1, h2, h3⟩ | ⟨h1, h2⟩
      · rw [h2] at e2
        obtain ⟨rfl, rfl⟩ := okOk e2
        obtain ⟨p, l, k, sl, rfl, q1, q2, q3⟩ := h3
        exact ⟨_, z, .ref p, rfl, rfl, ⟨es, n, .ref p, hl, r.lit, h1, rfl⟩, nx.now R (.ptp (.inr ⟨_, l, k, q1, rfl, rfl, rfl, Nat.le_trans q2 (by rw [sizeLine_eq]; omega), q3⟩) (rps_txt ys))⟩
      · rw [h2] at e2; cases e2
  · cases e
end
section
variable {h : Hm} {x z : PySem.Str} {tab : TabT} {Q : Wv → Hm → Prop} {b : Bool}
theorem wp_inG : wpM (inG b x tab (.str z) (.glob x)) h Q ↔ Q (.bl (b != (tab.lookup z).isSome)) h := wp_ok (by unfold inG; simp only [if_true])
theorem wp_ixG {ys : List PySem.Str} (e : tab.lookup z = some ys) : wpM (ixG x tab (.glob x) (.str z)) h Q ↔ Q (.ptp (ys.map .str)) h := wp_ok (by unfold ixG; simp only [if_true, e])
end
theorem gtab_of {w : World} {K : PySem.W.Frag} {mg : PySem.Str → Option Value} {h : Heap} {x : PySem.Str} {tab : TabT} (Y : K.In h) (G : h.Ns mainGlobals mg) (T : ∃ (d : Addr) (es : Array DictEntry) (n : Nat), PySem.W.nsIn K mainGlobals x = some (some (.ref d)) ∧ (d == sysModules) = false ∧ K.lookup d = some ⟨.type "dict", none, .dict es n, #[]⟩ ∧ RowsK K w.params es.toList tab) : GTab w K mg x tab := by
  obtain ⟨d, es, n, a, b, c, r⟩ := T
  exact ⟨d, es, n, PySem.W.mg_of Y G a, b, c, r⟩
end MM

set_option maxRecDepth 100000
set_option maxHeartbeats 4000000

namespace MM
open PySem PySem.Spec PyProof.Rows L2
theorem first_rest {prog : Program} {w : World} {A : Around} {E : Value → Shared → Prop} {s : Shared} {l : Addr} {u : Value} {us : List Value} {Q : List Value → Shared → Prop} (hh : A.handled = none) (hl : s.heap.IsList l (u :: us).toArray) (hz : us.length + 1 ≤ sizeLine)
    (q : ∀ (h' : Heap) (tk : Nat), (∀ b o, s.heap.get? b = some o → h'.get? b = some o) → Q [u, .ref h'.objs.size] { s with heap := h'.push { cls := .type "list", data := .seq us.toArray }, toks := tk }) : wpAny (model prog w) A (unpackItems (.ref l) 2 (some 1)) Q E s := by
  obtain ⟨ol, el, rl⟩ := hl
  have low : l ≠ s.heap.objs.size := Nat.ne_of_lt (Heap.lt_size el)
  have L0 : s.heap.IsList l (u :: us).toArray := ⟨ol, el, rl⟩
  unfold unpackItems notIterableAtAll
  refine wpAny_bind (wpAny_bind (wpAny_specialOf L0.typeIs slot_list_iter.lookup (wpAny_pure ?_)))
  rw [if_neg (by decide)]
  refine wpAny_bind (wpAny_holding (wpAny_pyIter_list L0 ?_))
  refine wpAny_bind (wpAny_holding (PySem.W.kun_draw low 1 0 _ _ ⟨_, Heap.get?_push_size _ rfl, rfl, rfl⟩ (L0.push _) (by simp) fun h1 i1 s1 => ?_))
  have e1 : ((u :: us).toArray.toList.drop 0).take 1 = [u] := rfl
  rw [e1]
  rw [if_neg (show ¬ ([u].length < 1) by simp)]
  have L1 : h1.IsList l (u :: us).toArray := (L0.push _).extBut s1.extBut low
  have b1 : l < h1.objs.size := L1.elim fun o z => Heap.lt_size z.1
  have b2 : s.heap.objs.size < h1.objs.size := i1.elim fun o z => Heap.lt_size z.1
  refine wpAny_bind (wpAny_holding (PySem.W.kun_collect (s := { s with heap := h1 }) (T := "list_iterator") (k := 1) (.inr (.inr (.inl rfl))) (Walks.list (A := A.in1) hh s.heap.objs.size l low (u :: us).toArray) (fun j v z => z.1.typeIs) (by simp) ⟨i1, L1⟩ b2 b1 (fun h2 tk kp => ?_) (by simpa using hz)))
  have e2 : (u :: us).toArray.toList.drop 1 = us := rfl
  rw [e2]
  rw [if_neg (by simp)]
  refine wpAny_bind (wpAny_newList (wpAny_pure ?_) (by simp; omega))
  have e3 : us.length - (2 - 1 - 1) = us.length := by omega
  rw [e3, List.take_length, List.drop_length]
  exact q h2 tk fun b o e => kp b o (Nat.ne_of_lt (Heap.lt_size e)) (s1.extBut b o (Nat.ne_of_lt (Heap.lt_size e)) (Heap.get?_push_of_some _ e))
def gUnS (K : PySem.W.Frag) (t : TGs) : TG := fun v σ H Q => ∃ a x xs, v = .ref a ∧ SqL K H a (x :: xs) ∧ xs.length + 1 ≤ 1000 ∧ ∀ p, H p = none → t [x, .ref p] σ (upd H p (.lst xs)) Q
theorem pg_uns {X : Cx} {es : List Expr} {k : Nat} {t : TGs} {pos : Pos} (hc : X.calm = true) (h : PGs X es t) (hn : (assignEach es X.env).length = 2 := by rfl) (hst : (assignEach es X.env).findIdx? (·.1) = some 1 := by rfl) : PG X (.Tuple es k pos) (gUnS X.K t) := ⟨fun pins s σ H v u Q I r hw => by
  obtain ⟨a, x, xs, rfl, hq, hz, hw⟩ := hw
  cases r
  obtain ⟨its, rv, pl, _⟩ := I.list hq
  obtain ⟨u, us, rfl, rx, rs⟩ : ∃ u us, its = u :: us ∧ RelV x u ∧ Vals xs us := by
    have z : Vals (x :: xs) its := rv
    cases z with
    | cons rx rs => exact ⟨_, _, rfl, rx, rs⟩
  have hl : s.heap.IsList a (u :: us).toArray := pl.elim fun o z => z.elim fun m z => ⟨o, z.1, z.2.1, m, z.2.2.2⟩
  have hz2 : us.length ≤ sizeLine ∧ us.length + 1 ≤ sizeLine := by rw [← rs.length, sizeLine_eq]; omega
  rw [PyProof.Rows.assign_Tuple]
  refine wpAny_bind (wpAny_standAt ?_)
  unfold unpack
  rw [hn, hst]
  refine wpAny_bind (wpAny_holding (first_rest (I.ok.hd hc) hl hz2.2 fun h' tk kp => ?_))
  have I1 : Inv X pins σ H { s with heap := h', toks := tk } := I.kept kp
  have f := I1.hok.fresh (Nat.le_refl _)
  refine h.run pins _ σ (upd H h'.objs.size (.lst xs)) _ _ Q (I1.laid (t' := tk) (fun b o e => Heap.get?_push_of_some _ e) (Nat.le_refl _) ?_) (.cons rx (.cons (a := V.ref h'.objs.size) rfl .nil)) (hw _ f)
  exact ⟨by rw [rs.length]; exact hz2.1, us, 0, rs, Heap.get?_push_size _ rfl⟩⟩
theorem pgs_star {X : Cx} {s e : Expr} {es : List Expr} {t : TG} {r : TGs} (h1 : PG X e t) (h2 : PGs X es r) (hs : (assignEach (s :: es) X.env).map (·.2) = assign e X.env :: (assignEach es X.env).map (·.2) := by rfl) : PGs X (s :: es) (gCons t r) := ⟨fun pins z σ H vs us Q I rv g => by
  obtain ⟨v, vr, rfl, g⟩ := g
  cases rv with
  | cons ra rb =>
    rw [hs]
    exact assignInOrder_cons (thn (h1.run pins z σ H v _ _ I ra g) fun _ z1 y => y.elim fun σ1 y => y.elim fun H1 y => h2.run pins z1 σ1 H1 vr _ Q y.1 rb y.2)⟩
def gR (g : GMs) : GM := fun w ρ h => match w with
  | .obj i => match rdL h i with
    | some (x :: xs) => if xs.length + 1 ≤ 1000 then g [x, .obj h.length] ρ (h ++ [.lst xs]) else .no
    | _ => .no
  | _ => .no
section
variable {X : Cx}
theorem mgs_star {sl : List Nat} {s e : Expr} {es : List Expr} {g : GM} {r : GMs} (h1 : MG X sl e g) (h2 : MGs X sl es r) (hs : (assignEach (s :: es) X.env).map (·.2) = assign e X.env :: (assignEach es X.env).map (·.2) := by rfl) : MGs X sl (s :: es) (gsCons g r) :=
  PGs.imp (pgs_star h1 h2 hs) fun v σ H Q ⟨μ, ρ, h, ws, ρ', h', A, p, e, n⟩ => by
    cases p with
    | nil => cases e
    | @cons v vs w ws p t =>
      obtain ⟨ρ1, h1, e1, e⟩ := bind_ok e
      exact ⟨v, vs, rfl, μ, ρ, h, w, ρ1, h1, A, p, e1, fun μ1 σ1 H1 g1 A1 w1 => ⟨μ1, ρ1, h1, ws, ρ', h', A1, t.go g1, e, fun μ2 σ2 H2 g2 A2 w2 => n μ2 σ2 H2 (g1.trans g2) A2 (w2.trans w1)⟩⟩
theorem mg_uns {sl : List Nat} {es : List Expr} {k : Nat} {g : GMs} {pos : Pos} (hc : X.calm = true) (hg : MGs X sl es g) (hn : (assignEach es X.env).length = 2 := by rfl) (hst : (assignEach es X.env).findIdx? (·.1) = some 1 := by rfl) : MG X sl (.Tuple es k pos) (gR g) :=
  PG.imp (pg_uns hc hg hn hst) fun v σ H Q ⟨μ, ρ, h, w, ρ', h', A, p, e, nx⟩ => by
    unfold gR at e
    cases w with
    | obj i =>
      simp only at e
      split at e
      · next x xs q =>
        obtain ⟨l, e⟩ := ifD_ok' e
        obtain ⟨a, rfl, ha⟩ := p.obj_inv
        obtain ⟨vs, hq, r⟩ := rdL_to A.rel ha q
        cases r with
        | @cons v vs _ _ rx rs =>
          refine ⟨a, v, vs, rfl, hq, by rw [rs.length]; exact l, fun b nb => ?_⟩
          obtain ⟨g1, R1⟩ := A.rel.lay nb (o := .lst xs) (u := .lst vs) fun μ' H' g => ⟨vs, rfl, rs.mv g⟩
          exact ⟨μ ++ [b], ρ, _, [x, .obj h.length], ρ', h', A.go g1 R1, .cons (rx.go g1) (.cons (.obj (by rw [← A.rel.len]; simp)) .nil), e, fun μ2 σ2 H2 g2 A2 w2 => nx μ2 σ2 H2 (g1.trans g2) A2 w2⟩
      · cases e
    | _ => cases e
end
theorem wp_gR {h : Hm} {i : Nat} {g : GMs} {ρ : Env} {Q : Env → Hm → Prop} {x : Wv} {xs : List Wv} (e : rdL h i = some (x :: xs)) (l : xs.length + 1 ≤ 1000) : wpM (gR g (.obj i) ρ) h Q ↔ wpM (g [x, .obj h.length] ρ) (h ++ [.lst xs]) Q := by
  have : gR g (.obj i) ρ h = g [x, .obj h.length] ρ (h ++ [.lst xs]) := by unfold gR; simp only [e, l, if_true]
  unfold wpM
  rw [this]
end MM

set_option maxRecDepth 100000
set_option maxHeartbeats 4000000

namespace MM
open PySem PySem.Spec PyProof.Rows L2
structure DvQ (P : Program) (w : World) (K : PySem.W.Frag) (mg : PySem.Str → Option Value) (base : Heap) (k : Nat) (p : PySem.Str × FM) : Prop where
  ex : (∃ j, Df P w K mg base k p.1 j p.2 ∧ Arity j p.2) ∨ mg p.1 = none
section
variable {P : Program} {w : World} {K : PySem.W.Frag} {mg : PySem.Str → Option Value} {base : Heap}
theorem dq_nil {k : Nat} : ∀ q ∈ ([] : List (PySem.Str × FM)), DvQ P w K mg base k q := fun q h => absurd h (by simp)
theorem dq_cons {k j n : Nat} {x : PySem.Str} {m : FM} {tab : List (PySem.Str × FM)} (d : Df P w K mg base j x n m) (a : Arity n m) (h : j ≤ k) (t : ∀ q ∈ tab, DvQ P w K mg base k q) : ∀ q ∈ (x, m) :: tab, DvQ P w K mg base k q := fun q hq => by
  rcases List.mem_cons.mp hq with rfl | hq
  · exact ⟨.inl ⟨n, d.mono h, a⟩⟩
  · exact t q hq
theorem dq_no {k : Nat} {x : PySem.Str} {m : FM} {tab : List (PySem.Str × FM)} (d : mg x = none) (t : ∀ q ∈ tab, DvQ P w K mg base k q) : ∀ q ∈ (x, m) :: tab, DvQ P w K mg base k q := fun q hq => by
  rcases List.mem_cons.mp hq with rfl | hq
  · exact ⟨.inr d⟩
  · exact t q hq
end
theorem me_cvQ {X : Cx} {i k : Nat} {x : PySem.Str} {p pos : Pos} {e : Expr} {es : List Expr} {tab : List (PySem.Str × FM)} {ma : AM} (d : ∀ q ∈ tab, DvQ X.prog X.w X.K X.mg X.base k q) (hr : Room k X.A) (hN : X.N[i]? = some x) (hv : Vis X.env.scope x) (ha : MA X (e :: es) ma)
    (hd : (x == ("__debug__" : PySem.Str)) = false := by decide) (hcd : (x == ("__classdict__" : PySem.Str)) = false := by decide)
    (he : starEach (e :: es) X.env = (false, eval e X.env) :: starEach es X.env := by rfl) (hpl : (backTo pos (starEach es X.env)).any (·.1) = false := by rfl) : ME X (.Call (.Name x p) (e :: es) [] pos) (eCallV tab i ma) := by
  have fam : ∀ z : { q : (PySem.Str × FM) × Addr × Nat // q.1 ∈ tab ∧ X.mg q.1.1 = some (.ref q.2.1) ∧ C8.CalAt X.prog X.w X.K X.mg X.base k q.2.1 (spF (cfg X) q.2.2 q.1.2) ∧ Arity q.2.2 q.1.2 }, PE X (.Call (.Name x p) (e :: es) [] pos) (C8.tCallV i z.1.2.1 z.1.2.1 (spF (cfg X) z.1.2.2 z.1.1.2) (spF (cfg X) z.1.2.2 z.1.1.2) (mA (cfg X) ma)) :=
    fun z => C8.pe_cv z.2.2.2.1 z.2.2.2.1 hr (Nat.le_refl _) (Nat.le_refl _) hN hv ha hd hcd he hpl
  refine PE.imp (PE.some fam) fun σ H Q ⟨μ, ρ, h, w, h', A, e, n⟩ => ?_
  obtain ⟨w0, h0, e0, f0⟩ := bind_ok e
  obtain ⟨ws, h1, e1, f1⟩ := bind_ok f0
  clear e f0
  unfold eVar at e0
  split at e0
  case h_2 => cases e0
  next w0' q0 =>
  cases e0
  obtain ⟨v, hv2, pv⟩ := A.sl.at q0
  cases w0 with
  | glob x0 =>
    unfold callV at f1
    cases q : tab.lookup x0 with
    | none => simp only [q] at f1; cases f1
    | some f =>
      simp only [q] at f1
      obtain ⟨a, rfl, hm⟩ := pv.glob_inv
      have hm : X.mg x0 = some (.ref a) := hm
      rcases (d _ (lookup_mem q)).ex with ⟨j, df, ar⟩ | no
      · obtain ⟨fa, fd, ps, hm2, kp, b, F⟩ := df.ex
        rw [hm] at hm2
        cases hm2
        exact ⟨⟨((x0, f), a, j), lookup_mem q, hm, ⟨fd, ps, F, kp, b⟩, ar⟩, .inl ⟨hv2, mA_first A e1 fun μ1 vs H1 g1 A1 p1 => ⟨μ1, h1, ws, w, h', A1.rel, p1, ar _ _ _ _ f1, f1, n.after g1⟩⟩⟩
      · have no : X.mg x0 = none := no
        rw [hm] at no; cases no
  | _ => unfold callV at f1; cases f1
end MM

set_option maxRecDepth 100000
set_option maxHeartbeats 4000000

namespace MM
open PySem PySem.Spec PyProof.Rows L2
def sPar3 (i j l : Nat) (a : AM) : SM := fun ρ => (a ρ).bind fun ws => match ws with
  | [x, y, z] => M.pure (.nx, ((ρ.set i (some x)).set j (some y)).set l (some z))
  | _ => M.no
theorem ms_par3 {X : Cx} {i j l : Nat} {x y z : PySem.Str} {a b c : Expr} {m : AM} {px py pz pt pos : Pos} {kt k2 pt2} (hc : X.calm = true) (hN : X.N.Nodup) (hi : X.N[i]? = some x) (hj : X.N[j]? = some y) (hl : X.N[l]? = some z) (hij : i ≠ j) (hil : i ≠ l) (hjl : j ≠ l)
    (hx : X.env.scope.names.lookup x = some .local) (hy : X.env.scope.names.lookup y = some .local) (hz : X.env.scope.names.lookup z = some .local) (ha : MA X [a, b, c] m)
    (hw : swappedStores [.Tuple [.Name x px, .Name y py, .Name z pz] kt pt] (.Tuple [a, b, c] k2 pt2) X.env = pure (some [x, y, z]))
    (hs : swapsWithSole [.Tuple [.Name x px, .Name y py, .Name z pz] kt pt] (.Tuple [a, b, c] k2 pt2) pos.line X.env = pure false := by rfl) :
    MS X (.Assign [.Tuple [.Name x px, .Name y py, .Name z pz] kt pt] (.Tuple [a, b, c] k2 pt2) pos) (sPar3 i j l m) := PS.imp (ps_par3 hc hN hi hj hl hij hil hjl hx hy hz ha hw hs) fun D σ H ⟨μ, ρ, h, fl, ρ', h', A, e, n⟩ => by
  obtain ⟨ws, h1, e1, e⟩ := bind_ok e
  refine mA_first A e1 fun μ1 vs H1 g1 A1 p1 => ?_
  match ws, vs, p1, e with
  | [w1, w2, w3], [v1, v2, v3], .cons p (.cons q (.cons r .nil)), e =>
    cases e
    exact ⟨v1, v2, v3, rfl, (n.after g1) μ1 _ H1 (Go.refl ..) ⟨A1.rel, RpS.set (v := some v3) (w := some w3) r l (RpS.set (v := some v2) (w := some w2) q j (RpS.set (v := some v1) (w := some w1) p i A1.sl))⟩⟩
theorem wp_par3 {h : Hm} {ρ : Env} {i j l : Nat} {a : AM} {Q : Fl × Env → Hm → Prop} : wpM (sPar3 i j l a ρ) h Q ↔ wpM (a ρ) h fun ws h1 => ∃ x y z, ws = [x, y, z] ∧ Q (.nx, ((ρ.set i (some x)).set j (some y)).set l (some z)) h1 := by
  unfold sPar3; simp only [wp_bind]
  constructor <;> intro w <;> refine wp_mono w fun ws h1 q => ?_
  · match ws, q with
    | [x, y, z], q => exact ⟨x, y, z, rfl, wp_pure.mp q⟩
    | [], q => exact (wp_no.mp q).elim
    | [_], q => exact (wp_no.mp q).elim
    | [_, _], q => exact (wp_no.mp q).elim
    | _ :: _ :: _ :: _ :: _, q => exact (wp_no.mp q).elim
  · obtain ⟨x, y, z, rfl, q⟩ := q
    exact wp_pure.mpr q
end MM

set_option maxRecDepth 100000
set_option maxHeartbeats 4000000

namespace RQ
open PySem PySem.Spec PyProof.Rows L2
open AutoSeq1 (wpAny_loadPart')
abbrev lIt (a : Addr) : Obj := { cls := .type "list_iterator", data := .fields #[.ref a, .int 0 0] }
abbrev mZ1 (g : Heap) (a : Addr) : Heap := g.push (lIt a)
abbrev mZ2 (g : Heap) (a b : Addr) : Heap := (mZ1 g a).push (tIt b)
abbrev mZ3 (g : Heap) (a b : Addr) : Heap := (mZ2 g a b).push { cls := .type "tuple", data := .seq #[.ref g.objs.size, .ref (mZ1 g a).objs.size] }
abbrev mZ4 (g : Heap) (a b : Addr) : Heap := (mZ3 g a b).push { cls := .type "tuple", data := .seq #[.none, .none] }
abbrev mZ5 (g : Heap) (a b : Addr) : Heap := (mZ4 g a b).push { cls := .type "zip", data := .fields #[.none, .bool false, .bool false, .ref (mZ2 g a b).objs.size, .ref (mZ3 g a b).objs.size] }
theorem zipLT_new (a b : Addr) (us vs : Array Value) :
    Meets (Builtin.«zip.__new__» ⟨[.type "zip", .ref a, .ref b], []⟩) (fun _ R t => (t.heap.IsList a us ∧ t.heap.IsTuple b vs) ∧ R (.ok (.ret (.ref (mZ4 t.heap a b).objs.size))) { t with heap := mZ5 t.heap a b }) :=
  .of_wp fun prog w A R t ⟨⟨ha, hb⟩, q⟩ => by
    obtain ⟨g, gd, dd, tk, os⟩ := t
    have su := sub_zip
    have ya : Heap.IsList (Shared.heap ⟨g, gd, dd, tk, os⟩) a us := ha
    have yb : Heap.IsTuple (Shared.heap ⟨mZ1 g a, gd, dd, tk, os⟩) b vs := Heap.IsTuple.push hb _
    wp_walk using wpAny_pyIter_list ya, wpAny_pyIter_tuple yb
    exact ⟨_, rfl, q⟩
section
variable {prog : Program} {w : World} {A : Around} {E : Value → Shared → Prop} {t : Shared}
theorem call_zipLT {a b : Addr} {us vs : Array Value} {Q : Value → Shared → Prop} (ha : t.heap.IsList a us) (hb : t.heap.IsTuple b vs)
    (q : ∀ g', IsZip g' (t.heap.objs.size + 4) (t.heap.objs.size + 2) (t.heap.objs.size + 3) .none ∧ IsPair g' (t.heap.objs.size + 2) (.ref t.heap.objs.size) (.ref (t.heap.objs.size + 1)) ∧ IsPair g' (t.heap.objs.size + 3) .none .none ∧
      g'.IsListIter t.heap.objs.size a 0 ∧ g'.IsTupleIter (t.heap.objs.size + 1) b 0 → (∀ c o, t.heap.get? c = some o → g'.get? c = some o) → Q (.ref (t.heap.objs.size + 4)) { t with heap := g' }) :
    wpAny (model prog w) A (call (.type "zip") [.ref a, .ref b]) Q E t := by
  refine callType_new F.called_zip (by decide) (F.typeCall_zip_2 _ _) (F.newCall_zip_2 _ _) (fun ob => F.args_object_init_3 ob _ _) F.entry_zip_new (zipLT_new a b us vs) ⟨⟨ha, hb⟩, ?_⟩
  have n1 : (mZ1 t.heap a).objs.size = t.heap.objs.size + 1 := Heap.size_push ..
  have n2 : (mZ2 t.heap a b).objs.size = t.heap.objs.size + 2 := (Heap.size_push ..).trans (by rw [n1])
  have n3 : (mZ3 t.heap a b).objs.size = t.heap.objs.size + 3 := (Heap.size_push ..).trans (by rw [n2])
  have n4 : (mZ4 t.heap a b).objs.size = t.heap.objs.size + 4 := (Heap.size_push ..).trans (by rw [n3])
  have on : ∀ {h0 : Heap} {o p : Obj} {x : Addr}, h0.get? x = some o → (h0.push p).get? x = some o := fun {h0 o p x} y => Heap.get?_push_of_some _ y
  have k5 : IsZip (mZ5 t.heap a b) (t.heap.objs.size + 4) (t.heap.objs.size + 2) (t.heap.objs.size + 3) .none := by
    have y : (mZ5 t.heap a b).get? (mZ4 t.heap a b).objs.size = some _ := Heap.get?_push_size _ rfl
    rw [n2, n3, n4] at y
    exact y
  have k4 : IsPair (mZ5 t.heap a b) (t.heap.objs.size + 3) .none .none := by
    have y : (mZ4 t.heap a b).get? (mZ3 t.heap a b).objs.size = some _ := Heap.get?_push_size _ rfl
    rw [n3] at y
    exact on y
  have k3 : IsPair (mZ5 t.heap a b) (t.heap.objs.size + 2) (.ref t.heap.objs.size) (.ref (t.heap.objs.size + 1)) := by
    have y : (mZ3 t.heap a b).get? (mZ2 t.heap a b).objs.size = some _ := Heap.get?_push_size _ rfl
    rw [n1, n2] at y
    exact on (on y)
  have k2 : (mZ5 t.heap a b).get? (t.heap.objs.size + 1) = some (tIt b) := by
    have y : (mZ2 t.heap a b).get? (mZ1 t.heap a).objs.size = some _ := Heap.get?_push_size _ rfl
    rw [n1] at y
    exact on (on (on y))
  have k1 : (mZ5 t.heap a b).get? t.heap.objs.size = some (lIt a) := on (on (on (on (Heap.get?_push_size _ rfl))))
  show _ ∧ _
  rw [n4]
  exact ⟨⟨_, k5, rfl⟩, q _ ⟨k5, k3, k4, ⟨_, k1, rfl, rfl⟩, _, k2, rfl, rfl⟩ fun c o y => on (on (on (on (on y))))⟩
end
def ItZ2 (sq sq2 : Hp → List V → Prop) (n m : Nat) : It where
  go i H := ∃ xs ys, (sq H xs ∧ xs.length = n) ∧ (sq2 H ys ∧ ys.length = m) ∧ i < n ∧ i < m
  yld i H v H' := ∃ T, H T = none ∧ v = .ref T ∧ ∃ x y, (∀ xs, sq H xs → xs[i]? = some x) ∧ (∀ ys, sq2 H ys → ys[i]? = some y) ∧ H' = upd H T (.tup [x, y])
  stop i H := ∃ xs ys, (sq H xs ∧ xs.length = n) ∧ (sq2 H ys ∧ ys.length = m) ∧ (n ≤ i ∨ m ≤ i)
structure ZAt (h : Heap) (z p r i j : Addr) : Prop where
  zz : IsZip h z p r .none
  ins : IsPair h p (.ref i) (.ref j)
  out : ∃ x y, IsPair h r x y
theorem zip_comes {X : Cx} {pins : List (Addr × Obj)} {σ : L2.St} {H : Hp} {s : Shared} {z p r i j : Addr} {h1 h2 : Heap} {t2 : Nat} {x y : V} {u v : Value} (I : Inv X pins σ H s) (fp : ∀ b ∈ [z, p, r, i, j], FpOk X pins H b)
    (le : z < s.heap.objs.size) (made : IsTupOf2 h1 s.heap.objs.size u v) (ru : RelV x u) (rv : RelV y v) (old : ∀ b o, b ≠ z → b ≠ r → b ≠ i → b ≠ j → s.heap.get? b = some o → h1.get? b = some o) (sb : Heap.SameBut z h1 h2) :
    Inv X pins σ (upd H s.heap.objs.size (.tup [x, y])) { s with heap := h2, toks := t2 } := by
  refine I.turnedNew (ch := [z, p, r, i, j]) (fun b o nb g => ?_) fp (Nat.le_refl _) ⟨by show 2 ≤ sizeLine; decide, [u, v], .cons ru (.cons rv .nil), ?_⟩
  · have ne : b ≠ z ∧ b ≠ r ∧ b ≠ i ∧ b ≠ j := by refine ⟨?_, ?_, ?_, ?_⟩ <;> (intro q; apply nb; simp [q])
    exact (sb.2 b ne.1).trans (old b o ne.1 ne.2.1 ne.2.2.1 ne.2.2.2 g)
  · exact ⟨_, (sb.2 _ (Nat.ne_of_gt le)).trans made, rfl, _, rfl⟩
theorem Feed.zip {P : Program} {w : World} {K : PySem.W.Frag} {sq sq2 : Hp → List V → Prop} {z p r i j : Addr} {fp fp2 : List Addr} {St St2 : Nat → Heap → Prop} {elts : List Expr} {kk n m : Nat} {tpos : Pos} (F : Feed P w K sq i fp St) (G : Feed P w K sq2 j fp2 St2) (S : ZipSep2 z p r i j fp fp2) :
    Turn P w K (.Tuple elts kk tpos) (ItZ2 sq sq2 n m) [z, p, r, i, j] z (fun k h => ((St k h ∧ k ≤ n) ∧ St2 k h ∧ k ≤ m) ∧ ZAt h z p r i j) := by
  have each : ∀ {p0 : Addr → Prop}, p0 z → p0 p → p0 r → p0 i → p0 j → ∀ b ∈ [z, p, r, i, j], p0 b := fun a1 a2 a3 a4 a5 b hb => by
    simp only [List.mem_cons, List.not_mem_nil, or_false] at hb
    rcases hb with e | e | e | e | e <;> (rw [e]; assumption)
  refine ⟨List.mem_cons_self .., fun k h st => each ⟨_, st.2.zz, fun v q => nomatch q⟩ ⟨_, st.2.ins, fun v q => nomatch q⟩ ?_ (F.own k h st.1.1.1) (G.own k h st.1.2.1), fun k h h' st kp => ?_, ?_, ?_, fun A k s Q E st h => wpAny_pyIter_zip st.2.zz h⟩
  · obtain ⟨x, y, q⟩ := st.2.out
    exact ⟨_, q, fun v q => nomatch q⟩
  · obtain ⟨⟨⟨s1, l1⟩, s2, l2⟩, Z⟩ := st
    obtain ⟨x, y, q⟩ := Z.out
    exact ⟨⟨⟨F.stays k h h' s1 fun o => kp i (by simp) o, l1⟩, G.stays k h h' s2 fun o => kp j (by simp) o, l2⟩, kp z (by simp) _ Z.zz, kp p (by simp) _ Z.ins, x, y, kp r (by simp) _ q⟩
  · rintro X xp xw xk hc k pins s σ H E I hf ⟨⟨⟨s1, l1⟩, s2, l2⟩, Z⟩ ⟨xs, ys, ⟨hq, hx⟩, ⟨hq2, hy⟩, hn, hm⟩
    obtain ⟨uniq, its, St', rv, D, up, down⟩ := F.gives X xp xw xk hc pins s σ H I xs hq
    obtain ⟨uniq2, its2, St2', rv2, D2, up2, down2⟩ := G.gives X xp xw xk hc pins s σ H I ys hq2
    have hi : k < xs.length := by rw [hx]; exact hn
    have hj : k < ys.length := by rw [hy]; exact hm
    obtain ⟨u, hu, ru⟩ := rv.get (List.getElem?_eq_getElem hi)
    obtain ⟨v, hv, rw2⟩ := rv2.get (List.getElem?_eq_getElem hj)
    obtain ⟨x0, y0, hr⟩ := Z.out
    subst xp xw
    have le := Heap.lt_size Z.zz
    refine wpAny_pyNext_zipD2_item S D D2 Z.zz Z.ins hr (up k s1) (up2 k s2) (by rw [← rv.length]; exact hi) (by rw [← rv2.length]; exact hj) fun u' v' h1 tk hu' hv' out pr t1 t2 made _ old => ⟨_, rfl, ?_⟩
    cases hu.symm.trans hu'
    cases hv.symm.trans hv'
    refine wpAny_letOwnedTupleGo_zip (s := { s with heap := h1, toks := tk }) out fun h2 z2 sb => ⟨.ref s.heap.objs.size, _, zip_comes (s := s) I hf le made ru rw2 old sb, rfl, ?_, ?_, ?_⟩
    · exact ⟨_, I.hok.fresh (Nat.le_refl _), rfl, xs[k], ys[k], fun l hl => by rw [uniq l hl]; exact List.getElem?_eq_getElem hi, fun l hl => by rw [uniq2 l hl]; exact List.getElem?_eq_getElem hj, rfl⟩
    · refine ⟨⟨⟨F.stays _ _ _ (down _ _ t1) fun o g => (sb.2 i S.zi1.symm).trans g, hn⟩, G.stays _ _ _ (down2 _ _ t2) fun o g => (sb.2 j S.zi2.symm).trans g, hm⟩, z2, ?_, _, _, (sb.2 r S.TOz).trans pr⟩
      exact (sb.2 p S.TIz).trans (old p _ S.TIz S.TITO S.TIi1 S.TIi2 Z.ins)
    · have young : ∀ b o, s.heap.get? b = some o → H b = none → upd H s.heap.objs.size (.tup [xs[k], ys[k]]) b = none := fun b o g q => by
        rw [upd_ne (Nat.ne_of_lt (Heap.lt_size g))]; exact q
      obtain ⟨o1, g1, _⟩ := F.own k _ s1
      obtain ⟨o2, g2, _⟩ := G.own k _ s2
      exact each (young z _ Z.zz (hf z (by simp)).1) (young p _ Z.ins (hf p (by simp)).1) (young r _ hr (hf r (by simp)).1) (young i o1 g1 (hf i (by simp)).1) (young j o2 g2 (hf j (by simp)).1)
  · rintro X xp xw xk hc k pins s σ H E I hf ⟨⟨⟨s1, l1⟩, s2, l2⟩, Z⟩ ⟨xs, ys, ⟨hq, hx⟩, ⟨hq2, hy⟩, hend⟩
    obtain ⟨-, its, St', rv, D, up, -⟩ := F.gives X xp xw xk hc pins s σ H I xs hq
    obtain ⟨-, its2, St2', rv2, D2, up2, -⟩ := G.gives X xp xw xk hc pins s σ H I ys hq2
    obtain ⟨x0, y0, hr⟩ := Z.out
    subst xp xw
    refine wpAny_pyNext_zipD2_end S D D2 Z.zz Z.ins hr (up k s1) (up2 k s2) (by rw [← rv.length, hx]; exact l1) (by rw [← rv2.length, hy]; exact l2) ?_ fun h1 tk eb => ⟨rfl, ?_⟩
    · rw [← rv.length, ← rv2.length, hx, hy]
      rcases hend with q | q
      · exact .inl (Nat.le_antisymm l1 q)
      · exact .inr (Nat.le_antisymm l2 q)
    · refine I.turnedL (t' := tk) (ch := [z, p, r, i, j]) (fun b o nb g => ?_) hf
      have ne : b ≠ z ∧ b ≠ r ∧ b ≠ i ∧ b ≠ j := by refine ⟨?_, ?_, ?_, ?_⟩ <;> (intro q; apply nb; simp [q])
      exact eb b o ne.1 ne.2.1 ne.2.2.1 ne.2.2.2 g
theorem feed_lst {P : Program} {w : World} {K : PySem.W.Frag} {a it : Addr} (ne : a ≠ it) : Feed P w K (fun H xs => SqL K H a xs) it [it, a] (fun i h => h.IsListIter it a i) where
  own := fun i h ⟨o, ho, _, hd⟩ => ⟨o, ho, fun v q => by rw [hd] at q; cases q⟩
  stays := fun i h h' ⟨o, ho, r⟩ k => ⟨o, k o ho, r⟩
  gives := fun X xp xw xk hc pins s σ H I xs hq => by
    subst xp xw xk
    obtain ⟨its, rv, pt, _⟩ := I.list hq
    refine ⟨fun ys hy => I.list_inj hy hq, its, fun i h => h.IsListIter it a i ∧ h.IsList a its.toArray, rv, ?_, fun i st => ⟨st, pt.isList⟩, fun i h st => st.1⟩
    have D := Draws.list (prog := X.prog) (w := X.w) (A := X.A.in1) (by exact I.ok.hd hc) it a ne its.toArray
    simpa using D
def iZipLT (K : PySem.W.Frag) (ta : TA) : TI := fun σ H R => ta σ H fun vs H1 => ∃ a b xs ys, vs = [.ref a, .ref b] ∧ SqL K H1 a xs ∧ SqT K H1 b ys ∧ R (ItZ2 (fun H xs => SqL K H a xs) (fun H xs => SqT K H b xs) xs.length ys.length) H1
theorem pi_zipLT {X : Cx} {e f : Expr} {ta : TA} {p0 pos tpos : Pos} {elts : List Expr} {kk : Nat} (hg : Gl X "zip") (hm : X.mg "zip" = none) (ha : PA X [e, f] ta)
    (hs : starEach [e, f] X.env = (false, eval e X.env) :: starEach [f] X.env := by rfl) (hpl : (backTo pos (starEach [f] X.env)).any (·.1) = false := by rfl) :
    PI X (.Tuple elts kk tpos) (.Call (.Name "zip" p0) [e, f] [] pos) (iZipLT X.K ta) := ⟨fun pins s σ H R I h => by
  refine Call_ (ld_blt I hg hm PyProof.Rows.boot_zip (PyProof.Rows.callWith_type1 (thn (ha.run pos pins s σ H _ I h) fun us t ⟨vs, H1, I1, r1, q1⟩ => ?_) hs hpl))
  obtain ⟨a, b, xs, ys, rfl, hx, hy, q⟩ := q1
  obtain ⟨its, rv, pa, _⟩ := I1.list hx
  obtain ⟨its2, rv2, pb, _⟩ := I1.tuple hy
  cases r1 with
  | cons ra rr =>
    cases rr with
    | cons rb rr =>
      cases rr
      cases ra
      cases rb
      have la : a < t.heap.objs.size := pa.lt
      have lb : b < t.heap.objs.size := by
        obtain ⟨o, ho, _⟩ := id pb
        exact Heap.lt_size ho
      refine call_zipLT (t := t) pa.isList (show t.heap.IsTuple b its2.toArray from pb) fun g' ⟨z5, z3, z4, z1, z2⟩ hk => wpAny_pyIter_zip z5 ?_
      have I2 : Inv X pins σ H1 { t with heap := g' } := I1.kept (t' := t.toks) hk
      refine ⟨t.heap.objs.size + 4, [t.heap.objs.size + 4, t.heap.objs.size + 2, t.heap.objs.size + 3, t.heap.objs.size, t.heap.objs.size + 1], _, _, H1, rfl, I2, Feed.zip (feed_lst (Nat.ne_of_lt la)) (feed_tup (Nat.ne_of_lt (Nat.lt_succ_of_lt lb))) ?_, ⟨⟨⟨z1, Nat.zero_le _⟩, z2, Nat.zero_le _⟩, z5, z3, _, _, z4⟩, ?_, q⟩
      · have o2 : ∀ {x y c : Addr}, x ≠ y → x ≠ c → x ∉ [y, c] := fun a1 a2 hm => by
          simp only [List.mem_cons, List.not_mem_nil, or_false] at hm
          exact hm.elim a1 a2
        have ad : ∀ m k : Nat, m ≠ k → (t.heap.objs.size + m : Nat) ≠ t.heap.objs.size + k := fun m k n e => n (Nat.add_left_cancel e)
        have hi : ∀ (m : Nat) {x : Nat}, x < t.heap.objs.size → t.heap.objs.size + m ≠ x := fun m x l => Nat.ne_of_gt (Nat.lt_of_lt_of_le l (Nat.le_add_right _ _))
        exact ⟨ad 2 4 (by decide), ad 3 4 (by decide), ad 2 3 (by decide), ad 2 0 (by decide), by simp, o2 (ad 4 0 (by decide)) (hi 4 la), o2 (ad 3 0 (by decide)) (hi 3 la), ad 2 1 (by decide), by simp, o2 (ad 4 1 (by decide)) (hi 4 lb), o2 (ad 3 1 (by decide)) (hi 3 lb), o2 (ad 0 1 (by decide)) (hi 0 lb), o2 (ad 1 0 (by decide)) (hi 1 la)⟩
      · intro c hc
        have lc : t.heap.objs.size ≤ c := by
          simp only [List.mem_cons, List.not_mem_nil, or_false] at hc
          rcases hc with e | e | e | e | e <;> rw [e] <;> first | exact Nat.le_refl _ | exact Nat.le_add_right _ _
        exact I1.fpOk lc (I1.hok.fresh lc)⟩
end RQ
namespace MM
open PySem PySem.Spec PyProof.Rows L2
def sLP (i : Nat) (xs0 ys : List Wv) : Src := ⟨(pairsW xs0 ys).length, fun k h => match rdL h i with
  | some xs => if xs.length = xs0.length then some (pairsW xs ys)[k]? else none
  | none => none⟩
def zipLt (ws : List Wv) : M Src := fun h => match ws with
  | [.obj i, .ptp ys] => match rdL h i with
    | some xs => .ok (sLP i xs ys) h
    | none => .no
  | [.obj i, .tup ys] => match rdL h i with
    | some xs => .ok (sLP i xs ys) h
    | none => .no
  | _ => .no
section
variable {X : Cx}
theorem itr_zipLt {c : Cfg} {a b : Addr} {i n m : Nat} {xs0 ys : List Wv} (en : n = xs0.length) (em : m = ys.length) : ItR c (RQ.ItZ2 (fun H xs => SqL c.K H a xs) (fun H xs => SqT c.K H b xs) n m) (sLP i xs0 ys) (fun μ H => μ[i]? = some a ∧ ∃ vs, SqT c.K H b vs ∧ Rps c μ H vs ys) where
  keep := fun μ H μ' H' ⟨g, vs, q, r⟩ go => ⟨pre_at go.pre g, vs, go.tk _ _ q, r.mv go⟩
  go := fun μ h H k w R ⟨ga, us, q', r'⟩ e => by
    simp only [sLP] at e
    split at e
    · next xs qx =>
      obtain ⟨l, e⟩ : xs.length = xs0.length ∧ some (pairsW xs ys)[k]? = some (some w) := by
        by_cases l : xs.length = xs0.length
        · rw [if_pos l] at e; exact ⟨l, e⟩
        · rw [if_neg l] at e; cases e
      obtain ⟨x, y, hx, hy, rfl⟩ := pairsW_some (Option.some.inj e)
      obtain ⟨vs, q, r⟩ := rdL_to R ga qx
      obtain ⟨v, hv, pv⟩ := r.at hx
      obtain ⟨u, hu, pu⟩ := r'.at hy
      have l1 := r.length
      have l2 := r'.length
      have k1 := (List.getElem?_eq_some_iff.mp hv).1
      have k2 := (List.getElem?_eq_some_iff.mp hu).1
      refine ⟨⟨vs, us, ⟨q, by omega⟩, ⟨q', by omega⟩, by omega, by omega⟩, fun z H' ⟨T, nT, e1, x', y', f1, f2, e2⟩ => ?_⟩
      subst e1 e2
      have z1 := f1 vs q
      have z2 := f2 us q'
      rw [hv] at z1
      rw [hu] at z2
      cases z1
      cases z2
      exact R.pair nT pv pu
    · cases e
  stop := fun μ h H k R ⟨ga, us, q', r'⟩ e => by
    simp only [sLP] at e
    split at e
    · next xs qx =>
      obtain ⟨l, e⟩ : xs.length = xs0.length ∧ some (pairsW xs ys)[k]? = some none := by
        by_cases l : xs.length = xs0.length
        · rw [if_pos l] at e; exact ⟨l, e⟩
        · rw [if_neg l] at e; cases e
      obtain ⟨vs, q, r⟩ := rdL_to R ga qx
      have l1 := r.length
      have l2 := r'.length
      refine ⟨vs, us, ⟨q, by omega⟩, ⟨q', by omega⟩, ?_⟩
      rcases pairsW_none (Option.some.inj e) with z | z <;> omega
    · cases e
theorem mi_zipLt {e e2 : Expr} {p pos tpos : Pos} {elts : List Expr} {kk : Nat} {m : AM} (hg : Gl X "zip") (hm : X.mg "zip" = none) (ha : MA X [e, e2] m) (hs : starEach [e, e2] X.env = (false, eval e X.env) :: starEach [e2] X.env := by rfl) (hpl : (backTo pos (starEach [e2] X.env)).any (·.1) = false := by rfl) :
    MI X (.Tuple elts kk tpos) (.Call (.Name "zip" p) [e, e2] [] pos) (iArgs zipLt m) :=
  PI.imp (RQ.pi_zipLT hg hm ha hs hpl) fun σ H R ⟨μ, ρ, h, src, h', A, e, n⟩ => by
    obtain ⟨ws, h1, e1, e⟩ := bind_ok e
    refine mA_first A e1 fun μ1 vs H1 g1 A1 p1 => ?_
    unfold zipLt at e
    split at e
    · next i ys =>
      split at e
      · next xs qx =>
        cases e
        obtain ⟨v1, v2, rfl, q1, q2⟩ := p1.two_inv
        obtain ⟨a, rfl, ha⟩ := q1.obj_inv
        obtain ⟨b, vs2, rfl, pq2, r2⟩ := q2.ptp_inv
        obtain ⟨vs1, hq1, r1⟩ := rdL_to A1.rel ha qx
        exact ⟨a, b, vs1, vs2, rfl, hq1, pq2.sq, n μ1 H1 _ _ g1 A1.rel (itr_zipLt r1.length r2.length) ⟨ha, vs2, pq2.sq, r2⟩⟩
      · cases e
    · next i ys =>
      split at e
      · next xs qx =>
        cases e
        obtain ⟨v1, v2, rfl, q1, q2⟩ := p1.two_inv
        obtain ⟨a, rfl, ha⟩ := q1.obj_inv
        obtain ⟨b, vs2, rfl, hq2, r2⟩ := q2.tup_inv
        obtain ⟨vs1, hq1, r1⟩ := rdL_to A1.rel ha qx
        exact ⟨a, b, vs1, vs2, rfl, hq1, hq2, n μ1 H1 _ _ g1 A1.rel (itr_zipLt r1.length r2.length) ⟨ha, vs2, hq2, r2⟩⟩
      · cases e
    · cases e
end
end MM

set_option maxRecDepth 100000
set_option maxHeartbeats 4000000
namespace GP
open PySem PySem.Spec PyProof.Rows L2 K01 MM
def tab_FORMS : TabT := [("write", ["name", "name", "name", "worth"]), ("gone", ["name", "name", "name"]), ("read", ["name", "name", "name"]), ("leave", ["name"]), ("give", ["letter"]), ("twice", ["letter"]), ("lose", ["letter"]), ("flow", []), ("away", ["name"]), ("back", ["name"]), ("lost", ["name"]), ("doubt", ["name", "name"]), ("news", ["name", "name"]), ("return", ["name"]), ("compare", ["name", "name"]), ("come", ["name", "places"]), ("go", ["name"]), ("tick", ["time"])]
def m_are_places : FM := fun_ 1 1 ((sRet (eAnd (eCall (isiM .tup) (aCons (eVar 0) (aCons (eC (.raw (.ty "tuple"))) aNil))) (eAnd (eOp gtI (eCall lenM (aCons (eVar 0) aNil)) (eC (.int 0))) (eOp (isNB false) (eCall m_first_wrong (aCons (eVar 0) (aCons (eC (.glob "is_place")) aNil))) (eC .non))))))
def m_has_form : FM := fun_ 2 2 ((sSeq (sIf (tOf (eOp (eqB false) (eVar 1) (eC (.str "name")))) (sRet (eCall m_is_word (aCons (eVar 0) aNil))) sNil)
    (sSeq (sIf (tOf (eOp (eqB false) (eVar 1) (eC (.str "worth")))) (sRet (eAnd (eCall m_is_whole (aCons (eVar 0) aNil)) (eCall m_is_worth (aCons (eVar 0) aNil)))) sNil)
    (sSeq (sIf (tOf (eOp (eqB false) (eVar 1) (eC (.str "letter")))) (sRet (eAnd (eCall m_is_whole (aCons (eVar 0) aNil)) (eOp geI (eVar 0) (eC (.int 0))))) sNil)
    (sSeq (sIf (tOf (eOp (eqB false) (eVar 1) (eC (.str "time")))) (sRet (eCall m_is_between (aCons (eVar 0) (aCons (eC (.int 1)) (aCons (eC (.int 1000000)) aNil))))) sNil)
    (sRet (eCall m_are_places (aCons (eVar 0) aNil))))))))
def m_is_deed : FM := fun_ 6 1 ((sSeq (sIf (tOrM (tNotM (tTru (eCall (isiM .tup) (aCons (eVar 0) (aCons (eC (.raw (.ty "tuple"))) aNil))))) (tOf (eOp (eqB false) (eCall lenM (aCons (eVar 0) aNil)) (eC (.int 0))))) (sRet (eC (.bl false))) sNil)
    (sSeq (sSet 1 (eOp ixM (eVar 0) (eC (.int 0))))
    (sSeq (sIf (tOrM (tNotM (tTru (eCall (isiM .str) (aCons (eVar 1) (aCons (eC (.raw (.ty "str"))) aNil))))) (tOf (eOp (inG true "FORMS" tab_FORMS) (eVar 1) (eC (.glob "FORMS"))))) (sRet (eC (.bl false))) sNil)
    (sSeq (sSet 2 (eSl (eVar 0) (oSome (eC (.int 1))) oNone))
    (sSeq (sSet 3 (eOp (ixG "FORMS" tab_FORMS) (eC (.glob "FORMS")) (eVar 1)))
    (sRet (eAnd (eOp (eqB false) (eCall lenM (aCons (eVar 2) aNil)) (eCall lenM (aCons (eVar 3) aNil))) (eCall allM (aCons (eLc (iArgs zipS (aCons (eVar 2) (aCons (eVar 3) aNil))) [4, 5] (gT 2 (gsCons (gN 4) (gsCons (gN 5) gsNil))) tYesM (eCall m_has_form (aCons (eVar 4) (aCons (eVar 5) aNil)))) aNil))))))))))
def x_look_at_weaving : FM := funX 3 1 ((sSeq (sIfX (nrT (tNotM (tTru (eCall (isiM .lst) (aCons (eVar 0) (aCons (eC (.raw (.ty "list"))) aNil)))))) (sRaise1 "NoDeed" "number" (eC .non)) sNil)
    (sFor (iArgs enum (aCons (eVar 0) aNil)) (gT 2 (gsCons (gN 1) (gsCons (gN 2) gsNil))) (sIfX (nrT (tNotM (tTru (eCall m_is_deed (aCons (eVar 2) aNil))))) (sRaise1 "NoDeed" "number" (eVar 1)) sNil))))
def m_show_listed : FM := fun_ 1 1 ((sRet (eOrT (eJoin (eC (.str ",")) (eVar 0)) (eC (.str "-")))))
def m_show_part : FM := fun_ 2 1 ((sRet (eIf (tTru (eCall (isiM .tup) (aCons (eVar 0) (aCons (eC (.raw (.ty "tuple"))) aNil)))) (eCall m_show_listed (aCons (eLc (iSeqM (eVar 0)) [1] (gN 1) tYesM (eCall strA (aCons (eVar 1) aNil))) aNil)) (eCall strA (aCons (eVar 0) aNil)))))
def m_show_deed : FM := fun_ 2 1 ((sRet (eJoin (eC (.str " ")) (eLc (iSeqM (eVar 0)) [1] (gN 1) tYesM (eCall m_show_part (aCons (eVar 1) aNil))))))
def x_show_weaving : FM := funX 2 1 ((sSeq (sX (sExpr (eCall x_look_at_weaving (nrA (aCons (eVar 0) aNil)))))
    (nrS (sRet (eJoin (eC (.str "\n")) (eLc (iSeqM (eVar 0)) [1] (gN 1) tYesM (eCall m_show_deed (aCons (eVar 1) aNil))))))))
def m_look_at_weaving : FM := fun_ 3 1 ((sSeq (sIf (tNotM (tTru (eCall (isiM .lst) (aCons (eVar 0) (aCons (eC (.raw (.ty "list"))) aNil))))) sNo sNil)
    (sFor (iArgs enum (aCons (eVar 0) aNil)) (gT 2 (gsCons (gN 1) (gsCons (gN 2) gsNil))) (sIf (tNotM (tTru (eCall m_is_deed (aCons (eVar 2) aNil)))) sNo sNil))))
def m_show_weaving : FM := fun_ 2 1 ((sSeq (sExpr (eCall m_look_at_weaving (aCons (eVar 0) aNil)))
    (sRet (eJoin (eC (.str "\n")) (eLc (iSeqM (eVar 0)) [1] (gN 1) tYesM (eCall m_show_deed (aCons (eVar 1) aNil)))))))
def m_read_figures : FM := fun_ 2 1 ((sSeq (sIf (tOrM (tNotM (tOf (eCh leI leI (eC (.int 1)) (eCall lenM (aCons (eVar 0) aNil)) (eC (.int 30))))) (tNotM (tTru (eCall allM (aCons (eLc (iStrM (eVar 0)) [1] (gN 1) tYesM (eOp (inM false) (eVar 1) (eC (.str "0123456789")))) aNil))))) (sRet (eC .non)) sNil)
    (sSeq (sIf (tAndM (tOf (eOp (eqB false) (eOp ixM (eVar 0) (eC (.int 0))) (eC (.str "0")))) (tOf (eOp gtI (eCall lenM (aCons (eVar 0) aNil)) (eC (.int 1))))) (sRet (eC .non)) sNil)
    (sRet (eCall intT (aCons (eVar 0) aNil))))))
def m_read_whole : FM := fun_ 2 1 ((sSeq (sIf (tNotM (tTru (eBm isStr swM (eVar 0) (aCons (eC (.str "-")) aNil)))) (sRet (eCall m_read_figures (aCons (eVar 0) aNil))) sNil)
    (sSeq (sSet 1 (eCall m_read_figures (aCons (eSl (eVar 0) (oSome (eC (.int 1))) oNone) aNil)))
    (sRet (eIf (tTru (eVar 1)) (eNeg (eVar 1)) (eC .non))))))
def m_read_all : FM := fun_ 5 2 ((sSeq (sSet 2 (eCall tupOf (aCons (eLc (iSeqM (eVar 0)) [3] (gN 3) tYesM (eCallV [("read_figures", m_read_figures)] 1 (aCons (eVar 3) aNil))) aNil)))
    (sRet (eIf (tTru (eCall anyM (aCons (eLc (iSeqM (eVar 2)) [4] (gN 4) tYesM (eOp (isNB false) (eVar 4) (eC .non))) aNil))) (eC .non) (eVar 2)))))
def m_read_part : FM := fun_ 2 2 ((sSeq (sIf (tOf (eOp (eqB false) (eVar 1) (eC (.str "name")))) (sRet (eVar 0)) sNil)
    (sSeq (sIf (tOf (eOp (eqB false) (eVar 1) (eC (.str "worth")))) (sRet (eCall m_read_whole (aCons (eVar 0) aNil))) sNil)
    (sSeq (sIf (tOf (eOp (eqB false) (eVar 1) (eC (.str "places")))) (sRet (eCall m_read_all (aCons (eBm isStr splM (eVar 0) (aCons (eC (.str ",")) aNil)) (aCons (eC (.glob "read_figures")) aNil)))) sNil)
    (sRet (eCall m_read_figures (aCons (eVar 0) aNil)))))))
def m_read_deed : FM := fun_ 6 1 ((sSeq (sAsg (eBm isStr splM (eVar 0) (aCons (eC (.str " ")) aNil)) (gR (gsCons (gN 1) (gsCons (gN 2) gsNil))))
    (sSeq (sIf (tOrM (tOf (eOp (inG true "FORMS" tab_FORMS) (eVar 1) (eC (.glob "FORMS")))) (tOf (eOp (eqB true) (eCall lenM (aCons (eVar 2) aNil)) (eCall lenM (aCons (eOp (ixG "FORMS" tab_FORMS) (eC (.glob "FORMS")) (eVar 1)) aNil))))) (sRet (eC .non)) sNil)
    (sSeq (sSet 3 (eOp addM (eTup (aCons (eVar 1) aNil)) (eCall tupOf (aCons (eLc (iArgs zipLt (aCons (eVar 2) (aCons (eOp (ixG "FORMS" tab_FORMS) (eC (.glob "FORMS")) (eVar 1)) aNil))) [4, 5] (gT 2 (gsCons (gN 4) (gsCons (gN 5) gsNil))) tYesM (eCall m_read_part (aCons (eVar 4) (aCons (eVar 5) aNil)))) aNil))))
    (sRet (eIf (tTru (eCall m_is_deed (aCons (eVar 3) aNil))) (eVar 3) (eC .non)))))))
def m_read_rows : FM := fun_ 6 2 ((sSeq (sIf (tNotM (tTru (eCall (isiM .str) (aCons (eVar 0) (aCons (eC (.raw (.ty "str"))) aNil))))) sNo sNil)
    (sSeq (sSet 2 (eIf (tTru (eVar 0)) (eLc (iSeqM (eBm isStr splM (eVar 0) (aCons (eC (.str "\n")) aNil))) [5] (gN 5) tYesM (eCallV [("read_deed", m_read_deed)] 1 (aCons (eVar 5) aNil))) (eLst aNil)))
    (sSeq (sFor (iArgs enum (aCons (eVar 2) aNil)) (gT 2 (gsCons (gN 3) (gsCons (gN 4) gsNil))) (sIf (tOf (eOp (isNB false) (eVar 4) (eC .non))) sNo sNil))
    (sRet (eVar 2))))))
def m_read_weaving : FM := fun_ 1 1 ((sRet (eCall m_read_rows (aCons (eVar 0) (aCons (eC (.glob "read_deed")) aNil)))))
end GP

set_option maxRecDepth 100000
set_option maxHeartbeats 4000000
namespace GR61
open PySem PySem.Spec PyProof.Rows L2 K01 MM GP
abbrev xcls : List PySem.Str := ["NoDeed", "NoText"]
def m__law_odd : FM := fun_ 3 2 ((sSeq (sSet 2 (eLst (aCons (eC .non) (aCons (eTup aNil) (aCons (eOp addM (eVar 1) (eTup (aCons (eC (.int 0)) aNil))) (aCons (eCall listOf (aCons (eVar 1) aNil)) (aCons (eTup (aCons (eC (.str "give")) aNil)) (aCons (eTup (aCons (eC (.str "give")) (aCons (eNeg (eC (.int 1))) aNil))) (aCons (eTup (aCons (eC (.str "give")) (aCons (eC (.bl true)) aNil))) (aCons (eTup (aCons (eC (.str "flow")) (aCons (eC (.int 0)) aNil))) aNil))))))))))
    (sSeq (sSet 2 (eOp addM (eVar 2) (eLst (aCons (eTup (aCons (eC (.str "write")) (aCons (eC (.str "u")) (aCons (eC (.str "a")) (aCons (eC (.str "k")) aNil))))) (aCons (eTup (aCons (eC (.str "tick")) (aCons (eC (.int 0)) aNil))) (aCons (eTup (aCons (eC (.str "tick")) (aCons (eOp addM (eOp powM (eC (.int 10)) (eC (.int 6))) (eC (.int 1))) aNil))) (aCons (eTup (aCons (eC (.str "come")) (aCons (eC (.str "a")) (aCons (eTup aNil) aNil)))) (aCons (eTup (aCons (eC (.str "Go")) (aCons (eC (.str "a")) aNil))) aNil))))))))
    (sSeq (sSet 2 (eOp addM (eVar 2) (eLst (aCons (eTup (aCons (eC (.str "come")) (aCons (eC (.str "a")) (aCons (eTup (aCons (eC (.int 1)) (aCons (eC (.int 1)) aNil))) aNil)))) (aCons (eTup (aCons (eC (.str "come")) (aCons (eC (.str "a")) (aCons (eLst (aCons (eC (.int 1)) aNil)) aNil)))) (aCons (eTup (aCons (eC (.str "come")) (aCons (eC (.str "a")) (aCons (eTup (aCons (eC (.int 64)) aNil)) aNil)))) (aCons (eTup (aCons (eC (.str "away")) (aCons (eC (.str "A")) aNil))) (aCons (eTup (aCons (eC (.str "away")) (aCons (eC (.int 5)) aNil))) (aCons (eC (.int 7)) aNil)))))))))
    (sRet (eOp ixM (eOp addM (eVar 2) (eLst (aCons (eTup (aCons (eC (.str "write")) (aCons (eC (.str "u")) (aCons (eC (.str "a")) (aCons (eC (.str "k")) (aCons (eOp addM (eOp powM (eC (.int 10)) (eC (.int 9))) (eC (.int 1))) aNil)))))) aNil))) (eCall m__law_take (aCons (eVar 0) (aCons (eC (.int 20)) aNil)))))))))
def m__law_refused : FM := fun_ 2 1 ((sSeq (sTry xcls (sX (sExpr (eCall x_show_weaving (nrA (aCons (eVar 0) aNil))))) [⟨["NoDeed"], some 1, (sRet (eLst (aCons (eC (.str "deed")) (aCons (eXf "number" ["NoDeed"] (eVar 1)) (aCons (eAnd (eCall (isQb xcls "ValueError") (aCons (eVar 1) (aCons (eC (.raw (.ty "ValueError"))) aNil))) (eNot (eCall (isQo xcls "NoText") (aCons (eVar 1) (aCons (eC (.glob "NoText")) aNil))))) aNil)))))⟩])
    (sRet (eC .non))))
def m__law_deed : FM := fun_ 8 1 ((sSeq (sPar3 1 2 3 (aCons (eOp ixM (eC (.str "uvw")) (eCall m__law_take (aCons (eVar 0) (aCons (eC (.int 3)) aNil)))) (aCons (eOp ixM (eC (.str "abc")) (eCall m__law_take (aCons (eVar 0) (aCons (eC (.int 3)) aNil)))) (aCons (eOp ixM (eLst (aCons (eC (.str "b")) (aCons (eC (.str "c")) (aCons (eC (.str "zzzzzz")) aNil)))) (eCall m__law_take (aCons (eVar 0) (aCons (eC (.int 3)) aNil)))) aNil))))
    (sSeq (sPar 4 5 (aCons (eOp ixM (eLst (aCons (eC (.str "k")) (aCons (eC (.str "m")) (aCons (eC (.str "abcdef")) aNil)))) (eCall m__law_take (aCons (eVar 0) (aCons (eC (.int 3)) aNil)))) (aCons (eOp ixM (eLst (aCons (eC (.int 0)) (aCons (eC (.int 1)) (aCons (eC (.int 9)) (aCons (eC (.int 10)) (aCons (eOp powM (eC (.int 10)) (eC (.int 20))) aNil)))))) (eCall m__law_take (aCons (eVar 0) (aCons (eC (.int 5)) aNil)))) aNil)))
    (sSeq (sSet 6 (eLst (aCons (eTup (aCons (eC (.str "write")) (aCons (eVar 1) (aCons (eVar 2) (aCons (eVar 4) (aCons (eOp ixM (eLst (aCons (eC (.int 0)) (aCons (eC (.int 5)) (aCons (eNeg (eC (.int 5))) (aCons (eOp powM (eC (.int 10)) (eC (.int 9))) (aCons (eNeg (eOp powM (eC (.int 10)) (eC (.int 9)))) aNil)))))) (eCall m__law_take (aCons (eVar 0) (aCons (eC (.int 5)) aNil)))) aNil)))))) (aCons (eTup (aCons (eC (.str "gone")) (aCons (eVar 1) (aCons (eVar 2) (aCons (eVar 4) aNil))))) aNil))))
    (sSeq (sSet 6 (eOp addM (eVar 6) (eLst (aCons (eTup (aCons (eC (.str "read")) (aCons (eVar 1) (aCons (eVar 2) (aCons (eVar 4) aNil))))) (aCons (eTup (aCons (eC (.str "leave")) (aCons (eVar 1) aNil))) (aCons (eTup (aCons (eC (.str "give")) (aCons (eVar 5) aNil))) (aCons (eTup (aCons (eC (.str "lose")) (aCons (eVar 5) aNil))) (aCons (eTup (aCons (eC (.str "twice")) (aCons (eVar 5) aNil))) aNil))))))))
    (sSeq (sSet 6 (eOp addM (eVar 6) (eLst (aCons (eTup (aCons (eC (.str "flow")) aNil)) (aCons (eTup (aCons (eC (.str "away")) (aCons (eVar 2) aNil))) (aCons (eTup (aCons (eC (.str "back")) (aCons (eVar 2) aNil))) (aCons (eTup (aCons (eC (.str "lost")) (aCons (eVar 2) aNil))) (aCons (eTup (aCons (eC (.str "doubt")) (aCons (eVar 2) (aCons (eVar 3) aNil)))) (aCons (eTup (aCons (eC (.str "news")) (aCons (eVar 2) (aCons (eVar 3) aNil)))) aNil)))))))))
    (sSeq (sSet 6 (eOp addM (eVar 6) (eLst (aCons (eTup (aCons (eC (.str "return")) (aCons (eVar 2) aNil))) (aCons (eTup (aCons (eC (.str "compare")) (aCons (eVar 2) (aCons (eVar 3) aNil)))) (aCons (eTup (aCons (eC (.str "tick")) (aCons (eOp ixM (eLst (aCons (eC (.int 1)) (aCons (eC (.int 7)) (aCons (eOp powM (eC (.int 10)) (eC (.int 6))) aNil)))) (eCall m__law_take (aCons (eVar 0) (aCons (eC (.int 3)) aNil)))) aNil))) (aCons (eTup (aCons (eC (.str "go")) (aCons (eVar 2) aNil))) aNil)))))))
    (sSeq (sSet 7 (eOp ixM (eLst (aCons (eTup (aCons (eC (.int 0)) aNil)) (aCons (eTup (aCons (eC (.int 63)) (aCons (eC (.int 5)) aNil))) (aCons (eTup (aCons (eC (.int 7)) (aCons (eC (.int 0)) (aCons (eC (.int 63)) (aCons (eC (.int 1)) aNil))))) aNil)))) (eCall m__law_take (aCons (eVar 0) (aCons (eC (.int 3)) aNil)))))
    (sRet (eOp ixM (eOp addM (eVar 6) (eLst (aCons (eTup (aCons (eC (.str "come")) (aCons (eVar 3) (aCons (eVar 7) aNil)))) aNil))) (eCall m__law_take (aCons (eVar 0) (aCons (eC (.int 18)) aNil)))))))))))))
def m__law_deed_text : FM := fun_ 4 1 ((sSeq (sSet 1 (eLst aNil))
    (sSeq (sFor (iSeqM (eVar 0)) (gN 2) (sExpr (eBm isLst appM (eVar 1) (aCons (eIf (tTru (eCall (isiM .tup) (aCons (eVar 2) (aCons (eC (.raw (.ty "tuple"))) aNil)))) (eJoin (eC (.str ",")) (eLc (iSeqM (eVar 2)) [3] (gN 3) tYesM (eCall strA (aCons (eVar 3) aNil)))) (eCall strA (aCons (eVar 2) aNil))) aNil))))
    (sRet (eJoin (eC (.str " ")) (eVar 1))))))
def m_law : FM := fun_ 9 1 ((sSeq (sFor (iSeqM (eLst (aCons (eC .non) (aCons (eTup aNil) (aCons (eC (.str "flow")) (aCons (eTup (aCons (eC (.str "flow")) aNil)) (aCons eDnewK aNil))))))) (gN 1) (sIf (tOf (eOp (eqB true) (eCall m__law_refused (aCons (eVar 1) aNil)) (eLst (aCons (eC (.str "deed")) (aCons (eC .non) (aCons (eC (.bl true)) aNil)))))) (sRet (eC (.bl false))) sNil))
    (sSeq (sFor (iArgs rng1 (aCons (eCall max2 (aCons (eC (.int 2)) (aCons (eCall min2 (aCons (eCall lenM (aCons (eVar 0) aNil)) (aCons (eC (.int 30)) aNil))) aNil))) aNil)) (gN 2) (sSeq (sSet 3 (eCall m__law_pool (aCons (eVar 0) (aCons (eVar 2) aNil))))
    (sSeq (sSet 4 (eLc (iArgs rng1 (aCons (eCall m__law_take (aCons (eVar 3) (aCons (eC (.int 10)) aNil))) aNil)) [7] (gN 7) tYesM (eCall m__law_deed (aCons (eVar 3) aNil))))
    (sSeq (sSet 5 (eJoin (eC (.str "\n")) (eLc (iSeqM (eVar 4)) [8] (gN 8) tYesM (eCall m__law_deed_text (aCons (eVar 8) aNil)))))
    (sSeq (sIf (tOrM (tOf (eOp (eqB true) (eCall m_show_weaving (aCons (eVar 4) aNil)) (eVar 5))) (tOf (eOp (eqB true) (eCall repA (aCons (eCall m_read_weaving (aCons (eVar 5) aNil)) aNil)) (eCall repA (aCons (eVar 4) aNil))))) (sRet (eC (.bl false))) sNil)
    (sSeq (sSet 6 (eCall m__law_take (aCons (eVar 3) (aCons (eOp addM (eCall lenM (aCons (eVar 4) aNil)) (eC (.int 1))) aNil))))
    (sSeq (sSet 1 (eCall m__law_odd (aCons (eVar 3) (aCons (eOp ixM (eOp addM (eVar 4) (eLst (aCons (eTup (aCons (eC (.str "flow")) aNil)) aNil))) (eVar 6)) aNil))))
    (sIf (tOf (eOp (eqB true) (eCall m__law_refused (aCons (eOp addM (eOp addM (eSl (eVar 4) oNone (oSome (eVar 6))) (eLst (aCons (eVar 1) aNil))) (eSl (eVar 4) (oSome (eVar 6)) oNone)) aNil)) (eLst (aCons (eC (.str "deed")) (aCons (eVar 6) (aCons (eC (.bl true)) aNil)))))) (sRet (eC (.bl false))) sNil))))))))
    (sRet (eAnd (eOp (eqB false) (eCall m_show_weaving (aCons (eLst aNil) aNil)) (eC (.str ""))) (eOp (eqB false) (eCall m_read_weaving (aCons (eC (.str "")) aNil)) (eLst aNil)))))))
end GR61

set_option maxRecDepth 100000
set_option maxHeartbeats 4000000
namespace GR61
open PySem PySem.Spec PyProof.Rows L2 K01 MM GP
def topS (i : Nat) : Stmt := PySem.Challenge.pw_heldhints_k61_weavings_written.main.body.getD i (.Pass ⟨0, 0, 0, 0⟩)
section
variable {P : Program} {w : World} {K : PySem.W.Frag} {mg : PySem.Str → Option Value} {base : Heap} {f : Addr} {fd : FuncData}
theorem sci_NoDeed : FnScope ["self", "number"] ["self", "number"] (defScope (inClass (topS 9) 0)) := ⟨rfl, rfl, rfl, by decide +kernel, rfl, by decide +kernel, by decide +kernel⟩
theorem oki_NoDeed {C D : Addr} (F : Fun K "__init__" "NoDeed.__init__" (inClass (topS 9) 0) f fd) (T : ExK K C (.ref D :: XK.tVal)) (no : PySem.W.findIn K (.ref C) "number" = some none) (N : Hn K mg D) : FnOk P w K mg base CX0 1 f fd ["self", "number"] (spI1 C "number") := by
  refine F.ok sci_NoDeed (fun vs H Q E h => ?_) (fun cdv A outer s H vs Q E hr h => ?_)
  · obtain ⟨a, v, rfl, _⟩ := h; rfl
  · obtain ⟨a, v, rfl, ea, q⟩ := h
    refine ⟨_, pss_cons (ps_expr (pe_hi iVal rfl N.g N.sg N.rd hVal N.vV (pa_cons (pv 0) (pa_cons pe_str pa_nil)))) (pss_one (ps_xs (pv 0) (pv 1))), ?_⟩
    refine ⟨.ref a, rfl, a, C, [_], _, rfl, (by show 1 ≤ 1000; decide), T, (by rfl), ea, ?_⟩
    exact ⟨v, rfl, .ref a, rfl, a, C, _, rfl, T, no, ea, fun dx n ne => q dx n ne⟩
theorem sci_NoText : FnScope ["self", "row"] ["self", "row"] (defScope (inClass (topS 10) 0)) := ⟨rfl, rfl, rfl, by decide +kernel, rfl, by decide +kernel, by decide +kernel⟩
theorem oki_NoText {C D : Addr} (F : Fun K "__init__" "NoText.__init__" (inClass (topS 10) 0) f fd) (T : ExK K C (.ref D :: XK.tVal)) (no : PySem.W.findIn K (.ref C) "row" = some none) (N : Hn K mg D) : FnOk P w K mg base CX0 1 f fd ["self", "row"] (spI1 C "row") := by
  refine F.ok sci_NoText (fun vs H Q E h => ?_) (fun cdv A outer s H vs Q E hr h => ?_)
  · obtain ⟨a, v, rfl, _⟩ := h; rfl
  · obtain ⟨a, v, rfl, ea, q⟩ := h
    refine ⟨_, pss_cons (ps_expr (pe_hi iVal rfl N.g N.sg N.rd hVal N.vV (pa_cons (pv 0) (pa_cons pe_str pa_nil)))) (pss_one (ps_xs (pv 0) (pv 1))), ?_⟩
    refine ⟨.ref a, rfl, a, C, [_], _, rfl, (by show 1 ≤ 1000; decide), T, (by rfl), ea, ?_⟩
    exact ⟨v, rfl, .ref a, rfl, a, C, _, rfl, T, no, ea, fun dx n ne => q dx n ne⟩
abbrev N__law_pool : List PySem.Str := ["_law_script", "_law_k", "_law_cell", "_law_seed"]
theorem sc__law_pool : FnScope N__law_pool ["_law_script", "_law_k"] (defScope (topS 42)) := ⟨rfl, rfl, rfl, by decide +kernel, rfl, by decide +kernel, by decide +kernel⟩
theorem ok__law_pool (B : Bm mg)  (F : Fun K "_law_pool" "_law_pool" (topS 42) f fd) : FnOk P w K mg base CX0 1 f fd ["_law_script", "_law_k"] (spF ⟨P, w, K, mg⟩ 2 m__law_pool) :=
  Fun.okM F sc__law_pool rfl rfl (k := 0) fun cdv A outer s H E hr =>
    (mss_cons (ms_set (i := 2) sc__law_pool.nd rfl (Or.inl rfl) me_int)
    (mss_cons (ms_if (mt_ne (hu_64 hr) (mv 0) (me_lst ma_nil)) (mss_one (ms_set (i := 2) sc__law_pool.nd rfl (Or.inl rfl) (me_sub_ix (mv 0) (me_mod (mv 1) (me_callB cr_len lc_len (by rfl) B.len PySem.boot_len (ma_cons (mv 0) ma_nil))) (fun _ _ => rfl)))) mss_nil)
    (mss_cons (ms_if (mt_ge (mv 1) (me_callB cr_len lc_len (by rfl) B.len PySem.boot_len (ma_cons (mv 0) ma_nil))) (mss_one (ms_set (i := 2) sc__law_pool.nd rfl (Or.inl rfl) (me_sub_ix (me_lst (ma_cons (me_mod (mv 2) me_int) (ma_cons (me_fdiv (mv 2) (me_pow me_int me_int)) ma_nil))) (me_callTy call_int1 lc_int (by rfl) B.int (by decide +kernel) (ma_cons (me_ge (mv 2) (me_pow me_int me_int)) ma_nil)) (fun _ _ => rfl)))) mss_nil)
    (mss_cons (ms_set (i := 3) sc__law_pool.nd rfl (Or.inl rfl) (me_mod (me_mul (me_add (me_add (me_mod (mv 2) me_int) (me_mul me_int (mv 1))) me_int) me_int) me_int))
    (mss_one (ms_ret (me_lst (ma_cons (me_mul (mv 2) (me_callTy call_int1 lc_int (by rfl) B.int (by decide +kernel) (ma_cons (me_ge (mv 2) (me_pow me_int me_int)) ma_nil))) (ma_cons (mv 3) ma_nil)))))))))
abbrev N__law_take : List PySem.Str := ["_law_pool_here", "_law_many", "_law_digit"]
theorem sc__law_take : FnScope N__law_take ["_law_pool_here", "_law_many"] (defScope (topS 43)) := ⟨rfl, rfl, rfl, by decide +kernel, rfl, by decide +kernel, by decide +kernel⟩
theorem ok__law_take (B : Bm mg)  (F : Fun K "_law_take" "_law_take" (topS 43) f fd) : FnOk P w K mg base CX0 1 f fd ["_law_pool_here", "_law_many"] (spF ⟨P, w, K, mg⟩ 2 m__law_take) :=
  Fun.okM F sc__law_take rfl rfl (k := 0) fun cdv A outer s H E hr =>
    (mss_cons (ms_if (mt_gt (me_sub_ix (mv 0) me_int (fun _ _ => rfl)) me_int) (mss_cons (ms_set (i := 2) sc__law_take.nd rfl (Or.inl rfl) (me_mod (me_sub_ix (mv 0) me_int (fun _ _ => rfl)) (mv 1)))
    (mss_cons (ms_asg (sl := []) (me_fdiv (me_sub_ix (mv 0) me_int (fun _ _ => rfl)) (mv 1)) (mg_ix (mv 0) me_int))
    (mss_one (ms_ret (mv 2))))) mss_nil)
    (mss_cons (ms_asg (sl := []) (me_mod (me_add (me_mul (me_sub_ix (mv 0) me_int (fun _ _ => rfl)) me_int) me_int) me_int) (mg_ix (mv 0) me_int))
    (mss_one (ms_ret (me_mod (me_fdiv (me_mod (me_mul (me_sub_ix (mv 0) me_int (fun _ _ => rfl)) (me_sub_ix (mv 0) me_int (fun _ _ => rfl))) me_int) me_int) (mv 1))))))
abbrev N__law_odd : List PySem.Str := ["_law_pool_here", "_law_deed_here", "_law_some"]
theorem sc__law_odd : FnScope N__law_odd ["_law_pool_here", "_law_deed_here"] (defScope (topS 47)) := ⟨rfl, rfl, rfl, by decide +kernel, rfl, by decide +kernel, by decide +kernel⟩
theorem ok__law_odd (B : Bm mg) (d__law_take : Df P w K mg base 1 "_law_take" 2 m__law_take) (F : Fun K "_law_odd" "_law_odd" (topS 47) f fd) : FnOk P w K mg base CX0 2 f fd ["_law_pool_here", "_law_deed_here"] (spF ⟨P, w, K, mg⟩ 2 m__law_odd) :=
  Fun.okM F sc__law_odd rfl rfl (k := 1) fun cdv A outer s H E hr =>
    (mss_cons (ms_set (i := 2) sc__law_odd.nd rfl (Or.inl rfl) (me_lst (ma_cons me_non (ma_cons (me_tup ma_nil) (ma_cons (me_add (mv 1) (me_tup (ma_cons me_int ma_nil))) (ma_cons (me_callTy (cr_list (by rfl)) lc_list0 (by rfl) B.list (by decide +kernel) (ma_cons (mv 1) ma_nil)) (ma_cons (me_tup (ma_cons me_str ma_nil)) (ma_cons (me_tup (ma_cons me_str (ma_cons (me_neg me_int) ma_nil))) (ma_cons (me_tup (ma_cons me_str (ma_cons me_bl ma_nil))) (ma_cons (me_tup (ma_cons me_str (ma_cons me_int ma_nil))) ma_nil))))))))))
    (mss_cons (ms_set (i := 2) sc__law_odd.nd rfl (Or.inl rfl) (me_add (mv 2) (me_lst (ma_cons (me_tup (ma_cons me_str (ma_cons me_str (ma_cons me_str (ma_cons me_str ma_nil))))) (ma_cons (me_tup (ma_cons me_str (ma_cons me_int ma_nil))) (ma_cons (me_tup (ma_cons me_str (ma_cons (me_add (me_pow me_int me_int) me_int) ma_nil))) (ma_cons (me_tup (ma_cons me_str (ma_cons me_str (ma_cons (me_tup ma_nil) ma_nil)))) (ma_cons (me_tup (ma_cons me_str (ma_cons me_str ma_nil))) ma_nil))))))))
    (mss_cons (ms_set (i := 2) sc__law_odd.nd rfl (Or.inl rfl) (me_add (mv 2) (me_lst (ma_cons (me_tup (ma_cons me_str (ma_cons me_str (ma_cons (me_tup (ma_cons me_int (ma_cons me_int ma_nil))) ma_nil)))) (ma_cons (me_tup (ma_cons me_str (ma_cons me_str (ma_cons (me_lst (ma_cons me_int ma_nil)) ma_nil)))) (ma_cons (me_tup (ma_cons me_str (ma_cons me_str (ma_cons (me_tup (ma_cons me_int ma_nil)) ma_nil)))) (ma_cons (me_tup (ma_cons me_str (ma_cons me_str ma_nil))) (ma_cons (me_tup (ma_cons me_str (ma_cons me_int ma_nil))) (ma_cons me_int ma_nil)))))))))
    (mss_one (ms_ret (me_sub_ix (me_add (mv 2) (me_lst (ma_cons (me_tup (ma_cons me_str (ma_cons me_str (ma_cons me_str (ma_cons me_str (ma_cons (me_add (me_pow me_int me_int) me_int) ma_nil)))))) ma_nil))) (me_call d__law_take arity_fun (hr.mono (by decide)) (by rfl) pass0 (ma_cons (mv 0) (ma_cons me_int ma_nil))) (fun _ _ => rfl)))))))
abbrev N_is_whole : List PySem.Str := ["thing"]
theorem sc_is_whole : FnScope N_is_whole ["thing"] (defScope (topS 3)) := ⟨rfl, rfl, rfl, by decide +kernel, rfl, by decide +kernel, by decide +kernel⟩
theorem ok_is_whole (B : Bm mg)  (F : Fun K "is_whole" "is_whole" (topS 3) f fd) : FnOk P w K mg base CX0 1 f fd ["thing"] (spF ⟨P, w, K, mg⟩ 1 m_is_whole) :=
  Fun.okM F sc_is_whole rfl rfl (k := 0) fun cdv A outer s H E hr =>
    (mss_one (ms_ret (me_and (me_callB call_isi (lc_isi (T := .int)) (by rfl) B.isinstance boot_isinstance (ma_cons (mv 0) (ma_cons (me_bty (by rfl) B.int (by decide +kernel)) ma_nil))) (me_one (me_not (me_callB call_isi (lc_isi (T := .bl)) (by rfl) B.isinstance boot_isinstance (ma_cons (mv 0) (ma_cons (me_bty (by rfl) B.bool (by decide +kernel)) ma_nil))))))))
abbrev N_is_between : List PySem.Str := ["thing", "least", "greatest"]
theorem sc_is_between : FnScope N_is_between ["thing", "least", "greatest"] (defScope (topS 4)) := ⟨rfl, rfl, rfl, by decide +kernel, rfl, by decide +kernel, by decide +kernel⟩
theorem ok_is_between (B : Bm mg) (d_is_whole : Df P w K mg base 1 "is_whole" 1 m_is_whole) (F : Fun K "is_between" "is_between" (topS 4) f fd) : FnOk P w K mg base CX0 2 f fd ["thing", "least", "greatest"] (spF ⟨P, w, K, mg⟩ 3 m_is_between) :=
  Fun.okM F sc_is_between rfl rfl (k := 1) fun cdv A outer s H E hr =>
    (mss_one (ms_ret (me_and (me_call d_is_whole arity_fun (hr.mono (by decide)) (by rfl) pass0 (ma_cons (mv 0) ma_nil)) (me_one (me_lele (mv 1) (mv 0) (mv 2))))))
abbrev N_is_place : List PySem.Str := ["thing"]
theorem sc_is_place : FnScope N_is_place ["thing"] (defScope (topS 18)) := ⟨rfl, rfl, rfl, by decide +kernel, rfl, by decide +kernel, by decide +kernel⟩
theorem ok_is_place (B : Bm mg) (d_is_between : Df P w K mg base 2 "is_between" 3 m_is_between) (g_PLACES : ∃ t, mg "PLACES" = some (.int (64) t)) (F : Fun K "is_place" "is_place" (topS 18) f fd) : FnOk P w K mg base CX0 3 f fd ["thing"] (spF ⟨P, w, K, mg⟩ 1 m_is_place) :=
  Fun.okM F sc_is_place rfl rfl (k := 2) fun cdv A outer s H E hr =>
    (mss_one (ms_ret (me_call d_is_between arity_fun (hr.mono (by decide)) (by rfl) pass0 (ma_cons (mv 0) (ma_cons me_int (ma_cons (me_sub (me_gint (by rfl) g_PLACES) me_int) ma_nil))))))
abbrev N_first_wrong : List PySem.Str := ["things", "is_right", "number", "thing"]
theorem sc_first_wrong : FnScope N_first_wrong ["things", "is_right"] (defScope (topS 6)) := ⟨rfl, rfl, rfl, by decide +kernel, rfl, by decide +kernel, by decide +kernel⟩
theorem ok_first_wrong (B : Bm mg) (d_is_place : Df P w K mg base 3 "is_place" 1 m_is_place) (no_is_ring_mark : mg "is_ring_mark" = none) (F : Fun K "first_wrong" "first_wrong" (topS 6) f fd) : FnOk P w K mg base CX0 4 f fd ["things", "is_right"] (spF ⟨P, w, K, mg⟩ 2 m_first_wrong) :=
  Fun.okM F sc_first_wrong rfl rfl (k := 3) fun cdv A outer s H E hr =>
    (mss_cons (ms_for (sl := [2, 3]) PassesOwn.never (by rfl) (mi_enum (by rfl) B.enumerate (ma_cons (mv 0) ma_nil)) (mg_tup rfl (mgs_cons (mg_name (i := 2) (by decide) sc_first_wrong.nd rfl (Or.inl rfl)) (mgs_cons (mg_name (i := 3) (by decide) sc_first_wrong.nd rfl (Or.inl rfl)) mgs_nil))) (mss_one (ms_if (mt_bool (mw_or (mt_not (mt_tru (me_cvQ (k := 3) (dq_no no_is_ring_mark (dq_cons d_is_place arity_fun (by decide) dq_nil)) (hr.mono (by decide)) rfl (by first | exact Or.inl rfl | exact Or.inr (Or.inl rfl) | exact Or.inr (Or.inr rfl)) (ma_cons (mv 3) ma_nil)))) (mw_or1 (mt_in (hu65 hr) (mv 3) (me_slice (mv 0) mo_none (mo_some (mv 2))))))) (mss_one (ms_ret (mv 2))) mss_nil)))
    (mss_one (ms_ret me_non)))
abbrev N_are_places : List PySem.Str := ["thing"]
theorem sc_are_places : FnScope N_are_places ["thing"] (defScope (topS 24)) := ⟨rfl, rfl, rfl, by decide +kernel, rfl, by decide +kernel, by decide +kernel⟩
theorem ok_are_places (B : Bm mg) (d_first_wrong : Df P w K mg base 4 "first_wrong" 2 m_first_wrong) (gm_is_place : ∃ a, mg "is_place" = some (.ref a)) (F : Fun K "are_places" "are_places" (topS 24) f fd) : FnOk P w K mg base CX0 5 f fd ["thing"] (spF ⟨P, w, K, mg⟩ 1 m_are_places) :=
  Fun.okM F sc_are_places rfl rfl (k := 4) fun cdv A outer s H E hr =>
    (mss_one (ms_ret (me_and (me_callB call_isi (lc_isi (T := .tup)) (by rfl) B.isinstance boot_isinstance (ma_cons (mv 0) (ma_cons (me_bty (by rfl) B.tuple (by decide +kernel)) ma_nil))) (me_and (me_gt (me_callB cr_len lc_len (by rfl) B.len PySem.boot_len (ma_cons (mv 0) ma_nil)) me_int) (me_one (me_isN (me_call d_first_wrong arity_fun (hr.mono (by decide)) (by rfl) pass0 (ma_cons (mv 0) (ma_cons (me_globE (by rfl) gm_is_place) ma_nil))) me_non))))))
abbrev N_is_word : List PySem.Str := ["thing", "letter"]
theorem sc_is_word : FnScope N_is_word ["thing"] (defScope (topS 5)) := ⟨rfl, rfl, rfl, by decide +kernel, rfl, by decide +kernel, by decide +kernel⟩
theorem ok_is_word (B : Bm mg) (g_LONGEST_WORD : ∃ t, mg "LONGEST_WORD" = some (.int (6) t)) (g_LETTERS : ∃ t, mg "LETTERS" = some (.str "abcdefghijklmnopqrstuvwxyz" t)) (F : Fun K "is_word" "is_word" (topS 5) f fd) : FnOk P w K mg base CX0 1 f fd ["thing"] (spF ⟨P, w, K, mg⟩ 1 m_is_word) :=
  Fun.okM F sc_is_word rfl rfl (k := 0) fun cdv A outer s H E hr =>
    (mss_cons (ms_if (mt_bool (mw_or (mt_not (mt_tru (me_callB call_isi (lc_isi (T := .str)) (by rfl) B.isinstance boot_isinstance (ma_cons (mv 0) (ma_cons (me_bty (by rfl) B.str (by decide +kernel)) ma_nil))))) (mw_or1 (mt_not (mt_lele me_int (me_callB cr_len lc_len (by rfl) B.len PySem.boot_len (ma_cons (mv 0) ma_nil)) (me_gint (by rfl) g_LONGEST_WORD)))))) (mss_one (ms_ret me_bl)) mss_nil)
    (mss_one (ms_ret (me_callB (cr_all (by rfl)) lc_all (by rfl) B.all boot_all (ma_cons (me_lc (sl := [1]) (by rfl) sc_is_word.nd (mi_str (mv 0)) (blkOk_by (own := [("letter", 1)]) (N := N_is_word) (sc := defScope (topS 5)) (by decide +kernel)) (hsl := rfl) (fun _ _ _ _ _ => (mg_name (i := 1) (by decide) sc_is_word.nd rfl (Or.inl rfl))) (fun _ _ _ _ _ => mts_nil) (fun _ _ _ _ _ => (me_in (hu65 hr) (mv 1) (me_gstr (by rfl) g_LETTERS)))) ma_nil)))))
abbrev N_is_mark : List PySem.Str := ["thing", "word", "time"]
theorem sc_is_mark : FnScope N_is_mark ["thing"] (defScope (topS 14)) := ⟨rfl, rfl, rfl, by decide +kernel, rfl, by decide +kernel, by decide +kernel⟩
theorem ok_is_mark (B : Bm mg) (d_is_whole : Df P w K mg base 1 "is_whole" 1 m_is_whole) (g_GONE : ∃ t, mg "GONE" = some (.str "gone" t)) (F : Fun K "is_mark" "is_mark" (topS 14) f fd) : FnOk P w K mg base CX0 2 f fd ["thing"] (spF ⟨P, w, K, mg⟩ 1 m_is_mark) :=
  Fun.okM F sc_is_mark rfl rfl (k := 1) fun cdv A outer s H E hr =>
    (mss_cons (ms_if (mt_bool (mw_or (mt_not (mt_tru (me_callB call_isi (lc_isi (T := .tup)) (by rfl) B.isinstance boot_isinstance (ma_cons (mv 0) (ma_cons (me_bty (by rfl) B.tuple (by decide +kernel)) ma_nil))))) (mw_or1 (mt_ne (hu_64 hr) (me_callB cr_len lc_len (by rfl) B.len PySem.boot_len (ma_cons (mv 0) ma_nil)) me_int)))) (mss_one (ms_ret me_bl)) mss_nil)
    (mss_cons (ms_asg (sl := [1, 2]) (mv 0) (mg_tup rfl (mgs_cons (mg_name (i := 1) (by decide) sc_is_mark.nd rfl (Or.inl rfl)) (mgs_cons (mg_name (i := 2) (by decide) sc_is_mark.nd rfl (Or.inl rfl)) mgs_nil))))
    (mss_cons (ms_if (mt_bool (mw_or (mt_not (mt_tru (me_callB call_isi (lc_isi (T := .str)) (by rfl) B.isinstance boot_isinstance (ma_cons (mv 1) (ma_cons (me_bty (by rfl) B.str (by decide +kernel)) ma_nil))))) (mw_or1 (mt_not (mt_tru (me_call d_is_whole arity_fun (hr.mono (by decide)) (by rfl) pass0 (ma_cons (mv 2) ma_nil))))))) (mss_one (ms_ret me_bl)) mss_nil)
    (mss_one (ms_ret (me_and (me_eq (hu_64 hr) (mv 1) (me_gstr (by rfl) g_GONE)) (me_one (me_ge (mv 2) me_int))))))))
abbrev N_is_worth : List PySem.Str := ["thing"]
theorem sc_is_worth : FnScope N_is_worth ["thing"] (defScope (topS 15)) := ⟨rfl, rfl, rfl, by decide +kernel, rfl, by decide +kernel, by decide +kernel⟩
theorem ok_is_worth (B : Bm mg) (d_is_whole : Df P w K mg base 1 "is_whole" 1 m_is_whole) (g_GREATEST_WORTH : ∃ t, mg "GREATEST_WORTH" = some (.int (1000000000) t)) (d_is_mark : Df P w K mg base 2 "is_mark" 1 m_is_mark) (F : Fun K "is_worth" "is_worth" (topS 15) f fd) : FnOk P w K mg base CX0 3 f fd ["thing"] (spF ⟨P, w, K, mg⟩ 1 m_is_worth) :=
  Fun.okM F sc_is_worth rfl rfl (k := 2) fun cdv A outer s H E hr =>
    (mss_cons (ms_if (mt_tru (me_call d_is_whole arity_fun (hr.mono (by decide)) (by rfl) pass0 (ma_cons (mv 0) ma_nil))) (mss_one (ms_ret (me_lele (me_neg (me_gint (by rfl) g_GREATEST_WORTH)) (mv 0) (me_gint (by rfl) g_GREATEST_WORTH)))) mss_nil)
    (mss_one (ms_ret (me_call d_is_mark arity_fun (hr.mono (by decide)) (by rfl) pass0 (ma_cons (mv 0) ma_nil)))))
abbrev N_has_form : List PySem.Str := ["part", "form"]
theorem sc_has_form : FnScope N_has_form ["part", "form"] (defScope (topS 23)) := ⟨rfl, rfl, rfl, by decide +kernel, rfl, by decide +kernel, by decide +kernel⟩
theorem ok_has_form (B : Bm mg) (d_is_word : Df P w K mg base 1 "is_word" 1 m_is_word) (d_is_whole : Df P w K mg base 1 "is_whole" 1 m_is_whole) (d_is_worth : Df P w K mg base 3 "is_worth" 1 m_is_worth) (d_is_between : Df P w K mg base 2 "is_between" 3 m_is_between) (g_LONGEST_TICK : ∃ t, mg "LONGEST_TICK" = some (.int (1000000) t)) (d_are_places : Df P w K mg base 5 "are_places" 1 m_are_places) (F : Fun K "has_form" "has_form" (topS 23) f fd) : FnOk P w K mg base CX0 6 f fd ["part", "form"] (spF ⟨P, w, K, mg⟩ 2 m_has_form) :=
  Fun.okM F sc_has_form rfl rfl (k := 5) fun cdv A outer s H E hr =>
    (mss_cons (ms_if (mt_eq (hu_64 hr) (mv 1) me_str) (mss_one (ms_ret (me_call d_is_word arity_fun (hr.mono (by decide)) (by rfl) pass0 (ma_cons (mv 0) ma_nil)))) mss_nil)
    (mss_cons (ms_if (mt_eq (hu_64 hr) (mv 1) me_str) (mss_one (ms_ret (me_and (me_call d_is_whole arity_fun (hr.mono (by decide)) (by rfl) pass0 (ma_cons (mv 0) ma_nil)) (me_one (me_call d_is_worth arity_fun (hr.mono (by decide)) (by rfl) pass0 (ma_cons (mv 0) ma_nil)))))) mss_nil)
    (mss_cons (ms_if (mt_eq (hu_64 hr) (mv 1) me_str) (mss_one (ms_ret (me_and (me_call d_is_whole arity_fun (hr.mono (by decide)) (by rfl) pass0 (ma_cons (mv 0) ma_nil)) (me_one (me_ge (mv 0) me_int))))) mss_nil)
    (mss_cons (ms_if (mt_eq (hu_64 hr) (mv 1) me_str) (mss_one (ms_ret (me_call d_is_between arity_fun (hr.mono (by decide)) (by rfl) pass0 (ma_cons (mv 0) (ma_cons me_int (ma_cons (me_gint (by rfl) g_LONGEST_TICK) ma_nil)))))) mss_nil)
    (mss_one (ms_ret (me_call d_are_places arity_fun (hr.mono (by decide)) (by rfl) pass0 (ma_cons (mv 0) ma_nil))))))))
abbrev N_is_deed : List PySem.Str := ["thing", "word", "parts", "forms", "part", "form"]
theorem sc_is_deed : FnScope N_is_deed ["thing"] (defScope (topS 22)) := ⟨rfl, rfl, rfl, by decide +kernel, rfl, by decide +kernel, by decide +kernel⟩
theorem ok_is_deed (B : Bm mg) (gt_FORMS : GTab w K mg "FORMS" tab_FORMS) (d_has_form : Df P w K mg base 6 "has_form" 2 m_has_form) (F : Fun K "is_deed" "is_deed" (topS 22) f fd) : FnOk P w K mg base CX0 7 f fd ["thing"] (spF ⟨P, w, K, mg⟩ 1 m_is_deed) :=
  Fun.okM F sc_is_deed rfl rfl (k := 6) fun cdv A outer s H E hr =>
    (mss_cons (ms_if (mt_bool (mw_or (mt_not (mt_tru (me_callB call_isi (lc_isi (T := .tup)) (by rfl) B.isinstance boot_isinstance (ma_cons (mv 0) (ma_cons (me_bty (by rfl) B.tuple (by decide +kernel)) ma_nil))))) (mw_or1 (mt_eq (hu_64 hr) (me_callB cr_len lc_len (by rfl) B.len PySem.boot_len (ma_cons (mv 0) ma_nil)) me_int)))) (mss_one (ms_ret me_bl)) mss_nil)
    (mss_cons (ms_set (i := 1) sc_is_deed.nd rfl (Or.inl rfl) (me_sub_ix (mv 0) me_int (fun _ _ => rfl)))
    (mss_cons (ms_if (mt_bool (mw_or (mt_not (mt_tru (me_callB call_isi (lc_isi (T := .str)) (by rfl) B.isinstance boot_isinstance (ma_cons (mv 1) (ma_cons (me_bty (by rfl) B.str (by decide +kernel)) ma_nil))))) (mw_or1 (mt_notInG gt_FORMS (by rfl) (mv 1))))) (mss_one (ms_ret me_bl)) mss_nil)
    (mss_cons (ms_set (i := 2) sc_is_deed.nd rfl (Or.inl rfl) (me_slice (mv 0) (mo_some me_int) mo_none))
    (mss_cons (ms_set (i := 3) sc_is_deed.nd rfl (Or.inl rfl) (me_ixG gt_FORMS (by rfl) (mv 1) (fun _ _ => rfl)))
    (mss_one (ms_ret (me_and (me_eq (hu_64 hr) (me_callB cr_len lc_len (by rfl) B.len PySem.boot_len (ma_cons (mv 2) ma_nil)) (me_callB cr_len lc_len (by rfl) B.len PySem.boot_len (ma_cons (mv 3) ma_nil))) (me_one (me_callB (cr_all (by rfl)) lc_all (by rfl) B.all boot_all (ma_cons (me_lc (sl := [4, 5]) (by rfl) sc_is_deed.nd (mi_zip (by rfl) B.zip (ma_cons (mv 2) (ma_cons (mv 3) ma_nil))) (blkOk_by (own := [("part", 4), ("form", 5)]) (N := N_is_deed) (sc := defScope (topS 22)) (by decide +kernel)) (hsl := rfl) (fun _ _ _ _ _ => (mg_tup rfl (mgs_cons (mg_name (i := 4) (by decide) sc_is_deed.nd rfl (Or.inl rfl)) (mgs_cons (mg_name (i := 5) (by decide) sc_is_deed.nd rfl (Or.inl rfl)) mgs_nil)))) (fun _ _ _ _ _ => mts_nil) (fun _ _ _ _ _ => (me_call d_has_form arity_fun (hr.mono (by decide)) (by rfl) pass0 (ma_cons (mv 4) (ma_cons (mv 5) ma_nil))))) ma_nil)))))))))))
abbrev N_look_at_weaving : List PySem.Str := ["thing", "number", "deed"]
theorem sc_look_at_weaving : FnScope N_look_at_weaving ["thing"] (defScope (topS 25)) := ⟨rfl, rfl, rfl, by decide +kernel, rfl, by decide +kernel, by decide +kernel⟩
theorem okx_look_at_weaving (B : Bm mg) (x1_NoDeed : Xf1 P w K mg base "NoDeed" "number") (d_is_deed : Df P w K mg base 7 "is_deed" 1 m_is_deed) (F : Fun K "look_at_weaving" "look_at_weaving" (topS 25) f fd) : FnOk P w K mg base (L2.CX P w) 8 f fd ["thing"] (spX ⟨P, w, K, mg⟩ 1 x_look_at_weaving) :=
  Fun.okX F sc_look_at_weaving rfl rfl (k := 7) fun cdv A outer s H E hr tk hp =>
    (css_cons (cs_if (ct_of (mt_not (mt_tru (me_callB call_isi (lc_isi (T := .lst)) (by rfl) B.isinstance boot_isinstance (ma_cons (mv 0) (ma_cons (me_bty (by rfl) B.list (by decide +kernel)) ma_nil)))))) (css_one (cs_raise1 x1_NoDeed (hr.mono (by decide)) (by rfl) tk (by rfl) me_non)) css_nil)
    (css_one (cs_for (sl := [1, 2]) hp (by rfl) (mi_enum (by rfl) B.enumerate (ma_cons (mv 0) ma_nil)) (mg_tup rfl (mgs_cons (mg_name (i := 1) (by decide) sc_look_at_weaving.nd rfl (Or.inl rfl)) (mgs_cons (mg_name (i := 2) (by decide) sc_look_at_weaving.nd rfl (Or.inl rfl)) mgs_nil))) (css_one (cs_if (ct_of (mt_not (mt_tru (me_call d_is_deed arity_fun (hr.mono (by decide)) (by rfl) pass0 (ma_cons (mv 2) ma_nil))))) (css_one (cs_raise1 x1_NoDeed (hr.mono (by decide)) (by rfl) tk (by rfl) (mv 1))) css_nil)))))
abbrev N_show_listed : List PySem.Str := ["texts"]
theorem sc_show_listed : FnScope N_show_listed ["texts"] (defScope (topS 30)) := ⟨rfl, rfl, rfl, by decide +kernel, rfl, by decide +kernel, by decide +kernel⟩
theorem ok_show_listed (B : Bm mg) (g_NONE : ∃ t, mg "NONE" = some (.str "-" t)) (F : Fun K "show_listed" "show_listed" (topS 30) f fd) : FnOk P w K mg base CX0 1 f fd ["texts"] (spF ⟨P, w, K, mg⟩ 1 m_show_listed) :=
  Fun.okM F sc_show_listed rfl rfl (k := 0) fun cdv A outer s H E hr =>
    (mss_one (ms_ret (me_orT (me_join me_str (mv 0)) (me_one (me_gstr (by rfl) g_NONE)))))
abbrev N_show_part : List PySem.Str := ["part", "place"]
theorem sc_show_part : FnScope N_show_part ["part"] (defScope (topS 32)) := ⟨rfl, rfl, rfl, by decide +kernel, rfl, by decide +kernel, by decide +kernel⟩
theorem ok_show_part (B : Bm mg) (d_show_listed : Df P w K mg base 1 "show_listed" 1 m_show_listed) (F : Fun K "show_part" "show_part" (topS 32) f fd) : FnOk P w K mg base CX0 2 f fd ["part"] (spF ⟨P, w, K, mg⟩ 1 m_show_part) :=
  Fun.okM F sc_show_part rfl rfl (k := 1) fun cdv A outer s H E hr =>
    (mss_one (ms_ret (me_if (mt_tru (me_callB call_isi (lc_isi (T := .tup)) (by rfl) B.isinstance boot_isinstance (ma_cons (mv 0) (ma_cons (me_bty (by rfl) B.tuple (by decide +kernel)) ma_nil)))) (me_call d_show_listed arity_fun (hr.mono (by decide)) (by rfl) pass0 (ma_cons (me_lc (sl := [1]) (by rfl) sc_show_part.nd (mi_seq (mv 0)) (blkOk_by (own := [("place", 1)]) (N := N_show_part) (sc := defScope (topS 32)) (by decide +kernel)) (hsl := rfl) (fun _ _ _ _ _ => (mg_name (i := 1) (by decide) sc_show_part.nd rfl (Or.inl rfl))) (fun _ _ _ _ _ => mts_nil) (fun _ _ _ _ _ => (me_callTy cr_strA lc_strA (by rfl) B.str (by decide +kernel) (ma_cons (mv 1) ma_nil)))) ma_nil)) (me_callTy cr_strA lc_strA (by rfl) B.str (by decide +kernel) (ma_cons (mv 0) ma_nil)))))
abbrev N_show_deed : List PySem.Str := ["deed", "part"]
theorem sc_show_deed : FnScope N_show_deed ["deed"] (defScope (topS 31)) := ⟨rfl, rfl, rfl, by decide +kernel, rfl, by decide +kernel, by decide +kernel⟩
theorem ok_show_deed (B : Bm mg) (d_show_part : Df P w K mg base 2 "show_part" 1 m_show_part) (F : Fun K "show_deed" "show_deed" (topS 31) f fd) : FnOk P w K mg base CX0 3 f fd ["deed"] (spF ⟨P, w, K, mg⟩ 1 m_show_deed) :=
  Fun.okM F sc_show_deed rfl rfl (k := 2) fun cdv A outer s H E hr =>
    (mss_one (ms_ret (me_join me_str (me_lc (sl := [1]) (by rfl) sc_show_deed.nd (mi_seq (mv 0)) (blkOk_by (own := [("part", 1)]) (N := N_show_deed) (sc := defScope (topS 31)) (by decide +kernel)) (hsl := rfl) (fun _ _ _ _ _ => (mg_name (i := 1) (by decide) sc_show_deed.nd rfl (Or.inl rfl))) (fun _ _ _ _ _ => mts_nil) (fun _ _ _ _ _ => (me_call d_show_part arity_fun (hr.mono (by decide)) (by rfl) pass0 (ma_cons (mv 1) ma_nil)))))))
abbrev N_show_weaving : List PySem.Str := ["deeds", "deed"]
theorem sc_show_weaving : FnScope N_show_weaving ["deeds"] (defScope (topS 33)) := ⟨rfl, rfl, rfl, by decide +kernel, rfl, by decide +kernel, by decide +kernel⟩
theorem okx_show_weaving (B : Bm mg) (dx_look_at_weaving : DfX P w K mg base 8 "look_at_weaving" 1 x_look_at_weaving) (d_show_deed : Df P w K mg base 3 "show_deed" 1 m_show_deed) (F : Fun K "show_weaving" "show_weaving" (topS 33) f fd) : FnOk P w K mg base (L2.CX P w) 9 f fd ["deeds"] (spX ⟨P, w, K, mg⟩ 1 x_show_weaving) :=
  Fun.okX F sc_show_weaving rfl rfl (k := 8) fun cdv A outer s H E hr tk hp =>
    (css_cons (cs_expr (ce_call dx_look_at_weaving arity_funX (hr.mono (by decide)) (by rfl) tk (ca_of (ma_cons (mv 0) ma_nil))))
    (css_one (cs_of (ms_ret (me_join me_str (me_lc (sl := [1]) (by rfl) sc_show_weaving.nd (mi_seq (mv 0)) (blkOk_by (own := [("deed", 1)]) (N := N_show_weaving) (sc := defScope (topS 33)) (by decide +kernel)) (hsl := rfl) (fun _ _ _ _ _ => (mg_name (i := 1) (by decide) sc_show_weaving.nd rfl (Or.inl rfl))) (fun _ _ _ _ _ => mts_nil) (fun _ _ _ _ _ => (me_call d_show_deed arity_fun (hr.mono (by decide)) (by rfl) pass0 (ma_cons (mv 1) ma_nil)))))))))
abbrev N__law_refused : List PySem.Str := ["_law_thing", "e"]
theorem sc__law_refused : FnScope N__law_refused ["_law_thing"] (defScope (topS 46)) := ⟨rfl, rfl, rfl, by decide +kernel, rfl, by decide +kernel, by decide +kernel⟩
theorem ok__law_refused (B : Bm mg) (dx_show_weaving : DfX P w K mg base 9 "show_weaving" 1 x_show_weaving) (gx_NoDeed : ∃ a, mg "NoDeed" = some (.ref a)) (xo_NoDeed : Xo K mg xcls "NoDeed") (xn_number : Xn K mg ["NoDeed"] "number") (bx_ValueError : mg (PySem.Str.ofString "ValueError") = none) (xt_ValueError : Xt K mg xcls (PySem.Str.ofString "ValueError")) (clsg : ClsG K) (gx_NoText : ∃ a, mg "NoText" = some (.ref a)) (xt_NoText : Xt K mg xcls "NoText") (F : Fun K "_law_refused" "_law_refused" (topS 46) f fd) : FnOk P w K mg base CX0 10 f fd ["_law_thing"] (spF ⟨P, w, K, mg⟩ 1 m__law_refused) :=
  Fun.okM F sc__law_refused rfl rfl (k := 9) fun cdv A outer s H E hr =>
    (mss_cons (ms_ofC (cs_try rfl rfl sc__law_refused.nd takes_none5 (fun W pn xe tk hp => (css_one (cs_expr (ce_call dx_show_weaving arity_funX (hr.mono (by decide)) (by rfl) tk (ca_of (ma_cons (mv 0) ma_nil)))))) (.as_ (i := 1) (cls_one (by rfl) (by decide) gx_NoDeed) (ball_cons xo_NoDeed ball_nil) rfl (by rfl) (fun _ _ => (mss_one (ms_ret (me_lst (ma_cons me_str (ma_cons (me_xf xn_number (mv 1)) (ma_cons (me_and (me_callB (call_isQ clsg) (lc_isQb (T := "ValueError") xt_ValueError bx_ValueError (by decide +kernel)) (by rfl) B.isinstance boot_isinstance (ma_cons (mv 1) (ma_cons (me_bty (by rfl) bx_ValueError (by decide +kernel)) ma_nil))) (me_one (me_not (me_callB (call_isQ clsg) (lc_isQo xt_NoText gx_NoText) (by rfl) B.isinstance boot_isinstance (ma_cons (mv 1) (ma_cons (me_globE (by rfl) gx_NoText) ma_nil)))))) ma_nil))))))) .nil)))
    (mss_one (ms_ret me_non)))
abbrev N__law_deed : List PySem.Str := ["_law_pool_here", "_law_who", "_law_one", "_law_other", "_law_word", "_law_number", "_law_some", "_law_places"]
theorem sc__law_deed : FnScope N__law_deed ["_law_pool_here"] (defScope (topS 44)) := ⟨rfl, rfl, rfl, by decide +kernel, rfl, by decide +kernel, by decide +kernel⟩
theorem ok__law_deed (B : Bm mg) (d__law_take : Df P w K mg base 1 "_law_take" 2 m__law_take) (F : Fun K "_law_deed" "_law_deed" (topS 44) f fd) : FnOk P w K mg base CX0 2 f fd ["_law_pool_here"] (spF ⟨P, w, K, mg⟩ 1 m__law_deed) :=
  Fun.okM F sc__law_deed rfl rfl (k := 1) fun cdv A outer s H E hr =>
    (mss_cons (ms_par3 (by rfl) sc__law_deed.nd rfl rfl rfl (by decide) (by decide) (by decide) rfl rfl rfl (ma_cons (me_sub_ix me_str (me_call d__law_take arity_fun (hr.mono (by decide)) (by rfl) pass0 (ma_cons (mv 0) (ma_cons me_int ma_nil))) (fun _ _ => rfl)) (ma_cons (me_sub_ix me_str (me_call d__law_take arity_fun (hr.mono (by decide)) (by rfl) pass0 (ma_cons (mv 0) (ma_cons me_int ma_nil))) (fun _ _ => rfl)) (ma_cons (me_sub_ix (me_lst (ma_cons me_str (ma_cons me_str (ma_cons me_str ma_nil)))) (me_call d__law_take arity_fun (hr.mono (by decide)) (by rfl) pass0 (ma_cons (mv 0) (ma_cons me_int ma_nil))) (fun _ _ => rfl)) ma_nil))) (by rfl))
    (mss_cons (ms_par (by rfl) sc__law_deed.nd rfl rfl (by decide) rfl rfl (ma_cons (me_sub_ix (me_lst (ma_cons me_str (ma_cons me_str (ma_cons me_str ma_nil)))) (me_call d__law_take arity_fun (hr.mono (by decide)) (by rfl) pass0 (ma_cons (mv 0) (ma_cons me_int ma_nil))) (fun _ _ => rfl)) (ma_cons (me_sub_ix (me_lst (ma_cons me_int (ma_cons me_int (ma_cons me_int (ma_cons me_int (ma_cons (me_pow me_int me_int) ma_nil)))))) (me_call d__law_take arity_fun (hr.mono (by decide)) (by rfl) pass0 (ma_cons (mv 0) (ma_cons me_int ma_nil))) (fun _ _ => rfl)) ma_nil)) (by rfl))
    (mss_cons (ms_set (i := 6) sc__law_deed.nd rfl (Or.inl rfl) (me_lst (ma_cons (me_tup (ma_cons me_str (ma_cons (mv 1) (ma_cons (mv 2) (ma_cons (mv 4) (ma_cons (me_sub_ix (me_lst (ma_cons me_int (ma_cons me_int (ma_cons (me_neg me_int) (ma_cons (me_pow me_int me_int) (ma_cons (me_neg (me_pow me_int me_int)) ma_nil)))))) (me_call d__law_take arity_fun (hr.mono (by decide)) (by rfl) pass0 (ma_cons (mv 0) (ma_cons me_int ma_nil))) (fun _ _ => rfl)) ma_nil)))))) (ma_cons (me_tup (ma_cons me_str (ma_cons (mv 1) (ma_cons (mv 2) (ma_cons (mv 4) ma_nil))))) ma_nil))))
    (mss_cons (ms_set (i := 6) sc__law_deed.nd rfl (Or.inl rfl) (me_add (mv 6) (me_lst (ma_cons (me_tup (ma_cons me_str (ma_cons (mv 1) (ma_cons (mv 2) (ma_cons (mv 4) ma_nil))))) (ma_cons (me_tup (ma_cons me_str (ma_cons (mv 1) ma_nil))) (ma_cons (me_tup (ma_cons me_str (ma_cons (mv 5) ma_nil))) (ma_cons (me_tup (ma_cons me_str (ma_cons (mv 5) ma_nil))) (ma_cons (me_tup (ma_cons me_str (ma_cons (mv 5) ma_nil))) ma_nil))))))))
    (mss_cons (ms_set (i := 6) sc__law_deed.nd rfl (Or.inl rfl) (me_add (mv 6) (me_lst (ma_cons (me_tup (ma_cons me_str ma_nil)) (ma_cons (me_tup (ma_cons me_str (ma_cons (mv 2) ma_nil))) (ma_cons (me_tup (ma_cons me_str (ma_cons (mv 2) ma_nil))) (ma_cons (me_tup (ma_cons me_str (ma_cons (mv 2) ma_nil))) (ma_cons (me_tup (ma_cons me_str (ma_cons (mv 2) (ma_cons (mv 3) ma_nil)))) (ma_cons (me_tup (ma_cons me_str (ma_cons (mv 2) (ma_cons (mv 3) ma_nil)))) ma_nil)))))))))
    (mss_cons (ms_set (i := 6) sc__law_deed.nd rfl (Or.inl rfl) (me_add (mv 6) (me_lst (ma_cons (me_tup (ma_cons me_str (ma_cons (mv 2) ma_nil))) (ma_cons (me_tup (ma_cons me_str (ma_cons (mv 2) (ma_cons (mv 3) ma_nil)))) (ma_cons (me_tup (ma_cons me_str (ma_cons (me_sub_ix (me_lst (ma_cons me_int (ma_cons me_int (ma_cons (me_pow me_int me_int) ma_nil)))) (me_call d__law_take arity_fun (hr.mono (by decide)) (by rfl) pass0 (ma_cons (mv 0) (ma_cons me_int ma_nil))) (fun _ _ => rfl)) ma_nil))) (ma_cons (me_tup (ma_cons me_str (ma_cons (mv 2) ma_nil))) ma_nil)))))))
    (mss_cons (ms_set (i := 7) sc__law_deed.nd rfl (Or.inl rfl) (me_sub_ix (me_lst (ma_cons (me_tup (ma_cons me_int ma_nil)) (ma_cons (me_tup (ma_cons me_int (ma_cons me_int ma_nil))) (ma_cons (me_tup (ma_cons me_int (ma_cons me_int (ma_cons me_int (ma_cons me_int ma_nil))))) ma_nil)))) (me_call d__law_take arity_fun (hr.mono (by decide)) (by rfl) pass0 (ma_cons (mv 0) (ma_cons me_int ma_nil))) (fun _ _ => rfl)))
    (mss_one (ms_ret (me_sub_ix (me_add (mv 6) (me_lst (ma_cons (me_tup (ma_cons me_str (ma_cons (mv 3) (ma_cons (mv 7) ma_nil)))) ma_nil))) (me_call d__law_take arity_fun (hr.mono (by decide)) (by rfl) pass0 (ma_cons (mv 0) (ma_cons me_int ma_nil))) (fun _ _ => rfl)))))))))))
theorem ok_look_at_weaving (B : Bm mg) (d_is_deed : Df P w K mg base 7 "is_deed" 1 m_is_deed) (F : Fun K "look_at_weaving" "look_at_weaving" (topS 25) f fd) : FnOk P w K mg base CX0 8 f fd ["thing"] (spF ⟨P, w, K, mg⟩ 1 m_look_at_weaving) :=
  Fun.okM F sc_look_at_weaving rfl rfl (k := 7) fun cdv A outer s H E hr =>
    (mss_cons (ms_if (mt_not (mt_tru (me_callB call_isi (lc_isi (T := .lst)) (by rfl) B.isinstance boot_isinstance (ma_cons (mv 0) (ma_cons (me_bty (by rfl) B.list (by decide +kernel)) ma_nil))))) (mss_one (ms_no (fun _ _ _ _ z => by cases z))) mss_nil)
    (mss_one (ms_for (sl := [1, 2]) PassesOwn.never (by rfl) (mi_enum (by rfl) B.enumerate (ma_cons (mv 0) ma_nil)) (mg_tup rfl (mgs_cons (mg_name (i := 1) (by decide) sc_look_at_weaving.nd rfl (Or.inl rfl)) (mgs_cons (mg_name (i := 2) (by decide) sc_look_at_weaving.nd rfl (Or.inl rfl)) mgs_nil))) (mss_one (ms_if (mt_not (mt_tru (me_call d_is_deed arity_fun (hr.mono (by decide)) (by rfl) pass0 (ma_cons (mv 2) ma_nil)))) (mss_one (ms_no (fun _ _ _ _ z => by cases z))) mss_nil)))))
theorem ok_show_weaving (B : Bm mg) (d_look_at_weaving : Df P w K mg base 8 "look_at_weaving" 1 m_look_at_weaving) (d_show_deed : Df P w K mg base 3 "show_deed" 1 m_show_deed) (F : Fun K "show_weaving" "show_weaving" (topS 33) f fd) : FnOk P w K mg base CX0 9 f fd ["deeds"] (spF ⟨P, w, K, mg⟩ 1 m_show_weaving) :=
  Fun.okM F sc_show_weaving rfl rfl (k := 8) fun cdv A outer s H E hr =>
    (mss_cons (ms_expr (me_call d_look_at_weaving arity_fun (hr.mono (by decide)) (by rfl) pass0 (ma_cons (mv 0) ma_nil)))
    (mss_one (ms_ret (me_join me_str (me_lc (sl := [1]) (by rfl) sc_show_weaving.nd (mi_seq (mv 0)) (blkOk_by (own := [("deed", 1)]) (N := N_show_weaving) (sc := defScope (topS 33)) (by decide +kernel)) (hsl := rfl) (fun _ _ _ _ _ => (mg_name (i := 1) (by decide) sc_show_weaving.nd rfl (Or.inl rfl))) (fun _ _ _ _ _ => mts_nil) (fun _ _ _ _ _ => (me_call d_show_deed arity_fun (hr.mono (by decide)) (by rfl) pass0 (ma_cons (mv 1) ma_nil))))))))
abbrev N_read_figures : List PySem.Str := ["text", "sign"]
theorem sc_read_figures : FnScope N_read_figures ["text"] (defScope (topS 34)) := ⟨rfl, rfl, rfl, by decide +kernel, rfl, by decide +kernel, by decide +kernel⟩
theorem ok_read_figures (B : Bm mg) (g_MOST_FIGURES : ∃ t, mg "MOST_FIGURES" = some (.int (30) t)) (g_FIGURES : ∃ t, mg "FIGURES" = some (.str "0123456789" t)) (F : Fun K "read_figures" "read_figures" (topS 34) f fd) : FnOk P w K mg base CX0 1 f fd ["text"] (spF ⟨P, w, K, mg⟩ 1 m_read_figures) :=
  Fun.okM F sc_read_figures rfl rfl (k := 0) fun cdv A outer s H E hr =>
    (mss_cons (ms_if (mt_bool (mw_or (mt_not (mt_lele me_int (me_callB cr_len lc_len (by rfl) B.len PySem.boot_len (ma_cons (mv 0) ma_nil)) (me_gint (by rfl) g_MOST_FIGURES))) (mw_or1 (mt_not (mt_tru (me_callB (cr_all (by rfl)) lc_all (by rfl) B.all boot_all (ma_cons (me_lc (sl := [1]) (by rfl) sc_read_figures.nd (mi_str (mv 0)) (blkOk_by (own := [("sign", 1)]) (N := N_read_figures) (sc := defScope (topS 34)) (by decide +kernel)) (hsl := rfl) (fun _ _ _ _ _ => (mg_name (i := 1) (by decide) sc_read_figures.nd rfl (Or.inl rfl))) (fun _ _ _ _ _ => mts_nil) (fun _ _ _ _ _ => (me_in (hu65 hr) (mv 1) (me_gstr (by rfl) g_FIGURES)))) ma_nil))))))) (mss_one (ms_ret me_non)) mss_nil)
    (mss_cons (ms_if (mt_bool (mw_and (mt_eq (hu_64 hr) (me_sub_ix (mv 0) me_int (fun _ _ => rfl)) me_str) (mw_and1 (mt_gt (me_callB cr_len lc_len (by rfl) B.len PySem.boot_len (ma_cons (mv 0) ma_nil)) me_int)))) (mss_one (ms_ret me_non)) mss_nil)
    (mss_one (ms_ret (me_callTy call_int_str lc_intT (by rfl) B.int (by decide +kernel) (ma_cons (mv 0) ma_nil))))))
abbrev N_read_whole : List PySem.Str := ["text", "number"]
theorem sc_read_whole : FnScope N_read_whole ["text"] (defScope (topS 35)) := ⟨rfl, rfl, rfl, by decide +kernel, rfl, by decide +kernel, by decide +kernel⟩
theorem ok_read_whole (B : Bm mg) (d_read_figures : Df P w K mg base 1 "read_figures" 1 m_read_figures) (F : Fun K "read_whole" "read_whole" (topS 35) f fd) : FnOk P w K mg base CX0 2 f fd ["text"] (spF ⟨P, w, K, mg⟩ 1 m_read_whole) :=
  Fun.okM F sc_read_whole rfl rfl (k := 1) fun cdv A outer s H E hr =>
    (mss_cons (ms_if (mt_not (mt_tru (me_startswith (mv 0) (ma_cons me_str ma_nil)))) (mss_one (ms_ret (me_call d_read_figures arity_fun (hr.mono (by decide)) (by rfl) pass0 (ma_cons (mv 0) ma_nil)))) mss_nil)
    (mss_cons (ms_set (i := 1) sc_read_whole.nd rfl (Or.inl rfl) (me_call d_read_figures arity_fun (hr.mono (by decide)) (by rfl) pass0 (ma_cons (me_slice (mv 0) (mo_some me_int) mo_none) ma_nil)))
    (mss_one (ms_ret (me_if (mt_tru (mv 1)) (me_neg (mv 1)) me_non)))))
abbrev N_read_all : List PySem.Str := ["texts", "read_one", "told", "text", "thing"]
theorem sc_read_all : FnScope N_read_all ["texts", "read_one"] (defScope (topS 36)) := ⟨rfl, rfl, rfl, by decide +kernel, rfl, by decide +kernel, by decide +kernel⟩
theorem ok_read_all (B : Bm mg) (d_read_figures : Df P w K mg base 1 "read_figures" 1 m_read_figures) (F : Fun K "read_all" "read_all" (topS 36) f fd) : FnOk P w K mg base CX0 2 f fd ["texts", "read_one"] (spF ⟨P, w, K, mg⟩ 2 m_read_all) :=
  Fun.okM F sc_read_all rfl rfl (k := 1) fun cdv A outer s H E hr =>
    (mss_cons (ms_set (i := 2) sc_read_all.nd rfl (Or.inl rfl) (me_callTy call_tuple_of lc_tup (by rfl) B.tuple (by decide +kernel) (ma_cons (me_lc (sl := [3]) (by rfl) sc_read_all.nd (mi_seq (mv 0)) (blkOk_by (own := [("text", 3)]) (N := N_read_all) (sc := defScope (topS 36)) (by decide +kernel)) (hsl := rfl) (fun _ _ _ _ _ => (mg_name (i := 3) (by decide) sc_read_all.nd rfl (Or.inl rfl))) (fun _ _ _ _ _ => mts_nil) (fun _ _ _ _ _ => (me_cv (k := 1) (dv_cons d_read_figures arity_fun (by decide) dv_nil) (hr.mono (by decide)) rfl (by first | exact Or.inl rfl | exact Or.inr (Or.inl rfl) | exact Or.inr (Or.inr rfl)) (ma_cons (mv 3) ma_nil)))) ma_nil)))
    (mss_one (ms_ret (me_if (mt_tru (me_callB (cr_any (by rfl)) lc_any (by rfl) B.any boot_any (ma_cons (me_lc (sl := [4]) (by rfl) sc_read_all.nd (mi_seq (mv 2)) (blkOk_by (own := [("thing", 4)]) (N := N_read_all) (sc := defScope (topS 36)) (by decide +kernel)) (hsl := rfl) (fun _ _ _ _ _ => (mg_name (i := 4) (by decide) sc_read_all.nd rfl (Or.inl rfl))) (fun _ _ _ _ _ => mts_nil) (fun _ _ _ _ _ => (me_isN (mv 4) me_non))) ma_nil))) me_non (mv 2)))))
abbrev N_read_part : List PySem.Str := ["text", "form"]
theorem sc_read_part : FnScope N_read_part ["text", "form"] (defScope (topS 38)) := ⟨rfl, rfl, rfl, by decide +kernel, rfl, by decide +kernel, by decide +kernel⟩
theorem ok_read_part (B : Bm mg) (d_read_whole : Df P w K mg base 2 "read_whole" 1 m_read_whole) (d_read_all : Df P w K mg base 2 "read_all" 2 m_read_all) (gm_read_figures : ∃ a, mg "read_figures" = some (.ref a)) (d_read_figures : Df P w K mg base 1 "read_figures" 1 m_read_figures) (F : Fun K "read_part" "read_part" (topS 38) f fd) : FnOk P w K mg base CX0 3 f fd ["text", "form"] (spF ⟨P, w, K, mg⟩ 2 m_read_part) :=
  Fun.okM F sc_read_part rfl rfl (k := 2) fun cdv A outer s H E hr =>
    (mss_cons (ms_if (mt_eq (hu_64 hr) (mv 1) me_str) (mss_one (ms_ret (mv 0))) mss_nil)
    (mss_cons (ms_if (mt_eq (hu_64 hr) (mv 1) me_str) (mss_one (ms_ret (me_call d_read_whole arity_fun (hr.mono (by decide)) (by rfl) pass0 (ma_cons (mv 0) ma_nil)))) mss_nil)
    (mss_cons (ms_if (mt_eq (hu_64 hr) (mv 1) me_str) (mss_one (ms_ret (me_call d_read_all arity_fun (hr.mono (by decide)) (by rfl) pass0 (ma_cons (me_split (mv 0) (ma_cons me_str ma_nil)) (ma_cons (me_globE (by rfl) gm_read_figures) ma_nil))))) mss_nil)
    (mss_one (ms_ret (me_call d_read_figures arity_fun (hr.mono (by decide)) (by rfl) pass0 (ma_cons (mv 0) ma_nil)))))))
abbrev N_read_deed : List PySem.Str := ["text", "word", "parts", "deed", "part", "form"]
theorem sc_read_deed : FnScope N_read_deed ["text"] (defScope (topS 37)) := ⟨rfl, rfl, rfl, by decide +kernel, rfl, by decide +kernel, by decide +kernel⟩
theorem ok_read_deed (B : Bm mg) (gt_FORMS : GTab w K mg "FORMS" tab_FORMS) (d_read_part : Df P w K mg base 3 "read_part" 2 m_read_part) (d_is_deed : Df P w K mg base 7 "is_deed" 1 m_is_deed) (F : Fun K "read_deed" "read_deed" (topS 37) f fd) : FnOk P w K mg base CX0 8 f fd ["text"] (spF ⟨P, w, K, mg⟩ 1 m_read_deed) :=
  Fun.okM F sc_read_deed rfl rfl (k := 7) fun cdv A outer s H E hr =>
    (mss_cons (ms_asg (sl := [1, 2]) (me_split (mv 0) (ma_cons me_str ma_nil)) (mg_uns (by rfl) (mgs_cons (mg_name (i := 1) (by decide) sc_read_deed.nd rfl (Or.inl rfl)) (mgs_star (mg_name (i := 2) (by decide) sc_read_deed.nd rfl (Or.inl rfl)) mgs_nil))))
    (mss_cons (ms_if (mt_bool (mw_or (mt_notInG gt_FORMS (by rfl) (mv 1)) (mw_or1 (mt_ne (hu_64 hr) (me_callB cr_len lc_len (by rfl) B.len PySem.boot_len (ma_cons (mv 2) ma_nil)) (me_callB cr_len lc_len (by rfl) B.len PySem.boot_len (ma_cons (me_ixG gt_FORMS (by rfl) (mv 1) (fun _ _ => rfl)) ma_nil)))))) (mss_one (ms_ret me_non)) mss_nil)
    (mss_cons (ms_set (i := 3) sc_read_deed.nd rfl (Or.inl rfl) (me_add (me_tup (ma_cons (mv 1) ma_nil)) (me_callTy call_tuple_of lc_tup (by rfl) B.tuple (by decide +kernel) (ma_cons (me_lc (sl := [4, 5]) (by rfl) sc_read_deed.nd (mi_zipLt (by rfl) B.zip (ma_cons (mv 2) (ma_cons (me_ixG gt_FORMS (by rfl) (mv 1) (fun _ _ => rfl)) ma_nil))) (blkOk_by (own := [("part", 4), ("form", 5)]) (N := N_read_deed) (sc := defScope (topS 37)) (by decide +kernel)) (hsl := rfl) (fun _ _ _ _ _ => (mg_tup rfl (mgs_cons (mg_name (i := 4) (by decide) sc_read_deed.nd rfl (Or.inl rfl)) (mgs_cons (mg_name (i := 5) (by decide) sc_read_deed.nd rfl (Or.inl rfl)) mgs_nil)))) (fun _ _ _ _ _ => mts_nil) (fun _ _ _ _ _ => (me_call d_read_part arity_fun (hr.mono (by decide)) (by rfl) pass0 (ma_cons (mv 4) (ma_cons (mv 5) ma_nil))))) ma_nil))))
    (mss_one (ms_ret (me_if (mt_tru (me_call d_is_deed arity_fun (hr.mono (by decide)) (by rfl) pass0 (ma_cons (mv 3) ma_nil))) (mv 3) me_non))))))
abbrev N_read_rows : List PySem.Str := ["text", "read_row", "told", "number", "thing", "row"]
theorem sc_read_rows : FnScope N_read_rows ["text", "read_row"] (defScope (topS 39)) := ⟨rfl, rfl, rfl, by decide +kernel, rfl, by decide +kernel, by decide +kernel⟩
theorem ok_read_rows (B : Bm mg) (d_read_deed : Df P w K mg base 8 "read_deed" 1 m_read_deed) (F : Fun K "read_rows" "read_rows" (topS 39) f fd) : FnOk P w K mg base CX0 9 f fd ["text", "read_row"] (spF ⟨P, w, K, mg⟩ 2 m_read_rows) :=
  Fun.okM F sc_read_rows rfl rfl (k := 8) fun cdv A outer s H E hr =>
    (mss_cons (ms_if (mt_not (mt_tru (me_callB call_isi (lc_isi (T := .str)) (by rfl) B.isinstance boot_isinstance (ma_cons (mv 0) (ma_cons (me_bty (by rfl) B.str (by decide +kernel)) ma_nil))))) (mss_one (ms_no (fun _ _ _ _ z => by cases z))) mss_nil)
    (mss_cons (ms_set (i := 2) sc_read_rows.nd rfl (Or.inl rfl) (me_if (mt_tru (mv 0)) (me_lc (sl := [5]) (by rfl) sc_read_rows.nd (mi_seq (me_split (mv 0) (ma_cons me_str ma_nil))) (blkOk_by (own := [("row", 5)]) (N := N_read_rows) (sc := defScope (topS 39)) (by decide +kernel)) (hsl := rfl) (fun _ _ _ _ _ => (mg_name (i := 5) (by decide) sc_read_rows.nd rfl (Or.inl rfl))) (fun _ _ _ _ _ => mts_nil) (fun _ _ _ _ _ => (me_cv (k := 8) (dv_cons d_read_deed arity_fun (by decide) dv_nil) (hr.mono (by decide)) rfl (by first | exact Or.inl rfl | exact Or.inr (Or.inl rfl) | exact Or.inr (Or.inr rfl)) (ma_cons (mv 5) ma_nil)))) (me_lst ma_nil)))
    (mss_cons (ms_for (sl := [3, 4]) PassesOwn.never (by rfl) (mi_enum (by rfl) B.enumerate (ma_cons (mv 2) ma_nil)) (mg_tup rfl (mgs_cons (mg_name (i := 3) (by decide) sc_read_rows.nd rfl (Or.inl rfl)) (mgs_cons (mg_name (i := 4) (by decide) sc_read_rows.nd rfl (Or.inl rfl)) mgs_nil))) (mss_one (ms_if (mt_isN (mv 4) me_non) (mss_one (ms_no (fun _ _ _ _ z => by cases z))) mss_nil)))
    (mss_one (ms_ret (mv 2))))))
abbrev N_read_weaving : List PySem.Str := ["text"]
theorem sc_read_weaving : FnScope N_read_weaving ["text"] (defScope (topS 40)) := ⟨rfl, rfl, rfl, by decide +kernel, rfl, by decide +kernel, by decide +kernel⟩
theorem ok_read_weaving (B : Bm mg) (d_read_rows : Df P w K mg base 9 "read_rows" 2 m_read_rows) (gm_read_deed : ∃ a, mg "read_deed" = some (.ref a)) (F : Fun K "read_weaving" "read_weaving" (topS 40) f fd) : FnOk P w K mg base CX0 10 f fd ["text"] (spF ⟨P, w, K, mg⟩ 1 m_read_weaving) :=
  Fun.okM F sc_read_weaving rfl rfl (k := 9) fun cdv A outer s H E hr =>
    (mss_one (ms_ret (me_call d_read_rows arity_fun (hr.mono (by decide)) (by rfl) pass0 (ma_cons (mv 0) (ma_cons (me_globE (by rfl) gm_read_deed) ma_nil)))))
abbrev N__law_deed_text : List PySem.Str := ["_law_deed_here", "_law_words", "_law_thing", "_law_one"]
theorem sc__law_deed_text : FnScope N__law_deed_text ["_law_deed_here"] (defScope (topS 45)) := ⟨rfl, rfl, rfl, by decide +kernel, rfl, by decide +kernel, by decide +kernel⟩
theorem ok__law_deed_text (B : Bm mg)  (F : Fun K "_law_deed_text" "_law_deed_text" (topS 45) f fd) : FnOk P w K mg base CX0 1 f fd ["_law_deed_here"] (spF ⟨P, w, K, mg⟩ 1 m__law_deed_text) :=
  Fun.okM F sc__law_deed_text rfl rfl (k := 0) fun cdv A outer s H E hr =>
    (mss_cons (ms_set (i := 1) sc__law_deed_text.nd rfl (Or.inl rfl) (me_lst ma_nil))
    (mss_cons (ms_for (sl := [2]) PassesOwn.never (by rfl) (mi_seq (mv 0)) (mg_name (i := 2) (by decide) sc__law_deed_text.nd rfl (Or.inl rfl)) (mss_one (ms_expr (me_append (mv 1) (ma_cons (me_if (mt_tru (me_callB call_isi (lc_isi (T := .tup)) (by rfl) B.isinstance boot_isinstance (ma_cons (mv 2) (ma_cons (me_bty (by rfl) B.tuple (by decide +kernel)) ma_nil)))) (me_join me_str (me_lc (sl := [3]) (by rfl) sc__law_deed_text.nd (mi_seq (mv 2)) (blkOk_by (own := [("_law_one", 3)]) (N := N__law_deed_text) (sc := defScope (topS 45)) (by decide +kernel)) (hsl := rfl) (fun _ _ _ _ _ => (mg_name (i := 3) (by decide) sc__law_deed_text.nd rfl (Or.inl rfl))) (fun _ _ _ _ _ => mts_nil) (fun _ _ _ _ _ => (me_callTy cr_strA lc_strA (by rfl) B.str (by decide +kernel) (ma_cons (mv 3) ma_nil))))) (me_callTy cr_strA lc_strA (by rfl) B.str (by decide +kernel) (ma_cons (mv 2) ma_nil))) ma_nil)))))
    (mss_one (ms_ret (me_join me_str (mv 1))))))
abbrev N_law : List PySem.Str := ["_law_script", "_law_odd_here", "_law_k", "_law_pool_here", "_law_deeds", "_law_text", "_law_at", "_law_turn", "_law_deed_here"]
theorem sc_law : FnScope N_law ["_law_script"] (defScope (topS 48)) := ⟨rfl, rfl, rfl, by decide +kernel, rfl, by decide +kernel, by decide +kernel⟩
theorem ok_law (B : Bm mg) (d__law_refused : Df P w K mg base 10 "_law_refused" 1 m__law_refused) (d__law_pool : Df P w K mg base 1 "_law_pool" 2 m__law_pool) (d__law_take : Df P w K mg base 1 "_law_take" 2 m__law_take) (d__law_deed : Df P w K mg base 2 "_law_deed" 1 m__law_deed) (d__law_deed_text : Df P w K mg base 1 "_law_deed_text" 1 m__law_deed_text) (d_show_weaving : Df P w K mg base 9 "show_weaving" 1 m_show_weaving) (d_read_weaving : Df P w K mg base 10 "read_weaving" 1 m_read_weaving) (d__law_odd : Df P w K mg base 2 "_law_odd" 2 m__law_odd) (F : Fun K "law" "law" (topS 48) f fd) : RunAt P w K mg base CX0 callerA f fd ["_law_script"] (spF ⟨P, w, K, mg⟩ 1 m_law) :=
  Fun.atM F sc_law rfl rfl (k := 10) ⟨rfl, by decide, by decide⟩ fun cdv outer s H E hr =>
    (mss_cons (ms_for (sl := [1]) PassesOwn.never (by rfl) (mi_seq (me_lst (ma_cons me_non (ma_cons (me_tup ma_nil) (ma_cons me_str (ma_cons (me_tup (ma_cons me_str ma_nil)) (ma_cons me_dnewK ma_nil))))))) (mg_name (i := 1) (by decide) sc_law.nd rfl (Or.inl rfl)) (mss_one (ms_if (mt_ne (hu_64 hr) (me_call d__law_refused arity_fun (hr.mono (by decide)) (by rfl) pass0 (ma_cons (mv 1) ma_nil)) (me_lst (ma_cons me_str (ma_cons me_non (ma_cons me_bl ma_nil))))) (mss_one (ms_ret me_bl)) mss_nil)))
    (mss_cons (ms_for (sl := [2]) PassesOwn.never (by rfl) (mi_range1 (by rfl) B.range (ma_cons (me_callB (call_max2 (by rfl)) lc_two (by rfl) B.max (by decide +kernel) (ma_cons me_int (ma_cons (me_callB (call_min2 (by rfl)) lc_two (by rfl) B.min (by decide +kernel) (ma_cons (me_callB cr_len lc_len (by rfl) B.len PySem.boot_len (ma_cons (mv 0) ma_nil)) (ma_cons me_int ma_nil))) ma_nil))) ma_nil)) (mg_name (i := 2) (by decide) sc_law.nd rfl (Or.inl rfl)) (mss_cons (ms_set (i := 3) sc_law.nd rfl (Or.inr rfl) (me_call d__law_pool arity_fun (hr.mono (by decide)) (by rfl) pass0 (ma_cons (mv 0) (ma_cons (mv 2) ma_nil))))
    (mss_cons (ms_setLc (i := 4) (sl := [7]) (by rfl) sc_law.nd rfl rfl (sw_true rfl rfl rfl rfl) (mi_range1 (by rfl) B.range (ma_cons (me_call d__law_take arity_fun (hr.mono (by decide)) (by rfl) pass0 (ma_cons (mv 3) (ma_cons me_int ma_nil))) ma_nil)) (blkOk_by (own := [("_law_turn", 7)]) (N := N_law) (sc := defScope (topS 48)) (by decide +kernel)) (hsl := rfl) (fun _ _ _ _ _ => (mg_name (i := 7) (by decide) sc_law.nd rfl (Or.inl rfl))) (fun _ _ _ _ _ => mts_nil) (fun _ _ _ _ _ => (me_call d__law_deed arity_fun (hr.mono (by decide)) (by rfl) pass0 (ma_cons (mv 3) ma_nil))))
    (mss_cons (ms_set (i := 5) sc_law.nd rfl (Or.inl rfl) (me_join me_str (me_lc (sl := [8]) (by rfl) sc_law.nd (mi_seq (mv 4)) (blkOk_by (own := [("_law_deed_here", 8)]) (N := N_law) (sc := defScope (topS 48)) (by decide +kernel)) (hsl := rfl) (fun _ _ _ _ _ => (mg_name (i := 8) (by decide) sc_law.nd rfl (Or.inl rfl))) (fun _ _ _ _ _ => mts_nil) (fun _ _ _ _ _ => (me_call d__law_deed_text arity_fun (hr.mono (by decide)) (by rfl) pass0 (ma_cons (mv 8) ma_nil))))))
    (mss_cons (ms_if (mt_bool (mw_or (mt_ne (hu_64 hr) (me_call d_show_weaving arity_fun (hr.mono (by decide)) (by rfl) pass0 (ma_cons (mv 4) ma_nil)) (mv 5)) (mw_or1 (mt_ne (hu_64 hr) (me_callB (cr_repA (by rfl) (hu65 hr)) lc_repA (by rfl) B.repr (by decide +kernel) (ma_cons (me_call d_read_weaving arity_fun (hr.mono (by decide)) (by rfl) pass0 (ma_cons (mv 5) ma_nil)) ma_nil)) (me_callB (cr_repA (by rfl) (hu65 hr)) lc_repA (by rfl) B.repr (by decide +kernel) (ma_cons (mv 4) ma_nil)))))) (mss_one (ms_ret me_bl)) mss_nil)
    (mss_cons (ms_set (i := 6) sc_law.nd rfl (Or.inl rfl) (me_call d__law_take arity_fun (hr.mono (by decide)) (by rfl) pass0 (ma_cons (mv 3) (ma_cons (me_add (me_callB cr_len lc_len (by rfl) B.len PySem.boot_len (ma_cons (mv 4) ma_nil)) me_int) ma_nil))))
    (mss_cons (ms_set (i := 1) sc_law.nd rfl (Or.inl rfl) (me_call d__law_odd arity_fun (hr.mono (by decide)) (by rfl) pass0 (ma_cons (mv 3) (ma_cons (me_sub_ix (me_add (mv 4) (me_lst (ma_cons (me_tup (ma_cons me_str ma_nil)) ma_nil))) (mv 6) (fun _ _ => rfl)) ma_nil))))
    (mss_one (ms_if (mt_ne (hu_64 hr) (me_call d__law_refused arity_fun (hr.mono (by decide)) (by rfl) pass0 (ma_cons (me_add (me_add (me_slice (mv 4) mo_none (mo_some (mv 6))) (me_lst (ma_cons (mv 1) ma_nil))) (me_slice (mv 4) (mo_some (mv 6)) mo_none)) ma_nil)) (me_lst (ma_cons me_str (ma_cons (mv 6) (ma_cons me_bl ma_nil))))) (mss_one (ms_ret me_bl)) mss_nil)))))))))
    (mss_one (ms_ret (me_and (me_eq (hu_64 hr) (me_call d_show_weaving arity_fun (hr.mono (by decide)) (by rfl) pass0 (ma_cons (me_lst ma_nil) ma_nil)) me_str) (me_one (me_eq (hu_64 hr) (me_call d_read_weaving arity_fun (hr.mono (by decide)) (by rfl) pass0 (ma_cons me_str ma_nil)) (me_lst ma_nil))))))))
end
end GR61

set_option maxRecDepth 100000
set_option maxHeartbeats 4000000
namespace GR61
open PySem PySem.Spec PyProof.Rows L2 K01 MM GP
theorem all_mk {l : PySem.W.OpenLaw} {w : World} {K : PySem.W.Frag} {h : Heap} {mg : PySem.Str → Option Value} {fa fL cx_HintError cx_NoDeed cx_NoText : Addr} {t_FIGURES t_GONE t_GREATEST_WORTH t_LETTERS t_LONGEST_TICK t_LONGEST_WORD t_MOST_FIGURES t_NONE t_PLACES : Tok} (X : K.In h) (G : h.Ns mainGlobals mg) (hfa : mg "law" = some (.ref fa))
    (b_isinstance : PySem.W.nsIn K mainGlobals "isinstance" = some none)
    (b_len : PySem.W.nsIn K mainGlobals "len" = some none)
    (b_all : PySem.W.nsIn K mainGlobals "all" = some none)
    (b_any : PySem.W.nsIn K mainGlobals "any" = some none)
    (b_int : PySem.W.nsIn K mainGlobals "int" = some none)
    (b_bool : PySem.W.nsIn K mainGlobals "bool" = some none)
    (b_str : PySem.W.nsIn K mainGlobals "str" = some none)
    (b_tuple : PySem.W.nsIn K mainGlobals "tuple" = some none)
    (b_list : PySem.W.nsIn K mainGlobals "list" = some none)
    (b_set : PySem.W.nsIn K mainGlobals "set" = some none)
    (b_dict : PySem.W.nsIn K mainGlobals "dict" = some none)
    (b_sorted : PySem.W.nsIn K mainGlobals "sorted" = some none)
    (b_zip : PySem.W.nsIn K mainGlobals "zip" = some none)
    (b_max : PySem.W.nsIn K mainGlobals "max" = some none)
    (b_min : PySem.W.nsIn K mainGlobals "min" = some none)
    (b_repr : PySem.W.nsIn K mainGlobals "repr" = some none)
    (b_range : PySem.W.nsIn K mainGlobals "range" = some none)
    (b_enumerate : PySem.W.nsIn K mainGlobals "enumerate" = some none)
    (b_reversed : PySem.W.nsIn K mainGlobals "reversed" = some none)
    (b_ord : PySem.W.nsIn K mainGlobals "ord" = some none)
    (b_abs : PySem.W.nsIn K mainGlobals "abs" = some none)
    (b_sum : PySem.W.nsIn K mainGlobals "sum" = some none)
    (g_FIGURES : PySem.W.nsIn K mainGlobals "FIGURES" = some (some (.str "0123456789" t_FIGURES)))
    (g_GONE : PySem.W.nsIn K mainGlobals "GONE" = some (some (.str "gone" t_GONE)))
    (g_GREATEST_WORTH : PySem.W.nsIn K mainGlobals "GREATEST_WORTH" = some (some (.int (1000000000) t_GREATEST_WORTH)))
    (g_LETTERS : PySem.W.nsIn K mainGlobals "LETTERS" = some (some (.str "abcdefghijklmnopqrstuvwxyz" t_LETTERS)))
    (g_LONGEST_TICK : PySem.W.nsIn K mainGlobals "LONGEST_TICK" = some (some (.int (1000000) t_LONGEST_TICK)))
    (g_LONGEST_WORD : PySem.W.nsIn K mainGlobals "LONGEST_WORD" = some (some (.int (6) t_LONGEST_WORD)))
    (g_MOST_FIGURES : PySem.W.nsIn K mainGlobals "MOST_FIGURES" = some (some (.int (30) t_MOST_FIGURES)))
    (g_NONE : PySem.W.nsIn K mainGlobals "NONE" = some (some (.str "-" t_NONE)))
    (g_PLACES : PySem.W.nsIn K mainGlobals "PLACES" = some (some (.int (64) t_PLACES)))
    (no_is_ring_mark : PySem.W.nsIn K mainGlobals "is_ring_mark" = some none)
    (gt_FORMS : ∃ (d : Addr) (es : Array DictEntry) (n : Nat), PySem.W.nsIn K mainGlobals "FORMS" = some (some (.ref d)) ∧ (d == sysModules) = false ∧ K.lookup d = some ⟨.type "dict", none, .dict es n, #[]⟩ ∧ RowsK K w.params es.toList tab_FORMS)
    (h__law_pool : HF K "_law_pool" (topS 42))
    (h__law_take : HF K "_law_take" (topS 43))
    (h__law_odd : HF K "_law_odd" (topS 47))
    (h_is_whole : HF K "is_whole" (topS 3))
    (h_is_between : HF K "is_between" (topS 4))
    (h_is_place : HF K "is_place" (topS 18))
    (h_first_wrong : HF K "first_wrong" (topS 6))
    (h_are_places : HF K "are_places" (topS 24))
    (h_is_word : HF K "is_word" (topS 5))
    (h_is_mark : HF K "is_mark" (topS 14))
    (h_is_worth : HF K "is_worth" (topS 15))
    (h_has_form : HF K "has_form" (topS 23))
    (h_is_deed : HF K "is_deed" (topS 22))
    (h_look_at_weaving : HF K "look_at_weaving" (topS 25))
    (h_show_listed : HF K "show_listed" (topS 30))
    (h_show_part : HF K "show_part" (topS 32))
    (h_show_deed : HF K "show_deed" (topS 31))
    (h_show_weaving : HF K "show_weaving" (topS 33))
    (h__law_refused : HF K "_law_refused" (topS 46))
    (h__law_deed : HF K "_law_deed" (topS 44))
    (h_read_figures : HF K "read_figures" (topS 34))
    (h_read_whole : HF K "read_whole" (topS 35))
    (h_read_all : HF K "read_all" (topS 36))
    (h_read_part : HF K "read_part" (topS 38))
    (h_read_deed : HF K "read_deed" (topS 37))
    (h_read_rows : HF K "read_rows" (topS 39))
    (h_read_weaving : HF K "read_weaving" (topS 40))
    (h__law_deed_text : HF K "_law_deed_text" (topS 45))
    (gH : PySem.W.nsIn K mainGlobals "HintError" = some (some (.ref cx_HintError)))
    (xH : ExK K cx_HintError XK.tVal)
    (sgH : PySem.W.specialIn K (.ref cx_HintError) "__getattribute__" = some (some (.builtin "type.__getattribute__")))
    (rdH : PySem.W.readsIn K cx_HintError (.type "type") = true)
    (vH : PySem.W.findCls K (.ref cx_HintError) (.type "type") "__init__" = some (.val (.builtin "ValueError.__init__")))
    (fb_ValueError : PySem.W.nsIn K mainGlobals "ValueError" = some none)
    (w1 : PySem.W.specialIn K (.builtin "object.__class__") "__get__" = some (some (.builtin "getset_descriptor.__get__")))
    (w2 : PySem.W.takesIn K (.builtin "object.__class__") = some true)
    (a_NoDeed : PySem.W.nsIn K mainGlobals "NoDeed" = some (some (.ref cx_NoDeed)))
    (x_NoDeed : ExK K cx_NoDeed (.ref cx_HintError :: XK.tVal))
    (i_NoDeed : ∃ fI fd, IF K cx_NoDeed fI fd "NoDeed.__init__" (inClass (topS 9) 0))
    (n_NoDeed : PySem.W.findIn K (.ref cx_NoDeed) "number" = some none)
    (a_NoText : PySem.W.nsIn K mainGlobals "NoText" = some (some (.ref cx_NoText)))
    (x_NoText : ExK K cx_NoText (.ref cx_HintError :: XK.tVal))
    (i_NoText : ∃ fI fd, IF K cx_NoText fI fd "NoText.__init__" (inClass (topS 10) 0))
    (n_NoText : PySem.W.findIn K (.ref cx_NoText) "row" = some none)
    (r_NoDeed_NoDeed : (Value.ref cx_NoDeed :: (.ref cx_HintError :: XK.tVal)).contains (.ref cx_NoDeed) = true)
    (r_NoDeed_NoText : (Value.ref cx_NoDeed :: (.ref cx_HintError :: XK.tVal)).contains (.ref cx_NoText) = false)
    (r_NoDeed_ValueError : (Value.ref cx_NoDeed :: (.ref cx_HintError :: XK.tVal)).contains (.type "ValueError") = true)
    (r_NoText_NoDeed : (Value.ref cx_NoText :: (.ref cx_HintError :: XK.tVal)).contains (.ref cx_NoDeed) = false)
    (r_NoText_NoText : (Value.ref cx_NoText :: (.ref cx_HintError :: XK.tVal)).contains (.ref cx_NoText) = true)
    (r_NoText_ValueError : (Value.ref cx_NoText :: (.ref cx_HintError :: XK.tVal)).contains (.type "ValueError") = true)
    (aL : PySem.W.nsIn K mainGlobals "law" = some (some (.ref fL))) (hL : ∃ fd, Fun K "law" "law" (topS 48) fL fd) :
    ∃ fd : FuncData, (∀ (s : Shared) (v : Value), BindsTo s fd ⟨[v], []⟩ [("_law_script", v)]) ∧ ∀ base : Heap, K.In base → base.Ns mainGlobals mg → RunAt l.prog w K mg base CX0 callerA fa fd ["_law_script"] (spF ⟨l.prog, w, K, mg⟩ 1 m_law) := by
  have e := hfa.symm.trans (PySem.W.mg_of X G aL)
  cases e
  obtain ⟨fd, FL⟩ := hL
  refine ⟨fd, fun s v => ?_, fun base _ _ => ?_⟩
  · obtain ⟨oc, od, kV, doc, pm, an, cdv, ct, osl, rfl, lk, hcd⟩ := FL.ex
    exact .of_eq rfl
  have B : Bm mg := ⟨PySem.W.mg_none_of X G b_isinstance, PySem.W.mg_none_of X G b_len, PySem.W.mg_none_of X G b_all, PySem.W.mg_none_of X G b_any, PySem.W.mg_none_of X G b_int, PySem.W.mg_none_of X G b_bool, PySem.W.mg_none_of X G b_str, PySem.W.mg_none_of X G b_tuple, PySem.W.mg_none_of X G b_list, PySem.W.mg_none_of X G b_set, PySem.W.mg_none_of X G b_dict, PySem.W.mg_none_of X G b_sorted, PySem.W.mg_none_of X G b_zip, PySem.W.mg_none_of X G b_max, PySem.W.mg_none_of X G b_min, PySem.W.mg_none_of X G b_repr, PySem.W.mg_none_of X G b_range, PySem.W.mg_none_of X G b_enumerate, PySem.W.mg_none_of X G b_reversed, PySem.W.mg_none_of X G b_ord, PySem.W.mg_none_of X G b_abs, PySem.W.mg_none_of X G b_sum⟩
  replace g_FIGURES : ∃ t, mg "FIGURES" = some (.str "0123456789" t) := ⟨_, PySem.W.mg_of X G g_FIGURES⟩
  replace g_GONE : ∃ t, mg "GONE" = some (.str "gone" t) := ⟨_, PySem.W.mg_of X G g_GONE⟩
  replace g_GREATEST_WORTH : ∃ t, mg "GREATEST_WORTH" = some (.int (1000000000) t) := ⟨_, PySem.W.mg_of X G g_GREATEST_WORTH⟩
  replace g_LETTERS : ∃ t, mg "LETTERS" = some (.str "abcdefghijklmnopqrstuvwxyz" t) := ⟨_, PySem.W.mg_of X G g_LETTERS⟩
  replace g_LONGEST_TICK : ∃ t, mg "LONGEST_TICK" = some (.int (1000000) t) := ⟨_, PySem.W.mg_of X G g_LONGEST_TICK⟩
  replace g_LONGEST_WORD : ∃ t, mg "LONGEST_WORD" = some (.int (6) t) := ⟨_, PySem.W.mg_of X G g_LONGEST_WORD⟩
  replace g_MOST_FIGURES : ∃ t, mg "MOST_FIGURES" = some (.int (30) t) := ⟨_, PySem.W.mg_of X G g_MOST_FIGURES⟩
  replace g_NONE : ∃ t, mg "NONE" = some (.str "-" t) := ⟨_, PySem.W.mg_of X G g_NONE⟩
  replace g_PLACES : ∃ t, mg "PLACES" = some (.int (64) t) := ⟨_, PySem.W.mg_of X G g_PLACES⟩
  replace no_is_ring_mark : mg "is_ring_mark" = none := PySem.W.mg_none_of X G no_is_ring_mark
  replace gt_FORMS : GTab w K mg "FORMS" tab_FORMS := gtab_of X G gt_FORMS
  have mgx_HintError : mg "HintError" = some (.ref cx_HintError) := PySem.W.mg_of X G gH
  have gx_HintError : ∃ a, mg "HintError" = some (.ref a) := ⟨_, mgx_HintError⟩
  have mgx_NoDeed : mg "NoDeed" = some (.ref cx_NoDeed) := PySem.W.mg_of X G a_NoDeed
  have gx_NoDeed : ∃ a, mg "NoDeed" = some (.ref a) := ⟨_, mgx_NoDeed⟩
  have mgx_NoText : mg "NoText" = some (.ref cx_NoText) := PySem.W.mg_of X G a_NoText
  have gx_NoText : ∃ a, mg "NoText" = some (.ref a) := ⟨_, mgx_NoText⟩
  have bx_ValueError : mg (PySem.Str.ofString "ValueError") = none := PySem.W.mg_none_of X G fb_ValueError
  have nH : Hn K mg cx_HintError := ⟨mgx_HintError, xH, sgH, rdH, vH⟩
  have clsg : ClsG K := ⟨w1, w2⟩
  have x1_NoDeed : Xf1 l.prog w K mg base "NoDeed" "number" := by
    obtain ⟨fI, fd, I⟩ := i_NoDeed
    refine ⟨cx_NoDeed, fI, fd, "self", "number", mgx_NoDeed, ⟨⟨_, x_NoDeed⟩, I.iC, I.tI⟩, oki_NoDeed I.fn x_NoDeed n_NoDeed nH, ?_⟩
    obtain ⟨oc, od, kV, doc, pm, an, cdv, ct, osl, rfl, lk, hcd⟩ := I.fn.ex
    exact fun s' b v => .of_eq rfl
  have x1_NoText : Xf1 l.prog w K mg base "NoText" "row" := by
    obtain ⟨fI, fd, I⟩ := i_NoText
    refine ⟨cx_NoText, fI, fd, "self", "row", mgx_NoText, ⟨⟨_, x_NoText⟩, I.iC, I.tI⟩, oki_NoText I.fn x_NoText n_NoText nH, ?_⟩
    obtain ⟨oc, od, kV, doc, pm, an, cdv, ct, osl, rfl, lk, hcd⟩ := I.fn.ex
    exact fun s' b v => .of_eq rfl
  have xo_NoDeed : Xo K mg xcls "NoDeed" := ⟨_, _, mgx_NoDeed, x_NoDeed, fun C hC => by
    rcases List.mem_cons.mp hC with rfl | hC
    · exact ⟨_, _, mgx_NoDeed, x_NoDeed, r_NoDeed_NoDeed.trans (by decide +kernel)⟩
    rcases List.mem_cons.mp hC with rfl | hC
    · exact ⟨_, _, mgx_NoText, x_NoText, r_NoText_NoDeed.trans (by decide +kernel)⟩
    exact absurd hC (by simp)
  ⟩
  have xt_NoText : Xt K mg xcls "NoText" := ⟨_, .inl mgx_NoText, .inl ⟨_, _, rfl, x_NoText⟩, fun C hC => by
    rcases List.mem_cons.mp hC with rfl | hC
    · exact ⟨_, _, mgx_NoDeed, x_NoDeed, r_NoDeed_NoText.trans (by decide +kernel)⟩
    rcases List.mem_cons.mp hC with rfl | hC
    · exact ⟨_, _, mgx_NoText, x_NoText, r_NoText_NoText.trans (by decide +kernel)⟩
    exact absurd hC (by simp)
  ⟩
  have xt_ValueError : Xt K mg xcls (PySem.Str.ofString "ValueError") := ⟨.type "ValueError", .inr ⟨bx_ValueError, by decide +kernel, by decide⟩, .inr ⟨_, rfl, by decide +kernel⟩, fun C hC => by
    rcases List.mem_cons.mp hC with rfl | hC
    · exact ⟨_, _, mgx_NoDeed, x_NoDeed, r_NoDeed_ValueError.trans (by decide +kernel)⟩
    rcases List.mem_cons.mp hC with rfl | hC
    · exact ⟨_, _, mgx_NoText, x_NoText, r_NoText_ValueError.trans (by decide +kernel)⟩
    exact absurd hC (by simp)
  ⟩
  have xn_number : Xn K mg ["NoDeed"] "number" := fun C hC => by
    rcases List.mem_cons.mp hC with rfl | hC
    · exact ⟨_, _, mgx_NoDeed, x_NoDeed, n_NoDeed⟩
    exact absurd hC (by simp)
  have d__law_pool : Df l.prog w K mg base 1 "_law_pool" 2 m__law_pool := by
    obtain ⟨fh, fdh, gh, Fh⟩ := h__law_pool
    exact ⟨fh, fdh, _, PySem.W.mg_of X G gh, Fh.kp, Fh.binds fun _ _ _ _ _ _ us hl => match us, hl with | [_, _], _ => rfl, ok__law_pool B  Fh⟩
  have d__law_take : Df l.prog w K mg base 1 "_law_take" 2 m__law_take := by
    obtain ⟨fh, fdh, gh, Fh⟩ := h__law_take
    exact ⟨fh, fdh, _, PySem.W.mg_of X G gh, Fh.kp, Fh.binds fun _ _ _ _ _ _ us hl => match us, hl with | [_, _], _ => rfl, ok__law_take B  Fh⟩
  have d__law_odd : Df l.prog w K mg base 2 "_law_odd" 2 m__law_odd := by
    obtain ⟨fh, fdh, gh, Fh⟩ := h__law_odd
    exact ⟨fh, fdh, _, PySem.W.mg_of X G gh, Fh.kp, Fh.binds fun _ _ _ _ _ _ us hl => match us, hl with | [_, _], _ => rfl, ok__law_odd B d__law_take Fh⟩
  have d_is_whole : Df l.prog w K mg base 1 "is_whole" 1 m_is_whole := by
    obtain ⟨fh, fdh, gh, Fh⟩ := h_is_whole
    exact ⟨fh, fdh, _, PySem.W.mg_of X G gh, Fh.kp, Fh.binds fun _ _ _ _ _ _ us hl => match us, hl with | [_], _ => rfl, ok_is_whole B  Fh⟩
  have d_is_between : Df l.prog w K mg base 2 "is_between" 3 m_is_between := by
    obtain ⟨fh, fdh, gh, Fh⟩ := h_is_between
    exact ⟨fh, fdh, _, PySem.W.mg_of X G gh, Fh.kp, Fh.binds fun _ _ _ _ _ _ us hl => match us, hl with | [_, _, _], _ => rfl, ok_is_between B d_is_whole Fh⟩
  have d_is_place : Df l.prog w K mg base 3 "is_place" 1 m_is_place := by
    obtain ⟨fh, fdh, gh, Fh⟩ := h_is_place
    exact ⟨fh, fdh, _, PySem.W.mg_of X G gh, Fh.kp, Fh.binds fun _ _ _ _ _ _ us hl => match us, hl with | [_], _ => rfl, ok_is_place B d_is_between g_PLACES Fh⟩
  have d_first_wrong : Df l.prog w K mg base 4 "first_wrong" 2 m_first_wrong := by
    obtain ⟨fh, fdh, gh, Fh⟩ := h_first_wrong
    exact ⟨fh, fdh, _, PySem.W.mg_of X G gh, Fh.kp, Fh.binds fun _ _ _ _ _ _ us hl => match us, hl with | [_, _], _ => rfl, ok_first_wrong B d_is_place no_is_ring_mark Fh⟩
  have gm_is_place : ∃ a, mg "is_place" = some (.ref a) := by
    obtain ⟨fh, fdh, gh, Fh⟩ := h_is_place
    exact ⟨fh, PySem.W.mg_of X G gh⟩
  have d_are_places : Df l.prog w K mg base 5 "are_places" 1 m_are_places := by
    obtain ⟨fh, fdh, gh, Fh⟩ := h_are_places
    exact ⟨fh, fdh, _, PySem.W.mg_of X G gh, Fh.kp, Fh.binds fun _ _ _ _ _ _ us hl => match us, hl with | [_], _ => rfl, ok_are_places B d_first_wrong gm_is_place Fh⟩
  have d_is_word : Df l.prog w K mg base 1 "is_word" 1 m_is_word := by
    obtain ⟨fh, fdh, gh, Fh⟩ := h_is_word
    exact ⟨fh, fdh, _, PySem.W.mg_of X G gh, Fh.kp, Fh.binds fun _ _ _ _ _ _ us hl => match us, hl with | [_], _ => rfl, ok_is_word B g_LONGEST_WORD g_LETTERS Fh⟩
  have d_is_mark : Df l.prog w K mg base 2 "is_mark" 1 m_is_mark := by
    obtain ⟨fh, fdh, gh, Fh⟩ := h_is_mark
    exact ⟨fh, fdh, _, PySem.W.mg_of X G gh, Fh.kp, Fh.binds fun _ _ _ _ _ _ us hl => match us, hl with | [_], _ => rfl, ok_is_mark B d_is_whole g_GONE Fh⟩
  have d_is_worth : Df l.prog w K mg base 3 "is_worth" 1 m_is_worth := by
    obtain ⟨fh, fdh, gh, Fh⟩ := h_is_worth
    exact ⟨fh, fdh, _, PySem.W.mg_of X G gh, Fh.kp, Fh.binds fun _ _ _ _ _ _ us hl => match us, hl with | [_], _ => rfl, ok_is_worth B d_is_whole g_GREATEST_WORTH d_is_mark Fh⟩
  have d_has_form : Df l.prog w K mg base 6 "has_form" 2 m_has_form := by
    obtain ⟨fh, fdh, gh, Fh⟩ := h_has_form
    exact ⟨fh, fdh, _, PySem.W.mg_of X G gh, Fh.kp, Fh.binds fun _ _ _ _ _ _ us hl => match us, hl with | [_, _], _ => rfl, ok_has_form B d_is_word d_is_whole d_is_worth d_is_between g_LONGEST_TICK d_are_places Fh⟩
  have d_is_deed : Df l.prog w K mg base 7 "is_deed" 1 m_is_deed := by
    obtain ⟨fh, fdh, gh, Fh⟩ := h_is_deed
    exact ⟨fh, fdh, _, PySem.W.mg_of X G gh, Fh.kp, Fh.binds fun _ _ _ _ _ _ us hl => match us, hl with | [_], _ => rfl, ok_is_deed B gt_FORMS d_has_form Fh⟩
  have dx_look_at_weaving : DfX l.prog w K mg base 8 "look_at_weaving" 1 x_look_at_weaving := by
    obtain ⟨fh, fdh, gh, Fh⟩ := h_look_at_weaving
    exact ⟨fh, fdh, _, PySem.W.mg_of X G gh, Fh.kp, Fh.binds fun _ _ _ _ _ _ us hl => match us, hl with | [_], _ => rfl, okx_look_at_weaving B x1_NoDeed d_is_deed Fh⟩
  have d_show_listed : Df l.prog w K mg base 1 "show_listed" 1 m_show_listed := by
    obtain ⟨fh, fdh, gh, Fh⟩ := h_show_listed
    exact ⟨fh, fdh, _, PySem.W.mg_of X G gh, Fh.kp, Fh.binds fun _ _ _ _ _ _ us hl => match us, hl with | [_], _ => rfl, ok_show_listed B g_NONE Fh⟩
  have d_show_part : Df l.prog w K mg base 2 "show_part" 1 m_show_part := by
    obtain ⟨fh, fdh, gh, Fh⟩ := h_show_part
    exact ⟨fh, fdh, _, PySem.W.mg_of X G gh, Fh.kp, Fh.binds fun _ _ _ _ _ _ us hl => match us, hl with | [_], _ => rfl, ok_show_part B d_show_listed Fh⟩
  have d_show_deed : Df l.prog w K mg base 3 "show_deed" 1 m_show_deed := by
    obtain ⟨fh, fdh, gh, Fh⟩ := h_show_deed
    exact ⟨fh, fdh, _, PySem.W.mg_of X G gh, Fh.kp, Fh.binds fun _ _ _ _ _ _ us hl => match us, hl with | [_], _ => rfl, ok_show_deed B d_show_part Fh⟩
  have dx_show_weaving : DfX l.prog w K mg base 9 "show_weaving" 1 x_show_weaving := by
    obtain ⟨fh, fdh, gh, Fh⟩ := h_show_weaving
    exact ⟨fh, fdh, _, PySem.W.mg_of X G gh, Fh.kp, Fh.binds fun _ _ _ _ _ _ us hl => match us, hl with | [_], _ => rfl, okx_show_weaving B dx_look_at_weaving d_show_deed Fh⟩
  have d__law_refused : Df l.prog w K mg base 10 "_law_refused" 1 m__law_refused := by
    obtain ⟨fh, fdh, gh, Fh⟩ := h__law_refused
    exact ⟨fh, fdh, _, PySem.W.mg_of X G gh, Fh.kp, Fh.binds fun _ _ _ _ _ _ us hl => match us, hl with | [_], _ => rfl, ok__law_refused B dx_show_weaving gx_NoDeed xo_NoDeed xn_number bx_ValueError xt_ValueError clsg gx_NoText xt_NoText Fh⟩
  have d__law_deed : Df l.prog w K mg base 2 "_law_deed" 1 m__law_deed := by
    obtain ⟨fh, fdh, gh, Fh⟩ := h__law_deed
    exact ⟨fh, fdh, _, PySem.W.mg_of X G gh, Fh.kp, Fh.binds fun _ _ _ _ _ _ us hl => match us, hl with | [_], _ => rfl, ok__law_deed B d__law_take Fh⟩
  have d_look_at_weaving : Df l.prog w K mg base 8 "look_at_weaving" 1 m_look_at_weaving := by
    obtain ⟨fh, fdh, gh, Fh⟩ := h_look_at_weaving
    exact ⟨fh, fdh, _, PySem.W.mg_of X G gh, Fh.kp, Fh.binds fun _ _ _ _ _ _ us hl => match us, hl with | [_], _ => rfl, ok_look_at_weaving B d_is_deed Fh⟩
  have d_show_weaving : Df l.prog w K mg base 9 "show_weaving" 1 m_show_weaving := by
    obtain ⟨fh, fdh, gh, Fh⟩ := h_show_weaving
    exact ⟨fh, fdh, _, PySem.W.mg_of X G gh, Fh.kp, Fh.binds fun _ _ _ _ _ _ us hl => match us, hl with | [_], _ => rfl, ok_show_weaving B d_look_at_weaving d_show_deed Fh⟩
  have d_read_figures : Df l.prog w K mg base 1 "read_figures" 1 m_read_figures := by
    obtain ⟨fh, fdh, gh, Fh⟩ := h_read_figures
    exact ⟨fh, fdh, _, PySem.W.mg_of X G gh, Fh.kp, Fh.binds fun _ _ _ _ _ _ us hl => match us, hl with | [_], _ => rfl, ok_read_figures B g_MOST_FIGURES g_FIGURES Fh⟩
  have d_read_whole : Df l.prog w K mg base 2 "read_whole" 1 m_read_whole := by
    obtain ⟨fh, fdh, gh, Fh⟩ := h_read_whole
    exact ⟨fh, fdh, _, PySem.W.mg_of X G gh, Fh.kp, Fh.binds fun _ _ _ _ _ _ us hl => match us, hl with | [_], _ => rfl, ok_read_whole B d_read_figures Fh⟩
  have d_read_all : Df l.prog w K mg base 2 "read_all" 2 m_read_all := by
    obtain ⟨fh, fdh, gh, Fh⟩ := h_read_all
    exact ⟨fh, fdh, _, PySem.W.mg_of X G gh, Fh.kp, Fh.binds fun _ _ _ _ _ _ us hl => match us, hl with | [_, _], _ => rfl, ok_read_all B d_read_figures Fh⟩
  have gm_read_figures : ∃ a, mg "read_figures" = some (.ref a) := by
    obtain ⟨fh, fdh, gh, Fh⟩ := h_read_figures
    exact ⟨fh, PySem.W.mg_of X G gh⟩
  have d_read_part : Df l.prog w K mg base 3 "read_part" 2 m_read_part := by
    obtain ⟨fh, fdh, gh, Fh⟩ := h_read_part
    exact ⟨fh, fdh, _, PySem.W.mg_of X G gh, Fh.kp, Fh.binds fun _ _ _ _ _ _ us hl => match us, hl with | [_, _], _ => rfl, ok_read_part B d_read_whole d_read_all gm_read_figures d_read_figures Fh⟩
  have d_read_deed : Df l.prog w K mg base 8 "read_deed" 1 m_read_deed := by
    obtain ⟨fh, fdh, gh, Fh⟩ := h_read_deed
    exact ⟨fh, fdh, _, PySem.W.mg_of X G gh, Fh.kp, Fh.binds fun _ _ _ _ _ _ us hl => match us, hl with | [_], _ => rfl, ok_read_deed B gt_FORMS d_read_part d_is_deed Fh⟩
  have d_read_rows : Df l.prog w K mg base 9 "read_rows" 2 m_read_rows := by
    obtain ⟨fh, fdh, gh, Fh⟩ := h_read_rows
    exact ⟨fh, fdh, _, PySem.W.mg_of X G gh, Fh.kp, Fh.binds fun _ _ _ _ _ _ us hl => match us, hl with | [_, _], _ => rfl, ok_read_rows B d_read_deed Fh⟩
  have gm_read_deed : ∃ a, mg "read_deed" = some (.ref a) := by
    obtain ⟨fh, fdh, gh, Fh⟩ := h_read_deed
    exact ⟨fh, PySem.W.mg_of X G gh⟩
  have d_read_weaving : Df l.prog w K mg base 10 "read_weaving" 1 m_read_weaving := by
    obtain ⟨fh, fdh, gh, Fh⟩ := h_read_weaving
    exact ⟨fh, fdh, _, PySem.W.mg_of X G gh, Fh.kp, Fh.binds fun _ _ _ _ _ _ us hl => match us, hl with | [_], _ => rfl, ok_read_weaving B d_read_rows gm_read_deed Fh⟩
  have d__law_deed_text : Df l.prog w K mg base 1 "_law_deed_text" 1 m__law_deed_text := by
    obtain ⟨fh, fdh, gh, Fh⟩ := h__law_deed_text
    exact ⟨fh, fdh, _, PySem.W.mg_of X G gh, Fh.kp, Fh.binds fun _ _ _ _ _ _ us hl => match us, hl with | [_], _ => rfl, ok__law_deed_text B  Fh⟩
  exact ok_law B d__law_refused d__law_pool d__law_take d__law_deed d__law_deed_text d_show_weaving d_read_weaving d__law_odd FL
end GR61

set_option maxRecDepth 100000
set_option maxHeartbeats 4000000
namespace MM
open PySem PySem.Spec PyProof.Rows L2

def wpq := And.intro @wp_fun0 (And.intro @wp_fun1 (And.intro @wp_fun2 (And.intro @wp_fun3 (And.intro @wp_fun4 (And.intro @wp_fun5 (And.intro @wp_fun6 (And.intro @wp_fun7 (And.intro @wp_bind (And.intro @wp_pure (And.intro @wp_no (And.intro @wp_lay (And.intro @wp_var (And.intro @wp_c (And.intro @wp_op (And.intro @wp_aNil (And.intro @wp_aCons (And.intro @wp_call (And.intro @wp_tup (And.intro @wp_lst (And.intro @wp_tOf (And.intro @wp_tTru (And.intro @wp_tru_bl (And.intro @wp_tru_non (And.intro @wp_tru_int (And.intro @wp_tru_tup (And.intro @wp_tAnd (And.intro @wp_tOr (And.intro @wp_tNot (And.intro @wp_tYes (And.intro @wp_eAnd (And.intro @wp_eOr (And.intro @wp_eNot (And.intro @wp_eIf (And.intro @wp_eCh (And.intro @wp_eNeg (And.intro @wp_sNil (And.intro @wp_seq (And.intro @wp_ret (And.intro @wp_retN (And.intro @wp_expr (And.intro @wp_set (And.intro @wp_sIf (And.intro @wp_sNo (And.intro @wp_bk (And.intro @wp_ct (And.intro @wp_asg (And.intro @wp_par (And.intro @wp_gN (And.intro @wp_gsNil (And.intro @wp_gsCons (And.intro @wp_gT (And.intro @wp_sub (And.intro @wp_add_int (And.intro @wp_lt (And.intro @wp_le (And.intro @wp_gt (And.intro @wp_ge (And.intro @wp_eqI (And.intro @wp_neI (And.intro @wp_eqS (And.intro @wp_neS (And.intro @wp_isi (And.intro @wp_len_str (And.intro @wp_len_tup (And.intro @wp_len_scr (And.intro @wp_isN_non (And.intro @wp_isN_int (And.intro @wp_notN_non (And.intro @wp_notN_int (And.intro @wp_fld (And.intro @wp_sFld (And.intro @wp_meth (And.intro @wp_sl (And.intro @wp_oNone (And.intro @wp_oSome (And.intro @wp_sl_tup (And.intro @wp_lc (And.intro @wp_dc (And.intro @wp_sc (And.intro @wp_for (And.intro @wp_iSeq (And.intro @wp_src_tup (And.intro @wp_iStr (And.intro @wp_iArgs (And.intro @List.getElem?_cons_zero.{0} (And.intro @List.getElem?_cons_succ.{0} (And.intro @List.set_cons_zero.{0} (And.intro @List.set_cons_succ.{0} (And.intro @List.map_cons.{0, 0} (And.intro @List.map_nil.{0, 0} (And.intro @List.cons_append.{0} (And.intro @List.nil_append.{0} (And.intro @List.length_cons.{0} (And.intro @List.length_nil.{0} (And.intro @List.replicate_succ.{0} (And.intro @List.replicate_zero.{0} (And.intro @Option.some.injEq.{0} (And.intro @exists_eq_left'.{1} (And.intro @exists_eq_left.{1} (And.intro @Wv.bl.injEq (And.intro @Wv.int.injEq (And.intro @Wv.str.injEq (And.intro @true_and (And.intro @and_true (@Bool.false_eq_true)))))))))))))))))))))))))))))))))))))))))))))))))))))))))))))))))))))))))))))))))))))))))))))))))))))))))
end MM

set_option maxRecDepth 100000
set_option maxHeartbeats 4000000
namespace MM
open PySem PySem.Spec PyProof.Rows L2
def wpx := And.intro @wpB_fx1 (And.intro @wpB_fx2 (And.intro @wpB_fx3 (And.intro @wpB_fx4 (And.intro @wpB_fx5 (And.intro @wpB_fx6 (And.intro @wpB_fx7 (And.intro @wp_sX (And.intro @wp_sIfX (And.intro @wpB_expr (And.intro @wpB_ret (And.intro @wpB_set (And.intro @wpB_nrE (And.intro @wpB_nrT (And.intro @wpB_nrA (And.intro @wpM_nrE (And.intro @wp_nrS (And.intro @wpB_aNil (And.intro @wpB_aCons (And.intro @wpB_call (And.intro @wpB_meth (And.intro @wp_raise0 (And.intro @wp_raise1 (@wpB_pure)))))))))))))))))))))))
end MM

set_option maxRecDepth 100000
set_option maxHeartbeats 4000000
namespace SP
open PySem PySem.Spec PyProof.Rows L2 K01 MM GP
theorem whole_wp {w : Wv} {t : Ty} {h : Hm} {Q : Wv → Hm → Prop} (e : tyW h w = some t) : wpM (m_is_whole [w]) h Q ↔ Q (.bl (decide (t = .int))) h := by
  simp only [m_is_whole, MM.wpq, wp_mkC, startM, Ty.nm, if_true, if_false, Nat.reduceAdd, Nat.reduceSub, reduceCtorEq, e]
  cases t <;> simp [Ty.sub]
theorem between_wp {i lo hi : Int} {h : Hm} {Q : Wv → Hm → Prop} : wpM (m_is_between [.int i, .int lo, .int hi]) h Q ↔ Q (.bl (decide (lo ≤ i) && decide (i ≤ hi))) h := by
  simp only [m_is_between, MM.wpq, wp_mkC, startM, Ty.nm, if_true, if_false, Nat.reduceAdd, Nat.reduceSub, reduceCtorEq, whole_wp (w := .int i) (t := .int) rfl]
  by_cases a : lo ≤ i <;> simp [a, MM.wpq, wp_mkC, startM, Ty.nm, if_true, if_false, Nat.reduceAdd, Nat.reduceSub, reduceCtorEq]
theorem place_wp {i : Int} {h : Hm} {Q : Wv → Hm → Prop} : wpM (m_is_place [.int i]) h Q ↔ Q (.bl (decide (0 ≤ i) && decide (i ≤ 63))) h := by
  simp only [m_is_place, MM.wpq, wp_mkC, startM, Ty.nm, if_true, if_false, Nat.reduceAdd, Nat.reduceSub, reduceCtorEq, between_wp]
  rfl
theorem ty_str {h : Hm} {x : PySem.Str} : tyW h (.str x) = some .str := rfl
theorem ty_int {h : Hm} {i : Int} : tyW h (.int i) = some .int := rfl
theorem ty_tup {h : Hm} {ws : List Wv} : tyW h (.tup ws) = some .tup := rfl
theorem wp_in_sign {c : Nat} {z : PySem.Str} {h : Hm} {Q : Wv → Hm → Prop} : wpM (inM false (.str ⟨#[c]⟩) (.str z)) h Q ↔ Q (.bl (decide (c ∈ z.cps.toList))) h := wp_ok rfl
theorem word_wp {x : PySem.Str} {h : Hm} {Q : Wv → Hm → Prop} (l : x.length ≤ sizeLine) (q : ∀ g, Q (.bl (wordOk x)) (h ++ g)) : wpM (m_is_word [.str x]) h Q := by
  simp only [m_is_word, MM.wpq, wp_mkC, startM, Ty.nm, if_true, if_false, Nat.reduceAdd, Nat.reduceSub, reduceCtorEq, ty_str, Ty.sub, l]
  have e1 : decide ((1 : Int) ≤ (x.length : Int)) = decide (1 ≤ x.length) := decide_eq_decide.mpr (by omega)
  have e2 : decide ((x.length : Int) ≤ 6) = decide (x.length ≤ 6) := decide_eq_decide.mpr (by omega)
  simp only [decide_true, Bool.true_or, Bool.not_true, MM.wpq, wp_mkC, startM, Ty.nm, if_true, if_false, Nat.reduceAdd, Nat.reduceSub, reduceCtorEq]
  rw [e1, e2]
  have q0 := q []
  rw [List.append_nil] at q0
  by_cases h1 : 1 ≤ x.length
  · by_cases h2 : x.length ≤ 6
    · simp only [h1, h2, decide_true, MM.wpq, wp_mkC, startM, Ty.nm, if_true, if_false, Nat.reduceAdd, Nat.reduceSub, reduceCtorEq, Bool.not_true]
      rw [lc_const (h := h) (its := x.cps.toList.map fun ch => Wv.str ⟨#[ch]⟩) (fun _ => true) (fun w => match w with | .str y => .bl (decide ((y.cps.getD 0 0) ∈ letters.cps.toList)) | _ => .non) (fun k => its_S (h := h) k []) (by simp [sS]) (by rw [List.length_map]; show x.length < _; omega) (fun w wm => ?_)]
      · rw [List.filter_eq_self.mpr (fun _ _ => rfl), List.map_map, wp_all (bs := x.cps.toList.map fun ch => decide (ch ∈ letters.cps.toList)) rdL_last]
        · have := q [.lst (x.cps.toList.map ((fun w => match w with | .str y => .bl (decide ((y.cps.getD 0 0) ∈ letters.cps.toList)) | _ => .non) ∘ fun ch => Wv.str ⟨#[ch]⟩))]
          have ew : wordOk x = (x.cps.toList.map fun ch => decide (ch ∈ letters.cps.toList)).all id := by
            unfold wordOk
            rw [decide_eq_true h1, decide_eq_true h2, List.all_map]
            rfl
          rw [ew] at this
          exact this
        · rw [← mapM_bl, List.map_map]
          rfl
      · obtain ⟨ch, hc, rfl⟩ := List.mem_map.mp wm
        simp only [wipeM, MM.wpq, wp_mkC, startM, Ty.nm, if_true, if_false, Nat.reduceAdd, Nat.reduceSub, reduceCtorEq, wp_in_sign]
        exact fun _ => rfl
    · have ew : wordOk x = false := by unfold wordOk; rw [decide_eq_false h2, Bool.and_false, Bool.false_and]
      simp only [h1, h2, decide_true, decide_false, MM.wpq, wp_mkC, startM, Ty.nm, if_true, if_false, Nat.reduceAdd, Nat.reduceSub, reduceCtorEq, Bool.not_false]
      rw [ew] at q0
      exact q0
  · have ew : wordOk x = false := by unfold wordOk; rw [decide_eq_false h1, Bool.false_and, Bool.false_and]
    simp only [h1, decide_false, MM.wpq, wp_mkC, startM, Ty.nm, if_true, if_false, Nat.reduceAdd, Nat.reduceSub, reduceCtorEq, Bool.not_false]
    rw [ew] at q0
    exact q0

def plcStep (p : Int) (c : Nat) : Int := (5 * p + (c : Int) - 97 + 1) % 64
def plc (x : PySem.Str) : Int := x.cps.toList.foldl plcStep 0
theorem wp_mulI {i j : Int} {h : Hm} {Q : Wv → Hm → Prop} (c : bMul i j = true) : wpM (mulM (.int i) (.int j)) h Q ↔ Q (.int (i * j)) h := by
  show wpM (if bMul i j = true then M.pure (.int (i * j)) else M.no) h Q ↔ _
  rw [if_pos c, wp_pure]
theorem bMul_l {i j : Int} (a : i.natAbs < 2 ^ 64) : bMul i j = true := by
  unfold bMul
  rw [decide_eq_true a]
  rfl
theorem bMul_r {i j : Int} (a : j.natAbs < 2 ^ 64) : bMul i j = true := by
  unfold bMul
  rw [decide_eq_true a]
  simp

def markOk (p : Int) (x : PySem.Str) : Bool := decide (0 ≤ p) && decide (p ≤ 63) && wordOk x
def mk (m : Int × PySem.Str) : Wv := .tup [.int m.1, .str m.2]
end SP

set_option maxRecDepth 100000
set_option maxHeartbeats 4000000
namespace SP
open PySem PySem.Spec PyProof.Rows L2 K01 MM GP

def enumL (ws : List Wv) : List Wv := ws.zipIdx.map fun p => Wv.tup [.int (p.2 : Nat), p.1]
theorem enum_at (ws : List Wv) (k : Nat) : (enumL ws)[k]? = ws[k]?.map fun x => Wv.tup [.int (k : Nat), x] := by
  unfold enumL
  rw [List.getElem?_map, List.getElem?_zipIdx, Option.map_map, Nat.zero_add]
  rfl
theorem enumL_len (ws : List Wv) : (enumL ws).length = ws.length := by unfold enumL; rw [List.length_map, List.length_zipIdx]
def sE (s : Src) : Src := ⟨s.cnt, fun k h => (s.at_ k h).map fun o => o.map fun x => .tup [.int k, x]⟩
theorem wp_enum {w : Wv} {h : Hm} {Q : Src → Hm → Prop} : wpM (enum [w]) h Q ↔ wpM (srcOf w) h fun s h1 => Q (sE s) h1 := by
  unfold wpM enum
  constructor
  · rintro ⟨a, h1, e, q⟩
    cases z : srcOf w h with
    | ok s h2 => simp only [z] at e; cases e; exact ⟨s, _, rfl, q⟩
    | ex x h2 => simp only [z] at e; cases e
    | no => simp only [z] at e; cases e
  · rintro ⟨s, h1, e, q⟩
    exact ⟨_, h1, by simp only [e]; rfl, q⟩
def Row (h : Hm) (w : Wv) (ws : List Wv) : Prop := ∃ s : Src, s.cnt = ws.length ∧ (∀ g, srcOf w (h ++ g) = .ok s (h ++ g)) ∧ (∀ k g, s.at_ k (h ++ g) = some ws[k]?) ∧ (∀ g, dsq (h ++ g) w = some ws)
theorem row_tup {h : Hm} {ws : List Wv} : Row h (.tup ws) ws := ⟨sT ws, rfl, fun _ => rfl, fun _ _ => rfl, fun _ => rfl⟩
theorem row_obj {h : Hm} {i : Nat} {ws : List Wv} (e : rdL h i = some ws) : Row h (.obj i) ws :=
  ⟨sL ws.length i, rfl, fun g => by unfold srcOf; simp only [rdL_app e], fun k g => its_L e k g, fun g => rdL_app e g⟩
theorem Row.app {h : Hm} {w : Wv} {ws : List Wv} (r : Row h w ws) (g : Hm) : Row (h ++ g) w ws := by
  obtain ⟨s, a, b, c, d⟩ := r
  exact ⟨s, a, fun g' => by rw [List.append_assoc]; exact b _, fun k g' => by rw [List.append_assoc]; exact c _ _, fun g' => by rw [List.append_assoc]; exact d _⟩
theorem cutW_to {α : Type} {xs : List α} {i : Nat} (h : i ≤ xs.length) : cutW xs none (some (i : Int)) = xs.take i := by
  unfold cutW
  have e1 : HT.sIx xs.length 0 none = 0 := rfl
  have e2 : HT.sIx xs.length xs.length (some (i : Int)) = i := by
    unfold HT.sIx
    simp only []
    rw [if_neg (by omega)]
    omega
  rw [e1, e2]
  simp
theorem row_cut {h : Hm} {w : Wv} {ws : List Wv} {i : Nat} {Q : Wv → Hm → Prop} (r : Row h w ws) (l : i ≤ ws.length) (q : ∀ w' g, (∀ g', dsq (h ++ g ++ g') w' = some (ws.take i)) → Q w' (h ++ g)) : wpM (slM w none (some (i : Int))) h Q := by
  obtain ⟨s, a, b, c, d⟩ := r
  have d0 := d []
  rw [List.append_nil] at d0
  cases w with
  | tup us =>
    cases d0
    rw [wp_sl_tup, cutW_to l]
    have := q (.tup (ws.take i)) [] fun _ => rfl
    rwa [List.append_nil] at this
  | obj k =>
    have d0 : rdL h k = some ws := d0
    rw [wp_sl_obj d0, cutW_to l]
    exact q _ _ fun g' => rdL_new g'
  | _ => cases d0
theorem wp_src_row {h : Hm} {w : Wv} {ws : List Wv} {Q : Src → Hm → Prop} (r : Row h w ws) (q : ∀ s : Src, s.cnt = ws.length → (∀ k g, s.at_ k (h ++ g) = some ws[k]?) → Q s h) : wpM (srcOf w) h Q := by
  obtain ⟨s, a, b, c, d⟩ := r
  have b0 := b []
  rw [List.append_nil] at b0
  exact ⟨s, h, b0, q s a c⟩

abbrev Mk := Int × PySem.Str
def dmk (m : Mk) : PyData := .tuple [.int m.1, .str m.2]
end SP

set_option maxRecDepth 100000
set_option maxHeartbeats 4000000
namespace SP
open PySem PySem.Spec PyProof.Rows L2 K01 MM GP


def mle (a b : Mk) : Bool := !PySem.W.dataLt (dmk b) (dmk a)
def srtM (ms : List Mk) : List Mk := isort mle ms
structure RingA (h : Hm) (w : Wv) (ms : List Mk) : Prop where
  at_ : ∃ i k, w = .obj i ∧ h[i]? = some (.ins "Ring" [("own_marks", .obj k)]) ∧ h[k]? = some (.lst (ms.map mk))
theorem get_app {h : Hm} {i : Nat} {o : Ob} (e : h[i]? = some o) (g : Hm) : (h ++ g)[i]? = some o := by
  rw [List.getElem?_append_left (List.getElem?_eq_some_iff.mp e).1]; exact e
theorem RingA.app {h : Hm} {w : Wv} {ms : List Mk} (r : RingA h w ms) (g : Hm) : RingA (h ++ g) w ms := by
  obtain ⟨i, k, e0, e1, e2⟩ := r.at_
  exact ⟨i, k, e0, get_app e1 g, get_app e2 g⟩
end SP

set_option maxRecDepth 100000
set_option maxHeartbeats 4000000
namespace SP
open PySem PySem.Spec PyProof.Rows L2 K01 MM GP

def addU (acc : List PySem.Str) (x : PySem.Str) : List PySem.Str := if x ∈ acc then acc else acc ++ [x]
def uniq (xs : List PySem.Str) : List PySem.Str := xs.foldl addU []
def kvT (acc : List PySem.Str) : List (Key × Wv) := acc.map fun x => (Sum.inr x, Wv.bl true)

def ordM_ (ms : List Mk) (p : Int) : List PySem.Str := uniq ((ms.filter fun m => decide (p ≤ m.1)).map (·.2) ++ (ms.filter fun m => decide (m.1 < p)).map (·.2))
def sndW : Wv → Wv
  | .tup [_, w] => w
  | _ => .non
def fstI : Wv → Int
  | .tup [.int i, _] => i
  | _ => 0
theorem wp_add_lst {h : Hm} {i j : Nat} {xs ys : List Wv} {Q : Wv → Hm → Prop} (e1 : lstOf h i = some xs) (e2 : lstOf h j = some ys) (l : xs.length + ys.length ≤ 1000000) : wpM (addM (.obj i) (.obj j)) h Q ↔ Q (.obj h.length) (h ++ [.lst (xs ++ ys)]) := by
  refine wp_ok ?_
  unfold addM
  simp only [e1, e2]
  rw [if_pos (by rw [sizeLine_eq]; omega)]
  rfl
end SP

set_option maxRecDepth 100000
set_option maxHeartbeats 4000000
namespace SP
open PySem PySem.Spec PyProof.Rows L2 K01 MM GP

theorem flats_int : ∀ ys : List Int, (ys.map Wv.int).mapM flatW = some (ys.map V.int)
  | [] => rfl
  | y :: ys => by rw [List.map_cons, List.mapM_cons, flats_int ys]; rfl
theorem inV_int (x : Int) (ys : List Int) : inV (.int x) (ys.map V.int) = decide (x ∈ ys) := by
  unfold inV
  rw [List.any_map, Bool.eq_iff_iff, List.any_eq_true, decide_eq_true_eq]
  constructor
  · rintro ⟨y, hy, z⟩
    have z : eqV (.int y) (.int x) = true := z
    simp [eqV] at z
    rw [← z]; exact hy
  · intro z
    exact ⟨x, z, by show eqV (.int x) (.int x) = true; simp [eqV]⟩
theorem wp_in_ints {neg : Bool} {h : Hm} {x : Int} {w : Wv} {ys : List Int} {Q : Wv → Hm → Prop} (e : dsq h w = some (ys.map Wv.int)) : wpM (inM neg (.int x) w) h Q ↔ Q (.bl (if neg then !decide (x ∈ ys) else decide (x ∈ ys))) h := by
  refine wp_ok ?_
  have f0 : flatW (.int x) = some (.int x) := rfl
  cases w with
  | tup ws => unfold inM; simp only [e, f0, flats_int, inV_int]
  | obj k => unfold inM; simp only [e, f0, flats_int, inV_int]
  | _ => cases e

def placeOk (p : Int) : Bool := decide (0 ≤ p) && decide (p ≤ 63)
theorem fw_places {h : Hm} {w : Wv} {ps : List Int} {Q : Wv → Hm → Prop} (r : Row h w (ps.map Wv.int)) (ok : ∀ p ∈ ps, placeOk p = true) (nd : ps.Nodup) (q : ∀ g, Q .non (h ++ g)) : wpM (m_first_wrong [w, .glob "is_place"]) h Q := by
  simp only [m_first_wrong, MM.wpq, wp_mkC, startM, Ty.nm, if_true, if_false, Nat.reduceAdd, Nat.reduceSub, reduceCtorEq, wp_enum]
  refine wp_src_row r fun s a c => ?_
  refine for_wp (its := enumL (ps.map Wv.int)) (fun k ρ h1 => (∃ g, h1 = h ++ g) ∧ ∃ x y, ρ = [some w, some (.glob "is_place"), x, y]) (fun k ρ h1 z => ?_) (fun k u ρ h1 e z => ?_) (fun ρ h1 z => ?_) _ 0 _ _ (by rw [enumL_len]; show _ < s.cnt + 1; rw [a]; omega) (Nat.zero_le _) ⟨⟨[], by simp⟩, none, none, rfl⟩
  · obtain ⟨⟨g, rfl⟩, _⟩ := z
    show (s.at_ k (h ++ g)).map _ = _
    rw [c, enum_at]
    rfl
  · obtain ⟨⟨g, rfl⟩, x, y, rfl⟩ := z
    rw [enum_at, List.getElem?_map] at e
    cases em : ps[k]? with
    | none => rw [em] at e; cases e
    | some m =>
      rw [em] at e
      cases e
      have kl := (List.getElem?_eq_some_iff.mp em).1
      have hm := List.mem_of_getElem? em
      have om := ok m hm
      simp only [MM.wpq, wp_mkC, startM, Ty.nm, if_true, if_false, Nat.reduceAdd, Nat.reduceSub, reduceCtorEq]
      have cv : ∀ {h2 : Hm} {Q : Wv → Hm → Prop}, wpM (m_is_place [.int m]) h2 Q → wpM (eCallV [("is_ring_mark", m_is_ring_mark), ("is_place", m_is_place)] 1 (aCons (eVar 3) aNil) [some w, some (.glob "is_place"), some (.int (k : Nat)), some (.int m)]) h2 Q := fun {h2 Q} z => z
      refine cv ?_
      rw [place_wp]
      unfold placeOk at om
      rw [om]
      simp only [MM.wpq, wp_mkC, startM, Ty.nm, if_true, if_false, Nat.reduceAdd, Nat.reduceSub, reduceCtorEq, Bool.not_true]
      refine row_cut (r.app g) (by rw [List.length_map]; omega) fun w' g2 e2 => ?_
      have e3 := e2 []
      rw [List.append_nil, ← List.map_take] at e3
      rw [wp_in_ints e3]
      have nm : ¬ m ∈ ps.take k := fun z => by
        obtain ⟨j, hj⟩ := List.getElem?_of_mem z
        have jl := (List.getElem?_eq_some_iff.mp hj).1
        rw [List.length_take] at jl
        rw [List.getElem?_take_of_lt (by omega)] at hj
        have h1 := List.getElem?_eq_some_iff.mp hj
        have h2 := List.getElem?_eq_some_iff.mp em
        have := (List.getElem_inj nd).mp (h1.2.trans h2.2.symm)
        omega
      rw [decide_eq_false nm]
      simp only [MM.wpq, wp_mkC, startM, Ty.nm, if_true, if_false, Nat.reduceAdd, Nat.reduceSub, reduceCtorEq]
      exact ⟨⟨g ++ g2, by simp⟩, _, _, rfl⟩
  · obtain ⟨⟨g, rfl⟩, x, y, rfl⟩ := z
    simp only [MM.wpq, wp_mkC, startM, Ty.nm, if_true, if_false, Nat.reduceAdd, Nat.reduceSub, reduceCtorEq]
    exact q g

def setU (xs acc : List PySem.Str) : List PySem.Str := xs.foldl (fun acc x => RQ.addL x acc) acc
def hsM (ms : List Mk) : List PySem.Str := isort sleS (setU (ms.map (·.2)) [])
end SP

set_option maxRecDepth 100000
set_option maxHeartbeats 4000000
namespace SP
open PySem PySem.Spec PyProof.Rows L2 K01 MM GP
def sndS : Wv → PySem.Str
  | .tup [_, .str x] => x
  | _ => ""
end SP

set_option maxRecDepth 100000
set_option maxHeartbeats 4000000
namespace SP
open PySem PySem.Spec PyProof.Rows L2 K01 MM GP

def Pool (h : Hm) (p : Nat) : Prop := ∃ a b : Int, h[p]? = some (.lst [.int a, .int b])
theorem wp_asg_ix {h : Hm} {ρ : MM.Env} {o i : EM} {v : Wv} {Q : MM.Env → Hm → Prop} : wpM (gIx o i v ρ) h Q ↔ wpM (o ρ) h fun w h1 => wpM (i ρ) h1 fun j h2 => wpM (setIx w j v) h2 fun _ h3 => Q ρ h3 := by
  unfold gIx; simp only [wp_bind, wp_pure]
theorem wp_mod {i j : Int} {h : Hm} {Q : Wv → Hm → Prop} (c : 0 < j) : wpM (modM (.int i) (.int j)) h Q ↔ Q (.int (i % j)) h := by
  unfold modM; rw [wp_pIc (decide_eq_true c)]
theorem wp_fdiv {i j : Int} {h : Hm} {Q : Wv → Hm → Prop} (c : 0 < j) (l : j.natAbs < 2 ^ 64) : wpM (fdivM (.int i) (.int j)) h Q ↔ Q (.int (i / j)) h := by
  unfold fdivM
  rw [wp_pIc]
  unfold bDiv
  rw [decide_eq_true c, Bool.true_and]
  refine decide_eq_true ?_
  have : j.natAbs.log2 < 64 := (Nat.log2_lt (by omega)).mpr l
  omega
theorem wp_set_ix {h : Hm} {k : Nat} {a b v : Wv} {Q : Unit → Hm → Prop} (e : h[k]? = some (.lst [a, b])) : (wpM (setIx (.obj k) (.int 0) v) h Q ↔ Q () (h.set k (.lst [v, b]))) ∧ (wpM (setIx (.obj k) (.int 1) v) h Q ↔ Q () (h.set k (.lst [a, v]))) := by
  have l : lstOf h k = some [a, b] := by unfold lstOf; simp only [e]
  constructor <;> refine wp_ok ?_ <;> unfold setIx <;> simp only [l] <;> rfl
theorem wp_ix0 {h : Hm} {k : Nat} {a b : Wv} {Q : Wv → Hm → Prop} (e : h[k]? = some (.lst [a, b])) : (wpM (ixM (.obj k) (.int 0)) h Q ↔ Q a h) ∧ (wpM (ixM (.obj k) (.int 1)) h Q ↔ Q b h) := by
  have l : rdL h k = some [a, b] := by unfold rdL; simp only [e]
  exact ⟨wp_ix_obj l rfl, wp_ix_obj l rfl⟩
theorem set_at {h : Hm} {k : Nat} {o o' : Ob} (e : h[k]? = some o) : (h.set k o')[k]? = some o' := by
  rw [List.getElem?_set_self (List.getElem?_eq_some_iff.mp e).1]
theorem take_wp {h : Hm} {p : Nat} {n : Int} {Q : Wv → Hm → Prop} (P : Pool h p) (n0 : 0 < n) (n1 : n.natAbs < 2 ^ 64) (q : ∀ (d a b : Int), 0 ≤ d → d < n → Q (.int d) (h.set p (.lst [.int a, .int b]))) : wpM (m__law_take [.obj p, .int n]) h Q := by
  obtain ⟨a, b, e⟩ := P
  simp only [m__law_take, MM.wpq, wp_mkC, startM, Ty.nm, if_true, if_false, Nat.reduceAdd, Nat.reduceSub, reduceCtorEq, wp_asg_ix]
  rw [(wp_ix0 e).1]
  simp only [MM.wpq, wp_mkC, startM, Ty.nm, if_true, if_false, Nat.reduceAdd, Nat.reduceSub, reduceCtorEq]
  by_cases a0 : 0 < a
  · simp only [a0, decide_true, MM.wpq, wp_mkC, startM, Ty.nm, if_true, if_false, Nat.reduceAdd, Nat.reduceSub, reduceCtorEq]
    rw [(wp_ix0 e).1, wp_mod n0]
    try simp only [MM.wpq, wp_mkC, startM, Ty.nm, if_true, if_false, Nat.reduceAdd, Nat.reduceSub, reduceCtorEq]
    rw [(wp_ix0 e).1, wp_fdiv n0 n1, (wp_set_ix e).1]
    try simp only [MM.wpq, wp_mkC, startM, Ty.nm, if_true, if_false, Nat.reduceAdd, Nat.reduceSub, reduceCtorEq]
    exact q _ _ _ (Int.emod_nonneg _ (by omega)) (Int.emod_lt_of_pos _ n0)
  · simp only [a0, decide_false, MM.wpq, wp_mkC, startM, Ty.nm, if_true, if_false, Nat.reduceAdd, Nat.reduceSub, reduceCtorEq]
    rw [(wp_ix0 e).2, wp_mulI (bMul_r (by decide))]
    try simp only [MM.wpq, wp_mkC, startM, Ty.nm, if_true, if_false, Nat.reduceAdd, Nat.reduceSub, reduceCtorEq]
    rw [wp_mod (by decide), (wp_set_ix e).2]
    have e2 : ∀ o, (h.set p o)[p]? = some o := fun o => set_at e
    try simp only [MM.wpq, wp_mkC, startM, Ty.nm, if_true, if_false, Nat.reduceAdd, Nat.reduceSub, reduceCtorEq]
    rw [(wp_ix0 (e2 _)).2, (wp_ix0 (e2 _)).2, wp_mulI, wp_mod (by decide), wp_fdiv (by decide) (by decide), wp_mod n0]
    · exact q _ _ _ (Int.emod_nonneg _ (by omega)) (Int.emod_lt_of_pos _ n0)
    · refine bMul_l ?_
      have h0 := Int.emod_nonneg (b * 48271 + 11) (show (2147483647 : Int) ≠ 0 by decide)
      have h1 := Int.emod_lt_of_pos (b * 48271 + 11) (show (0 : Int) < 2147483647 by decide)
      omega
theorem wp_pow {i j : Int} {h : Hm} {Q : Wv → Hm → Prop} (c : bPow i j = true) : wpM (powM (.int i) (.int j)) h Q ↔ Q (.int (i ^ j.toNat)) h := by
  unfold powM; rw [wp_pIc c]
theorem wp_int_bl {b : Bool} {h : Hm} {Q : Wv → Hm → Prop} : wpM (intOf [.bl b]) h Q ↔ Q (.int (if b then 1 else 0)) h := wp_ok rfl
theorem shaped_scr (ns : List Int) : SeqAt.shaped (.list (ns.map PyData.int)) = true := RQ.shaped_lst (List.all_eq_true.mpr fun d hd => by
  obtain ⟨n, _, rfl⟩ := List.mem_map.mp hd
  unfold RQ.okT
  simp [PyData.canLay0, PyData.depth])
theorem wp_scr_ne {ns : List Int} {h : Hm} {Q : Wv → Hm → Prop} : wpM (eqB true (.scr ns) (.obj h.length)) (h ++ [.lst []]) Q ↔ Q (.bl (!ns.isEmpty)) (h ++ [.lst []]) := by
  refine wp_ok ?_
  have d2 : dat (h ++ [.lst []]) 60 (.obj h.length) = some (.list []) := by
    unfold dat
    simp only [rdL_last]
    rfl
  have d1 : dat (h ++ [.lst []]) 60 (.scr ns) = some (.list (ns.map .int)) := rfl
  have s2 : SeqAt.shaped (.list []) = true := shaped_scr []
  have ev : PyData.eqv (.list (ns.map .int)) (.list []) = ns.isEmpty := by
    cases ns <;> simp [PyData.eqv, PyData.eqvAll]
  unfold eqB
  simp only [d1, d2, shaped_scr, s2, Bool.and_self, if_true, ev]
theorem pool_wp {ns : List Int} {k : Int} {h : Hm} {Q : Wv → Hm → Prop} (k0 : 0 ≤ k) (k1 : k < 2 ^ 60) (q : ∀ p g, Pool (h ++ g) p → h.length ≤ p → Q (.obj p) (h ++ g)) : wpM (m__law_pool [.scr ns, .int k]) h Q := by
  have fin : ∀ (v c : Int) (g : Hm), Q (.obj (h ++ g).length) (h ++ g ++ [.lst [.int v, .int c]]) := fun v c g => by
    rw [List.append_assoc]
    refine q _ _ ⟨v, c, ?_⟩ (by rw [List.length_append]; omega)
    rw [← List.append_assoc, List.getElem?_append_right (Nat.le_refl _), Nat.sub_self]
    rfl
  have rest : ∀ (v : Int) (g : Hm), wpM (sSeq (sSet 3 (eOp modM (eOp mulM (eOp addM (eOp addM (eOp modM (eVar 2) (eC (.int 2147483629))) (eOp mulM (eC (.int 104729)) (eVar 1))) (eC (.int 11))) (eC (.int 48271))) (eC (.int 2147483647))))
    (sRet (eLst (aCons (eOp mulM (eVar 2) (eCall intOf (aCons (eOp geI (eVar 2) (eOp powM (eC (.int 10)) (eC (.int 18)))) aNil))) (aCons (eVar 3) aNil)))) [some (.scr ns), some (.int k), some (.int v), none]) (h ++ g) fun r h1 => match r.1 with | .nx => Q .non h1 | .ret w => Q w h1 | .bk => False | .ct => False | .xc _ => False := by
    intro v g
    simp only [MM.wpq, wp_mkC, startM, Ty.nm, if_true, if_false, Nat.reduceAdd, Nat.reduceSub, reduceCtorEq]
    rw [wp_mod (by decide), wp_mulI (bMul_l (by decide))]
    try simp only [MM.wpq, wp_mkC, startM, Ty.nm, if_true, if_false, Nat.reduceAdd, Nat.reduceSub, reduceCtorEq]
    rw [wp_mulI (bMul_r (by decide)), wp_mod (by decide)]
    try simp only [MM.wpq, wp_mkC, startM, Ty.nm, if_true, if_false, Nat.reduceAdd, Nat.reduceSub, reduceCtorEq]
    rw [wp_pow (by decide)]
    try simp only [MM.wpq, wp_mkC, startM, Ty.nm, if_true, if_false, Nat.reduceAdd, Nat.reduceSub, reduceCtorEq, wp_int_bl]
    rw [wp_mulI (bMul_r (by split <;> decide))]
    exact ⟨by rw [sizeLine_eq]; decide, fin _ _ g⟩
  have done : ∀ (v : Int) (g : Hm), wpM (sSeq (sIf (tOf (eOp geI (eVar 1) (eCall lenM (aCons (eVar 0) aNil)))) (sSet 2 (eOp ixM (eLst (aCons (eOp modM (eVar 2) (eC (.int 1000003))) (aCons (eOp fdivM (eVar 2) (eOp powM (eC (.int 10)) (eC (.int 18)))) aNil))) (eCall intOf (aCons (eOp geI (eVar 2) (eOp powM (eC (.int 10)) (eC (.int 36)))) aNil)))) sNil) (sSeq (sSet 3 (eOp modM (eOp mulM (eOp addM (eOp addM (eOp modM (eVar 2) (eC (.int 2147483629))) (eOp mulM (eC (.int 104729)) (eVar 1))) (eC (.int 11))) (eC (.int 48271))) (eC (.int 2147483647))))
    (sRet (eLst (aCons (eOp mulM (eVar 2) (eCall intOf (aCons (eOp geI (eVar 2) (eOp powM (eC (.int 10)) (eC (.int 18)))) aNil))) (aCons (eVar 3) aNil))))) [some (.scr ns), some (.int k), some (.int v), none]) (h ++ g) fun r h1 => match r.1 with | .nx => Q .non h1 | .ret w => Q w h1 | .bk => False | .ct => False | .xc _ => False := by
    intro v g
    rw [wp_seq, wp_sIf, wp_tOf, wp_op, wp_var]
    refine ⟨.int k, rfl, ?_⟩
    rw [wp_call, wp_aCons, wp_var]
    refine ⟨.scr ns, rfl, ?_⟩
    rw [wp_aNil, wp_len_scr, wp_ge]
    refine ⟨_, rfl, ?_⟩
    by_cases c : (ns.length : Int) ≤ k
    · rw [if_pos (decide_eq_true c)]
      rw [wp_set, wp_op, wp_lst, wp_aCons, wp_op, wp_var]
      refine ⟨.int v, rfl, ?_⟩
      rw [wp_c, wp_mod (by decide), wp_aCons, wp_op, wp_var]
      refine ⟨.int v, rfl, ?_⟩
      rw [wp_op, wp_c, wp_c, wp_pow (by decide), wp_fdiv (by decide) (by decide), wp_aNil]
      refine ⟨by rw [sizeLine_eq]; exact Nat.le_of_ble_eq_true rfl, ?_⟩
      rw [wp_call, wp_aCons, wp_op, wp_var]
      refine ⟨.int v, rfl, ?_⟩
      rw [wp_op, wp_c, wp_c, wp_pow (by decide), wp_ge, wp_aNil, wp_int_bl]
      have : ∀ b : Bool, ∃ u : Int, atI [Wv.int (v % 1000003), Wv.int (v / 10 ^ Int.toNat 18)] (if b = true then 1 else 0) = some (.int u) := fun b => by cases b <;> exact ⟨_, rfl⟩
      obtain ⟨u, eu⟩ := this (decide ((10 : Int) ^ Int.toNat 36 ≤ v))
      rw [wp_ix_obj rdL_last eu]
      have := rest u (g ++ [Ob.lst [.int (v % 1000003), .int (v / 10 ^ Int.toNat 18)]])
      rw [← List.append_assoc] at this
      exact this
    · rw [if_neg (by rw [decide_eq_false c]; exact Bool.false_ne_true), wp_sNil]
      exact rest v g
  unfold m__law_pool
  rw [wp_fun2, wp_seq, wp_set, wp_c]
  show wpM (sSeq _ _ [some (.scr ns), some (.int k), some (.int 0), none]) h _
  rw [wp_seq, wp_sIf, wp_tOf, wp_op, wp_var]
  refine ⟨.scr ns, rfl, ?_⟩
  rw [wp_lst, wp_aNil]
  refine ⟨Nat.zero_le _, ?_⟩
  rw [wp_scr_ne]
  refine ⟨_, rfl, ?_⟩
  cases ns with
  | nil =>
    rw [if_neg (by decide), wp_sNil]
    exact done 0 [.lst []]
  | cons n ns' =>
    rw [if_pos (show (!(n :: ns').isEmpty) = true from rfl), wp_set, wp_op, wp_var]
    refine ⟨.scr (n :: ns'), rfl, ?_⟩
    rw [wp_op, wp_var]
    refine ⟨.int k, rfl, ?_⟩
    rw [wp_call, wp_aCons, wp_var]
    refine ⟨.scr (n :: ns'), rfl, ?_⟩
    rw [wp_aNil, wp_len_scr, wp_mod (by rw [List.length_cons]; omega)]
    have l0 := Int.emod_nonneg k (show (((n :: ns').length : Nat) : Int) ≠ 0 by rw [List.length_cons]; omega)
    have l1 := Int.emod_lt_of_pos k (show (0 : Int) < (((n :: ns').length : Nat) : Int) by rw [List.length_cons]; omega)
    have : ∃ u, atI (n :: ns') (k % (((n :: ns').length : Nat) : Int)) = some u := by
      generalize k % (((n :: ns').length : Nat) : Int) = j at l0 l1
      have e : atI (n :: ns') j = (n :: ns')[j.toNat]? := by
        unfold atI ixN
        rw [if_pos l0, if_pos l1]
        rfl
      rw [e]
      exact ⟨_, List.getElem?_eq_getElem (by omega)⟩
    obtain ⟨u, eu⟩ := this
    rw [wp_ix_scr eu]
    exact done u [.lst []]
end SP

set_option maxRecDepth 100000
set_option maxHeartbeats 4000000
namespace SP
open PySem PySem.Spec PyProof.Rows L2 K01 MM GP
section
variable {h : Hm} {ρ : MM.Env} {Q : Wv → Hm → Prop}



def AllL (h : Hm) : List (PySem.Str × List PySem.Str) → List Nat → Prop
  | [], [] => True
  | p :: ps, i :: is => rdL h i = some (p.2.map Wv.str) ∧ AllL h ps is
  | _, _ => False
def dueK (ps : List (PySem.Str × List PySem.Str)) (is : List Nat) : List (Key × Wv) := List.zipWith (fun p i => (Sum.inr p.1, Wv.obj i)) ps is
theorem AllL.mv {h' : Hm} (m : ∀ i ws, rdL h i = some ws → rdL h' i = some ws) : ∀ {ps : List (PySem.Str × List PySem.Str)} {is : List Nat}, AllL h ps is → AllL h' ps is
  | [], [], _ => trivial
  | [], _ :: _, A => A.elim
  | _ :: _, [], A => A.elim
  | p :: ps, i :: is, A => ⟨m _ _ A.1, AllL.mv m A.2⟩
theorem RingA.set {d : Nat} {o o' : Ob} {w : Wv} {ms : List Mk} (e : h[d]? = some o) (n : ∀ ws, o ≠ .lst ws) (n' : ∀ C fs, o ≠ .ins C fs) (r : RingA h w ms) : RingA (h.set d o') w ms := by
  obtain ⟨i, k, e0, e1, e2⟩ := r.at_
  have i1 : d ≠ i := fun z => by subst z; rw [e] at e1; exact n' _ _ (Option.some.inj e1)
  have i2 : d ≠ k := fun z => by subst z; rw [e] at e2; exact n _ (Option.some.inj e2)
  exact ⟨i, k, e0, by rw [List.getElem?_set_ne i1]; exact e1, by rw [List.getElem?_set_ne i2]; exact e2⟩
end
end SP

set_option maxRecDepth 100000
set_option maxHeartbeats 4000000
namespace SP
open PySem PySem.Spec PyProof.Rows L2 K01 MM GP
abbrev Dl := List (PySem.Str × List PySem.Str)
def Due (h : Hm) (d : Nat) (ps : Dl) : Prop := ∃ is, h[d]? = some (.dk (dueK ps is)) ∧ AllL h ps is
def PrAll (ρ : MM.Env) : List (EM × EM) → Dl → Prop
  | [], [] => True
  | e :: ps, p :: kvs => (e.1 = eC (.str p.1) ∧ ∀ h, e.2 ρ h = .ok (.obj h.length) (h ++ [.lst (p.2.map Wv.str)])) ∧ PrAll ρ ps kvs
  | _, _ => False
theorem AllL.app {h : Hm} : ∀ {a b : Dl} {is js : List Nat}, AllL h a is → AllL h b js → AllL h (a ++ b) (is ++ js)
  | [], _, [], _, _, B => B
  | [], _, _ :: _, _, A, _ => A.elim
  | _ :: _, _, [], _, A, _ => A.elim
  | p :: a, b, i :: is, js, A, B => ⟨A.1, AllL.app A.2 B⟩
theorem Due.app {h : Hm} {d : Nat} {ps : Dl} (D : Due h d ps) (g : Hm) : Due (h ++ g) d ps := by
  obtain ⟨is, e, al⟩ := D
  exact ⟨is, get_app e g, al.mv fun i ws z => rdL_app z g⟩
end SP

set_option maxRecDepth 100000
set_option maxHeartbeats 4000000

namespace SP
open PySem PySem.Spec PyProof.Rows L2 K01 MM GP
noncomputable def sameW (a b : Wv) : Bool := @decide (a = b) (Classical.propDecidable _)
def Cl : Nat → Wv → Prop
  | _, .non => True
  | _, .int _ => True
  | _, .str x => PyData.strOk x = true
  | n + 1, .tup ws => ∀ w ∈ ws, Cl n w
  | _, _ => False
def dcW : Nat → Wv → PyData
  | _, .int i => .int i
  | _, .str x => .str x
  | n + 1, .tup ws => .tuple (ws.map (dcW n))
  | _, _ => .none
theorem mapM_dat {h : Hm} {m : Nat} {f : Wv → PyData} : ∀ {ws : List Wv}, (∀ w ∈ ws, dat h m w = some (f w)) → ws.mapM (dat h m) = some (ws.map f)
  | [], _ => rfl
  | w :: ws, a => by
    rw [List.mapM_cons, a w List.mem_cons_self, mapM_dat fun v hv => a v (List.mem_cons_of_mem _ hv)]
    rfl
theorem dat_cl {h : Hm} : ∀ {n m : Nat} {w : Wv}, Cl n w → n < m → dat h m w = some (dcW n w)
  | n, m + 1, w, c, l => by
    cases w with
    | non => cases n <;> rfl
    | int i => cases n <;> rfl
    | str x => cases n <;> rfl
    | tup ws =>
      cases n with
      | zero => exact c.elim
      | succ n =>
        have z : ws.mapM (dat h m) = some (ws.map (dcW n)) := mapM_dat fun w hw => dat_cl (c w hw) (by omega)
        show (ws.mapM (dat h m)).map PyData.tuple = _
        rw [z]
        rfl
    | bl b => cases n <;> exact c.elim
    | obj i => cases n <;> exact c.elim
    | glob x => cases n <;> exact c.elim
    | raw v => cases n <;> exact c.elim
    | scr ns => cases n <;> exact c.elim
    | ptp ws => cases n <;> exact c.elim
theorem lay_map {n : Nat} {f : Wv → PyData} : ∀ {ws : List Wv}, (∀ w ∈ ws, (f w).canLay0 = true ∧ (f w).depth ≤ n) → PyData.canLayAll0 (ws.map f) = true ∧ PyData.depthAll (ws.map f) ≤ n
  | [], _ => ⟨by rw [List.map_nil, PyData.canLayAll0], by rw [List.map_nil, PyData.depthAll]; exact Nat.zero_le _⟩
  | w :: ws, a => by
    obtain ⟨b1, b2⟩ := a w List.mem_cons_self
    obtain ⟨c1, c2⟩ := lay_map fun v hv => a v (List.mem_cons_of_mem _ hv)
    refine ⟨by rw [List.map_cons, PyData.canLayAll0, b1, c1]; rfl, ?_⟩
    rw [List.map_cons, PyData.depthAll]
    omega
theorem lay_cl : ∀ {n : Nat} {w : Wv}, Cl n w → (dcW n w).canLay0 = true ∧ (dcW n w).depth ≤ n
  | n, w, c => by
    cases w with
    | non => cases n <;> simp [dcW, PyData.canLay0, PyData.depth]
    | int i => cases n <;> simp [dcW, PyData.canLay0, PyData.depth]
    | str x => cases n <;> exact ⟨by rw [dcW, PyData.canLay0]; exact c, by simp [dcW, PyData.depth]⟩
    | tup ws =>
      cases n with
      | zero => exact c.elim
      | succ n =>
        obtain ⟨a, b⟩ := lay_map (n := n) (f := dcW n) (ws := ws) fun w hw => lay_cl (c w hw)
        refine ⟨by rw [dcW, PyData.canLay0]; exact a, by rw [dcW, PyData.depth]; omega⟩
    | bl b => cases n <;> exact c.elim
    | obj i => cases n <;> exact c.elim
    | glob x => cases n <;> exact c.elim
    | raw v => cases n <;> exact c.elim
    | scr ns => cases n <;> exact c.elim
    | ptp ws => cases n <;> exact c.elim
theorem eqv_map {n : Nat} (ih : ∀ a b : Wv, Cl n a → Cl n b → (PyData.eqv (dcW n a) (dcW n b) = true ↔ a = b)) : ∀ {xs ys : List Wv}, (∀ w ∈ xs, Cl n w) → (∀ w ∈ ys, Cl n w) → (PyData.eqvAll (xs.map (dcW n)) (ys.map (dcW n)) = true ↔ xs = ys)
  | [], [], _, _ => by simp [PyData.eqvAll]
  | [], _ :: _, _, _ => by simp [PyData.eqvAll]
  | _ :: _, [], _, _ => by simp [PyData.eqvAll]
  | x :: xs, y :: ys, a, b => by
    rw [List.map_cons, List.map_cons, PyData.eqvAll, Bool.and_eq_true, ih x y (a x List.mem_cons_self) (b y List.mem_cons_self), eqv_map ih (fun w hw => a w (List.mem_cons_of_mem _ hw)) (fun w hw => b w (List.mem_cons_of_mem _ hw))]
    simp
theorem eqv_cl : ∀ (n : Nat) (a b : Wv), Cl n a → Cl n b → (PyData.eqv (dcW n a) (dcW n b) = true ↔ a = b)
  | 0, a, b, ca, cb => by
    cases a <;> cases b <;> first | exact ca.elim | exact cb.elim | simp [dcW, PyData.eqv]
  | n + 1, a, b, ca, cb => by
    cases a with
    | tup xs =>
      cases b with
      | tup ys =>
        rw [dcW, dcW, PyData.eqv, eqv_map (eqv_cl n) ca cb]
        simp
      | non => simp [dcW, PyData.eqv]
      | int i => simp [dcW, PyData.eqv]
      | str x => simp [dcW, PyData.eqv]
      | _ => exact cb.elim
    | non => cases b <;> first | exact cb.elim | simp [dcW, PyData.eqv]
    | int i => cases b <;> first | exact cb.elim | simp [dcW, PyData.eqv]
    | str x => cases b <;> first | exact cb.elim | simp [dcW, PyData.eqv]
    | _ => exact ca.elim
theorem dat_lst {h : Hm} {n m i : Nat} {ws : List Wv} (e : rdL h i = some ws) (c : ∀ w ∈ ws, Cl n w) (l : n + 1 < m) : dat h m (.obj i) = some (.list (ws.map (dcW n))) := by
  obtain ⟨m, rfl⟩ : ∃ k, m = k + 1 := ⟨m - 1, by omega⟩
  unfold dat
  simp only [e]
  rw [mapM_dat fun w hw => dat_cl (c w hw) (by omega)]
  rfl
noncomputable def sameL (a b : List Wv) : Bool := @decide (a = b) (Classical.propDecidable _)
theorem sameL_iff {a b : List Wv} : sameL a b = true ↔ a = b := @decide_eq_true_iff _ (Classical.propDecidable _)
theorem shaped_lstC {n : Nat} {ws : List Wv} (c : ∀ w ∈ ws, Cl n w) (l : n < 64) : SeqAt.shaped (.list (ws.map (dcW n))) = true := by
  obtain ⟨a, b⟩ := lay_map (n := n) (f := dcW n) (ws := ws) fun w hw => lay_cl (c w hw)
  unfold SeqAt.shaped
  rw [PyData.canLay0, a, PyData.depth, Bool.true_and]
  exact decide_eq_true (by omega)
theorem eqv_lstC {n : Nat} {xs ys : List Wv} (a : ∀ w ∈ xs, Cl n w) (b : ∀ w ∈ ys, Cl n w) : PyData.eqv (.list (xs.map (dcW n))) (.list (ys.map (dcW n))) = sameL xs ys := by
  rw [PyData.eqv, Bool.eq_iff_iff, eqv_map (eqv_cl n) a b, sameL_iff]
theorem wp_eqL {h : Hm} {n i j : Nat} {neg : Bool} {xs ys : List Wv} {Q : Wv → Hm → Prop} (e1 : rdL h i = some xs) (e2 : rdL h j = some ys) (a : ∀ w ∈ xs, Cl n w) (b : ∀ w ∈ ys, Cl n w) (l : n < 50) : wpM (eqB neg (.obj i) (.obj j)) h Q ↔ Q (.bl (if neg then !sameL xs ys else sameL xs ys)) h := by
  refine wp_ok ?_
  unfold eqB
  simp only [dat_lst e1 a (show n + 1 < 60 by omega), dat_lst e2 b (show n + 1 < 60 by omega), shaped_lstC a (by omega), shaped_lstC b (by omega), Bool.and_self, if_true, eqv_lstC a b]
end SP

set_option maxRecDepth 100000
set_option maxHeartbeats 4000000

namespace SP
open PySem PySem.Spec PyProof.Rows L2 K01 MM GP
def kn (ks : List MM.DK) : Wv := .tup (ks.map tupK)
def GD (k : MM.DK) : Prop := ∃ (n : Int) (x : PySem.Str) (l : Int), k = [.inl n, .inr x, .inl l] ∧ 1 ≤ n ∧ n ≤ 1000000000000 ∧ wordOk x = true ∧ 1 ≤ l
theorem GD.d3 {k : MM.DK} (g : GD k) : MS.D3 k := by
  obtain ⟨n, x, l, rfl, _⟩ := g
  exact ⟨n, x, l, rfl⟩
end SP

set_option maxRecDepth 100000
set_option maxHeartbeats 4000000
namespace MM
open PySem PySem.Spec PyProof.Rows L2
section
variable {h : Hm} {ρ : Env}
theorem at_last {o : Ob} : (h ++ [o])[h.length]? = some o := by rw [List.getElem?_append_right (Nat.le_refl _), Nat.sub_self]; rfl
theorem wp_dnew {Q : Wv → Hm → Prop} : wpM (eDnewK ρ) h Q ↔ Q (.obj h.length) (h ++ [.dk []]) := wp_ok rfl
end
end MM

set_option maxRecDepth 100000
set_option maxHeartbeats 4000000

namespace SP
open PySem PySem.Spec PyProof.Rows L2 K01 MM GP
def jn (a b : List MM.DK) : List MM.DK := sortK (a ++ b)
theorem wp_tupOf {i : Nat} {ws : List Wv} {h : Hm} {Q : Wv → Hm → Prop} (e : rdL h i = some ws) : wpM (tupOf [.obj i]) h Q ↔ Q (.tup ws) h := wp_ok (by unfold tupOf; simp only [e])
end SP

set_option maxRecDepth 100000
set_option maxHeartbeats 4000000

namespace SP
open PySem PySem.Spec PyProof.Rows L2 K01 MM GP

structure Kx (S : List Nat) (h h' : Hm) : Prop where
  len : h.length ≤ h'.length
  at_ : ∀ j, j < h.length → j ∉ S → h'[j]? = h[j]?
theorem Kx.rfl' {S : List Nat} {h : Hm} : Kx S h h := ⟨Nat.le_refl _, fun _ _ _ => rfl⟩
theorem Kx.app {S : List Nat} {h h1 : Hm} (a : Kx S h h1) (g : Hm) : Kx S h (h1 ++ g) := ⟨by rw [List.length_append]; exact Nat.le_trans a.len (Nat.le_add_right _ _), fun j l n => by rw [List.getElem?_append_left (Nat.lt_of_lt_of_le l a.len)]; exact a.at_ j l n⟩
theorem Kx.trans {S : List Nat} {h h1 h2 : Hm} (a : Kx S h h1) (b : Kx S h1 h2) : Kx S h h2 := ⟨Nat.le_trans a.len b.len, fun j l n => (b.at_ j (Nat.lt_of_lt_of_le l a.len) n).trans (a.at_ j l n)⟩
theorem Kx.mono {S T : List Nat} {h h1 : Hm} (a : Kx S h h1) (s : ∀ j ∈ S, j ∈ T) : Kx T h h1 := ⟨a.len, fun j l n => a.at_ j l fun z => n (s j z)⟩
theorem Kx.set {S : List Nat} {h h1 : Hm} (a : Kx S h h1) {j : Nat} {o : Ob} (m : j ∈ S ∨ h.length ≤ j) : Kx S h (h1.set j o) := ⟨by rw [List.length_set]; exact a.len, fun k l n => by
  rw [List.getElem?_set_ne (fun z => by subst z; rcases m with m | m; exact n m; omega)]
  exact a.at_ k l n⟩
theorem Kx.get {S : List Nat} {h h1 : Hm} (a : Kx S h h1) {j : Nat} {o : Ob} (e : h[j]? = some o) (n : j ∉ S) : h1[j]? = some o := (a.at_ j (List.getElem?_eq_some_iff.mp e).1 n).trans e

def rowsV (ns : List PySem.Str) (v : PySem.Str → Wv) : List (Key × Wv) := ns.map fun x => (.inr x, v x)
abbrev Kf := PySem.Str → List MM.DK
def updK (f : Kf) (x : PySem.Str) (k : List MM.DK) : Kf := fun y => if y = x then k else f y
abbrev rowsK (ns : List PySem.Str) (f : Kf) : List (Key × Wv) := rowsV ns fun x => kn (f x)
def putN (ns : List PySem.Str) (x : PySem.Str) : List PySem.Str := if x ∈ ns then ns else ns ++ [x]
def W5 : List PySem.Str := ["a", "b", "c", "dd", "eeeeee"]
structure KnOk (ns : List PySem.Str) (f : Kf) : Prop where
  nd : ns.Nodup
  sub : ∀ x ∈ ns, x ∈ W5
  asc : ∀ x, Asc (f x)
  good : ∀ x, ∀ k ∈ f x, GD k
  few : ∀ x, (f x).length ≤ 55
theorem KnOk.len {ns : List PySem.Str} {f : Kf} (k : KnOk ns f) : ns.length ≤ 5 := by
  rcases Nat.lt_or_ge 5 ns.length with l | l
  · have := (RQ.nodup_perm k.nd (fun x hx => k.sub x hx) (by show W5.length ≤ _; simp [W5]; omega)).length_eq
    simp [W5] at this
    omega
  · exact l
structure AsAt (h : Hm) (i d t : Nat) (nm : PySem.Str) (ns : List PySem.Str) (f : Kf) (bz : Wv) (tl : List Wv) : Prop where
  ob : h[i]? = some (.ins "Asker" [("own_name", .str nm), ("own_known", .obj d), ("own_busy", bz), ("own_tellings", .obj t)])
  di : h[d]? = some (.dk (rowsK ns f))
  te : h[t]? = some (.lst tl)
theorem AsAt.kx {S : List Nat} {h h' : Hm} {i d t : Nat} {nm : PySem.Str} {ns : List PySem.Str} {f : Kf} {bz : Wv} {tl : List Wv} (A : AsAt h i d t nm ns f bz tl) (k : Kx S h h') (n : i ∉ S ∧ d ∉ S ∧ t ∉ S) : AsAt h' i d t nm ns f bz tl := ⟨k.get A.ob n.1, k.get A.di n.2.1, k.get A.te n.2.2⟩
theorem AsAt.app {h : Hm} {i d t : Nat} {nm : PySem.Str} {ns : List PySem.Str} {f : Kf} {bz : Wv} {tl : List Wv} (A : AsAt h i d t nm ns f bz tl) (g : Hm) : AsAt (h ++ g) i d t nm ns f bz tl := A.kx (S := []) (Kx.rfl'.app g) (by simp)
section
variable {h : Hm} {i d t : Nat} {nm x : PySem.Str} {ns : List PySem.Str} {f : Kf} {bz : Wv} {tl : List Wv} {Q : Wv → Hm → Prop}
def srt5 (ns : List PySem.Str) : List PySem.Str := isort sleS ns
def stW (nm : PySem.Str) (bz : Wv) (tl : List Wv) (ns : List PySem.Str) (f : Kf) : Wv := .tup [.str nm, bz, .tup tl, .tup ((srt5 ns).map fun x => .tup [.str x, kn (f x)])]
end
end SP

set_option maxRecDepth 100000
set_option maxHeartbeats 4000000

namespace SG
open PySem PySem.Spec PyProof.Rows L2 K01 MM GP SP
section
variable {h : Hm} {w a b : Wv} {x : PySem.Str} {t : Ty} {Q : Wv → Hm → Prop} {R : Ex → Hm → Prop}
theorem nil_app {Q : Hm → Prop} {h : Hm} (q : ∀ g, Q (h ++ g)) : Q h := by
  have := q []
  rwa [List.append_nil] at this
theorem ty_app {g : Hm} (e : tyW h w = some t) : tyW (h ++ g) w = some t := by
  cases w with
  | obj i =>
    unfold tyW at e ⊢
    simp only at e ⊢
    cases q : h[i]? with
    | none => rw [q] at e; cases e
    | some o => rw [at_app q]; rw [q] at e; exact e
  | _ => exact e
def OddW (h : Hm) (w : Wv) : Prop := (∃ x, w = .str x ∧ x.length ≤ sizeLine ∧ wordOk x = false) ∨ ∃ t, tyW h w = some t ∧ t ≠ .str
theorem OddW.app (o : OddW h w) (g : Hm) : OddW (h ++ g) w := by
  rcases o with o | ⟨t, e, n⟩
  · exact .inl o
  · exact .inr ⟨t, ty_app e, n⟩
theorem sub_str (n : t ≠ .str) : t.sub .str = false := by cases t <;> first | rfl | exact absurd rfl n
theorem notword_wp (o : OddW h w) (q : ∀ g, Q (.bl false) (h ++ g)) : wpM (m_is_word [w]) h Q := by
  rcases o with ⟨x, rfl, l, no⟩ | ⟨t, e, n⟩
  · refine word_wp l fun g => ?_
    rw [no]; exact q g
  · simp only [m_is_word, MM.wpq, wp_mkC, startM, Ty.nm, if_true, if_false, Nat.reduceAdd, Nat.reduceSub, reduceCtorEq, e, sub_str n, Bool.not_false]
    exact nil_app (Q := Q (.bl false)) q

def OddP (h : Hm) (w : Wv) : Prop := (∃ p, w = .int p ∧ (decide (0 ≤ p) && decide (p ≤ 63)) = false) ∨ ∃ t, tyW h w = some t ∧ t ≠ .int
theorem OddP.app (o : OddP h w) (g : Hm) : OddP (h ++ g) w := by
  rcases o with o | ⟨t, e, n⟩
  · exact .inl o
  · exact .inr ⟨t, ty_app e, n⟩

def OddM (h : Hm) (w : Wv) : Prop := (∃ t, tyW h w = some t ∧ t ≠ .tup) ∨ (∃ ws, w = .tup ws ∧ ws.length ≠ 2) ∨ (∃ a b, w = .tup [a, b] ∧ OddP h a) ∨ ∃ p b, w = .tup [.int p, b] ∧ (decide (0 ≤ p) && decide (p ≤ 63)) = true ∧ OddW h b
theorem OddM.app (o : OddM h w) (g : Hm) : OddM (h ++ g) w := by
  rcases o with ⟨t, e, n⟩ | o | ⟨a, b, e, o⟩ | ⟨p, b, e, c, o⟩
  · exact .inl ⟨t, ty_app e, n⟩
  · exact .inr (.inl o)
  · exact .inr (.inr (.inl ⟨a, b, e, o.app g⟩))
  · exact .inr (.inr (.inr ⟨p, b, e, c, o.app g⟩))
theorem sub_tup (n : t ≠ .tup) : t.sub .tup = false := by cases t <;> first | rfl | exact absurd rfl n
end
end SG

set_option maxRecDepth 100000
set_option maxHeartbeats 4000000

namespace SC
open PySem PySem.Spec PyProof.Rows L2 K01 MM GP SP SG
def Pl (h : Hm) : Nat → Wv → Prop
  | _, .non => True
  | _, .bl _ => True
  | _, .int _ => True
  | _, .str x => x.length ≤ sizeLine
  | _, .obj i => ∃ t, tyW h (.obj i) = some t
  | n + 1, .tup ws => ws.length < 1000 ∧ ∀ w ∈ ws, Pl h n w
  | _, _ => False
section
variable {h : Hm} {w a b c : Wv} {x : PySem.Str} {t : Ty} {n : Nat} {Q : Wv → Hm → Prop} {R : Ex → Hm → Prop}
theorem Pl.ty (p : Pl h n w) : ∃ t, tyW h w = some t := by
  cases w with
  | obj i => cases n <;> exact p
  | glob x => cases n <;> exact p.elim
  | raw v => cases n <;> exact p.elim
  | scr ns => cases n <;> exact p.elim
  | ptp ws => cases n <;> exact p.elim
  | non => exact ⟨_, rfl⟩
  | bl b => exact ⟨_, rfl⟩
  | int i => exact ⟨_, rfl⟩
  | str y => exact ⟨_, rfl⟩
  | tup ws => exact ⟨_, rfl⟩
theorem Pl.app (g : Hm) : ∀ {n : Nat} {w : Wv}, Pl h n w → Pl (h ++ g) n w
  | 0, w, p => by
    cases w with
    | obj i => exact ⟨p.choose, ty_app p.choose_spec⟩
    | tup ws => exact p.elim
    | _ => exact p
  | n + 1, w, p => by
    cases w with
    | obj i => exact ⟨p.choose, ty_app p.choose_spec⟩
    | tup ws => exact ⟨p.1, fun w hw => (p.2 w hw).app g⟩
    | _ => exact p
theorem Pl.up : ∀ {n m : Nat} {w : Wv}, Pl h n w → n ≤ m → Pl h m w
  | 0, 0, w, p, _ => p
  | 0, m + 1, w, p, _ => by
    cases w with
    | tup ws => exact p.elim
    | _ => exact p
  | n + 1, m + 1, w, p, l => by
    cases w with
    | tup ws => exact ⟨p.1, fun w hw => (p.2 w hw).up (by omega)⟩
    | _ => exact p
theorem ty_int_inv (e : tyW h w = some .int) : ∃ i, w = .int i := by
  cases w with
  | int i => exact ⟨i, rfl⟩
  | obj i => unfold tyW at e; simp only at e; split at e <;> cases e
  | _ => cases e
theorem ty_str_inv (e : tyW h w = some .str) : ∃ x, w = .str x := by
  cases w with
  | str i => exact ⟨i, rfl⟩
  | obj i => unfold tyW at e; simp only at e; split at e <;> cases e
  | _ => cases e
theorem ty_tup_inv (p : Pl h n w) (e : tyW h w = some .tup) : ∃ ws, w = .tup ws := by
  cases w with
  | tup i => exact ⟨i, rfl⟩
  | ptp i => cases n <;> exact p.elim
  | obj i => unfold tyW at e; simp only at e; split at e <;> cases e
  | _ => cases e
theorem sub_tup (n : t ≠ .tup) : t.sub .tup = false := by cases t <;> first | rfl | exact absurd rfl n
def wordW : Wv → Bool
  | .str x => wordOk x
  | _ => false
theorem isword_wp (p : Pl h n w) (q : ∀ g, Q (.bl (wordW w)) (h ++ g)) : wpM (m_is_word [w]) h Q := by
  obtain ⟨t, e⟩ := p.ty
  by_cases c : t = .str
  · subst c
    obtain ⟨x, rfl⟩ := ty_str_inv e
    exact word_wp (by cases n <;> exact p) q
  · refine notword_wp (.inr ⟨t, e, c⟩) fun g => ?_
    have z : wordW w = false := by cases w <;> first | rfl | (cases e; exact absurd rfl c)
    rw [z] at q
    exact q g

def dotOf : Wv → Option MM.DK
  | .tup [.int n, .str x, .int l] => if 1 ≤ n ∧ n ≤ 1000000000000 ∧ wordOk x = true ∧ 1 ≤ l then some [.inl n, .inr x, .inl l] else none
  | _ => none

def markB : Wv → Bool
  | .tup [.str x, .int t] => decide (x = "gone") && decide (0 ≤ t)
  | _ => false
def worthB : Wv → Bool
  | .int i => decide (-1000000000 ≤ i) && decide (i ≤ 1000000000)
  | w => markB w
theorem ismark_wp (p : Pl h (n + 1) w) : wpM (m_is_mark [w]) h Q ↔ Q (.bl (markB w)) h := by
  obtain ⟨t, e⟩ := p.ty
  by_cases ct : t = .tup
  · subst ct
    obtain ⟨ws, rfl⟩ := ty_tup_inv (by assumption) e
    by_cases l : ws.length = 2
    · obtain ⟨a, b, rfl⟩ : ∃ a b, ws = [a, b] := by
        match ws, l with
        | [a, b], _ => exact ⟨a, b, rfl⟩
      have pa := p.2 a (by simp)
      have pb := p.2 b (by simp)
      obtain ⟨ta, ea⟩ := pa.ty
      obtain ⟨tb, eb⟩ := pb.ty
      simp only [m_is_mark, MM.wpq, wp_mkC, startM, Ty.nm, if_true, if_false, Nat.reduceAdd, Nat.reduceSub, reduceCtorEq, ty_tup, Ty.sub, decide_true, Bool.true_or, Bool.not_true, ea, whole_wp eb]
      by_cases ca : ta = .str
      · subst ca
        obtain ⟨x, rfl⟩ := ty_str_inv ea
        by_cases cb : tb = .int
        · subst cb
          obtain ⟨i, rfl⟩ := ty_int_inv eb
          simp only [MM.wpq, wp_mkC, startM, Ty.nm, if_true, if_false, Nat.reduceAdd, Nat.reduceSub, reduceCtorEq, decide_true, Bool.true_or, Bool.not_true, markB]
          by_cases y1 : x = "gone" <;> simp [MM.wpq, wp_mkC, startM, Ty.nm, if_true, if_false, Nat.reduceAdd, Nat.reduceSub, reduceCtorEq, y1]
        · have z : markB (.tup [.str x, b]) = false := by
            unfold markB
            split
            · next e0 => cases e0; cases eb; exact absurd rfl cb
            · rfl
          simp only [MM.wpq, wp_mkC, startM, Ty.nm, if_true, if_false, Nat.reduceAdd, Nat.reduceSub, reduceCtorEq, decide_true, Bool.true_or, Bool.not_true, decide_eq_false cb, Bool.not_false, z]
          simp
      · have z : markB (.tup [a, b]) = false := by
          unfold markB
          split
          · next e0 => cases e0; cases ea; exact absurd rfl ca
          · rfl
        simp only [z]
        simp [ca]
    · have z : markB (.tup ws) = false := by
        unfold markB
        split
        · next e0 => cases e0; exact absurd rfl l
        · rfl
      have l' : decide ((ws.length : Int) = 2) = false := decide_eq_false (by omega)
      simp only [m_is_mark, MM.wpq, wp_mkC, startM, Ty.nm, if_true, if_false, Nat.reduceAdd, Nat.reduceSub, reduceCtorEq, ty_tup, Ty.sub, decide_true, Bool.true_or, Bool.not_true, l', Bool.not_false, z]
  · have z : markB w = false := by
      cases w with
      | tup ws => cases e; exact absurd rfl ct
      | _ => rfl
    simp only [m_is_mark, MM.wpq, wp_mkC, startM, Ty.nm, if_true, if_false, Nat.reduceAdd, Nat.reduceSub, reduceCtorEq, e, sub_tup ct, Bool.not_false, z]
theorem isworth_wp (p : Pl h (n + 1) w) : wpM (m_is_worth [w]) h Q ↔ Q (.bl (worthB w)) h := by
  obtain ⟨t, e⟩ := p.ty
  simp only [m_is_worth, MM.wpq, wp_mkC, startM, Ty.nm, if_true, if_false, Nat.reduceAdd, Nat.reduceSub, reduceCtorEq, whole_wp e]
  by_cases ct : t = .int
  · subst ct
    obtain ⟨i, rfl⟩ := ty_int_inv e
    simp only [MM.wpq, wp_mkC, startM, Ty.nm, if_true, if_false, Nat.reduceAdd, Nat.reduceSub, reduceCtorEq, decide_true, worthB]
    by_cases y : -1000000000 ≤ i <;> simp [MM.wpq, wp_mkC, startM, Ty.nm, if_true, if_false, Nat.reduceAdd, Nat.reduceSub, reduceCtorEq, y]
  · have z : worthB w = markB w := by
      cases w with
      | int i => cases e; exact absurd rfl ct
      | _ => rfl
    simp only [MM.wpq, wp_mkC, startM, Ty.nm, if_true, if_false, Nat.reduceAdd, Nat.reduceSub, reduceCtorEq, decide_eq_false ct, ismark_wp p, z]
end
end SC

set_option maxRecDepth 100000
set_option maxHeartbeats 4000000

namespace SC
open PySem PySem.Spec PyProof.Rows L2 K01 MM GP SP SG
def ltP (w : Wv) : Wv := match w with
  | .tup [a, b] => match tkOf a, tkOf b with
    | some x, some y => .bl (MS.dlt x y)
    | _, _ => .non
  | _ => .non
section
variable {h : Hm} {w a b c : Wv} {n : Nat} {ks : List MM.DK} {Q : Wv → Hm → Prop}

theorem mapM_all {α β : Type} {f : α → Option β} : ∀ {l : List α}, (l.all fun a => (f a).isSome) = (l.mapM f).isSome
  | [] => rfl
  | a :: l => by
    rw [List.all_cons, mapM_all (l := l), List.mapM_cons]
    cases f a <;> cases l.mapM f <;> rfl
def knownOf : Wv → Option (List MM.DK)
  | .tup ws => (ws.mapM dotOf).bind fun ks => if ascB ks = true then some ks else none
  | _ => none
structure GK (ks : List MM.DK) : Prop where
  all : ∀ k ∈ ks, GD k
  asc : Asc ks
end
end SC

set_option maxRecDepth 100000
set_option maxHeartbeats 4000000

namespace SG
open PySem PySem.Spec PyProof.Rows L2 K01 MM GP SP
def Tells (f : FM) (h : Hm) (w : Wv) (b : Bool) : Prop := ∀ (g : Hm) (Q : Wv → Hm → Prop), (∀ g', Q (.bl b) (h ++ g ++ g')) → wpM (f [w]) (h ++ g) Q
def Among (h : Hm) (w : Wv) (ws : List Wv) (b : Bool) : Prop := ∀ (g : Hm) (w' : Wv) (Q : Wv → Hm → Prop), dsq (h ++ g) w' = some ws → Q (.bl b) (h ++ g) → wpM (inM false w w') (h ++ g) Q
section
variable {h : Hm} {w x : Wv} {pre rest : List Wv} {nm : PySem.Str} {f : FM} {Q : Wv → Hm → Prop} {R : Ex → Hm → Prop}
abbrev TabR : List (PySem.Str × FM) := [("is_ring_mark", m_is_ring_mark), ("is_place", m_is_place)]

end
end SG

set_option maxRecDepth 100000
set_option maxHeartbeats 4000000

namespace TX
open PySem PySem.Spec PyProof.Rows L2 K01 MM GP SP SC SG
inductive Prt where
  | wd (x : PySem.Str) | nm (i : Int) | pl (is : List Int) | bo (b : Bool) | ls (i : Nat)
deriving DecidableEq
def pW : Prt → Wv
  | .wd x => .str x
  | .nm i => .int i
  | .pl is => .tup (is.map .int)
  | .bo b => .bl b
  | .ls i => .obj i
def POk (h : Hm) : Prt → Prop
  | .wd x => x.length ≤ 1000
  | .nm _ => True
  | .pl is => is.length ≤ 64
  | .bo _ => True
  | .ls i => ∃ ws, h[i]? = some (.lst ws)
section
variable {h : Hm} {w : Wv} {p : Prt} {x f : PySem.Str} {is : List Int} {t : Ty} {Q : Wv → Hm → Prop}
theorem POk.app (o : POk h p) (g : Hm) : POk (h ++ g) p := by
  cases p with
  | ls i => obtain ⟨ws, e⟩ := o; exact ⟨ws, get_app e g⟩
  | _ => exact o
def pTy : Prt → Ty
  | .wd _ => .str
  | .nm _ => .int
  | .pl _ => .tup
  | .bo _ => .bl
  | .ls _ => .lst
theorem POk.ty (o : POk h p) : tyW h (pW p) = some (pTy p) := by
  cases p with
  | ls i => obtain ⟨ws, e⟩ := o; show tyW h (.obj i) = _; unfold tyW; simp only [e]; rfl
  | _ => rfl
theorem POk.pl (o : POk h p) : Pl h 2 (pW p) := by
  cases p with
  | ls i => exact ⟨_, o.ty⟩
  | wd x => show x.length ≤ sizeLine; rw [sizeLine_eq]; have : x.length ≤ 1000 := o; omega
  | pl is => exact ⟨by rw [List.length_map]; have : is.length ≤ 64 := o; omega, fun u hu => by obtain ⟨i, _, rfl⟩ := List.mem_map.mp hu; trivial⟩
  | nm i => trivial
  | bo b => trivial

def goodAt (is : List Int) (k : Nat) : Bool := match is[k]? with
  | some i => decide (0 ≤ i) && decide (i ≤ 63) && !decide (i ∈ is.take k)
  | none => true
def firstBad (is : List Int) : Option Nat := (List.range is.length).find? fun k => !goodAt is k
def oI : Option Nat → Wv
  | some k => .int (k : Nat)
  | none => .non
theorem fb_some {k : Nat} (b : ∀ j, j < k → goodAt is j = true) (n : goodAt is k = false) (l : k < is.length) : firstBad is = some k := by
  unfold firstBad
  rw [List.find?_range_eq_some]
  exact ⟨by rw [n]; rfl, List.mem_range.mpr l, fun j hj => by rw [b j hj]; rfl⟩
theorem fb_none (b : ∀ j, j < is.length → goodAt is j = true) : firstBad is = none := by
  unfold firstBad
  rw [List.find?_range_eq_none]
  exact fun j hj => by rw [b j hj]; rfl
theorem fw_places (r : Row h w (is.map .int)) (q : ∀ g, Q (oI (firstBad is)) (h ++ g)) : wpM (m_first_wrong [w, .glob "is_place"]) h Q := by
  simp only [m_first_wrong, MM.wpq, wp_mkC, startM, Ty.nm, if_true, if_false, Nat.reduceAdd, Nat.reduceSub, reduceCtorEq, wp_enum]
  refine wp_src_row r fun s a c => ?_
  refine for_wp (its := enumL (is.map .int)) (fun k ρ h1 => (∀ j, j < k → goodAt is j = true) ∧ (∃ g, h1 = h ++ g) ∧ ∃ x y, ρ = [some w, some (.glob "is_place"), x, y]) (fun k ρ h1 z => ?_) (fun k u ρ h1 e z => ?_) (fun ρ h1 z => ?_) _ 0 _ _ (by rw [enumL_len]; show _ < s.cnt + 1; rw [a]; omega) (Nat.zero_le _) ⟨(fun j hj => absurd hj (Nat.not_lt_zero _)), ⟨[], by simp⟩, none, none, rfl⟩
  · obtain ⟨_, ⟨g, rfl⟩, _⟩ := z
    show (s.at_ k (h ++ g)).map _ = _
    rw [c, enum_at]
    rfl
  · obtain ⟨gd, ⟨g, rfl⟩, x, y, rfl⟩ := z
    rw [enum_at, List.getElem?_map] at e
    cases em : is[k]? with
    | none => rw [em] at e; cases e
    | some m =>
      rw [em] at e
      cases e
      have kl := (List.getElem?_eq_some_iff.mp em).1
      simp only [MM.wpq, wp_mkC, startM, Ty.nm, if_true, if_false, Nat.reduceAdd, Nat.reduceSub, reduceCtorEq]
      have cv : ∀ {h2 : Hm} {Q : Wv → Hm → Prop}, wpM (m_is_place [.int m]) h2 Q → wpM (eCallV [("is_ring_mark", m_is_ring_mark), ("is_place", m_is_place)] 1 (aCons (eVar 3) aNil) [some w, some (.glob "is_place"), some (.int (k : Nat)), some (.int m)]) h2 Q := fun {h2 Q} z => z
      refine cv (place_wp.mpr ?_)
      have ga : goodAt is k = (decide (0 ≤ m) && decide (m ≤ 63) && !decide (m ∈ is.take k)) := by unfold goodAt; rw [em]
      cases hb : (decide (0 ≤ m) && decide (m ≤ 63)) with
      | false =>
        simp only [MM.wpq, wp_mkC, startM, Ty.nm, if_true, if_false, Nat.reduceAdd, Nat.reduceSub, reduceCtorEq, Bool.not_false]
        have := fb_some gd (by rw [ga, hb, Bool.false_and]) kl
        rw [this] at q
        exact q g
      | true =>
        simp only [MM.wpq, wp_mkC, startM, Ty.nm, if_true, if_false, Nat.reduceAdd, Nat.reduceSub, reduceCtorEq, Bool.not_true]
        refine row_cut (r.app g) (by rw [List.length_map]; omega) fun w' g2 e2 => ?_
        have e3 := e2 []
        rw [List.append_nil, ← List.map_take] at e3
        rw [wp_in_ints e3]
        cases hc : decide (m ∈ is.take k) with
        | true =>
          simp only [MM.wpq, wp_mkC, startM, Ty.nm, if_true, if_false, Nat.reduceAdd, Nat.reduceSub, reduceCtorEq]
          have := fb_some gd (by rw [ga, hb, hc]; rfl) kl
          rw [this] at q
          rw [List.append_assoc]
          exact q _
        | false =>
          simp only [MM.wpq, wp_mkC, startM, Ty.nm, if_true, if_false, Nat.reduceAdd, Nat.reduceSub, reduceCtorEq]
          refine ⟨fun j hj => ?_, ⟨g ++ g2, by rw [List.append_assoc]⟩, _, _, rfl⟩
          rcases Nat.lt_succ_iff_lt_or_eq.mp hj with hj | rfl
          · exact gd j hj
          · rw [ga, hb, hc]; rfl
  · obtain ⟨gd, ⟨g, rfl⟩, x, y, rfl⟩ := z
    simp only [MM.wpq, wp_mkC, startM, Ty.nm, if_true, if_false, Nat.reduceAdd, Nat.reduceSub, reduceCtorEq]
    rw [enumL_len, List.length_map] at gd
    rw [fb_none gd] at q
    exact q g
def placesB : Prt → Bool
  | .pl is => decide (0 < is.length) && (firstBad is).isNone
  | _ => false
theorem places_wp (o : POk h p) (q : ∀ g, Q (.bl (placesB p)) (h ++ g)) : wpM (m_are_places [pW p]) h Q := by
  simp only [m_are_places, MM.wpq, wp_mkC, startM, Ty.nm, if_true, if_false, Nat.reduceAdd, Nat.reduceSub, reduceCtorEq, o.ty]
  have q0 := q []
  rw [List.append_nil] at q0
  cases p with
  | pl is =>
    simp only [pTy, Ty.sub, pW, MM.wpq, wp_mkC, startM, Ty.nm, if_true, if_false, Nat.reduceAdd, Nat.reduceSub, reduceCtorEq, decide_true, Bool.true_or, List.length_map]
    cases hl : decide ((0 : Int) < (is.length : Int)) with
    | false =>
      have : placesB (.pl is) = false := by
        show (decide (0 < is.length) && _) = false
        rw [decide_eq_false (by have := of_decide_eq_false hl; omega), Bool.false_and]
      rw [this] at q0
      simp only [MM.wpq, wp_mkC, startM, Ty.nm, if_true, if_false, Nat.reduceAdd, Nat.reduceSub, reduceCtorEq]
      exact q0
    | true =>
      simp only [MM.wpq, wp_mkC, startM, Ty.nm, if_true, if_false, Nat.reduceAdd, Nat.reduceSub, reduceCtorEq]
      refine fw_places row_tup fun g => ?_
      have : placesB (.pl is) = (firstBad is).isNone := by
        show (decide (0 < is.length) && _) = _
        rw [decide_eq_true (by have := of_decide_eq_true hl; omega), Bool.true_and]
      rw [this] at q
      cases hf : firstBad is with
      | none => rw [hf] at q; simp only [oI, MM.wpq, wp_mkC, startM, Ty.nm, if_true, if_false, Nat.reduceAdd, Nat.reduceSub, reduceCtorEq]; exact q g
      | some k => rw [hf] at q; simp only [oI, MM.wpq, wp_mkC, startM, Ty.nm, if_true, if_false, Nat.reduceAdd, Nat.reduceSub, reduceCtorEq]; exact q g
  | _ => simp [pTy, Ty.sub, MM.wpq, wp_mkC, startM, Ty.nm, if_true, if_false, Nat.reduceAdd, Nat.reduceSub, reduceCtorEq]; exact q0

def worthN : Prt → Bool
  | .nm i => decide (-1000000000 ≤ i) && decide (i ≤ 1000000000)
  | _ => false
def letN : Prt → Bool
  | .nm i => decide (0 ≤ i)
  | _ => false
def timeN : Prt → Bool
  | .nm i => decide (1 ≤ i) && decide (i ≤ 1000000)
  | _ => false
def nameN : Prt → Bool
  | .wd x => wordOk x
  | _ => false
def formB (f : PySem.Str) (p : Prt) : Bool :=
  if f = "name" then nameN p
  else if f = "worth" then worthN p
  else if f = "letter" then letN p
  else if f = "time" then timeN p
  else placesB p
theorem form_wp (o : POk h p) (q : ∀ g, Q (.bl (formB f p)) (h ++ g)) : wpM (m_has_form [pW p, .str f]) h Q := by
  have q0 := q []
  rw [List.append_nil] at q0
  simp only [m_has_form, MM.wpq, wp_mkC, startM, Ty.nm, if_true, if_false, Nat.reduceAdd, Nat.reduceSub, reduceCtorEq]
  by_cases e1 : f = "name"
  · have ef : formB f p = wordW (pW p) := by unfold formB; rw [if_pos e1]; cases p <;> rfl
    rw [decide_eq_true e1]
    simp only [MM.wpq, wp_mkC, startM, Ty.nm, if_true, if_false, Nat.reduceAdd, Nat.reduceSub, reduceCtorEq]
    rw [ef] at q
    exact isword_wp o.pl q
  rw [decide_eq_false e1]
  simp only [MM.wpq, wp_mkC, startM, Ty.nm, if_true, if_false, Nat.reduceAdd, Nat.reduceSub, reduceCtorEq]
  by_cases e2 : f = "worth"
  · rw [decide_eq_true e2]
    simp only [MM.wpq, wp_mkC, startM, Ty.nm, if_true, if_false, Nat.reduceAdd, Nat.reduceSub, reduceCtorEq]
    rw [whole_wp o.ty]
    have ef : formB f p = worthN p := by unfold formB; rw [if_neg e1, if_pos e2]
    rw [ef] at q0
    cases p with
    | nm i =>
      simp only [pTy, decide_true, MM.wpq, wp_mkC, startM, Ty.nm, if_true, if_false, Nat.reduceAdd, Nat.reduceSub, reduceCtorEq]
      rw [isworth_wp (n := 1) (POk.pl (p := .nm i) o)]
      exact q0
    | _ => simp [pTy, MM.wpq, wp_mkC, startM, Ty.nm, if_true, if_false, Nat.reduceAdd, Nat.reduceSub, reduceCtorEq]; exact q0
  rw [decide_eq_false e2]
  simp only [MM.wpq, wp_mkC, startM, Ty.nm, if_true, if_false, Nat.reduceAdd, Nat.reduceSub, reduceCtorEq]
  by_cases e3 : f = "letter"
  · rw [decide_eq_true e3]
    simp only [MM.wpq, wp_mkC, startM, Ty.nm, if_true, if_false, Nat.reduceAdd, Nat.reduceSub, reduceCtorEq]
    rw [whole_wp o.ty]
    have ef : formB f p = letN p := by unfold formB; rw [if_neg e1, if_neg e2, if_pos e3]
    rw [ef] at q0
    cases p with
    | nm i => simp only [pTy, decide_true, pW, MM.wpq, wp_mkC, startM, Ty.nm, if_true, if_false, Nat.reduceAdd, Nat.reduceSub, reduceCtorEq]; exact q0
    | _ => simp [pTy, MM.wpq, wp_mkC, startM, Ty.nm, if_true, if_false, Nat.reduceAdd, Nat.reduceSub, reduceCtorEq]; exact q0
  rw [decide_eq_false e3]
  simp only [MM.wpq, wp_mkC, startM, Ty.nm, if_true, if_false, Nat.reduceAdd, Nat.reduceSub, reduceCtorEq]
  by_cases e4 : f = "time"
  · rw [decide_eq_true e4]
    simp only [MM.wpq, wp_mkC, startM, Ty.nm, if_true, if_false, Nat.reduceAdd, Nat.reduceSub, reduceCtorEq]
    have ef : formB f p = timeN p := by unfold formB; rw [if_neg e1, if_neg e2, if_neg e3, if_pos e4]
    rw [ef] at q0
    cases p with
    | nm i => rw [show pW (.nm i) = .int i from rfl, between_wp]; exact q0
    | _ =>
      simp only [m_is_between, MM.wpq, wp_mkC, startM, Ty.nm, if_true, if_false, Nat.reduceAdd, Nat.reduceSub, reduceCtorEq]
      rw [whole_wp o.ty]
      simp [pTy, MM.wpq, wp_mkC, startM, Ty.nm, if_true, if_false, Nat.reduceAdd, Nat.reduceSub, reduceCtorEq]
      exact q0
  rw [decide_eq_false e4]
  simp only [MM.wpq, wp_mkC, startM, Ty.nm, if_true, if_false, Nat.reduceAdd, Nat.reduceSub, reduceCtorEq]
  have ef : formB f p = placesB p := by unfold formB; rw [if_neg e1, if_neg e2, if_neg e3, if_neg e4]
  rw [ef] at q
  exact places_wp o q

def deedB : List Prt → Bool
  | .wd x :: r => match tab_FORMS.lookup x with
    | some fs => decide (r.length = fs.length) && (r.zip fs).all fun z => formB z.2 z.1
    | none => false
  | _ => false
theorem pairs_is (r : List Prt) (fs : List PySem.Str) : pairsW (r.map pW) (fs.map .str) = (r.zip fs).map fun z => .tup [pW z.1, .str z.2] := by
  unfold pairsW
  induction r generalizing fs with
  | nil => rfl
  | cons p r ih =>
    cases fs with
    | nil => rfl
    | cons f fs => simp only [List.map_cons, List.zipWith_cons_cons, List.zip_cons_cons, ih]
theorem notdeed_wp (e : tyW h w = some t) (n : t ≠ .tup) : wpM (m_is_deed [w]) h Q ↔ Q (.bl false) h := by
  simp only [m_is_deed, MM.wpq, wp_mkC, startM, Ty.nm, if_true, if_false, Nat.reduceAdd, Nat.reduceSub, reduceCtorEq, e]
  have : t.sub .tup = false := SC.sub_tup n
  rw [this]
  simp only [MM.wpq, wp_mkC, startM, Ty.nm, if_true, if_false, Nat.reduceAdd, Nat.reduceSub, reduceCtorEq, Bool.not_false]
theorem cutW_from1 {α : Type} {x : α} {xs : List α} : cutW (x :: xs) (some 1) none = xs := by
  unfold cutW
  have e1 : HT.sIx (x :: xs).length 0 (some 1) = 1 := by
    unfold HT.sIx
    simp only [List.length_cons]
    rw [if_neg (by omega)]
    omega
  have e2 : HT.sIx (x :: xs).length (x :: xs).length none = (x :: xs).length := rfl
  rw [e1, e2]
  simp
theorem atI_first {α : Type} {x : α} {xs : List α} : atI (x :: xs) 0 = some x := by
  unfold L2.atI
  have : L2.ixN (x :: xs).length 0 = some 0 := by
    unfold L2.ixN
    simp
  rw [this]
  rfl
theorem wp_len_ptp {us : List Wv} : wpM (lenM [.ptp us]) h Q ↔ Q (.int us.length) h := wp_ok rfl
theorem deed_wp21 {ps : List Prt} (ok : ∀ p ∈ ps, POk h p) (l : ps.length ≤ 21) (q : ∀ g, Q (.bl (deedB ps)) (h ++ g)) : wpM (m_is_deed [.tup (ps.map pW)]) h Q := by
  have q0 := q []
  rw [List.append_nil] at q0
  simp only [m_is_deed, MM.wpq, wp_mkC, startM, Ty.nm, if_true, if_false, Nat.reduceAdd, Nat.reduceSub, reduceCtorEq, ty_tup, Ty.sub, decide_true, Bool.true_or, Bool.not_true]
  cases ps with
  | nil => simp only [List.map_nil, List.length_nil, MM.wpq, wp_mkC, startM, Ty.nm, if_true, if_false, Nat.reduceAdd, Nat.reduceSub, reduceCtorEq]; exact q0
  | cons p r =>
    rw [decide_eq_false (by simp; omega)]
    simp only [MM.wpq, wp_mkC, startM, Ty.nm, if_true, if_false, Nat.reduceAdd, Nat.reduceSub, reduceCtorEq]
    have e1 : ixM (.tup (pW p :: r.map pW)) (.int 0) h = .ok (pW p) h := by
      have : atI (pW p :: r.map pW) 0 = some (pW p) := atI_first
      unfold ixM; simp only [this]
    rw [wp_ok e1]
    simp only [(ok p (by simp)).ty]
    have okr : ∀ z ∈ r, POk h z := fun z hz => ok z (List.mem_cons_of_mem _ hz)
    cases p with
    | wd x =>
      simp only [pTy, pW, decide_true, Bool.true_or, Bool.not_true, MM.wpq, wp_mkC, startM, Ty.nm, if_true, if_false, Nat.reduceAdd, Nat.reduceSub, reduceCtorEq, wp_inG]
      cases hf : tab_FORMS.lookup x with
      | none =>
        have : deedB (.wd x :: r) = false := by unfold deedB; simp only [hf]
        rw [this] at q0
        simp only [Option.isSome_none, MM.wpq, wp_mkC, startM, Ty.nm, if_true, if_false, Nat.reduceAdd, Nat.reduceSub, reduceCtorEq]
        exact q0
      | some fs =>
        have ed : deedB (.wd x :: r) = (decide (r.length = fs.length) && (r.zip fs).all fun z => formB z.2 z.1) := by
          show (match tab_FORMS.lookup x with | some fs => _ | none => false) = _
          simp only [hf]
        rw [ed] at q q0
        simp only [Option.isSome_some, bne_self_eq_false, MM.wpq, wp_mkC, startM, Ty.nm, if_true, if_false, Nat.reduceAdd, Nat.reduceSub, reduceCtorEq, wp_ixG hf, wp_len_ptp, cutW_from1, List.length_map]
        have en : (decide (((r.length : Nat) : Int) = ((fs.length : Nat) : Int))) = decide (r.length = fs.length) := decide_eq_decide.mpr (by omega)
        rw [en]
        cases hl : decide (r.length = fs.length) with
        | false =>
          rw [hl] at q0
          simp only [MM.wpq, wp_mkC, startM, Ty.nm, if_true, if_false, Nat.reduceAdd, Nat.reduceSub, reduceCtorEq]
          exact q0
        | true =>
          rw [hl] at q
          have hl := of_decide_eq_true hl
          simp only [MM.wpq, wp_mkC, startM, Ty.nm, if_true, if_false, Nat.reduceAdd, Nat.reduceSub, reduceCtorEq]
          have ez : zipS [.tup (r.map pW), .ptp (fs.map .str)] h = .ok (sT (pairsW (r.map pW) (fs.map .str))) h := rfl
          rw [wp_ok ez, pairs_is]
          have lz : (r.zip fs).length = r.length := by rw [List.length_zip, ← hl, Nat.min_self]
          have lr : r.length ≤ 20 := by simp at l; omega
          refine lc_wp (its := (r.zip fs).map fun z => .tup [pW z.1, .str z.2]) (fun k acc h1 => k ≤ (r.zip fs).length ∧ (∃ g, h1 = h ++ g) ∧ acc = ((r.zip fs).take k).map fun z => Wv.bl (formB z.2 z.1)) (fun k acc h1 z => rfl) (fun k acc h1 z => ?_) (fun k w acc h1 e z => ?_) (fun acc h1 z => ?_) _ 0 [] h (by show _ < (List.map _ _).length + 1; omega) (Nat.zero_le _) ⟨Nat.zero_le _, ⟨[], by simp⟩, rfl⟩
          · rw [z.2.2, List.length_map, List.length_take, sizeLine_eq]; omega
          · obtain ⟨kl, ⟨g, rfl⟩, rfl⟩ := z
            rw [List.getElem?_map] at e
            cases ez : (r.zip fs)[k]? with
            | none => rw [ez] at e; cases e
            | some z =>
              rw [ez] at e
              cases e
              simp only [wipeM, MM.wpq, wp_mkC, startM, Ty.nm, if_true, if_false, Nat.reduceAdd, Nat.reduceSub, reduceCtorEq]
              have zm := List.mem_of_getElem? ez
              refine form_wp ((okr z.1 (List.of_mem_zip zm).1).app g) fun g2 => ?_
              refine ⟨(List.getElem?_eq_some_iff.mp ez).1, ⟨g ++ g2, by rw [List.append_assoc]⟩, ?_⟩
              rw [List.take_succ, ez, List.map_append]
              rfl
          · obtain ⟨kl, ⟨g, rfl⟩, rfl⟩ := z
            rw [List.length_map, List.take_length]
            rw [wp_all (bs := (r.zip fs).map fun z => formB z.2 z.1) rdL_last (by rw [← mapM_bl, List.map_map]; rfl), List.all_map, List.append_assoc]
            exact q _
    | _ => simp [pTy, MM.wpq, wp_mkC, startM, Ty.nm, if_true, if_false, Nat.reduceAdd, Nat.reduceSub, reduceCtorEq]; exact q0
theorem deed_wp {ps : List Prt} (ok : ∀ p ∈ ps, POk h p) (l : ps.length ≤ 20) (q : ∀ g, Q (.bl (deedB ps)) (h ++ g)) : wpM (m_is_deed [.tup (ps.map pW)]) h Q := deed_wp21 ok (by omega) q
end
end TX

set_option maxRecDepth 100000
set_option maxHeartbeats 4000000

namespace TX
open PySem PySem.Spec PyProof.Rows L2 K01 MM GP SP SC SG
def figL : PySem.Str := "0123456789"
def figs (x : PySem.Str) : Option Int := if decide (1 ≤ x.length) && decide (x.length ≤ 30) && (x.cps.toList.all fun c => decide (c ∈ figL.cps.toList)) then (if decide ((⟨#[x.cps.getD 0 0]⟩ : PySem.Str) = "0") && decide (1 < x.length) then none else PySem.intText? x) else none
def oN : Option Int → Wv
  | some k => .int k
  | none => .non
theorem figL_is : ∀ c ∈ figL.cps.toList, 48 ≤ c ∧ c ≤ 57 := by decide +kernel
section
variable {h : Hm} {w : Wv} {x f : PySem.Str} {Q : Wv → Hm → Prop}
theorem intText_some (l1 : 1 ≤ x.length) (l2 : x.length ≤ 30) (d : ∀ c ∈ x.cps.toList, c ∈ figL.cps.toList) : ∃ n, PySem.intText? x = some n := by
  have hl : x.cps.toList.length = x.length := Array.length_toList
  exact ⟨_, intText_digits (fun c hc => figL_is c (d c hc)) (fun z => by rw [z] at hl; simp at hl; omega) (by omega)⟩
theorem at0 (l : 1 ≤ x.length) : atI x.cps.toList 0 = some (x.cps.getD 0 0) := by
  have hl : x.cps.toList.length = x.length := Array.length_toList
  cases e : x.cps.toList with
  | nil => rw [e] at hl; simp at hl; omega
  | cons c cs =>
    rw [atI_first]
    have : x.cps.toList[0]? = some c := by rw [e]; rfl
    rw [Array.getElem?_toList] at this
    rw [Array.getD_eq_getD_getElem?, this]
    rfl
theorem figures_wp (l : x.length ≤ 1000000) (q : ∀ g, Q (oN (figs x)) (h ++ g)) : wpM (m_read_figures [.str x]) h Q := by
  have l' : x.length ≤ sizeLine := by rw [sizeLine_eq]; omega
  simp only [m_read_figures, MM.wpq, wp_mkC, startM, Ty.nm, if_true, if_false, Nat.reduceAdd, Nat.reduceSub, reduceCtorEq, l']
  have e1 : decide ((1 : Int) ≤ (x.length : Int)) = decide (1 ≤ x.length) := decide_eq_decide.mpr (by omega)
  have e2 : decide ((x.length : Int) ≤ 30) = decide (x.length ≤ 30) := decide_eq_decide.mpr (by omega)
  have e3 : decide ((1 : Int) < (x.length : Int)) = decide (1 < x.length) := decide_eq_decide.mpr (by omega)
  rw [e1, e2]
  have q0 := q []
  rw [List.append_nil] at q0
  by_cases h1 : 1 ≤ x.length
  · by_cases h2 : x.length ≤ 30
    · simp only [h1, h2, decide_true, MM.wpq, wp_mkC, startM, Ty.nm, if_true, if_false, Nat.reduceAdd, Nat.reduceSub, reduceCtorEq, Bool.not_true]
      rw [lc_const (h := h) (its := x.cps.toList.map fun ch => Wv.str ⟨#[ch]⟩) (fun _ => true) (fun w => match w with | .str y => .bl (decide ((y.cps.getD 0 0) ∈ figL.cps.toList)) | _ => .non) (fun k => its_S (h := h) k []) (by simp [sS]) (by rw [List.length_map]; show x.length < _; omega) (fun w wm => ?_)]
      · rw [List.filter_eq_self.mpr (fun _ _ => rfl), List.map_map, wp_all (bs := x.cps.toList.map fun ch => decide (ch ∈ figL.cps.toList)) rdL_last]
        · have ew : (x.cps.toList.map fun ch => decide (ch ∈ figL.cps.toList)).all id = x.cps.toList.all fun c => decide (c ∈ figL.cps.toList) := by
            rw [List.all_map]; rfl
          rw [ew]
          cases hd : (x.cps.toList.all fun c => decide (c ∈ figL.cps.toList)) with
          | false =>
            have ef : figs x = none := by unfold figs; rw [hd, Bool.and_false, if_neg Bool.false_ne_true]
            rw [ef] at q
            simp only [MM.wpq, wp_mkC, startM, Ty.nm, if_true, if_false, Nat.reduceAdd, Nat.reduceSub, reduceCtorEq, Bool.not_false]
            exact q _
          | true =>
            obtain ⟨n, en⟩ := intText_some h1 h2 fun c hc => of_decide_eq_true (List.all_eq_true.mp hd c hc)
            have ef : figs x = if decide ((⟨#[x.cps.getD 0 0]⟩ : PySem.Str) = "0") && decide (1 < x.length) then none else some n := by
              unfold figs
              rw [hd, decide_eq_true h1, decide_eq_true h2, Bool.and_self, Bool.and_self, if_pos rfl, en]
            simp only [MM.wpq, wp_mkC, startM, Ty.nm, if_true, if_false, Nat.reduceAdd, Nat.reduceSub, reduceCtorEq, Bool.not_true]
            have ei : ∀ h2, ixM (.str x) (.int 0) h2 = .ok (.str ⟨#[x.cps.getD 0 0]⟩) h2 := fun h2 => by
              unfold ixM; simp only [at0 h1, l', if_true]
            rw [wp_ok (ei _)]
            simp only [MM.wpq, wp_mkC, startM, Ty.nm, if_true, if_false, Nat.reduceAdd, Nat.reduceSub, reduceCtorEq, l']
            cases hz : decide ((⟨#[x.cps.getD 0 0]⟩ : PySem.Str) = "0") with
            | false =>
              rw [hz, Bool.false_and, if_neg Bool.false_ne_true] at ef
              rw [ef] at q
              simp only [MM.wpq, wp_mkC, startM, Ty.nm, if_true, if_false, Nat.reduceAdd, Nat.reduceSub, reduceCtorEq]
              rw [wp_intT en (by omega)]
              exact q _
            | true =>
              rw [hz, Bool.true_and] at ef
              simp only [MM.wpq, wp_mkC, startM, Ty.nm, if_true, if_false, Nat.reduceAdd, Nat.reduceSub, reduceCtorEq, e3]
              cases hy : decide (1 < x.length) with
              | true =>
                rw [hy, if_pos rfl] at ef
                rw [ef] at q
                simp only [MM.wpq, wp_mkC, startM, Ty.nm, if_true, if_false, Nat.reduceAdd, Nat.reduceSub, reduceCtorEq]
                exact q _
              | false =>
                rw [hy, if_neg Bool.false_ne_true] at ef
                rw [ef] at q
                simp only [MM.wpq, wp_mkC, startM, Ty.nm, if_true, if_false, Nat.reduceAdd, Nat.reduceSub, reduceCtorEq]
                rw [wp_intT en (by omega)]
                exact q _
        · rw [← mapM_bl, List.map_map]
          rfl
      · obtain ⟨ch, hc, rfl⟩ := List.mem_map.mp wm
        simp only [wipeM, MM.wpq, wp_mkC, startM, Ty.nm, if_true, if_false, Nat.reduceAdd, Nat.reduceSub, reduceCtorEq, wp_in_sign]
        exact fun _ => rfl
    · have ew : figs x = none := by unfold figs; rw [decide_eq_false h2, Bool.and_false, Bool.false_and, if_neg Bool.false_ne_true]
      simp only [h1, h2, decide_true, decide_false, MM.wpq, wp_mkC, startM, Ty.nm, if_true, if_false, Nat.reduceAdd, Nat.reduceSub, reduceCtorEq, Bool.not_false]
      rw [ew] at q0
      exact q0
  · have ew : figs x = none := by unfold figs; rw [decide_eq_false h1, Bool.false_and, Bool.false_and, if_neg Bool.false_ne_true]
    simp only [h1, decide_false, MM.wpq, wp_mkC, startM, Ty.nm, if_true, if_false, Nat.reduceAdd, Nat.reduceSub, reduceCtorEq, Bool.not_false]
    rw [ew] at q0
    exact q0

theorem wp_eBm {t : Wv → Hm → Bool} {f : FT} {o : EM} {a : AM} {ρ : MM.Env} : wpM (eBm t f o a ρ) h Q ↔ wpM (o ρ) h fun w h1 => t w h1 = true ∧ wpM (a ρ) h1 fun ws h2 => wpM (f w ws) h2 Q := by
  unfold eBm
  rw [wp_bind]
  constructor <;> intro z <;> refine wp_mono z fun w h1 q => ?_
  · unfold wpM at q
    cases e : t w h1 with
    | false => simp only [e, Bool.false_eq_true, if_false] at q; obtain ⟨_, _, z, _⟩ := q; cases z
    | true =>
      simp only [e, if_true] at q
      exact ⟨rfl, wp_bind.mp q⟩
  · obtain ⟨e, q⟩ := q
    have := wp_bind.mpr q
    unfold wpM at this ⊢
    simp only [e, if_true]
    exact this
theorem wp_sl_str {lo hi : Option Int} (l : x.length ≤ sizeLine) : wpM (slM (.str x) lo hi) h Q ↔ Q (.str (cutS x lo hi)) h := wp_ok (by show (if x.length ≤ sizeLine then M.pure (Wv.str (cutS x lo hi)) else M.no) h = _; rw [if_pos l]; rfl)
def whole (x : PySem.Str) : Option Int := if Txt.startswith x "-" = true then (match figs (cutS x (some 1) none) with | some n => if n ≠ 0 then some (-n) else none | none => none) else figs x
theorem wholeR_wp (l : x.length ≤ 1000000) (lc : (cutS x (some 1) none).length ≤ 1000000) (q : ∀ g, Q (oN (whole x)) (h ++ g)) : wpM (m_read_whole [.str x]) h Q := by
  have l' : x.length ≤ sizeLine := by rw [sizeLine_eq]; omega
  simp only [m_read_whole, MM.wpq, wp_mkC, startM, Ty.nm, if_true, if_false, Nat.reduceAdd, Nat.reduceSub, reduceCtorEq, wp_eBm, isStr, wp_sw]
  unfold whole at q
  cases hs : Txt.startswith x "-" with
  | false =>
    rw [hs, if_neg Bool.false_ne_true] at q
    simp only [MM.wpq, wp_mkC, startM, Ty.nm, if_true, if_false, Nat.reduceAdd, Nat.reduceSub, reduceCtorEq, Bool.not_false]
    exact figures_wp l q
  | true =>
    rw [hs, if_pos rfl] at q
    simp only [MM.wpq, wp_mkC, startM, Ty.nm, if_true, if_false, Nat.reduceAdd, Nat.reduceSub, reduceCtorEq, Bool.not_true]
    rw [wp_sl_str l']
    refine figures_wp lc fun g => ?_
    try simp only [MM.wpq, wp_mkC, startM, Ty.nm, if_true, if_false, Nat.reduceAdd, Nat.reduceSub, reduceCtorEq]
    cases hf : figs (cutS x (some 1) none) with
    | none => rw [hf] at q; simp only [oN, MM.wpq, wp_mkC, startM, Ty.nm, if_true, if_false, Nat.reduceAdd, Nat.reduceSub, reduceCtorEq]; exact q g
    | some n =>
      rw [hf] at q
      simp only [oN, MM.wpq, wp_mkC, startM, Ty.nm, if_true, if_false, Nat.reduceAdd, Nat.reduceSub, reduceCtorEq]
      by_cases z : n = 0
      · subst z; simp only [ne_eq, not_true_eq_false, if_false] at q; simp only [bne_self_eq_false, MM.wpq, wp_mkC, startM, Ty.nm, if_true, if_false, Nat.reduceAdd, Nat.reduceSub, reduceCtorEq]; exact q g
      · simp only [ne_eq, z, not_false_eq_true, if_true] at q
        rw [show (n != 0) = true from by simpa using z]
        simp only [MM.wpq, wp_mkC, startM, Ty.nm, if_true, if_false, Nat.reduceAdd, Nat.reduceSub, reduceCtorEq]
        exact q g

def rall (xs : List PySem.Str) : Option (List Int) := xs.mapM figs
theorem all_wp {i : Nat} {xs : List PySem.Str} (e : rdL h i = some (xs.map .str)) (few : xs.length ≤ 1000) (sm : ∀ x ∈ xs, x.length ≤ 1000000) (is : List Int) (er : rall xs = some is) (q : ∀ g, Q (.tup (is.map .int)) (h ++ g)) : wpM (m_read_all [.obj i, .glob "read_figures"]) h Q := by
  simp only [m_read_all, MM.wpq, wp_mkC, startM, Ty.nm, if_true, if_false, Nat.reduceAdd, Nat.reduceSub, reduceCtorEq]
  have es : srcOf (.obj i) h = .ok (sL (xs.map Wv.str).length i) h := by unfold srcOf; simp only [e]
  rw [wp_ok es]
  refine lc_ext (its := xs.map .str) (fun _ => true) (fun w => match w with | .str x => oN (figs x) | _ => .non) (fun k g => its_L e k g) rfl (by rw [List.length_map]; omega) (fun w wm g0 => ?_) fun g => ?_
  · obtain ⟨x, hx, rfl⟩ := List.mem_map.mp wm
    simp only [wipeM, MM.wpq, wp_mkC, startM, Ty.nm, if_true, if_false, Nat.reduceAdd, Nat.reduceSub, reduceCtorEq]
    refine ⟨g0, rfl, ?_⟩
    have cv : ∀ {h2 : Hm} {Q : Wv → Hm → Prop} {u v w : Option Wv}, wpM (m_read_figures [.str x]) h2 Q → wpM (eCallV [("read_figures", m_read_figures)] 1 (aCons (eVar 3) aNil) [u, some (.glob "read_figures"), v, some (.str x), w]) h2 Q := fun {h2 Q u v w} z => z
    refine ⟨g0, rfl, fun _ => cv (figures_wp (sm x hx) fun g1 => ?_)⟩
    exact ⟨g0 ++ g1, by rw [List.append_assoc], rfl⟩
  · have em : (List.filter (fun _ => true) (xs.map Wv.str)).map (fun w => match w with | .str x => oN (figs x) | _ => .non) = is.map Wv.int := by
      rw [List.filter_eq_self.mpr (fun _ _ => rfl), List.map_map]
      clear e few sm q es
      unfold rall at er
      induction xs generalizing is with
      | nil => cases er; rfl
      | cons x xs ih =>
        obtain ⟨n, ns, e1, e2, rfl⟩ := mapM_some er
        have e1 : figs x = some n := e1
        rw [List.map_cons, List.map_cons, ih ns e2]
        show oN (figs x) :: _ = _
        rw [e1]
        rfl
    rw [em]
    have ln : is.length = xs.length := by
      have := congrArg List.length em
      rw [List.length_map, List.length_map, List.filter_eq_self.mpr (fun _ _ => rfl), List.length_map] at this
      exact this.symm
    rw [wp_tupOf rdL_last]
    simp only [MM.wpq, wp_mkC, startM, Ty.nm, if_true, if_false, Nat.reduceAdd, Nat.reduceSub, reduceCtorEq]
    rw [lc_const (its := is.map .int) (fun _ => true) (fun _ => .bl false) (fun k => rfl) rfl (by rw [List.length_map]; omega) (fun w wm => ?_)]
    · rw [List.filter_eq_self.mpr (fun _ _ => rfl), List.map_map, wp_any (bs := is.map fun _ => false) rdL_last (by rw [← mapM_bl, List.map_map]; rfl)]
      have : (is.map fun _ => false).any id = false := by
        rw [List.any_map]
        exact List.any_eq_false.mpr fun x _ => by simp
      rw [this]
      simp only [MM.wpq, wp_mkC, startM, Ty.nm, if_true, if_false, Nat.reduceAdd, Nat.reduceSub, reduceCtorEq]
      rw [List.append_assoc, List.append_assoc]
      exact q _
    · obtain ⟨j, _, rfl⟩ := List.mem_map.mp wm
      simp only [wipeM, MM.wpq, wp_mkC, startM, Ty.nm, if_true, if_false, Nat.reduceAdd, Nat.reduceSub, reduceCtorEq]
      exact fun _ => trivial
def rpart (f x : PySem.Str) : Option Prt :=
  if f = "name" then some (.wd x)
  else if f = "worth" then (whole x).map .nm
  else if f = "places" then (rall (Txt.split x ",")).map .pl
  else (figs x).map .nm
def shortB (x : PySem.Str) : Bool := decide (x.length ≤ 1000) && decide ((cutS x (some 1) none).length ≤ 1000) && decide ((Txt.split x ",").length ≤ 64) && (Txt.split x ",").all fun y => decide (y.length ≤ 1000)
theorem rdpart_wp {p : Prt} (sh : shortB x = true) (e : rpart f x = some p) (q : ∀ g, Q (pW p) (h ++ g)) : wpM (m_read_part [.str x, .str f]) h Q := by
  unfold shortB at sh
  simp only [Bool.and_eq_true, decide_eq_true_eq, List.all_eq_true] at sh
  obtain ⟨⟨⟨s1, s2⟩, s3⟩, s4⟩ := sh
  have q0 := q []
  rw [List.append_nil] at q0
  unfold rpart at e
  simp only [m_read_part, MM.wpq, wp_mkC, startM, Ty.nm, if_true, if_false, Nat.reduceAdd, Nat.reduceSub, reduceCtorEq]
  by_cases e1 : f = "name"
  · rw [if_pos e1] at e
    cases e
    rw [decide_eq_true e1]
    simp only [MM.wpq, wp_mkC, startM, Ty.nm, if_true, if_false, Nat.reduceAdd, Nat.reduceSub, reduceCtorEq]
    exact q0
  rw [if_neg e1] at e
  rw [decide_eq_false e1]
  simp only [MM.wpq, wp_mkC, startM, Ty.nm, if_true, if_false, Nat.reduceAdd, Nat.reduceSub, reduceCtorEq]
  by_cases e2 : f = "worth"
  · rw [if_pos e2] at e
    obtain ⟨n, en, rfl⟩ := Option.map_eq_some_iff.mp e
    rw [decide_eq_true e2]
    simp only [MM.wpq, wp_mkC, startM, Ty.nm, if_true, if_false, Nat.reduceAdd, Nat.reduceSub, reduceCtorEq]
    refine wholeR_wp (by omega) (by omega) fun g => ?_
    rw [en]
    exact q g
  rw [if_neg e2] at e
  rw [decide_eq_false e2]
  simp only [MM.wpq, wp_mkC, startM, Ty.nm, if_true, if_false, Nat.reduceAdd, Nat.reduceSub, reduceCtorEq]
  by_cases e3 : f = "places"
  · rw [if_pos e3] at e
    obtain ⟨is, en, rfl⟩ := Option.map_eq_some_iff.mp e
    rw [decide_eq_true e3]
    simp only [MM.wpq, wp_mkC, startM, Ty.nm, if_true, if_false, Nat.reduceAdd, Nat.reduceSub, reduceCtorEq, wp_eBm, isStr]
    rw [wp_spl ⟨by decide +kernel, by omega⟩]
    refine all_wp rdL_last (by omega) (fun y hy => by have := s4 y hy; omega) is en fun g => ?_
    rw [List.append_assoc]
    exact q _
  rw [if_neg e3] at e
  obtain ⟨n, en, rfl⟩ := Option.map_eq_some_iff.mp e
  rw [decide_eq_false e3]
  simp only [MM.wpq, wp_mkC, startM, Ty.nm, if_true, if_false, Nat.reduceAdd, Nat.reduceSub, reduceCtorEq]
  refine figures_wp (by omega) fun g => ?_
  rw [en]
  exact q g
end
end TX

set_option maxRecDepth 100000
set_option maxHeartbeats 4000000

namespace TX
open PySem PySem.Spec PyProof.Rows L2 K01 MM GP SP SC SG
def readP : List PySem.Str → Option (List Prt)
  | w :: xs => match tab_FORMS.lookup w with
    | some fs => if xs.length = fs.length then (match (xs.zip fs).mapM fun z => rpart z.2 z.1 with | some r => if deedB (.wd w :: r) then some (.wd w :: r) else none | none => none) else none
    | none => none
  | [] => none
section
variable {h : Hm} {w : Wv} {x f : PySem.Str} {Q : Wv → Hm → Prop}
theorem lp_at {i : Nat} {xs ys : List Wv} (e : rdL h i = some xs) (k : Nat) (g : Hm) : (sLP i xs ys).at_ k (h ++ g) = some (pairsW xs ys)[k]? := by
  show (match rdL (h ++ g) i with | some xs' => if xs'.length = xs.length then some (pairsW xs' ys)[k]? else none | none => none) = _
  rw [rdL_app e g]
  simp only [if_true]
theorem pairs_txt (xs fs : List PySem.Str) : pairsW (xs.map .str) (fs.map .str) = (xs.zip fs).map fun z => .tup [.str z.1, .str z.2] := by
  unfold pairsW
  induction xs generalizing fs with
  | nil => rfl
  | cons p r ih =>
    cases fs with
    | nil => rfl
    | cons f fs => simp only [List.map_cons, List.zipWith_cons_cons, List.zip_cons_cons, ih]
theorem addTup {us vs : List Wv} (l : us.length + vs.length ≤ 1000000) : wpM (addM (.tup us) (.tup vs)) h Q ↔ Q (.tup (us ++ vs)) h := by
  have : addM (.tup us) (.tup vs) h = .ok (.tup (us ++ vs)) h := by
    show (if us.length + vs.length ≤ sizeLine then M.pure (Wv.tup (us ++ vs)) else M.no) h = _
    rw [if_pos (by rw [sizeLine_eq]; omega)]; rfl
  exact wp_ok this
theorem mapM_len {α β : Type} {f : α → Option β} : ∀ {xs : List α} {ys : List β}, xs.mapM f = some ys → ys.length = xs.length
  | [], ys, e => by cases e; rfl
  | x :: xs, ys, e => by
    obtain ⟨y, zs, _, e2, rfl⟩ := mapM_some e
    rw [List.length_cons, List.length_cons, mapM_len e2]
theorem mapM_at {α β : Type} {f : α → Option β} : ∀ {xs : List α} {ys : List β} {k : Nat} {x : α}, xs.mapM f = some ys → xs[k]? = some x → ∃ y, f x = some y ∧ ys[k]? = some y
  | [], ys, k, x, e, z => by simp at z
  | a :: xs, ys, 0, x, e, z => by
    obtain ⟨y, zs, e1, e2, rfl⟩ := mapM_some e
    cases z
    exact ⟨y, e1, rfl⟩
  | a :: xs, ys, k + 1, x, e, z => by
    obtain ⟨y, zs, e1, e2, rfl⟩ := mapM_some e
    rw [List.getElem?_cons_succ] at z ⊢
    exact mapM_at e2 z
theorem rddeed_wp {ps : List PySem.Str} {d : List Prt} (lx : x.length ≤ 1000000) (es : Txt.split x " " = ps) (few : ps.length ≤ 20) (e : readP ps = some d) (sh : ∀ y ∈ ps, shortB y = true) (ok : ∀ h, ∀ p ∈ d, POk h p) (q : ∀ g, Q (.tup (d.map pW)) (h ++ g)) : wpM (m_read_deed [.str x]) h Q := by
  cases ps with
  | nil => cases e
  | cons w xs =>
    unfold readP at e
    cases hf : tab_FORMS.lookup w with
    | none => simp only [hf] at e; cases e
    | some fs =>
      simp only [hf] at e
      by_cases hl : xs.length = fs.length
      · rw [if_pos hl] at e
        split at e
        · next r er =>
          by_cases hd : deedB (.wd w :: r) = true
          · rw [if_pos hd] at e
            cases e
            simp only [m_read_deed, MM.wpq, wp_mkC, startM, Ty.nm, if_true, if_false, Nat.reduceAdd, Nat.reduceSub, reduceCtorEq, wp_eBm, isStr]
            rw [wp_spl ⟨by decide +kernel, by omega⟩, es]
            have lw : xs.length ≤ 19 := by simp at few; omega
            rw [List.map_cons, wp_gR rdL_last (by rw [List.length_map]; omega)]
            simp only [MM.wpq, wp_mkC, startM, Ty.nm, if_true, if_false, Nat.reduceAdd, Nat.reduceSub, reduceCtorEq, wp_inG, hf, Option.isSome_some, bne_self_eq_false]
            have er0 := rdL_last (h := h ++ [Ob.lst (Wv.str w :: xs.map Wv.str)]) (ws := xs.map Wv.str)
            obtain ⟨g1, eg1⟩ : ∃ g1, h ++ [Ob.lst (Wv.str w :: xs.map Wv.str)] ++ [Ob.lst (xs.map Wv.str)] = h ++ g1 := ⟨_, List.append_assoc _ _ _⟩
            rw [eg1] at er0 ⊢
            generalize (h ++ [Ob.lst (Wv.str w :: xs.map Wv.str)]).length = i at er0 ⊢
            rw [wp_len_obj er0]
            simp only [MM.wpq, wp_mkC, startM, Ty.nm, if_true, if_false, Nat.reduceAdd, Nat.reduceSub, reduceCtorEq, wp_ixG hf, wp_len_ptp, List.length_map, hl]
            simp only [decide_true, Bool.not_true, MM.wpq, wp_mkC, startM, Ty.nm, if_true, if_false, Nat.reduceAdd, Nat.reduceSub, reduceCtorEq]
            refine ⟨by rw [sizeLine_eq]; omega, ?_⟩
            have ez : zipLt [.obj i, .ptp (fs.map .str)] (h ++ g1) = .ok (sLP i (xs.map .str) (fs.map .str)) (h ++ g1) := by unfold zipLt; simp only [er0]
            rw [wp_ok ez]
            have lz : (xs.zip fs).length = xs.length := by rw [List.length_zip, ← hl, Nat.min_self]
            have lr := mapM_len er
            refine lc_wp (its := (xs.zip fs).map fun z => .tup [.str z.1, .str z.2]) (fun k acc h1 => k ≤ (xs.zip fs).length ∧ (∃ g, h1 = h ++ g1 ++ g) ∧ acc = (r.take k).map pW) (fun k acc h1 z => ?_) (fun k acc h1 z => ?_) (fun k u acc h1 ek z => ?_) (fun acc h1 z => ?_) _ 0 [] _ (by show _ < (pairsW _ _).length + 1; rw [pairs_txt]; omega) (Nat.zero_le _) ⟨Nat.zero_le _, ⟨[], by simp⟩, rfl⟩
            · obtain ⟨_, ⟨g, rfl⟩, _⟩ := z
              rw [lp_at er0, pairs_txt]
            · rw [z.2.2, List.length_map, List.length_take, sizeLine_eq]; omega
            · obtain ⟨kl, ⟨g, rfl⟩, rfl⟩ := z
              rw [List.getElem?_map] at ek
              cases ez : (xs.zip fs)[k]? with
              | none => rw [ez] at ek; cases ek
              | some z =>
                rw [ez] at ek
                cases ek
                simp only [wipeM, MM.wpq, wp_mkC, startM, Ty.nm, if_true, if_false, Nat.reduceAdd, Nat.reduceSub, reduceCtorEq]
                obtain ⟨p, ep, epr⟩ := mapM_at er ez
                have zm := List.mem_of_getElem? ez
                refine rdpart_wp (sh _ (List.mem_cons_of_mem _ (List.of_mem_zip zm).1)) ep fun g2 => ?_
                refine ⟨(List.getElem?_eq_some_iff.mp ez).1, ⟨g ++ g2, by simp only [List.append_assoc]⟩, ?_⟩
                rw [List.take_succ, epr, List.map_append]
                rfl
            · obtain ⟨kl, ⟨g, rfl⟩, rfl⟩ := z
              rw [List.length_map, ← lr, List.take_length, wp_tupOf rdL_last, addTup (by simp; omega)]
              refine deed_wp (ps := .wd w :: r) (ok _) (by simp; omega) fun g3 => ?_
              rw [hd]
              simp only [MM.wpq, wp_mkC, startM, Ty.nm, if_true, if_false, Nat.reduceAdd, Nat.reduceSub, reduceCtorEq]
              rw [List.append_assoc, List.append_assoc, List.append_assoc]
              exact q _
          · rw [if_neg hd] at e; cases e
        · cases e
      · rw [if_neg hl] at e; cases e

def dW (d : List Prt) : Wv := .tup (d.map pW)
theorem tru_str (l : x.length ≤ sizeLine) (n : x.length ≠ 0) : wpM (truM (.str x)) h (fun b h1 => b = true ∧ h1 = h) := by
  refine ⟨true, h, ?_, rfl, rfl⟩
  show (if x.length ≤ sizeLine then Out.ok ((x.length : Int) != 0) h else .no) = _
  rw [if_pos l, show (((x.length : Nat) : Int) != 0) = true from by simp; omega]
theorem rdrows_wp {ds : List (List Prt)} {rows : List PySem.Str} (lx : x.length ≤ 1000000) (ne : x.length ≠ 0) (es : Txt.split x "\n" = rows) (few : rows.length ≤ 1000) (ln : ds.length = rows.length)
    (rd : ∀ (k : Nat) (y : PySem.Str) (d : List Prt), rows[k]? = some y → ds[k]? = some d → ∀ (h : Hm) (Q : Wv → Hm → Prop), (∀ g, Q (dW d) (h ++ g)) → wpM (m_read_deed [.str y]) h Q)
    (q : ∀ g i, rdL (h ++ g) i = some (ds.map dW) → Q (.obj i) (h ++ g)) : wpM (m_read_weaving [.str x]) h Q := by
  have l' : x.length ≤ sizeLine := by rw [sizeLine_eq]; omega
  simp only [m_read_weaving, m_read_rows, MM.wpq, wp_mkC, startM, Ty.nm, if_true, if_false, Nat.reduceAdd, Nat.reduceSub, reduceCtorEq, ty_str, Ty.sub, decide_true, Bool.true_or, Bool.not_true]
  refine wp_mono (tru_str l' ne) fun b h1 z => ?_
  obtain ⟨rfl, rfl⟩ := z
  simp only [MM.wpq, wp_mkC, startM, Ty.nm, if_true, if_false, Nat.reduceAdd, Nat.reduceSub, reduceCtorEq, wp_eBm, isStr]
  rw [wp_spl ⟨by decide +kernel, by omega⟩, es]
  have er := rdL_last (h := h1) (ws := rows.map Wv.str)
  have ez : srcOf (.obj h1.length) (h1 ++ [Ob.lst (rows.map Wv.str)]) = .ok (sL (rows.map Wv.str).length h1.length) (h1 ++ [Ob.lst (rows.map Wv.str)]) := by unfold srcOf; simp only [er]
  rw [wp_ok ez]
  generalize [Ob.lst (rows.map Wv.str)] = g1 at er ⊢
  generalize h1.length = i at er ⊢
  refine lc_wp (its := rows.map .str) (fun k acc h2 => k ≤ rows.length ∧ (∃ g, h2 = h1 ++ g1 ++ g) ∧ acc = (ds.take k).map dW) (fun k acc h2 z => ?_) (fun k acc h2 z => ?_) (fun k u acc h2 ek z => ?_) (fun acc h2 z => ?_) _ 0 [] _ (by show _ < (List.map _ _).length + 1; omega) (Nat.zero_le _) ⟨Nat.zero_le _, ⟨[], by simp⟩, rfl⟩
  · obtain ⟨_, ⟨g, rfl⟩, _⟩ := z
    exact its_L er k g
  · rw [z.2.2, List.length_map, List.length_take, sizeLine_eq]; omega
  · obtain ⟨kl, ⟨g, rfl⟩, rfl⟩ := z
    rw [List.getElem?_map] at ek
    cases ey : rows[k]? with
    | none => rw [ey] at ek; cases ek
    | some y =>
      rw [ey] at ek
      cases ek
      have kl := (List.getElem?_eq_some_iff.mp ey).1
      obtain ⟨d, ed⟩ : ∃ d, ds[k]? = some d := ⟨_, List.getElem?_eq_getElem (by omega)⟩
      simp only [wipeM, MM.wpq, wp_mkC, startM, Ty.nm, if_true, if_false, Nat.reduceAdd, Nat.reduceSub, reduceCtorEq]
      have cv : ∀ {h2 : Hm} {Q : Wv → Hm → Prop} {u v w t : Option Wv}, wpM (m_read_deed [.str y]) h2 Q → wpM (eCallV [("read_deed", m_read_deed)] 1 (aCons (eVar 5) aNil) [u, some (.glob "read_deed"), v, w, t, some (.str y)]) h2 Q := fun {h2 Q u v w t} z => z
      refine cv (rd k y d ey ed _ _ fun g2 => ?_)
      refine ⟨kl, ⟨g ++ g2, by simp only [List.append_assoc]⟩, ?_⟩
      rw [List.take_succ, ed, List.map_append]
      rfl
  · obtain ⟨_, ⟨g, rfl⟩, rfl⟩ := z
    rw [List.length_map, ← ln, List.take_length]
    simp only [wp_enum, MM.wpq, wp_mkC, startM, Ty.nm, if_true, if_false, Nat.reduceAdd, Nat.reduceSub, reduceCtorEq]
    have er2 := rdL_last (h := h1 ++ g1 ++ g) (ws := ds.map dW)
    refine wp_src_row (row_obj er2) fun s a c => ?_
    generalize [Ob.lst (ds.map dW)] = g3 at er2 a c ⊢
    generalize (h1 ++ g1 ++ g).length = j at er2 a c ⊢
    refine for_wp (its := enumL (ds.map dW)) (fun k ρ h2 => (∃ g4, h2 = h1 ++ g1 ++ g ++ g3 ++ g4) ∧ ∃ t y z, ρ = [some (.str x), some (.glob "read_deed"), some (.obj j), t, y, z]) (fun k ρ h2 z => ?_) (fun k u ρ h2 e z => ?_) (fun ρ h2 z => ?_) _ 0 _ _ (by rw [enumL_len]; show _ < s.cnt + 1; rw [a]; omega) (Nat.zero_le _) ⟨⟨[], by simp⟩, none, none, none, rfl⟩
    · obtain ⟨⟨g4, rfl⟩, _⟩ := z
      show (s.at_ k _).map _ = _
      rw [c, enum_at]
      rfl
    · obtain ⟨⟨g4, rfl⟩, t, y, z, rfl⟩ := z
      rw [enum_at, List.getElem?_map] at e
      cases em : ds[k]? with
      | none => rw [em] at e; cases e
      | some d =>
        rw [em] at e
        cases e
        simp only [MM.wpq, wp_mkC, startM, Ty.nm, if_true, if_false, Nat.reduceAdd, Nat.reduceSub, reduceCtorEq]
        have : ∀ h5, isNB false (dW d) .non h5 = .ok (.bl false) h5 := fun _ => rfl
        rw [wp_ok (this _)]
        simp only [MM.wpq, wp_mkC, startM, Ty.nm, if_true, if_false, Nat.reduceAdd, Nat.reduceSub, reduceCtorEq]
        exact ⟨⟨g4, rfl⟩, _, _, _, rfl⟩
    · obtain ⟨⟨g4, rfl⟩, t, y, z, rfl⟩ := z
      simp only [MM.wpq, wp_mkC, startM, Ty.nm, if_true, if_false, Nat.reduceAdd, Nat.reduceSub, reduceCtorEq]
      have := q (g1 ++ g ++ g3 ++ g4) j (by have := rdL_app er2 g4; simpa only [List.append_assoc] using this)
      simpa only [List.append_assoc] using this

def listT (is : List Int) : PySem.Str := Txt.join "," (is.map fun i => (toString i : PySem.Str))
def partT : Prt → PySem.Str
  | .wd x => x
  | .nm i => (toString i : PySem.Str)
  | .pl is => listT is
  | _ => ""
def dText (d : List Prt) : PySem.Str := Txt.join " " (d.map partT)
def wText (ds : List (List Prt)) : PySem.Str := Txt.join "\n" (ds.map dText)
def numB (i : Int) : Bool := decide (i.natAbs.log2 < 1920) && decide ((toString i : PySem.Str).length ≤ 100)
def showB : Prt → Bool
  | .wd x => decide (x.length ≤ 1000)
  | .nm i => numB i
  | .pl is => is.all numB && decide (is.length ≤ 64) && decide ((listT is).length ≤ 1000) && decide ((listT is).length ≠ 0)
  | _ => false
end
section
variable {h : Hm} {w : Wv} {x f : PySem.Str} {Q : Wv → Hm → Prop}
theorem wp_join {a : PySem.Str} {e : EM} {ρ : MM.Env} : wpM (eJoin (eC (.str a)) e ρ) h Q ↔ wpM (e ρ) h fun y h1 => wpM (joinW a y) h1 Q := by
  unfold eJoin
  rw [wp_bind, wp_c]
  simp only []
  rw [wp_bind]
theorem txts_mapM (ys : List PySem.Str) : (ys.map Wv.str).mapM txtW = some ys := by
  induction ys with
  | nil => rfl
  | cons y ys ih => rw [List.map_cons, List.mapM_cons, ih]; rfl
theorem wp_joinL {a : PySem.Str} {i : Nat} {ys : List PySem.Str} (e : rdL h i = some (ys.map .str)) (l : (ys.map (·.length)).sum + ys.length * a.length ≤ 16777216) : wpM (joinW a (.obj i)) h Q ↔ Q (.str (Txt.join a ys)) h := wp_ok (by
  unfold joinW
  rw [show dsq h (.obj i) = some (ys.map .str) from e]
  simp only [txts_mapM, l, if_true])
theorem sum_le {n : Nat} : ∀ {ys : List Nat}, (∀ y ∈ ys, y ≤ n) → ys.sum ≤ ys.length * n
  | [], _ => by simp
  | y :: ys, a => by
    rw [List.sum_cons, List.length_cons, Nat.succ_mul]
    have := sum_le (ys := ys) fun z hz => a z (List.mem_cons_of_mem _ hz)
    have := a y List.mem_cons_self
    omega
theorem small_join {a : PySem.Str} {ys : List PySem.Str} {n : Nat} (few : ys.length ≤ 1000) (sm : ∀ y ∈ ys, y.length ≤ 10000) (la : a.length = 1) : (ys.map (·.length)).sum + ys.length * a.length ≤ 16777216 := by
  have := sum_le (n := 10000) (ys := ys.map (·.length)) fun y hy => by
    obtain ⟨z, hz, rfl⟩ := List.mem_map.mp hy
    exact sm z hz
  rw [List.length_map] at this
  rw [la]
  omega
theorem comma1 : (("," : PySem.Str)).length = 1 ∧ ((" " : PySem.Str)).length = 1 ∧ (("\n" : PySem.Str)).length = 1 := by decide +kernel
theorem nums_wp {is : List Int} {vs : List Nat} {g : GM} {e : EM} {ρ : MM.Env} {P : List Wv → Hm → Prop} (ok : is.all numB = true) (few : is.length ≤ 64)
    (step : ∀ (i : Int) (h2 : Hm) (Q : Wv → Hm → Prop), wpM (strA [.int i]) h2 Q → wpM (g (.int i) (wipeM ρ vs)) h2 fun ρ1 h3 => wpM (e ρ1) h3 Q) (q : P (is.map fun i => .str (toString i : PySem.Str)) h) :
    wpM (lcM (sT (is.map .int)) vs g tYesM e ρ ((is.map Wv.int).length + 1) 0 []) h P := by
  refine lc_wp (its := is.map .int) (fun k acc h2 => h2 = h ∧ k ≤ is.length ∧ acc = (is.take k).map fun i => .str (toString i : PySem.Str)) (fun k acc h2 z => rfl) (fun k acc h2 z => ?_) (fun k u acc h2 ek z => ?_) (fun acc h2 z => ?_) _ 0 [] _ (by omega) (Nat.zero_le _) ⟨rfl, Nat.zero_le _, rfl⟩
  · rw [z.2.2, List.length_map, List.length_take, sizeLine_eq]; omega
  · obtain ⟨rfl, kl, rfl⟩ := z
    rw [List.getElem?_map] at ek
    cases ey : is[k]? with
    | none => rw [ey] at ek; cases ek
    | some i =>
      rw [ey] at ek
      cases ek
      have oi := List.all_eq_true.mp ok i (List.mem_of_getElem? ey)
      unfold numB at oi
      rw [Bool.and_eq_true, decide_eq_true_eq, decide_eq_true_eq] at oi
      have hs := step i h2 (fun y h3 => h3 = h2 ∧ k + 1 ≤ is.length ∧ ((is.take k).map fun i => .str (toString i : PySem.Str)) ++ [y] = (is.take (k + 1)).map fun i => .str (toString i : PySem.Str)) ((wp_strA_i oi.1).mpr ⟨rfl, (List.getElem?_eq_some_iff.mp ey).1, by rw [List.take_succ, ey, List.map_append]; rfl⟩)
      refine wp_mono hs fun ρ1 h3 z => ?_
      rw [wp_tYes, if_pos rfl]
      exact z
  · obtain ⟨rfl, _, rfl⟩ := z
    rw [List.length_map, List.take_length]
    exact q
theorem listT_wp {is : List Int} {i : Nat} (e : rdL h i = some (is.map fun i => .str (toString i : PySem.Str))) (ok : is.all numB = true) (few : is.length ≤ 64) : wpM (joinW "," (.obj i)) h Q ↔ Q (.str (listT is)) h := by
  have e' : rdL h i = some ((is.map fun i => (toString i : PySem.Str)).map .str) := by rw [e, List.map_map]; rfl
  refine wp_joinL e' (small_join (n := 0) (by rw [List.length_map]; omega) (fun y hy => ?_) comma1.1)
  obtain ⟨j, hj, rfl⟩ := List.mem_map.mp hy
  have oi := List.all_eq_true.mp ok j hj
  unfold numB at oi
  rw [Bool.and_eq_true, decide_eq_true_eq, decide_eq_true_eq] at oi
  omega
theorem shpart_wp {p : Prt} (sb : showB p = true) (q : ∀ g, Q (.str (partT p)) (h ++ g)) : wpM (m_show_part [pW p]) h Q := by
  have q0 := q []
  rw [List.append_nil] at q0
  simp only [m_show_part, MM.wpq, wp_mkC, startM, Ty.nm, if_true, if_false, Nat.reduceAdd, Nat.reduceSub, reduceCtorEq]
  cases p with
  | wd x =>
    simp only [pW, ty_str, Ty.sub]
    refine ⟨_, rfl, ?_⟩
    simp
    exact wp_strA_s.mpr q0
  | nm i =>
    have oi : numB i = true := sb
    unfold numB at oi
    rw [Bool.and_eq_true, decide_eq_true_eq, decide_eq_true_eq] at oi
    simp only [pW, ty_int, Ty.sub]
    refine ⟨_, rfl, ?_⟩
    simp
    exact (wp_strA_i oi.1).mpr q0
  | pl is =>
    have sb : (is.all numB && decide (is.length ≤ 64) && decide ((listT is).length ≤ 1000) && decide ((listT is).length ≠ 0)) = true := sb
    simp only [Bool.and_eq_true, decide_eq_true_eq] at sb
    obtain ⟨⟨⟨s1, s2⟩, s3⟩, s4⟩ := sb
    simp only [pW, ty_tup, Ty.sub]
    refine ⟨_, rfl, ?_⟩
    simp only [decide_true, Bool.true_or, MM.wpq, wp_mkC, startM, Ty.nm, if_true, if_false, Nat.reduceAdd, Nat.reduceSub, reduceCtorEq]
    refine nums_wp s1 s2 (fun i h2 Q w => ?_) ?_
    · simp only [wipeM, MM.wpq, wp_mkC, startM, Ty.nm, if_true, if_false, Nat.reduceAdd, Nat.reduceSub, reduceCtorEq]; exact w
    · simp only [m_show_listed, MM.wpq, wp_mkC, startM, Ty.nm, if_true, if_false, Nat.reduceAdd, Nat.reduceSub, reduceCtorEq, wp_orT, wp_join]
      rw [listT_wp rdL_last s1 s2]
      refine wp_mono (tru_str (by rw [sizeLine_eq]; omega) s4) fun b h1 z => ?_
      obtain ⟨rfl, rfl⟩ := z
      simp only [MM.wpq, wp_mkC, startM, Ty.nm, if_true, if_false, Nat.reduceAdd, Nat.reduceSub, reduceCtorEq]
      exact q _
  | bo b => cases sb
  | ls i => cases sb
def dShow (d : List Prt) : Bool := d.all showB && decide (d.length ≤ 20) && decide ((dText d).length ≤ 1000)
theorem partT_len {p : Prt} (sb : showB p = true) : (partT p).length ≤ 1000 := by
  cases p with
  | wd x => exact of_decide_eq_true sb
  | nm i =>
    have oi : numB i = true := sb
    unfold numB at oi
    rw [Bool.and_eq_true, decide_eq_true_eq, decide_eq_true_eq] at oi
    show (toString i : PySem.Str).length ≤ 1000
    omega
  | pl is =>
    have sb : (is.all numB && decide (is.length ≤ 64) && decide ((listT is).length ≤ 1000) && decide ((listT is).length ≠ 0)) = true := sb
    simp only [Bool.and_eq_true, decide_eq_true_eq] at sb
    exact sb.1.2
  | bo b => cases sb
  | ls i => cases sb
theorem shdeed_wp {d : List Prt} (sb : dShow d = true) (q : ∀ g, Q (.str (dText d)) (h ++ g)) : wpM (m_show_deed [dW d]) h Q := by
  unfold dShow at sb
  simp only [Bool.and_eq_true, decide_eq_true_eq] at sb
  obtain ⟨⟨s1, s2⟩, s3⟩ := sb
  simp only [m_show_deed, MM.wpq, wp_mkC, startM, Ty.nm, if_true, if_false, Nat.reduceAdd, Nat.reduceSub, reduceCtorEq, wp_join, dW]
  refine lc_wp (its := d.map pW) (fun k acc h2 => (∃ g, h2 = h ++ g) ∧ k ≤ d.length ∧ acc = (d.take k).map fun p => .str (partT p)) (fun k acc h2 z => rfl) (fun k acc h2 z => ?_) (fun k u acc h2 ek z => ?_) (fun acc h2 z => ?_) _ 0 [] _ (by show _ < (List.map _ _).length + 1; omega) (Nat.zero_le _) ⟨⟨[], by simp⟩, Nat.zero_le _, rfl⟩
  · rw [z.2.2, List.length_map, List.length_take, sizeLine_eq]; omega
  · obtain ⟨⟨g, rfl⟩, kl, rfl⟩ := z
    rw [List.getElem?_map] at ek
    cases ey : d[k]? with
    | none => rw [ey] at ek; cases ek
    | some p =>
      rw [ey] at ek
      cases ek
      simp only [wipeM, MM.wpq, wp_mkC, startM, Ty.nm, if_true, if_false, Nat.reduceAdd, Nat.reduceSub, reduceCtorEq]
      refine shpart_wp (List.all_eq_true.mp s1 p (List.mem_of_getElem? ey)) fun g2 => ?_
      refine ⟨⟨g ++ g2, by simp only [List.append_assoc]⟩, (List.getElem?_eq_some_iff.mp ey).1, ?_⟩
      rw [List.take_succ, ey, List.map_append]
      rfl
  · obtain ⟨⟨g, rfl⟩, _, rfl⟩ := z
    rw [List.length_map, List.take_length]
    have e' := rdL_last (h := h ++ g) (ws := d.map fun p => .str (partT p))
    rw [show (d.map fun p => Wv.str (partT p)) = (d.map partT).map .str from by rw [List.map_map]; rfl] at e' ⊢
    rw [wp_joinL e' (small_join (n := 0) (by rw [List.length_map]; omega) (fun y hy => by
      obtain ⟨p, hp, rfl⟩ := List.mem_map.mp hy
      have := partT_len (List.all_eq_true.mp s1 p hp)
      omega) comma1.2.1), List.append_assoc]
    exact q _
def dGood (d : List Prt) : Bool := deedB d && dShow d
theorem pok_of {d : List Prt} (s : dShow d = true) (h : Hm) : ∀ p ∈ d, POk h p := fun p hp => by
  unfold dShow at s
  simp only [Bool.and_eq_true] at s
  have sb := List.all_eq_true.mp s.1.1 p hp
  cases p with
  | wd x => exact of_decide_eq_true (p := x.length ≤ 1000) sb
  | nm i => trivial
  | pl is =>
    have sb : (is.all numB && decide (is.length ≤ 64) && decide ((listT is).length ≤ 1000) && decide ((listT is).length ≠ 0)) = true := sb
    simp only [Bool.and_eq_true, decide_eq_true_eq] at sb
    exact sb.1.1.2
  | bo b => cases sb
  | ls i => cases sb
end
end TX

set_option maxRecDepth 100000
set_option maxHeartbeats 4000000

namespace TX
open PySem PySem.Spec PyProof.Rows L2 K01 MM GP SP SC SG
section
variable {h : Hm} {i : Nat} {w : Wv} {ds : List (List Prt)} {rest : List Wv} {Q : Wv → Hm → Prop} {R : Ex → Hm → Prop}
def NoDd (h : Hm) (w : Wv) : Prop := ∀ (g : Hm) (Q : Wv → Hm → Prop), (∀ g', Q (.bl false) (h ++ g ++ g')) → wpM (m_is_deed [w]) (h ++ g) Q
theorem rdOf {ws : List Wv} (e : h[i]? = some (.lst ws)) : rdL h i = some ws := by unfold rdL; simp only [e]
theorem lst_ty {ws : List Wv} (e : h[i]? = some (.lst ws)) : tyW h (.obj i) = some .lst := by unfold tyW; simp only [e]
theorem isd_good {d : List Prt} (g : dGood d = true) (q : ∀ g, Q (.bl true) (h ++ g)) : wpM (m_is_deed [dW d]) h Q := by
  unfold dGood at g
  rw [Bool.and_eq_true] at g
  have l : d.length ≤ 20 := by
    have := g.2
    unfold dShow at this
    simp only [Bool.and_eq_true, decide_eq_true_eq] at this
    exact this.1.2
  refine deed_wp (pok_of g.2 h) l fun g' => ?_
  rw [g.1]
  exact q g'
theorem look_ok (e : h[i]? = some (.lst (ds.map dW))) (ok : ∀ d ∈ ds, dGood d = true) (q : ∀ g, Q .non (h ++ g)) : wpM (m_look_at_weaving [.obj i]) h Q := by
  simp only [m_look_at_weaving, MM.wpq, startM, Ty.nm, if_true, if_false, Nat.reduceAdd, Nat.reduceSub, reduceCtorEq, lst_ty e, Ty.sub, decide_true, Bool.true_or, Bool.not_true, wp_enum]
  refine wp_src_row (row_obj (rdOf e)) fun s a c => ?_
  refine for_wp (its := enumL (ds.map dW)) (fun k ρ h2 => (∃ g, h2 = h ++ g) ∧ ∃ y z, ρ = [some (.obj i), y, z]) (fun k ρ h2 z => ?_) (fun k u ρ h2 ek z => ?_) (fun ρ h2 z => ?_) _ 0 _ _ (by rw [enumL_len]; show _ < s.cnt + 1; rw [a]; omega) (Nat.zero_le _) ⟨⟨[], by simp⟩, none, none, rfl⟩
  · obtain ⟨⟨g, rfl⟩, _⟩ := z
    show (s.at_ k _).map _ = _
    rw [c, enum_at]
    rfl
  · obtain ⟨⟨g, rfl⟩, y, z, rfl⟩ := z
    rw [enum_at, List.getElem?_map] at ek
    cases em : ds[k]? with
    | none => rw [em] at ek; cases ek
    | some d =>
      rw [em] at ek
      cases ek
      simp only [MM.wpq, startM, Ty.nm, if_true, if_false, Nat.reduceAdd, Nat.reduceSub, reduceCtorEq]
      refine isd_good (ok d (List.mem_of_getElem? em)) fun g2 => ?_
      simp only [MM.wpq, startM, Ty.nm, if_true, if_false, Nat.reduceAdd, Nat.reduceSub, reduceCtorEq, Bool.not_true]
      exact ⟨⟨g ++ g2, by simp only [List.append_assoc]⟩, _, _, rfl⟩
  · obtain ⟨⟨g, rfl⟩, y, z, rfl⟩ := z
    try simp only [MM.wpq, startM, Ty.nm, if_true, if_false, Nat.reduceAdd, Nat.reduceSub, reduceCtorEq]
    exact q g
theorem xlook_kind {t : Ty} (e : tyW h w = some t) (n : t ≠ .lst) (q : R ⟨"NoDeed", some h.length⟩ (h ++ [.xd [("number", .non)]])) : wpB (x_look_at_weaving [w]) h Q R := by
  have : t.sub .lst = false := by cases t <;> first | rfl | exact absurd rfl n
  simp only [x_look_at_weaving, MM.wpx, MM.wpq, startM, Ty.nm, if_true, if_false, Nat.reduceAdd, Nat.reduceSub, reduceCtorEq, e, this, Bool.not_false]
  exact q
theorem xlook_at (e : h[i]? = some (.lst (ds.map dW ++ w :: rest))) (ok : ∀ d ∈ ds, dGood d = true) (no : NoDd h w) (q : ∀ g, R ⟨"NoDeed", some (h ++ g).length⟩ (h ++ g ++ [.xd [("number", .int ds.length)]])) : wpB (x_look_at_weaving [.obj i]) h Q R := by
  have ln : (ds.map dW ++ w :: rest).length = ds.length + 1 + rest.length := by simp; omega
  simp only [x_look_at_weaving, MM.wpx, MM.wpq, startM, Ty.nm, if_true, if_false, Nat.reduceAdd, Nat.reduceSub, reduceCtorEq, lst_ty e, Ty.sub, decide_true, Bool.true_or, Bool.not_true, wp_enum]
  refine wp_src_row (row_obj (rdOf e)) fun s a c => ?_
  refine for_wp (its := enumL (ds.map dW ++ w :: rest)) (fun k ρ h2 => k ≤ ds.length ∧ (∃ g, h2 = h ++ g) ∧ ∃ y z, ρ = [some (.obj i), y, z]) (fun k ρ h2 z => ?_) (fun k u ρ h2 ek z => ?_) (fun ρ h2 z => ?_) _ 0 _ _ (by rw [enumL_len]; show _ < s.cnt + 1; rw [a]; omega) (Nat.zero_le _) ⟨Nat.zero_le _, ⟨[], by simp⟩, none, none, rfl⟩
  · obtain ⟨_, ⟨g, rfl⟩, _⟩ := z
    show (s.at_ k _).map _ = _
    rw [c, enum_at]
    rfl
  · obtain ⟨kl, ⟨g, rfl⟩, y, z, rfl⟩ := z
    rw [enum_at] at ek
    rcases Nat.lt_or_eq_of_le kl with kl | rfl
    · obtain ⟨d, em⟩ : ∃ d, ds[k]? = some d := ⟨_, List.getElem?_eq_getElem kl⟩
      rw [List.getElem?_append_left (by rw [List.length_map]; exact kl), List.getElem?_map, em] at ek
      cases ek
      simp only [MM.wpx, MM.wpq, startM, Ty.nm, if_true, if_false, Nat.reduceAdd, Nat.reduceSub, reduceCtorEq]
      refine isd_good (ok d (List.mem_of_getElem? em)) fun g2 => ?_
      simp only [MM.wpx, MM.wpq, startM, Ty.nm, if_true, if_false, Nat.reduceAdd, Nat.reduceSub, reduceCtorEq, Bool.not_true]
      exact ⟨kl, ⟨g ++ g2, by simp only [List.append_assoc]⟩, _, _, rfl⟩
    · rw [List.getElem?_append_right (by rw [List.length_map]; exact Nat.le_refl _), List.length_map, Nat.sub_self] at ek
      cases ek
      simp only [MM.wpx, MM.wpq, startM, Ty.nm, if_true, if_false, Nat.reduceAdd, Nat.reduceSub, reduceCtorEq]
      refine no g _ fun g2 => ?_
      simp only [MM.wpx, MM.wpq, startM, Ty.nm, if_true, if_false, Nat.reduceAdd, Nat.reduceSub, reduceCtorEq, Bool.not_false]
      rw [List.append_assoc]
      exact q _
  · obtain ⟨kl, _⟩ := z
    rw [enumL_len, ln] at kl
    omega
theorem dText_len {d : List Prt} (g : dGood d = true) : (dText d).length ≤ 1000 := by
  unfold dGood dShow at g
  simp only [Bool.and_eq_true, decide_eq_true_eq] at g
  exact g.2.2
theorem show_ok (e : h[i]? = some (.lst (ds.map dW))) (few : ds.length ≤ 500) (ok : ∀ d ∈ ds, dGood d = true) (q : ∀ g, Q (.str (wText ds)) (h ++ g)) : wpM (m_show_weaving [.obj i]) h Q := by
  simp only [m_show_weaving, MM.wpq, startM, Ty.nm, if_true, if_false, Nat.reduceAdd, Nat.reduceSub, reduceCtorEq, wp_join]
  refine look_ok e ok fun g => ?_
  have er := rdL_app (rdOf e) g
  try simp only [MM.wpq, startM, Ty.nm, if_true, if_false, Nat.reduceAdd, Nat.reduceSub, reduceCtorEq]
  have ez : srcOf (.obj i) (h ++ g) = .ok (sL (ds.map dW).length i) (h ++ g) := by unfold srcOf; simp only [er]
  rw [wp_ok ez]
  refine lc_wp (its := ds.map dW) (fun k acc h2 => (∃ g2, h2 = h ++ g ++ g2) ∧ k ≤ ds.length ∧ acc = (ds.take k).map fun p => .str (dText p)) (fun k acc h2 z => ?_) (fun k acc h2 z => ?_) (fun k u acc h2 ek z => ?_) (fun acc h2 z => ?_) _ 0 [] _ (by show _ < (List.map _ _).length + 1; omega) (Nat.zero_le _) ⟨⟨[], by simp⟩, Nat.zero_le _, rfl⟩
  · obtain ⟨⟨g2, rfl⟩, _⟩ := z
    exact its_L er k g2
  · rw [z.2.2, List.length_map, List.length_take, sizeLine_eq]; omega
  · obtain ⟨⟨g2, rfl⟩, kl, rfl⟩ := z
    rw [List.getElem?_map] at ek
    cases ey : ds[k]? with
    | none => rw [ey] at ek; cases ek
    | some p =>
      rw [ey] at ek
      cases ek
      simp only [wipeM, MM.wpq, startM, Ty.nm, if_true, if_false, Nat.reduceAdd, Nat.reduceSub, reduceCtorEq]
      have gd := ok p (List.mem_of_getElem? ey)
      unfold dGood at gd
      rw [Bool.and_eq_true] at gd
      refine shdeed_wp gd.2 fun g3 => ?_
      refine ⟨⟨g2 ++ g3, by simp only [List.append_assoc]⟩, (List.getElem?_eq_some_iff.mp ey).1, ?_⟩
      rw [List.take_succ, ey, List.map_append]
      rfl
  · obtain ⟨⟨g2, rfl⟩, _, rfl⟩ := z
    rw [List.length_map, List.take_length]
    have e' := rdL_last (h := h ++ g ++ g2) (ws := ds.map fun p => .str (dText p))
    rw [show (ds.map fun p => Wv.str (dText p)) = (ds.map dText).map .str from by rw [List.map_map]; rfl] at e' ⊢
    rw [wp_joinL e' (small_join (n := 0) (by rw [List.length_map]; omega) (fun y hy => by
      obtain ⟨p, hp, rfl⟩ := List.mem_map.mp hy
      have := dText_len (ok p hp)
      omega) comma1.2.2), List.append_assoc, List.append_assoc]
    exact q _
theorem xshow_kind {t : Ty} (e : tyW h w = some t) (n : t ≠ .lst) (q : R ⟨"NoDeed", some h.length⟩ (h ++ [.xd [("number", .non)]])) : wpB (x_show_weaving [w]) h Q R := by
  simp only [x_show_weaving, MM.wpx, MM.wpq, startM, Ty.nm, if_true, if_false, Nat.reduceAdd, Nat.reduceSub, reduceCtorEq]
  refine xlook_kind e n ?_
  exact q
theorem xshow_at (e : h[i]? = some (.lst (ds.map dW ++ w :: rest))) (ok : ∀ d ∈ ds, dGood d = true) (no : NoDd h w) (q : ∀ g, R ⟨"NoDeed", some (h ++ g).length⟩ (h ++ g ++ [.xd [("number", .int ds.length)]])) : wpB (x_show_weaving [.obj i]) h Q R := by
  simp only [x_show_weaving, MM.wpx, MM.wpq, startM, Ty.nm, if_true, if_false, Nat.reduceAdd, Nat.reduceSub, reduceCtorEq]
  refine xlook_at e ok no fun g => ?_
  exact q g
end
end TX

set_option maxRecDepth 100000
set_option maxHeartbeats 4000000

namespace SC
open PySem PySem.Spec PyProof.Rows L2 K01 MM GP SP SG
section
variable {κ : Type} [DecidableEq κ]
def putAll (kvs : List (κ × Wv)) (ps : List (κ × Wv)) : List (κ × Wv) := ps.foldl (fun a p => putKW a p.1 p.2) kvs
end

section
variable {h : Hm} {ρ : MM.Env}
end
end SC

set_option maxRecDepth 100000
set_option maxHeartbeats 4000000

namespace SC
open PySem PySem.Spec PyProof.Rows L2 K01 MM GP SP SG
instance memDk (k : List Key) (ks : List (List Key)) : Decidable (k ∈ ks) :=
  @List.instDecidableMemOfLawfulBEq (List Key) instBEqOfDecidableEq inferInstance k ks
structure Ver where
  d : MM.DK
  k : List MM.DK
  w : Wv
def vW (v : Ver) : Wv := .tup [tupK v.d, kn v.k, v.w]
structure GV (v : Ver) : Prop where
  d : GD v.d
  k : GK v.k
  w : worthB v.w = true
  out : v.d ∉ v.k
def verOf : Wv → Option Ver
  | .tup [a, b, c] => (dotOf a).bind fun d => (knownOf b).bind fun ks => if worthB c = true ∧ d ∉ ks then some ⟨d, ks, c⟩ else none
  | _ => none
section
variable {h : Hm} {w a b c : Wv} {n : Nat} {ks : List MM.DK} {Q : Wv → Hm → Prop} {R : Ex → Hm → Prop}

def knAll (vs : List Ver) : List MM.DK := vs.flatMap (·.k)
def knW (vs : List Ver) : List (MM.DK × Wv) := putAll [] ((knAll vs).map fun k => (k, Wv.bl true))
def kOfW : Wv → List Wv
  | .tup [_, .tup ks, _] => ks
  | _ => []
end
end SC

set_option maxRecDepth 100000
set_option maxHeartbeats 4000000

namespace SC
open PySem PySem.Spec PyProof.Rows L2 K01 MM GP SP SG
theorem draw_is : m__law_draw = m__law_take := rfl
structure Gp (p : Nat) (h h' : Hm) : Prop where
  kx : Kx [p] h h'
  po : SP.Pool h' p
section
variable {h h' h1 h2 : Hm} {p j : Nat} {o : Ob}
theorem Gp.of (P : SP.Pool h p) : Gp p h h := ⟨.rfl', P⟩
theorem Gp.app (a : Gp p h h') (g : Hm) : Gp p h (h' ++ g) := by
  obtain ⟨x, y, e⟩ := a.po
  exact ⟨a.kx.app g, x, y, at_app e g⟩
theorem Gp.trans (a : Gp p h h1) (b : Gp p h1 h2) : Gp p h h2 := ⟨a.kx.trans b.kx, b.po⟩
theorem Gp.get (a : Gp p h h1) (e : h[j]? = some o) (n : j ≠ p) : h1[j]? = some o := a.kx.get e (by simpa using n)
theorem Gp.rd {ws : List Wv} (a : Gp p h h1) (e : rdL h j = some ws) (n : j ≠ p) : rdL h1 j = some ws := by
  unfold rdL at e ⊢
  split at e <;> first | (next q => rw [a.get q n]; exact e) | cases e
theorem Gp.put (a : Gp p h h1) (o : Ob) (l : h.length ≤ j) (n : j ≠ p) : Gp p h (h1.set j o) := by
  obtain ⟨x, y, e⟩ := a.po
  exact ⟨a.kx.set (.inr l), x, y, by rw [List.getElem?_set_ne n]; exact e⟩
theorem pool_lt (P : SP.Pool h p) : p < h.length := by
  obtain ⟨x, y, e⟩ := P
  exact (List.getElem?_eq_some_iff.mp e).1
theorem draw_wp {n : Int} {Q : Wv → Hm → Prop} (P : SP.Pool h p) (n0 : 0 < n) (n1 : n.natAbs < 2 ^ 64) (q : ∀ d h', Gp p h h' → 0 ≤ d → d < n → Q (.int d) h') : wpM (m__law_draw [.obj p, .int n]) h Q := by
  rw [draw_is]
  refine take_wp P n0 n1 fun d a b d0 d1 => q d _ ⟨Kx.rfl'.set (.inl (by simp)), ?_⟩ d0 d1
  obtain ⟨x, y, e⟩ := P
  exact ⟨a, b, List.getElem?_set_self (List.getElem?_eq_some_iff.mp e).1⟩
end
theorem lst_of {h : Hm} {i : Nat} {ws : List Wv} (e : h[i]? = some (.lst ws)) : lstOf h i = some ws := by unfold lstOf; simp only [e]
theorem rd_of {h : Hm} {i : Nat} {ws : List Wv} (e : h[i]? = some (.lst ws)) : rdL h i = some ws := by unfold rdL; simp only [e]
def SD (k : MM.DK) : Prop := ∃ (n : Int) (x : PySem.Str) (l : Int), k = [.inl n, .inr x, .inl l] ∧ 1 ≤ n ∧ n ≤ 5 ∧ x ∈ (["a", "b", "c"] : List PySem.Str) ∧ 1 ≤ l ∧ l ≤ 2
theorem abc_ok : ∀ x ∈ (["a", "b", "c"] : List PySem.Str), wordOk x = true := by decide +kernel
theorem SD.gd {k : MM.DK} (u : SD k) : GD k := by
  obtain ⟨n, x, l, rfl, a, b, c, d, e⟩ := u
  exact ⟨n, x, l, rfl, a, by omega, abc_ok x c, d⟩
def U30 : List MM.DK := (List.range 5).flatMap fun (n : Nat) => (["a", "b", "c"] : List PySem.Str).flatMap fun x => (List.range 2).map fun (l : Nat) => [Sum.inl ((1 : Int) + (n : Int)), Sum.inr x, Sum.inl ((1 : Int) + (l : Int))]
theorem SD.mem {k : MM.DK} (u : SD k) : k ∈ U30 := by
  obtain ⟨n, x, l, rfl, a, b, c, d, e⟩ := u
  unfold U30
  rw [List.mem_flatMap]
  refine ⟨(n - 1).toNat, List.mem_range.mpr (by omega), ?_⟩
  rw [List.mem_flatMap]
  refine ⟨x, c, List.mem_map.mpr ⟨(l - 1).toNat, List.mem_range.mpr (by omega), ?_⟩⟩
  rw [show ((1 : Int) + ((n - 1).toNat : Int)) = n by omega, show ((1 : Int) + ((l - 1).toNat : Int)) = l by omega]
theorem few30 {ks : List MM.DK} (a : Asc ks) (u : ∀ k ∈ ks, SD k) : ks.length ≤ 30 := by
  have l30 : U30.length = 30 := by decide +kernel
  rcases Nat.lt_or_ge 30 ks.length with l | l
  · have := (RQ.nodup_perm (asc_nodup a) (fun k hk => (u k hk).mem) (by omega)).length_eq
    omega
  · exact l
section
variable {h : Hm} {p : Nat} {Q : Wv → Hm → Prop}
theorem its_rng {n : Nat} (k : Nat) (h : Hm) : (sR 0 n).at_ k h = some ((List.range n).map fun (k : Nat) => Wv.int (0 + k))[k]? := by
  have := its_R (lo := 0) (n := n) (h := h) k []
  rwa [List.append_nil] at this
end
end SC

set_option maxRecDepth 100000
set_option maxHeartbeats 4000000

namespace SC
open PySem PySem.Spec PyProof.Rows L2 K01 MM GP SP SG
def numD : MM.DK → Int
  | .inl n :: _ => n
  | _ => 0
def numW : Wv → Int
  | .tup (.int n :: _) => n
  | _ => 0
def five : List Wv := [.int 3, .int (-1), .int 0, .tup [.str "gone", .int 2], .tup [.str "gone", .int 7]]
structure SV (v : Ver) : Prop where
  d : SD v.d
  asc : Asc v.k
  k : ∀ k ∈ v.k, SD k
  lt : ∀ k ∈ v.k, numD k < numD v.d
  w : v.w ∈ five
theorem SV.few {v : Ver} (s : SV v) : v.k.length ≤ 30 := few30 s.asc s.k
def bkW (vs : List Ver) : List (MM.DK × Wv) := vs.map fun v => (v.d, vW v)
structure Bk (vs : List Ver) : Prop where
  all : ∀ v ∈ vs, SV v
  nd : (vs.map (·.d)).Nodup
section
variable {h : Hm} {p : Nat} {Q : Wv → Hm → Prop}
end
end SC

set_option maxRecDepth 100000
set_option maxHeartbeats 4000000

namespace SC
open PySem PySem.Spec PyProof.Rows L2 K01 MM GP SP SG
def dsV (vs : List Ver) : List MM.DK := vs.map (·.d)
def noneKn (vs : List Ver) : Bool := !(dsV vs).any fun k => decide (k ∈ knAll vs)
def cellOf : Wv → Option (List Ver)
  | .tup ws => (ws.mapM verOf).bind fun vs => if ascB (dsV vs) = true ∧ noneKn vs = true then some vs else none
  | _ => none
def cW (vs : List Ver) : Wv := .tup (vs.map vW)
structure GC (vs : List Ver) : Prop where
  all : ∀ v ∈ vs, GV v
  asc : Asc (dsV vs)
  out : noneKn vs = true
def firstW : Wv → Wv
  | .tup (a :: _) => a
  | _ => .non
section
variable {h : Hm} {w a b c : Wv} {n : Nat} {vs : List Ver} {Q : Wv → Hm → Prop} {R : Ex → Hm → Prop}
end
end SC

set_option maxRecDepth 100000
set_option maxHeartbeats 4000000

namespace SC
open PySem PySem.Spec PyProof.Rows L2 K01 MM GP SP SG
section
variable {h : Hm} {w a b c : Wv} {n : Nat} {vs : List Ver} {v : Ver} {ρ : MM.Env} {Q : Wv → Hm → Prop} {R : Ex → Hm → Prop}

def cutK (ks : List MM.DK) (n : Int) : List MM.DK := ks.drop (max 0 ((ks.length : Int) - n)).toNat

end
end SC

set_option maxRecDepth 100000
set_option maxHeartbeats 4000000

namespace SC
open PySem PySem.Spec PyProof.Rows L2 K01 MM GP SP SG
theorem is_lst {h : Hm} {i : Nat} {ws : List Wv} (e : h[i]? = some (.lst ws)) : isLst (.obj i) h = true := by unfold isLst rdL; simp only [e]; rfl
def liveV (vs : List Ver) : List Ver := vs.filter fun v => !decide (v.d ∈ knAll vs)
section
variable {h : Hm} {i : Nat} {vs : List Ver} {Q : Wv → Hm → Prop}
end
end SC

set_option maxRecDepth 100000
set_option maxHeartbeats 4000000

namespace GR61
open PySem PySem.Spec PyProof.Rows L2 K01 MM GP SP SC SG TX
def WH : List PySem.Str := ["u", "v", "w"]
def ON : List PySem.Str := ["a", "b", "c"]
def OT : List PySem.Str := ["b", "c", "zzzzzz"]
def KE : List PySem.Str := ["k", "m", "abcdef"]
def NU : List Int := [0, 1, 9, 10, 100000000000000000000]
def WO : List Int := [0, 5, -5, 1000000000, -1000000000]
def TI : List Int := [1, 7, 1000000]
def PL : List (List Int) := [[0], [63, 5], [7, 0, 63, 1]]
def deedsOf (a b c k : PySem.Str) (n v t : Int) (p : List Int) : List (List Prt) :=
  [[.wd "write", .wd a, .wd b, .wd k, .nm v], [.wd "gone", .wd a, .wd b, .wd k], [.wd "read", .wd a, .wd b, .wd k], [.wd "leave", .wd a], [.wd "give", .nm n], [.wd "lose", .nm n], [.wd "twice", .nm n],
   [.wd "flow"], [.wd "away", .wd b], [.wd "back", .wd b], [.wd "lost", .wd b], [.wd "doubt", .wd b, .wd c], [.wd "news", .wd b, .wd c], [.wd "return", .wd b], [.wd "compare", .wd b, .wd c], [.wd "tick", .nm t], [.wd "go", .wd b], [.wd "come", .wd c, .pl p]]
def A1 : List (List Prt) := WH.flatMap fun a => ON.flatMap fun b => KE.flatMap fun k => WO.map fun v => [.wd "write", .wd a, .wd b, .wd k, .nm v]
def A2 : List (List Prt) := WH.flatMap fun a => ON.flatMap fun b => KE.flatMap fun k => [[.wd "gone", .wd a, .wd b, .wd k], [.wd "read", .wd a, .wd b, .wd k], [.wd "leave", .wd a]]
def A3 : List (List Prt) := NU.flatMap fun n => [[.wd "give", .nm n], [.wd "lose", .nm n], [.wd "twice", .nm n]]
def A4 : List (List Prt) := ON.flatMap fun b => OT.flatMap fun c => [[.wd "flow"], [.wd "away", .wd b], [.wd "back", .wd b], [.wd "lost", .wd b], [.wd "doubt", .wd b, .wd c], [.wd "news", .wd b, .wd c], [.wd "return", .wd b], [.wd "compare", .wd b, .wd c], [.wd "go", .wd b]]
def A5 : List (List Prt) := TI.map fun t => [.wd "tick", .nm t]
def A6 : List (List Prt) := OT.flatMap fun c => PL.map fun p => [.wd "come", .wd c, .pl p]
def allD : List (List Prt) := A1 ++ A2 ++ A3 ++ A4 ++ A5 ++ A6
def chk (d : List Prt) : Bool := dGood d && decide (readP (d.map partT) = some d) && (d.map partT).all shortB && (d.map partT).all (fun x => !decide (32 ∈ x.cps.toList)) && !decide (10 ∈ (dText d).cps.toList) && decide ((dText d).length ≠ 0) && decide (d.length ≤ 20)
theorem all1 : A1.all chk = true := by decide +kernel
theorem all2 : A2.all chk = true := by decide +kernel
theorem all3 : A3.all chk = true := by decide +kernel
theorem all4 : A4.all chk = true := by decide +kernel
theorem all5 : A5.all chk = true := by decide +kernel
theorem all6 : A6.all chk = true := by decide +kernel
theorem of_all {d : List Prt} (m : d ∈ allD) : chk d = true := by
  unfold allD at m
  simp only [List.mem_append] at m
  rcases m with ((((m | m) | m) | m) | m) | m
  · exact List.all_eq_true.mp all1 d m
  · exact List.all_eq_true.mp all2 d m
  · exact List.all_eq_true.mp all3 d m
  · exact List.all_eq_true.mp all4 d m
  · exact List.all_eq_true.mp all5 d m
  · exact List.all_eq_true.mp all6 d m
theorem deeds_all {a b c k : PySem.Str} {n v t : Int} {p : List Int} (ha : a ∈ WH) (hb : b ∈ ON) (hc : c ∈ OT) (hk : k ∈ KE) (hn : n ∈ NU) (hv : v ∈ WO) (ht : t ∈ TI) (hp : p ∈ PL) : ∀ d ∈ deedsOf a b c k n v t p, d ∈ allD := fun d hd => by
  have i1 : ∀ d ∈ A1, d ∈ allD := fun d m => by unfold allD; simp only [List.mem_append]; exact .inl (.inl (.inl (.inl (.inl m))))
  have i2 : ∀ d ∈ A2, d ∈ allD := fun d m => by unfold allD; simp only [List.mem_append]; exact .inl (.inl (.inl (.inl (.inr m))))
  have i3 : ∀ d ∈ A3, d ∈ allD := fun d m => by unfold allD; simp only [List.mem_append]; exact .inl (.inl (.inl (.inr m)))
  have i4 : ∀ d ∈ A4, d ∈ allD := fun d m => by unfold allD; simp only [List.mem_append]; exact .inl (.inl (.inr m))
  have i5 : ∀ d ∈ A5, d ∈ allD := fun d m => by unfold allD; simp only [List.mem_append]; exact .inl (.inr m)
  have i6 : ∀ d ∈ A6, d ∈ allD := fun d m => by unfold allD; simp only [List.mem_append]; exact .inr m
  have m2 : ∀ d ∈ ([[.wd "gone", .wd a, .wd b, .wd k], [.wd "read", .wd a, .wd b, .wd k], [.wd "leave", .wd a]] : List (List Prt)), d ∈ allD := fun d m => i2 d (List.mem_flatMap.mpr ⟨a, ha, List.mem_flatMap.mpr ⟨b, hb, List.mem_flatMap.mpr ⟨k, hk, m⟩⟩⟩)
  have m3 : ∀ d ∈ ([[.wd "give", .nm n], [.wd "lose", .nm n], [.wd "twice", .nm n]] : List (List Prt)), d ∈ allD := fun d m => i3 d (List.mem_flatMap.mpr ⟨n, hn, m⟩)
  have m4 : ∀ d ∈ ([[.wd "flow"], [.wd "away", .wd b], [.wd "back", .wd b], [.wd "lost", .wd b], [.wd "doubt", .wd b, .wd c], [.wd "news", .wd b, .wd c], [.wd "return", .wd b], [.wd "compare", .wd b, .wd c], [.wd "go", .wd b]] : List (List Prt)), d ∈ allD := fun d m => i4 d (List.mem_flatMap.mpr ⟨b, hb, List.mem_flatMap.mpr ⟨c, hc, m⟩⟩)
  unfold deedsOf at hd
  simp only [List.mem_cons, List.not_mem_nil, or_false] at hd
  rcases hd with rfl | rfl | rfl | rfl | rfl | rfl | rfl | rfl | rfl | rfl | rfl | rfl | rfl | rfl | rfl | rfl | rfl | rfl
  · exact i1 _ (List.mem_flatMap.mpr ⟨a, ha, List.mem_flatMap.mpr ⟨b, hb, List.mem_flatMap.mpr ⟨k, hk, List.mem_map.mpr ⟨v, hv, rfl⟩⟩⟩⟩)
  · exact m2 _ (by simp)
  · exact m2 _ (by simp)
  · exact m2 _ (by simp)
  · exact m3 _ (by simp)
  · exact m3 _ (by simp)
  · exact m3 _ (by simp)
  · exact m4 _ (by simp)
  · exact m4 _ (by simp)
  · exact m4 _ (by simp)
  · exact m4 _ (by simp)
  · exact m4 _ (by simp)
  · exact m4 _ (by simp)
  · exact m4 _ (by simp)
  · exact m4 _ (by simp)
  · exact i5 _ (List.mem_map.mpr ⟨t, ht, rfl⟩)
  · exact m4 _ (by simp)
  · exact i6 _ (List.mem_flatMap.mpr ⟨c, hc, List.mem_map.mpr ⟨p, hp, rfl⟩⟩)
end GR61

set_option maxRecDepth 100000
set_option maxHeartbeats 4000000

namespace GR61
open PySem PySem.Spec PyProof.Rows L2 K01 MM GP SP SG SC TX
def d1 : SM := (sPar3 1 2 3 (aCons (eOp ixM (eC (.str "uvw")) (eCall m__law_take (aCons (eVar 0) (aCons (eC (.int 3)) aNil)))) (aCons (eOp ixM (eC (.str "abc")) (eCall m__law_take (aCons (eVar 0) (aCons (eC (.int 3)) aNil)))) (aCons (eOp ixM (eLst (aCons (eC (.str "b")) (aCons (eC (.str "c")) (aCons (eC (.str "zzzzzz")) aNil)))) (eCall m__law_take (aCons (eVar 0) (aCons (eC (.int 3)) aNil)))) aNil))))
def d2 : SM := (sPar 4 5 (aCons (eOp ixM (eLst (aCons (eC (.str "k")) (aCons (eC (.str "m")) (aCons (eC (.str "abcdef")) aNil)))) (eCall m__law_take (aCons (eVar 0) (aCons (eC (.int 3)) aNil)))) (aCons (eOp ixM (eLst (aCons (eC (.int 0)) (aCons (eC (.int 1)) (aCons (eC (.int 9)) (aCons (eC (.int 10)) (aCons (eOp powM (eC (.int 10)) (eC (.int 20))) aNil)))))) (eCall m__law_take (aCons (eVar 0) (aCons (eC (.int 5)) aNil)))) aNil)))
def d3 : SM := (sSet 6 (eLst (aCons (eTup (aCons (eC (.str "write")) (aCons (eVar 1) (aCons (eVar 2) (aCons (eVar 4) (aCons (eOp ixM (eLst (aCons (eC (.int 0)) (aCons (eC (.int 5)) (aCons (eNeg (eC (.int 5))) (aCons (eOp powM (eC (.int 10)) (eC (.int 9))) (aCons (eNeg (eOp powM (eC (.int 10)) (eC (.int 9)))) aNil)))))) (eCall m__law_take (aCons (eVar 0) (aCons (eC (.int 5)) aNil)))) aNil)))))) (aCons (eTup (aCons (eC (.str "gone")) (aCons (eVar 1) (aCons (eVar 2) (aCons (eVar 4) aNil))))) aNil))))
def d4 : SM := (sSet 6 (eOp addM (eVar 6) (eLst (aCons (eTup (aCons (eC (.str "read")) (aCons (eVar 1) (aCons (eVar 2) (aCons (eVar 4) aNil))))) (aCons (eTup (aCons (eC (.str "leave")) (aCons (eVar 1) aNil))) (aCons (eTup (aCons (eC (.str "give")) (aCons (eVar 5) aNil))) (aCons (eTup (aCons (eC (.str "lose")) (aCons (eVar 5) aNil))) (aCons (eTup (aCons (eC (.str "twice")) (aCons (eVar 5) aNil))) aNil))))))))
def d5 : SM := (sSet 6 (eOp addM (eVar 6) (eLst (aCons (eTup (aCons (eC (.str "flow")) aNil)) (aCons (eTup (aCons (eC (.str "away")) (aCons (eVar 2) aNil))) (aCons (eTup (aCons (eC (.str "back")) (aCons (eVar 2) aNil))) (aCons (eTup (aCons (eC (.str "lost")) (aCons (eVar 2) aNil))) (aCons (eTup (aCons (eC (.str "doubt")) (aCons (eVar 2) (aCons (eVar 3) aNil)))) (aCons (eTup (aCons (eC (.str "news")) (aCons (eVar 2) (aCons (eVar 3) aNil)))) aNil)))))))))
def d6 : SM := (sSet 6 (eOp addM (eVar 6) (eLst (aCons (eTup (aCons (eC (.str "return")) (aCons (eVar 2) aNil))) (aCons (eTup (aCons (eC (.str "compare")) (aCons (eVar 2) (aCons (eVar 3) aNil)))) (aCons (eTup (aCons (eC (.str "tick")) (aCons (eOp ixM (eLst (aCons (eC (.int 1)) (aCons (eC (.int 7)) (aCons (eOp powM (eC (.int 10)) (eC (.int 6))) aNil)))) (eCall m__law_take (aCons (eVar 0) (aCons (eC (.int 3)) aNil)))) aNil))) (aCons (eTup (aCons (eC (.str "go")) (aCons (eVar 2) aNil))) aNil)))))))
def d7 : SM := (sSet 7 (eOp ixM (eLst (aCons (eTup (aCons (eC (.int 0)) aNil)) (aCons (eTup (aCons (eC (.int 63)) (aCons (eC (.int 5)) aNil))) (aCons (eTup (aCons (eC (.int 7)) (aCons (eC (.int 0)) (aCons (eC (.int 63)) (aCons (eC (.int 1)) aNil))))) aNil)))) (eCall m__law_take (aCons (eVar 0) (aCons (eC (.int 3)) aNil)))))
def d8 : SM := (sRet (eOp ixM (eOp addM (eVar 6) (eLst (aCons (eTup (aCons (eC (.str "come")) (aCons (eVar 3) (aCons (eVar 7) aNil)))) aNil))) (eCall m__law_take (aCons (eVar 0) (aCons (eC (.int 18)) aNil)))))
theorem d_row : m__law_deed = fun_ 8 1 (sSeq d1 (sSeq d2 (sSeq d3 (sSeq d4 (sSeq d5 (sSeq d6 (sSeq d7 d8))))))) := rfl
def o1 : SM := (sSet 2 (eLst (aCons (eC .non) (aCons (eTup aNil) (aCons (eOp addM (eVar 1) (eTup (aCons (eC (.int 0)) aNil))) (aCons (eCall listOf (aCons (eVar 1) aNil)) (aCons (eTup (aCons (eC (.str "give")) aNil)) (aCons (eTup (aCons (eC (.str "give")) (aCons (eNeg (eC (.int 1))) aNil))) (aCons (eTup (aCons (eC (.str "give")) (aCons (eC (.bl true)) aNil))) (aCons (eTup (aCons (eC (.str "flow")) (aCons (eC (.int 0)) aNil))) aNil))))))))))
def o2 : SM := (sSet 2 (eOp addM (eVar 2) (eLst (aCons (eTup (aCons (eC (.str "write")) (aCons (eC (.str "u")) (aCons (eC (.str "a")) (aCons (eC (.str "k")) aNil))))) (aCons (eTup (aCons (eC (.str "tick")) (aCons (eC (.int 0)) aNil))) (aCons (eTup (aCons (eC (.str "tick")) (aCons (eOp addM (eOp powM (eC (.int 10)) (eC (.int 6))) (eC (.int 1))) aNil))) (aCons (eTup (aCons (eC (.str "come")) (aCons (eC (.str "a")) (aCons (eTup aNil) aNil)))) (aCons (eTup (aCons (eC (.str "Go")) (aCons (eC (.str "a")) aNil))) aNil))))))))
def o3 : SM := (sSet 2 (eOp addM (eVar 2) (eLst (aCons (eTup (aCons (eC (.str "come")) (aCons (eC (.str "a")) (aCons (eTup (aCons (eC (.int 1)) (aCons (eC (.int 1)) aNil))) aNil)))) (aCons (eTup (aCons (eC (.str "come")) (aCons (eC (.str "a")) (aCons (eLst (aCons (eC (.int 1)) aNil)) aNil)))) (aCons (eTup (aCons (eC (.str "come")) (aCons (eC (.str "a")) (aCons (eTup (aCons (eC (.int 64)) aNil)) aNil)))) (aCons (eTup (aCons (eC (.str "away")) (aCons (eC (.str "A")) aNil))) (aCons (eTup (aCons (eC (.str "away")) (aCons (eC (.int 5)) aNil))) (aCons (eC (.int 7)) aNil)))))))))
def o4 : SM := (sRet (eOp ixM (eOp addM (eVar 2) (eLst (aCons (eTup (aCons (eC (.str "write")) (aCons (eC (.str "u")) (aCons (eC (.str "a")) (aCons (eC (.str "k")) (aCons (eOp addM (eOp powM (eC (.int 10)) (eC (.int 9))) (eC (.int 1))) aNil)))))) aNil))) (eCall m__law_take (aCons (eVar 0) (aCons (eC (.int 20)) aNil)))))
theorem o_row : m__law_odd = fun_ 3 2 (sSeq o1 (sSeq o2 (sSeq o3 o4))) := rfl
def l1i : IM := (iSeqM (eLst (aCons (eC .non) (aCons (eTup aNil) (aCons (eC (.str "flow")) (aCons (eTup (aCons (eC (.str "flow")) aNil)) (aCons eDnewK aNil)))))))
def l1_1 : SM := (sIf (tOf (eOp (eqB true) (eCall m__law_refused (aCons (eVar 1) aNil)) (eLst (aCons (eC (.str "deed")) (aCons (eC .non) (aCons (eC (.bl true)) aNil)))))) (sRet (eC (.bl false))) sNil)
def l1b : SM := l1_1
def l1 : SM := sFor l1i (gN 1) l1b
def l2i : IM := (iArgs rng1 (aCons (eCall max2 (aCons (eC (.int 2)) (aCons (eCall min2 (aCons (eCall lenM (aCons (eVar 0) aNil)) (aCons (eC (.int 30)) aNil))) aNil))) aNil))
def l2_1 : SM := (sSet 3 (eCall m__law_pool (aCons (eVar 0) (aCons (eVar 2) aNil))))
def l2_2 : SM := (sSet 4 (eLc (iArgs rng1 (aCons (eCall m__law_take (aCons (eVar 3) (aCons (eC (.int 10)) aNil))) aNil)) [7] (gN 7) tYesM (eCall m__law_deed (aCons (eVar 3) aNil))))
def l2_3 : SM := (sSet 5 (eJoin (eC (.str "\n")) (eLc (iSeqM (eVar 4)) [8] (gN 8) tYesM (eCall m__law_deed_text (aCons (eVar 8) aNil)))))
def l2_4 : SM := (sIf (tOrM (tOf (eOp (eqB true) (eCall m_show_weaving (aCons (eVar 4) aNil)) (eVar 5))) (tOf (eOp (eqB true) (eCall repA (aCons (eCall m_read_weaving (aCons (eVar 5) aNil)) aNil)) (eCall repA (aCons (eVar 4) aNil))))) (sRet (eC (.bl false))) sNil)
def l2_5 : SM := (sSet 6 (eCall m__law_take (aCons (eVar 3) (aCons (eOp addM (eCall lenM (aCons (eVar 4) aNil)) (eC (.int 1))) aNil))))
def l2_6 : SM := (sSet 1 (eCall m__law_odd (aCons (eVar 3) (aCons (eOp ixM (eOp addM (eVar 4) (eLst (aCons (eTup (aCons (eC (.str "flow")) aNil)) aNil))) (eVar 6)) aNil))))
def l2_7 : SM := (sIf (tOf (eOp (eqB true) (eCall m__law_refused (aCons (eOp addM (eOp addM (eSl (eVar 4) oNone (oSome (eVar 6))) (eLst (aCons (eVar 1) aNil))) (eSl (eVar 4) (oSome (eVar 6)) oNone)) aNil)) (eLst (aCons (eC (.str "deed")) (aCons (eVar 6) (aCons (eC (.bl true)) aNil)))))) (sRet (eC (.bl false))) sNil)
def l2b : SM := sSeq l2_1 (sSeq l2_2 (sSeq l2_3 (sSeq l2_4 (sSeq l2_5 (sSeq l2_6 l2_7)))))
def l2 : SM := sFor l2i (gN 2) l2b
def l3 : SM := (sRet (eAnd (eOp (eqB false) (eCall m_show_weaving (aCons (eLst aNil) aNil)) (eC (.str ""))) (eOp (eqB false) (eCall m_read_weaving (aCons (eC (.str "")) aNil)) (eLst aNil))))
theorem l_row : m_law = fun_ 9 1 (sSeq l1 (sSeq l2 l3)) := rfl
end GR61

set_option maxRecDepth 100000
set_option maxHeartbeats 4000000

namespace GR61
open PySem PySem.Spec PyProof.Rows L2 K01 MM GP SP SG SC TX
theorem sz {n : Nat} (l : n ≤ 1000000) : n ≤ sizeLine := by rw [sizeLine_eq]; omega
section
variable {h : Hm} {p : Nat} {Q : Wv → Hm → Prop} {P : Fl × MM.Env → Hm → Prop}
theorem pick {ws : List Wv} {n : Int} {R : Wv → Hm → Prop} (Po : SP.Pool h p) (hn : n = ws.length) (n0 : 0 < n) (n1 : n.natAbs < 2 ^ 64) (q : ∀ w ∈ ws, ∀ h2, Gp p h h2 → R w h2) : wpM (m__law_take [.obj p, .int n]) (h ++ [.lst ws]) fun y h2 => wpM (ixM (.obj h.length) y) h2 R := by
  have lp := pool_lt Po
  have G1 := (Gp.of Po).app [Ob.lst ws]
  rw [← draw_is]
  refine draw_wp G1.po n0 n1 fun d h2 g2 d0 d1 => ?_
  obtain ⟨w, mw, at_⟩ := atI_ok (xs := ws) d0 (by omega)
  rw [wp_ix_obj (g2.rd rdL_last (by omega)) at_]
  exact q w mw h2 (G1.trans g2)
theorem sign3 {d : Int} (d0 : 0 ≤ d) (d1 : d < 3) (h : Hm) : (∃ x ∈ WH, ixM (.str "uvw") (.int d) h = .ok (.str x) h) ∧ ∃ x ∈ ON, ixM (.str "abc") (.int d) h = .ok (.str x) h := by
  rcases (by omega : d = 0 ∨ d = 1 ∨ d = 2) with rfl | rfl | rfl
  · exact ⟨⟨"u", by simp [WH], rfl⟩, "a", by simp [ON], rfl⟩
  · exact ⟨⟨"v", by simp [WH], rfl⟩, "b", by simp [ON], rfl⟩
  · exact ⟨⟨"w", by simp [WH], rfl⟩, "c", by simp [ON], rfl⟩
theorem pickW {R : Wv → Hm → Prop} (Po : SP.Pool h p) (q : ∀ x ∈ WH, ∀ h2, Gp p h h2 → R (.str x) h2) : wpM (m__law_take [.obj p, .int 3]) h fun y h2 => wpM (ixM (.str "uvw") y) h2 R := by
  rw [← draw_is]
  refine draw_wp Po (by decide) (by decide) fun d h2 g2 d0 d1 => ?_
  obtain ⟨x, m, e⟩ := (sign3 d0 d1 h2).1
  rw [wp_ok e]
  exact q x m h2 g2
theorem pickO {R : Wv → Hm → Prop} (Po : SP.Pool h p) (q : ∀ x ∈ ON, ∀ h2, Gp p h h2 → R (.str x) h2) : wpM (m__law_take [.obj p, .int 3]) h fun y h2 => wpM (ixM (.str "abc") y) h2 R := by
  rw [← draw_is]
  refine draw_wp Po (by decide) (by decide) fun d h2 g2 d0 d1 => ?_
  obtain ⟨x, m, e⟩ := (sign3 d0 d1 h2).2
  rw [wp_ok e]
  exact q x m h2 g2
abbrev E8 (p : Nat) (a1 a2 a3 a4 a5 a6 a7 : Option Wv) : MM.Env := [some (.obj p), a1, a2, a3, a4, a5, a6, a7]
variable {a1 a2 a3 a4 a5 a6 a7 : Option Wv}
theorem d1_wp (Po : SP.Pool h p) (q : ∀ a ∈ WH, ∀ b ∈ ON, ∀ c ∈ OT, ∀ h2, Gp p h h2 → P (.nx, E8 p (some (.str a)) (some (.str b)) (some (.str c)) a4 a5 a6 a7) h2) : wpM (d1 (E8 p a1 a2 a3 a4 a5 a6 a7)) h P := by
  simp only [d1, MM.wpq, startM, Ty.nm, if_true, if_false, Nat.reduceAdd, Nat.reduceSub, reduceCtorEq, wp_par3]
  refine pickW Po fun a ha h1 g1 => ?_
  refine pickO g1.po fun b hb h2 g2 => ?_
  refine ⟨sz (by simp), ?_⟩
  refine pick g2.po rfl (by decide) (by decide) fun c hc h3 g3 => ?_
  have hc' : ∃ x ∈ OT, c = .str x := by
    simp only [List.mem_cons, List.not_mem_nil, or_false] at hc
    rcases hc with rfl | rfl | rfl
    · exact ⟨"b", by simp [OT], rfl⟩
    · exact ⟨"c", by simp [OT], rfl⟩
    · exact ⟨"zzzzzz", by simp [OT], rfl⟩
  obtain ⟨x, hx, rfl⟩ := hc'
  exact ⟨_, _, _, rfl, q a ha b hb x hx h3 ((g1.trans g2).trans g3)⟩
theorem d2_wp (Po : SP.Pool h p) (q : ∀ k ∈ KE, ∀ n ∈ NU, ∀ h2, Gp p h h2 → P (.nx, E8 p a1 a2 a3 (some (.str k)) (some (.int n)) a6 a7) h2) : wpM (d2 (E8 p a1 a2 a3 a4 a5 a6 a7)) h P := by
  simp only [d2, MM.wpq, startM, Ty.nm, if_true, if_false, Nat.reduceAdd, Nat.reduceSub, reduceCtorEq]
  refine ⟨sz (by simp), ?_⟩
  refine pick Po rfl (by decide) (by decide) fun k hk h1 g1 => ?_
  rw [wp_pow (by decide)]
  refine ⟨sz (by simp), ?_⟩
  refine pick g1.po rfl (by decide) (by decide) fun n hn h2 g2 => ?_
  have hk' : ∃ x ∈ KE, k = .str x := by
    simp only [List.mem_cons, List.not_mem_nil, or_false] at hk
    rcases hk with rfl | rfl | rfl
    · exact ⟨"k", by simp [KE], rfl⟩
    · exact ⟨"m", by simp [KE], rfl⟩
    · exact ⟨"abcdef", by simp [KE], rfl⟩
  have hn' : ∃ x ∈ NU, n = .int x := by
    simp only [List.mem_cons, List.not_mem_nil, or_false] at hn
    rcases hn with rfl | rfl | rfl | rfl | rfl
    · exact ⟨0, by simp [NU], rfl⟩
    · exact ⟨1, by simp [NU], rfl⟩
    · exact ⟨9, by simp [NU], rfl⟩
    · exact ⟨10, by simp [NU], rfl⟩
    · exact ⟨100000000000000000000, by simp [NU], rfl⟩
  obtain ⟨x, hx, rfl⟩ := hk'
  obtain ⟨y, hy, rfl⟩ := hn'
  exact ⟨_, _, rfl, q x hx y hy h2 (g1.trans g2)⟩
def LD (h : Hm) (p i : Nat) (ds : List (List Prt)) : Prop := h[i]? = some (.lst (ds.map dW)) ∧ i ≠ p
theorem LD.gp {i : Nat} {ds : List (List Prt)} {h2 : Hm} (L : LD h p i ds) (g : Gp p h h2) : LD h2 p i ds := ⟨g.get L.1 L.2, L.2⟩
theorem d3_wp {a b k : PySem.Str} (Po : SP.Pool h p) (q : ∀ v ∈ WO, ∀ h2 i, Gp p h h2 → LD h2 p i [[.wd "write", .wd a, .wd b, .wd k, .nm v], [.wd "gone", .wd a, .wd b, .wd k]] → P (.nx, E8 p (some (.str a)) (some (.str b)) a3 (some (.str k)) a5 (some (.obj i)) a7) h2) : wpM (d3 (E8 p (some (.str a)) (some (.str b)) a3 (some (.str k)) a5 a6 a7)) h P := by
  simp only [d3, MM.wpq, startM, Ty.nm, if_true, if_false, Nat.reduceAdd, Nat.reduceSub, reduceCtorEq]
  rw [wp_pow (by decide)]
  rw [wp_pow (by decide)]
  refine ⟨_, rfl, sz (by simp), ?_⟩
  refine pick Po rfl (by decide) (by decide) fun v hv h1 g1 => ?_
  have hv' : ∃ x ∈ WO, v = .int x := by
    simp only [List.mem_cons, List.not_mem_nil, or_false] at hv
    rcases hv with rfl | rfl | rfl | rfl | rfl
    · exact ⟨0, by simp [WO], rfl⟩
    · exact ⟨5, by simp [WO], rfl⟩
    · exact ⟨-5, by simp [WO], rfl⟩
    · exact ⟨1000000000, by simp [WO], rfl⟩
    · exact ⟨-1000000000, by simp [WO], rfl⟩
  obtain ⟨x, hx, rfl⟩ := hv'
  refine ⟨sz (by simp), sz (by simp), sz (by simp), ?_⟩
  have lp := pool_lt g1.po
  exact q x hx _ h1.length (g1.app _) ⟨MM.at_last, by omega⟩
theorem addD {i : Nat} {ds es : List (List Prt)} {R : Wv → Hm → Prop} (G : SP.Pool h p) (L : LD h p i ds) (few : ds.length + es.length ≤ 100) (q : ∀ h2, Gp p h h2 → LD h2 p (h.length + 1) (ds ++ es) → R (.obj (h.length + 1)) h2) : wpM (addM (.obj i) (.obj h.length)) (h ++ [.lst (es.map dW)]) R := by
  have lp := pool_lt G
  have e1 : lstOf (h ++ [.lst (es.map dW)]) i = some (ds.map dW) := lst_of (get_app L.1 _)
  have e2 : lstOf (h ++ [.lst (es.map dW)]) h.length = some (es.map dW) := lst_of MM.at_last
  rw [wp_add_lst e1 e2 (by rw [List.length_map, List.length_map]; omega)]
  have el : (h ++ [Ob.lst (es.map dW)]).length = h.length + 1 := by rw [List.length_append]; rfl
  have := q (h ++ [Ob.lst (es.map dW)] ++ [Ob.lst (ds.map dW ++ es.map dW)]) (((Gp.of G).app _).app _) ⟨by rw [← el, ← List.map_append]; exact MM.at_last, by omega⟩
  rw [el]
  exact this
theorem d4_wp {i : Nat} {a b k : PySem.Str} {n : Int} {ds : List (List Prt)} (Po : SP.Pool h p) (L : LD h p i ds) (few : ds.length ≤ 20) (q : ∀ h2 i, Gp p h h2 → LD h2 p i (ds ++ [[.wd "read", .wd a, .wd b, .wd k], [.wd "leave", .wd a], [.wd "give", .nm n], [.wd "lose", .nm n], [.wd "twice", .nm n]]) → P (.nx, E8 p (some (.str a)) (some (.str b)) a3 (some (.str k)) (some (.int n)) (some (.obj i)) a7) h2) : wpM (d4 (E8 p (some (.str a)) (some (.str b)) a3 (some (.str k)) (some (.int n)) (some (.obj i)) a7)) h P := by
  simp only [d4, MM.wpq, startM, Ty.nm, if_true, if_false, Nat.reduceAdd, Nat.reduceSub, reduceCtorEq]
  refine ⟨sz (by simp), sz (by simp), sz (by simp), sz (by simp), sz (by simp), sz (by simp), ?_⟩
  exact addD (es := [[.wd "read", .wd a, .wd b, .wd k], [.wd "leave", .wd a], [.wd "give", .nm n], [.wd "lose", .nm n], [.wd "twice", .nm n]]) Po L (by simp; omega) fun h2 g L2 => q h2 _ g L2
theorem d5_wp {i : Nat} {b c : PySem.Str} {ds : List (List Prt)} (Po : SP.Pool h p) (L : LD h p i ds) (few : ds.length ≤ 20) (q : ∀ h2 i, Gp p h h2 → LD h2 p i (ds ++ [[.wd "flow"], [.wd "away", .wd b], [.wd "back", .wd b], [.wd "lost", .wd b], [.wd "doubt", .wd b, .wd c], [.wd "news", .wd b, .wd c]]) → P (.nx, E8 p a1 (some (.str b)) (some (.str c)) a4 a5 (some (.obj i)) a7) h2) : wpM (d5 (E8 p a1 (some (.str b)) (some (.str c)) a4 a5 (some (.obj i)) a7)) h P := by
  simp only [d5, MM.wpq, startM, Ty.nm, if_true, if_false, Nat.reduceAdd, Nat.reduceSub, reduceCtorEq]
  refine ⟨sz (by simp), sz (by simp), sz (by simp), sz (by simp), sz (by simp), sz (by simp), sz (by simp), ?_⟩
  exact addD (es := [[.wd "flow"], [.wd "away", .wd b], [.wd "back", .wd b], [.wd "lost", .wd b], [.wd "doubt", .wd b, .wd c], [.wd "news", .wd b, .wd c]]) Po L (by simp; omega) fun h2 g L2 => q h2 _ g L2
theorem d6_wp {i : Nat} {b c : PySem.Str} {ds : List (List Prt)} (Po : SP.Pool h p) (L : LD h p i ds) (few : ds.length ≤ 20) (q : ∀ t ∈ TI, ∀ h2 i, Gp p h h2 → LD h2 p i (ds ++ [[.wd "return", .wd b], [.wd "compare", .wd b, .wd c], [.wd "tick", .nm t], [.wd "go", .wd b]]) → P (.nx, E8 p a1 (some (.str b)) (some (.str c)) a4 a5 (some (.obj i)) a7) h2) : wpM (d6 (E8 p a1 (some (.str b)) (some (.str c)) a4 a5 (some (.obj i)) a7)) h P := by
  simp only [d6, MM.wpq, startM, Ty.nm, if_true, if_false, Nat.reduceAdd, Nat.reduceSub, reduceCtorEq]
  refine ⟨sz (by simp), sz (by simp), ?_⟩
  rw [wp_pow (by decide)]
  refine ⟨sz (by simp), ?_⟩
  refine pick Po rfl (by decide) (by decide) fun v hv h1 g1 => ?_
  have hv' : ∃ x ∈ TI, v = .int x := by
    simp only [List.mem_cons, List.not_mem_nil, or_false] at hv
    rcases hv with rfl | rfl | rfl
    · exact ⟨1, by simp [TI], rfl⟩
    · exact ⟨7, by simp [TI], rfl⟩
    · exact ⟨1000000, by simp [TI], rfl⟩
  obtain ⟨t, ht, rfl⟩ := hv'
  refine ⟨sz (by simp), sz (by simp), sz (by simp), ?_⟩
  exact addD (es := [[.wd "return", .wd b], [.wd "compare", .wd b, .wd c], [.wd "tick", .nm t], [.wd "go", .wd b]]) g1.po (L.gp g1) (by simp; omega) fun h2 g L2 => q t ht h2 _ (g1.trans g) L2
theorem d7_wp (Po : SP.Pool h p) (q : ∀ pl ∈ PL, ∀ h2, Gp p h h2 → P (.nx, E8 p a1 a2 a3 a4 a5 a6 (some (pW (.pl pl)))) h2) : wpM (d7 (E8 p a1 a2 a3 a4 a5 a6 a7)) h P := by
  simp only [d7, MM.wpq, startM, Ty.nm, if_true, if_false, Nat.reduceAdd, Nat.reduceSub, reduceCtorEq]
  refine ⟨sz (by simp), sz (by simp), sz (by simp), sz (by simp), ?_⟩
  refine pick Po rfl (by decide) (by decide) fun v hv h1 g1 => ?_
  have hv' : ∃ x ∈ PL, v = pW (.pl x) := by
    simp only [List.mem_cons, List.not_mem_nil, or_false] at hv
    rcases hv with rfl | rfl | rfl
    · exact ⟨[0], by simp [PL], rfl⟩
    · exact ⟨[63, 5], by simp [PL], rfl⟩
    · exact ⟨[7, 0, 63, 1], by simp [PL], rfl⟩
  obtain ⟨t, ht, rfl⟩ := hv'
  exact q t ht h1 g1
theorem d8_wp {i : Nat} {c : PySem.Str} {pl : List Int} {ds : List (List Prt)} (Po : SP.Pool h p) (L : LD h p i ds) (few : ds.length = 17) (q : ∀ d ∈ ds ++ [[.wd "come", .wd c, .pl pl]], ∀ h2 ρ, Gp p h h2 → P (.ret (dW d), ρ) h2) : wpM (d8 (E8 p a1 a2 (some (.str c)) a4 a5 (some (.obj i)) (some (pW (.pl pl))))) h P := by
  simp only [d8, MM.wpq, startM, Ty.nm, if_true, if_false, Nat.reduceAdd, Nat.reduceSub, reduceCtorEq]
  refine ⟨sz (by simp), sz (by simp), ?_⟩
  refine addD (es := [[.wd "come", .wd c, .pl pl]]) Po L (by simp; omega) fun h2 g L2 => ?_
  rw [← draw_is]
  refine draw_wp g.po (by decide) (by decide) fun d h3 g3 d0 d1 => ?_
  obtain ⟨w, mw, at_⟩ := atI_ok (xs := (ds ++ ([[.wd "come", .wd c, .pl pl]] : List (List Prt))).map dW) d0 (by rw [List.length_map, List.length_append, few]; exact d1)
  rw [wp_ix_obj (rd_of (L2.gp g3).1) at_]
  obtain ⟨x, hx, rfl⟩ := List.mem_map.mp mw
  exact q x hx h3 _ (g.trans g3)
theorem deed_draw_wp (Po : SP.Pool h p) (q : ∀ d ∈ allD, ∀ h2, Gp p h h2 → Q (dW d) h2) : wpM (m__law_deed [.obj p]) h Q := by
  rw [d_row, wp_fun1]
  simp only [startM, List.map_cons, List.map_nil, List.replicate_succ, List.replicate_zero, List.cons_append, List.nil_append]
  rw [wp_seq]
  refine d1_wp Po fun a ha b hb c hc h1 g1 => ?_
  show wpM (sSeq d2 _ _) _ _
  rw [wp_seq]
  refine d2_wp g1.po fun k hk n hn h2 g2 => ?_
  show wpM (sSeq d3 _ _) _ _
  rw [wp_seq]
  refine d3_wp g2.po fun v hv h3 i3 g3 L3 => ?_
  show wpM (sSeq d4 _ _) _ _
  rw [wp_seq]
  refine d4_wp g3.po L3 (by simp) fun h4 i4 g4 L4 => ?_
  show wpM (sSeq d5 _ _) _ _
  rw [wp_seq]
  refine d5_wp g4.po L4 (by simp) fun h5 i5 g5 L5 => ?_
  show wpM (sSeq d6 _ _) _ _
  rw [wp_seq]
  refine d6_wp g5.po L5 (by simp) fun t ht h6 i6 g6 L6 => ?_
  show wpM (sSeq d7 _ _) _ _
  rw [wp_seq]
  refine d7_wp g6.po fun pl hp h7 g7 => ?_
  show wpM (d8 _) _ _
  refine d8_wp g7.po (L6.gp g7) (by simp) fun d hd h8 ρ g8 => ?_
  refine q d (deeds_all ha hb hc hk hn hv ht hp d ?_) h8 (((((((g1.trans g2).trans g3).trans g4).trans g5).trans g6).trans g7).trans g8)
  simpa [deedsOf] using hd
end
end GR61

set_option maxRecDepth 100000
set_option maxHeartbeats 4000000

namespace GR61
open PySem PySem.Spec PyProof.Rows L2 K01 MM GP SP SG SC TX
section
variable {h : Hm} {p : Nat} {Q : Wv → Hm → Prop} {P : Fl × MM.Env → Hm → Prop}
theorem is_lst {h : Hm} {i : Nat} {ws : List Wv} (e : h[i]? = some (.lst ws)) : isLst (.obj i) h = true := by unfold isLst rdL; simp only [e]; rfl
theorem wp_appL {i : Nat} {ws : List Wv} {x : Wv} (e : h[i]? = some (.lst ws)) (l : ws.length < 1000) : wpM (appM (.obj i) [x]) h Q ↔ Q .non (h.set i (.lst (ws ++ [x]))) := by
  refine wp_ok ?_
  unfold appM
  simp only [lst_of e]
  rw [if_pos (by rw [sizeLine_eq]; omega)]
theorem set_tail {g : Hm} {o : Ob} : (h ++ g).set h.length o = h ++ g.set 0 o := by
  rw [List.set_append_right _ _ (Nat.le_refl _), Nat.sub_self]
theorem chk_good {d : List Prt} (c : chk d = true) : dGood d = true ∧ readP (d.map partT) = some d ∧ (∀ y ∈ d.map partT, shortB y = true) ∧ (∀ y ∈ d.map partT, ¬ 32 ∈ y.cps.toList) ∧ ¬ 10 ∈ (dText d).cps.toList ∧ (dText d).length ≠ 0 ∧ d.length ≤ 20 := by
  unfold chk at c
  simp only [Bool.and_eq_true, decide_eq_true_eq, Bool.not_eq_true', decide_eq_false_iff_not, List.all_eq_true] at c
  obtain ⟨⟨⟨⟨⟨⟨c1, c2⟩, c3⟩, c4⟩, c5⟩, c6⟩, c7⟩ := c
  exact ⟨c1, c2, c3, c4, c5, c6, c7⟩
theorem dtext_wp {d : List Prt} (c : chk d = true) (q : ∀ g, Q (.str (dText d)) (h ++ g)) : wpM (m__law_deed_text [dW d]) h Q := by
  obtain ⟨c1, _, _, _, _, _, c7⟩ := chk_good c
  unfold dGood dShow at c1
  simp only [Bool.and_eq_true] at c1
  have sb := List.all_eq_true.mp c1.2.1.1
  show wpM (m__law_deed_text [.tup (d.map pW)]) h Q
  simp only [m__law_deed_text, MM.wpq, startM, Ty.nm, if_true, if_false, Nat.reduceAdd, Nat.reduceSub, reduceCtorEq]
  refine ⟨sz (by simp), ?_⟩
  refine for_wp (its := d.map pW) (fun k ρ h2 => k ≤ d.length ∧ (∃ g, h2 = h ++ g ∧ h2[h.length]? = some (.lst ((d.take k).map fun p => .str (partT p)))) ∧ ∃ y z, ρ = [some (dW d), some (.obj h.length), y, z]) (fun k ρ h2 z => rfl) (fun k u ρ h2 ek z => ?_) (fun ρ h2 z => ?_) _ 0 _ _ (by show _ < (d.map pW).length + 1; omega) (Nat.zero_le _) ⟨Nat.zero_le _, ⟨_, rfl, MM.at_last⟩, none, none, rfl⟩
  · obtain ⟨kl, ⟨g, rfl, ei⟩, y, z, rfl⟩ := z
    rw [List.getElem?_map] at ek
    cases em : d[k]? with
    | none => rw [em] at ek; cases ek
    | some x =>
      rw [em] at ek
      cases ek
      have fin : ∀ g2 z0, wpM (appM (.obj h.length) [.str (partT x)]) (h ++ g ++ g2) fun w h1 => k + 1 ≤ d.length ∧ (∃ g, h1 = h ++ g ∧ h1[h.length]? = some (.lst ((d.take (k + 1)).map fun p => .str (partT p)))) ∧ ∃ y z, [some (dW d), some (.obj h.length), some (pW x), z0] = [some (dW d), some (.obj h.length), y, z] := fun g2 z0 => by
        have e2 := get_app ei g2
        rw [wp_appL e2 (by rw [List.length_map, List.length_take]; omega)]
        have ll := (List.getElem?_eq_some_iff.mp e2).1
        refine ⟨(List.getElem?_eq_some_iff.mp em).1, ⟨(g ++ g2).set 0 (.lst (((d.take k).map fun p => .str (partT p)) ++ [.str (partT x)])), by rw [List.append_assoc, set_tail], ?_⟩, _, _, rfl⟩
        rw [List.getElem?_set_self ll, List.take_succ, em, List.map_append]
        rfl
      have sx := sb x (List.mem_of_getElem? em)
      simp only [MM.wpq, startM, Ty.nm, if_true, if_false, Nat.reduceAdd, Nat.reduceSub, reduceCtorEq, wp_eBm]
      refine ⟨is_lst ei, ?_⟩
      cases x with
      | wd t =>
        refine ⟨.str, rfl, ?_⟩
        rw [show Ty.sub .str .tup = false from rfl]
        simp only [MM.wpq, startM, Ty.nm, if_true, if_false, Nat.reduceAdd, Nat.reduceSub, reduceCtorEq]
        rw [show pW (.wd t) = .str t from rfl, wp_strA_s]
        have := fin [] z
        rw [List.append_nil] at this
        exact this
      | nm i =>
        have oi : numB i = true := sx
        unfold numB at oi
        rw [Bool.and_eq_true, decide_eq_true_eq, decide_eq_true_eq] at oi
        refine ⟨.int, rfl, ?_⟩
        rw [show Ty.sub .int .tup = false from rfl]
        simp only [MM.wpq, startM, Ty.nm, if_true, if_false, Nat.reduceAdd, Nat.reduceSub, reduceCtorEq]
        rw [show pW (.nm i) = .int i from rfl, wp_strA_i oi.1]
        have := fin [] z
        rw [List.append_nil] at this
        exact this
      | pl is =>
        have sb : (is.all numB && decide (is.length ≤ 64) && decide ((listT is).length ≤ 1000) && decide ((listT is).length ≠ 0)) = true := sx
        simp only [Bool.and_eq_true, decide_eq_true_eq] at sb
        obtain ⟨⟨⟨s1, s2⟩, s3⟩, s4⟩ := sb
        refine ⟨.tup, rfl, ?_⟩
        rw [show Ty.sub .tup .tup = true from rfl]
        simp only [MM.wpq, startM, Ty.nm, if_true, if_false, Nat.reduceAdd, Nat.reduceSub, reduceCtorEq, wp_join]
        rw [show pW (.pl is) = .tup (is.map .int) from rfl]
        simp only [MM.wpq, startM, Ty.nm, if_true, if_false, Nat.reduceAdd, Nat.reduceSub, reduceCtorEq]
        refine nums_wp s1 s2 (fun i h2 Q w => ?_) ?_
        · simp only [wipeM, MM.wpq, startM, Ty.nm, if_true, if_false, Nat.reduceAdd, Nat.reduceSub, reduceCtorEq]; exact w
        · rw [listT_wp rdL_last s1 s2]
          exact fin _ z
      | bo b => cases sx
      | ls i => cases sx
  · obtain ⟨kl, ⟨g, rfl, ei⟩, y, z, rfl⟩ := z
    simp only [MM.wpq, startM, Ty.nm, if_true, if_false, Nat.reduceAdd, Nat.reduceSub, reduceCtorEq, wp_join]
    rw [List.length_map, List.take_length] at ei
    have er := rdOf ei
    rw [show (d.map fun p => Wv.str (partT p)) = (d.map partT).map .str from by rw [List.map_map]; rfl] at er
    rw [wp_joinL er (small_join (n := 0) (by rw [List.length_map]; omega) (fun y hy => by
      obtain ⟨p, hp, rfl⟩ := List.mem_map.mp hy
      have := partT_len (sb p hp)
      omega) comma1.2.1)]
    exact q _

def numW : Option Nat → Wv
  | some k => .int (k : Nat)
  | none => .non
theorem sups : xcls.contains "NoDeed" = true ∧ (["NoDeed"] : List PySem.Str).any (supM "NoDeed") = true ∧ supM "NoDeed" (PySem.Str.ofString "ValueError") = true ∧ supM "NoDeed" "NoText" = false ∧ (["NoDeed"] : List PySem.Str).contains "NoDeed" = true := by decide +kernel
theorem refused_wp {w : Wv} {v : Option Nat} (B : ∀ (Q : Wv → Hm → Prop) (R : Ex → Hm → Prop), (∀ g, R ⟨"NoDeed", some (h ++ g).length⟩ (h ++ g ++ [.xd [("number", numW v)]])) → wpB (x_show_weaving [w]) h Q R) (q : ∀ g i, rdL (h ++ g) i = some [.str "deed", numW v, .bl true] → h.length ≤ i → Q (.obj i) (h ++ g)) : wpM (m__law_refused [w]) h Q := by
  obtain ⟨s1, s2, s3, s4, s5⟩ := sups
  unfold m__law_refused
  simp only [MM.wpx, MM.wpq, startM, Ty.nm, if_true, if_false, Nat.reduceAdd, Nat.reduceSub, reduceCtorEq, wp_sTry]
  refine B _ _ fun g => ?_
  show wpM (handM xcls _ _ _) _ _
  rw [wp_handYes s1 s2]
  simp only [slotM, MM.wpq, startM, Ty.nm, if_true, if_false, Nat.reduceAdd, Nat.reduceSub, reduceCtorEq, wp_xf]
  have x1 : (h ++ g ++ [Ob.xd [("number", numW v)]] ++ [Ob.exc "NoDeed" (some (h ++ g).length)])[(h ++ g ++ [Ob.xd [("number", numW v)]]).length]? = some (.exc "NoDeed" (some (h ++ g).length)) := MM.at_last
  have x2 : (h ++ g ++ [Ob.xd [("number", numW v)]] ++ [Ob.exc "NoDeed" (some (h ++ g).length)])[(h ++ g).length]? = some (.xd [("number", numW v)]) := get_app MM.at_last _
  have xa : excAt (h ++ g ++ [Ob.xd [("number", numW v)]] ++ [Ob.exc "NoDeed" (some (h ++ g).length)]) (h ++ g ++ [Ob.xd [("number", numW v)]]).length = some ("NoDeed" : PySem.Str) := by unfold excAt; rw [x1]; simp only [x2]
  rw [wp_getX x1 x2 rfl s5]
  try simp only [MM.wpq, startM, Ty.nm, if_true, if_false, Nat.reduceAdd, Nat.reduceSub, reduceCtorEq]
  rw [wp_isQb xa s1, s3]
  try simp only [MM.wpq, startM, Ty.nm, if_true, if_false, Nat.reduceAdd, Nat.reduceSub, reduceCtorEq]
  rw [wp_isQo xa s1, s4]
  simp only [MM.wpq, startM, Ty.nm, if_true, if_false, Nat.reduceAdd, Nat.reduceSub, reduceCtorEq, Bool.not_false]
  refine ⟨sz (by simp), ?_⟩
  have := q (g ++ [Ob.xd [("number", numW v)]] ++ [Ob.exc "NoDeed" (some (h ++ g).length)] ++ [.lst [.str "deed", numW v, .bl true]]) (h ++ g ++ [Ob.xd [("number", numW v)]] ++ [Ob.exc "NoDeed" (some (h ++ g).length)]).length (by
    have := rdL_last (h := h ++ g ++ [Ob.xd [("number", numW v)]] ++ [Ob.exc "NoDeed" (some (h ++ g).length)]) (ws := [.str "deed", numW v, .bl true])
    simpa only [List.append_assoc] using this) (by simp only [List.length_append]; omega)
  simpa only [List.append_assoc] using this
def numD : Option Nat → PyData
  | some n => .int (n : Nat)
  | none => .none
theorem eq_told {i j : Nat} {v : Option Nat} (e1 : rdL h i = some [.str "deed", numW v, .bl true]) (e2 : rdL h j = some [.str "deed", numW v, .bl true]) : wpM (eqB true (.obj i) (.obj j)) h Q ↔ Q (.bl false) h := by
  have d1 : ∀ k, rdL h k = some [.str "deed", numW v, .bl true] → dat h 60 (.obj k) = some (.list [.str "deed", numD v, .bool true]) := fun k e => by
    unfold dat
    simp only [e]
    cases v <;> rfl
  refine wp_ok ?_
  unfold eqB
  simp only [d1 i e1, d1 j e2]
  have pl : (PyData.list [.str "deed", numD v, .bool true]).plain = true := by cases v <;> kernel_rfl
  have sh : SeqAt.shaped (PyData.list [.str "deed", numD v, .bool true]) = true := by cases v <;> kernel_rfl
  rw [if_pos (by rw [sh]; rfl), PySem.SeqAt.eqv_refl_plain _ pl]
  rfl

theorem nodd_kind {w : Wv} {t : Ty} (e : ∀ g, tyW (h ++ g) w = some t) (n : t ≠ .tup) : NoDd h w := fun g Q q => by
  rw [notdeed_wp (e g) n]
  have := q []
  rwa [List.append_nil] at this
theorem nodd_tup {ps : List Prt} (ok : ∀ g, ∀ p ∈ ps, POk (h ++ g) p) (l : ps.length ≤ 21) (n : deedB ps = false) : NoDd h (.tup (ps.map pW)) := fun g Q q => by
  refine deed_wp21 (ok g) l fun g' => ?_
  rw [n]
  exact q g'
def odt : List (List Prt) := [[], [.wd "give"], [.wd "give", .nm (-1)], [.wd "give", .bo true], [.wd "flow", .nm 0], [.wd "write", .wd "u", .wd "a", .wd "k"], [.wd "tick", .nm 0], [.wd "tick", .nm 1000001], [.wd "come", .wd "a", .pl []], [.wd "Go", .wd "a"],
  [.wd "come", .wd "a", .pl [1, 1]], [.wd "come", .wd "a", .pl [64]], [.wd "away", .wd "A"], [.wd "away", .nm 5], [.wd "write", .wd "u", .wd "a", .wd "k", .nm 1000000001]]
def pokB : Prt → Bool
  | .wd x => decide (x.length ≤ 1000)
  | .nm _ => true
  | .pl is => decide (is.length ≤ 64)
  | .bo _ => true
  | .ls _ => false
theorem pok_B {q : Prt} (b : pokB q = true) (h : Hm) : POk h q := by
  cases q with
  | wd x => exact of_decide_eq_true (p := x.length ≤ 1000) b
  | nm i => trivial
  | pl is => exact of_decide_eq_true (p := is.length ≤ 64) b
  | bo b => trivial
  | ls i => cases b
theorem odt_no : ∀ ps ∈ odt, deedB ps = false ∧ (∀ q ∈ ps, pokB q = true) ∧ ps.length ≤ 21 := by decide +kernel
theorem more1 : (A1 ++ A2 ++ A3).all (fun d => !deedB (d ++ [.nm 0])) = true := by decide +kernel
theorem more2 : (A4 ++ A5 ++ A6).all (fun d => !deedB (d ++ [.nm 0])) = true := by decide +kernel
theorem more {d : List Prt} (m : d ∈ allD) : deedB (d ++ [.nm 0]) = false := by
  unfold allD at m
  simp only [List.mem_append] at m
  have t : d ∈ A1 ++ A2 ++ A3 ∨ d ∈ A4 ++ A5 ++ A6 := by
    simp only [List.mem_append]
    rcases m with ((((m | m) | m) | m) | m) | m
    · exact .inl (.inl (.inl m))
    · exact .inl (.inl (.inr m))
    · exact .inl (.inr m)
    · exact .inr (.inl (.inl m))
    · exact .inr (.inl (.inr m))
    · exact .inr (.inr m)
  rcases t with t | t
  · have := List.all_eq_true.mp more1 d t
    simpa using this
  · have := List.all_eq_true.mp more2 d t
    simpa using this
theorem come_no (j : Nat) : deedB [.wd "come", .wd "a", .ls j] = false := by kernel_rfl
def tW (ps : List Prt) : Wv := .tup (ps.map pW)
def odA (d : List Prt) (j : Nat) : List Wv := [.non, tW [], tW (d ++ [.nm 0]), .obj j, tW [.wd "give"], tW [.wd "give", .nm (-1)], tW [.wd "give", .bo true], tW [.wd "flow", .nm 0]]
def odB : List Wv := [tW [.wd "write", .wd "u", .wd "a", .wd "k"], tW [.wd "tick", .nm 0], tW [.wd "tick", .nm 1000001], tW [.wd "come", .wd "a", .pl []], tW [.wd "Go", .wd "a"]]
def odC (j : Nat) : List Wv := [tW [.wd "come", .wd "a", .pl [1, 1]], tW [.wd "come", .wd "a", .ls j], tW [.wd "come", .wd "a", .pl [64]], tW [.wd "away", .wd "A"], tW [.wd "away", .nm 5], .int 7]
def odD : List Wv := [tW [.wd "write", .wd "u", .wd "a", .wd "k", .nm 1000000001]]
def odds (d : List Prt) (j1 j2 : Nat) : List Wv := odA d j1 ++ odB ++ odC j2 ++ odD
theorem odd_no {d : List Prt} {j1 j2 : Nat} {ws us : List Wv} (m : d ∈ allD) (e1 : h[j1]? = some (.lst ws)) (e2 : h[j2]? = some (.lst us)) : ∀ w ∈ odds d j1 j2, NoDd h w := fun w hw => by
  have t : ∀ ps ∈ odt, NoDd h (tW ps) := fun ps hp => nodd_tup (fun g q hq => pok_B ((odt_no ps hp).2.1 q hq) _) (odt_no ps hp).2.2 (odt_no ps hp).1
  have c := chk_good (of_all m)
  unfold odds odA odB odC odD at hw
  simp only [List.mem_append, List.mem_cons, List.not_mem_nil, or_false] at hw
  rcases hw with ((hw | hw) | hw) | hw
  · rcases hw with rfl | rfl | rfl | rfl | rfl | rfl | rfl | rfl
    · exact nodd_kind (t := .non) (fun g => rfl) (by decide)
    · exact t _ (by simp [odt])
    · refine nodd_tup (fun g q hq => ?_) (by have := c.2.2.2.2.2.2; simp; omega) (more m)
      rcases List.mem_append.mp hq with hq | hq
      · have := c.1
        unfold dGood at this
        rw [Bool.and_eq_true] at this
        exact pok_of this.2 _ q hq
      · rw [List.mem_singleton.mp hq]; trivial
    · exact nodd_kind (t := .lst) (fun g => lst_ty (get_app e1 g)) (by decide)
    · exact t _ (by simp [odt])
    · exact t _ (by simp [odt])
    · exact t _ (by simp [odt])
    · exact t _ (by simp [odt])
  · rcases hw with rfl | rfl | rfl | rfl | rfl <;> exact t _ (by simp [odt])
  · rcases hw with rfl | rfl | rfl | rfl | rfl | rfl
    · exact t _ (by simp [odt])
    · refine nodd_tup (fun g q hq => ?_) (by simp) (come_no j2)
      simp only [List.mem_cons, List.not_mem_nil, or_false] at hq
      rcases hq with rfl | rfl | rfl
      · show ("come" : PySem.Str).length ≤ 1000; decide +kernel
      · show ("a" : PySem.Str).length ≤ 1000; decide +kernel
      · exact ⟨_, get_app e2 g⟩
    · exact t _ (by simp [odt])
    · exact t _ (by simp [odt])
    · exact t _ (by simp [odt])
    · exact nodd_kind (t := .int) (fun g => rfl) (by decide)
  · rw [hw]; exact t _ (by simp [odt])
end
end GR61

set_option maxRecDepth 100000
set_option maxHeartbeats 4000000

namespace GR61
open PySem PySem.Spec PyProof.Rows L2 K01 MM GP SP SG SC TX
section
variable {h : Hm} {p : Nat} {Q : Wv → Hm → Prop} {P : Fl × MM.Env → Hm → Prop}
theorem add_at {i : Nat} {ws us : List Wv} {R : Wv → Hm → Prop} (e : h[i]? = some (.lst ws)) (l : ws.length + us.length ≤ 1000) (q : ∀ g j, (h ++ g)[j]? = some (.lst (ws ++ us)) → h.length ≤ j → R (.obj j) (h ++ g)) : wpM (addM (.obj i) (.obj h.length)) (h ++ [.lst us]) R := by
  rw [wp_add_lst (lst_of (get_app e _)) (lst_of MM.at_last) (by omega)]
  rw [List.append_assoc]
  refine q _ _ ?_ (by rw [List.length_append]; omega)
  rw [← List.append_assoc]
  exact MM.at_last
theorem odd_wp {d : List Prt} (Po : SP.Pool h p) (m : d ∈ allD) (q : ∀ w h2, Gp p h h2 → NoDd h2 w → Q w h2) : wpM (m__law_odd [.obj p, dW d]) h Q := by
  have lp := pool_lt Po
  rw [o_row, wp_fun2]
  simp only [startM, List.map_cons, List.map_nil, List.replicate_succ, List.replicate_zero, List.cons_append, List.nil_append]
  rw [wp_seq]
  show wpM (o1 [some (.obj p), some (.tup (d.map pW)), none]) h _
  simp only [o1, MM.wpq, startM, Ty.nm, if_true, if_false, Nat.reduceAdd, Nat.reduceSub, reduceCtorEq]
  have c := (chk_good (of_all m)).2.2.2.2.2.2
  refine ⟨sz (by simp), sz (by simp), ?_⟩
  rw [addTup (by simp; omega)]
  have el : listOf [.tup (d.map pW)] h = .ok (.obj h.length) (h ++ [.lst (d.map pW)]) := rfl
  rw [wp_ok el]
  refine ⟨sz (by simp), sz (by simp), sz (by simp), sz (by simp), sz (by simp), ?_⟩
  have e1 : (h ++ [Ob.lst (d.map pW)] ++ [Ob.lst (odA d h.length)])[h.length]? = some (.lst (d.map pW)) := get_app MM.at_last _
  have a1 : (h ++ [Ob.lst (d.map pW)] ++ [Ob.lst (odA d h.length)])[(h ++ [Ob.lst (d.map pW)]).length]? = some (.lst (odA d h.length)) := MM.at_last
  have t0 : tW (d ++ [.nm 0]) = .tup (d.map pW ++ [.int 0]) := by unfold tW; rw [List.map_append]; rfl
  show wpM (o2 [_, _, _]) (h ++ [Ob.lst (d.map pW)] ++ [Ob.lst [_, _, .tup (d.map pW ++ [.int 0]), _, _, _, _, _]]) _
  rw [← t0]
  show wpM (o2 [some (.obj p), some (.tup (d.map pW)), some (.obj (h ++ [Ob.lst (d.map pW)]).length)]) (h ++ [Ob.lst (d.map pW)] ++ [Ob.lst (odA d h.length)]) _
  have G1 : Gp p h (h ++ [Ob.lst (d.map pW)] ++ [Ob.lst (odA d h.length)]) := ((Gp.of Po).app _).app _
  have n1 : h.length ≠ p := by omega
  generalize (h ++ [Ob.lst (d.map pW)]).length = i1 at a1 ⊢
  generalize h ++ [Ob.lst (d.map pW)] ++ [Ob.lst (odA d h.length)] = h1 at e1 a1 G1 ⊢
  generalize h.length = j1 at e1 a1 n1 ⊢
  simp only [o2, MM.wpq, startM, Ty.nm, if_true, if_false, Nat.reduceAdd, Nat.reduceSub, reduceCtorEq]
  refine ⟨sz (by simp), sz (by simp), ?_⟩
  rw [wp_pow (by decide), wp_add_int]
  refine ⟨sz (by simp), sz (by simp), sz (by simp), sz (by simp), sz (by simp), ?_⟩
  refine add_at (us := odB) a1 (by simp [odA, odB]) fun g2 i2 a2 l2 => ?_
  have e12 := get_app e1 g2
  have G2 := G1.app g2
  have lp1 : p < h1.length := pool_lt G1.po
  generalize h1 ++ g2 = h2 at a2 e12 G2 ⊢
  show wpM (o3 [some (.obj p), some (.tup (d.map pW)), some (.obj i2)]) h2 _
  simp only [o3, MM.wpq, startM, Ty.nm, if_true, if_false, Nat.reduceAdd, Nat.reduceSub, reduceCtorEq]
  refine ⟨sz (by simp), sz (by simp), sz (by simp), sz (by simp), sz (by simp), sz (by simp), sz (by simp), sz (by simp), sz (by simp), ?_⟩
  have e2 : (h2 ++ [Ob.lst [.int 1]])[h2.length]? = some (.lst [.int 1]) := MM.at_last
  refine add_at (h := h2 ++ [Ob.lst [.int 1]]) (us := odC h2.length) (get_app a2 _) (by simp [odA, odB, odC]) fun g3 i3 a3 l3 => ?_
  have e13 := get_app (get_app e12 [Ob.lst [.int 1]]) g3
  have e23 := get_app e2 g3
  have G3 := (G2.app [Ob.lst [.int 1]]).app g3
  have lp2 : p < h2.length := pool_lt G2.po
  have n2 : h2.length ≠ p := by omega
  have n3 : i3 ≠ p := by rw [List.length_append] at l3; omega
  generalize h2 ++ [Ob.lst [.int 1]] ++ g3 = h3 at a3 e13 e23 G3 ⊢
  generalize h2.length = j2 at a3 e23 n2 ⊢
  show wpM (o4 [some (.obj p), some (.tup (d.map pW)), some (.obj i3)]) h3 _
  simp only [o4, MM.wpq, startM, Ty.nm, if_true, if_false, Nat.reduceAdd, Nat.reduceSub, reduceCtorEq]
  rw [wp_pow (by decide), wp_add_int]
  refine ⟨sz (by simp), sz (by simp), ?_⟩
  refine add_at (us := odD) a3 (by simp [odA, odB, odC, odD]) fun g4 i4 a4 l4 => ?_
  have G4 := G3.app g4
  have lp3 : p < h3.length := pool_lt G3.po
  rw [← draw_is]
  refine draw_wp G4.po (by decide) (by decide) fun k h5 g5 k0 k1 => ?_
  obtain ⟨w, mw, at_⟩ := atI_ok (xs := odds d j1 j2) k0 (by simpa [odds, odA, odB, odC, odD] using k1)
  rw [wp_ix_obj (rd_of (g5.get a4 (by omega))) at_]
  exact q w h5 (G4.trans g5) (odd_no m (g5.get (get_app e13 g4) n1) (g5.get (get_app e23 g4) n2) w mw)
end
end GR61

set_option maxRecDepth 100000
set_option maxHeartbeats 4000000

namespace SC
open PySem PySem.Spec PyProof.Rows L2 K01 MM GP SP SG
section
variable {h : Hm} {ρ : MM.Env}
end

def byD (vs : List Ver) (k : MM.DK) : Option Ver := vs.reverse.find? fun v => decide (v.d = k)
def jRow (v : Ver) : MM.DK × Wv := (v.d, vW v)
def jW (vs : List Ver) : List (MM.DK × Wv) := putAll [] (vs.map jRow)
def jV (vs : List Ver) : List Ver := (sortK (dsV vs)).filterMap fun k => if k ∈ knAll vs then none else byD vs k
end SC

set_option maxRecDepth 100000
set_option maxHeartbeats 4000000

namespace SC
open PySem PySem.Spec PyProof.Rows L2 K01 MM GP SP SG
structure Fw (vs : List Ver) : Prop where
  len : vs.length ≤ 900
  kn : ∀ v ∈ vs, v.k.length ≤ 900
section
variable {h : Hm} {i : Nat} {vs : List Ver} {Q : Wv → Hm → Prop}
def allK (vs : List Ver) : List MM.DK := sortK (dsV vs ++ knAll vs)
def worthsV (vs : List Ver) : List Wv := (vs.filter fun v => !markB v.w).map (·.w)
end
end SC

set_option maxRecDepth 100000
set_option maxHeartbeats 400000

namespace SC
open PySem PySem.Spec PyProof.Rows L2 K01 MM GP SP SG
structure Sh (n k : Nat) (d : PyData) : Prop where
  s : d.showable = true
  l : d.shown.length ≤ n
  dp : d.depth ≤ k
  nd : d.hasDict = false
theorem Sh.mono {n m k j : Nat} {d : PyData} (a : Sh n k d) (h1 : n ≤ m) (h2 : k ≤ j) : Sh m j d := ⟨a.s, Nat.le_trans a.l h1, Nat.le_trans a.dp h2, a.nd⟩
theorem sh_all {n k : Nat} : ∀ {ds : List PyData}, (∀ d ∈ ds, Sh n k d) → PyData.showableAll ds = true ∧ piled (PyData.shownAll ds) ≤ (n + 2) * ds.length ∧ PyData.depthAll ds ≤ k ∧ PyData.hasDictAll ds = false
  | [], _ => ⟨by rw [PyData.showableAll], by rw [PyData.shownAll, piled_nil]; exact Nat.zero_le _, by rw [PyData.depthAll]; exact Nat.zero_le _, by rw [PyData.hasDictAll]⟩
  | d :: ds, h => by
    obtain ⟨h1, h2, h3, h4⟩ := h d List.mem_cons_self
    obtain ⟨c1, c2, c3, c4⟩ := sh_all (ds := ds) fun e he => h e (List.mem_cons_of_mem _ he)
    refine ⟨by rw [PyData.showableAll, h1, c1]; rfl, ?_, by rw [PyData.depthAll]; omega, by rw [PyData.hasDictAll, h4, c4]; rfl⟩
    rw [PyData.shownAll, piled_cons, List.length_cons, Nat.mul_succ]
    omega
theorem sh_lst {n k : Nat} {ds : List PyData} (h : ∀ d ∈ ds, Sh n k d) : Sh ((n + 2) * ds.length + 2) (k + 1) (.list ds) := by
  obtain ⟨c1, c2, c3, c4⟩ := sh_all h
  have := listText_le (PyData.shownAll ds)
  exact ⟨by rw [PyData.showable]; exact c1, by rw [PyData.shown]; omega, by rw [PyData.depth]; omega, by rw [PyData.hasDict]; exact c4⟩
def shB (n k : Nat) (d : PyData) : Bool := d.showable && (decide (d.shown.length ≤ n) && (decide (d.depth ≤ k) && !d.hasDict))
theorem sh_of {n k : Nat} {d : PyData} (h : shB n k d = true) : Sh n k d := by
  unfold shB at h
  simp only [Bool.and_eq_true, decide_eq_true_eq, Bool.not_eq_true'] at h
  exact ⟨h.1, h.2.1, h.2.2.1, h.2.2.2⟩
theorem rep_sh {h : Hm} {w : Wv} {d : PyData} {n : Nat} (e : dat h 60 w = some d) (s : Sh n 40 d) (l : n ≤ 10000000) : repA [w] h = .ok (.str d.shown) h := by
  unfold repA
  simp only [e]
  rw [if_pos ?_]
  rw [s.s, s.nd, decide_eq_true s.dp, decide_eq_true (by rw [sizeLine_eq]; have := s.l; omega)]
  rfl
end SC

set_option maxRecDepth 100000
set_option maxHeartbeats 4000000

namespace GR61
open PySem PySem.Spec PyProof.Rows L2 K01 MM GP SP SG SC TX
section
variable {h : Hm} {p i j : Nat} {Q : Wv → Hm → Prop} {P : Fl × MM.Env → Hm → Prop} {ds : List (List Prt)}
def pD : Prt → PyData
  | .wd x => .str x
  | .nm i => .int i
  | .pl is => .tuple (is.map .int)
  | .bo b => .bool b
  | .ls _ => .none
def dD (d : List Prt) : PyData := .tuple (d.map pD)
theorem mapM_all {α β γ : Type} {f : α → β} {g : β → Option γ} {k : α → γ} : ∀ {xs : List α}, (∀ x ∈ xs, g (f x) = some (k x)) → (xs.map f).mapM g = some (xs.map k)
  | [], _ => rfl
  | x :: xs, a => by
    rw [List.map_cons, List.mapM_cons, a x List.mem_cons_self, mapM_all fun y hy => a y (List.mem_cons_of_mem _ hy)]
    rfl
theorem dat_part {q : Prt} (s : showB q = true) : dat h 58 (pW q) = some (pD q) := by
  cases q with
  | pl is =>
    show ((is.map Wv.int).mapM (dat h 57)).map PyData.tuple = _
    rw [mapM_all (f := Wv.int) (g := dat h 57) (k := PyData.int) fun x _ => rfl]
    rfl
  | bo b => cases s
  | ls k => cases s
  | _ => rfl
theorem dat_deed {d : List Prt} (g : dGood d = true) : dat h 59 (dW d) = some (dD d) := by
  unfold dGood dShow at g
  simp only [Bool.and_eq_true] at g
  have sb := List.all_eq_true.mp g.2.1.1
  show ((d.map pW).mapM (dat h 58)).map PyData.tuple = _
  rw [mapM_all (k := pD) fun x hx => dat_part (sb x hx)]
  rfl
theorem dat_ds (e : rdL h i = some (ds.map dW)) (ok : ∀ d ∈ ds, d ∈ allD) : dat h 60 (.obj i) = some (.list (ds.map dD)) := by
  unfold dat
  simp only [e]
  rw [mapM_all (k := dD) fun d hd => dat_deed (chk_good (of_all (ok d hd))).1]
  rfl
theorem sh1 : (A1 ++ A2 ++ A3).all (fun d => shB 1000 5 (dD d)) = true := by decide +kernel
theorem sh2 : (A4 ++ A5 ++ A6).all (fun d => shB 1000 5 (dD d)) = true := by decide +kernel
theorem sh_deed {d : List Prt} (m : d ∈ allD) : Sh 1000 5 (dD d) := by
  unfold allD at m
  simp only [List.mem_append] at m
  have t : d ∈ A1 ++ A2 ++ A3 ∨ d ∈ A4 ++ A5 ++ A6 := by
    simp only [List.mem_append]
    rcases m with ((((m | m) | m) | m) | m) | m
    · exact .inl (.inl (.inl m))
    · exact .inl (.inl (.inr m))
    · exact .inl (.inr m)
    · exact .inr (.inl (.inl m))
    · exact .inr (.inl (.inr m))
    · exact .inr (.inr m)
  rcases t with t | t
  · exact sh_of (List.all_eq_true.mp sh1 d t)
  · exact sh_of (List.all_eq_true.mp sh2 d t)
theorem rep_ds (e : rdL h i = some (ds.map dW)) (ok : ∀ d ∈ ds, d ∈ allD) (few : ds.length ≤ 100) : repA [.obj i] h = .ok (.str (PyData.list (ds.map dD)).shown) h := by
  have s : Sh ((1000 + 2) * (ds.map dD).length + 2) 6 (.list (ds.map dD)) := sh_lst fun d hd => by
    obtain ⟨x, hx, rfl⟩ := List.mem_map.mp hd
    exact sh_deed (ok x hx)
  rw [List.length_map] at s
  exact rep_sh (dat_ds e ok) (s.mono (m := 1000000) (by omega) (by omega)) (by omega)
theorem ten : TL.tl ("\n" : PySem.Str) = 10 :: [] ∧ (("\n" : PySem.Str).cps.all (· < 256)) = true ∧ TL.tl (" " : PySem.Str) = 32 :: [] ∧ ((" " : PySem.Str).cps.all (· < 256)) = true := by decide +kernel
theorem split_deed {d : List Prt} (m : d ∈ allD) : Txt.split (dText d) " " = d.map partT := by
  have c := chk_good (of_all m)
  refine TL.split_join ten.2.2.1 ten.2.2.2 (fun e => ?_) c.2.2.2.1
  have := c.2.1
  rw [e] at this
  cases this
theorem read_deed_all {d : List Prt} (m : d ∈ allD) (q : ∀ g, Q (dW d) (h ++ g)) : wpM (m_read_deed [.str (dText d)]) h Q := by
  have c := chk_good (of_all m)
  have g := c.1
  unfold dGood at g
  rw [Bool.and_eq_true] at g
  refine rddeed_wp (by have := dText_len c.1; omega) (split_deed m) (by rw [List.length_map]; exact c.2.2.2.2.2.2) c.2.1 c.2.2.1 (fun h => pok_of g.2 h) q
theorem split_all (ne : ds ≠ []) (ok : ∀ d ∈ ds, d ∈ allD) : Txt.split (wText ds) "\n" = ds.map dText := by
  refine TL.split_join ten.1 ten.2.1 (fun e => ne (List.map_eq_nil_iff.mp e)) fun x hx => ?_
  obtain ⟨d, hd, rfl⟩ := List.mem_map.mp hx
  exact (chk_good (of_all (ok d hd))).2.2.2.2.1
theorem wText_len (few : ds.length ≤ 500) (ok : ∀ d ∈ ds, d ∈ allD) : (wText ds).length ≤ 1000000 := by
  unfold wText
  rw [TL.join_eq]
  have := StrLaws.join_length_le ("\n" : PySem.Str) (ds.map dText)
  have s := sum_le (n := 1000) (ys := (ds.map dText).map (·.length)) fun y hy => by
    obtain ⟨z, hz, rfl⟩ := List.mem_map.mp hy
    obtain ⟨d, hd, rfl⟩ := List.mem_map.mp hz
    exact dText_len (chk_good (of_all (ok d hd))).1
  rw [List.length_map, List.length_map] at s
  rw [comma1.2.2, List.length_map] at this
  omega
theorem wText_pos (ne : ds ≠ []) (ok : ∀ d ∈ ds, d ∈ allD) : (wText ds).length ≠ 0 := fun z => by
  have e : wText ds = "" := by
    have l : (wText ds).cps.toList.length = 0 := Array.length_toList.trans z
    have : (wText ds).cps = #[] := by
      rw [← Array.toList_inj]
      exact List.eq_nil_of_length_eq_zero l
    show (⟨(wText ds).cps⟩ : PySem.Str) = _
    rw [this]
    decide +kernel
  have s := split_all ne ok
  rw [e] at s
  have t : Txt.split "" ("\n" : PySem.Str) = ([""] : List PySem.Str) := by decide +kernel
  rw [t] at s
  cases ds with
  | nil => exact ne rfl
  | cons d ds =>
    rw [List.map_cons] at s
    have z : ("" : PySem.Str) = dText d := by injection s
    have c := (chk_good (of_all (ok d List.mem_cons_self))).2.2.2.2.2.1
    rw [← z] at c
    exact c (by decide +kernel)
theorem read_all_wp (ok : ∀ d ∈ ds, d ∈ allD) (few : ds.length ≤ 500) (q : ∀ g k, rdL (h ++ g) k = some (ds.map dW) → Q (.obj k) (h ++ g)) : wpM (m_read_weaving [.str (wText ds)]) h Q := by
  by_cases ne : ds = []
  · subst ne
    have e : wText [] = "" := by decide +kernel
    rw [e]
    simp only [m_read_weaving, m_read_rows, MM.wpq, startM, Ty.nm, if_true, if_false, Nat.reduceAdd, Nat.reduceSub, reduceCtorEq, ty_str, Ty.sub, decide_true, Bool.true_or, Bool.not_true]
    have et : truM (.str "") h = .ok false h := by
      show (if ("" : PySem.Str).length ≤ sizeLine then Out.ok ((("" : PySem.Str).length : Int) != 0) h else .no) = _
      have : ("" : PySem.Str).length = 0 := by decide +kernel
      rw [this, if_pos (Nat.zero_le _)]
      rfl
    rw [wp_ok et]
    simp only [MM.wpq, startM, Ty.nm, if_true, if_false, Nat.reduceAdd, Nat.reduceSub, reduceCtorEq, wp_enum]
    refine ⟨sz (by simp), ?_⟩
    refine wp_src_row (row_obj (rdL_last (h := h) (ws := []))) fun s a c => ?_
    refine for_wp (its := []) (fun k ρ h2 => h2 = h ++ [.lst []] ∧ ∃ t y z, ρ = [some (.str ""), some (.glob "read_deed"), some (.obj h.length), t, y, z]) (fun k ρ h2 z => ?_) (fun k u ρ h2 e z => ?_) (fun ρ h2 z => ?_) _ 0 _ _ (by show _ < s.cnt + 1; rw [a]; decide) (Nat.zero_le _) ⟨rfl, none, none, none, rfl⟩
    · obtain ⟨rfl, _⟩ := z
      show (s.at_ k _).map _ = _
      have := c k []
      rw [List.append_nil] at this
      rw [this]; rfl
    · cases e
    · obtain ⟨rfl, t, y, z, rfl⟩ := z
      simp only [MM.wpq, startM, Ty.nm, if_true, if_false, Nat.reduceAdd, Nat.reduceSub, reduceCtorEq]
      exact q _ _ rdL_last
  · refine rdrows_wp (ds := ds) (wText_len few ok) (wText_pos ne ok) (split_all ne ok) (by rw [List.length_map]; omega) (by rw [List.length_map]) (fun k y d ey ed h Q q => ?_) q
    rw [List.getElem?_map, ed] at ey
    cases ey
    exact read_deed_all (ok d (List.mem_of_getElem? ed)) q
end
end GR61

set_option maxRecDepth 100000
set_option maxHeartbeats 4000000

namespace GR61
open PySem PySem.Spec PyProof.Rows L2 K01 MM GP SP SG SC TX
abbrev F9 (ls : List Int) (a1 a2 a3 a4 a5 a6 a7 a8 : Option Wv) : MM.Env := [some (.scr ls), a1, a2, a3, a4, a5, a6, a7, a8]
section
variable {h : Hm} {p i j : Nat} {Q : Wv → Hm → Prop} {P : Fl × MM.Env → Hm → Prop} {ds : List (List Prt)}
variable {ls : List Int} {a1 a2 a3 a4 a5 a6 a7 a8 : Option Wv}
theorem l22_wp (Po : SP.Pool h p) (q : ∀ h2 i ds, Gp p h h2 → LD h2 p i ds → (∀ d ∈ ds, d ∈ allD) → ds.length ≤ 9 → P (.nx, F9 ls a1 a2 (some (.obj p)) (some (.obj i)) a5 a6 a7 a8) h2) : wpM (l2_2 (F9 ls a1 a2 (some (.obj p)) a4 a5 a6 a7 a8)) h P := by
  simp only [l2_2, MM.wpq, startM, Ty.nm, if_true, if_false, Nat.reduceAdd, Nat.reduceSub, reduceCtorEq]
  rw [← draw_is]
  refine draw_wp Po (by decide) (by decide) fun n h1 g1 n0 n1 => ?_
  try simp only [MM.wpq, startM, Ty.nm, if_true, if_false, Nat.reduceAdd, Nat.reduceSub, reduceCtorEq]
  rw [wp_rng1 (by unfold rgB; rw [Bool.and_eq_true, decide_eq_true_eq, decide_eq_true_eq]; omega)]
  refine lc_wp (its := (List.range n.toNat).map fun (k : Nat) => Wv.int (0 + k)) (fun k acc h2 => Gp p h h2 ∧ k ≤ n.toNat ∧ ∃ ds, acc = ds.map dW ∧ (∀ d ∈ ds, d ∈ allD) ∧ ds.length = k) (fun k acc h2 z => its_rng k h2) (fun k acc h2 z => ?_) (fun k w acc h2 ek z => ?_) (fun acc h2 z => ?_) _ 0 [] _ (by simp [sR]) (Nat.zero_le _) ⟨g1, Nat.zero_le _, [], rfl, (fun d m => nomatch m), rfl⟩
  · obtain ⟨_, kl, ds, rfl, _, l⟩ := z
    rw [List.length_map, l, sizeLine_eq]; omega
  · obtain ⟨g, _, ds, rfl, ok, l⟩ := z
    have kl := (List.getElem?_eq_some_iff.mp ek).1
    rw [List.length_map, List.length_range] at kl
    simp only [wipeM, MM.wpq, startM, Ty.nm, if_true, if_false, Nat.reduceAdd, Nat.reduceSub, reduceCtorEq]
    refine deed_draw_wp g.po fun d hd h3 g3 => ?_
    refine ⟨g.trans g3, kl, ds ++ [d], by rw [List.map_append]; rfl, fun x hx => ?_, by rw [List.length_append, l]; rfl⟩
    rcases List.mem_append.mp hx with hx | hx
    · exact ok x hx
    · rw [List.mem_singleton.mp hx]; exact hd
  · obtain ⟨g, _, ds, rfl, ok, l⟩ := z
    rw [List.length_map, List.length_range] at l
    have lp := pool_lt g.po
    exact q _ _ ds (g.app _) ⟨MM.at_last, by omega⟩ ok (by omega)
theorem l23_wp (e : h[i]? = some (.lst (ds.map dW))) (ok : ∀ d ∈ ds, d ∈ allD) (few : ds.length ≤ 9) (q : ∀ g, P (.nx, F9 ls a1 a2 a3 (some (.obj i)) (some (.str (wText ds))) a6 a7 a8) (h ++ g)) : wpM (l2_3 (F9 ls a1 a2 a3 (some (.obj i)) a5 a6 a7 a8)) h P := by
  simp only [l2_3, MM.wpq, startM, Ty.nm, if_true, if_false, Nat.reduceAdd, Nat.reduceSub, reduceCtorEq, wp_join]
  have ez : srcOf (.obj i) h = .ok (sL (ds.map dW).length i) h := by unfold srcOf; simp only [rd_of e]
  rw [wp_ok ez]
  refine lc_wp (its := ds.map dW) (fun k acc h2 => (∃ g2, h2 = h ++ g2) ∧ k ≤ ds.length ∧ acc = (ds.take k).map fun p => .str (dText p)) (fun k acc h2 z => ?_) (fun k acc h2 z => ?_) (fun k u acc h2 ek z => ?_) (fun acc h2 z => ?_) _ 0 [] _ (by show _ < (ds.map dW).length + 1; omega) (Nat.zero_le _) ⟨⟨[], by simp⟩, Nat.zero_le _, rfl⟩
  · obtain ⟨⟨g2, rfl⟩, _⟩ := z
    exact its_L (rd_of e) k g2
  · rw [z.2.2, List.length_map, List.length_take, sizeLine_eq]; omega
  · obtain ⟨⟨g2, rfl⟩, kl, rfl⟩ := z
    rw [List.getElem?_map] at ek
    cases ey : ds[k]? with
    | none => rw [ey] at ek; cases ek
    | some d =>
      rw [ey] at ek
      cases ek
      simp only [wipeM, MM.wpq, startM, Ty.nm, if_true, if_false, Nat.reduceAdd, Nat.reduceSub, reduceCtorEq]
      refine dtext_wp (of_all (ok d (List.mem_of_getElem? ey))) fun g3 => ?_
      refine ⟨⟨g2 ++ g3, by simp only [List.append_assoc]⟩, (List.getElem?_eq_some_iff.mp ey).1, ?_⟩
      rw [List.take_succ, ey, List.map_append]
      rfl
  · obtain ⟨⟨g2, rfl⟩, _, rfl⟩ := z
    rw [List.length_map, List.take_length]
    have e' := rdL_last (h := h ++ g2) (ws := ds.map fun p => .str (dText p))
    rw [show (ds.map fun p => Wv.str (dText p)) = (ds.map dText).map .str from by rw [List.map_map]; rfl] at e' ⊢
    rw [wp_joinL e' (small_join (n := 0) (by rw [List.length_map]; omega) (fun y hy => by
      obtain ⟨p, hp, rfl⟩ := List.mem_map.mp hy
      have := dText_len (chk_good (of_all (ok p hp))).1
      omega) comma1.2.2), List.append_assoc]
    exact q _
theorem good_of (ok : ∀ d ∈ ds, d ∈ allD) : ∀ d ∈ ds, dGood d = true := fun d hd => (chk_good (of_all (ok d hd))).1
theorem l24_wp (e : h[i]? = some (.lst (ds.map dW))) (ok : ∀ d ∈ ds, d ∈ allD) (few : ds.length ≤ 9) (q : ∀ g, P (.nx, F9 ls a1 a2 a3 (some (.obj i)) (some (.str (wText ds))) a6 a7 a8) (h ++ g)) : wpM (l2_4 (F9 ls a1 a2 a3 (some (.obj i)) (some (.str (wText ds))) a6 a7 a8)) h P := by
  simp only [l2_4, MM.wpq, startM, Ty.nm, if_true, if_false, Nat.reduceAdd, Nat.reduceSub, reduceCtorEq]
  refine show_ok e (by omega) (good_of ok) fun g => ?_
  rw [wp_neS]
  refine ⟨_, rfl, ?_⟩
  rw [decide_eq_true rfl, Bool.not_true, if_neg Bool.false_ne_true]
  refine read_all_wp ok (by omega) fun g2 k ek => ?_
  rw [wp_ok (rep_ds ek ok (by omega))]
  try simp only [MM.wpq, startM, Ty.nm, if_true, if_false, Nat.reduceAdd, Nat.reduceSub, reduceCtorEq]
  rw [wp_ok (rep_ds (rd_of (get_app (get_app e g) g2)) ok (by omega))]
  try simp only [MM.wpq, startM, Ty.nm, if_true, if_false, Nat.reduceAdd, Nat.reduceSub, reduceCtorEq]
  rw [show (!decide True) = false from rfl, if_neg Bool.false_ne_true]
  rw [List.append_assoc]
  exact q _
theorem l25_wp (Po : SP.Pool h p) (L : LD h p i ds) (few : ds.length ≤ 9) (q : ∀ h2 (k : Nat), Gp p h h2 → k ≤ ds.length → P (.nx, F9 ls a1 a2 (some (.obj p)) (some (.obj i)) a5 (some (.int (k : Nat))) a7 a8) h2) : wpM (l2_5 (F9 ls a1 a2 (some (.obj p)) (some (.obj i)) a5 a6 a7 a8)) h P := by
  simp only [l2_5, MM.wpq, startM, Ty.nm, if_true, if_false, Nat.reduceAdd, Nat.reduceSub, reduceCtorEq]
  rw [wp_len_obj (rd_of L.1), wp_add_int, ← draw_is]
  refine draw_wp Po (by rw [List.length_map]; omega) (by rw [List.length_map]; omega) fun n h2 g n0 n1 => ?_
  obtain ⟨k, rfl⟩ := Int.eq_ofNat_of_zero_le n0
  rw [List.length_map] at n1
  exact q h2 k g (by omega)
theorem flow_in : ([.wd "flow"] : List Prt) ∈ allD := by
  unfold allD
  simp only [List.mem_append]
  refine .inl (.inl (.inr ?_))
  exact List.mem_flatMap.mpr ⟨"a", by simp [ON], List.mem_flatMap.mpr ⟨"b", by simp [OT], by simp⟩⟩
theorem l26_wp {k : Nat} (Po : SP.Pool h p) (L : LD h p i ds) (ok : ∀ d ∈ ds, d ∈ allD) (few : ds.length ≤ 9) (kl : k ≤ ds.length) (q : ∀ h2 w, Gp p h h2 → NoDd h2 w → P (.nx, F9 ls (some w) a2 (some (.obj p)) (some (.obj i)) a5 (some (.int (k : Nat))) a7 a8) h2) : wpM (l2_6 (F9 ls a1 a2 (some (.obj p)) (some (.obj i)) a5 (some (.int (k : Nat))) a7 a8)) h P := by
  simp only [l2_6, MM.wpq, startM, Ty.nm, if_true, if_false, Nat.reduceAdd, Nat.reduceSub, reduceCtorEq]
  refine ⟨sz (by simp), sz (by simp), ?_⟩
  refine addD (es := [[.wd "flow"]]) Po L (by simp; omega) fun h2 g Lf => ?_
  obtain ⟨d, ed⟩ : ∃ d, (ds ++ ([[.wd "flow"]] : List (List Prt)))[k]? = some d := ⟨_, List.getElem?_eq_getElem (by simp; omega)⟩
  have md : d ∈ allD := by
    rcases List.mem_append.mp (List.mem_of_getElem? ed) with m | m
    · exact ok d m
    · rw [List.mem_singleton.mp m]; exact flow_in
  have ea : atI ((ds ++ ([[.wd "flow"]] : List (List Prt))).map dW) (k : Int) = some (dW d) := by
    have : ((ds ++ ([[.wd "flow"]] : List (List Prt))).map dW)[k]? = some (dW d) := by rw [List.getElem?_map, ed]; rfl
    have l := (List.getElem?_eq_some_iff.mp this).1
    unfold L2.atI
    have e : L2.ixN ((ds ++ ([[.wd "flow"]] : List (List Prt))).map dW).length (k : Int) = some k := by
      unfold L2.ixN
      simp
      simp at l
      omega
    rw [e]
    exact this
  rw [wp_ix_obj (rd_of Lf.1) ea]
  exact odd_wp g.po md fun w h3 g3 no => q h3 w (g.trans g3) no
theorem wp_slL {lo hi : Option Int} {ws : List Wv} (e : rdL h i = some ws) : wpM (slM (.obj i) lo hi) h Q ↔ Q (.obj h.length) (h ++ [.lst (cutW ws lo hi)]) := wp_ok (by unfold slM; simp only [e]; rfl)
theorem cut_to {α : Type} {xs : List α} {k : Nat} (l : k ≤ xs.length) : cutW xs none (some (k : Int)) = xs.take k := cutW_to l
theorem cut_from {α : Type} {xs : List α} {k : Nat} (l : k ≤ xs.length) : cutW xs (some (k : Int)) none = xs.drop k := by
  unfold cutW
  have e1 : HT.sIx xs.length 0 (some (k : Int)) = k := by
    unfold HT.sIx
    simp only []
    rw [if_neg (by omega)]
    omega
  have e2 : HT.sIx xs.length xs.length none = xs.length := rfl
  rw [e1, e2]
  exact List.take_of_length_le (by rw [List.length_drop]; exact Nat.le_refl _)
theorem l27_wp {k : Nat} {w : Wv} (e : h[i]? = some (.lst (ds.map dW))) (ok : ∀ d ∈ ds, d ∈ allD) (few : ds.length ≤ 9) (kl : k ≤ ds.length) (no : NoDd h w) (q : ∀ g, P (.nx, F9 ls (some w) a2 a3 (some (.obj i)) a5 (some (.int (k : Nat))) a7 a8) (h ++ g)) : wpM (l2_7 (F9 ls (some w) a2 a3 (some (.obj i)) a5 (some (.int (k : Nat))) a7 a8)) h P := by
  simp only [l2_7, MM.wpq, startM, Ty.nm, if_true, if_false, Nat.reduceAdd, Nat.reduceSub, reduceCtorEq]
  rw [wp_slL (rd_of e), cut_to (by rw [List.length_map]; exact kl)]
  try simp only [MM.wpq, startM, Ty.nm, if_true, if_false, Nat.reduceAdd, Nat.reduceSub, reduceCtorEq]
  refine ⟨sz (by simp), ?_⟩
  refine add_at (us := [w]) MM.at_last (by rw [List.length_take, List.length_map]; simp; omega) fun g j ej lj => ?_
  have e2 := get_app (get_app e [Ob.lst ((ds.map dW).take k)]) g
  try simp only [MM.wpq, startM, Ty.nm, if_true, if_false, Nat.reduceAdd, Nat.reduceSub, reduceCtorEq]
  rw [wp_slL (rd_of e2), cut_from (by rw [List.length_map]; exact kl)]
  try simp only [MM.wpq, startM, Ty.nm, if_true, if_false, Nat.reduceAdd, Nat.reduceSub, reduceCtorEq]
  refine add_at (us := (ds.map dW).drop k) ej (by rw [List.length_append, List.length_take, List.length_drop, List.length_map]; simp; omega) fun g2 j2 ej2 lj2 => ?_
  have ln : (ds.take k).length = k := by rw [List.length_take]; omega
  have ew : (ds.map dW).take k ++ [w] ++ (ds.map dW).drop k = (ds.take k).map dW ++ w :: (ds.map dW).drop k := by rw [List.map_take, List.append_assoc]; rfl
  rw [ew] at ej2
  refine refused_wp (v := some k) (fun Q R q => xshow_at ej2 (fun d hd => good_of ok d (List.mem_of_mem_take hd)) (fun g3 Q q => ?_) fun g3 => ?_) fun g3 m em lm => ?_
  · have := no ([Ob.lst ((ds.map dW).take k)] ++ g ++ g2 ++ g3) Q (by simpa only [List.append_assoc] using q)
    simpa only [List.append_assoc] using this
  · rw [ln]
    exact q g3
  try simp only [MM.wpq, startM, Ty.nm, if_true, if_false, Nat.reduceAdd, Nat.reduceSub, reduceCtorEq]
  refine ⟨sz (by simp), ?_⟩
  refine (eq_told (v := some k) (rdL_app em _) (by exact rdL_last)).mpr ?_
  refine ⟨_, rfl, ?_⟩
  rw [if_neg Bool.false_ne_true]
  simp only [List.append_assoc]
  exact q _
theorem lB_wp {k : Int} (k0 : 0 ≤ k) (k1 : k < 2 ^ 60) (q : ∀ h1 c1 c3 c4 c5 c6 c7 c8, P (.nx, F9 ls c1 (some (.int k)) c3 c4 c5 c6 c7 c8) h1) : wpM (l2b (F9 ls a1 (some (.int k)) a3 a4 a5 a6 a7 a8)) h P := by
  unfold l2b
  rw [wp_seq]
  simp only [l2_1, MM.wpq, startM, Ty.nm, if_true, if_false, Nat.reduceAdd, Nat.reduceSub, reduceCtorEq]
  refine pool_wp k0 k1 fun p g Po lp => ?_
  generalize h ++ g = h1 at Po ⊢
  show wpM (l2_2 (F9 ls a1 (some (.int k)) (some (.obj p)) a4 a5 a6 a7 a8)) h1 _
  refine l22_wp Po fun h2 i ds g2 L2 ok few => ?_
  show wpM (l2_3 (F9 ls a1 (some (.int k)) (some (.obj p)) (some (.obj i)) a5 a6 a7 a8)) h2 _
  refine l23_wp L2.1 ok few fun g3 => ?_
  show wpM (l2_4 (F9 ls a1 (some (.int k)) (some (.obj p)) (some (.obj i)) (some (.str (wText ds))) a6 a7 a8)) (h2 ++ g3) _
  refine l24_wp (get_app L2.1 g3) ok few fun g4 => ?_
  have L4 : LD (h2 ++ g3 ++ g4) p i ds := ⟨get_app (get_app L2.1 g3) g4, L2.2⟩
  have P4 : SP.Pool (h2 ++ g3 ++ g4) p := (((Gp.of g2.po).app g3).app g4).po
  generalize h2 ++ g3 ++ g4 = h4 at L4 P4 ⊢
  show wpM (l2_5 (F9 ls a1 (some (.int k)) (some (.obj p)) (some (.obj i)) (some (.str (wText ds))) a6 a7 a8)) h4 _
  refine l25_wp P4 L4 few fun h5 n g5 nl => ?_
  show wpM (l2_6 (F9 ls a1 (some (.int k)) (some (.obj p)) (some (.obj i)) (some (.str (wText ds))) (some (.int (n : Nat))) a7 a8)) h5 _
  refine l26_wp g5.po (L4.gp g5) ok few nl fun h6 w g6 no => ?_
  show wpM (l2_7 (F9 ls (some w) (some (.int k)) (some (.obj p)) (some (.obj i)) (some (.str (wText ds))) (some (.int (n : Nat))) a7 a8)) h6 _
  exact l27_wp ((L4.gp g5).gp g6).1 ok few nl no fun g7 => q _ _ _ _ _ _ _ _
end
end GR61

set_option maxRecDepth 100000
set_option maxHeartbeats 4000000

namespace GR61
open PySem PySem.Spec PyProof.Rows L2 K01 MM GP SP SG SC TX
section
variable {h : Hm} {p i j : Nat} {Q : Wv → Hm → Prop} {P : Fl × MM.Env → Hm → Prop}
variable {ls : List Int} {a1 a2 a3 a4 a5 a6 a7 a8 : Option Wv}
theorem refused_kind {w : Wv} {t : Ty} (e : tyW h w = some t) (n : t ≠ .lst) (q : ∀ g i, rdL (h ++ g) i = some [.str "deed", .non, .bl true] → Q (.obj i) (h ++ g)) : wpM (m__law_refused [w]) h Q := by
  refine refused_wp (v := none) (fun Q R q => xshow_kind e n ?_) fun g i ei _ => q g i ei
  have := q []
  rw [List.append_nil] at this
  exact this
theorem l11_wp {w : Wv} {t : Ty} (e : tyW h w = some t) (n : t ≠ .lst) (q : ∀ g, P (.nx, F9 ls (some w) a2 a3 a4 a5 a6 a7 a8) (h ++ g)) : wpM (l1b (F9 ls (some w) a2 a3 a4 a5 a6 a7 a8)) h P := by
  simp only [l1b, l1_1, MM.wpq, startM, Ty.nm, if_true, if_false, Nat.reduceAdd, Nat.reduceSub, reduceCtorEq]
  refine refused_kind e n fun g i ei => ?_
  try simp only [MM.wpq, startM, Ty.nm, if_true, if_false, Nat.reduceAdd, Nat.reduceSub, reduceCtorEq]
  refine ⟨sz (by simp), ?_⟩
  refine (eq_told (v := none) (rdL_app ei _) (by exact rdL_last)).mpr ?_
  refine ⟨_, rfl, ?_⟩
  rw [if_neg Bool.false_ne_true, List.append_assoc]
  exact q _
theorem l1_wp (q : ∀ h1 c1, P (.nx, F9 ls c1 a2 a3 a4 a5 a6 a7 a8) h1) : wpM (l1 (F9 ls a1 a2 a3 a4 a5 a6 a7 a8)) h P := by
  simp only [l1, l1i, MM.wpq, startM, Ty.nm, if_true, if_false, Nat.reduceAdd, Nat.reduceSub, reduceCtorEq, wp_dnew]
  refine ⟨sz (by simp), sz (by simp), sz (by simp), ?_⟩
  have ed : (h ++ [Ob.dk []] ++ [Ob.lst [.non, .tup [], .str "flow", .tup [.str "flow"], .obj h.length]])[h.length]? = some (.dk []) := get_app MM.at_last _
  have er := rdL_last (h := h ++ [Ob.dk []]) (ws := [.non, .tup [], .str "flow", .tup [.str "flow"], .obj h.length])
  generalize (h ++ [Ob.dk []]).length = j at er ⊢
  generalize h ++ [Ob.dk []] ++ [Ob.lst [.non, .tup [], .str "flow", .tup [.str "flow"], .obj h.length]] = h1 at ed er ⊢
  generalize h.length = j0 at ed er ⊢
  have ez : srcOf (.obj j) h1 = .ok (sL 5 j) h1 := by unfold srcOf; simp only [er]; rfl
  rw [wp_ok ez]
  refine for_wp (its := [.non, .tup [], .str "flow", .tup [.str "flow"], .obj j0]) (fun k ρ h2 => (∃ g, h2 = h1 ++ g) ∧ ∃ c1, ρ = F9 ls c1 a2 a3 a4 a5 a6 a7 a8) (fun k ρ h2 z => ?_) (fun k u ρ h2 ek z => ?_) (fun ρ h2 z => ?_) _ 0 _ _ (by simp [sL]) (Nat.zero_le _) ⟨⟨[], by simp⟩, _, rfl⟩
  · obtain ⟨⟨g, rfl⟩, _⟩ := z
    exact its_L er k g
  · obtain ⟨⟨g, rfl⟩, c1, rfl⟩ := z
    rw [wp_gN]
    have fin : ∀ t, tyW (h1 ++ g) u = some t → t ≠ .lst → wpM (l1b (F9 ls (some u) a2 a3 a4 a5 a6 a7 a8)) (h1 ++ g) fun r h3 => match r.1 with | .nx => (∃ g, h3 = h1 ++ g) ∧ ∃ c1, r.2 = F9 ls c1 a2 a3 a4 a5 a6 a7 a8 | .ct => (∃ g, h3 = h1 ++ g) ∧ ∃ c1, r.2 = F9 ls c1 a2 a3 a4 a5 a6 a7 a8 | _ => False := fun t e n => l11_wp e n fun g2 => ⟨⟨g ++ g2, by rw [List.append_assoc]⟩, _, rfl⟩
    have um := List.mem_of_getElem? ek
    have cs : ∃ t, tyW (h1 ++ g) u = some t ∧ t ≠ .lst := by
      simp only [List.mem_cons, List.not_mem_nil, or_false] at um
      rcases um with rfl | rfl | rfl | rfl | rfl
      · exact ⟨.non, rfl, by decide⟩
      · exact ⟨.tup, rfl, by decide⟩
      · exact ⟨.str, rfl, by decide⟩
      · exact ⟨.tup, rfl, by decide⟩
      · refine ⟨.dict, ?_, by decide⟩
        unfold tyW
        simp only [get_app ed g]
    obtain ⟨t, e, n⟩ := cs
    refine wp_mono (fin t e n) fun r h3 z => ?_
    obtain ⟨fl, ρ⟩ := r
    cases fl <;> first | exact z | exact z.elim
  · obtain ⟨⟨g, rfl⟩, c1, rfl⟩ := z
    exact q _ _
theorem l3_wp (q : ∀ h1 ρ, P (.ret (.bl true), ρ) h1) : wpM (l3 (F9 ls a1 a2 a3 a4 a5 a6 a7 a8)) h P := by
  simp only [l3, MM.wpq, startM, Ty.nm, if_true, if_false, Nat.reduceAdd, Nat.reduceSub, reduceCtorEq]
  refine ⟨sz (by simp), ?_⟩
  have e0 : (h ++ [Ob.lst []])[h.length]? = some (.lst (([] : List (List Prt)).map dW)) := MM.at_last
  refine show_ok (ds := []) e0 (by simp) (fun d m => nomatch m) fun g => ?_
  have ew : wText [] = "" := by decide +kernel
  rw [ew, wp_eqS]
  refine ⟨_, rfl, ?_⟩
  rw [decide_eq_true rfl, if_pos rfl]
  have rw0 := fun Q => read_all_wp (h := h ++ [Ob.lst []] ++ g) (Q := Q) (ds := []) (fun d m => nomatch m) (by simp)
  rw [ew] at rw0
  refine rw0 _ fun g2 k ek => ?_
  try simp only [MM.wpq, startM, Ty.nm, if_true, if_false, Nat.reduceAdd, Nat.reduceSub, reduceCtorEq]
  refine ⟨sz (by simp), ?_⟩
  rw [wp_eqL (n := 0) (rdL_app ek _) rdL_last (fun w m => absurd m (by simp)) (fun w m => absurd m (by simp)) (by decide)]
  have : sameL (List.map dW []) [] = true := sameL_iff.mpr rfl
  rw [if_neg Bool.false_ne_true, this]
  exact q _ _
theorem law_wp (ls : List Int) (l63 : ls.length ≤ 63) : wpM (m_law [.scr ls]) [] fun r h1 => r = .bl true := by
  rw [l_row, wp_fun1]
  simp only [startM, List.map_cons, List.map_nil, List.replicate_succ, List.replicate_zero, List.cons_append, List.nil_append]
  rw [wp_seq]
  refine l1_wp (a1 := none) (a2 := none) (a3 := none) (a4 := none) (a5 := none) (a6 := none) (a7 := none) (a8 := none) fun h0 c1 => ?_
  show wpM (sSeq l2 l3 (F9 ls c1 none none none none none none none)) h0 _
  rw [wp_seq]
  unfold l2 l2i
  rw [wp_for]
  simp only [MM.wpq, startM, Ty.nm, if_true, if_false, Nat.reduceAdd, Nat.reduceSub, reduceCtorEq]
  have e1 : min2 [.int ls.length, .int 30] h0 = .ok (.int (if (30 : Int) < ls.length then 30 else ls.length)) h0 := rfl
  rw [wp_ok e1]
  generalize hc : (if (30 : Int) < ls.length then (30 : Int) else ls.length) = c
  have c24 : c ≤ 30 := by rw [← hc]; split <;> omega
  have e2 : max2 [.int 2, .int c] h0 = .ok (.int (if c > 2 then c else 2)) h0 := rfl
  rw [wp_ok e2]
  obtain ⟨m, em, m2, m24⟩ : ∃ m : Int, (if c > 2 then c else 2) = m ∧ 1 ≤ m ∧ m ≤ 30 := ⟨_, rfl, by split <;> omega, by split <;> omega⟩
  rw [em, wp_rng1 (by unfold rgB; rw [Bool.and_eq_true, decide_eq_true_eq, decide_eq_true_eq]; omega)]
  refine for_wp (its := (List.range m.toNat).map fun (k : Nat) => Wv.int (0 + k)) (fun t ρ h8 => t ≤ m.toNat ∧ ∃ b1 b2 b3 b4 b5 b6 b7 b8, ρ = F9 ls b1 b2 b3 b4 b5 b6 b7 b8) (fun k ρ h1 z => its_rng k h1) (fun t w ρ h8 ek z => ?_) (fun ρ h8 z => ?_) _ 0 _ _ (by simp [sR]) (Nat.zero_le _) ⟨Nat.zero_le _, _, _, _, _, _, _, _, _, rfl⟩
  · obtain ⟨tl, b1, b2, b3, b4, b5, b6, b7, b8, rfl⟩ := z
    have tl := (List.getElem?_eq_some_iff.mp ek).1
    rw [List.length_map, List.length_range] at tl
    rw [List.getElem?_map, List.getElem?_range tl] at ek
    cases ek
    rw [wp_gN]
    show wpM (l2b (F9 ls b1 (some (.int (0 + (t : Int)))) b3 b4 b5 b6 b7 b8)) h8 _
    refine lB_wp (by omega) (by omega) fun h9 c1 c3 c4 c5 c6 c7 c8 => ?_
    exact ⟨tl, _, _, _, _, _, _, _, _, rfl⟩
  · obtain ⟨_, b1, b2, b3, b4, b5, b6, b7, b8, rfl⟩ := z
    show wpM (l3 (F9 ls b1 b2 b3 b4 b5 b6 b7 b8)) h8 _
    exact l3_wp fun h9 ρ => rfl
theorem law_true : ∀ ns : List Int, ns.length ≤ 63 → ∃ h', m_law [.scr ns] [] = .ok (.bl true) h' := fun ns l => by
  obtain ⟨r, h', e, rfl⟩ := law_wp ns l
  exact ⟨h', e⟩
end
end GR61

open PySem PySem.W PyProof.Rows
set_option maxRecDepth 100000 in
set_option maxHeartbeats 0 in
theorem PySem.Challenge.cw_heldhints_k61_weavings_written_holds : PySem.Challenge.rw_heldhints_k61_weavings_written.Holds := by
  w_on; o_law; k_head; (case hw => w_witness2)
  k_fill
  refine L2.walk_at (l := PySem.Challenge.rw_heldhints_k61_weavings_written) (n := 63) (x := "_law_script") (CX := fun _ => L2.CX0) (sp := fun w => MM.spScr _ GR61.m_law) rfl (by decide) rfl (fun w h Y => PySem.W.kIn_of Y) ?F (fun _ _ a ns hl hO hS => MM.scr_law hl hO hS GR61.law_true) (fun _ _ _ _ _ h => h)
  case F =>
    intro w mg fa h KX G hmg
    refine' MM.run_scr (GR61.all_mk KX G hmg ?b_isinstance ?b_len ?b_all ?b_any ?b_int ?b_bool ?b_str ?b_tuple ?b_list ?b_set ?b_dict ?b_sorted ?b_zip ?b_max ?b_min ?b_repr ?b_range ?b_enumerate ?b_reversed ?b_ord ?b_abs ?b_sum ?g_FIGURES ?g_GONE ?g_GREATEST_WORTH ?g_LETTERS ?g_LONGEST_TICK ?g_LONGEST_WORD ?g_MOST_FIGURES ?g_NONE ?g_PLACES ?no_is_ring_mark ?gt_FORMS ?h__law_pool ?h__law_take ?h__law_odd ?h_is_whole ?h_is_between ?h_is_place ?h_first_wrong ?h_are_places ?h_is_word ?h_is_mark ?h_is_worth ?h_has_form ?h_is_deed ?h_look_at_weaving ?h_show_listed ?h_show_part ?h_show_deed ?h_show_weaving ?h__law_refused ?h__law_deed ?h_read_figures ?h_read_whole ?h_read_all ?h_read_part ?h_read_deed ?h_read_rows ?h_read_weaving ?h__law_deed_text ?gH ?xH ?sgH ?rdH ?vH ?fb_ValueError ?w1 ?w2 ?a_NoDeed ?x_NoDeed ?i_NoDeed ?n_NoDeed ?a_NoText ?x_NoText ?i_NoText ?n_NoText ?r_NoDeed_NoDeed ?r_NoDeed_NoText ?r_NoDeed_ValueError ?r_NoText_NoDeed ?r_NoText_NoText ?r_NoText_ValueError ?aL ?hL)
    (case b_isinstance => k_is)
    (case b_len => k_is)
    (case b_all => k_is)
    (case b_any => k_is)
    (case b_int => k_is)
    (case b_bool => k_is)
    (case b_str => k_is)
    (case b_tuple => k_is)
    (case b_list => k_is)
    (case b_set => k_is)
    (case b_dict => k_is)
    (case b_sorted => k_is)
    (case b_zip => k_is)
    (case b_max => k_is)
    (case b_min => k_is)
    (case b_repr => k_is)
    (case b_range => k_is)
    (case b_enumerate => k_is)
    (case b_reversed => k_is)
    (case b_ord => k_is)
    (case b_abs => k_is)
    (case b_sum => k_is)
    (case g_FIGURES => k_is)
    (case g_GONE => k_is)
    (case g_GREATEST_WORTH => k_is)
    (case g_LETTERS => k_is)
    (case g_LONGEST_TICK => k_is)
    (case g_LONGEST_WORD => k_is)
    (case g_MOST_FIGURES => k_is)
    (case g_NONE => k_is)
    (case g_PLACES => k_is)
    (case no_is_ring_mark => k_is)
    (case gt_FORMS => (exact ⟨_, _, _, by k_is, by decide +kernel, by k_is, by (repeat (first | exact MM.RowsK.nil | refine MM.RowsK.cons ⟨_, _, _, _, rfl, by k_is, by decide +kernel, by (repeat (first | exact .nil | refine .cons ⟨_, rfl⟩ ?_))⟩ ?_))⟩))
    (case h__law_pool => (refine' ⟨_, _, ?i1, L2.fun_mk ?i3 ?i4 ?i5⟩; (case i1 => k_is); (case i3 => k_is); (case i4 => k_is); (case i5 => k_is)))
    (case h__law_take => (refine' ⟨_, _, ?i1, L2.fun_mk ?i3 ?i4 ?i5⟩; (case i1 => k_is); (case i3 => k_is); (case i4 => k_is); (case i5 => k_is)))
    (case h__law_odd => (refine' ⟨_, _, ?i1, L2.fun_mk ?i3 ?i4 ?i5⟩; (case i1 => k_is); (case i3 => k_is); (case i4 => k_is); (case i5 => k_is)))
    (case h_is_whole => (refine' ⟨_, _, ?i1, L2.fun_mk ?i3 ?i4 ?i5⟩; (case i1 => k_is); (case i3 => k_is); (case i4 => k_is); (case i5 => k_is)))
    (case h_is_between => (refine' ⟨_, _, ?i1, L2.fun_mk ?i3 ?i4 ?i5⟩; (case i1 => k_is); (case i3 => k_is); (case i4 => k_is); (case i5 => k_is)))
    (case h_is_place => (refine' ⟨_, _, ?i1, L2.fun_mk ?i3 ?i4 ?i5⟩; (case i1 => k_is); (case i3 => k_is); (case i4 => k_is); (case i5 => k_is)))
    (case h_first_wrong => (refine' ⟨_, _, ?i1, L2.fun_mk ?i3 ?i4 ?i5⟩; (case i1 => k_is); (case i3 => k_is); (case i4 => k_is); (case i5 => k_is)))
    (case h_are_places => (refine' ⟨_, _, ?i1, L2.fun_mk ?i3 ?i4 ?i5⟩; (case i1 => k_is); (case i3 => k_is); (case i4 => k_is); (case i5 => k_is)))
    (case h_is_word => (refine' ⟨_, _, ?i1, L2.fun_mk ?i3 ?i4 ?i5⟩; (case i1 => k_is); (case i3 => k_is); (case i4 => k_is); (case i5 => k_is)))
    (case h_is_mark => (refine' ⟨_, _, ?i1, L2.fun_mk ?i3 ?i4 ?i5⟩; (case i1 => k_is); (case i3 => k_is); (case i4 => k_is); (case i5 => k_is)))
    (case h_is_worth => (refine' ⟨_, _, ?i1, L2.fun_mk ?i3 ?i4 ?i5⟩; (case i1 => k_is); (case i3 => k_is); (case i4 => k_is); (case i5 => k_is)))
    (case h_has_form => (refine' ⟨_, _, ?i1, L2.fun_mk ?i3 ?i4 ?i5⟩; (case i1 => k_is); (case i3 => k_is); (case i4 => k_is); (case i5 => k_is)))
    (case h_is_deed => (refine' ⟨_, _, ?i1, L2.fun_mk ?i3 ?i4 ?i5⟩; (case i1 => k_is); (case i3 => k_is); (case i4 => k_is); (case i5 => k_is)))
    (case h_look_at_weaving => (refine' ⟨_, _, ?i1, L2.fun_mk ?i3 ?i4 ?i5⟩; (case i1 => k_is); (case i3 => k_is); (case i4 => k_is); (case i5 => k_is)))
    (case h_show_listed => (refine' ⟨_, _, ?i1, L2.fun_mk ?i3 ?i4 ?i5⟩; (case i1 => k_is); (case i3 => k_is); (case i4 => k_is); (case i5 => k_is)))
    (case h_show_part => (refine' ⟨_, _, ?i1, L2.fun_mk ?i3 ?i4 ?i5⟩; (case i1 => k_is); (case i3 => k_is); (case i4 => k_is); (case i5 => k_is)))
    (case h_show_deed => (refine' ⟨_, _, ?i1, L2.fun_mk ?i3 ?i4 ?i5⟩; (case i1 => k_is); (case i3 => k_is); (case i4 => k_is); (case i5 => k_is)))
    (case h_show_weaving => (refine' ⟨_, _, ?i1, L2.fun_mk ?i3 ?i4 ?i5⟩; (case i1 => k_is); (case i3 => k_is); (case i4 => k_is); (case i5 => k_is)))
    (case h__law_refused => (refine' ⟨_, _, ?i1, L2.fun_mk ?i3 ?i4 ?i5⟩; (case i1 => k_is); (case i3 => k_is); (case i4 => k_is); (case i5 => k_is)))
    (case h__law_deed => (refine' ⟨_, _, ?i1, L2.fun_mk ?i3 ?i4 ?i5⟩; (case i1 => k_is); (case i3 => k_is); (case i4 => k_is); (case i5 => k_is)))
    (case h_read_figures => (refine' ⟨_, _, ?i1, L2.fun_mk ?i3 ?i4 ?i5⟩; (case i1 => k_is); (case i3 => k_is); (case i4 => k_is); (case i5 => k_is)))
    (case h_read_whole => (refine' ⟨_, _, ?i1, L2.fun_mk ?i3 ?i4 ?i5⟩; (case i1 => k_is); (case i3 => k_is); (case i4 => k_is); (case i5 => k_is)))
    (case h_read_all => (refine' ⟨_, _, ?i1, L2.fun_mk ?i3 ?i4 ?i5⟩; (case i1 => k_is); (case i3 => k_is); (case i4 => k_is); (case i5 => k_is)))
    (case h_read_part => (refine' ⟨_, _, ?i1, L2.fun_mk ?i3 ?i4 ?i5⟩; (case i1 => k_is); (case i3 => k_is); (case i4 => k_is); (case i5 => k_is)))
    (case h_read_deed => (refine' ⟨_, _, ?i1, L2.fun_mk ?i3 ?i4 ?i5⟩; (case i1 => k_is); (case i3 => k_is); (case i4 => k_is); (case i5 => k_is)))
    (case h_read_rows => (refine' ⟨_, _, ?i1, L2.fun_mk ?i3 ?i4 ?i5⟩; (case i1 => k_is); (case i3 => k_is); (case i4 => k_is); (case i5 => k_is)))
    (case h_read_weaving => (refine' ⟨_, _, ?i1, L2.fun_mk ?i3 ?i4 ?i5⟩; (case i1 => k_is); (case i3 => k_is); (case i4 => k_is); (case i5 => k_is)))
    (case h__law_deed_text => (refine' ⟨_, _, ?i1, L2.fun_mk ?i3 ?i4 ?i5⟩; (case i1 => k_is); (case i3 => k_is); (case i4 => k_is); (case i5 => k_is)))
    (case gH => k_is)
    (case xH => (refine' MM.exV ?l ?sa ?ga ?gt ?ca ?kC; (case l => k_is); (case sa => k_is); (case ga => k_is); (case gt => k_is); (case ca => k_is); (case kC => k_is)))
    (case sgH => k_is)
    (case rdH => k_is)
    (case vH => k_is)
    (case fb_ValueError => k_is)
    (case w1 => k_is)
    (case w2 => k_is)
    (case a_NoDeed => k_is)
    (case x_NoDeed => (refine' MM.exH ?l ?sa ?ga ?gt ?ca ?kC; (case l => k_is); (case sa => k_is); (case ga => k_is); (case gt => k_is); (case ca => k_is); (case kC => k_is)))
    (case i_NoDeed => (refine' ⟨_, _, ?i1, ?i2, L2.fun_mk ?i3 ?i4 ?i5⟩; (case i1 => k_is); (case i2 => k_is); (case i3 => k_is); (case i4 => k_is); (case i5 => k_is)))
    (case n_NoDeed => k_is)
    (case a_NoText => k_is)
    (case x_NoText => (refine' MM.exH ?l ?sa ?ga ?gt ?ca ?kC; (case l => k_is); (case sa => k_is); (case ga => k_is); (case gt => k_is); (case ca => k_is); (case kC => k_is)))
    (case i_NoText => (refine' ⟨_, _, ?i1, ?i2, L2.fun_mk ?i3 ?i4 ?i5⟩; (case i1 => k_is); (case i2 => k_is); (case i3 => k_is); (case i4 => k_is); (case i5 => k_is)))
    (case n_NoText => k_is)
    (case r_NoDeed_NoDeed => rfl)
    (case r_NoDeed_NoText => rfl)
    (case r_NoDeed_ValueError => rfl)
    (case r_NoText_NoDeed => rfl)
    (case r_NoText_NoText => rfl)
    (case r_NoText_ValueError => rfl)
    (case aL => k_is)
    (case hL => (refine' ⟨_, L2.fun_mk ?i3 ?i4 ?i5⟩; (case i3 => k_is); (case i4 => k_is); (case i5 => k_is)))

