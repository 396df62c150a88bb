import PyProof.Rows.All
import Wide.All
import OpenK.AllK
import Wide.FinOn
import PyProof.ListRange
import HandS.ForMost
import HandS.RevTup
import HandS.Rev
import HandS.Wide
import HandS.Defaults
import HandS.Conv
import HandS.IsInst
import HandS.Style
import HandS.Steps
import HandS.TupAny
import HandS.TupMul
import HandS.Zip
import HandS.HeadEnd
import KE.GoesMore
import HandS.ExcInit
import HandS.ExcField
import HandS.ExcIs
import KE.KExcIs
import HandS.ExcOwn
import HandS.ClsMeth
import HandS.ForExc
import PyProof.TupleKey
import PyProof.DictRoadsH
import KE.KDictSum
import HandS.Nested
import HandS.Lambda
import HandS.EndTab
import KE.KIndexOf
import HandS.Deep
import HandS.More
import HandS.SortInts
import HandS.TupSets
import HandS.Head0
import HandS.Head1
import HandS.Head2
import HandS.HeadHook1
import HandS.HeadHook2
import HandS.HeadHook4
import HandS.SortKw
import HandS.SortOrd
import HandS.SortRule
import HandS.Flow
import HandS.TupLe
import PySem.Challenge.RW_wherefrom_k33_settled_and_last
set_option Elab.async false
set_option linter.all false
set_option maxRecDepth 100000
set_option maxHeartbeats 0
namespace Pv
/-! Roads: which passing is sooner, and that each is of neighbours. Numbers alone. -/
abbrev Ev := Nat × Nat
/-- kinds, paces, spots by walkers, of n walkers -/
structure Rod (n : Nat) (k : Nat → Nat) (p s : Nat → Int) : Prop where
  up : ∀ i j, i < j → j < n → s i < s j
  pk : ∀ i j, i < n → j < n → k i < k j → p i < p j
  pe : ∀ i j, i < n → j < n → k i = k j → p i = p j
def IsEv (n : Nat) (k : Nat → Nat) (i j : Nat) : Prop := i < j ∧ j < n ∧ k j < k i
def wy (s : Nat → Int) (e : Ev) : Int := s e.2 - s e.1
def gp (p : Nat → Int) (e : Ev) : Int := p e.1 - p e.2
/-- by kinds, then by numbers -/
def soonK (k : Nat → Nat) (e f : Ev) : Prop := k f.1 < k e.1 ∨ k e.1 = k f.1 ∧ (k f.2 < k e.2 ∨ k e.2 = k f.2 ∧ (e.1 < f.1 ∨ e.1 = f.1 ∧ e.2 < f.2))
def soon (k : Nat → Nat) (p s : Nat → Int) (e f : Ev) : Prop := wy s e * gp p f < wy s f * gp p e ∨ wy s e * gp p f = wy s f * gp p e ∧ soonK k e f
section
variable {n : Nat} {k : Nat → Nat} {p s : Nat → Int}
theorem soonK_asym {e f : Ev} (h : soonK k e f) : ¬ soonK k f e := by
  unfold soonK at *
  omega
theorem soonK_tri (e f : Ev) : soonK k e f ∨ e = f ∨ soonK k f e := by
  unfold soonK
  have : e = f ↔ e.1 = f.1 ∧ e.2 = f.2 := Prod.ext_iff
  rw [this]
  omega
theorem soon_asym {e f : Ev} (h : soon k p s e f) : ¬ soon k p s f e := by
  unfold soon at *
  intro z
  have := @soonK_asym k e f
  rcases h with h | ⟨h, h2⟩ <;> rcases z with z | ⟨z, z2⟩
  · omega
  · omega
  · omega
  · exact this h2 z2
theorem soon_irr (e : Ev) : ¬ soon k p s e e := fun h => soon_asym h h
theorem soon_tri (e f : Ev) : soon k p s e f ∨ e = f ∨ soon k p s f e := by
  unfold soon
  rcases Int.lt_trichotomy (wy s e * gp p f) (wy s f * gp p e) with h | h | h
  · exact .inl (.inl h)
  · rcases @soonK_tri k e f with z | z | z
    · exact .inl (.inr ⟨h, z⟩)
    · exact .inr (.inl z)
    · exact .inr (.inr (.inr ⟨h.symm, z⟩))
  · exact .inr (.inr (.inl h))
theorem cross_lt {w w' g g' : Int} (h0 : 0 < w) (h1 : w < w') (h2 : 0 < g) (h3 : g ≤ g') : w * g < w' * g' :=
  Int.lt_of_lt_of_le (Int.mul_lt_mul_of_pos_right h1 h2) (Int.mul_le_mul_of_nonneg_left h3 (by omega))
/-- three walkers, falling: one comparison tells all -/
theorem tri_soon {a b c : Nat} (h1 : k b < k a) (h2 : k c < k b) :
    let X := (s b - s a) * (p b - p c)
    let Y := (s c - s b) * (p a - p b)
    (soon k p s (a, b) (b, c) ↔ X ≤ Y) ∧ (soon k p s (a, b) (a, c) ↔ X ≤ Y) ∧ (soon k p s (a, c) (b, c) ↔ X ≤ Y) ∧ (soon k p s (b, c) (a, b) ↔ Y < X) ∧ (soon k p s (a, c) (a, b) ↔ Y < X) ∧ (soon k p s (b, c) (a, c) ↔ Y < X) := by
  intro X Y
  have e1 : (s b - s a) * (p a - p c) = (s b - s a) * (p a - p b) + X := by
    show _ = _ + (s b - s a) * (p b - p c)
    rw [← Int.mul_add]; congr 1; omega
  have e2 : (s c - s a) * (p a - p b) = (s b - s a) * (p a - p b) + Y := by
    show _ = _ + (s c - s b) * (p a - p b)
    rw [← Int.add_mul]; congr 1; omega
  have e3 : (s c - s a) * (p b - p c) = X + (s c - s b) * (p b - p c) := by
    show _ = (s b - s a) * (p b - p c) + _
    rw [← Int.add_mul]; congr 1; omega
  have e4 : (s c - s b) * (p a - p c) = Y + (s c - s b) * (p b - p c) := by
    show _ = (s c - s b) * (p a - p b) + _
    rw [← Int.mul_add]; congr 1; omega
  unfold soon soonK wy gp
  dsimp only
  rw [e1, e2, e3, e4]
  show _ ∧ _
  have eX : (s b - s a) * (p b - p c) = X := rfl
  have eY : (s c - s b) * (p a - p b) = Y := rfl
  rw [eX, eY]
  generalize (s b - s a) * (p a - p b) = U
  generalize (s c - s b) * (p b - p c) = W
  generalize X = X
  generalize Y = Y
  omega
/-! the walkers that stand by at a passing -/
variable (R : Rod n k p s)
include R
theorem loc_lo {i j x : Nat} (h : IsEv n k i j) (hx : x < i) : (IsEv n k x i ∧ soon k p s (x, i) (i, j)) ↔ (IsEv n k x j ∧ soon k p s (x, j) (i, j)) := by
  obtain ⟨hij, hj, hk⟩ := h
  have u1 := R.up x i hx (by omega)
  have u2 := R.up i j hij hj
  by_cases c : k i < k x
  · have t := tri_soon (p := p) (s := s) (a := x) c hk
    dsimp only at t
    unfold IsEv
    constructor
    · rintro ⟨_, z⟩
      exact ⟨⟨by omega, by omega, by omega⟩, t.2.2.1.mpr (t.1.mp z)⟩
    · rintro ⟨_, z⟩
      exact ⟨⟨by omega, by omega, by omega⟩, t.1.mpr (t.2.2.1.mp z)⟩
  · constructor
    · rintro ⟨⟨_, _, z⟩, _⟩
      omega
    · rintro ⟨⟨_, _, z⟩, y⟩
      exfalso
      have g1 : p j < p x := R.pk j x hj (by omega) z
      have g2 : p x ≤ p i := by
        rcases Nat.lt_or_eq_of_le (Nat.le_of_not_lt c) with q | q
        · exact Int.le_of_lt (R.pk x i (by omega) (by omega) q)
        · exact Int.le_of_eq (R.pe x i (by omega) (by omega) q)
      have := cross_lt (w := s j - s i) (w' := s j - s x) (g := p x - p j) (g' := p i - p j) (by omega) (by omega) (by omega) (by omega)
      unfold soon wy gp at y
      dsimp only at y
      omega
theorem loc_hi {i j x : Nat} (h : IsEv n k i j) (hx : j < x) (hn : x < n) : (IsEv n k i x ∧ soon k p s (i, x) (i, j)) ↔ (IsEv n k j x ∧ soon k p s (j, x) (i, j)) := by
  obtain ⟨hij, hj, hk⟩ := h
  have u1 := R.up j x hx hn
  have u2 := R.up i j hij hj
  by_cases c : k x < k j
  · have t := tri_soon (p := p) (s := s) hk c
    dsimp only at t
    unfold IsEv
    constructor
    · rintro ⟨_, z⟩
      exact ⟨⟨by omega, by omega, by omega⟩, t.2.2.2.1.mpr (t.2.2.2.2.1.mp z)⟩
    · rintro ⟨_, z⟩
      exact ⟨⟨by omega, by omega, by omega⟩, t.2.2.2.2.1.mpr (t.2.2.2.1.mp z)⟩
  · constructor
    · rintro ⟨⟨_, _, z⟩, y⟩
      exfalso
      have g1 : p x < p i := R.pk x i hn (by omega) z
      have g2 : p j ≤ p x := by
        rcases Nat.lt_or_eq_of_le (Nat.le_of_not_lt c) with q | q
        · exact Int.le_of_lt (R.pk j x (by omega) (by omega) q)
        · exact Int.le_of_eq (R.pe j x (by omega) (by omega) q)
      have := cross_lt (w := s j - s i) (w' := s x - s i) (g := p i - p x) (g' := p i - p j) (by omega) (by omega) (by omega) (by omega)
      unfold soon wy gp at y
      dsimp only at y
      omega
    · rintro ⟨⟨_, _, z⟩, _⟩
      omega
theorem loc_mid {i j x : Nat} (h : IsEv n k i j) (hx : i < x) (hn : x < j) : (IsEv n k i x ∧ soon k p s (i, x) (i, j)) ↔ ¬ (IsEv n k x j ∧ soon k p s (x, j) (i, j)) := by
  obtain ⟨hij, hj, hk⟩ := h
  have u1 := R.up i x hx (by omega)
  have u2 := R.up x j hn hj
  by_cases c : k x < k i
  · by_cases d : k j < k x
    · have t := tri_soon (p := p) (s := s) c d
      dsimp only at t
      unfold IsEv
      constructor
      · rintro ⟨_, z⟩ ⟨_, y⟩
        have := t.2.1.mp z
        have := t.2.2.2.2.2.mp y
        omega
      · intro z
        refine ⟨⟨by omega, by omega, by omega⟩, t.2.1.mpr (Int.not_lt.mp fun y => z ⟨⟨by omega, by omega, by omega⟩, t.2.2.2.2.2.mpr y⟩)⟩
    · constructor
      · rintro _ ⟨⟨_, _, z⟩, _⟩
        omega
      · intro _
        have g1 : p j < p i := R.pk j i hj (by omega) hk
        have g2 : p x ≤ p j := by
          rcases Nat.lt_or_eq_of_le (Nat.le_of_not_lt d) with q | q
          · exact Int.le_of_lt (R.pk x j (by omega) hj q)
          · exact Int.le_of_eq (R.pe x j (by omega) hj q)
        refine ⟨⟨hx, by omega, c⟩, .inl ?_⟩
        exact cross_lt (w := s x - s i) (w' := s j - s i) (g := p i - p j) (g' := p i - p x) (by omega) (by omega) (by omega) (by omega)
  · constructor
    · rintro ⟨⟨_, _, z⟩, _⟩
      omega
    · intro z
      refine absurd ⟨⟨hn, hj, by omega⟩, .inl ?_⟩ z
      have g1 : p j < p i := R.pk j i hj (by omega) hk
      have g2 : p i ≤ p x := by
        rcases Nat.lt_or_eq_of_le (Nat.le_of_not_lt c) with q | q
        · exact Int.le_of_lt (R.pk i x (by omega) (by omega) q)
        · exact Int.le_of_eq (R.pe i x (by omega) (by omega) q)
      exact cross_lt (w := s j - s x) (w' := s j - s i) (g := p i - p j) (g' := p x - p j) (by omega) (by omega) (by omega) (by omega)
end
end Pv
/-! list(reversed(xs)), xs a list -/
namespace Wf
open PySem PySem.Spec PyProof.Rows L2
section
variable {prog : Program} {w : World} {A : Around} {E : Value → Shared → Prop} {s : Shared}
theorem initRev {R : Result → Shared → Prop} {it l S : Addr} {its : Array Value} (hh : A.handled = none) (hi : s.heap.IsRevIter it l ((its.size : Int) - 1)) (hl : s.heap.IsList l its) (hne : l ≠ it) (hn : its.size ≤ sizeLine)
    (hS : s.heap.get? S = some { cls := .type "list", data := .seq #[] }) (hSi : S ≠ it) (hSl : S ≠ l)
    (hR : ∀ (h' : Heap) (tk : Nat) (acc : Array Value) (c : Nat), (∀ b o, b ≠ S → b ≠ it → s.heap.get? b = some o → h'.get? b = some o) → h'.get? S = some { cls := .type "list", dict := none, data := .seq acc c, slots := #[] } →
      ItemsOf (fun i v => its[its.size - 1 - i]? = some v) acc its.size → R (.ok (.ret .none)) { s with heap := h', toks := tk }) :
    wpAny (model prog w) A.in1 (Builtin.«list.__init__» ⟨[.ref S, .ref it], []⟩)
      (fun fin s' => match fin with | .done f => R (.ok f) s' | .again c' => c'.quiet = true ∧ codeAny (model prog w) A c' R s') (fun e s' => R (.error e) s') s := by
  have W := (Walks.listRev (prog := prog) (w := w) (A := A.in1) hh it l hne its).toS
  have hSf : S ∉ [it, l] := by simp only [List.mem_cons, List.not_mem_nil, or_false, not_or]; exact ⟨hSi, hSl⟩
  have e0 : ((its.size : Nat) : Int) - 1 - ((0 : Nat) : Int) = (its.size : Int) - 1 := by omega
  show wpAny _ A.in1 (Builtin.List.listItems (.ref S) >>= fun old => Builtin.List.listUpdate (.ref S) (fun _ => #[]) >>= fun _ => letGo old.toList.reverse >>= fun _ => Builtin.List.listExtendWith (.ref S) (.ref it) .none) _ _ s
  refine wpAny_bind ?_
  unfold Builtin.List.listItems
  refine wpAny_bind (wpAny_seqItems hS rfl (wpAny_pure ?_))
  show wpAny _ A.in1 (updateSeq S (fun _ => #[]) >>= fun _ => letGo (#[] : Array Value).toList.reverse >>= fun _ => Builtin.List.listExtendWith (.ref S) (.ref it) .none) _ _ s
  refine wpAny_bind (wpAny_updateSeq hS rfl ?_)
  have hS2 := Heap.get?_update_self (Obj.mapSeq (fun _ => (#[] : Array Value))) hS rfl
  have oth : ∀ b o, b ≠ S → s.heap.get? b = some o → (s.heap.update S (Obj.mapSeq (fun _ => (#[] : Array Value)))).get? b = some o := fun b o hb e => (Heap.get?_update_other _ _ (Ne.symm hb)).trans e
  refine wpAny_bind (wpAny_letGo ?_)
  have hi2 : (s.heap.update S (Obj.mapSeq (fun _ => (#[] : Array Value)))).IsRevIter it l ((its.size : Int) - 1) := hi.at fun o e => oth it o (Ne.symm hSi) e
  have hl2 : (s.heap.update S (Obj.mapSeq (fun _ => (#[] : Array Value)))).IsList l its := by
    obtain ⟨o, e, r⟩ := hl
    exact ⟨o, oth l o (Ne.symm hSl) e, r⟩
  have hT : ({ s with heap := s.heap.update S (Obj.mapSeq (fun _ => (#[] : Array Value))) } : Shared).TypeIs (.ref it) "list_reverseiterator" := Heap.IsRevIter.typeIs (s := { s with heap := s.heap.update S (Obj.mapSeq (fun _ => (#[] : Array Value))) }) hi2
  have h1 : Builtin.List.listSameRef (.ref S) (.ref it) = false := by simp [Builtin.List.listSameRef, hSi]
  unfold Builtin.List.listExtendWith
  refine wpAny_bind (wpAny_typeOf hT ?_)
  rw [if_neg (by rw [h1]; decide)]
  refine wpAny_bind (wpAny_pyIter_revIter (s := { s with heap := s.heap.update S (Obj.mapSeq (fun _ => (#[] : Array Value))) }) hi2 ?_)
  refine wpAny_bind (wpAny_holding ?_)
  unfold Builtin.List.listLengthHint
  refine wpAny_bind (wpAny_specialOf hT RT.nolen_lri ?_)
  show wpAny _ A.in1 (specialOf (Value.ref it) (Str.ofString "__length_hint__") >>= _) _ _ _
  refine wpAny_bind (wpAny_specialOf hT RT.hint_lri ?_)
  generalize hid : ("list_reverseiterator.__length_hint__" : String) = id0
  wp_delta
  rw [show splitId id0 = some ("list_reverseiterator", "__length_hint__") from by subst hid; decide +kernel]
  subst hid
  refine wpAny_bind (wpAny_isInstance (b := true) hT (by rw [isSubtype_type]; kernel_rfl) ?_)
  refine wpAny_pure ?_
  rw [if_neg (by decide)]
  refine wpAny_pure ⟨plainId_quiet F.plain_extend_loop _, codeAny_extend_loopS W hn _ hSf _ its.size 0 _ _ _ rfl (Nat.zero_le _) ⟨Nat.zero_le _, by rw [e0]; exact hi2, hl2⟩ hS2 (ItemsOf.nil _) fun s' acc' c' hm hS' hacc => ?_⟩
  rw [Moved.eq_with hm]
  refine hR s'.heap s'.toks acc' c' (fun b o hb hbi e => hm.heap b o (fun hmem => ?_) (oth b o hb e)) hS' hacc
  rcases List.mem_cons.mp hmem with e' | hmem
  · exact hb e'
  · exact hbi (List.mem_singleton.mp hmem)
theorem callRev {it l : Addr} {its : Array Value} {Q : Value → Shared → Prop} (hh : A.handled = none) (hi : s.heap.IsRevIter it l ((its.size : Int) - 1)) (hl : s.heap.IsList l its) (hne : l ≠ it) (hn : its.size ≤ sizeLine)
    (hQ : ∀ (h' : Heap) (tk : Nat) (acc : Array Value) (c : Nat), (∀ b o, b ≠ it → s.heap.get? b = some o → h'.get? b = some o) → h'.get? s.heap.objs.size = some { cls := .type "list", dict := none, data := .seq acc c, slots := #[] } →
      ItemsOf (fun i v => its[its.size - 1 - i]? = some v) acc its.size → Q (.ref s.heap.objs.size) { s with heap := h', toks := tk }) :
    wpAny (model prog w) A (call (.type "list") [.ref it]) Q E s := by
  refine callType_codes (Q₁ := fun obj s₁ => obj = .ref s.heap.objs.size ∧ s₁ = { s with heap := s.heap.push { cls := .type "list", data := .seq #[] } }) F.called_list (F.typeCall_list_1 _) F.entry_list_init (code_list_new _ ⟨rfl, rfl⟩) fun obj s₁ h₁ => ?_
  obtain ⟨rfl, rfl⟩ := h₁
  obtain ⟨oi, hoi, _⟩ := id hi
  obtain ⟨ol, hol, _⟩ := id hl
  have hS : (s.heap.push { cls := .type "list", data := .seq #[] }).get? s.heap.objs.size = some { cls := .type "list", data := .seq #[] } := Heap.get?_push_size _ rfl
  refine ⟨⟨_, hS, rfl⟩, F.args_list_init_2 _ _, initRev (s := { s with heap := s.heap.push { cls := .type "list", data := .seq #[] } }) (A := A.in1) hh (hi.at fun o e => Heap.get?_push_of_some _ e) (hl.push _) hne hn hS (Nat.ne_of_gt (Heap.lt_size hoi)) (Nat.ne_of_gt (Heap.lt_size hol)) fun h' tk acc c hk hS' hacc => ?_⟩
  exact ⟨rfl, hQ h' tk acc c (fun b o hb e => hk b o (Nat.ne_of_lt (Heap.lt_size e)) hb (Heap.get?_push_of_some _ e)) hS' hacc⟩
end
/-- list(reversed(x)), x a list: a new list -/
def tLstRev (K : PySem.W.Frag) (te : TE) : TE := fun σ H Q => te σ H fun v H1 => ∃ (a : Addr) (xs : List V), v = .ref a ∧ SqL K H1 a xs ∧ ∀ q, H1 q = none → Q (.ref q) (upd H1 q (.lst xs.reverse))
section
variable {X : Cx}
theorem pe_lstRev {e : Expr} {te : TE} {p p2 pos pos2 : Pos} (hc : X.calm = true) (hg : Gl X "list") (hm : X.mg "list" = none) (hg2 : Gl X "reversed") (hm2 : X.mg "reversed" = none) (he : PE X e te)
    (hs : starEach [e] X.env = (false, eval e X.env) :: starEach [] X.env := by rfl)
    (hs2 : starEach [.Call (.Name "reversed" p2) [e] [] pos2] X.env = (false, eval (.Call (.Name "reversed" p2) [e] [] pos2) X.env) :: starEach [] X.env := by rfl) :
    PE X (.Call (.Name "list" p) [.Call (.Name "reversed" p2) [e] [] pos2] [] pos) (tLstRev X.K te) := by
  refine ⟨fun pins s σ H Q I h => ?_⟩
  refine Call_ (ld_blt I hg hm boot_list (PyProof.Rows.callWith_type1 (args_cons (Call_ (ld_blt I hg2 hm2 PyProof.Rows.boot_reversed (PyProof.Rows.callWith_type1 (args_cons (thn (he.run pins s σ H _ I h) fun u s1 ⟨v, H1, I1, r1, q1⟩ => args_nil ?_) hs) hs rfl))) hs2) hs2 rfl))
  obtain ⟨a, xs, ev, hq, q⟩ := q1
  subst ev
  obtain rfl : u = Value.ref a := r1
  obtain ⟨its, rv, p', hz⟩ := I1.list hq
  refine call_reversed_list p'.isList (args_nil ?_)
  have k0 : ∀ b o, s1.heap.get? b = some o → (s1.heap.push (revObj a ((its.toArray.size : Int) - 1))).get? b = some o := fun b o e => Heap.get?_push_of_some _ e
  have I2 : Inv X pins σ H1 { s1 with heap := s1.heap.push (revObj a ((its.toArray.size : Int) - 1)) } := I1.kept (t' := s1.toks) k0
  obtain ⟨f0, f1, f2, f3, f4, f5⟩ := I1.fpOk (H' := H1) (b := s1.heap.objs.size) (Nat.le_refl _) (I1.hok.fresh (Nat.le_refl _))
  have hl := p'.isList
  obtain ⟨ol, hol, _⟩ := id hl
  have hne : a ≠ s1.heap.objs.size := Nat.ne_of_lt (Heap.lt_size hol)
  have hn : its.toArray.size ≤ sizeLine := by rw [List.size_toArray, ← rv.length]; exact hz
  refine callRev (s := { s1 with heap := s1.heap.push (revObj a ((its.toArray.size : Int) - 1)) }) (I1.ok.hd hc) ⟨_, Heap.get?_push_size _ rfl, rfl, rfl⟩ (hl.push _) hne hn fun h' tk acc c hk hS hi => ?_
  have old : ∀ b o, s1.heap.get? b = some o → h'.get? b = some o := fun b o e => hk b o (Nat.ne_of_lt (Heap.lt_size e)) (k0 b o e)
  have sz : s1.heap.objs.size ≤ (s1.heap.push (revObj a ((its.toArray.size : Int) - 1))).objs.size := by rw [Heap.size_push]; exact Nat.le_succ _
  refine ⟨.ref _, _, I1.laid (t' := tk) old sz (show ObjOk X.prog X.w _ _ _ (.lst xs.reverse) from ⟨by rw [List.length_reverse]; exact hz, acc.toList, c, RT.vals_rev rv hi, ?_⟩), rfl, q _ (I1.hok.fresh sz)⟩
  rw [Array.toArray_toList]
  exact hS
end
end Wf
namespace Wf
open PySem PySem.Spec L2
/-! ### short words for the operators' readings -/
abbrev qAdd : R2 := rI0 fun i j => .int (i + j)
abbrev qSub : R2 := rI0 fun i j => .int (i - j)
abbrev qMul : R2 := rI CMul fun i j => .int (i * j)
abbrev qFdiv : R2 := rI CDiv fun i j => .int (i / j)
abbrev qFdivW : R2 := rI CDivW fun i j => .int (i / j)
abbrev qMod : R2 := rI (fun _ j => 0 < j) fun i j => .int (i % j)
abbrev qPow : R2 := rI CPow fun i j => .int (i ^ j.toNat)
abbrev qNeg : V → Hp → VK → Prop := rU fun i => .int (-i)
abbrev qLe : R2 := rI0 fun i j => .bl (decide (i ≤ j))
abbrev qGt : R2 := rI0 fun i j => .bl (decide (j < i))
abbrev qGe : R2 := rI0 fun i j => .bl (decide (j ≤ i))
abbrev qMax2 : List V → Hp → VK → Prop := fun xs H Q => ∃ i j, xs = [.int i, .int j] ∧ Q (.int (if j > i then j else i)) H
abbrev qMin2 : List V → Hp → VK → Prop := fun xs H Q => ∃ i j, xs = [.int i, .int j] ∧ Q (.int (if j < i then j else i)) H
abbrev qLen (K : PySem.W.Frag) : List V → Hp → VK → Prop := fun xs H Q => ∃ x n, xs = [x] ∧ LenV K x H n ∧ Q (.int n) H
abbrev qInt1 : List V → Hp → VK → Prop := fun xs H Q => (∃ i, xs = [.int i] ∧ Q (.int i) H) ∨ ∃ k, xs = [.bl k] ∧ Q (.int (if k then 1 else 0)) H
abbrev qListOf (K : PySem.W.Frag) : List V → Hp → VK → Prop := fun xs H Q => ∃ p ys, xs = [.ref p] ∧ (SqL K H p ys ∨ SqT K H p ys) ∧ ∀ l, H l = none → Q (.ref l) (upd H l (.lst ys))
abbrev qTupleOf (K : PySem.W.Frag) : List V → Hp → VK → Prop := fun xs H Q => ∃ p ys, xs = [.ref p] ∧ ((SqL K H p ys ∧ ∀ l, H l = none → Q (.ref l) (upd H l (.tup ys))) ∨ (SqT K H p ys ∧ Q (.ref p) H))
/-! ### a def of the module that is called by its name -/
structure Cal (P : Program) (w : World) (K : PySem.W.Frag) (mg : Str → Option Value) (base : Heap) (CX : CXT) (k : Nat) (x : Str) (ps : List Str) (sp : Sp) : Prop where
  ex : ∃ f fd, FnOk P w K mg base CX k f fd ps sp ∧ mg x = some (.ref f) ∧ PySem.W.keepIn K (.ref f) = true ∧ Binds K fd ps []
theorem pe_cal {X : Cx} {k j : Nat} {x : Str} {ps : List Str} {sp : Sp} {e : Expr} {es : List Expr} {t : TA} {p pos : Pos} (C : Cal X.prog X.w X.K X.mg X.base CX0 k x ps sp) (hr : Room j X.A) (hg : Gl X x) (ha : PA X (e :: es) t) (hk : k ≤ j := by decide)
    (hdb : (x == ("__debug__" : Str)) = false := by decide) (he : starEach (e :: es) X.env = (false, eval e X.env) :: starEach es X.env := by rfl) (hpl : (backTo pos (starEach es X.env)).any (·.1) = false := by rfl) :
    PE X (.Call (.Name x p) (e :: es) [] pos) (tCall sp [] E0 t) := by
  obtain ⟨f, fd, G, m, kp, b⟩ := C.ex
  exact pe_call G (hr.mono hk) hg m kp b .nil pass0 ha hdb he hpl
/-- the built-in names that the module leaves alone -/
structure Bl (mg : Str → Option Value) : Prop where
  b_len : mg "len" = none
  b_list : mg "list" = none
  b_tuple : mg "tuple" = none
  b_reversed : mg "reversed" = none
  b_range : mg "range" = none
  b_max : mg "max" = none
  b_min : mg "min" = none
  b_sum : mg "sum" = none
  b_all : mg "all" = none
  b_any : mg "any" = none
  b_zip : mg "zip" = none
  b_enumerate : mg "enumerate" = none
  b_isinstance : mg "isinstance" = none
  b_int : mg "int" = none
  b_bool : mg "bool" = none
  b_str : mg "str" = none
  b_repr : mg "repr" = none
  b_divmod : mg "divmod" = none
  b_abs : mg "abs" = none
  b_sorted : mg "sorted" = none
  b_set : mg "set" = none
  b_dict : mg "dict" = none
  b_pow : mg "pow" = none
  b_ValueError : mg "ValueError" = none
  b_IndexError : mg "IndexError" = none
/-! ### heaps: all but some addresses as before -/
def But (ds : List Addr) (H H' : Hp) : Prop := ∀ a o, a ∉ ds → H a = some o → H' a = some o
theorem But.refl (ds : List Addr) (H : Hp) : But ds H H := fun _ _ _ h => h
theorem But.trans {ds : List Addr} {H H1 H2 : Hp} (a : But ds H H1) (b : But ds H1 H2) : But ds H H2 := fun c o n h => b c o n (a c o n h)
/-! ### the deal: a dict of three numbers and a list of great ones -/
def dealK (s m n : Int) (l : Addr) : List (Key × V) := [(Sum.inr "seed", .int s), (Sum.inr "many", .int m), (Sum.inr "now", .int n), (Sum.inr "left", .ref l)]
structure Deal (H : Hp) (d l : Addr) : Prop where
  ex : ∃ (s m n : Int) (ns : List Int), H d = some (.dK (dealK s m n l)) ∧ H l = some (.lst (ns.map V.int)) ∧ 0 ≤ n ∧ ∀ x ∈ ns, 0 ≤ x
theorem key_ne {x y : Str} (h : (x == y) = false) : ¬ (Sum.inr x : Key) = Sum.inr y := fun e => by
  have := Sum.inr.inj e
  rw [this, beq_self_eq_true] at h
  cases h
theorem dk_seed {s m n : Int} {l : Addr} : valV (dealK s m n l) (Sum.inr "seed") = some (.int s) := valV_pos rfl
theorem dk_many {s m n : Int} {l : Addr} : valV (dealK s m n l) (Sum.inr "many") = some (.int m) := (valV_neg (key_ne (by decide +kernel))).trans (valV_pos rfl)
theorem dk_now {s m n : Int} {l : Addr} : valV (dealK s m n l) (Sum.inr "now") = some (.int n) :=
  (valV_neg (key_ne (by decide +kernel))).trans ((valV_neg (key_ne (by decide +kernel))).trans (valV_pos rfl))
theorem dk_left {s m n : Int} {l : Addr} : valV (dealK s m n l) (Sum.inr "left") = some (.ref l) :=
  (valV_neg (key_ne (by decide +kernel))).trans ((valV_neg (key_ne (by decide +kernel))).trans ((valV_neg (key_ne (by decide +kernel))).trans (valV_pos rfl)))
theorem dk_putNow {s m n k : Int} {l : Addr} : putK (dealK s m n l) (Sum.inr "now") (.int k) = dealK s m k l := by
  unfold putK
  rw [valV_any, dk_now, if_pos (show (some (V.int n)).isSome = true from rfl)]
  show [_, _, _, _] = _
  dsimp only
  rw [if_neg (key_ne (by decide +kernel)), if_neg (key_ne (by decide +kernel)), if_pos rfl, if_neg (key_ne (by decide +kernel))]
  rfl
theorem dk_putMany {s m n k : Int} {l : Addr} : putK (dealK s m n l) (Sum.inr "many") (.int k) = dealK s k n l := by
  unfold putK
  rw [valV_any, dk_many, if_pos (show (some (V.int m)).isSome = true from rfl)]
  show [_, _, _, _] = _
  dsimp only
  rw [if_neg (key_ne (by decide +kernel)), if_pos rfl, if_neg (key_ne (by decide +kernel)), if_neg (key_ne (by decide +kernel))]
  rfl
/-- d["x"], d in a slot -/
theorem rd_dk {σ : St} {H : Hp} {Q : VK} {i : Nat} {d : Addr} {kvs : List (Key × V)} {x : Str} {v : V} (h : H d = some (.dK kvs)) (hi : σ[i]? = some (some (.ref d))) (hv : valV kvs (Sum.inr x) = some v) (q : Q v H) : tDGet (tVar i) (tC (.str x)) σ H Q :=
  ⟨.ref d, hi, d, v, rfl, by rw [← hv]; exact DGet.k (k := Sum.inr x) h, q⟩
/-- d["x"] = e, the reading of e done before -/
theorem wr_dk {σ : St} {H : Hp} {D : Ends} {i : Nat} {d : Addr} {kvs kvs' : List (Key × V)} {x : Str} {v : V} (h : H d = some (.dK kvs)) (hi : σ[i]? = some (some (.ref d))) (hl : kvs.length < sizeLine) (hp : putK kvs (Sum.inr x) v = kvs') (q : D.nx σ (upd H d (.dK kvs'))) :
    tVar i σ H fun y H2 => tC (.str x) σ H2 fun z H3 => ∃ a H4, y = .ref a ∧ DPut H3 a z v H4 ∧ D.nx σ H4 :=
  ⟨.ref d, hi, d, upd H d (.dK kvs'), rfl, by rw [← hp]; exact DPut.k (k := Sum.inr x) h hl, q⟩
/-- the slots at the entry of a def of n names -/
def sN (n : Nat) (vs : List V) : St := vs.map some ++ List.replicate (n - vs.length) none
abbrev EndsQ (Q : VK) : Ends := { nx := fun _ H' => Q .non H', rt := Q }
abbrev FnP (K : PySem.W.Frag) (x : Str) (st : Stmt) (f : Addr) (fd : FuncData) : Prop := FunD K x x (defArgs st) (defBody st) (defScope st) [] [] f fd
/-! ### _law_draw -/
/-- a draw by n: some number from 0 on below n; the deal goes on, all else stands -/
def sp_draw : Sp := fun vs H Q _ => ∃ (d l : Addr) (n : Int), vs = [.ref d, .int n] ∧ 0 < n ∧ n < 2 ^ 200 ∧ Deal H d l ∧
  ∀ (k : Int) (H' : Hp), 0 ≤ k → k < n → But [d, l] H H' → Deal H' d l → Q (.int k) H'
def t_draw (K : PySem.W.Frag) : TS :=
  tSeq (tWhile (tAnd (tTest (tOp rEq (tDGet (tVar 0) (tC (.str "now"))) (tC (.int 0)))) (tTest (tOp qGt (tCB (qLen K) (tCons (tDGet (tVar 0) (tC (.str "left"))) (tNil))) (tC (.int 0))))) (sDPut (tVar 0) (tC (.str "now")) (tBM0 K "list" rPop (tDGet (tVar 0) (tC (.str "left"))))))
    (tSeq (tIfS (tTest (tOp qGt (tDGet (tVar 0) (tC (.str "now"))) (tC (.int 0)))) (tSeq (tAsg (tOp qMod (tDGet (tVar 0) (tC (.str "now"))) (tVar 1)) (gName 4))
    (tSeq (sDPut (tVar 0) (tC (.str "now")) (tOp qFdivW (tDGet (tVar 0) (tC (.str "now"))) (tVar 1)))
    (tRet (tVar 4)))) (tNext))
    (tSeq (sDPut (tVar 0) (tC (.str "many")) (tOp qAdd (tDGet (tVar 0) (tC (.str "many"))) (tC (.int 1))))
    (tSeq (tAsg (tOp qMod (tOp qMul (tOp qAdd (tDGet (tVar 0) (tC (.str "seed"))) (tOp qMul (tC (.int 40692)) (tDGet (tVar 0) (tC (.str "many"))))) (tC (.int 48271))) (tC (.int 2147483629))) (gName 2))
    (tSeq (tAsg (tOp qMod (tOp qAdd (tOp qAdd (tOp qMul (tVar 2) (tVar 2)) (tOp qMul (tC (.int 7919)) (tDGet (tVar 0) (tC (.str "many"))))) (tDGet (tVar 0) (tC (.str "seed")))) (tC (.int 2147483563))) (gName 3))
    (tRet (tOp qMod (tOp qFdiv (tOp qAdd (tOp qMul (tOp qMod (tOp qMul (tVar 3) (tVar 3)) (tC (.int 2147483647))) (tC (.int 30103))) (tVar 2)) (tC (.int 4096))) (tVar 1)))))))
theorem ifd {p A B : Prop} [Decidable p] (h1 : p → A) (h2 : ¬ p → B) : if decide p = true then A else B := by
  by_cases c : p
  · rw [if_pos (decide_eq_true c)]
    exact h1 c
  · rw [if_neg (by simpa using c)]
    exact h2 c
theorem mp {j : Int} (h : decide (0 < j) = true) : 0 < j := of_decide_eq_true h
theorem cm_mod {a b j : Int} (h : decide (0 < b) = true) (h2 : decide (b ≤ 2 ^ 64) = true) : CMul (a % b) j := by
  have h1 := of_decide_eq_true h
  have h2 := of_decide_eq_true h2
  have h3 := Int.emod_nonneg a (show b ≠ 0 by omega)
  have h4 := Int.emod_lt_of_pos a h1
  exact .inl ⟨by omega, by omega⟩
theorem len4 {s m n : Int} {l : Addr} : (dealK s m n l).length < sizeLine := by show 4 < sizeLine; decide
theorem mod_lt {a b : Int} (h : 0 < b) : 0 ≤ a % b ∧ a % b < b := ⟨Int.emod_nonneg _ (by omega), Int.emod_lt_of_pos _ h⟩
theorem pure_draw {K : PySem.W.Frag} (vs : List V) (H : Hp) (Q : VK) (E : XK) (h : sp_draw vs H Q E) : t_draw K (EndsQ Q) (sN 5 vs) H := by
  obtain ⟨d, l, n, rfl, hn, hn2, hD, k⟩ := h
  show t_draw K _ [some (.ref d), some (.int n), none, none, none] H
  -- the loop: the deal stands, all else too
  refine ⟨fun m σ H1 => σ = [some (.ref d), some (.int n), none, none, none] ∧ But [d, l] H H1 ∧ ∃ (s t n1 : Int) (ns : List Int), H1 d = some (.dK (dealK s t n1 l)) ∧ H1 l = some (.lst (ns.map V.int)) ∧ 0 ≤ n1 ∧ (∀ x ∈ ns, 0 ≤ x) ∧ m = ns.length, ?_, ?_⟩
  · obtain ⟨s, t, n1, ns, h1, h2, h3, h4⟩ := hD.ex
    exact ⟨_, rfl, .refl _ _, s, t, n1, ns, h1, h2, h3, h4, rfl⟩
  rintro m σ H1 ⟨rfl, hB, s, t, n1, ns, h1, h2, h3, h4, rfl⟩
  have hne : d ≠ l := ne_of h1 h2 (by intro z; cases z)
  refine rd_dk h1 rfl dk_now ⟨rfl, _, rfl, ?_⟩
  have after : ∀ ns : List Int, H1 l = some (.lst (ns.map V.int)) → (∀ x ∈ ns, 0 ≤ x) → tSeq (tIfS (tTest (tOp qGt (tDGet (tVar 0) (tC (.str "now"))) (tC (.int 0)))) (tSeq (tAsg (tOp qMod (tDGet (tVar 0) (tC (.str "now"))) (tVar 1)) (gName 4))
    (tSeq (sDPut (tVar 0) (tC (.str "now")) (tOp qFdivW (tDGet (tVar 0) (tC (.str "now"))) (tVar 1)))
    (tRet (tVar 4)))) (tNext))
    (tSeq (sDPut (tVar 0) (tC (.str "many")) (tOp qAdd (tDGet (tVar 0) (tC (.str "many"))) (tC (.int 1))))
    (tSeq (tAsg (tOp qMod (tOp qMul (tOp qAdd (tDGet (tVar 0) (tC (.str "seed"))) (tOp qMul (tC (.int 40692)) (tDGet (tVar 0) (tC (.str "many"))))) (tC (.int 48271))) (tC (.int 2147483629))) (gName 2))
    (tSeq (tAsg (tOp qMod (tOp qAdd (tOp qAdd (tOp qMul (tVar 2) (tVar 2)) (tOp qMul (tC (.int 7919)) (tDGet (tVar 0) (tC (.str "many"))))) (tDGet (tVar 0) (tC (.str "seed")))) (tC (.int 2147483563))) (gName 3))
    (tRet (tOp qMod (tOp qFdiv (tOp qAdd (tOp qMul (tOp qMod (tOp qMul (tVar 3) (tVar 3)) (tC (.int 2147483647))) (tC (.int 30103))) (tVar 2)) (tC (.int 4096))) (tVar 1))))))
      { nx := fun _ H' => Q .non H', rt := Q } [some (.ref d), some (.int n), none, none, none] H1 := by
    intro ns h2 h4
    refine rd_dk h1 rfl dk_now ⟨_, _, rfl, rfl, _, rfl, ?_⟩
    refine ifd (fun c => ?_) (fun c => ?_)
    · refine rd_dk h1 rfl dk_now ⟨_, rfl, _, _, rfl, rfl, hn, ?_⟩
      refine rd_dk h1 rfl dk_now ⟨_, rfl, _, _, rfl, rfl, wide_div hn (b := 200) (by omega) (by decide) (by decide), ?_⟩
      refine wr_dk h1 rfl len4 dk_putNow ⟨_, rfl, ?_⟩
      obtain ⟨m1, m2⟩ := mod_lt (a := n1) hn
      refine k _ _ m1 m2 (hB.trans fun a o ha e => ?_) ⟨s, t, n1 / n, ns, upd_same, ?_, Int.ediv_nonneg h3 (by omega), h4⟩
      · rw [upd_ne (by intro z; subst z; exact ha List.mem_cons_self)]
        exact e
      · rw [upd_ne (Ne.symm hne)]
        exact h2
    · refine rd_dk h1 rfl dk_many ⟨_, _, rfl, rfl, ?_⟩
      refine wr_dk h1 rfl len4 dk_putMany ?_
      refine rd_dk upd_same rfl dk_seed ?_
      refine rd_dk upd_same rfl dk_many ⟨_, _, rfl, rfl, .inl ⟨by decide, by decide⟩, _, _, rfl, rfl, _, _, rfl, rfl, .inr ⟨by decide, by decide⟩, _, _, rfl, rfl, mp rfl, ?_⟩
      refine ⟨_, rfl, _, rfl, _, _, rfl, rfl, cm_mod rfl rfl, ?_⟩
      refine rd_dk upd_same rfl dk_many ⟨_, _, rfl, rfl, .inl ⟨by decide, by decide⟩, _, _, rfl, rfl, ?_⟩
      refine rd_dk upd_same rfl dk_seed ⟨_, _, rfl, rfl, _, _, rfl, rfl, mp rfl, ?_⟩
      refine ⟨_, rfl, _, rfl, _, _, rfl, rfl, cm_mod rfl rfl, _, _, rfl, rfl, mp rfl, _, _, rfl, rfl, cm_mod rfl rfl, _, rfl, _, _, rfl, rfl, _, _, rfl, rfl, ⟨by decide, by decide⟩, _, rfl, _, _, rfl, rfl, hn, ?_⟩
      refine k _ _ (mod_lt hn).1 (mod_lt hn).2 (hB.trans fun a o ha e => ?_) ⟨s, t + 1, n1, ns, upd_same, ?_, h3, h4⟩
      · rw [upd_ne (by intro z; subst z; exact ha List.mem_cons_self)]
        exact e
      · rw [upd_ne (Ne.symm hne)]
        exact h2
  refine ifd (fun c => ?_) (fun c => ?_)
  · refine rd_dk h1 rfl dk_left ⟨_, (ns.map V.int).length, rfl, .inl ⟨_, SqL.of h2, rfl⟩, _, _, rfl, rfl, _, rfl, ?_⟩
    refine ifd (fun c2 => ?_) (fun c2 => ?_)
    · refine ⟨fun σ' H' => ∃ m', m' < ns.length ∧ _, fun _ _ h => h, ?_⟩
      have hpos : ns ≠ [] := by
        rintro rfl
        exact absurd c2 (by decide)
      refine rd_dk h1 rfl dk_left ⟨.inl ⟨rfl, _, SqL.of h2⟩, l, ns.map V.int, .int (ns.getLast hpos), rfl, rfl, h2, ?_, ?_⟩
      · rw [List.getElem?_map, List.length_map, ← List.getLast?_eq_getElem?, List.getLast?_eq_some_getLast hpos] <;> rfl
      · refine wr_dk (by rw [upd_ne hne]; exact h1) rfl len4 dk_putNow ⟨ns.length - 1, ?_, rfl, ?_, s, t, ns.getLast hpos, ns.dropLast, upd_same, ?_, h4 _ (List.getLast_mem hpos), fun x hx => h4 x ((List.dropLast_sublist ns).subset hx), by rw [List.length_dropLast]⟩
        · have := List.length_pos_iff.mpr hpos
          omega
        · intro a o ha e
          have h1' := hB a o ha e
          rw [upd_ne (by intro z; subst z; exact ha List.mem_cons_self), upd_ne (by intro z; subst z; exact ha (by simp))]
          exact h1'
        · rw [upd_ne (Ne.symm hne), upd_same, List.map_dropLast]
    · exact after ns h2 h4
  · exact after ns h2 h4
end Wf
/-! list(zip(t, u)), t and u tuples -/
namespace Wf
open PySem PySem.Spec
section
variable {prog : Program} {w : World} {A : Around} {E : Value → Shared → Prop} {s : Shared}
/-- a zip that has handed out a tuple which lives: field 0 tells where -/
abbrev zObj (x0 : Value) (b : Bool) (TI TO : Addr) : Obj := { cls := .type "zip", data := .fields #[x0, .bool b, .bool false, .ref TI, .ref TO] }
theorem alive {a : Addr} {Q : Option Obj → Shared → Prop} (h : Q (s.heap.get? a) s) : wpAny (model prog w) A (loadIfAlive a) Q E s := fun Γ p _ => by
  show Sem.wp _ _ (.loadIfAlive a .pure) _ _ _ _
  rw [Sem.wp_loadIfAlive]
  exact h
/-- the look at the owned tuple: it is not free -/
theorem notFree {z a TI TO : Addr} {b : Bool} {oa : Obj} {Q : Bool → Shared → Prop} (hz : s.heap.get? z = some (zObj (rawInt a) b TI TO)) (ha : s.heap.get? a = some oa)
    (h : ∀ h', h'.get? z = some (zObj (rawInt a) true TI TO) → Heap.SameBut z s.heap h' → Q false { s with heap := h' }) : wpAny (model prog w) A (Builtin.SmallTypes.ownedTupleIsFree (.ref z)) Q E s := by
  unfold Builtin.SmallTypes.ownedTupleIsFree
  refine wpAny_bind (wpAny_field hz rfl (x := rawInt a) rfl ?_)
  show wpAny _ _ (loadIfAlive ((a : Int).toNat) >>= _) _ _ _
  rw [Int.toNat_natCast]
  refine wpAny_bind (alive ?_)
  rw [ha]
  show wpAny _ _ (field (.ref z) 1 >>= _) _ _ _
  refine wpAny_bind (wpAny_field hz rfl (x := .bool b) rfl ?_)
  cases b with
  | true =>
    show wpAny _ _ (pure false) _ _ _
    exact wpAny_pure (h s.heap hz (Heap.SameBut.refl _ _))
  | false =>
    show wpAny _ _ (setField (.ref z) 1 (.bool true) >>= fun _ => pure false) _ _ _
    exact wpAny_bind (wpAny_setField_rec hz (by simp) fun h1 hz1 hs1 => wpAny_pure (h h1 hz1 hs1))
/-- the next pair of a zip whose tuple is out -/
theorem nextOut {z TI TO i1 i2 l1 l2 a : Addr} {k : Nat} {b : Bool} {oa : Obj} {xs ys : Array Value} {x y : Value} {Q : Option Value → Shared → Prop} (D : ZipApart z TI TO i1 i2 l1 l2)
    (hz : s.heap.get? z = some (zObj (rawInt a) b TI TO)) (ha : s.heap.get? a = some oa) (hTI : IsPair s.heap TI (.ref i1) (.ref i2))
    (h1 : s.heap.IsTupleIter i1 l1 k) (h2 : s.heap.IsTupleIter i2 l2 k) (hl1 : s.heap.IsTuple l1 xs) (hl2 : s.heap.IsTuple l2 ys) (hx : xs[k]? = some x) (hy : ys[k]? = some y)
    (hQ : ∀ h', h'.get? z = some (zObj (rawInt a) true TI TO) → h'.IsTupleIter i1 l1 (k + 1) → h'.IsTupleIter i2 l2 (k + 1) → IsPair h' s.heap.objs.size x y → h'.objs.size = s.heap.objs.size + 1 →
      (∀ c o, c ≠ z → c ≠ i1 → c ≠ i2 → s.heap.get? c = some o → h'.get? c = some o) → Q (some (.ref s.heap.objs.size)) { s with heap := h' }) : wpAny (model prog w) A (pyNext (.ref z)) Q E s := by
  have hT : s.TypeIs (.ref z) "zip" := ⟨_, hz, rfl⟩
  unfold pyNext
  refine wpAny_bind (wpAny_attempt (wpAny_callSpecial?_slot (name := Str.ofString "__next__") hT F.slot_zip_next (wpAny_call_entry F.slot_zip_next hT F.entry_zip_next ?_ (F.args_zip_next_1 _))))
  show wpAny _ _ (field (.ref z) 2 >>= _) _ _ _
  refine wpAny_bind (wpAny_field hz rfl (x := .bool false) rfl ?_)
  show wpAny _ _ (field (.ref z) 3 >>= _) _ _ _
  refine wpAny_bind (wpAny_field hz rfl (x := .ref TI) rfl ?_)
  refine wpAny_bind (wpAny_seqItems hTI rfl ?_)
  show wpAny _ _ (Builtin.SmallTypes.ownedTupleIsFree (.ref z) >>= _) _ _ _
  refine wpAny_bind (notFree hz ha fun g hg sg => ?_)
  simp only [Bool.false_eq_true, if_false]
  refine wpAny_bind ?_
  rw [← Array.forIn_toList]
  simp only [List.forIn_cons, List.forIn_nil]
  refine wpAny_bind (wpAny_bind (wpAny_holding ?_))
  show wpAny _ _ (Builtin.SmallTypes.nextOf (.ref i1) >>= _) _ _ _
  refine wpAny_bind (RZ.nextOf_tuple_item (h1.extBut sg.extBut D.i1z) (hl1.extBut sg.extBut D.l1z) hx fun g2 j1 sg2 => wpAny_pure ?_)
  refine wpAny_pure ?_
  refine wpAny_bind (wpAny_bind (wpAny_holding ?_))
  show wpAny _ _ (Builtin.SmallTypes.nextOf (.ref i2) >>= _) _ _ _
  refine wpAny_bind (RZ.nextOf_tuple_item ((h2.extBut sg.extBut D.i2z).extBut sg2.extBut D.i12.symm) ((hl2.extBut sg.extBut D.l2z).extBut sg2.extBut D.l2i1) hy fun g3 j2 sg3 => wpAny_pure ?_)
  refine wpAny_pure ?_
  refine wpAny_pure ?_
  show wpAny _ _ (newTuple [x, y] >>= fun v => ret v) _ _ _
  refine wpAny_bind (wpAny_newTuple ?_ (by show 2 ≤ sizeLine; decide))
  refine wpAny_pure ⟨_, rfl, wpAny_pure ?_⟩
  have z3 : g3.objs.size = s.heap.objs.size := by rw [sg3.1, sg2.1, sg.1]
  have up : ∀ c o, c ≠ z → c ≠ i1 → c ≠ i2 → s.heap.get? c = some o → g3.get? c = some o := fun c o n0 n1 n2 e => sg3.extBut _ _ n2 (sg2.extBut _ _ n1 (sg.extBut _ _ n0 e))
  show Q (some (.ref g3.objs.size)) { s with heap := g3.push { cls := .type "tuple", data := .seq #[x, y] } }
  have gg : IsPair (g3.push { cls := .type "tuple", data := .seq #[x, y] }) g3.objs.size x y := Heap.get?_push_size _ rfl
  rw [z3] at gg ⊢
  refine hQ _ (Heap.get?_push_of_some _ (sg3.extBut _ _ D.i2z.symm (sg2.extBut _ _ D.i1z.symm hg))) ((j1.extBut sg3.extBut D.i12).at fun o e => Heap.get?_push_of_some _ e) (j2.at fun o e => Heap.get?_push_of_some _ e) gg (by rw [Heap.size_push, z3]) fun c o n0 n1 n2 e => Heap.get?_push_of_some _ (up c o n0 n1 n2 e)
/-- such a zip at its end -/
theorem endOut {z TI TO i1 i2 l1 l2 a : Addr} {k : Nat} {b : Bool} {oa : Obj} {xs ys : Array Value} {Q : Option Value → Shared → Prop} (hh : A.handled = none) (D : ZipApart z TI TO i1 i2 l1 l2)
    (hz : s.heap.get? z = some (zObj (rawInt a) b TI TO)) (ha : s.heap.get? a = some oa) (hTI : IsPair s.heap TI (.ref i1) (.ref i2))
    (h1 : s.heap.IsTupleIter i1 l1 k) (h2 : s.heap.IsTupleIter i2 l2 k) (hl1 : s.heap.IsTuple l1 xs) (hl2 : s.heap.IsTuple l2 ys) (hx : xs[k]? = none)
    (hQ : ∀ h', (∀ c o, c ≠ z → c ≠ i1 → c ≠ i2 → s.heap.get? c = some o → h'.get? c = some o) → Q none { s with heap := h' }) : wpAny (model prog w) A (pyNext (.ref z)) Q E s := by
  have hT : s.TypeIs (.ref z) "zip" := ⟨_, hz, rfl⟩
  unfold pyNext
  refine wpAny_bind (wpAny_attempt (wpAny_callSpecial?_slot (name := Str.ofString "__next__") hT F.slot_zip_next (wpAny_call_entry F.slot_zip_next hT F.entry_zip_next ?_ (F.args_zip_next_1 _))))
  show wpAny _ _ (field (.ref z) 2 >>= _) _ _ _
  refine wpAny_bind (wpAny_field hz rfl (x := .bool false) rfl ?_)
  show wpAny _ _ (field (.ref z) 3 >>= _) _ _ _
  refine wpAny_bind (wpAny_field hz rfl (x := .ref TI) rfl ?_)
  refine wpAny_bind (wpAny_seqItems hTI rfl ?_)
  show wpAny _ _ (Builtin.SmallTypes.ownedTupleIsFree (.ref z) >>= _) _ _ _
  refine wpAny_bind (notFree hz ha fun g hg sg => ?_)
  simp only [Bool.false_eq_true, if_false]
  refine wpAny_bind ?_
  rw [← Array.forIn_toList]
  simp only [List.forIn_cons, List.forIn_nil]
  refine wpAny_bind (wpAny_bind (wpAny_holding ?_))
  show wpAny _ _ (Builtin.SmallTypes.nextOf (.ref i1) >>= _) _ _ _
  refine wpAny_bind (RZ.nextOf_tuple_end hh (h1.extBut sg.extBut D.i1z) (hl1.extBut sg.extBut D.l1z) hx fun g2 e sg2 he => ?_)
  obtain ⟨o, ho, hc⟩ := he
  refine wpAny_bind (wpAny_isInstance (T := "StopIteration") (b := true) ⟨o, ho, hc⟩ isSubtype_stop ?_)
  exact wpAny_pure (hQ g2 fun c o n0 n1 _ e => sg2 _ _ n1 (sg.extBut _ _ n0 e))
theorem nolen_zip : typeLookup (.type "zip") "__len__" = pure none := by rw [typeLookup_type, builtinLookup_eq_fast]; kernel_rfl
theorem nohint_zip : typeLookup (.type "zip") "__length_hint__" = pure none := by rw [typeLookup_type, builtinLookup_eq_fast]; kernel_rfl
/-- where the walk of a zip of two tuples stands -/
structure ZAt (h : Heap) (z TI TO i1 i2 l1 l2 S n0 : Addr) (xs ys : Array Value) (i : Nat) : Prop where
  own : (i = 0 ∧ IsZip h z TI TO .none ∧ ∃ a b, IsPair h TO a b) ∨ (0 < i ∧ ∃ b, h.get? z = some (zObj (rawInt n0) b TI TO))
  ti : IsPair h TI (.ref i1) (.ref i2)
  it1 : h.IsTupleIter i1 l1 i
  it2 : h.IsTupleIter i2 l2 i
  t1 : h.IsTuple l1 xs
  t2 : h.IsTuple l2 ys
  lst : ∃ acc c, h.get? S = some { cls := .type "list", dict := none, data := .seq acc c, slots := #[] } ∧ acc.toList = (List.range i).map fun j => Value.ref (n0 + j)
  sz : h.objs.size = n0 + i
  made : ∀ j, j < i → ∃ x y, xs[j]? = some x ∧ ys[j]? = some y ∧ IsPair h (n0 + j) x y
theorem loopZip {R : Result → Shared → Prop} {z TI TO i1 i2 l1 l2 S n0 : Addr} {xs ys : Array Value} {res : Value} (hh : A.handled = none) (D : ZipApart z TI TO i1 i2 l1 l2) (hn : xs.size = ys.size) (hl : xs.size ≤ sizeLine)
    (hS : S ≠ z ∧ S ≠ TO ∧ S ≠ i1 ∧ S ≠ i2 ∧ S ≠ TI ∧ S ≠ l1 ∧ S ≠ l2 ∧ S < n0) (hb : z < n0 ∧ TO < n0 ∧ i1 < n0 ∧ i2 < n0) :
    ∀ (k i : Nat) (s : Shared), xs.size - i = k → i ≤ xs.size → ZAt s.heap z TI TO i1 i2 l1 l2 S n0 xs ys i →
      (∀ h' tk, (∀ c o, c ≠ z → c ≠ TO → c ≠ i1 → c ≠ i2 → c ≠ S → s.heap.get? c = some o → h'.get? c = some o) →
        (∃ acc c, h'.get? S = some { cls := .type "list", dict := none, data := .seq acc c, slots := #[] } ∧ acc.toList = (List.range xs.size).map fun j => Value.ref (n0 + j)) →
        (∀ j, j < xs.size → ∃ x y, xs[j]? = some x ∧ ys[j]? = some y ∧ IsPair h' (n0 + j) x y) → R (.ok (.ret res)) { s with heap := h', toks := tk }) →
      codeAny (model prog w) A (.builtin "list.extend.loop" ⟨[.ref S, .ref z, res], []⟩) R s := by
  obtain ⟨s1, s2, s3, s4, s5, s6, s7, s8⟩ := hS
  obtain ⟨b1, b2, b3, b4⟩ := hb
  have far : ∀ {c : Addr} {j : Nat}, c < n0 → n0 + j ≠ c := fun h => Nat.ne_of_gt (Nat.lt_of_lt_of_le h (Nat.le_add_right _ _))
  intro k
  induction k with
  | zero =>
    intro i s hk hi Z hR
    have hin : i = xs.size := by omega
    refine codeAny_builtin F.entry_extend_loop ?_
    rw [Around.under_plainId F.plain_extend_loop _]
    show wpAny _ A.in1 (pyNext (.ref z) >>= _) _ _ s
    have hx : xs[i]? = none := by rw [hin]; simp
    have fin : ∀ h' : Heap, (∀ c o, c ≠ z → c ≠ TO → c ≠ i1 → c ≠ i2 → s.heap.get? c = some o → h'.get? c = some o) → R (.ok (.ret res)) { s with heap := h' } := fun h' kp => by
      obtain ⟨acc, c, e, ea⟩ := Z.lst
      rw [hin] at ea
      refine hR h' s.toks (fun c o c1 c2 c3 c4 _ e => kp c o c1 c2 c3 c4 e) ⟨acc, c, kp _ _ s1 s2 s3 s4 e, ea⟩ fun j hj => ?_
      obtain ⟨x, y, e1, e2, e3⟩ := Z.made j (by omega)
      exact ⟨x, y, e1, e2, kp _ _ (far b1) (far b2) (far b3) (far b4) e3⟩
    rcases Z.own with ⟨_, hz, a, b, hTO⟩ | ⟨h0, b, hz⟩
    · refine wpAny_bind (RZ.pyNext_zipT_end hh D hz Z.ti hTO Z.it1 Z.it2 Z.t1 Z.t2 (.inl hx) fun h' kp => wpAny_pure ?_)
      exact fin h' kp
    · obtain ⟨_, _, _, _, e3⟩ := Z.made 0 h0
      refine wpAny_bind (endOut hh D hz e3 Z.ti Z.it1 Z.it2 Z.t1 Z.t2 hx fun h' kp => wpAny_pure ?_)
      exact fin h' fun c o c1 _ c3 c4 e => kp c o c1 c3 c4 e
  | succ k ih =>
    intro i s hk hi Z hR
    have hlt : i < xs.size := by omega
    refine codeAny_builtin F.entry_extend_loop ?_
    rw [Around.under_plainId F.plain_extend_loop _]
    show wpAny _ A.in1 (pyNext (.ref z) >>= _) _ _ s
    have hx : xs[i]? = some xs[i] := by simp [hlt]
    have hy : ys[i]? = some (ys[i]'(by omega)) := by simp
    generalize ys[i]'(by omega) = y at hy
    generalize xs[i] = x at hx
    -- behind the next pair
    have step : ∀ h' : Heap, (∃ b, h'.get? z = some (zObj (rawInt n0) b TI TO)) → h'.IsTupleIter i1 l1 (i + 1) → h'.IsTupleIter i2 l2 (i + 1) → IsPair h' s.heap.objs.size x y → h'.objs.size = s.heap.objs.size + 1 →
        (∀ c o, c ≠ z → c ≠ TO → c ≠ i1 → c ≠ i2 → s.heap.get? c = some o → h'.get? c = some o) →
        wpAny (model prog w) A.in1 (updateSeq S (·.push (.ref s.heap.objs.size)) >>= fun _ => again (.builtin "list.extend.loop" ⟨[.ref S, .ref z, res], []⟩))
          (fun fin s' => match fin with | .done f => R (.ok f) s' | .again c' => c'.quiet = true ∧ codeAny (model prog w) A c' R s') (fun e s' => R (.error e) s') { s with heap := h' } := by
      intro h' hz j1 j2 hp sz kp
      obtain ⟨acc, c, e, ea⟩ := Z.lst
      have e' := kp _ _ s1 s2 s3 s4 e
      have la : acc.size = i := by rw [← Array.length_toList, ea, List.length_map, List.length_range]
      have oth : ∀ b o, b ≠ S → h'.get? b = some o → (h'.update S (Obj.mapSeq (·.push (.ref s.heap.objs.size)))).get? b = some o := fun b o hb e => (Heap.get?_update_other _ _ (Ne.symm hb)).trans e
      refine wpAny_bind ?_
      refine wpAny_updateSeq e' rfl (wpAny_pure ⟨plainId_quiet F.plain_extend_loop _, ih (i + 1) _ (by omega) hlt ?_ fun h'' tk kp2 q2 q3 => ?_⟩)
        (by rw [la]; omega) (by show (acc.push _).size ≤ sizeLine + 1; rw [Array.size_push, la]; omega)
      · refine ⟨.inr ⟨Nat.succ_pos _, ?_⟩, oth _ _ (Ne.symm s5) (kp _ _ D.TIz D.TITO D.TIi1 D.TIi2 Z.ti), j1.at fun o e => oth _ o (Ne.symm s3) e, j2.at fun o e => oth _ o (Ne.symm s4) e, ?_, ?_, ⟨_, _, Heap.get?_update_self _ e' rfl, ?_⟩, ?_, fun j hj => ?_⟩
        · obtain ⟨b, hz⟩ := hz
          exact ⟨b, oth _ _ (Ne.symm s1) hz⟩
        · obtain ⟨o, q, r⟩ := Z.t1
          exact ⟨o, oth _ _ (Ne.symm s6) (kp _ _ D.l1z D.l1TO D.l1i1 D.l1i2 q), r⟩
        · obtain ⟨o, q, r⟩ := Z.t2
          exact ⟨o, oth _ _ (Ne.symm s7) (kp _ _ D.l2z D.l2TO D.l2i1 D.l2i2 q), r⟩
        · rw [Array.toList_push, ea, List.range_succ, List.map_append, Z.sz]
          rfl
        · show (h'.update S _).objs.size = _
          rw [Heap.size_update, sz, Z.sz]
          rfl
        · by_cases hji : j < i
          · obtain ⟨x', y', e1, e2, e3⟩ := Z.made j hji
            exact ⟨x', y', e1, e2, oth _ _ (far s8) (kp _ _ (far b1) (far b2) (far b3) (far b4) e3)⟩
          · have hj : j = i := by omega
            subst hj
            refine ⟨x, y, hx, hy, oth _ _ (far s8) ?_⟩
            rw [← Z.sz]
            exact hp
      · exact hR h'' tk (fun c o c1 c2 c3 c4 c5 e => kp2 c o c1 c2 c3 c4 c5 (oth _ _ c5 (kp _ _ c1 c2 c3 c4 e))) q2 q3
    rcases Z.own with ⟨h0, hz, a, b, hTO⟩ | ⟨h0, b, hz⟩
    · refine wpAny_bind (RZ.pyNext_zipT_item D hz Z.ti hTO Z.it1 Z.it2 Z.t1 Z.t2 hx hy fun h' q1 q2 q3 q4 q5 q6 kp => ?_)
      refine step h' ⟨false, ?_⟩ q3 q4 q5 q6 kp
      have e0 : s.heap.objs.size = n0 := by rw [Z.sz, h0]; rfl
      rw [← e0]
      exact q1
    · obtain ⟨_, _, _, _, e3⟩ := Z.made 0 h0
      refine wpAny_bind (nextOut D hz e3 Z.ti Z.it1 Z.it2 Z.t1 Z.t2 hx hy fun h' q1 q3 q4 q5 q6 kp => ?_)
      exact step h' ⟨true, q1⟩ q3 q4 q5 q6 fun c o c1 _ c3 c4 e => kp c o c1 c3 c4 e
/-- list(z), z a zip just made -/
theorem callZip {z TI TO i1 i2 l1 l2 : Addr} {xs ys : Array Value} {Q : Value → Shared → Prop} (hh : A.handled = none) (D : ZipApart z TI TO i1 i2 l1 l2) (hn : xs.size = ys.size) (hl : xs.size ≤ sizeLine)
    (hz : IsZip s.heap z TI TO .none) (hTI : IsPair s.heap TI (.ref i1) (.ref i2)) (hTO : IsPair s.heap TO .none .none) (h1 : s.heap.IsTupleIter i1 l1 0) (h2 : s.heap.IsTupleIter i2 l2 0) (t1 : s.heap.IsTuple l1 xs) (t2 : s.heap.IsTuple l2 ys)
    (hQ : ∀ h' tk, (∀ c o, c ≠ z → c ≠ TO → c ≠ i1 → c ≠ i2 → s.heap.get? c = some o → h'.get? c = some o) →
        (∃ acc c, h'.get? s.heap.objs.size = some { cls := .type "list", dict := none, data := .seq acc c, slots := #[] } ∧ acc.toList = (List.range xs.size).map fun j => Value.ref (s.heap.objs.size + 1 + j)) →
        (∀ j, j < xs.size → ∃ x y, xs[j]? = some x ∧ ys[j]? = some y ∧ IsPair h' (s.heap.objs.size + 1 + j) x y) → Q (.ref s.heap.objs.size) { s with heap := h', toks := tk }) :
    wpAny (model prog w) A (call (.type "list") [.ref z]) Q E s := by
  refine callType_codes (Q₁ := fun obj s₁ => obj = .ref s.heap.objs.size ∧ s₁ = { s with heap := s.heap.push { cls := .type "list", data := .seq #[] } }) F.called_list (F.typeCall_list_1 _) F.entry_list_init (code_list_new _ ⟨rfl, rfl⟩) fun obj s₁ h₁ => ?_
  obtain ⟨rfl, rfl⟩ := h₁
  obtain ⟨o1, ho1, _⟩ := id h1
  obtain ⟨o2, ho2, _⟩ := id h2
  obtain ⟨p1, hp1, _⟩ := id t1
  obtain ⟨p2, hp2, _⟩ := id t2
  have hS : (s.heap.push { cls := .type "list", data := .seq #[] }).get? s.heap.objs.size = some { cls := .type "list", data := .seq #[] } := Heap.get?_push_size _ rfl
  have up : ∀ b o, s.heap.get? b = some o → (s.heap.push { cls := .type "list", data := .seq #[] }).get? b = some o := fun b o e => Heap.get?_push_of_some _ e
  have nS : ∀ {b o}, s.heap.get? b = some o → s.heap.objs.size ≠ b := fun e => Nat.ne_of_gt (Heap.lt_size e)
  refine ⟨⟨_, hS, rfl⟩, F.args_list_init_2 _ _, ?_⟩
  show wpAny _ A.in1.in1 (Builtin.List.listItems (.ref s.heap.objs.size) >>= fun old => Builtin.List.listUpdate (.ref s.heap.objs.size) (fun _ => #[]) >>= fun _ => letGo old.toList.reverse >>= fun _ => Builtin.List.listExtendWith (.ref s.heap.objs.size) (.ref z) .none) _ _ _
  refine wpAny_bind ?_
  unfold Builtin.List.listItems
  refine wpAny_bind (wpAny_seqItems hS rfl (wpAny_pure ?_))
  show wpAny _ A.in1.in1 (updateSeq s.heap.objs.size (fun _ => #[]) >>= fun _ => letGo (#[] : Array Value).toList.reverse >>= fun _ => Builtin.List.listExtendWith (.ref s.heap.objs.size) (.ref z) .none) _ _ _
  refine wpAny_bind (wpAny_updateSeq hS rfl ?_)
  have hS2 := Heap.get?_update_self (Obj.mapSeq (fun _ => (#[] : Array Value))) hS rfl
  generalize hg : (s.heap.push { cls := .type "list", data := .seq #[] }).update s.heap.objs.size (Obj.mapSeq (fun _ => (#[] : Array Value))) = g at hS2
  have up2 : ∀ b o, s.heap.get? b = some o → g.get? b = some o := fun b o e => by
    rw [← hg]
    exact (Heap.get?_update_other _ _ (nS e)).trans (up b o e)
  have sg : g.objs.size = s.heap.objs.size + 1 := by rw [← hg, Heap.size_update, Heap.size_push]
  refine wpAny_bind (wpAny_letGo ?_)
  have hT : ({ s with heap := g } : Shared).TypeIs (.ref z) "zip" := ⟨_, up2 _ _ hz, rfl⟩
  have hs1 : Builtin.List.listSameRef (.ref s.heap.objs.size) (.ref z) = false := by simp [Builtin.List.listSameRef, nS hz]
  show wpAny _ A.in1.in1 (Builtin.List.listExtendWith (.ref s.heap.objs.size) (.ref z) .none) _ _ { s with heap := g }
  unfold Builtin.List.listExtendWith
  refine wpAny_bind (wpAny_typeOf hT ?_)
  rw [if_neg (by rw [hs1]; decide)]
  refine wpAny_bind (wpAny_pyIter_zip (up2 _ _ hz) ?_)
  refine wpAny_bind (wpAny_holding ?_)
  unfold Builtin.List.listLengthHint
  refine wpAny_bind (wpAny_specialOf hT nolen_zip ?_)
  show wpAny _ _ (specialOf (Value.ref z) (Str.ofString "__length_hint__") >>= _) _ _ _
  refine wpAny_bind (wpAny_specialOf hT nohint_zip ?_)
  refine wpAny_pure ?_
  show wpAny _ _ (rule "list.extend.makes-room" >>= fun _ => Builtin.List.listTouch (.ref s.heap.objs.size) >>= fun _ => again (.builtin "list.extend.loop" ⟨[.ref s.heap.objs.size, .ref z, .none], []⟩)) _ _ _
  refine wpAny_bind (wpAny_rule ?_)
  refine wpAny_bind ?_
  show wpAny _ _ (updateSeq s.heap.objs.size (·.push .none) >>= fun _ => updateSeq s.heap.objs.size (·.pop)) _ _ _
  refine wpAny_bind (wpAny_updateSeq hS2 rfl ?_)
  have hS3 := Heap.get?_update_self (Obj.mapSeq (·.push Value.none)) hS2 rfl
  refine wpAny_updateSeq (hz := by seq_fits) hS3 rfl ?_
  have hS4 := Heap.get?_update_self (Obj.mapSeq (·.pop)) hS3 rfl
  generalize hg4 : ((g.update s.heap.objs.size (Obj.mapSeq (·.push Value.none))).update s.heap.objs.size (Obj.mapSeq (·.pop))) = g4 at hS4
  have up4 : ∀ b o, s.heap.get? b = some o → g4.get? b = some o := fun b o e => by
    rw [← hg4]
    exact (Heap.get?_update_other _ _ (nS e)).trans ((Heap.get?_update_other _ _ (nS e)).trans (up2 b o e))
  have sg4 : g4.objs.size = s.heap.objs.size + 1 := by rw [← hg4, Heap.size_update, Heap.size_update, sg]
  have lt1 : ∀ {b o}, s.heap.get? b = some o → b < s.heap.objs.size + 1 := fun e => Nat.lt_succ_of_lt (Heap.lt_size e)
  refine wpAny_pure ⟨plainId_quiet F.plain_extend_loop _, loopZip (n0 := s.heap.objs.size + 1) (S := s.heap.objs.size) (A := A.in1) hh D hn hl ⟨nS hz, nS hTO, nS ho1, nS ho2, nS hTI, nS hp1, nS hp2, Nat.lt_succ_self _⟩ ⟨lt1 hz, lt1 hTO, lt1 ho1, lt1 ho2⟩ xs.size 0 _ (by simp) (Nat.zero_le _)
    ⟨.inl ⟨rfl, up4 _ _ hz, _, _, up4 _ _ hTO⟩, up4 _ _ hTI, h1.at fun o e => up4 _ o e, h2.at fun o e => up4 _ o e, ⟨p1, up4 _ _ hp1, by assumption⟩, ⟨p2, up4 _ _ hp2, by assumption⟩, ⟨_, _, hS4, rfl⟩, sg4, fun j hj => absurd hj (Nat.not_lt_zero _)⟩ fun h' tk kp q2 q3 => ?_⟩
  exact ⟨rfl, hQ h' tk (fun c o c1 c2 c3 c4 e => kp c o c1 c2 c3 c4 (Ne.symm (nS e)) (up4 _ _ e)) q2 q3⟩
end
section
open L2
theorem vrefs (m : Addr) (n : Nat) : Vals (((List.range n).map fun j => m + 1 + j).map V.ref) ((List.range n).map fun j => Value.ref (m + 1 + j)) := by
  rw [List.map_map]
  generalize List.range n = l
  induction l with
  | nil => exact .nil
  | cons j l ih => exact .cons rfl ih
/-- list(zip(t, u)), t and u tuples of one length: a new list of new pairs -/
def rLstZip (K : PySem.W.Frag) : List V → Hp → VK → Prop := fun vs H Q => ∃ (a b : Addr) (xs ys : List V), vs = [.ref a, .ref b] ∧ SqT K H a xs ∧ SqT K H b ys ∧ xs.length = ys.length ∧
  ∀ (q : Addr) (ps : List Addr) (H3 : Hp), H q = none → (∀ p ∈ ps, H p = none) → Same H H3 → H3 q = some (.lst (ps.map V.ref)) → ps.length = xs.length →
    (∀ (i : Nat) (p : Addr), ps[i]? = some p → ∃ u v, xs[i]? = some u ∧ ys[i]? = some v ∧ H3 p = some (.tup [u, v])) → Q (.ref q) H3
variable {X : Cx}
theorem pe_lstZip {e1 e2 : Expr} {t : TA} {p p2 pos pos2 : Pos} (hc : X.calm = true) (hg : Gl X "list") (hm : X.mg "list" = none) (hg2 : Gl X "zip") (hm2 : X.mg "zip" = none) (ha : PA X [e1, e2] t)
    (hs : starEach [e1, e2] X.env = (false, eval e1 X.env) :: starEach [e2] X.env := by rfl)
    (hpl : (backTo pos2 (starEach [e2] X.env)).any (·.1) = false := by rfl)
    (hs2 : starEach [.Call (.Name "zip" p2) [e1, e2] [] pos2] X.env = (false, eval (.Call (.Name "zip" p2) [e1, e2] [] pos2) X.env) :: starEach [] X.env := by rfl) :
    PE X (.Call (.Name "list" p) [.Call (.Name "zip" p2) [e1, e2] [] pos2] [] pos) (tCB (rLstZip X.K) t) := by
  refine ⟨fun pins s σ H Q I h => ?_⟩
  refine PyProof.Rows.Call_ (ld_blt I hg hm PyProof.Rows.boot_list (PyProof.Rows.callWith_type1 (PyProof.Rows.args_cons (PyProof.Rows.Call_ (ld_blt I hg2 hm2 PyProof.Rows.boot_zip (PyProof.Rows.callWith_type1 (thn (ha.run pos2 pins s σ H _ I h) fun us s1 ⟨vs, H1, I1, r1, q1⟩ => ?_) hs hpl))) hs2) hs2 rfl))
  obtain ⟨a, b, xs, ys, ex, hqx, hqy, hlen, q⟩ := q1
  subst ex
  cases r1 with
  | cons r rr =>
    cases rr with
    | cons r' rr =>
      cases rr
      cases r
      cases r'
      obtain ⟨ix, rv1, p1, z1⟩ := I1.tuple hqx
      obtain ⟨iy, rv2, p2, _⟩ := I1.tuple hqy
      obtain ⟨o1, ho1, _⟩ := id p1
      obtain ⟨o2, ho2, _⟩ := id p2
      refine RZ.call_zipT (show s1.heap.IsTuple a ix.toArray from p1) (show s1.heap.IsTuple b iy.toArray from p2) fun h' hz hTI hTO h1 h2 hsz hk => ?_
      have nx : ix.toArray.size = xs.length := by rw [List.size_toArray, rv1.length]
      have ny : iy.toArray.size = ys.length := by rw [List.size_toArray, rv2.length]
      have w1 : h'.IsTuple a ix.toArray := by
        obtain ⟨o, e, r⟩ := p1
        exact ⟨o, hk _ _ e, r⟩
      have w2 : h'.IsTuple b iy.toArray := by
        obtain ⟨o, e, r⟩ := p2
        exact ⟨o, hk _ _ e, r⟩
      refine PyProof.Rows.args_nil ?_
      refine callZip (s := { s1 with heap := h' }) (I1.ok.hd hc) (PySem.W.ktu_apart s1.heap.objs.size a b (Heap.lt_size ho1) (Heap.lt_size ho2)) (by rw [nx, ny, hlen]) (by rw [nx]; exact z1) hz hTI hTO h1 h2 w1 w2 fun g tk kp ⟨acc, c, hS, ea⟩ made => ?_
      -- what is tracked then
      have base : ∀ {c o}, s1.heap.get? c = some o → g.get? c = some o := fun {c o} e => by
        have l : c < s1.heap.objs.size := Heap.lt_size e
        exact kp c o (Nat.ne_of_lt (Nat.lt_of_lt_of_le l (Nat.le_add_right _ _))) (Nat.ne_of_lt (Nat.lt_of_lt_of_le l (Nat.le_add_right _ _))) (Nat.ne_of_lt l) (Nat.ne_of_lt (Nat.lt_of_lt_of_le l (Nat.le_add_right _ _))) (hk c o e)
      have hsz' : h'.objs.size = s1.heap.objs.size + 5 := hsz
      generalize hm0 : h'.objs.size = m at hS made ea
      have lm : s1.heap.objs.size ≤ m := by rw [← hm0, hsz']; exact Nat.le_add_right _ _
      have old : ∀ {c o}, s1.heap.get? c = some o → c < m := fun e => Nat.lt_of_lt_of_le (Heap.lt_size e) lm
      have oldH : ∀ {c o}, H1 c = some o → c < m := fun e => Nat.lt_of_lt_of_le (I1.hok.lt e) lm
      have pick : ∀ j, j < xs.length → ∃ u v iu iv, xs[j]? = some u ∧ ys[j]? = some v ∧ ix[j]? = some iu ∧ iy[j]? = some iv ∧ RelV u iu ∧ RelV v iv ∧ IsPair g (m + 1 + j) iu iv := fun j hj => by
        obtain ⟨iu, iv, e1, e2, e3⟩ := made j (by rw [nx]; exact hj)
        have k1 : xs[j]? = some xs[j] := List.getElem?_eq_getElem hj
        have k2 : ys[j]? = some (ys[j]'(by omega)) := List.getElem?_eq_getElem (by omega)
        obtain ⟨u', f1, f2⟩ := rv1.get k1
        obtain ⟨v', f3, f4⟩ := rv2.get k2
        have e1' : ix[j]? = some iu := by simpa using e1
        have e2' : iy[j]? = some iv := by simpa using e2
        rw [e1'] at f1
        rw [e2'] at f3
        cases f1
        cases f3
        exact ⟨_, _, iu, iv, k1, k2, e1', e2', f2, f4, e3⟩
      let H3 : Hp := fun c => if c = m then some (.lst (((List.range xs.length).map fun j => m + 1 + j).map V.ref)) else if m < c ∧ c < m + 1 + xs.length then some (.tup [xs.getD (c - m - 1) .non, ys.getD (c - m - 1) .non]) else H1 c
      have hH0 : H3 m = some (.lst (((List.range xs.length).map fun j => m + 1 + j).map V.ref)) := if_pos rfl
      have hHt : ∀ j, j < xs.length → ∀ u v, xs[j]? = some u → ys[j]? = some v → H3 (m + 1 + j) = some (.tup [u, v]) := fun j hj u v e1 e2 => by
        have a1 : ¬ m + 1 + j = m := Nat.ne_of_gt (Nat.lt_of_lt_of_le (Nat.lt_succ_self m) (Nat.le_add_right _ _))
        have a2 : m < m + 1 + j ∧ m + 1 + j < m + 1 + xs.length := ⟨Nat.lt_of_lt_of_le (Nat.lt_succ_self m) (Nat.le_add_right _ _), Nat.add_lt_add_left hj _⟩
        have a3 : m + 1 + j - m - 1 = j := by rw [Nat.add_assoc, Nat.add_sub_cancel_left, Nat.add_sub_cancel_left]
        show (if m + 1 + j = m then _ else if m < m + 1 + j ∧ m + 1 + j < m + 1 + xs.length then _ else _) = _
        rw [if_neg a1, if_pos a2, a3]
        simp [List.getD, e1, e2]
      have hHo : ∀ c, c < m → H3 c = H1 c := fun c hc => by
        show (if c = m then _ else if m < c ∧ c < m + 1 + xs.length then _ else _) = _
        rw [if_neg (Nat.ne_of_lt hc), if_neg (fun z => absurd z.1 (Nat.not_lt_of_le (Nat.le_of_lt hc)))]
      have hHs : ∀ c o, H3 c = some o → c = m ∨ (∃ j, j < xs.length ∧ c = m + 1 + j) ∨ H1 c = some o := fun c o e => by
        by_cases c1 : c = m
        · exact .inl c1
        · by_cases c2 : m < c ∧ c < m + 1 + xs.length
          · refine .inr (.inl ⟨c - m - 1, ?_, ?_⟩)
            · have := c2.2
              have := c2.1
              simp only [Addr] at *
              omega
            · have := c2.1
              simp only [Addr] at *
              omega
          · have e' : (if c = m then some (HO.lst (((List.range xs.length).map fun j => m + 1 + j).map V.ref)) else if m < c ∧ c < m + 1 + xs.length then some (.tup [xs.getD (c - m - 1) .non, ys.getD (c - m - 1) .non]) else H1 c) = some o := e
            rw [if_neg c1, if_neg c2] at e'
            exact .inr (.inr e')
      have sH : Same H1 H3 := fun c o e => by rw [hHo c (oldH e)]; exact e
      refine I1.after ⟨.ref m, H3, rfl, I1.bare, ⟨fun c o e n _ _ => base e, fun c o e n _ _ => ⟨o.slots, base e⟩, fun c o e n _ => by rw [hHo c (old e)]; exact n, fun c o e _ => ⟨o, base e⟩, fun c zs e => sH _ _ e, fun c o u e => sH _ _ e, fun c ps e => ⟨#[], by rw [sH _ _ e]; simp⟩⟩, fun c o e => ?_, by rw [← hm0]; rfl, ?_⟩
      · rcases hHs c o e with rfl | ⟨j, hj, rfl⟩ | e1
        · rw [hH0] at e
          cases e
          refine ⟨by simp only [List.length_map, List.length_range]; exact z1, acc.toList, _, ?_, by rw [Array.toArray_toList]; exact hS⟩
          rw [ea, nx]
          exact vrefs _ _
        · obtain ⟨u, v, iu, iv, k1, k2, k3, k4, r1, r2, e3⟩ := pick j hj
          rw [hHt j hj u v k1 k2] at e
          cases e
          exact ⟨by show 2 ≤ sizeLine; decide, [iu, iv], .cons r1 (.cons r2 .nil), _, e3, rfl, _, rfl⟩
        · exact (I1.hok c o e1).stay (fun b u _ q => base q) (fun b q => sH _ _ q) fun b zs q => sH _ _ q
      · refine q m _ H3 (I1.hok.fresh lm) (fun c hc => ?_) sH hH0 (by simp) fun i c hc => ?_
        · obtain ⟨j, _, rfl⟩ := List.mem_map.mp hc
          exact I1.hok.fresh (Nat.le_trans lm (Nat.le_trans (Nat.le_succ m) (Nat.le_add_right _ _)))
        · rw [List.getElem?_map] at hc
          obtain ⟨j, e1, e2⟩ := Option.map_eq_some_iff.mp hc
          have hi : i < xs.length := by
            have := (List.getElem?_eq_some_iff.mp e1).1
            simpa using this
          have e1' : i = j := by
            rw [List.getElem?_range hi] at e1
            exact Option.some.inj e1
          subst e1'
          subst e2
          obtain ⟨u, v, _, _, k1, k2, _⟩ := pick i hi
          exact ⟨u, v, k1, k2, hHt i hi u v k1 k2⟩
end
end Wf
/-! Defs that are called where no repr is under way (guards are none): for the text that repr gives. -/
namespace Wf
open PySem PySem.Spec L2
section
variable {P : Program} {w : World} {K : PySem.W.Frag} {mg : Str → Option Value} {base : Heap} {CX : CXT} {k : Nat} {f : Addr} {fd : FuncData} {ps : List Str} {sp : Sp}
structure FnG (P : Program) (w : World) (K : PySem.W.Frag) (mg : Str → Option Value) (base : Heap) (CX : CXT) (k : Nat) (f : Addr) (fd : FuncData) (ps : List Str) (sp : Sp) : Prop where
  len : ∀ vs H Q E, sp vs H Q E → vs.length = ps.length
  run : ∀ (A : Around), A.guards = some [] → ∀ (outer : List Env) (s : Shared) (H : Hp) (args : Args) (us : List Value) (vs : List V) (Q : VK) (E : XK), Room k A → Env0 P w K mg base A outer s H →
    BindsTo s fd args (ps.zip us) → Vals vs us → sp vs H Q E → codeAny (model P w) A (.call (.ref f) args) (CR CX outer P w H s Q E) s
theorem FnG.of (F : FnOk P w K mg base CX k f fd ps sp) : FnG P w K mg base CX k f fd ps sp := ⟨F.len, fun A _ => F.run A⟩
end
/-! ### such a def called by its name -/
/-! ### repr of data -/
/-! ### the end of a law whose def wants that no guard is -/
end Wf
/-! Data that never changes (None, truths, whole numbers, texts, tuples), and _law_alike. -/
namespace Wf
open PySem PySem.Spec L2
/-! ### what stands in tuples stays -/
def Tp (K : PySem.W.Frag) (H H' : Hp) : Prop := ∀ a xs, SqT K H a xs → SqT K H' a xs
theorem Tp.refl (K : PySem.W.Frag) (H : Hp) : Tp K H H := fun _ _ h => h
theorem Tp.trans {K : PySem.W.Frag} {H H1 H2 : Hp} (a : Tp K H H1) (b : Tp K H1 H2) : Tp K H H2 := fun x xs h => b x xs (a x xs h)
theorem Same.tp {K : PySem.W.Frag} {H H' : Hp} (s : Same H H') : Tp K H H' := fun a xs h => by
  rcases h with (h | ⟨o, h⟩) | h
  · exact .inl (.inl (s _ _ h))
  · exact .inl (.inr ⟨o, s _ _ h⟩)
  · exact .inr h
theorem same_new {H : Hp} {p : Addr} {o : HO} (h : H p = none) : Same H (upd H p o) := fun a u e => by
  rw [upd_ne (ne_of_none e h)]
  exact e
def NoT (H : Hp) (d : Addr) : Prop := ∀ xs, ¬ Rd H d (.tup xs)
theorem not_lst {H : Hp} {d : Addr} {ys : List V} (h : H d = some (.lst ys)) : NoT H d := fun xs r => by
  rcases r with r | ⟨o, r⟩ <;> rw [h] at r <;> cases r
theorem not_dK {H : Hp} {d : Addr} {ys : List (Key × V)} (h : H d = some (.dK ys)) : NoT H d := fun xs r => by
  rcases r with r | ⟨o, r⟩ <;> rw [h] at r <;> cases r
theorem But.tp {K : PySem.W.Frag} {ds : List Addr} {H H' : Hp} (b : But ds H H') (hd : ∀ d ∈ ds, NoT H d) : Tp K H H' := fun a xs h => by
  rcases h with h | h
  · have ha : a ∉ ds := fun z => hd a z xs h
    rcases h with h | ⟨o, h⟩
    · exact .inl (.inl (b _ _ ha h))
    · exact .inl (.inr ⟨o, b _ _ ha h⟩)
  · exact .inr h
theorem tp_upd {K : PySem.W.Frag} {H : Hp} {d : Addr} {o : HO} (h : NoT H d) : Tp K H (upd H d o) := But.tp (ds := [d]) (fun a u ha e => by
  rw [upd_ne (by intro z; subst z; exact ha List.mem_cons_self)]
  exact e) fun x hx => by
    rw [List.mem_singleton.mp hx]
    exact h
mutual
def noL : PyData → Bool
  | .none | .bool _ | .int _ => true
  | .str x => PyData.canLay0 (.str x)
  | .tuple ds => noLAll ds
  | .list _ | .dict _ => false
def noLAll : List PyData → Bool
  | [] => true
  | d :: ds => noL d && noLAll ds
end
mutual
def wt : PyData → Nat
  | .none | .bool _ | .int _ | .str _ | .dict _ => 1
  | .tuple ds => wtAll ds + 1
  | .list ds => wtAll ds + 1
def wtAll : List PyData → Nat
  | [] => 0
  | d :: ds => wt d + wtAll ds
end
section
variable {K : PySem.W.Frag} {H H' : Hp}
mutual
theorem Dp.tp (t : Tp K H H') : ∀ (d : PyData) (v : V), noL d = true → Dp K H v d → Dp K H' v d
  | .none, _, _, h => by cases h; exact .non
  | .bool b, _, _, h => by cases h; exact .bl b
  | .int i, _, _, h => by cases h; exact .int i
  | .str x, _, _, h => by cases h; exact .str x
  | .list _, _, n, _ => nomatch n
  | .dict _, _, _, h => by cases h
  | .tuple ds, _, n, h => by
    cases h with
    | tup hs ha => exact .tup (t _ _ hs) (DpAll.tp t ds _ n ha)
theorem DpAll.tp (t : Tp K H H') : ∀ (ds : List PyData) (vs : List V), noLAll ds = true → DpAll K H vs ds → DpAll K H' vs ds
  | [], _, _, h => by cases h; exact .nil
  | d :: ds, _, n, h => by
    have n2 : (noL d && noLAll ds) = true := n
    rw [Bool.and_eq_true] at n2
    cases h with
    | cons h1 h2 => exact .cons (Dp.tp t d _ n2.1 h1) (DpAll.tp t ds _ n2.2 h2)
end
theorem DpAll.len : ∀ {vs : List V} {ds : List PyData}, DpAll K H vs ds → vs.length = ds.length
  | _, _, .nil => rfl
  | _, _, .cons _ h => congrArg (· + 1) (DpAll.len h)
theorem DpAll.get : ∀ {vs : List V} {ds : List PyData} {i : Nat} {d : PyData}, DpAll K H vs ds → ds[i]? = some d → ∃ v, vs[i]? = some v ∧ Dp K H v d
  | _, _, _, _, .nil, e => by simp at e
  | _, _, 0, _, .cons h _, e => by simp at e; subst e; exact ⟨_, rfl, h⟩
  | _, _, i + 1, _, .cons _ h, e => by
    obtain ⟨v, e1, e2⟩ := DpAll.get (i := i) h (by simpa using e)
    exact ⟨v, by simpa using e1, e2⟩
theorem DpAll.getV : ∀ {vs : List V} {ds : List PyData} {i : Nat} {v : V}, DpAll K H vs ds → vs[i]? = some v → ∃ d, ds[i]? = some d ∧ Dp K H v d
  | _, _, _, _, .nil, e => by simp at e
  | _, _, 0, _, .cons h _, e => by simp at e; subst e; exact ⟨_, rfl, h⟩
  | _, _, i + 1, _, .cons _ h, e => by
    obtain ⟨d, e1, e2⟩ := DpAll.getV (i := i) h (by simpa using e)
    exact ⟨d, by simpa using e1, e2⟩
theorem DpAll.append : ∀ {vs ws : List V} {ds es : List PyData}, DpAll K H vs ds → DpAll K H ws es → DpAll K H (vs ++ ws) (ds ++ es)
  | _, _, _, _, .nil, h => h
  | _, _, _, _, .cons h1 h2, h => .cons h1 (DpAll.append h2 h)
theorem noLAll_get : ∀ {ds : List PyData} {i : Nat} {d : PyData}, noLAll ds = true → ds[i]? = some d → noL d = true
  | [], _, _, _, e => by simp at e
  | c :: ds, 0, d, n, e => by
    simp at e
    subst e
    exact (Bool.and_eq_true_iff.mp (show (noL c && noLAll ds) = true from n)).1
  | c :: ds, i + 1, d, n, e => noLAll_get (i := i) (Bool.and_eq_true_iff.mp (show (noL c && noLAll ds) = true from n)).2 (by simpa using e)
/-! ### isinstance of data -/
def tyN : PyData → String
  | .none => "NoneType" | .bool _ => "bool" | .int _ => "int" | .str _ => "str" | .tuple _ => "tuple" | .list _ => "list" | .dict _ => "dict"
theorem Dp.ty {d : PyData} {v : V} (n : noL d = true) (h : Dp K H v d) : TyX K H v (.type (tyN d)) := by
  cases h with
  | non => exact .base .non
  | bl b => exact .base (.bl b)
  | int i => exact .base (.int i)
  | str x => exact .base (.str x)
  | lst hs ha => exact nomatch n
  | tup hs ha =>
    rcases hs with (h | ⟨o, h⟩) | ⟨o, its, m, hk, hc, _⟩
    · exact .base (.tup h)
    · exact .fTuple h
    · exact .kTuple hk hc
theorem isi {d : PyData} {v : V} {T : String} {b : Bool} {Q : VK} (n : noL d = true) (h : Dp K H v d) (hb : kitB (tyN d) T = some b) (q : Q (.bl b) H) : rIsi K [v, .ty T] H Q :=
  ⟨v, .ty T, _, _, b, rfl, .ty T, Dp.ty n h, kit_ty hb, q⟩
theorem cb_isi {σ : St} {i : Nat} {d : PyData} {v : V} {T : String} {b : Bool} {Q : VK} (hv : σ[i]? = some (some v)) (n : noL d = true) (h : Dp K H v d) (hb : kitB (tyN d) T = some b) (q : Q (.bl b) H) :
    tCB (rIsi K) (tCons (tVar i) (tCons (tC (.ty T)) tNil)) σ H Q := ⟨v, hv, isi n h hb q⟩
/-- two looks of one kind at the same data: not unlike -/
theorem ne_isi {σ : St} {i j : Nat} {d : PyData} {v u : V} {T : String} {b : Bool} {Q : Bool → Hp → Prop} (hv : σ[i]? = some (some v)) (hu : σ[j]? = some (some u)) (n : noL d = true) (h1 : Dp K H v d) (h2 : Dp K H u d) (hb : kitB (tyN d) T = some b) (q : Q false H) :
    tTest (tOp rNe (tCB (rIsi K) (tCons (tVar i) (tCons (tC (.ty T)) tNil))) (tCB (rIsi K) (tCons (tVar j) (tCons (tC (.ty T)) tNil)))) σ H Q :=
  cb_isi hv n h1 hb (cb_isi hu n h2 hb ⟨rfl, false, by rw [decide_eq_true rfl]; rfl, q⟩)
end
/-! ### _law_alike: the same data twice -/
def t_alike (K : PySem.W.Frag) : TS :=
  tSeq (tAsg (tLst (tCons (tTup (tCons (tVar 0) (tCons (tVar 1) (tNil)))) (tNil))) (gName 2))
    (tSeq (tWhile (tTest (tOp qGt (tCB (qLen K) (tCons (tVar 2) (tNil))) (tC (.int 0)))) (tSeq (tAsg (tBM0 K "list" rPop (tVar 2)) (gTup K 2 (gCons (gName 3) (gCons (gName 4) (gNil)))))
    (tSeq (tIfS (tOr (tTest (tOp rNe (tCB (rIsi K) (tCons (tVar 3) (tCons (tC (.ty "bool")) (tNil)))) (tCB (rIsi K) (tCons (tVar 4) (tCons (tC (.ty "bool")) (tNil)))))) (tTest (tOp rNe (tCB (rIsi K) (tCons (tVar 3) (tCons (tC (.ty "tuple")) (tNil)))) (tCB (rIsi K) (tCons (tVar 4) (tCons (tC (.ty "tuple")) (tNil))))))) (tRet (tC (.bl false))) (tNext))
    (tSeq (tIfS (tOr (tTest (tOp rNe (tCB (rIsi K) (tCons (tVar 3) (tCons (tC (.ty "list")) (tNil)))) (tCB (rIsi K) (tCons (tVar 4) (tCons (tC (.ty "list")) (tNil)))))) (tTest (tOp rNe (tCB (rIsi K) (tCons (tVar 3) (tCons (tC (.ty "str")) (tNil)))) (tCB (rIsi K) (tCons (tVar 4) (tCons (tC (.ty "str")) (tNil))))))) (tRet (tC (.bl false))) (tNext))
    (tSeq (tIfS (tTest (tOp rNe (tCB (rIsi K) (tCons (tVar 3) (tCons (tC (.ty "int")) (tNil)))) (tCB (rIsi K) (tCons (tVar 4) (tCons (tC (.ty "int")) (tNil)))))) (tRet (tC (.bl false))) (tNext))
    (tIfS (tB (tCB (rIsiT K) (tCons (tVar 4) (tCons (tTup (tCons (tC (.ty "tuple")) (tCons (tC (.ty "list")) (tNil)))) (tNil))))) (tSeq (tIfS (tTest (tOp rNe (tCB (qLen K) (tCons (tVar 3) (tNil))) (tCB (qLen K) (tCons (tVar 4) (tNil))))) (tRet (tC (.bl false))) (tNext))
    (tDrop (tBM K "list" rExtend (tVar 2) (tCons (tCB (Wf.rLstZip K) (tCons (tVar 3) (tCons (tVar 4) (tNil)))) (tNil))))) (tIfS (tTest (tOp (rNeD K) (tVar 3) (tVar 4))) (tRet (tC (.bl false))) (tNext))))))))
    (tRet (tC (.bl true))))
def sp_alike (K : PySem.W.Frag) : Sp := fun vs H Q _ => ∃ (x y : V) (d : PyData), vs = [x, y] ∧ Dp K H x d ∧ Dp K H y d ∧ noL d = true ∧ wt d ≤ 1000000 ∧ ∀ H', Same H H' → Q (.bl true) H'
theorem kit5 {d : PyData} (n : noL d = true) : (∃ b, kitB (tyN d) "bool" = some b) ∧ (∃ b, kitB (tyN d) "tuple" = some b) ∧ (∃ b, kitB (tyN d) "list" = some b) ∧ (∃ b, kitB (tyN d) "str" = some b) ∧ (∃ b, kitB (tyN d) "int" = some b) := by
  cases d with
  | none => exact ⟨⟨false, by decide +kernel⟩, ⟨false, by decide +kernel⟩, ⟨false, by decide +kernel⟩, ⟨false, by decide +kernel⟩, ⟨false, by decide +kernel⟩⟩
  | bool b => exact ⟨⟨true, by show kitB "bool" _ = _; decide +kernel⟩, ⟨false, by show kitB "bool" _ = _; decide +kernel⟩, ⟨false, by show kitB "bool" _ = _; decide +kernel⟩, ⟨false, by show kitB "bool" _ = _; decide +kernel⟩, ⟨true, by show kitB "bool" _ = _; decide +kernel⟩⟩
  | int b => exact ⟨⟨false, by show kitB "int" _ = _; decide +kernel⟩, ⟨false, by show kitB "int" _ = _; decide +kernel⟩, ⟨false, by show kitB "int" _ = _; decide +kernel⟩, ⟨false, by show kitB "int" _ = _; decide +kernel⟩, ⟨true, by show kitB "int" _ = _; decide +kernel⟩⟩
  | str b => exact ⟨⟨false, by show kitB "str" _ = _; decide +kernel⟩, ⟨false, by show kitB "str" _ = _; decide +kernel⟩, ⟨false, by show kitB "str" _ = _; decide +kernel⟩, ⟨true, by show kitB "str" _ = _; decide +kernel⟩, ⟨false, by show kitB "str" _ = _; decide +kernel⟩⟩
  | tuple b => exact ⟨⟨false, by show kitB "tuple" _ = _; decide +kernel⟩, ⟨true, by show kitB "tuple" _ = _; decide +kernel⟩, ⟨false, by show kitB "tuple" _ = _; decide +kernel⟩, ⟨false, by show kitB "tuple" _ = _; decide +kernel⟩, ⟨false, by show kitB "tuple" _ = _; decide +kernel⟩⟩
  | list b => exact nomatch n
  | dict b => exact nomatch n
/-- a pair that waits: where it stands, both, and what both are -/
structure Wt (K : PySem.W.Frag) (H : Hp) (p : Addr) (a b : V) (d : PyData) : Prop where
  at_ : H p = some (.tup [a, b])
  one : Dp K H a d
  two : Dp K H b d
  no : noL d = true
theorem Wt.tp {K : PySem.W.Frag} {H H' : Hp} {p : Addr} {a b : V} {d : PyData} (w : Wt K H p a b d) (t : Tp K H H') (h : H' p = some (.tup [a, b])) : Wt K H' p a b d := ⟨h, Dp.tp t d a w.no w.one, Dp.tp t d b w.no w.two, w.no⟩
abbrev Ent : Type := Addr × V × V × PyData
def Waits (K : PySem.W.Frag) (H : Hp) (es : List Ent) : Prop := ∀ e ∈ es, Wt K H e.1 e.2.1 e.2.2.1 e.2.2.2
def wts (es : List Ent) : Nat := (es.map fun e => wt e.2.2.2).sum
def mkE : List Addr → List V → List V → List PyData → List Ent
  | p :: ps, x :: xs, y :: ys, d :: ds => (p, x, y, d) :: mkE ps xs ys ds
  | _, _, _, _ => []
theorem mkE_fst : ∀ {ps : List Addr} {xs ys : List V} {ds : List PyData}, ps.length = ds.length → xs.length = ds.length → ys.length = ds.length → (mkE ps xs ys ds).map (fun e => V.ref e.1) = ps.map V.ref
  | [], _, _, [], _, _, _ => by simp [mkE]
  | _ :: _, [], _, _ :: _, _, h, _ => by simp at h
  | _ :: _, _ :: _, [], _ :: _, _, _, h => by simp at h
  | p :: ps, x :: xs, y :: ys, d :: ds, h1, h2, h3 => by
    have ih := mkE_fst (ps := ps) (xs := xs) (ys := ys) (ds := ds) (by simpa using h1) (by simpa using h2) (by simpa using h3)
    simp only [mkE, List.map_cons, ih]
theorem mkE_wts : ∀ {ps : List Addr} {xs ys : List V} {ds : List PyData}, ps.length = ds.length → xs.length = ds.length → ys.length = ds.length → wts (mkE ps xs ys ds) = wtAll ds
  | [], _, _, [], _, _, _ => by simp [mkE, wts, wtAll]
  | _ :: _, [], _, _ :: _, _, h, _ => by simp at h
  | _ :: _, _ :: _, [], _ :: _, _, _, h => by simp at h
  | p :: ps, x :: xs, y :: ys, d :: ds, h1, h2, h3 => by
    have ih := mkE_wts (ps := ps) (xs := xs) (ys := ys) (ds := ds) (by simpa using h1) (by simpa using h2) (by simpa using h3)
    simp only [wts] at ih
    simp only [mkE, wts, wtAll, List.map_cons, List.sum_cons, ih]
theorem mkE_mem : ∀ {ps : List Addr} {xs ys : List V} {ds : List PyData} {e : Ent}, e ∈ mkE ps xs ys ds → ∃ i : Nat, ps[i]? = some e.1 ∧ xs[i]? = some e.2.1 ∧ ys[i]? = some e.2.2.1 ∧ ds[i]? = some e.2.2.2
  | [], _, _, _, _, h => by simp [mkE] at h
  | _ :: _, [], _, _, _, h => by simp [mkE] at h
  | _ :: _, _ :: _, [], _, _, h => by simp [mkE] at h
  | _ :: _, _ :: _, _ :: _, [], _, h => by simp [mkE] at h
  | p :: ps, x :: xs, y :: ys, d :: ds, e, h => by
    simp only [mkE, List.mem_cons] at h
    rcases h with rfl | h
    · exact ⟨0, rfl, rfl, rfl, rfl⟩
    · obtain ⟨i, h1, h2, h3, h4⟩ := mkE_mem h
      exact ⟨i + 1, by simpa using h1, by simpa using h2, by simpa using h3, by simpa using h4⟩
theorem wt_pos (d : PyData) : 1 ≤ wt d := by cases d <;> simp [wt]
theorem wts_len : ∀ es : List Ent, es.length ≤ wts es
  | [] => Nat.zero_le _
  | e :: es => by
    have ih := wts_len es
    have := wt_pos e.2.2.2
    simp only [wts] at ih
    simp only [wts, List.map_cons, List.sum_cons, List.length_cons]
    omega
theorem wtAll_len : ∀ ds : List PyData, ds.length ≤ wtAll ds
  | [] => Nat.zero_le _
  | d :: ds => by
    have ih := wtAll_len ds
    have := wt_pos d
    simp only [wtAll, List.length_cons]
    omega
theorem pure_alike {K : PySem.W.Frag} (vs : List V) (H : Hp) (Q : VK) (E : XK) (h : sp_alike K vs H Q E) : t_alike K (EndsQ Q) (sN 5 vs) H := by
  obtain ⟨x, y, d, rfl, hx, hy, hn, hw, k⟩ := h
  show t_alike K _ [some x, some y, none, none, none] H
  refine ⟨x, rfl, y, rfl, (by show 2 ≤ sizeLine; decide), fun p hp => ⟨(by show 1 ≤ sizeLine; decide), fun L hL => ?_⟩⟩
  have hpL : p ≠ L := ne_of_none upd_same hL
  have hLp : H L = none := by rw [upd_ne (Ne.symm hpL)] at hL; exact hL
  have s0 : Same H (upd (upd H p (.tup [x, y])) L (.lst [.ref p])) := Same.trans (same_new hp) (same_new hL)
  refine ⟨fun m σ H1 => ∃ (s3 s4 : Option V) (es : List Ent), σ = [some x, some y, some (.ref L), s3, s4] ∧ Same H H1 ∧ H1 L = some (.lst (es.map fun e => V.ref e.1)) ∧ Waits K H1 es ∧ m = wts es ∧ m ≤ 1000000, ⟨wt d, none, none, [(p, x, y, d)], rfl, s0, upd_same, ?_, by simp [wts], hw⟩, ?_⟩
  · intro e he
    rw [List.mem_singleton.mp he]
    exact ⟨by rw [upd_ne hpL]; exact upd_same, Dp.tp (Same.tp s0) d x hn hx, Dp.tp (Same.tp s0) d y hn hy, hn⟩
  rintro m σ H1 ⟨s3, s4, es, rfl, hS, hL1, hW, rfl, hm⟩
  refine ⟨_, rfl, _, (es.map fun e => V.ref e.1).length, rfl, .inl ⟨_, SqL.of hL1, rfl⟩, _, _, rfl, rfl, _, rfl, ?_⟩
  refine ifd (fun c => ?_) (fun c => ?_)
  · -- a turn
    have hpos : es ≠ [] := by
      rintro rfl
      exact absurd c (by decide)
    obtain ⟨es', e, rfl⟩ : ∃ es' e, es = es' ++ [e] := ⟨es.dropLast, es.getLast hpos, (List.dropLast_concat_getLast hpos).symm⟩
    obtain ⟨p, a, b, d⟩ := e
    have w := hW (p, a, b, d) (by simp)
    refine ⟨fun σ' H' => ∃ m', m' < wts (es' ++ [(p, a, b, d)]) ∧ _, fun _ _ h => h, ?_⟩
    refine ⟨_, rfl, .inl ⟨rfl, _, SqL.of hL1⟩, L, _, .ref p, rfl, rfl, hL1, ?_, ?_⟩
    · simp
    have e1 : ((es' ++ [(p, a, b, d)]).map fun e => V.ref e.1).dropLast = es'.map fun e => V.ref e.1 := by simp
    rw [e1]
    generalize hH2 : upd H1 L (.lst (es'.map fun e => V.ref e.1)) = H2
    have t12 : Tp K H1 H2 := by rw [← hH2]; exact tp_upd (not_lst hL1)
    have hS2 : Same H H2 := fun c o e => by
      rw [← hH2, upd_ne (ne_of_none e hLp)]
      exact hS c o e
    have hL2 : H2 L = some (.lst (es'.map fun e => V.ref e.1)) := by rw [← hH2]; exact upd_same
    have pn : ∀ {c zs}, H1 c = some (.tup zs) → H2 c = some (.tup zs) := fun {c zs} e => by
      rw [← hH2, upd_ne (ne_of e hL1 (by intro z; cases z))]
      exact e
    have w2 := w.tp t12 (pn w.at_)
    have hW2 : Waits K H2 es' := fun e he => (hW e (by simp [he])).tp t12 (pn (hW e (by simp [he])).at_)
    have hm2 : wts (es' ++ [(p, a, b, d)]) = wts es' + wt d := by simp [wts]
    refine ⟨p, [a, b], rfl, SqT.of w2.at_, rfl, a, _, rfl, b, _, rfl, rfl, ?_⟩
    obtain ⟨⟨b1, k1⟩, ⟨b2, k2⟩, ⟨b3, k3⟩, ⟨b4, k4⟩, ⟨b5, k5⟩⟩ := kit5 w2.no
    refine ne_isi rfl rfl w2.no w2.one w2.two k1 (iteF ?_)
    refine ne_isi rfl rfl w2.no w2.one w2.two k2 (iteF ?_)
    refine ne_isi rfl rfl w2.no w2.one w2.two k3 (iteF ?_)
    refine ne_isi rfl rfl w2.no w2.one w2.two k4 (iteF ?_)
    refine ne_isi rfl rfl w2.no w2.one w2.two k5 (iteF ?_)
    refine ⟨_, rfl, (by show 2 ≤ sizeLine; decide), fun tp htp => ?_⟩
    have t23 : Same H2 (upd H2 tp (.tup [.ty "tuple", .ty "list"])) := same_new htp
    generalize hH3 : upd H2 tp (.tup [.ty "tuple", .ty "list"]) = H3 at t23
    have htp3 : H3 tp = some (.tup [.ty "tuple", .ty "list"]) := by rw [← hH3]; exact upd_same
    have w3 := w2.tp (Same.tp t23) (t23 _ _ w2.at_)
    have hW3 : Waits K H3 es' := fun e he => (hW2 e he).tp (Same.tp t23) (t23 _ _ (hW2 e he).at_)
    have hS3 : Same H H3 := hS2.trans t23
    have hL3 := t23 _ _ hL2
    have nxt : ∀ (H5 : Hp) (s3 s4 : Option V) (es5 : List Ent), Same H H5 → H5 L = some (.lst (es5.map fun e => V.ref e.1)) → Waits K H5 es5 → wts es5 < wts (es' ++ [(p, a, b, d)]) →
        ∃ m', m' < wts (es' ++ [(p, a, b, d)]) ∧ ∃ (t3 t4 : Option V) (es : List Ent), [some x, some y, some (V.ref L), s3, s4] = [some x, some y, some (.ref L), t3, t4] ∧ Same H H5 ∧ H5 L = some (.lst (es.map fun e => V.ref e.1)) ∧ Waits K H5 es ∧ m' = wts es ∧ m' ≤ 1000000 :=
      fun H5 s3 s4 es5 q1 q2 q3 q4 => ⟨_, q4, s3, s4, es5, rfl, q1, q2, q3, rfl, by omega⟩
    have key : (∃ ds, d = .tuple ds) ∨ (SeqAt.shaped d = true ∧ PySem.W.kitAny K (.type (tyN d)) [.type "tuple", .type "list"] = some false) := by
      cases d with
      | list ds => exact nomatch w2.no
      | dict ds => exact nomatch w2.no
      | tuple ds => exact .inl ⟨ds, rfl⟩
      | none => exact .inr ⟨rfl, kitAny_cons (kit_ty (r := false) (by decide +kernel)) (fun _ => kitAny_cons (kit_ty (r := false) (by decide +kernel)) (fun _ => kitAny_nil) (fun z => nomatch z)) (fun z => nomatch z)⟩
      | bool b => exact .inr ⟨rfl, kitAny_cons (kit_ty (a := "bool") (r := false) (by decide +kernel)) (fun _ => kitAny_cons (kit_ty (a := "bool") (r := false) (by decide +kernel)) (fun _ => kitAny_nil) (fun z => nomatch z)) (fun z => nomatch z)⟩
      | int b => exact .inr ⟨rfl, kitAny_cons (kit_ty (a := "int") (r := false) (by decide +kernel)) (fun _ => kitAny_cons (kit_ty (a := "int") (r := false) (by decide +kernel)) (fun _ => kitAny_nil) (fun z => nomatch z)) (fun z => nomatch z)⟩
      | str b => exact .inr ⟨by have n := w2.no; simp only [noL] at n; simp [SeqAt.shaped, n, PyData.depth], kitAny_cons (kit_ty (a := "str") (r := false) (by decide +kernel)) (fun _ => kitAny_cons (kit_ty (a := "str") (r := false) (by decide +kernel)) (fun _ => kitAny_nil) (fun z => nomatch z)) (fun z => nomatch z)⟩
    rcases key with ⟨ds, rfl⟩ | ⟨hsh, hkit⟩
    rotate_left
    · refine ⟨b, tp, [.ty "tuple", .ty "list"], .type (tyN d), [.type "tuple", .type "list"], false, rfl, htp3, .cons (.ty _) (.cons (.ty _) .nil), Dp.ty w3.no w3.two, hkit, _, rfl, iteF ⟨_, rfl, _, rfl, d, d, w3.one, w3.two, hsh, hsh, _, rfl, ?_⟩⟩
      rw [SeqAt.eqv_refl d (SeqAt.canLay_of_shaped hsh)]
      exact iteF (nxt H3 _ _ es' hS3 hL3 hW3 (by rw [hm2]; have := wt_pos d; omega))
    · refine ⟨b, tp, [.ty "tuple", .ty "list"], .type "tuple", [.type "tuple", .type "list"], true, rfl, htp3, .cons (.ty _) (.cons (.ty _) .nil), Dp.ty w3.no w3.two, kitAny_cons (kit_ty (b := "tuple") (r := true) (by decide +kernel)) (fun z => nomatch z) (fun _ => rfl), _, rfl, iteT ?_⟩
      have c1 : Dp K H3 a (.tuple ds) := w3.one
      have c2 : Dp K H3 b (.tuple ds) := w3.two
      cases c1 with
      | tup hs1 ha1 =>
        cases c2 with
        | tup hs2 ha2 =>
          rename_i aa xs bb ys
          have l1 := DpAll.len ha1
          have l2 := DpAll.len ha2
          refine ⟨_, rfl, _, xs.length, rfl, .inr ⟨_, hs1, rfl⟩, _, rfl, _, ys.length, rfl, .inr ⟨_, hs2, rfl⟩, rfl, _, rfl, ?_⟩
          rw [l1, l2]
          refine iteNS rfl ?_
          refine ⟨_, rfl, .inl ⟨rfl, _, SqL.of hL3⟩, _, rfl, _, rfl, aa, bb, xs, ys, rfl, hs1, hs2, by rw [l1, l2], fun q ps H4 hq hps s34 hq4 hlen hget => ?_⟩
          have hL4 := s34 _ _ hL3
          have lp : ps.length = ds.length := by rw [hlen, l1]
          have hwd : wt (.tuple ds) = wtAll ds + 1 := by simp [wt]
          have hLq : L ≠ q := ne_of_none hL3 hq
          have big := wts_len es'
          have big2 : ps.length ≤ wtAll ds := by rw [lp]; exact wtAll_len ds
          refine ⟨L, q, _, _, rfl, rfl, hL4, hq4, ?_, ?_⟩
          · rw [List.length_map, List.length_map]
            exact Nat.le_trans (show es'.length + ps.length ≤ 1000000 by omega) (by decide)
          · have e5 : (es'.map fun e => V.ref e.1) ++ ps.map V.ref = (es' ++ mkE ps xs ys ds).map fun e => V.ref e.1 := by rw [List.map_append, mkE_fst lp l1 l2]
            rw [e5]
            have t45 : Tp K H4 (upd H4 L (.lst ((es' ++ mkE ps xs ys ds).map fun e => V.ref e.1))) := tp_upd (not_lst hL4)
            have t35 := (Same.tp s34).trans t45
            have pn5 : ∀ {c zs}, H4 c = some (.tup zs) → upd H4 L (.lst ((es' ++ mkE ps xs ys ds).map fun e => V.ref e.1)) c = some (.tup zs) := fun {c zs} e => by
              rw [upd_ne (ne_of e hL4 (by intro z; cases z))]
              exact e
            refine nxt _ _ _ (es' ++ mkE ps xs ys ds) (fun c o e => ?_) upd_same (fun e he => ?_) ?_
            · rw [upd_ne (ne_of_none e hLp)]
              exact s34 _ _ (hS3 _ _ e)
            · rcases List.mem_append.mp he with he | he
              · exact (hW3 e he).tp t35 (pn5 (s34 _ _ (hW3 e he).at_))
              · obtain ⟨i, i1, i2, i3, i4⟩ := mkE_mem he
                obtain ⟨u, v, g1, g2, g3⟩ := hget i _ i1
                rw [i2] at g1
                rw [i3] at g2
                cases g1
                cases g2
                have nd : noL e.2.2.2 = true := noLAll_get w3.no i4
                obtain ⟨u', f1, f2⟩ := DpAll.get ha1 i4
                obtain ⟨v', f3, f4⟩ := DpAll.get ha2 i4
                rw [i2] at f1
                rw [i3] at f3
                cases f1
                cases f3
                exact ⟨pn5 g3, Dp.tp t35 _ _ nd f2, Dp.tp t35 _ _ nd f4, nd⟩
            · rw [hm2, hwd]
              have : wts (es' ++ mkE ps xs ys ds) = wts es' + wtAll ds := by
                rw [← mkE_wts lp l1 l2]
                simp [wts]
              omega
  · exact k H1 hS
end Wf
/-! The books that the draws make. -/
namespace Wf
open PySem PySem.Spec L2
def dP (p : Int × Int) : PyData := .tuple [.int p.1, .int p.2]
theorem noL_dP (p : Int × Int) : noL (dP p) = true := rfl
theorem dP_new {K : PySem.W.Frag} {H : Hp} {p : Addr} {x y : Int} (h : H p = some (.tup [.int x, .int y])) : Dp K H (.ref p) (dP (x, y)) := .tup (SqT.of h) (.cons (.int x) (.cons (.int y) .nil))
theorem dP_at {K : PySem.W.Frag} {H : Hp} {v : V} {p : Int × Int} (h : Dp K H v (dP p)) : ∃ a, v = .ref a ∧ SqT K H a [.int p.1, .int p.2] := by
  cases h with
  | tup hs ha =>
    cases ha with
    | cons h1 h2 =>
      cases h2 with
      | cons h3 h4 =>
        cases h4
        cases h1
        cases h3
        exact ⟨_, rfl, hs⟩
/-! ### _law_pair -/
def pairF (f s : Int) (st : Int × Int) (a b : Int) : Int × Int :=
  if f = 0 then (b, a) else if f = 1 then (a, b) else if f = 2 then ((if b < a then b else a), (if b > a then b else a)) else if f = 3 then (b, (2 * b - a) % s) else ((b + st.2) % s, (a + st.1) % s)
def sp_pair (K : PySem.W.Frag) : Sp := fun vs H Q _ => ∃ (f s a b : Int) (v : V) (st : Int × Int), vs = [.int f, .int s, v, .int a, .int b] ∧ Dp K H v (dP st) ∧ 0 ≤ f ∧ f ≤ 4 ∧ 0 < s ∧
  ∀ u H', Same H H' → Dp K H' u (dP (pairF f s st a b)) → Q u H'
def t_pair (K : PySem.W.Frag) : TS :=
  tSeq (tAsg (tVar 2) (gTup K 2 (gCons (gName 6) (gCons (gName 7) (gNil)))))
    (tSeq (tAsg (tLst (tCons (tTup (tCons (tVar 4) (tCons (tVar 3) (tNil)))) (tCons (tTup (tCons (tVar 3) (tCons (tVar 4) (tNil)))) (tCons (tTup (tCons (tCB (qMin2) (tCons (tVar 3) (tCons (tVar 4) (tNil)))) (tCons (tCB (qMax2) (tCons (tVar 3) (tCons (tVar 4) (tNil)))) (tNil)))) (tCons (tTup (tCons (tVar 4) (tCons (tOp qMod (tOp qSub (tOp qMul (tC (.int 2)) (tVar 4)) (tVar 3)) (tVar 1)) (tNil)))) (tCons (tTup (tCons (tOp qMod (tOp qAdd (tVar 4) (tVar 7)) (tVar 1)) (tCons (tOp qMod (tOp qAdd (tVar 3) (tVar 6)) (tVar 1)) (tNil)))) (tNil))))))) (gName 5))
    (tRet (tOp (rIxL K) (tVar 5) (tVar 0))))
theorem pure_pair {K : PySem.W.Frag} (vs : List V) (H : Hp) (Q : VK) (E : XK) (h : sp_pair K vs H Q E) : t_pair K (EndsQ Q) (sN 8 vs) H := by
  obtain ⟨f, s, a, b, v, st, rfl, hv, f0, f4, hs, k⟩ := h
  show t_pair K _ [some (.int f), some (.int s), some v, some (.int a), some (.int b), none, none, none] H
  obtain ⟨x, rfl, hx⟩ := dP_at hv
  refine ⟨_, rfl, x, _, rfl, hx, rfl, _, _, rfl, _, _, rfl, rfl, ?_⟩
  refine ⟨_, rfl, _, rfl, (by show 2 ≤ sizeLine; decide), fun p0 h0 => ?_⟩
  refine ⟨_, rfl, _, rfl, (by show 2 ≤ sizeLine; decide), fun p1 h1 => ?_⟩
  refine ⟨_, rfl, _, rfl, _, _, rfl, _, rfl, _, rfl, _, _, rfl, (by show 2 ≤ sizeLine; decide), fun p2 h2 => ?_⟩
  refine ⟨_, rfl, _, rfl, _, _, rfl, rfl, .inl ⟨by decide, by decide⟩, _, rfl, _, _, rfl, rfl, _, rfl, _, _, rfl, rfl, hs, (by show 2 ≤ sizeLine; decide), fun p3 h3 => ?_⟩
  refine ⟨_, rfl, _, rfl, _, _, rfl, rfl, _, rfl, _, _, rfl, rfl, hs, _, rfl, _, rfl, _, _, rfl, rfl, _, rfl, _, _, rfl, rfl, hs, (by show 2 ≤ sizeLine; decide), fun p4 h4 => ?_⟩
  refine ⟨(by show 5 ≤ sizeLine; decide), fun L hL => ?_⟩
  have s0 := same_new (o := .tup [.int b, .int a]) h0
  have s1 := same_new (o := .tup [.int a, .int b]) h1
  have s2 := same_new (o := .tup [.int (if b < a then b else a), .int (if b > a then b else a)]) h2
  have s3 := same_new (o := .tup [.int b, .int ((2 * b - a) % s)]) h3
  have s4 := same_new (o := .tup [.int ((b + st.2) % s), .int ((a + st.1) % s)]) h4
  have sL := same_new (o := .lst [.ref p0, .ref p1, .ref p2, .ref p3, .ref p4]) hL
  have all := s0.trans (s1.trans (s2.trans (s3.trans (s4.trans sL))))
  have hf : f = 0 ∨ f = 1 ∨ f = 2 ∨ f = 3 ∨ f = 4 := by omega
  rcases hf with rfl | rfl | rfl | rfl | rfl
  · exact ⟨_, rfl, _, rfl, L, _, 0, .ref p0, rfl, rfl, SqL.of upd_same, rfl, k _ _ all (dP_new ((s1.trans (s2.trans (s3.trans (s4.trans sL)))) _ _ upd_same))⟩
  · exact ⟨_, rfl, _, rfl, L, _, 1, .ref p1, rfl, rfl, SqL.of upd_same, rfl, k _ _ all (dP_new ((s2.trans (s3.trans (s4.trans sL))) _ _ upd_same))⟩
  · exact ⟨_, rfl, _, rfl, L, _, 2, .ref p2, rfl, rfl, SqL.of upd_same, rfl, k _ _ all (dP_new ((s3.trans (s4.trans sL)) _ _ upd_same))⟩
  · exact ⟨_, rfl, _, rfl, L, _, 3, .ref p3, rfl, rfl, SqL.of upd_same, rfl, k _ _ all (dP_new ((s4.trans sL) _ _ upd_same))⟩
  · exact ⟨_, rfl, _, rfl, L, _, 4, .ref p4, rfl, rfl, SqL.of upd_same, rfl, k _ _ all (dP_new (sL _ _ upd_same))⟩
theorem atI_neg1 {α : Type} {xs : List α} (h : 0 < xs.length) : atI xs (-1) = xs[xs.length - 1]? := by
  have e : ixN xs.length (-1) = some (xs.length - 1) := by
    unfold ixN
    rw [if_neg (by decide), if_pos (by omega)]
    congr 1
    omega
  unfold atI
  rw [e]
  rfl
/-! ### _law_paces -/
def scan (f : Int) : List Int → List Int
  | [] => [f]
  | n :: ns => f :: scan (f + n) ns
theorem scan_len : ∀ (f : Int) (ns : List Int), (scan f ns).length = ns.length + 1
  | _, [] => rfl
  | f, n :: ns => by simp [scan, scan_len (f + n) ns]
theorem scan_app : ∀ (f : Int) (ns : List Int) (n : Int), scan f (ns ++ [n]) = scan f ns ++ [f + ns.sum + n]
  | f, [], n => by simp [scan]
  | f, m :: ns, n => by
    rw [List.cons_append, scan, scan_app (f + m) ns n, scan, List.cons_append, List.sum_cons]
    congr 3
    omega
theorem scan_last : ∀ (f : Int) (ns : List Int), (scan f ns)[ns.length]? = some (f + ns.sum)
  | f, [] => by simp [scan]
  | f, m :: ns => by
    rw [scan, List.length_cons, List.getElem?_cons_succ, scan_last (f + m) ns, List.sum_cons]
    congr 1
    omega
theorem sum_bounds : ∀ {ns : List Int} {B : Int}, (∀ x ∈ ns, 1 ≤ x ∧ x ≤ B) → (ns.length : Int) ≤ ns.sum ∧ ns.sum ≤ ns.length * B
  | [], _, _ => by simp
  | n :: ns, B, h => by
    have h1 := h n List.mem_cons_self
    have h2 := sum_bounds (fun x hx => h x (List.mem_cons_of_mem _ hx))
    rw [List.sum_cons, List.length_cons]
    have e : ((ns.length + 1 : Nat) : Int) * B = ns.length * B + B := by rw [Int.natCast_add, Int.add_mul]; simp
    rw [e]
    constructor <;> omega
theorem scan_mem : ∀ {ns : List Int} {f x : Int}, (∀ y ∈ ns, 1 ≤ y) → x ∈ scan f ns → f ≤ x ∧ x ≤ f + ns.sum
  | [], f, x, _, h => by
    simp [scan] at h
    simp
    omega
  | n :: ns, f, x, hn, h => by
    have h1 := hn n List.mem_cons_self
    have hn' : ∀ y ∈ ns, 1 ≤ y := fun y hy => hn y (List.mem_cons_of_mem _ hy)
    have hs : 0 ≤ ns.sum := by
      clear h hn
      induction ns with
      | nil => simp
      | cons m ms ih =>
        have := hn' m List.mem_cons_self
        have := ih fun y hy => hn' y (List.mem_cons_of_mem _ hy)
        rw [List.sum_cons]
        omega
    rw [List.sum_cons]
    rcases List.mem_cons.mp h with rfl | h
    · constructor <;> omega
    · have := scan_mem hn' h
      constructor <;> omega
theorem scan_rise : ∀ {ns : List Int} {f : Int}, (∀ y ∈ ns, 1 ≤ y) → (scan f ns).Pairwise (· < ·)
  | [], f, _ => by simp [scan]
  | n :: ns, f, hn => by
    have h1 := hn n List.mem_cons_self
    have hn' : ∀ y ∈ ns, 1 ≤ y := fun y hy => hn y (List.mem_cons_of_mem _ hy)
    rw [scan, List.pairwise_cons]
    refine ⟨fun x hx => ?_, scan_rise hn'⟩
    have := scan_mem hn' hx
    omega
structure PacesOk (m : Int) (ps : List Int) : Prop where
  len : (ps.length : Int) = m
  rise : ps.Pairwise (· < ·)
  lo : ∀ p ∈ ps, -1000 ≤ p ∧ p ≤ 1000
def dI (ps : List Int) : PyData := .tuple (ps.map .int)
theorem dp_ints {K : PySem.W.Frag} {H : Hp} : ∀ ns : List Int, DpAll K H (ns.map V.int) (ns.map PyData.int)
  | [] => .nil
  | n :: ns => .cons (.int n) (dp_ints ns)
theorem noLAll_ints : ∀ ns : List Int, noLAll (ns.map PyData.int) = true
  | [] => rfl
  | n :: ns => by simp [noLAll, noL, noLAll_ints ns]
def sp_paces (K : PySem.W.Frag) : Sp := fun vs H Q _ => ∃ (d l : Addr) (m : Int), vs = [.ref d, .int m] ∧ 1 ≤ m ∧ m ≤ 5 ∧ Deal H d l ∧
  ∀ (v : V) (ps : List Int) (H' : Hp), But [d, l] H H' → Deal H' d l → Dp K H' v (dI ps) → PacesOk m ps → Q v H'
theorem Deal.ne {H : Hp} {d l p : Addr} (h : Deal H d l) (hp : H p = none) : p ≠ d ∧ p ≠ l := by
  obtain ⟨s, m, n, ns, h1, h2, _⟩ := h.ex
  exact ⟨fun e => (by rw [e, h1] at hp; cases hp), fun e => (by rw [e, h2] at hp; cases hp)⟩
theorem But.at {H H' : Hp} {d l p : Addr} {o : HO} (b : But [d, l] H H') (n : p ≠ d ∧ p ≠ l) (h : H p = some o) : H' p = some o := b p o (by simp [n.1, n.2]) h
theorem But.new {ds : List Addr} {H H' : Hp} {p : Addr} {o : HO} (b : But ds H H') (hp : H p = none) : But ds H (upd H' p o) := fun a u n e => by
  rw [upd_ne (ne_of_none e hp)]
  exact b a u n e
theorem Deal.upd {H : Hp} {d l p : Addr} {o : HO} (h : Deal H d l) (n : p ≠ d ∧ p ≠ l) : Deal (upd H p o) d l := by
  obtain ⟨s, m, k, ns, h1, h2, h3⟩ := h.ex
  exact ⟨s, m, k, ns, by rw [upd_ne (Ne.symm n.1)]; exact h1, by rw [upd_ne (Ne.symm n.2)]; exact h2, h3⟩
theorem Deal.noT {H : Hp} {d l : Addr} (h : Deal H d l) : ∀ x ∈ [d, l], NoT H x := by
  obtain ⟨s, m, k, ns, h1, h2, h3⟩ := h.ex
  intro x hx
  rcases List.mem_cons.mp hx with rfl | hx
  · exact not_dK h1
  · rw [List.mem_singleton.mp hx]
    exact not_lst h2
def t_paces (K : PySem.W.Frag) (sp_draw : Sp) : TS :=
  tSeq (tAsg (tLst (tCons (tC (.int 2)) (tCons (tC (.int 9)) (tCons (tC (.int 400)) (tCons (tOp qFdiv (tC (.int 2000)) (tCB (qMax2) (tCons (tC (.int 1)) (tCons (tOp qSub (tVar 1) (tC (.int 1))) (tNil))))) (tNil)))))) (gName 2))
    (tSeq (tAsg (tLc (iRng1 (tCons (tOp qSub (tVar 1) (tC (.int 1))) (tNil))) (gName 6) (tYes) (tOp qAdd (tC (.int 1)) (tCall sp_draw [] E0 (tCons (tVar 0) (tCons (tOp (rIxL K) (tVar 2) (tCall sp_draw [] E0 (tCons (tVar 0) (tCons (tC (.int 4)) (tNil))))) (tNil))))) [6]) (gName 3))
    (tSeq (tAsg (tLst (tCons (tOp qSub (tCall sp_draw [] E0 (tCons (tVar 0) (tCons (tOp qSub (tC (.int 2001)) (tCB (rSum K) (tCons (tVar 3) (tNil)))) (tNil)))) (tC (.int 1000))) (tNil))) (gName 4))
    (tSeq (tFor (iList K (tVar 3)) (gName 5) (tDrop (tBM K "list" rAppend (tVar 4) (tCons (tOp qAdd (tOp (rIxL K) (tVar 4) (tUn qNeg (tC (.int 1)))) (tVar 5)) (tNil)))))
    (tRet (tCB (qTupleOf K) (tCons (tVar 4) (tNil)))))))
theorem pure_paces {K : PySem.W.Frag} (vs : List V) (H : Hp) (Q : VK) (E : XK) (h : sp_paces K vs H Q E) : t_paces K sp_draw (EndsQ Q) (sN 7 vs) H := by
  obtain ⟨d, l, m, rfl, m1, m5, hD, k⟩ := h
  show t_paces K sp_draw _ [some (.ref d), some (.int m), none, none, none, none, none] H
  have hM : 1 ≤ (if m - 1 > 1 then m - 1 else 1) ∧ (if m - 1 > 1 then m - 1 else 1) ≤ 4 := by split <;> omega
  generalize hMe : (if m - 1 > 1 then m - 1 else 1) = M at hM
  refine ⟨_, rfl, _, _, rfl, rfl, _, _, rfl, ?_⟩
  rw [hMe]
  refine ⟨_, _, rfl, rfl, ⟨by omega, by omega⟩, (by show 4 ≤ sizeLine; decide), fun W hW => ?_⟩
  have nW := hD.ne hW
  refine ⟨_, rfl, _, _, rfl, rfl, m - 1, rfl, by omega, by omega, fun D hDn => ?_⟩
  have hDW : W ≠ D := ne_of_none upd_same hDn
  have hD0 : H D = none := by rw [upd_ne (Ne.symm hDW)] at hDn; exact hDn
  have nD := hD.ne hD0
  have hB : 500 ≤ 2000 / M ∧ (m - 1) * (2000 / M) ≤ 2000 ∧ 2000 / M ≤ 2000 := by
    have hm : m = 1 ∨ m = 2 ∨ m = 3 ∨ m = 4 ∨ m = 5 := by omega
    rcases hm with rfl | rfl | rfl | rfl | rfl <;> (simp at hMe; subst hMe; decide)
  obtain ⟨B, hBe⟩ : ∃ B, B = 2000 / M := ⟨_, rfl⟩
  rw [← hBe] at hB
  refine lc_range (lo := 0) (n := (m - 1).toNat) (fun i H1 => But [d, l] H H1 ∧ Deal H1 d l ∧ H1 W = some (.lst [.int 2, .int 9, .int 400, .int B]) ∧ ∃ ns : List Int, H1 D = some (.lst (ns.map V.int)) ∧ ns.length = i ∧ ∀ x ∈ ns, 1 ≤ x ∧ x ≤ B) ?_ ?_ ?_
  · exact ⟨((But.refl _ _).new hW).new hD0, (hD.upd nW).upd nD, by rw [upd_ne hDW, hBe]; exact upd_same, [], upd_same, rfl, fun x hx => (List.not_mem_nil hx).elim⟩
  · rintro i H1 hi ⟨b1, d1, w1, ns, l1, ln, hns⟩
    refine ⟨rfl, ?_⟩
    simp only [tYes, ↓reduceIte]
    refine ⟨_, rfl, _, rfl, _, rfl, d, l, 4, rfl, by decide, by decide, d1, fun q H2 q0 q4 b2 d2 => ?_⟩
    have w2 := b2.at nW w1
    have l2 := b2.at nD l1
    have hq : ∃ z, atI [V.int 2, .int 9, .int 400, .int B] q = some (.int z) ∧ 1 ≤ z ∧ z ≤ B := by
      have hq : q = 0 ∨ q = 1 ∨ q = 2 ∨ q = 3 := by omega
      rcases hq with rfl | rfl | rfl | rfl
      · exact ⟨2, rfl, by omega, by omega⟩
      · exact ⟨9, rfl, by omega, by omega⟩
      · exact ⟨400, rfl, by omega, by omega⟩
      · exact ⟨B, rfl, by omega, by omega⟩
    obtain ⟨z, hz, z1, zB⟩ := hq
    refine ⟨W, _, q, .int z, rfl, rfl, SqL.of w2, hz, d, l, z, rfl, by omega, ?_, d2, fun r H3 r0 r1 b3 d3 => ?_⟩
    · omega
    have w3 := b3.at nW w2
    have l3 := b3.at nD l2
    refine ⟨_, _, rfl, rfl, _, l3, ?_, ?_⟩
    · rw [List.length_map, ln]
      exact Nat.lt_of_le_of_lt (show i ≤ 4 by omega) (by decide)
    · refine ⟨((b1.trans b2).trans b3).new hD0, d3.upd nD, by rw [upd_ne hDW]; exact w3, ns ++ [1 + r], ?_, by simp [ln], fun x hx => ?_⟩
      · rw [upd_same, List.map_append]
        rfl
      · rcases List.mem_append.mp hx with hx | hx
        · exact hns x hx
        · rw [List.mem_singleton.mp hx]
          omega
  · rintro H1 ⟨b1, d1, w1, ns, l1, ln, hns⟩
    have hsum := sum_bounds hns
    have hln : (ns.length : Int) = m - 1 := by omega
    rw [hln] at hsum
    refine ⟨_, rfl, _, rfl, D, ns, rfl, SqL.of l1, _, _, rfl, rfl, d, l, _, rfl, by omega, by omega, d1, fun r H2 r0 r1 b2 d2 => ?_⟩
    refine ⟨_, _, rfl, rfl, (by show 1 ≤ sizeLine; decide), fun F hF => ?_⟩
    have l2 := b2.at nD l1
    have hFD : F ≠ D := fun z => by rw [z, l2] at hF; cases hF
    have nF := d2.ne hF
    have hF0 : H F = none := by
      cases e : H F with
      | none => rfl
      | some o => rw [b2.at nF (b1.at nF e)] at hF; cases hF
    have hne1 : ∀ x ∈ ns, 1 ≤ x := fun x hx => (hns x hx).1
    refine ⟨_, rfl, D, rfl, ⟨_, SqL.of (by rw [upd_ne (Ne.symm hFD)]; exact l2)⟩, for_list (K := K) (a := D) (xs := ns.map V.int) (fun i σ H3 => ∃ s5 : Option V, σ = [some (.ref d), some (.int m), some (.ref W), some (.ref D), some (.ref F), s5, none] ∧ But [d, l] H H3 ∧ Deal H3 d l ∧ H3 D = some (.lst (ns.map V.int)) ∧ H3 F = some (.lst ((scan (r - 1000) (ns.take i)).map V.int))) ?_ ?_ ?_ ?_⟩
    · exact ⟨_, rfl, (b1.trans b2).new hF0, d2.upd nF, by rw [upd_ne (Ne.symm hFD)]; exact l2, upd_same⟩
    · rintro i σ H3 _ ⟨_, _, _, _, h3, _⟩
      exact SqL.of h3
    · rintro i x σ H3 hx ⟨s5, rfl, b3, d3, l3, f3⟩
      rw [List.getElem?_map] at hx
      obtain ⟨z, hz, rfl⟩ := Option.map_eq_some_iff.mp hx
      have hlt : i < ns.length := (List.getElem?_eq_some_iff.mp hz).1
      have etk : ns.take (i + 1) = ns.take i ++ [z] := by rw [List.take_add_one, hz]; rfl
      have elen : (ns.take i).length = i := by rw [List.length_take]; omega
      have eat : atI ((scan (r - 1000) (ns.take i)).map V.int) (-1) = some (.int (r - 1000 + (ns.take i).sum)) := by
        rw [atI_neg1 (by rw [List.length_map, scan_len]; exact Nat.succ_pos _), List.getElem?_map, List.length_map, scan_len, Nat.add_sub_cancel, scan_last]
        rfl
      refine ⟨_, rfl, .inl ⟨rfl, _, SqL.of f3⟩, _, rfl, _, rfl, F, _, -1, _, rfl, rfl, SqL.of f3, eat, _, rfl, _, _, rfl, rfl, F, _, _, rfl, rfl, f3, ?_, ?_⟩
      · rw [List.length_map, scan_len, elen]
        exact Nat.lt_of_le_of_lt (show i + 1 ≤ 5 by omega) (by decide)
      · refine ⟨some (.int z), rfl, b3.new hF0, d3.upd nF, by rw [upd_ne (Ne.symm hFD)]; exact l3, ?_⟩
        rw [upd_same, etk, scan_app, List.map_append]
        rfl
    · rintro σ H3 ⟨s5, rfl, b3, d3, l3, f3⟩
      rw [List.length_map, List.take_length] at f3
      refine ⟨_, rfl, F, _, rfl, .inl ⟨SqL.of f3, fun T hT => ?_⟩⟩
      have nT := d3.ne hT
      have hT0 : H T = none := by
        cases e : H T with
        | none => rfl
        | some o => rw [b3.at nT e] at hT; cases hT
      refine k _ (scan (r - 1000) ns) _ (b3.new hT0) (d3.upd nT) (.tup (SqT.of upd_same) (dp_ints _)) ⟨by rw [scan_len]; omega, scan_rise hne1, fun p hp => ?_⟩
      have := scan_mem hne1 hp
      omega
theorem erase_map {α β : Type} (f : α → β) : ∀ (l : List α) (k : Nat), (l.eraseIdx k).map f = (l.map f).eraseIdx k
  | [], _ => rfl
  | _ :: _, 0 => rfl
  | x :: l, k + 1 => by simp [erase_map f l k]
theorem erase_perm {α : Type} : ∀ {l : List α} {k : Nat} (h : k < l.length), (l[k] :: l.eraseIdx k).Perm l
  | [], _, h => absurd h (Nat.not_lt_zero _)
  | x :: l, 0, _ => .refl _
  | x :: l, k + 1, h => by
    have ih := erase_perm (l := l) (k := k) (by simpa using h)
    simp only [List.getElem_cons_succ, List.eraseIdx_cons_succ]
    exact (List.Perm.swap x _ _).trans (ih.cons x)
/-! ### _law_mixed -/
def iota (n : Int) : List Int := (List.range n.toNat).map fun (i : Nat) => (i : Int)
theorem rgV_iota (n : Int) : rgV 0 n = (iota n).map V.int := by
  unfold rgV iota
  rw [List.map_map, Int.sub_zero]
  apply List.map_congr_left
  intro a _
  show V.int (0 + (a : Int)) = V.int (a : Int)
  rw [Int.zero_add]
def sp_mixed : Sp := fun vs H Q _ => ∃ (d l : Addr) (n : Int), vs = [.ref d, .int n] ∧ 0 ≤ n ∧ n ≤ 1000 ∧ Deal H d l ∧
  ∀ (F : Addr) (ns : List Int) (H' : Hp), But [d, l] H H' → Deal H' d l → H F = none → H' F = some (.lst (ns.map V.int)) → ns.Perm (iota n) → Q (.ref F) H'
theorem But.none_of {H H' : Hp} {d l p : Addr} (b : But [d, l] H H') (n : p ≠ d ∧ p ≠ l) (h : H' p = none) : H p = none := by
  cases e : H p with
  | none => rfl
  | some o => rw [b.at n e] at h; cases h
theorem seqIx {k : Int} {n : Nat} (h0 : 0 ≤ k) (h1 : k < n) : seqIndex? k n = some k.toNat := by
  unfold seqIndex?
  have e : (if k < 0 then k + (n : Int) else k) = k := if_neg (by omega)
  simp only [e]
  rw [if_pos (by simp; omega)]
def t_mixed (K : PySem.W.Frag) (sp_draw : Sp) : TS :=
  tSeq (tPar 3 4 (tCons (tLstRg (tRg1 (tVar 1))) (tCons (tLst (tNil)) (tNil))))
    (tSeq (tFor (iRng1 (tCons (tVar 1) (tNil))) (gName 2) (tDrop (tBM K "list" rAppend (tVar 4) (tCons (tBM K "list" rPopAt (tVar 3) (tCons (tCall sp_draw [] E0 (tCons (tVar 0) (tCons (tCB (qLen K) (tCons (tVar 3) (tNil))) (tNil)))) (tNil))) (tNil)))))
    (tRet (tVar 4)))
theorem pure_mixed {K : PySem.W.Frag} (vs : List V) (H : Hp) (Q : VK) (E : XK) (h : sp_mixed vs H Q E) : t_mixed K sp_draw (EndsQ Q) (sN 5 vs) H := by
  obtain ⟨d, l, n, rfl, n0, n1, hD, k⟩ := h
  show t_mixed K sp_draw _ [some (.ref d), some (.int n), none, none, none] H
  refine ⟨_, rfl, n, rfl, ⟨by decide, by decide, by omega, by omega, by omega⟩, fun L hL => ?_⟩
  rw [rgV_iota]
  refine ⟨(by show 0 ≤ sizeLine; decide), fun F hF => ⟨_, _, rfl, ?_⟩⟩
  have nL := hD.ne hL
  have hLF : L ≠ F := ne_of_none upd_same hF
  have hF0 : H F = none := by rw [upd_ne (Ne.symm hLF)] at hF; exact hF
  have nF := hD.ne hF0
  have li : (iota n).length = n.toNat := by unfold iota; rw [List.length_map, List.length_range]
  refine ⟨_, rfl, n, rfl, by omega, by omega, for_range (lo := 0) (n := n.toNat) (fun i σ H1 => ∃ (s2 : Option V) (ls fs : List Int), σ = [some (.ref d), some (.int n), s2, some (.ref L), some (.ref F)] ∧ But [d, l] H H1 ∧ Deal H1 d l ∧ H1 L = some (.lst (ls.map V.int)) ∧ H1 F = some (.lst (fs.map V.int)) ∧ fs.length = i ∧ (fs ++ ls).Perm (iota n)) ?_ ?_ ?_⟩
  · exact ⟨none, iota n, [], rfl, ((But.refl _ _).new hL).new hF0, (hD.upd nL).upd nF, by rw [upd_ne hLF]; exact upd_same, upd_same, rfl, .refl _⟩
  · rintro i σ H1 hi ⟨s2, ls, fs, rfl, b1, d1, l1, f1, fl, hp⟩
    have hlen : fs.length + ls.length = n.toNat := by rw [← li, ← hp.length_eq, List.length_append]
    refine ⟨_, rfl, .inl ⟨rfl, _, SqL.of f1⟩, _, rfl, .inl ⟨rfl, _, SqL.of l1⟩, _, rfl, _, rfl, _, (ls.map V.int).length, rfl, .inl ⟨_, SqL.of l1, rfl⟩, d, l, _, rfl, by rw [List.length_map]; omega, by rw [List.length_map]; omega, d1, fun q H2 q0 q1 b2 d2 => ?_⟩
    have l2 := b2.at nL l1
    have f2 := b2.at nF f1
    rw [List.length_map] at q1
    have hq : q.toNat < ls.length := by omega
    refine ⟨L, _, q, q.toNat, .int ls[q.toNat], rfl, rfl, l2, by omega, by omega, by rw [List.length_map]; exact seqIx q0 q1, by rw [List.getElem?_map, List.getElem?_eq_getElem hq]; rfl, F, _, _, rfl, rfl, by rw [upd_ne (Ne.symm hLF)]; exact f2, ?_, ?_⟩
    · rw [List.length_map, fl]
      exact Nat.lt_of_le_of_lt (show i ≤ 1000 by omega) (by decide)
    · refine ⟨some (.int (0 + i)), ls.eraseIdx q.toNat, fs ++ [ls[q.toNat]], rfl, ((b1.trans b2).new hL).new hF0, (d2.upd nL).upd nF, ?_, ?_, by simp [fl], ?_⟩
      · rw [upd_ne hLF, upd_same, erase_map]
      · rw [upd_same, List.map_append]
        rfl
      · refine List.Perm.trans ?_ hp
        rw [List.append_assoc]
        exact List.Perm.append_left fs (erase_perm hq)
  · rintro σ H1 ⟨s2, ls, fs, rfl, b1, d1, l1, f1, fl, hp⟩
    have hlen : fs.length + ls.length = n.toNat := by rw [← li, ← hp.length_eq, List.length_append]
    have : ls = [] := List.length_eq_zero_iff.mp (by omega)
    subst this
    rw [List.append_nil] at hp
    exact ⟨_, rfl, k F fs H1 b1 d1 hF0 f1 hp⟩
end Wf
/-! Tables: lists of lists of pairs. -/
namespace Wf
open PySem PySem.Spec L2
abbrev Tab : Type := List (Int × Int)
def InP (s : Int) (p : Int × Int) : Prop := 0 ≤ p.1 ∧ p.1 < s ∧ 0 ≤ p.2 ∧ p.2 < s
structure TabOk (s : Int) (t : Tab) : Prop where
  len : (t.length : Int) = s * s
  inn : ∀ p ∈ t, InP s p
structure TabAt (K : PySem.W.Frag) (H : Hp) (l : Addr) (t : Tab) : Prop where
  ex : ∃ vs, H l = some (.lst vs) ∧ DpAll K H vs (t.map dP)
theorem noLAll_dP : ∀ t : Tab, noLAll (t.map dP) = true
  | [] => rfl
  | p :: t => by simp [noLAll, noL_dP, noLAll_dP t]
theorem TabAt.keep {K : PySem.W.Frag} {H H' : Hp} {l : Addr} {t : Tab} (h : TabAt K H l t) (hl : ∀ o, H l = some o → H' l = some o) (tp : Tp K H H') : TabAt K H' l t := by
  obtain ⟨vs, h1, h2⟩ := h.ex
  exact ⟨vs, hl _ h1, DpAll.tp tp _ _ (noLAll_dP t) h2⟩
theorem pr_mono {α β : Type} {F G : α → β → Prop} : ∀ {as : List α} {bs : List β}, Paired F as bs → (∀ a b, a ∈ as → F a b → G a b) → Paired G as bs
  | _, _, .nil, _ => .nil
  | _, _, .cons h t, k => .cons (k _ _ List.mem_cons_self h) (pr_mono t fun a b ha => k a b (List.mem_cons_of_mem _ ha))
theorem pr_app {α β : Type} {F : α → β → Prop} : ∀ {as cs : List α} {bs ds : List β}, Paired F as bs → Paired F cs ds → Paired F (as ++ cs) (bs ++ ds)
  | _, _, _, _, .nil, h => h
  | _, _, _, _, .cons h t, k => .cons h (pr_app t k)
theorem pr_get {α β : Type} {F : α → β → Prop} : ∀ {as : List α} {bs : List β} {i : Nat} {a : α}, Paired F as bs → as[i]? = some a → ∃ b, bs[i]? = some b ∧ F a b
  | _, _, _, _, .nil, e => by simp at e
  | _, _, 0, _, .cons h _, e => by simp at e; subst e; exact ⟨_, rfl, h⟩
  | _, _, i + 1, _, .cons _ t, e => by
    obtain ⟨b, h1, h2⟩ := pr_get (i := i) t (by simpa using e)
    exact ⟨b, by simpa using h1, h2⟩
theorem pr_len {α β : Type} {F : α → β → Prop} : ∀ {as : List α} {bs : List β}, Paired F as bs → as.length = bs.length
  | _, _, .nil => rfl
  | _, _, .cons _ t => congrArg (· + 1) (pr_len t)
/-- tables that were made since H: the list of them at F, they themselves at ls -/
structure Tabs (K : PySem.W.Frag) (H H1 : Hp) (F : Addr) (ls : List Addr) (ts : List Tab) : Prop where
  lst : H1 F = some (.lst (ls.map V.ref))
  tab : Paired (TabAt K H1) ls ts
  nd : (F :: ls).Nodup
  newF : H F = none
  newL : ∀ x ∈ ls, H x = none
section
variable {K : PySem.W.Frag} {H H1 H2 : Hp} {F d l : Addr} {ls : List Addr} {ts : List Tab}
theorem Tabs.keep (t : Tabs K H H1 F ls ts) (hk : ∀ x o, x ∈ F :: ls → H1 x = some o → H2 x = some o) (tp : Tp K H1 H2) : Tabs K H H2 F ls ts :=
  ⟨hk _ _ List.mem_cons_self t.lst, pr_mono t.tab fun a b ha h => h.keep (fun o e => hk a o (List.mem_cons_of_mem _ ha) e) tp, t.nd, t.newF, t.newL⟩
theorem Tabs.but (t : Tabs K H H1 F ls ts) (hD : Deal H d l) (d1 : Deal H1 d l) (b : But [d, l] H1 H2) : Tabs K H H2 F ls ts :=
  t.keep (fun x o hx e => b.at (hD.ne (by
    rcases List.mem_cons.mp hx with rfl | hx
    · exact t.newF
    · exact t.newL x hx)) e) (b.tp d1.noT)
theorem Tabs.same (t : Tabs K H H1 F ls ts) (s : Same H1 H2) : Tabs K H H2 F ls ts := t.keep (fun x o _ e => s x o e) (Same.tp s)
theorem Tabs.notIn {D : Addr} (ht : Tabs K H H1 F ls ts) (hDn : H1 D = none) : D ∉ F :: ls := fun z => by
  rcases List.mem_cons.mp z with rfl | z
  · rw [ht.lst] at hDn
    cases hDn
  · obtain ⟨i, hi⟩ := List.mem_iff_getElem?.mp z
    obtain ⟨_, _, h2⟩ := pr_get ht.tab hi
    obtain ⟨_, h3, _⟩ := h2.ex
    rw [h3] at hDn
    cases hDn
theorem Tabs.len (t : Tabs K H H1 F ls ts) : ls.length = ts.length := pr_len t.tab
/-- one more table -/
theorem Tabs.push {D : Addr} {t : Tab} (ht : Tabs K H H1 F ls ts) (h : TabAt K H1 D t) (hD : D ∉ F :: ls) (hn : H D = none) : Tabs K H (upd H1 F (.lst (ls.map V.ref ++ [.ref D]))) F (ls ++ [D]) (ts ++ [t]) := by
  have tp : Tp K H1 (upd H1 F (.lst (ls.map V.ref ++ [.ref D]))) := tp_upd (not_lst ht.lst)
  have hF := (List.nodup_cons.mp ht.nd).1
  refine ⟨by rw [upd_same, List.map_append]; rfl, pr_app (pr_mono ht.tab fun a b ha k => k.keep (fun o e => ?_) tp) (.cons (h.keep (fun o e => ?_) tp) .nil), ?_, ht.newF, fun x hx => ?_⟩
  · rw [upd_ne (show a ≠ F from fun z => hF (z ▸ ha))]
    exact e
  · rw [upd_ne (show D ≠ F from fun z => hD (by rw [z]; exact List.mem_cons_self))]
    exact e
  · have e : (F :: (ls ++ [D])) = (F :: ls) ++ [D] := rfl
    rw [e, List.nodup_append]
    exact ⟨ht.nd, by simp, fun a ha b hb => by rw [List.mem_singleton.mp hb]; exact fun z => hD (z ▸ ha)⟩
  · rcases List.mem_append.mp hx with hx | hx
    · exact ht.newL x hx
    · rw [List.mem_singleton.mp hx]
      exact hn
theorem nodup_set {α : Type} {x : α} : ∀ {l : List α} {i : Nat}, l.Nodup → x ∉ l → (l.set i x).Nodup
  | [], _, h, _ => h
  | a :: l, 0, h, hx => List.nodup_cons.mpr ⟨fun z => hx (List.mem_cons_of_mem _ z), (List.nodup_cons.mp h).2⟩
  | a :: l, i + 1, h, hx => by
    have h1 := List.nodup_cons.mp h
    refine List.nodup_cons.mpr ⟨fun z => ?_, nodup_set h1.2 fun z => hx (List.mem_cons_of_mem _ z)⟩
    rcases List.mem_or_eq_of_mem_set z with z | z
    · exact h1.1 z
    · exact hx (z ▸ List.mem_cons_self)
theorem pr_set {α β : Type} {F : α → β → Prop} {a : α} {b : β} (h : F a b) : ∀ {as : List α} {bs : List β} (i : Nat), Paired F as bs → Paired F (as.set i a) (bs.set i b)
  | _, _, _, .nil => .nil
  | _, _, 0, .cons _ t => .cons h t
  | _, _, i + 1, .cons k t => .cons k (pr_set h i t)
/-- one table for another -/
theorem Tabs.put {D : Addr} {t : Tab} {j : Nat} (ht : Tabs K H H1 F ls ts) (h : TabAt K H1 D t) (hD : D ∉ F :: ls) (hn : H D = none) : Tabs K H (upd H1 F (.lst ((ls.map V.ref).set j (.ref D)))) F (ls.set j D) (ts.set j t) := by
  have tp : Tp K H1 (upd H1 F (.lst ((ls.map V.ref).set j (.ref D)))) := tp_upd (not_lst ht.lst)
  have hF := (List.nodup_cons.mp ht.nd)
  have hDF : D ≠ F := fun z => hD (by rw [z]; exact List.mem_cons_self)
  have hDl : D ∉ ls := fun z => hD (List.mem_cons_of_mem _ z)
  refine ⟨by rw [upd_same, List.map_set], pr_set (h.keep (fun o e => by rw [upd_ne hDF]; exact e) tp) j (pr_mono ht.tab fun a b ha k => k.keep (fun o e => ?_) tp), ?_, ht.newF, fun x hx => ?_⟩
  · rw [upd_ne (show a ≠ F from fun z => hF.1 (z ▸ ha))]
    exact e
  · refine List.nodup_cons.mpr ⟨fun z => ?_, nodup_set hF.2 hDl⟩
    rcases List.mem_or_eq_of_mem_set z with z | z
    · exact hF.1 z
    · exact hDF z.symm
  · rcases List.mem_or_eq_of_mem_set hx with hx | hx
    · exact ht.newL x hx
    · rw [hx]
      exact hn
def dTs (ts : List Tab) : PyData := .list (ts.map fun t => .list (t.map dP))
theorem Tabs.dp (ht : Tabs K H H1 F ls ts) : Dp K H1 (.ref F) (dTs ts) := by
  refine .lst (SqL.of ht.lst) ?_
  have := ht.tab
  clear ht
  induction this with
  | nil => exact .nil
  | cons h _ ih =>
    obtain ⟨vs, e1, e2⟩ := h.ex
    exact .cons (.lst (SqL.of e1) e2) ih
end
/-! ### [(draw(size), draw(size)) for n in range(size * size)] -/
theorem lc_drawn {K : PySem.W.Frag} {σ : St} {H : Hp} {d l : Addr} {s : Int} {v : Nat} {Q : VK} (h0 : ∀ x, ((wipe σ [v]).set v x)[0]? = some (some (.ref d))) (h2 : ∀ x, ((wipe σ [v]).set v x)[2]? = some (some (.int s))) (h2' : σ[2]? = some (some (.int s)))
    (hw : ∀ x, wipe ((wipe σ [v]).set v x) [v] = wipe σ [v]) (s1 : 1 ≤ s) (s6 : s ≤ 6) (hD : Deal H d l)
    (q : ∀ (D : Addr) (H' : Hp) (t : Tab), H D = none → But [d, l] H H' → Deal H' d l → TabAt K H' D t → TabOk s t → Q (.ref D) H') :
    tLc (iRng1 (tCons (tOp qMul (tVar 2) (tVar 2)) (tNil))) (gName v) (tYes) (tTup (tCons (tCall sp_draw [] E0 (tCons (tVar 0) (tCons (tVar 2) (tNil)))) (tCons (tCall sp_draw [] E0 (tCons (tVar 0) (tCons (tVar 2) (tNil)))) (tNil)))) [v] σ H Q := by
  have hss : 1 ≤ s * s ∧ s * s ≤ 36 := by
    have : s = 1 ∨ s = 2 ∨ s = 3 ∨ s = 4 ∨ s = 5 ∨ s = 6 := by omega
    rcases this with rfl | rfl | rfl | rfl | rfl | rfl <;> decide
  refine ⟨_, h2', _, h2', _, _, rfl, rfl, .inl ⟨by omega, by omega⟩, s * s, rfl, by omega, by omega, fun D hDn => ?_⟩
  have nD := hD.ne hDn
  refine lc_range (lo := 0) (n := (s * s).toNat) (fun i H1 => But [d, l] H H1 ∧ Deal H1 d l ∧ ∃ t : Tab, TabAt K H1 D t ∧ t.length = i ∧ ∀ p ∈ t, InP s p) ?_ ?_ ?_
  · exact ⟨(But.refl _ _).new hDn, hD.upd nD, [], ⟨[], upd_same, .nil⟩, rfl, fun p hp => (List.not_mem_nil hp).elim⟩
  · rintro i H1 hi ⟨b1, d1, t, ht, hl, hin⟩
    refine ⟨hw _, ?_⟩
    simp only [tYes, ↓reduceIte]
    refine ⟨_, h0 _, _, h2 _, d, l, s, rfl, by omega, by omega, d1, fun a H2 a0 a1 b2 d2 => ?_⟩
    refine ⟨_, h0 _, _, h2 _, d, l, s, rfl, by omega, by omega, d2, fun b H3 c0 c1 b3 d3 => ?_⟩
    refine ⟨(by show 2 ≤ sizeLine; decide), fun p hp => ?_⟩
    have b13 := b2.trans b3
    obtain ⟨vs, e1, e2⟩ := (ht.keep (fun o e => b13.at nD e) (b13.tp d1.noT)).ex
    have np := d3.ne hp
    have hpD : D ≠ p := ne_of_none e1 hp
    have e1' : upd H3 p (.tup [.int a, .int b]) D = some (.lst vs) := by rw [upd_ne hpD]; exact e1
    refine ⟨vs, e1', ?_, ?_⟩
    · rw [DpAll.len e2, List.length_map, hl]
      exact Nat.lt_of_le_of_lt (show i ≤ 36 by omega) (by decide)
    · have hp0 : H p = none := (b1.trans b13).none_of np hp
      refine ⟨((b1.trans b13).new hp0).new hDn, (d3.upd np).upd nD, t ++ [(a, b)], ⟨vs ++ [.ref p], upd_same, ?_⟩, by simp [hl], fun x hx => ?_⟩
      · rw [List.map_append]
        have tp1 : Tp K H3 (upd H3 p (.tup [.int a, .int b])) := Same.tp (same_new hp)
        have tp2 : Tp K (upd H3 p (.tup [.int a, .int b])) (upd (upd H3 p (.tup [.int a, .int b])) D (.lst (vs ++ [.ref p]))) := tp_upd (not_lst e1')
        refine DpAll.append (DpAll.tp (tp1.trans tp2) _ _ (noLAll_dP t) e2) (.cons (dP_new ?_) .nil)
        rw [upd_ne (Ne.symm hpD)]
        exact upd_same
      · rcases List.mem_append.mp hx with hx | hx
        · exact hin x hx
        · rw [List.mem_singleton.mp hx]
          exact ⟨a0, a1, c0, c1⟩
  · rintro H1 ⟨b1, d1, t, ht, hl, hin⟩
    exact q D H1 t hDn b1 d1 ht ⟨by omega, hin⟩
theorem st_asg {te : TE} {g : TG} {D : Ends} {σ : St} {H : Hp} (h : te σ H fun x H1 => g x σ H1 D.nx) : tAsg te g D σ H := h
/-! ### _law_any -/
def nT (m : Int) : Int := m * (m - 1) / 2
/-- tables are told, new ones, by what R says of them -/
def GiveT (K : PySem.W.Frag) (d l : Addr) (H : Hp) (Q : VK) (R : List Tab → Prop) : Prop := ∀ (F : Addr) (ls : List Addr) (ts : List Tab) (H' : Hp), But [d, l] H H' → Deal H' d l → Tabs K H H' F ls ts → R ts → Q (.ref F) H'
structure AllOk (m s : Int) (ts : List Tab) : Prop where
  len : (ts.length : Int) = nT m
  ok : ∀ t ∈ ts, TabOk s t
def sp_any (K : PySem.W.Frag) : Sp := fun vs H Q _ => ∃ (d l : Addr) (m s : Int), vs = [.ref d, .int m, .int s] ∧ 1 ≤ m ∧ m ≤ 5 ∧ 1 ≤ s ∧ s ≤ 6 ∧ Deal H d l ∧ GiveT K d l H Q (AllOk m s)
theorem nT_le {m : Int} (h1 : 1 ≤ m) (h5 : m ≤ 5) : 0 ≤ nT m ∧ nT m ≤ 10 := by
  have : m = 1 ∨ m = 2 ∨ m = 3 ∨ m = 4 ∨ m = 5 := by omega
  rcases this with rfl | rfl | rfl | rfl | rfl <;> decide
def t_any (K : PySem.W.Frag) (sp_draw : Sp) : TS :=
  tSeq (tAsg (tLst (tNil)) (gName 3))
    (tSeq (tFor (iRng1 (tCons (tOp qFdiv (tOp qMul (tVar 1) (tOp qSub (tVar 1) (tC (.int 1)))) (tC (.int 2))) (tNil))) (gName 4) (tDrop (tBM K "list" rAppend (tVar 3) (tCons (tLc (iRng1 (tCons (tOp qMul (tVar 2) (tVar 2)) (tNil))) (gName 5) (tYes) (tTup (tCons (tCall sp_draw [] E0 (tCons (tVar 0) (tCons (tVar 2) (tNil)))) (tCons (tCall sp_draw [] E0 (tCons (tVar 0) (tCons (tVar 2) (tNil)))) (tNil)))) [5]) (tNil)))))
    (tRet (tVar 3)))
theorem pure_any {K : PySem.W.Frag} (vs : List V) (H : Hp) (Q : VK) (E : XK) (h : sp_any K vs H Q E) : t_any K sp_draw (EndsQ Q) (sN 6 vs) H := by
  obtain ⟨d, l, m, s, rfl, m1, m5, s1, s6, hD, k⟩ := h
  show t_any K sp_draw _ [some (.ref d), some (.int m), some (.int s), none, none, none] H
  refine ⟨(by show 0 ≤ sizeLine; decide), fun F hF => ?_⟩
  have nF := hD.ne hF
  have hn := nT_le m1 m5
  refine ⟨_, rfl, _, rfl, _, _, rfl, rfl, _, _, rfl, rfl, .inl ⟨by omega, by omega⟩, _, _, rfl, rfl, ⟨by decide, by decide⟩, nT m, rfl, by omega, by omega,
    for_range (lo := 0) (n := (nT m).toNat) (fun i σ H1 => ∃ (s4 : Option V) (ls : List Addr) (ts : List Tab), σ = [some (.ref d), some (.int m), some (.int s), some (.ref F), s4, none] ∧ But [d, l] H H1 ∧ Deal H1 d l ∧ Tabs K H H1 F ls ts ∧ ts.length = i ∧ ∀ t ∈ ts, TabOk s t) ?_ ?_ ?_⟩
  · exact ⟨none, [], [], rfl, (But.refl _ _).new hF, hD.upd nF, ⟨upd_same, .nil, by simp, hF, fun x hx => (List.not_mem_nil hx).elim⟩, rfl, fun t ht => (List.not_mem_nil ht).elim⟩
  · rintro i σ H1 hi ⟨s4, ls, ts, rfl, b1, d1, ht, hl, hok⟩
    refine ⟨_, rfl, .inl ⟨rfl, _, SqL.of ht.lst⟩, ?_⟩
    refine lc_drawn (K := K) (d := d) (l := l) (s := s) (fun _ => rfl) (fun _ => rfl) rfl (fun _ => rfl) s1 s6 d1 fun D H2 t hDn b2 d2 tt tok => ?_
    have t2 := ht.but hD d1 b2
    have nD := d1.ne hDn
    have hD0 : H D = none := b1.none_of nD hDn
    have hm : D ∉ F :: ls := ht.notIn hDn
    refine ⟨F, _, _, rfl, rfl, t2.lst, ?_, ?_⟩
    · rw [List.length_map, ht.len, hl]
      exact Nat.lt_of_le_of_lt (show i ≤ 10 by omega) (by decide)
    · refine ⟨some (.int (0 + i)), ls ++ [D], ts ++ [t], rfl, (b1.trans b2).new hF, d2.upd nF, t2.push tt hm hD0, by simp [hl], fun x hx => ?_⟩
      rcases List.mem_append.mp hx with hx | hx
      · exact hok x hx
      · rw [List.mem_singleton.mp hx]
        exact tok
  · rintro σ H1 ⟨s4, ls, ts, rfl, b1, d1, ht, hl, hok⟩
    exact ⟨_, rfl, k F ls ts H1 b1 d1 ht ⟨by omega, hok⟩⟩
/-! ### _law_plain -/
def tabF (f s : Int) (st : Int × Int) : Tab := (iota (s * s)).map fun n => pairF f s st (n / s) (n % s)
/-- by plain rules: one form for all tables; or keeping ones, and one any -/
inductive PlainT (m s : Int) : List Tab → Prop
  | all (f : Int) (sts : List (Int × Int)) : 0 ≤ f → f ≤ 4 → (sts.length : Int) = nT m → (∀ x ∈ sts, InP s x) → PlainT m s (sts.map (tabF f s))
  | one (sts : List (Int × Int)) (i : Nat) (t : Tab) : (sts.length : Int) = nT m → i < sts.length → TabOk s t → PlainT m s ((sts.map (tabF 0 s)).set i t)
def sp_plain (K : PySem.W.Frag) : Sp := fun vs H Q _ => ∃ (d l : Addr) (m s : Int), vs = [.ref d, .int m, .int s] ∧ 1 ≤ m ∧ m ≤ 5 ∧ 1 ≤ s ∧ s ≤ 6 ∧ Deal H d l ∧ GiveT K d l H Q (PlainT m s)
theorem ss_le {s : Int} (s1 : 1 ≤ s) (s6 : s ≤ 6) : 1 ≤ s * s ∧ s * s ≤ 36 := by
  have : s = 1 ∨ s = 2 ∨ s = 3 ∨ s = 4 ∨ s = 5 ∨ s = 6 := by omega
  rcases this with rfl | rfl | rfl | rfl | rfl | rfl <;> decide
theorem iota_succ (i : Nat) : (List.range (i + 1)).map (fun (j : Nat) => (j : Int)) = (List.range i).map (fun (j : Nat) => (j : Int)) ++ [(i : Int)] := by rw [List.range_succ, List.map_append]; rfl
/-- [_law_pair(form % 5, size, step, n // size, n % size) for n in range(size * size)] -/
theorem lc_pairs {K : PySem.W.Frag} {σ : St} {H : Hp} {s f : Int} {u : V} {st : Int × Int} {v : Nat} {Q : VK} (h4 : ∀ x, ((wipe σ [v]).set v x)[4]? = some (some (.int f))) (h2 : ∀ x, ((wipe σ [v]).set v x)[2]? = some (some (.int s))) (h6 : ∀ x, ((wipe σ [v]).set v x)[6]? = some (some u)) (hv : ∀ x, ((wipe σ [v]).set v (some x))[v]? = some (some x)) (h2' : σ[2]? = some (some (.int s)))
    (hw : ∀ x, wipe ((wipe σ [v]).set v x) [v] = wipe σ [v]) (s1 : 1 ≤ s) (s6 : s ≤ 6) (hst : Dp K H u (dP st))
    (q : ∀ (D : Addr) (H' : Hp), H D = none → Same H H' → TabAt K H' D (tabF (f % 5) s st) → Q (.ref D) H') :
    tLc (iRng1 (tCons (tOp qMul (tVar 2) (tVar 2)) (tNil))) (gName v) (tYes) (tCall (sp_pair K) [] E0 (tCons (tOp qMod (tVar 4) (tC (.int 5))) (tCons (tVar 2) (tCons (tVar 6) (tCons (tOp qFdiv (tVar v) (tVar 2)) (tCons (tOp qMod (tVar v) (tVar 2)) (tNil))))))) [v] σ H Q := by
  have hss := ss_le s1 s6
  refine ⟨_, h2', _, h2', _, _, rfl, rfl, .inl ⟨by omega, by omega⟩, s * s, rfl, by omega, by omega, fun D hDn => ?_⟩
  refine lc_range (lo := 0) (n := (s * s).toNat) (fun i H1 => Same H H1 ∧ TabAt K H1 D (((List.range i).map fun (j : Nat) => (j : Int)).map fun n => pairF (f % 5) s st (n / s) (n % s))) ?_ ?_ ?_
  · exact ⟨same_new hDn, ⟨[], upd_same, .nil⟩⟩
  · rintro i H1 hi ⟨b1, ht⟩
    refine ⟨hw _, ?_⟩
    simp only [tYes, ↓reduceIte]
    refine ⟨_, h4 _, _, _, rfl, rfl, mp rfl, _, h2 _, _, h6 _, _, hv _, _, h2 _, _, _, rfl, rfl, ⟨by omega, by omega⟩, _, hv _, _, h2 _, _, _, rfl, rfl, (by show 0 < s; omega), f % 5, s, _, _, u, st, rfl, Dp.tp (Same.tp b1) _ _ (noL_dP st) hst, by omega, by omega, by omega, fun w H2 s2 hw2 => ?_⟩
    obtain ⟨vs, e1, e2⟩ := ht.ex
    have e1' := s2 _ _ e1
    have ln : vs.length = i := by rw [DpAll.len e2, List.length_map, List.length_map, List.length_map, List.length_range]
    refine ⟨vs, e1', ?_, ?_⟩
    · rw [ln]
      exact Nat.lt_of_le_of_lt (show i ≤ 36 by omega) (by decide)
    · refine ⟨fun a o e => ?_, ⟨vs ++ [w], upd_same, ?_⟩⟩
      · rw [upd_ne (ne_of_none e hDn)]
        exact s2 _ _ (b1 _ _ e)
      · rw [iota_succ, List.map_append, List.map_append]
        have tp2 : Tp K H2 (upd H2 D (.lst (vs ++ [w]))) := tp_upd (not_lst e1')
        refine DpAll.append (DpAll.tp ((Same.tp s2).trans tp2) _ _ (noLAll_dP _) e2) (.cons ?_ .nil)
        have hw3 := Dp.tp tp2 _ _ (noL_dP _) hw2
        rw [Int.zero_add] at hw3
        exact hw3
  · rintro H1 ⟨b1, ht⟩
    exact q D H1 hDn b1 ht
def t_plain (K : PySem.W.Frag) (sp_draw : Sp) (sp_pair : Sp) : TS :=
  tSeq (tAsg (tTup (tCons (tCall sp_draw [] E0 (tCons (tVar 0) (tCons (tC (.int 6)) (tNil)))) (tCons (tLst (tNil)) (tNil)))) (gTup K 2 (gCons (gName 4) (gCons (gName 5) (gNil)))))
    (tSeq (tFor (iRng1 (tCons (tOp qFdiv (tOp qMul (tVar 1) (tOp qSub (tVar 1) (tC (.int 1)))) (tC (.int 2))) (tNil))) (gName 3) (tSeq (tAsg (tTup (tCons (tCall sp_draw [] E0 (tCons (tVar 0) (tCons (tVar 2) (tNil)))) (tCons (tCall sp_draw [] E0 (tCons (tVar 0) (tCons (tVar 2) (tNil)))) (tNil)))) (gName 6))
    (tDrop (tBM K "list" rAppend (tVar 5) (tCons (tLc (iRng1 (tCons (tOp qMul (tVar 2) (tVar 2)) (tNil))) (gName 8) (tYes) (tCall sp_pair [] E0 (tCons (tOp qMod (tVar 4) (tC (.int 5))) (tCons (tVar 2) (tCons (tVar 6) (tCons (tOp qFdiv (tVar 8) (tVar 2)) (tCons (tOp qMod (tVar 8) (tVar 2)) (tNil))))))) [8]) (tNil))))))
    (tSeq (tIfS (tAnd (tTest (tOp rEq (tVar 4) (tC (.int 5)))) (tTest (tOp (rNeD K) (tVar 5) (tLst (tNil))))) (tSeq (tAsg (tLc (iRng1 (tCons (tOp qMul (tVar 2) (tVar 2)) (tNil))) (gName 8) (tYes) (tTup (tCons (tCall sp_draw [] E0 (tCons (tVar 0) (tCons (tVar 2) (tNil)))) (tCons (tCall sp_draw [] E0 (tCons (tVar 0) (tCons (tVar 2) (tNil)))) (tNil)))) [8]) (gName 7))
    (tAsg (tVar 7) (gSub (tVar 5) (tCall sp_draw [] E0 (tCons (tVar 0) (tCons (tCB (qLen K) (tCons (tVar 5) (tNil))) (tNil)))) rSetL))) (tNext))
    (tRet (tVar 5))))
/-- data whose shape == may be asked of: lists and tuples of such, to a depth -/
theorem lay_map {α : Type} (f : α → PyData) (n : Nat) : ∀ l : List α, (∀ a ∈ l, (f a).canLay0 = true ∧ (f a).depth ≤ n) → PyData.canLayAll0 (l.map f) = true ∧ PyData.depthAll (l.map f) ≤ n
  | [], _ => ⟨rfl, Nat.zero_le _⟩
  | a :: l, h => by
    have h1 := h a List.mem_cons_self
    have h2 := lay_map f n l fun b hb => h b (List.mem_cons_of_mem _ hb)
    rw [List.map_cons]
    constructor
    · show ((f a).canLay0 && PyData.canLayAll0 (l.map f)) = true
      rw [h1.1, h2.1]
      rfl
    · show max (f a).depth (PyData.depthAll (l.map f)) ≤ n
      exact Nat.max_le.mpr ⟨h1.2, h2.2⟩
theorem lay_dP (p : Int × Int) : (dP p).canLay0 = true ∧ (dP p).depth ≤ 1 := ⟨rfl, by show max 0 (max 0 0) + 1 ≤ 1; decide⟩
theorem lay_tab (t : Tab) : (PyData.list (t.map dP)).canLay0 = true ∧ (PyData.list (t.map dP)).depth ≤ 2 := by
  have h := lay_map dP 1 t fun p _ => lay_dP p
  exact ⟨h.1, Nat.succ_le_succ h.2⟩
theorem shaped_ts (ts : List Tab) : SeqAt.shaped (dTs ts) = true := by
  have h := lay_map (fun t => PyData.list (t.map dP)) 2 ts fun t _ => lay_tab t
  have h2 : (dTs ts).depth ≤ 3 := Nat.succ_le_succ h.2
  unfold SeqAt.shaped
  rw [show (dTs ts).canLay0 = true from h.1]
  simp
  omega
theorem pure_plain {K : PySem.W.Frag} (vs : List V) (H : Hp) (Q : VK) (E : XK) (h : sp_plain K vs H Q E) : t_plain K sp_draw (sp_pair K) (EndsQ Q) (sN 9 vs) H := by
  obtain ⟨d, l, m, s, rfl, m1, m5, s1, s6, hD, k⟩ := h
  show t_plain K sp_draw (sp_pair K) _ [some (.ref d), some (.int m), some (.int s), none, none, none, none, none, none] H
  refine ⟨_, rfl, d, l, 6, rfl, by decide, by decide, hD, fun f H0 f0 f6 b0 d0 => ?_⟩
  refine ⟨(by show 0 ≤ sizeLine; decide), fun F hF => ⟨(by show 2 ≤ sizeLine; decide), fun p hp => ?_⟩⟩
  have nF := d0.ne hF
  have hF0 : H F = none := b0.none_of nF hF
  have hpF : F ≠ p := ne_of_none upd_same hp
  have hp0 : H0 p = none := by rw [upd_ne (Ne.symm hpF)] at hp; exact hp
  have np := d0.ne hp0
  have hp00 : H p = none := b0.none_of np hp0
  have hn := nT_le m1 m5
  refine ⟨p, [.int f, .ref F], rfl, SqT.of upd_same, rfl, _, _, rfl, _, _, rfl, rfl, ?_⟩
  refine ⟨_, rfl, _, rfl, _, _, rfl, rfl, _, _, rfl, rfl, .inl ⟨by omega, by omega⟩, _, _, rfl, rfl, ⟨by decide, by decide⟩, nT m, rfl, by omega, by omega,
    for_range (lo := 0) (n := (nT m).toNat) (fun i σ H1 => ∃ (s3 s6 : Option V) (ls : List Addr) (sts : List (Int × Int)), σ = [some (.ref d), some (.int m), some (.int s), s3, some (.int f), some (.ref F), s6, none, none] ∧ But [d, l] H H1 ∧ Deal H1 d l ∧ Tabs K H H1 F ls (sts.map (tabF (f % 5) s)) ∧ sts.length = i ∧ ∀ x ∈ sts, InP s x) ?_ ?_ ?_⟩
  · refine ⟨none, none, [], [], rfl, (b0.new hF0).new hp00, (d0.upd nF).upd np, ⟨?_, .nil, by simp, hF0, fun x hx => (List.not_mem_nil hx).elim⟩, rfl, fun t ht => (List.not_mem_nil ht).elim⟩
    rw [upd_ne hpF]
    exact upd_same
  · rintro i σ H1 hi ⟨s3, s6', ls, sts, rfl, b1, d1, ht, hl, hok⟩
    refine ⟨_, rfl, _, rfl, d, l, s, rfl, by omega, by omega, d1, fun a H2 a0 a1 b2 d2 => ?_⟩
    refine ⟨_, rfl, _, rfl, d, l, s, rfl, by omega, by omega, d2, fun b H3 c0 c1 b3 d3 => ?_⟩
    refine ⟨(by show 2 ≤ sizeLine; decide), fun q hq => ?_⟩
    have t3 := (ht.but hD d1 (b2.trans b3)).same (same_new (o := .tup [.int a, .int b]) hq)
    have nq := d3.ne hq
    have b4 := (b1.trans (b2.trans b3))
    have hq0 : H q = none := b4.none_of nq hq
    refine ⟨_, rfl, .inl ⟨rfl, _, SqL.of t3.lst⟩, ?_⟩
    refine lc_pairs (K := K) (s := s) (f := f) (u := .ref q) (st := (a, b)) (fun _ => rfl) (fun _ => rfl) (fun _ => rfl) (fun _ => rfl) rfl (fun _ => rfl) s1 s6 (dP_new upd_same) fun D H4 hDn s4 td => ?_
    have t4 := t3.same s4
    have hDn3 : H3 D = none := by
      cases e : H3 D with
      | none => rfl
      | some o => rw [same_new hq _ _ e] at hDn; cases hDn
    have nD := d3.ne hDn3
    have hD0 : H D = none := b4.none_of nD hDn3
    have hm : D ∉ F :: ls := t3.notIn hDn
    refine ⟨F, _, _, rfl, rfl, t4.lst, ?_, ?_⟩
    · rw [List.length_map, ht.len, List.length_map, hl]
      exact Nat.lt_of_le_of_lt (show i ≤ 10 by omega) (by decide)
    · refine ⟨some (.int (0 + i)), some (.ref q), ls ++ [D], sts ++ [(a, b)], rfl, But.new (fun x o n e => s4 _ _ (b4.new hq0 x o n e)) hF0, ?_, ?_, by simp [hl], fun x hx => ?_⟩
      · obtain ⟨z1, z2, z3, z4, z5, z6, z7⟩ := (d3.upd nq (o := .tup [.int a, .int b])).ex
        exact Deal.upd ⟨z1, z2, z3, z4, s4 _ _ z5, s4 _ _ z6, z7⟩ nF
      · rw [List.map_append]
        exact t4.push td hm hD0
      · rcases List.mem_append.mp hx with hx | hx
        · exact hok x hx
        · rw [List.mem_singleton.mp hx]
          exact ⟨a0, a1, c0, c1⟩
  · rintro σ H1 ⟨s3, s6', ls, sts, rfl, b1, d1, ht, hl, hok⟩
    have fin : PlainT m s (sts.map (tabF (f % 5) s)) := .all (f % 5) sts (by omega) (by omega) (by omega) hok
    refine ⟨_, rfl, rfl, _, rfl, ?_⟩
    by_cases hf : f = 5
    · subst hf
      simp only [decide_true, ↓reduceIte]
      refine ⟨_, rfl, (by show 0 ≤ sizeLine; decide), fun e he => ?_⟩
      have t2 := ht.same (same_new (o := .lst []) he)
      refine ⟨_, _, t2.dp, .lst (SqL.of upd_same) .nil, shaped_ts _, rfl, _, rfl, ?_⟩
      have ne := d1.ne he
      have he0 : H e = none := b1.none_of ne he
      have b2 : But [d, l] H (upd H1 e (.lst [])) := b1.new he0
      have d2 : Deal (upd H1 e (.lst [])) d l := d1.upd ne
      generalize upd H1 e (.lst []) = H2 at t2 b2 d2
      cases sts with
      | nil => exact ⟨_, rfl, k F ls _ H2 b2 d2 t2 fin⟩
      | cons st0 sts =>
        have hb : (!PyData.eqv (dTs ((st0 :: sts).map (tabF (5 % 5) s))) (PyData.list [])) = true := rfl
        rw [hb]
        simp only [↓reduceIte]
        refine st_seq (st_asg ?_)
        refine lc_drawn (K := K) (d := d) (l := l) (s := s) (fun _ => rfl) (fun _ => rfl) rfl (fun _ => rfl) s1 s6 d2 fun D H3 t hDn b3 d3 tt tok => ?_
        have t3 := t2.but hD d2 b3
        have nD := d2.ne hDn
        have hD0 : H D = none := b2.none_of nD hDn
        have hm : D ∉ F :: ls := t2.notIn hDn
        have hll := ht.len
        rw [List.length_map] at hll
        refine ⟨_, rfl, _, rfl, _, rfl, _, rfl, _, (ls.map V.ref).length, rfl, .inl ⟨_, SqL.of t3.lst, rfl⟩, d, l, _, rfl, ?_, ?_, d3, fun q H4 q0 q1 b4 d4 => ?_⟩
        · rw [List.length_map, hll, List.length_cons]
          omega
        · rw [List.length_map, hll]
          omega
        · rw [List.length_map, hll] at q1
          have t4 := t3.but hD d3 b4
          have tt4 := tt.keep (fun o e => b4.at nD e) (b4.tp d3.noT)
          refine ⟨F, _, q, q.toNat, rfl, rfl, t4.lst, ?_, ?_⟩
          · unfold ixN
            rw [if_pos q0, if_pos (by rw [List.length_map, hll]; exact q1)]
          · refine ⟨_, rfl, k F _ _ _ ((b2.trans (b3.trans b4)).new hF0) (d4.upd nF) (t4.put (j := q.toNat) tt4 hm hD0) ?_⟩
            exact .one (st0 :: sts) q.toNat t (by omega) (by omega) tok
    · have : decide (V.int f = V.int 5) = false := decide_eq_false fun z => hf (V.int.inj z)
      rw [this]
      exact ⟨_, rfl, k F ls _ H1 b1 d1 ht fin⟩
end Wf
/-! Tables side by side, tables with other names. -/
namespace Wf
open PySem PySem.Spec L2
/-- tables to be read -/
structure TL (K : PySem.W.Frag) (H : Hp) (A : Addr) (ls : List Addr) (ts : List Tab) : Prop where
  lst : H A = some (.lst (ls.map V.ref))
  tab : Paired (TabAt K H) ls ts
theorem Tabs.tl {K : PySem.W.Frag} {H H1 : Hp} {F : Addr} {ls : List Addr} {ts : List Tab} (t : Tabs K H H1 F ls ts) : TL K H1 F ls ts := ⟨t.lst, t.tab⟩
theorem TL.same {K : PySem.W.Frag} {H H1 : Hp} {A : Addr} {ls : List Addr} {ts : List Tab} (t : TL K H A ls ts) (s : Same H H1) : TL K H1 A ls ts := ⟨s _ _ t.lst, pr_mono t.tab fun a b _ h => h.keep (fun o e => s _ _ e) (Same.tp s)⟩
theorem ix_lt {x y w : Int} (x0 : 0 ≤ x) (x1 : x < w) (y0 : 0 ≤ y) (y1 : y < w) : 0 ≤ x * w + y ∧ x * w + y < w * w := by
  have h1 : 0 ≤ x * w := Int.mul_nonneg x0 (by omega)
  have h2 : (x + 1) * w ≤ w * w := Int.mul_le_mul_of_nonneg_right (by omega) (by omega)
  have h3 : (x + 1) * w = x * w + w := by rw [Int.add_mul, Int.one_mul]
  constructor <;> omega
/-- the pair at a place of a table that is read -/
theorem tab_ix {K : PySem.W.Frag} {H : Hp} {l : Addr} {t : Tab} {i : Int} (h : TabAt K H l t) (h0 : 0 ≤ i) (h1 : i < t.length) : ∃ vs v p, H l = some (.lst vs) ∧ atI vs i = some v ∧ t[i.toNat]? = some p ∧ Dp K H v (dP p) := by
  obtain ⟨vs, e1, e2⟩ := h.ex
  have hl : vs.length = t.length := by rw [DpAll.len e2, List.length_map]
  have hp : t[i.toNat]? = some (t[i.toNat]'(by omega)) := List.getElem?_eq_getElem (by omega)
  obtain ⟨v, f1, f2⟩ := DpAll.get (d := dP (t[i.toNat]'(by omega))) e2 (by rw [List.getElem?_map, hp]; rfl)
  refine ⟨vs, v, _, e1, ?_, hp, f2⟩
  unfold atI ixN
  rw [if_pos h0, if_pos (by rw [hl]; exact h1)]
  exact f1
def sideP (t1 t2 : Tab) (w r : Int) (n : Int) : Int × Int :=
  let c := t1.getD (n / (w * r) / r * w + n % (w * r) / r).toNat (0, 0)
  let g := t2.getD (n / (w * r) % r * r + n % (w * r) % r).toNat (0, 0)
  (c.1 * r + g.1, c.2 * r + g.2)
def sideT (w r : Int) (t1 t2 : Tab) : Tab := (iota (w * r * (w * r))).map (sideP t1 t2 w r)
def sp_side (K : PySem.W.Frag) : Sp := fun vs H Q _ => ∃ (A B : Addr) (la lb : List Addr) (ta tb : List Tab) (w r : Int), vs = [.ref A, .ref B, .int w, .int r] ∧ TL K H A la ta ∧ TL K H B lb tb ∧ ta.length = tb.length ∧ ta.length ≤ 10 ∧ 1 ≤ w ∧ 1 ≤ r ∧ w ≤ 6 ∧ r ≤ 6 ∧ w * r ≤ 6 ∧
  (∀ t ∈ ta, TabOk w t) ∧ (∀ t ∈ tb, TabOk r t) ∧ ∀ (F : Addr) (ls : List Addr) (H' : Hp), Same H H' → Tabs K H H' F ls (List.zipWith (sideT w r) ta tb) → Q (.ref F) H'
def t_side (K : PySem.W.Frag) : TS :=
  tSeq (tPar 4 5 (tCons (tLst (tNil)) (tCons (tOp qMul (tVar 2) (tVar 3)) (tNil))))
    (tSeq (tFor (RZ.iZipA K (tCons (tVar 0) (tCons (tVar 1) (tNil)))) (gTup K 2 (gCons (gName 6) (gCons (gName 7) (gNil)))) (tSeq (tAsg (tLst (tNil)) (gName 8))
    (tSeq (tFor (iRng1 (tCons (tOp qMul (tVar 5) (tVar 5)) (tNil))) (gName 9) (tSeq (tPar 10 11 (tCons (tOp qFdiv (tVar 9) (tVar 5)) (tCons (tOp qMod (tVar 9) (tVar 5)) (tNil))))
    (tSeq (tAsg (tOp (rIxL K) (tVar 6) (tOp qAdd (tOp qMul (tOp qFdiv (tVar 10) (tVar 3)) (tVar 2)) (tOp qFdiv (tVar 11) (tVar 3)))) (gTup K 2 (gCons (gName 12) (gCons (gName 13) (gNil)))))
    (tSeq (tAsg (tOp (rIxL K) (tVar 7) (tOp qAdd (tOp qMul (tOp qMod (tVar 10) (tVar 3)) (tVar 3)) (tOp qMod (tVar 11) (tVar 3)))) (gTup K 2 (gCons (gName 14) (gCons (gName 15) (gNil)))))
    (tDrop (tBM K "list" rAppend (tVar 8) (tCons (tTup (tCons (tOp qAdd (tOp qMul (tVar 12) (tVar 3)) (tVar 14)) (tCons (tOp qAdd (tOp qMul (tVar 13) (tVar 3)) (tVar 15)) (tNil)))) (tNil))))))))
    (tDrop (tBM K "list" rAppend (tVar 4) (tCons (tVar 8) (tNil)))))))
    (tRet (tVar 4)))
theorem pure_side {K : PySem.W.Frag} (vs : List V) (H : Hp) (Q : VK) (E : XK) (h : sp_side K vs H Q E) : t_side K (EndsQ Q) (sN 16 vs) H := by
  obtain ⟨A, B, la, lb, ta, tb, w, r, rfl, hA, hB, hlen, h10, w1, r1, w6, r6, wr6, oka, okb, k⟩ := h
  show t_side K _ [some (.ref A), some (.ref B), some (.int w), some (.int r), none, none, none, none, none, none, none, none, none, none, none, none] H
  have wr1 : 1 ≤ w * r := by
    have := Int.mul_le_mul w1 r1 (by decide) (by omega)
    simpa using this
  refine ⟨(by show 0 ≤ sizeLine; decide), fun F hF => ⟨_, rfl, _, rfl, _, _, rfl, rfl, .inl ⟨by omega, by omega⟩, _, _, rfl, ?_⟩⟩
  have sF := same_new (o := .lst []) hF
  have hab : (la.map V.ref).length = (lb.map V.ref).length := by rw [List.length_map, List.length_map, pr_len hA.tab, pr_len hB.tab, hlen]
  refine ⟨_, rfl, _, rfl, A, B, _, _, rfl, .inl ⟨SqL.of (hA.same sF).lst, SqL.of (hB.same sF).lst, RZ.for_zipL (K := K) hab
    (fun i σ H1 => ∃ (c6 c7 c8 c9 c10 c11 c12 c13 c14 c15 : Option V) (ls : List Addr), σ = [some (.ref A), some (.ref B), some (.int w), some (.int r), some (.ref F), some (.int (w * r)), c6, c7, c8, c9, c10, c11, c12, c13, c14, c15] ∧ Same H H1 ∧ Tabs K H H1 F ls ((List.zipWith (sideT w r) ta tb).take i)) ?_ ?_ ?_ ?_⟩⟩
  · exact ⟨none, none, none, none, none, none, none, none, none, none, [], rfl, sF, ⟨upd_same, .nil, by simp, hF, fun x hx => (List.not_mem_nil hx).elim⟩⟩
  · rintro i σ H1 ⟨c6, c7, c8, c9, c10, c11, c12, c13, c14, c15, ls, rfl, s1, _⟩
    exact ⟨SqL.of (s1 _ _ hA.lst), SqL.of (s1 _ _ hB.lst)⟩
  · rintro i x y T σ H1 hx hy ⟨c6, c7, c8, c9, c10, c11, c12, c13, c14, c15, ls, rfl, s1, ht⟩ hT
    rw [List.getElem?_map] at hx hy
    obtain ⟨a, ha, rfl⟩ := Option.map_eq_some_iff.mp hx
    obtain ⟨b, hb, rfl⟩ := Option.map_eq_some_iff.mp hy
    obtain ⟨t1, ht1, ta1⟩ := pr_get (hA.same s1).tab ha
    obtain ⟨t2, ht2, tb1⟩ := pr_get (hB.same s1).tab hb
    have ok1 := oka t1 (List.mem_of_getElem? ht1)
    have ok2 := okb t2 (List.mem_of_getElem? ht2)
    have sT := same_new (o := .tup [.ref a, .ref b]) hT
    have s2 := s1.trans sT
    have tA := ta1.keep (fun o e => sT _ _ e) (Same.tp sT)
    have tB := tb1.keep (fun o e => sT _ _ e) (Same.tp sT)
    have tF := ht.same sT
    have hTT : upd H1 T (.tup [.ref a, .ref b]) T = some (.tup [.ref a, .ref b]) := upd_same
    generalize upd H1 T (.tup [.ref a, .ref b]) = H2 at s2 tA tB tF hTT
    refine ⟨T, _, rfl, SqT.of hTT, rfl, _, _, rfl, _, _, rfl, rfl, ?_⟩
    refine ⟨(by show 0 ≤ sizeLine; decide), fun P hP => ?_⟩
    have hP0 : H P = none := s2.free hP
    have sP := same_new (o := .lst []) hP
    have hmP : P ∉ F :: ls := tF.notIn hP
    have hSS := ss_le wr1 wr6
    refine ⟨_, rfl, _, rfl, _, _, rfl, rfl, .inl ⟨by omega, by omega⟩, w * r * (w * r), rfl, by omega, by omega,
      for_range (lo := 0) (n := (w * r * (w * r)).toNat) (fun j σ H3 => ∃ (c9 c10 c11 c12 c13 c14 c15 : Option V), σ = [some (.ref A), some (.ref B), some (.int w), some (.int r), some (.ref F), some (.int (w * r)), some (.ref a), some (.ref b), some (.ref P), c9, c10, c11, c12, c13, c14, c15] ∧ Same H2 H3 ∧ TabAt K H3 P (((List.range j).map fun (j : Nat) => (j : Int)).map (sideP t1 t2 w r))) ?_ ?_ ?_⟩
    · exact ⟨_, _, _, _, _, _, _, rfl, sP, ⟨[], upd_same, .nil⟩⟩
    · rintro j σ H3 hj ⟨c9, c10, c11, c12, c13, c14, c15, rfl, s3, tP⟩
      have tA3 := tA.keep (fun o e => s3 _ _ e) (Same.tp s3)
      have tB3 := tB.keep (fun o e => s3 _ _ e) (Same.tp s3)
      have hz : (0 : Int) + (j : Nat) = j := Int.zero_add _
      rw [hz]
      have j0 : (0 : Int) ≤ (j : Int) := Int.natCast_nonneg _
      have jS : (j : Int) < w * r * (w * r) := by omega
      have q1 : 0 ≤ (j : Int) / (w * r) ∧ (j : Int) / (w * r) < w * r := ⟨Int.ediv_nonneg j0 (by omega), Int.ediv_lt_of_lt_mul (by omega) jS⟩
      have q2 := mod_lt (a := (j : Int)) (b := w * r) (by omega)
      have q3 : 0 ≤ (j : Int) / (w * r) / r ∧ (j : Int) / (w * r) / r < w := ⟨Int.ediv_nonneg q1.1 (by omega), Int.ediv_lt_of_lt_mul (by omega) q1.2⟩
      have q4 : 0 ≤ (j : Int) % (w * r) / r ∧ (j : Int) % (w * r) / r < w := ⟨Int.ediv_nonneg q2.1 (by omega), Int.ediv_lt_of_lt_mul (by omega) q2.2⟩
      have q5 := mod_lt (a := (j : Int) / (w * r)) (b := r) (by omega)
      have q6 := mod_lt (a := (j : Int) % (w * r)) (b := r) (by omega)
      have i1 := ix_lt q3.1 q3.2 q4.1 q4.2
      have i2 := ix_lt q5.1 q5.2 q6.1 q6.2
      obtain ⟨vs1, v1, p1, f1, f2, f3, f4⟩ := tab_ix tA3 i1.1 (by rw [ok1.len]; exact i1.2)
      obtain ⟨vs2, v2, p2, g1, g2, g3, g4⟩ := tab_ix tB3 i2.1 (by rw [ok2.len]; exact i2.2)
      obtain ⟨x1, rfl, y1⟩ := dP_at f4
      obtain ⟨x2, rfl, y2⟩ := dP_at g4
      have in1 := ok1.inn p1 (List.mem_of_getElem? f3)
      have in2 := ok2.inn p2 (List.mem_of_getElem? g3)
      unfold InP at in1 in2
      refine ⟨_, rfl, _, rfl, _, _, rfl, rfl, ⟨by omega, by omega⟩, _, rfl, _, rfl, _, _, rfl, rfl, (by show 0 < w * r; omega), _, _, rfl, ?_⟩
      refine ⟨_, rfl, _, rfl, _, rfl, _, _, rfl, rfl, ⟨by omega, by omega⟩, _, rfl, _, _, rfl, rfl, .inr ⟨by omega, by omega⟩, _, rfl, _, rfl, _, _, rfl, rfl, ⟨by omega, by omega⟩, _, _, rfl, rfl, a, vs1, _, _, rfl, rfl, SqL.of f1, f2, x1, _, rfl, y1, rfl, _, _, rfl, _, _, rfl, rfl, ?_⟩
      refine ⟨_, rfl, _, rfl, _, rfl, _, _, rfl, rfl, (by show 0 < r; omega), _, rfl, _, _, rfl, rfl, .inr ⟨by omega, by omega⟩, _, rfl, _, rfl, _, _, rfl, rfl, (by show 0 < r; omega), _, _, rfl, rfl, b, vs2, _, _, rfl, rfl, SqL.of g1, g2, x2, _, rfl, y2, rfl, _, _, rfl, _, _, rfl, rfl, ?_⟩
      obtain ⟨vp, e1, e2⟩ := tP.ex
      refine ⟨_, rfl, .inl ⟨rfl, _, SqL.of e1⟩, _, rfl, _, rfl, _, _, rfl, rfl, .inr ⟨by omega, by omega⟩, _, rfl, _, _, rfl, rfl, _, rfl, _, rfl, _, _, rfl, rfl, .inr ⟨by omega, by omega⟩, _, rfl, _, _, rfl, rfl, (by show 2 ≤ sizeLine; decide), fun z hzn => ?_⟩
      have hPz : P ≠ z := ne_of_none e1 hzn
      have sz := same_new (o := .tup [.int (p1.1 * r + p2.1), .int (p1.2 * r + p2.2)]) hzn
      have hzz : upd H3 z (.tup [.int (p1.1 * r + p2.1), .int (p1.2 * r + p2.2)]) z = some _ := upd_same
      generalize upd H3 z (.tup [.int (p1.1 * r + p2.1), .int (p1.2 * r + p2.2)]) = H4 at sz hzz
      have e1' := sz _ _ e1
      have ln : vp.length = j := by rw [DpAll.len e2, List.length_map, List.length_map, List.length_map, List.length_range]
      refine ⟨P, vp, _, rfl, rfl, e1', ?_, ?_⟩
      · rw [ln]
        exact Nat.lt_of_le_of_lt (show j ≤ 36 by omega) (by decide)
      · refine ⟨_, _, _, _, _, _, _, rfl, fun c o e => ?_, ⟨vp ++ [.ref z], upd_same, ?_⟩⟩
        · rw [upd_ne (ne_of_none e hP)]
          exact sz _ _ (s3 _ _ e)
        · rw [iota_succ, List.map_append, List.map_append]
          have tp2 : Tp K H4 (upd H4 P (.lst (vp ++ [.ref z]))) := tp_upd (not_lst e1')
          refine DpAll.append (DpAll.tp ((Same.tp sz).trans tp2) _ _ (noLAll_dP _) e2) (.cons ?_ .nil)
          have ez : sideP t1 t2 w r (j : Int) = (p1.1 * r + p2.1, p1.2 * r + p2.2) := by
            unfold sideP
            simp only [List.getD, f3, g3, Option.getD_some]
          rw [ez]
          refine dP_new ?_
          rw [upd_ne (Ne.symm hPz)]
          exact hzz
    · rintro σ H3 ⟨c9, c10, c11, c12, c13, c14, c15, rfl, s3, tP⟩
      have tF3 := tF.same s3
      refine ⟨_, rfl, .inl ⟨rfl, _, SqL.of tF3.lst⟩, _, rfl, F, _, _, rfl, rfl, tF3.lst, ?_, ?_⟩
      · rw [List.length_map, ht.len, List.length_take]
        exact Nat.lt_of_le_of_lt (Nat.le_trans (Nat.min_le_right _ _) (show (List.zipWith (sideT w r) ta tb).length ≤ 10 by rw [List.length_zipWith]; omega)) (by decide)
      · refine ⟨_, _, _, _, _, _, _, _, _, _, ls ++ [P], rfl, fun c o e => ?_, ?_⟩
        · rw [upd_ne (ne_of_none e hF)]
          exact s3 _ _ (s2 _ _ e)
        · have ez : (List.zipWith (sideT w r) ta tb)[i]? = some (sideT w r t1 t2) := by
            rw [List.getElem?_zipWith, ht1, ht2]
          rw [List.take_add_one, ez]
          exact tF3.push tP hmP hP0
  · rintro σ H1 ⟨c6, c7, c8, c9, c10, c11, c12, c13, c14, c15, ls, rfl, s1, ht⟩
    have : (List.zipWith (sideT w r) ta tb).take (la.map V.ref).length = List.zipWith (sideT w r) ta tb := List.take_of_length_le (by rw [List.length_zipWith, List.length_map, pr_len hA.tab]; omega)
    rw [this] at ht
    exact ⟨_, rfl, k F ls H1 s1 ht⟩
end Wf
/-! Tables with other names, good tables, books. -/
namespace Wf
open PySem PySem.Spec L2
theorem for_enumL {K : PySem.W.Frag} {a : Addr} {xs : List V} {g : TG} {tb : TS} {D : Ends} {σ : St} {H : Hp} (Pv : Nat → St → Hp → Prop) (h0 : Pv 0 σ H) (hq : ∀ i σ H, Pv i σ H → SqL K H a xs)
    (hs : ∀ (i : Nat) (x : V) (T : Addr) (σ : St) (H : Hp), xs[i]? = some x → Pv i σ H → H T = none → g (.ref T) σ (upd H T (.tup [.int (i : Nat), x])) fun σ2 H2 => tb { D with nx := Pv (i + 1), ct := Pv (i + 1), bk := D.nx } σ2 H2) (hd : ∀ σ H, Pv xs.length σ H → D.nx σ H) :
    ∃ W : Nat → Nat → St → Hp → Prop, (∃ m, W 0 m σ H) ∧ ∀ i m σ H, W i m σ H →
      ((Ite K a).stop i H ∧ D.nx σ H) ∨ ((Ite K a).go i H ∧ ∃ N : St → Hp → Prop, (∀ σ' H', N σ' H' → ∃ m', m' < m ∧ W (i + 1) m' σ' H') ∧ ∀ v H', (Ite K a).yld i H v H' → g v σ H' fun σ2 H2 => tb { D with nx := N, ct := N, bk := D.nx } σ2 H2) := by
  refine ⟨fun i m σ H => m = xs.length - i ∧ i ≤ xs.length ∧ Pv i σ H, ⟨xs.length, rfl, Nat.zero_le _, h0⟩, ?_⟩
  rintro i m σ H ⟨rfl, hi, p⟩
  have q := hq i σ H p
  by_cases hlt : i < xs.length
  · have hx : xs[i]? = some xs[i] := List.getElem?_eq_getElem hlt
    refine .inr ⟨⟨xs, _, q, hx⟩, Pv (i + 1), fun σ' H' p' => ⟨xs.length - (i + 1), by omega, rfl, hlt, p'⟩, fun v H' y => ?_⟩
    obtain ⟨T, x, rfl, hT, rfl, hall⟩ := y
    exact hs i x T σ H (hall xs q) p hT
  · have e : i = xs.length := by omega
    subst e
    exact .inl ⟨⟨xs, q, Nat.le_refl _⟩, hd σ H p⟩
theorem DpAll.set {K : PySem.W.Frag} {H : Hp} {v : V} {d : PyData} (h : Dp K H v d) : ∀ {vs : List V} {ds : List PyData} (i : Nat), DpAll K H vs ds → DpAll K H (vs.set i v) (ds.set i d)
  | _, _, _, .nil => .nil
  | _, _, 0, .cons _ t => .cons h t
  | _, _, i + 1, .cons k t => .cons k (DpAll.set h i t)
/-! ### _law_names_put -/
def nmStep (ns : List Int) (s : Int) (t acc : Tab) (n : Nat) : Tab :=
  acc.set (ns.getD ((n : Int) / s).toNat 0 * s + ns.getD ((n : Int) % s).toNat 0).toNat (ns.getD (t.getD n (0, 0)).1.toNat 0, ns.getD (t.getD n (0, 0)).2.toNat 0)
def nmF (ns : List Int) (s : Int) (t : Tab) (k : Nat) : Tab := (List.range k).foldl (nmStep ns s t) (List.replicate (s * s).toNat (0, 0))
def nameT (s : Int) (ns : List Int) (t : Tab) : Tab := nmF ns s t t.length
theorem nmF_succ (ns : List Int) (s : Int) (t : Tab) (k : Nat) : nmF ns s t (k + 1) = nmStep ns s t (nmF ns s t k) k := by
  unfold nmF
  rw [List.range_succ, List.foldl_append]
  rfl
theorem nmF_len (ns : List Int) (s : Int) (t : Tab) : ∀ k, (nmF ns s t k).length = (s * s).toNat
  | 0 => by unfold nmF; rw [List.range_zero, List.foldl_nil, List.length_replicate]
  | k + 1 => by rw [nmF_succ, nmStep, List.length_set, nmF_len ns s t k]
def sp_names (K : PySem.W.Frag) : Sp := fun vs H Q _ => ∃ (A N : Addr) (la : List Addr) (ta : List Tab) (s : Int) (ns : List Int), vs = [.ref A, .int s, .ref N] ∧ TL K H A la ta ∧ H N = some (.lst (ns.map V.int)) ∧ ta.length ≤ 10 ∧ 1 ≤ s ∧ s ≤ 6 ∧ ns.Perm (iota s) ∧
  (∀ t ∈ ta, TabOk s t) ∧ ∀ (F : Addr) (ls : List Addr) (H' : Hp), Same H H' → Tabs K H H' F ls (ta.map (nameT s ns)) → Q (.ref F) H'
theorem iota_mem {n x : Int} : x ∈ iota n ↔ 0 ≤ x ∧ x < n := by
  unfold iota
  rw [List.mem_map]
  constructor
  · rintro ⟨i, hi, rfl⟩
    rw [List.mem_range] at hi
    constructor <;> omega
  · rintro ⟨h1, h2⟩
    exact ⟨x.toNat, by rw [List.mem_range]; omega, by omega⟩
theorem perm_at {s : Int} {ns : List Int} (hp : ns.Perm (iota s)) {i : Int} (h0 : 0 ≤ i) (h1 : i < s) : atI (ns.map V.int) i = some (.int (ns.getD i.toNat 0)) ∧ 0 ≤ ns.getD i.toNat 0 ∧ ns.getD i.toNat 0 < s := by
  have hl : ns.length = s.toNat := by rw [hp.length_eq]; unfold iota; rw [List.length_map, List.length_range]
  have hi : i.toNat < ns.length := by omega
  have e : ns[i.toNat]? = some ns[i.toNat] := List.getElem?_eq_getElem hi
  have m : ns[i.toNat] ∈ iota s := hp.mem_iff.mp (List.getElem_mem hi)
  have g : ns.getD i.toNat 0 = ns[i.toNat] := by simp [List.getD, e]
  rw [g]
  refine ⟨?_, (iota_mem.mp m).1, (iota_mem.mp m).2⟩
  unfold atI ixN
  rw [if_pos h0, if_pos (by rw [List.length_map]; omega)]
  show (ns.map V.int)[i.toNat]? = _
  rw [List.getElem?_map, e]
  rfl
theorem dp_rep {K : PySem.W.Frag} {H : Hp} {v : V} {d : PyData} (h : Dp K H v d) : ∀ n, DpAll K H (List.replicate n v) (List.replicate n d)
  | 0 => .nil
  | n + 1 => .cons h (dp_rep h n)
theorem rep_flat {α : Type} (v : α) : ∀ n, (List.replicate n [v]).flatten = List.replicate n v
  | 0 => rfl
  | n + 1 => by rw [List.replicate_succ, List.flatten_cons, rep_flat v n]; rfl
def t_names_put (K : PySem.W.Frag) : TS :=
  tSeq (tAsg (tLst (tNil)) (gName 3))
    (tSeq (tFor (iList K (tVar 0)) (gName 4) (tSeq (tAsg (tOp rRep (tLst (tCons (tTup (tCons (tC (.int 0)) (tCons (tC (.int 0)) (tNil)))) (tNil))) (tOp qMul (tVar 1) (tVar 1))) (gName 5))
    (tSeq (tFor (iEnum K (tCons (tVar 4) (tNil))) (gTup K 2 (gCons (gName 6) (gCons (gName 7) (gNil)))) (tSeq (tPar 8 9 (tCons (tOp (rIxL K) (tVar 2) (tOp qFdiv (tVar 6) (tVar 1))) (tCons (tOp (rIxL K) (tVar 2) (tOp qMod (tVar 6) (tVar 1))) (tNil))))
    (tAsg (tTup (tCons (tOp (rIxL K) (tVar 2) (tOp (rIxT K) (tVar 7) (tC (.int 0)))) (tCons (tOp (rIxL K) (tVar 2) (tOp (rIxT K) (tVar 7) (tC (.int 1)))) (tNil)))) (gSub (tVar 5) (tOp qAdd (tOp qMul (tVar 8) (tVar 1)) (tVar 9)) rSetL))))
    (tDrop (tBM K "list" rAppend (tVar 3) (tCons (tVar 5) (tNil)))))))
    (tRet (tVar 3)))
theorem pure_names {K : PySem.W.Frag} (vs : List V) (H : Hp) (Q : VK) (E : XK) (h : sp_names K vs H Q E) : t_names_put K (EndsQ Q) (sN 10 vs) H := by
  obtain ⟨A, N, la, ta, s, ns, rfl, hA, hN, h10, s1, s6, hp, oka, k⟩ := h
  show t_names_put K _ [some (.ref A), some (.int s), some (.ref N), none, none, none, none, none, none, none] H
  have hss := ss_le s1 s6
  refine ⟨(by show 0 ≤ sizeLine; decide), fun F hF => ?_⟩
  have sF := same_new (o := .lst []) hF
  refine ⟨_, rfl, A, rfl, ⟨_, SqL.of (sF _ _ hA.lst)⟩, for_list (K := K) (a := A) (xs := la.map V.ref)
    (fun i σ H1 => ∃ (c4 c5 c6 c7 c8 c9 : Option V) (ls : List Addr), σ = [some (.ref A), some (.int s), some (.ref N), some (.ref F), c4, c5, c6, c7, c8, c9] ∧ Same H H1 ∧ Tabs K H H1 F ls ((ta.map (nameT s ns)).take i)) ?_ ?_ ?_ ?_⟩
  · exact ⟨none, none, none, none, none, none, [], rfl, sF, ⟨upd_same, .nil, by simp, hF, fun x hx => (List.not_mem_nil hx).elim⟩⟩
  · rintro i σ H1 _ ⟨c4, c5, c6, c7, c8, c9, ls, rfl, s1, _⟩
    exact SqL.of (s1 _ _ hA.lst)
  · rintro i x σ H1 hx ⟨c4, c5, c6, c7, c8, c9, ls, rfl, sH1, ht⟩
    rw [List.getElem?_map] at hx
    obtain ⟨a, ha, rfl⟩ := Option.map_eq_some_iff.mp hx
    obtain ⟨t, ht1, ta1⟩ := pr_get (hA.same sH1).tab ha
    have ok1 := oka t (List.mem_of_getElem? ht1)
    refine ⟨(by show 2 ≤ sizeLine; decide), fun p hp0 => ⟨(by show 1 ≤ sizeLine; decide), fun q hq0 => ?_⟩⟩
    have sp := same_new (o := .tup [.int 0, .int 0]) hp0
    have sq := same_new (o := .lst [.ref p]) hq0
    refine ⟨_, rfl, _, rfl, _, _, rfl, rfl, .inl ⟨by omega, by omega⟩, q, s * s, [.ref p], rfl, rfl, upd_same, by omega, by omega, ?_, fun P hP => ?_⟩
    · show 1 * (s * s).toNat ≤ sizeLine
      exact Nat.le_trans (show 1 * (s * s).toNat ≤ 36 by omega) (by decide)
    rw [rep_flat]
    have sP := same_new (o := .lst (List.replicate (s * s).toNat (.ref p))) hP
    have s12 := sp.trans sq
    have s13 := s12.trans sP
    have hpp : upd (upd (upd H1 p (.tup [.int 0, .int 0])) q (.lst [.ref p])) P (.lst (List.replicate (s * s).toNat (.ref p))) p = some (.tup [.int 0, .int 0]) := (sq.trans sP) _ _ upd_same
    have hPP : upd (upd (upd H1 p (.tup [.int 0, .int 0])) q (.lst [.ref p])) P (.lst (List.replicate (s * s).toNat (.ref p))) P = some (.lst (List.replicate (s * s).toNat (.ref p))) := upd_same
    have hP1 : H1 P = none := s12.free hP
    have hP0 : H P = none := sH1.free hP1
    have hmP : P ∉ F :: ls := ht.notIn hP1
    generalize upd (upd (upd H1 p (.tup [.int 0, .int 0])) q (.lst [.ref p])) P (.lst (List.replicate (s * s).toNat (.ref p))) = H2 at s13 hpp hPP
    have s2 := sH1.trans s13
    have tA := ta1.keep (fun o e => s13 _ _ e) (Same.tp s13)
    have tF := ht.same s13
    obtain ⟨va, ea, fa⟩ := tA.ex
    have lva : va.length = t.length := by rw [DpAll.len fa, List.length_map]
    have sBut : ∀ {H3 : Hp}, (∀ c o, c ≠ P → H2 c = some o → H3 c = some o) → H2 P = some (.lst (List.replicate (s * s).toNat (.ref p))) → Tp K H2 H3 := fun {H3} hk h => But.tp (ds := [P]) (fun c o hc e => hk c o (fun z => hc (by rw [z]; exact List.mem_cons_self)) e) fun x hx => by
      rw [List.mem_singleton.mp hx]
      exact not_lst h
    have haP : a ≠ P := by
      obtain ⟨vv, e, _⟩ := ta1.ex
      exact ne_of_none e hP1
    have hNP : N ≠ P := ne_of_none hN hP0
    have hN2 := s2 _ _ hN
    refine ⟨_, rfl, a, va, rfl, SqL.of ea, for_enumL (K := K) (a := a) (xs := va)
      (fun j σ H3 => ∃ (c6 c7 c8 c9 : Option V), σ = [some (.ref A), some (.int s), some (.ref N), some (.ref F), some (.ref a), some (.ref P), c6, c7, c8, c9] ∧ (∀ c o, c ≠ P → H2 c = some o → H3 c = some o) ∧ TabAt K H3 P (nmF ns s t j)) ?_ ?_ ?_ ?_⟩
    · refine ⟨_, _, _, _, rfl, fun c o _ e => e, ⟨_, hPP, ?_⟩⟩
      unfold nmF
      rw [List.range_zero, List.foldl_nil, List.map_replicate]
      exact dp_rep (dP_new hpp) _
    · rintro j σ H3 ⟨c6, c7, c8, c9, rfl, k3, _⟩
      exact SqL.of (k3 _ _ haP ea)
    · rintro j x T σ H3 hx ⟨c6, c7, c8, c9, rfl, k3, tP⟩ hT
      have hjt : j < t.length := by rw [← lva]; exact (List.getElem?_eq_some_iff.mp hx).1
      have et : t[j]? = some t[j] := List.getElem?_eq_getElem hjt
      have jss : (j : Int) < s * s := by rw [← ok1.len]; omega
      have j0 : (0 : Int) ≤ (j : Int) := Int.natCast_nonneg _
      obtain ⟨dx, f1, f2⟩ := DpAll.getV fa hx
      rw [List.getElem?_map, et] at f1
      cases f1
      have in1 := ok1.inn t[j] (List.getElem_mem hjt)
      unfold InP at in1
      have tp3 := sBut k3 hPP
      have sT := same_new (o := .tup [.int (j : Nat), x]) hT
      have f3 := Dp.tp (tp3.trans (Same.tp sT)) _ _ (noL_dP _) f2
      obtain ⟨xa, rfl, hxa⟩ := dP_at f3
      have hTT : upd H3 T (.tup [.int (j : Nat), .ref xa]) T = some (.tup [.int (j : Nat), .ref xa]) := upd_same
      have tP4 := tP.keep (fun o e => sT _ _ e) (Same.tp sT)
      have k4 : ∀ c o, c ≠ P → H2 c = some o → upd H3 T (.tup [.int (j : Nat), .ref xa]) c = some o := fun c o hc e => sT _ _ (k3 c o hc e)
      have hTP : T ≠ P := by
        obtain ⟨vv, e, _⟩ := tP.ex
        exact (ne_of_none e hT).symm
      generalize upd H3 T (.tup [.int (j : Nat), .ref xa]) = H4 at hxa hTT tP4 k4
      have hN4 := k4 _ _ hNP hN2
      have q1 : 0 ≤ (j : Int) / s ∧ (j : Int) / s < s := ⟨Int.ediv_nonneg j0 (by omega), Int.ediv_lt_of_lt_mul (by omega) jss⟩
      have q2 := mod_lt (a := (j : Int)) (b := s) (by omega)
      obtain ⟨g1, g2, g3⟩ := perm_at hp q1.1 q1.2
      obtain ⟨g4, g5, g6⟩ := perm_at hp q2.1 q2.2
      obtain ⟨g7, g8, g9⟩ := perm_at hp in1.1 in1.2.1
      obtain ⟨g10, g11, g12⟩ := perm_at hp in1.2.2.1 in1.2.2.2
      refine ⟨T, _, rfl, SqT.of hTT, rfl, _, _, rfl, _, _, rfl, rfl, ?_⟩
      refine ⟨_, rfl, _, rfl, _, rfl, _, _, rfl, rfl, ⟨by omega, by omega⟩, N, _, _, _, rfl, rfl, SqL.of hN4, g1, _, rfl, _, rfl, _, rfl, _, _, rfl, rfl, (by show 0 < s; omega), N, _, _, _, rfl, rfl, SqL.of hN4, g4, _, _, rfl, ?_⟩
      refine ⟨_, rfl, _, rfl, xa, _, _, _, rfl, rfl, hxa, rfl, N, _, _, _, rfl, rfl, SqL.of hN4, g7, _, rfl, _, rfl, xa, _, _, _, rfl, rfl, hxa, rfl, N, _, _, _, rfl, rfl, SqL.of hN4, g10, (by show 2 ≤ sizeLine; decide), fun z hz => ?_⟩
      have sz := same_new (o := .tup [.int (ns.getD t[j].1.toNat 0), .int (ns.getD t[j].2.toNat 0)]) hz
      have hzz : upd H4 z (.tup [.int (ns.getD t[j].1.toNat 0), .int (ns.getD t[j].2.toNat 0)]) z = some _ := upd_same
      have tP5 := tP4.keep (fun o e => sz _ _ e) (Same.tp sz)
      have k5 : ∀ c o, c ≠ P → H2 c = some o → upd H4 z (.tup [.int (ns.getD t[j].1.toNat 0), .int (ns.getD t[j].2.toNat 0)]) c = some o := fun c o hc e => sz _ _ (k4 c o hc e)
      have hPz : P ≠ z := by
        obtain ⟨vv, e, _⟩ := tP4.ex
        exact ne_of_none e hz
      generalize upd H4 z (.tup [.int (ns.getD t[j].1.toNat 0), .int (ns.getD t[j].2.toNat 0)]) = H5 at hzz tP5 k5
      have ix := ix_lt g2 g3 g5 g6
      obtain ⟨vp, e1, e2⟩ := tP5.ex
      have lvp : vp.length = (s * s).toNat := by rw [DpAll.len e2, List.length_map, nmF_len]
      refine ⟨_, rfl, _, rfl, _, rfl, _, _, rfl, rfl, .inr ⟨by omega, by omega⟩, _, rfl, _, _, rfl, rfl, P, vp, _, (ns.getD ((j : Int) / s).toNat 0 * s + ns.getD ((j : Int) % s).toNat 0).toNat, rfl, rfl, e1, ?_, ?_⟩
      · unfold ixN
        rw [if_pos ix.1, if_pos (by rw [lvp]; omega)]
      · refine ⟨_, _, _, _, rfl, fun c o hc e => ?_, ⟨_, upd_same, ?_⟩⟩
        · rw [upd_ne hc]
          exact k5 c o hc e
        · have tp6 : Tp K H5 (upd H5 P (.lst (vp.set (ns.getD ((j : Int) / s).toNat 0 * s + ns.getD ((j : Int) % s).toNat 0).toNat (.ref z)))) := tp_upd (not_lst e1)
          rw [nmF_succ, nmStep, List.map_set]
          refine DpAll.set ?_ _ (DpAll.tp tp6 _ _ (noLAll_dP _) e2)
          have ez : t.getD j (0, 0) = t[j] := by simp [List.getD, et]
          rw [ez]
          refine dP_new ?_
          rw [upd_ne (Ne.symm hPz)]
          exact hzz
    · rintro σ H3 ⟨c6, c7, c8, c9, rfl, k3, tP⟩
      have tF3 : Tabs K H H3 F ls _ := tF.keep (fun x o hx e => k3 x o (fun z => hmP (z ▸ hx)) e) (sBut k3 hPP)
      rw [lva] at tP
      refine ⟨_, rfl, .inl ⟨rfl, _, SqL.of tF3.lst⟩, _, rfl, F, _, _, rfl, rfl, tF3.lst, ?_, ?_⟩
      · rw [List.length_map, ht.len, List.length_take, List.length_map]
        exact Nat.lt_of_le_of_lt (Nat.le_trans (Nat.min_le_right _ _) h10) (by decide)
      · refine ⟨_, _, _, _, _, _, ls ++ [P], rfl, fun c o e => ?_, ?_⟩
        · rw [upd_ne (ne_of_none e hF)]
          exact k3 _ _ (ne_of_none e hP0) (s2 _ _ e)
        · have ez : (ta.map (nameT s ns))[i]? = some (nameT s ns t) := by rw [List.getElem?_map, ht1]; rfl
          rw [List.take_add_one, ez]
          exact tF3.push tP hmP hP0
  · rintro σ H1 ⟨c4, c5, c6, c7, c8, c9, ls, rfl, s1, ht⟩
    have : (ta.map (nameT s ns)).take (la.map V.ref).length = ta.map (nameT s ns) := List.take_of_length_le (by rw [List.length_map, List.length_map, pr_len hA.tab]; omega)
    rw [this] at ht
    exact ⟨_, rfl, k F ls H1 s1 ht⟩
end Wf
/-! Good tables and books. -/
namespace Wf
open PySem PySem.Spec L2
theorem pairF_in {f s : Int} {st : Int × Int} {a b : Int} (hs : 1 ≤ s) (a0 : 0 ≤ a) (a1 : a < s) (b0 : 0 ≤ b) (b1 : b < s) : InP s (pairF f s st a b) := by
  unfold pairF InP
  have h1 := mod_lt (a := 2 * b - a) (b := s) (by omega)
  have h2 := mod_lt (a := b + st.2) (b := s) (by omega)
  have h3 := mod_lt (a := a + st.1) (b := s) (by omega)
  split
  · exact ⟨b0, b1, a0, a1⟩
  · split
    · exact ⟨a0, a1, b0, b1⟩
    · split
      · dsimp only
        split <;> split <;> exact ⟨by omega, by omega, by omega, by omega⟩
      · split
        · exact ⟨b0, b1, h1.1, h1.2⟩
        · exact ⟨h2.1, h2.2, h3.1, h3.2⟩
theorem iota_len (n : Int) : (iota n).length = n.toNat := by unfold iota; rw [List.length_map, List.length_range]
theorem div_in {s n : Int} (hs : 1 ≤ s) (h0 : 0 ≤ n) (h1 : n < s * s) : (0 ≤ n / s ∧ n / s < s) ∧ (0 ≤ n % s ∧ n % s < s) := ⟨⟨Int.ediv_nonneg h0 (by omega), Int.ediv_lt_of_lt_mul (by omega) h1⟩, mod_lt (by omega)⟩
theorem tabF_ok {f s : Int} {st : Int × Int} (hs : 1 ≤ s) : TabOk s (tabF f s st) := by
  have hss : 0 ≤ s * s := Int.mul_nonneg (by omega) (by omega)
  refine ⟨by unfold tabF; rw [List.length_map, iota_len]; omega, fun p hp => ?_⟩
  obtain ⟨n, hn, rfl⟩ := List.mem_map.mp hp
  obtain ⟨h0, h1⟩ := iota_mem.mp hn
  obtain ⟨⟨x1, x2⟩, x3, x4⟩ := div_in hs h0 h1
  exact pairF_in hs x1 x2 x3 x4
theorem PlainT.ok {m s : Int} {ts : List Tab} (hs : 1 ≤ s) (h : PlainT m s ts) : AllOk m s ts := by
  cases h with
  | all f sts f0 f4 hl hin =>
    refine ⟨by rw [List.length_map]; exact hl, fun t ht => ?_⟩
    obtain ⟨st, _, rfl⟩ := List.mem_map.mp ht
    exact tabF_ok hs
  | one sts i t hl hi ht =>
    refine ⟨by rw [List.length_set, List.length_map]; exact hl, fun x hx => ?_⟩
    rcases List.mem_or_eq_of_mem_set hx with hx | hx
    · obtain ⟨st, _, rfl⟩ := List.mem_map.mp hx
      exact tabF_ok hs
    · rw [hx]
      exact ht
theorem getD_in {s : Int} {t : Tab} (h : TabOk s t) {i : Int} (h0 : 0 ≤ i) (h1 : i < s * s) : InP s (t.getD i.toNat (0, 0)) := by
  have hl := h.len
  have hi : i.toNat < t.length := by omega
  have e : t.getD i.toNat (0, 0) = t[i.toNat] := by simp [List.getD, List.getElem?_eq_getElem hi]
  rw [e]
  exact h.inn _ (List.getElem_mem hi)
theorem sideT_ok {w r : Int} {t1 t2 : Tab} (w1 : 1 ≤ w) (r1 : 1 ≤ r) (h1 : TabOk w t1) (h2 : TabOk r t2) : TabOk (w * r) (sideT w r t1 t2) := by
  have wr1 : 1 ≤ w * r := by
    have := Int.mul_le_mul w1 r1 (by decide) (by omega)
    simpa using this
  have hss : 0 ≤ w * r * (w * r) := Int.mul_nonneg (by omega) (by omega)
  refine ⟨by unfold sideT; rw [List.length_map, iota_len]; omega, fun p hp => ?_⟩
  obtain ⟨n, hn, rfl⟩ := List.mem_map.mp hp
  obtain ⟨n0, n1⟩ := iota_mem.mp hn
  obtain ⟨⟨x1, x2⟩, x3, x4⟩ := div_in wr1 n0 n1
  have q3 : 0 ≤ n / (w * r) / r ∧ n / (w * r) / r < w := ⟨Int.ediv_nonneg x1 (by omega), Int.ediv_lt_of_lt_mul (by omega) x2⟩
  have q4 : 0 ≤ n % (w * r) / r ∧ n % (w * r) / r < w := ⟨Int.ediv_nonneg x3 (by omega), Int.ediv_lt_of_lt_mul (by omega) x4⟩
  have q5 := mod_lt (a := n / (w * r)) (b := r) (by omega)
  have q6 := mod_lt (a := n % (w * r)) (b := r) (by omega)
  have i1 := ix_lt q3.1 q3.2 q4.1 q4.2
  have i2 := ix_lt q5.1 q5.2 q6.1 q6.2
  have g1 := getD_in h1 i1.1 i1.2
  have g2 := getD_in h2 i2.1 i2.2
  unfold sideP
  dsimp only
  generalize t1.getD _ (0, 0) = c at g1
  generalize t2.getD _ (0, 0) = g at g2
  unfold InP at g1 g2 ⊢
  have e : ∀ x y : Int, 0 ≤ x → x < w → 0 ≤ y → y < r → 0 ≤ x * r + y ∧ x * r + y < w * r := fun x y a1 a2 b1 b2 => by
    have e1 : 0 ≤ x * r := Int.mul_nonneg a1 (by omega)
    have e2 : (x + 1) * r ≤ w * r := Int.mul_le_mul_of_nonneg_right (by omega) (by omega)
    have e3 : (x + 1) * r = x * r + r := by rw [Int.add_mul, Int.one_mul]
    constructor <;> omega
  have a := e c.1 g.1 g1.1 g1.2.1 g2.1 g2.2.1
  have b := e c.2 g.2 g1.2.2.1 g1.2.2.2 g2.2.2.1 g2.2.2.2
  exact ⟨a.1, a.2, b.1, b.2⟩
theorem nmF_ok {s : Int} {ns : List Int} {t : Tab} (hs : 1 ≤ s) (hp : ns.Perm (iota s)) (ht : TabOk s t) : ∀ k, k ≤ t.length → ∀ p ∈ nmF ns s t k, InP s p
  | 0, _ => fun p hp => by
    unfold nmF at hp
    rw [List.range_zero, List.foldl_nil] at hp
    rw [(List.mem_replicate.mp hp).2]
    exact ⟨by decide, by omega, by decide, by omega⟩
  | k + 1, hk => fun p hq => by
    rw [nmF_succ, nmStep] at hq
    rcases List.mem_or_eq_of_mem_set hq with hq | hq
    · exact nmF_ok hs hp ht k (by omega) p hq
    · have hkl : (k : Int) < s * s := by rw [← ht.len]; omega
      have g := getD_in ht (Int.natCast_nonneg k) hkl
      rw [Int.toNat_natCast] at g
      have g1 := perm_at hp g.1 g.2.1
      have g2 := perm_at hp g.2.2.1 g.2.2.2
      rw [hq]
      exact ⟨g1.2.1, g1.2.2, g2.2.1, g2.2.2⟩
theorem nameT_ok {s : Int} {ns : List Int} {t : Tab} (hs : 1 ≤ s) (hp : ns.Perm (iota s)) (ht : TabOk s t) : TabOk s (nameT s ns t) := by
  have hss : 0 ≤ s * s := Int.mul_nonneg (by omega) (by omega)
  exact ⟨by unfold nameT; rw [nmF_len]; omega, nmF_ok hs hp ht _ (Nat.le_refl _)⟩
/-- tables that are good by making -/
inductive GoodT (m s : Int) : List Tab → Prop
  | plain {ts : List Tab} : PlainT m s ts → GoodT m s ts
  | side {w r : Int} {ta tb : List Tab} : 1 ≤ w → 1 ≤ r → w * r = s → PlainT m w ta → PlainT m r tb → GoodT m s (List.zipWith (sideT w r) ta tb)
  | name {ts : List Tab} {ns : List Int} : GoodT m s ts → ns.Perm (iota s) → GoodT m s (ts.map (nameT s ns))
theorem GoodT.ok {m s : Int} {ts : List Tab} (hs : 1 ≤ s) (h : GoodT m s ts) : AllOk m s ts := by
  induction h with
  | plain h => exact h.ok hs
  | side w1 r1 e ha hb =>
    have oa := ha.ok w1
    have ob := hb.ok r1
    have la := oa.len
    have lb := ob.len
    refine ⟨by rw [List.length_zipWith]; omega, fun t ht => ?_⟩
    obtain ⟨i, hi⟩ := List.mem_iff_getElem?.mp ht
    rw [List.getElem?_zipWith] at hi
    revert hi
    split
    · rename_i x y hx hy
      intro hi
      cases hi
      rw [← e]
      exact sideT_ok w1 r1 (oa.ok _ (List.mem_of_getElem? hx)) (ob.ok _ (List.mem_of_getElem? hy))
    · intro hi
      cases hi
  | name h hp ih =>
    refine ⟨by rw [List.length_map]; exact ih.len, fun t ht => ?_⟩
    obtain ⟨u, hu, rfl⟩ := List.mem_map.mp ht
    exact nameT_ok hs hp (ih.ok u hu)
def sp_good (K : PySem.W.Frag) : Sp := fun vs H Q _ => ∃ (d l : Addr) (m s : Int), vs = [.ref d, .int m, .int s] ∧ 1 ≤ m ∧ m ≤ 5 ∧ 1 ≤ s ∧ s ≤ 6 ∧ Deal H d l ∧ GiveT K d l H Q (GoodT m s)
def t_good_a (K : PySem.W.Frag) (sp_draw : Sp) : TS := (tAsg (tIf (tTest (tOp rEq (tCall sp_draw [] E0 (tCons (tVar 0) (tCons (tC (.int 2)) (tNil)))) (tC (.int 0)))) (tOp (rIxL K) (tLst (tCons (tC (.int 1)) (tCons (tC (.int 1)) (tCons (tC (.int 1)) (tCons (tC (.int 1)) (tCons (tC (.int 2)) (tCons (tC (.int 1)) (tCons (tOp (rIxL K) (tLst (tCons (tC (.int 2)) (tCons (tC (.int 3)) (tNil)))) (tCall sp_draw [] E0 (tCons (tVar 0) (tCons (tC (.int 2)) (tNil))))) (tNil))))))))) (tVar 2)) (tC (.int 1))) (gName 3))
def t_good_c (K : PySem.W.Frag) (sp_draw : Sp) (sp_mixed : Sp) (sp_names_put : Sp) : TS := (tSeq (tIfS (tTest (tOp rEq (tCall sp_draw [] E0 (tCons (tVar 0) (tCons (tC (.int 2)) (tNil)))) (tC (.int 0)))) (tAsg (tCall sp_names_put [] E0 (tCons (tVar 4) (tCons (tVar 2) (tCons (tCall sp_mixed [] E0 (tCons (tVar 0) (tCons (tVar 2) (tNil)))) (tNil))))) (gName 4)) (tNext))
    (tRet (tVar 4)))
def t_good_b (K : PySem.W.Frag) (sp_draw : Sp) (sp_plain : Sp) (sp_side : Sp) (sp_mixed : Sp) (sp_names_put : Sp) : TS := tSeq (tAsg (tCall sp_plain [] E0 (tCons (tVar 0) (tCons (tVar 1) (tCons (tOp qFdiv (tVar 2) (tVar 3)) (tNil))))) (gName 4))
    (tSeq (tIfS (tTest (tOp qGt (tVar 3) (tC (.int 1)))) (tAsg (tCall sp_side [] E0 (tCons (tCall sp_plain [] E0 (tCons (tVar 0) (tCons (tVar 1) (tCons (tVar 3) (tNil))))) (tCons (tVar 4) (tCons (tVar 3) (tCons (tOp qFdiv (tVar 2) (tVar 3)) (tNil)))))) (gName 4)) (tNext))
    (t_good_c K sp_draw sp_mixed sp_names_put))
def t_good (K : PySem.W.Frag) (sp_draw : Sp) (sp_plain : Sp) (sp_side : Sp) (sp_mixed : Sp) (sp_names_put : Sp) : TS := tSeq (t_good_a K sp_draw) (t_good_b K sp_draw sp_plain sp_side sp_mixed sp_names_put)
theorem GiveT.mono {K : PySem.W.Frag} {d l : Addr} {H H1 : Hp} {Q : VK} {R : List Tab → Prop} (k : GiveT K d l H Q R) (b : But [d, l] H H1) (hD : Deal H d l) (F : Addr) (ls : List Addr) (ts : List Tab) (H' : Hp) (b1 : But [d, l] H1 H') (d1 : Deal H' d l) (t : Tabs K H1 H' F ls ts) (r : R ts) (nd : ∀ x ∈ F :: ls, x ≠ d ∧ x ≠ l) : Q (.ref F) H' :=
  k F ls ts H' (b.trans b1) d1 ⟨t.lst, t.tab, t.nd, b.none_of (nd F List.mem_cons_self) t.newF, fun x hx => b.none_of (nd x (List.mem_cons_of_mem _ hx)) (t.newL x hx)⟩ r
theorem Tabs.apart {K : PySem.W.Frag} {H1 H' : Hp} {F d l : Addr} {ls : List Addr} {ts : List Tab} (t : Tabs K H1 H' F ls ts) (hD : Deal H1 d l) : ∀ x ∈ F :: ls, x ≠ d ∧ x ≠ l := fun x hx => hD.ne (by
  rcases List.mem_cons.mp hx with rfl | hx
  · exact t.newF
  · exact t.newL x hx)
theorem Tabs.back {K : PySem.W.Frag} {H H1 H' : Hp} {F d l : Addr} {ls : List Addr} {ts : List Tab} (t : Tabs K H1 H' F ls ts) (b : But [d, l] H H1) (hD : Deal H1 d l) : Tabs K H H' F ls ts :=
  ⟨t.lst, t.tab, t.nd, b.none_of (t.apart hD F List.mem_cons_self) t.newF, fun x hx => b.none_of (t.apart hD x (List.mem_cons_of_mem _ hx)) (t.newL x hx)⟩
theorem Same.but {ds : List Addr} {H H' : Hp} (s : Same H H') : But ds H H' := fun a o _ e => s a o e
theorem Same.deal {H H' : Hp} {d l : Addr} (s : Same H H') (h : Deal H d l) : Deal H' d l := by
  obtain ⟨z1, z2, z3, z4, z5, z6, z7⟩ := h.ex
  exact ⟨z1, z2, z3, z4, s _ _ z5, s _ _ z6, z7⟩
theorem pure_good {K : PySem.W.Frag} (vs : List V) (H : Hp) (Q : VK) (E : XK) (h : sp_good K vs H Q E) : t_good K sp_draw (sp_plain K) (sp_side K) sp_mixed (sp_names K) (EndsQ Q) (sN 5 vs) H := by
  obtain ⟨d, l, m, s, rfl, m1, m5, s1, s6, hD, k⟩ := h
  show t_good K sp_draw (sp_plain K) (sp_side K) sp_mixed (sp_names K) _ [some (.ref d), some (.int m), some (.int s), none, none] H
  have hn := nT_le m1 m5
  have last : ∀ (z : V) (F : Addr) (ls : List Addr) (ts : List Tab) (H3 : Hp), But [d, l] H H3 → Deal H3 d l → Tabs K H H3 F ls ts → GoodT m s ts → t_good_c K sp_draw sp_mixed (sp_names K) (EndsQ Q) [some (.ref d), some (.int m), some (.int s), some z, some (.ref F)] H3 := by
    intro z F ls ts H3 b3 d3 t3 g3
    have ok3 := g3.ok s1
    have l3 := ok3.len
    refine ⟨_, rfl, d, l, 2, rfl, by decide, by decide, d3, fun c H4 c0 c1 b4 d4 => ⟨rfl, _, rfl, ?_⟩⟩
    have t4 := t3.but hD d3 b4
    by_cases hc : c = 0
    · subst hc
      simp only [decide_true, ↓reduceIte]
      refine ⟨_, rfl, _, rfl, _, rfl, _, rfl, d, l, s, rfl, by omega, by omega, d4, fun N ns H5 b5 d5 hNn hN hp => ?_⟩
      have t5 := t4.but hD d4 b5
      refine ⟨F, N, ls, ts, s, ns, rfl, t5.tl, hN, by omega, s1, s6, hp, ok3.ok, fun F2 ls2 H6 s6' t6 => ?_⟩
      have b6 := b3.trans (b4.trans b5)
      exact ⟨_, rfl, k F2 ls2 _ H6 (b6.trans (Same.but s6')) (Same.deal s6' d5) (t6.back b6 d5) (.name g3 hp)⟩
    · have : decide (V.int c = V.int 0) = false := decide_eq_false fun z => hc (V.int.inj z)
      rw [this]
      exact ⟨_, rfl, k F ls ts H4 (b3.trans b4) d4 t4 g3⟩
  have rest : ∀ (z r : Int) (H1 : Hp), 1 ≤ z → 1 ≤ r → z * r = s → s / z = r → z ≤ 6 → r ≤ 6 → But [d, l] H H1 → Deal H1 d l → t_good_b K sp_draw (sp_plain K) (sp_side K) sp_mixed (sp_names K) (EndsQ Q) [some (.ref d), some (.int m), some (.int s), some (.int z), none] H1 := by
    intro z r H1 z1 r1 zr sz z6 r6 b1 d1
    refine ⟨_, rfl, _, rfl, _, rfl, _, rfl, _, _, rfl, rfl, ⟨by omega, by omega⟩, d, l, m, r, by rw [← sz]; rfl, m1, m5, r1, r6, d1, fun F ls tb H2 b2 d2 t2 pb => ?_⟩
    have t2' := t2.back b1 d1
    have okb := pb.ok r1
    have lb := okb.len
    refine ⟨_, rfl, _, _, rfl, rfl, _, rfl, ?_⟩
    refine ifd (fun c => ?_) (fun c => ?_)
    · refine ⟨_, rfl, _, rfl, _, rfl, d, l, m, z, rfl, m1, m5, z1, z6, d2, fun F2 ls2 ta H3 b3 d3 t3 pa => ?_⟩
      have t3' := t2'.but hD d2 b3
      have oka := pa.ok z1
      have la := oka.len
      refine ⟨_, rfl, _, rfl, _, rfl, _, rfl, _, _, rfl, rfl, ⟨by omega, by omega⟩, F2, F, ls2, ls, ta, tb, z, r, by rw [← sz]; rfl, t3.tl, t3'.tl, by omega, by omega, z1, r1, z6, r6, by omega, oka.ok, okb.ok, fun F4 ls4 H4 s4 t4 => ?_⟩
      have b4 := b1.trans (b2.trans b3)
      exact last (.int z) F4 ls4 _ H4 (b4.trans (Same.but s4)) (Same.deal s4 d3) (t4.back b4 d3) (.side z1 r1 zr pa pb)
    · have hz : z = 1 := by omega
      have hr : r = s := by rw [← zr, hz, Int.one_mul]
      subst hr
      exact last (.int z) F ls tb H2 (b1.trans b2) d2 t2' (.plain pb)
  refine ⟨_, rfl, d, l, 2, rfl, by decide, by decide, hD, fun c H1 c0 c1 b1 d1 => ⟨rfl, _, rfl, ?_⟩⟩
  by_cases hc : c = 0
  · subst hc
    simp only [decide_true, ↓reduceIte]
    refine ⟨(by show 2 ≤ sizeLine; decide), fun L hL => ?_⟩
    have nL := d1.ne hL
    have hL0 : H L = none := b1.none_of nL hL
    refine ⟨_, rfl, d, l, 2, rfl, by decide, by decide, d1.upd nL, fun e H2 e0 e1 b2 d2 => ?_⟩
    have l2 := b2.at nL upd_same
    have b12 : But [d, l] H H2 := (b1.new hL0).trans b2
    have he : ∃ z, atI [V.int 2, .int 3] e = some (.int z) ∧ (z = 2 ∨ z = 3) := by
      have : e = 0 ∨ e = 1 := by omega
      rcases this with rfl | rfl
      · exact ⟨2, rfl, .inl rfl⟩
      · exact ⟨3, rfl, .inr rfl⟩
    obtain ⟨z, hz, hz2⟩ := he
    refine ⟨L, _, e, .int z, rfl, rfl, SqL.of l2, hz, (by show 7 ≤ sizeLine; decide), fun M hM => ?_⟩
    have nM := d2.ne hM
    have hM0 : H M = none := b12.none_of nM hM
    have hs : s = 1 ∨ s = 2 ∨ s = 3 ∨ s = 4 ∨ s = 5 ∨ s = 6 := by omega
    have b3 : But [d, l] H (upd H2 M (.lst [.int 1, .int 1, .int 1, .int 1, .int 2, .int 1, .int z])) := b12.new hM0
    have d3 : Deal (upd H2 M (.lst [.int 1, .int 1, .int 1, .int 1, .int 2, .int 1, .int z])) d l := d2.upd nM
    rcases hs with rfl | rfl | rfl | rfl | rfl | rfl
    · exact ⟨_, rfl, M, _, 1, .int 1, rfl, rfl, SqL.of upd_same, rfl, rest 1 1 _ (by decide) (by decide) rfl rfl (by decide) (by decide) b3 d3⟩
    · exact ⟨_, rfl, M, _, 2, .int 1, rfl, rfl, SqL.of upd_same, rfl, rest 1 2 _ (by decide) (by decide) rfl rfl (by decide) (by decide) b3 d3⟩
    · exact ⟨_, rfl, M, _, 3, .int 1, rfl, rfl, SqL.of upd_same, rfl, rest 1 3 _ (by decide) (by decide) rfl rfl (by decide) (by decide) b3 d3⟩
    · exact ⟨_, rfl, M, _, 4, .int 2, rfl, rfl, SqL.of upd_same, rfl, rest 2 2 _ (by decide) (by decide) rfl rfl (by decide) (by decide) b3 d3⟩
    · exact ⟨_, rfl, M, _, 5, .int 1, rfl, rfl, SqL.of upd_same, rfl, rest 1 5 _ (by decide) (by decide) rfl rfl (by decide) (by decide) b3 d3⟩
    · rcases hz2 with rfl | rfl
      · exact ⟨_, rfl, M, _, 6, .int 2, rfl, rfl, SqL.of upd_same, rfl, rest 2 3 _ (by decide) (by decide) rfl rfl (by decide) (by decide) b3 d3⟩
      · exact ⟨_, rfl, M, _, 6, .int 3, rfl, rfl, SqL.of upd_same, rfl, rest 3 2 _ (by decide) (by decide) rfl rfl (by decide) (by decide) b3 d3⟩
  · have : decide (V.int c = V.int 0) = false := decide_eq_false fun z => hc (V.int.inj z)
    rw [this]
    exact rest 1 s H1 (by decide) s1 (Int.one_mul s) (Int.ediv_one s) (by decide) s6 b1 d1
end Wf
/-! Books. -/
namespace Wf
open PySem PySem.Spec L2
/-- one place of a row that is paired changes -/
theorem pr_chg {α β : Type} {F G : α → β → Prop} {a : α} {b : β} : ∀ {as : List α} {bs : List β} {i : Nat}, Paired F as bs → as.Nodup → as[i]? = some a → G a b → (∀ x y, x ≠ a → F x y → G x y) → Paired G as (bs.set i b)
  | _, _, _, .nil, _, e, _, _ => by simp at e
  | _, _, 0, .cons h t, nd, e, k, f => by
    simp at e
    subst e
    exact .cons k (pr_mono t fun x y hx hy => f x y (fun z => (List.nodup_cons.mp nd).1 (z ▸ hx)) hy)
  | _, _, i + 1, .cons h t, nd, e, k, f => by
    have e' := (by simpa using e : _ = some a)
    exact .cons (f _ _ (fun z => (List.nodup_cons.mp nd).1 (z ▸ List.mem_of_getElem? e')) h) (pr_chg t (List.nodup_cons.mp nd).2 e' k f)
structure Book where
  ps : List Int
  s : Int
  ts : List Tab
def dT (t : Tab) : PyData := .tuple (t.map dP)
def dB (b : Book) : PyData := .tuple [dI b.ps, .int b.s, .tuple (b.ts.map dT)]
theorem noL_dT (t : Tab) : noL (dT t) = true := noLAll_dP t
theorem noLAll_dT : ∀ ts : List Tab, noLAll (ts.map dT) = true
  | [] => rfl
  | t :: ts => by simp [noLAll, noL_dT, noLAll_dT ts]
theorem noL_dI (ps : List Int) : noL (dI ps) = true := noLAll_ints ps
theorem noL_dB (b : Book) : noL (dB b) = true := by
  show (noL (dI b.ps) && (true && (noLAll (b.ts.map dT) && true))) = true
  rw [noL_dI, noLAll_dT]
  rfl
structure BookOk (m : Int) (b : Book) : Prop where
  pac : PacesOk m b.ps
  m1 : 1 ≤ m
  m5 : m ≤ 5
  s1 : 1 ≤ b.s
  s6 : b.s ≤ 6
  tab : AllOk m b.s b.ts
structure BookT (m s form : Int) (ts : List Tab) : Prop where
  ok : AllOk m s ts
  good : form = 1 → GoodT m s ts
  near : form = 2 → ∃ ts0, GoodT m s ts0 ∧ (ts = ts0 ∨ ∃ (i j : Nat) (p : Int × Int) (t : Tab), ts0[i]? = some t ∧ j < t.length ∧ InP s p ∧ ts = ts0.set i (t.set j p))
def sp_book (K : PySem.W.Frag) : Sp := fun vs H Q _ => ∃ (d l : Addr) (m s f : Int), vs = [.ref d, .int m, .int s, .int f] ∧ 1 ≤ m ∧ m ≤ 5 ∧ 1 ≤ s ∧ s ≤ 6 ∧ Deal H d l ∧
  ∀ (v : V) (ps : List Int) (ts : List Tab) (H' : Hp), But [d, l] H H' → Deal H' d l → Dp K H' v (dB ⟨ps, s, ts⟩) → PacesOk m ps → BookT m s f ts → Q v H'
end Wf
/-! The deal made. -/
namespace Wf
open PySem PySem.Spec L2
def sp_deal (K : PySem.W.Frag) : Sp := fun vs H Q _ => ∃ (a : Addr) (b : Int) (ns : List Int), vs = [.ref a, .int b] ∧ SqL K H a (ns.map V.int) ∧ 0 ≤ b ∧ b ≤ 63 ∧ ns.length ≤ 1000 ∧
  ∀ (d l : Addr) (H' : Hp), Same H H' → H d = none → H l = none → Deal H' d l → Q (.ref d) H'
theorem cut_ints (ns : List Int) (lo hi : Option Int) : ∃ ms : List Int, cutV (ns.map V.int) lo hi = ms.map V.int ∧ ms.length ≤ ns.length := by
  refine ⟨(ns.drop (HT.sIx (ns.map V.int).length 0 lo)).take (HT.sIx (ns.map V.int).length (ns.map V.int).length hi - HT.sIx (ns.map V.int).length 0 lo), ?_, ?_⟩
  · unfold cutV
    rw [List.map_take, List.map_drop]
  · rw [List.length_take, List.length_drop]
    omega
theorem putK_new {kvs : List (Key × V)} {k : Key} {v : V} (h : valV kvs k = none) : putK kvs k v = kvs ++ [(k, v)] := by
  unfold putK
  rw [valV_any, h]
  rfl
def four (s m n l : V) : List (Key × V) := [(Sum.inr "seed", s), (Sum.inr "many", m), (Sum.inr "now", n), (Sum.inr "left", l)]
theorem merge4 (s m n l : V) : mergeK [] (four s m n l) = four s m n l := by
  unfold four
  unfold mergeK
  simp only [List.foldl]
  rw [putK_new (kvs := []) valV_nil]
  simp only [List.nil_append]
  rw [putK_new (kvs := [(Sum.inr (Str.ofString "seed"), s)]) ((valV_neg (key_ne (by decide +kernel))).trans valV_nil)]
  simp only [List.cons_append, List.nil_append]
  rw [putK_new (kvs := [(Sum.inr (Str.ofString "seed"), s), (Sum.inr (Str.ofString "many"), m)]) ((valV_neg (key_ne (by decide +kernel))).trans ((valV_neg (key_ne (by decide +kernel))).trans valV_nil))]
  simp only [List.cons_append, List.nil_append]
  rw [putK_new (kvs := [(Sum.inr (Str.ofString "seed"), s), (Sum.inr (Str.ofString "many"), m), (Sum.inr (Str.ofString "now"), n)]) ((valV_neg (key_ne (by decide +kernel))).trans ((valV_neg (key_ne (by decide +kernel))).trans ((valV_neg (key_ne (by decide +kernel))).trans valV_nil)))]
  rfl
def t_deal (K : PySem.W.Frag) : TS :=
  tSeq (tAsg (tLc (iList K (tSl (rSlL K) (tVar 0) (tPart (tVar 1)) (tPart (tC (.int 63))))) (gName 4) (tYes) (tCB (qMax2) (tCons (tVar 4) (tCons (tOp qSub (tC (.int 0)) (tVar 4)) (tNil)))) [4]) (gName 2))
    (tSeq (tAsg (tOp qAdd (tC (.int 104729)) (tOp qMul (tC (.int 31)) (tVar 1))) (gName 3))
    (tSeq (tFor (iList K (tVar 2)) (gName 4) (tAsg (tOp qMod (tOp qAdd (tOp qAdd (tOp qMul (tVar 3) (tC (.int 69623))) (tOp qMod (tVar 4) (tC (.int 2147483629)))) (tC (.int 1))) (tC (.int 2147483647))) (gName 3)))
    (tRet (tDisp ((tC (.str "seed"), tOp qAdd (tVar 3) (tC (.int 1))) :: ((tC (.str "many"), tC (.int 0)) :: ((tC (.str "now"), tC (.int 0)) :: ((tC (.str "left"), Wf.tLstRev K (tLc (iList K (tVar 2)) (gName 4) (tTest (tOp qGe (tVar 4) (tOp qPow (tC (.int 10)) (tC (.int 18))))) (tVar 4) [4])) :: ([])))))))))
theorem pure_deal {K : PySem.W.Frag} (vs : List V) (H : Hp) (Q : VK) (E : XK) (h : sp_deal K vs H Q E) : t_deal K (EndsQ Q) (sN 5 vs) H := by
  obtain ⟨a, b, ns, rfl, hS, b0, b1, hns, k⟩ := h
  show t_deal K _ [some (.ref a), some (.int b), none, none, none] H
  refine ⟨_, rfl, _, rfl, _, rfl, 63, rfl, a, _, rfl, hS, fun p hp => ?_⟩
  obtain ⟨ms, e, hms⟩ := cut_ints ns (some b) (some 63)
  rw [e]
  have sp := same_new (o := .lst (ms.map V.int)) hp
  have hpp : upd H p (.lst (ms.map V.int)) p = some (.lst (ms.map V.int)) := upd_same
  generalize upd H p (.lst (ms.map V.int)) = H1 at sp hpp
  refine ⟨p, rfl, ⟨_, SqL.of hpp⟩, fun D hD => ?_⟩
  have hDp : p ≠ D := ne_of_none hpp hD
  have hD0 : H D = none := sp.free hD
  refine lc_list (K := K) (a := p) (xs := ms.map V.int) (fun i H2 => Same H1 H2 ∧ ∃ zs : List Int, H2 D = some (.lst (zs.map V.int)) ∧ zs.length = i ∧ ∀ z ∈ zs, 0 ≤ z) ?_ ?_ ?_ ?_
  · exact ⟨same_new hD, [], upd_same, rfl, fun z hz => (List.not_mem_nil hz).elim⟩
  · rintro i H2 _ ⟨s2, _⟩
    exact SqL.of (s2 _ _ hpp)
  · rintro i x H2 hx ⟨s2, zs, e1, hl, hz⟩
    rw [List.getElem?_map] at hx
    obtain ⟨y, hy, rfl⟩ := Option.map_eq_some_iff.mp hx
    refine ⟨rfl, ?_⟩
    simp only [tYes, ↓reduceIte]
    refine ⟨_, rfl, _, rfl, _, _, rfl, rfl, _, _, rfl, _, e1, ?_, ?_⟩
    · rw [List.length_map, hl]
      have := (List.getElem?_eq_some_iff.mp hy).1
      exact Nat.lt_of_le_of_lt (show i ≤ 1000 by omega) (by decide)
    · refine ⟨fun c o e => ?_, zs ++ [if 0 - y > y then 0 - y else y], ?_, by simp [hl], fun z hq => ?_⟩
      · rw [upd_ne (ne_of_none e hD)]
        exact s2 _ _ e
      · rw [upd_same, List.map_append]
        rfl
      · rcases List.mem_append.mp hq with hq | hq
        · exact hz z hq
        · rw [List.mem_singleton.mp hq]
          split <;> omega
  · rintro H2 ⟨s2, zs, e1, hl, hz⟩
    refine ⟨_, rfl, _, _, rfl, rfl, .inl ⟨by decide, by decide⟩, _, _, rfl, rfl, ?_⟩
    refine ⟨_, rfl, D, rfl, ⟨_, SqL.of e1⟩, for_list (K := K) (a := D) (xs := zs.map V.int) (fun i σ H3 => ∃ (w : Int) (c4 : Option V), σ = [some (.ref a), some (.int b), some (.ref D), some (.int w), c4] ∧ H3 = H2) ?_ ?_ ?_ ?_⟩
    · exact ⟨_, none, rfl, rfl⟩
    · rintro i σ H3 _ ⟨w, c4, rfl, rfl⟩
      exact SqL.of e1
    · rintro i x σ H3 hx ⟨w, c4, rfl, rfl⟩
      rw [List.getElem?_map] at hx
      obtain ⟨y, hy, rfl⟩ := Option.map_eq_some_iff.mp hx
      exact ⟨_, rfl, _, _, rfl, rfl, .inr ⟨by decide, by decide⟩, _, rfl, _, _, rfl, rfl, mp rfl, _, _, rfl, rfl, _, _, rfl, rfl, _, _, rfl, rfl, mp rfl, _, _, rfl, rfl⟩
    · rintro σ H3 ⟨w, c4, rfl, rfl⟩
      intro d hd
      refine ⟨_, rfl, _, _, rfl, rfl, ?_⟩
      have sd := same_new (o := .dK []) hd
      have hdd : upd H3 d (.dK []) d = some (.dK []) := upd_same
      generalize upd H3 d (.dK []) = H4 at sd hdd
      have e4 := sd _ _ e1
      refine ⟨_, rfl, D, rfl, ⟨_, SqL.of e4⟩, fun G hG => ?_⟩
      refine lc_list (K := K) (a := D) (xs := zs.map V.int) (fun i H5 => Same H4 H5 ∧ ∃ gs : List Int, H5 G = some (.lst (gs.map V.int)) ∧ gs.length ≤ i ∧ ∀ z ∈ gs, 0 ≤ z) ?_ ?_ ?_ ?_
      · exact ⟨same_new hG, [], upd_same, Nat.le_refl _, fun z hz => (List.not_mem_nil hz).elim⟩
      · rintro i H5 _ ⟨s5, _⟩
        exact SqL.of (s5 _ _ e4)
      · rintro i x H5 hx ⟨s5, gs, g1, gl, gz⟩
        rw [List.getElem?_map] at hx
        obtain ⟨y, hy, rfl⟩ := Option.map_eq_some_iff.mp hx
        refine ⟨rfl, _, rfl, _, _, rfl, rfl, ⟨by decide, by decide, by decide⟩, _, _, rfl, rfl, _, rfl, ?_⟩
        refine ifd (fun c => ?_) (fun c => ?_)
        · refine ⟨_, rfl, _, g1, ?_, ?_⟩
          · rw [List.length_map]
            have := (List.getElem?_eq_some_iff.mp hy).1
            rw [List.length_map] at hl
            exact Nat.lt_of_le_of_lt (show gs.length ≤ 1000 by omega) (by decide)
          · refine ⟨fun c o e => ?_, gs ++ [y], ?_, by simp; omega, fun z hq => ?_⟩
            · rw [upd_ne (ne_of_none e hG)]
              exact s5 _ _ e
            · rw [upd_same, List.map_append]
              rfl
            · rcases List.mem_append.mp hq with hq | hq
              · exact gz z hq
              · rw [List.mem_singleton.mp hq]
                exact hz y (List.mem_of_getElem? hy)
        · exact ⟨s5, gs, g1, by omega, gz⟩
      · rintro H5 ⟨s5, gs, g1, gl, gz⟩
        refine ⟨G, _, rfl, SqL.of g1, fun L hL => ?_⟩
        have sL := same_new (o := .lst (gs.map V.int).reverse) hL
        have hdL := s5 _ _ hdd
        have hLd : d ≠ L := ne_of_none hdL hL
        refine ⟨by rw [upd_ne hLd]; exact hdL, four (.int (w + 1)) (.int 0) (.int 0) (.ref L), rfl, (by show 4 ≤ 15; decide), ?_⟩
        rw [merge4]
        have hL0 : H L = none := (sp.trans (s2.trans (sd.trans s5))).free hL
        have hd0 : H d = none := (sp.trans s2).free hd
        refine k d L _ (fun c o e => ?_) hd0 hL0 ⟨w + 1, 0, 0, gs.reverse, upd_same, ?_, by decide, fun z hq => gz z (List.mem_reverse.mp hq)⟩
        · rw [upd_ne (ne_of_none e hd0), upd_ne (ne_of_none e hL0)]
          exact (sp.trans (s2.trans (sd.trans s5))) _ _ e
        · rw [upd_ne (Ne.symm hLd), upd_same, List.map_reverse]
end Wf
/-! Tuples as data: places, slices, sums; the program's pair_at and with_pair. -/
namespace Wf
open PySem PySem.Spec L2
section
variable {K : PySem.W.Frag} {H : Hp} {Q : VK} {t x y : V} {ds es : List PyData} {d : PyData}
theorem DpAll.drop : ∀ {vs : List V} {ds : List PyData} (n : Nat), DpAll K H vs ds → DpAll K H (vs.drop n) (ds.drop n)
  | _, _, 0, h => h
  | _, _, _ + 1, .nil => .nil
  | _, _, n + 1, .cons _ h => DpAll.drop n h
theorem DpAll.take : ∀ {vs : List V} {ds : List PyData} (n : Nat), DpAll K H vs ds → DpAll K H (vs.take n) (ds.take n)
  | _, _, 0, _ => .nil
  | _, _, _ + 1, .nil => .nil
  | _, _, n + 1, .cons h t => .cons h (DpAll.take n t)
def cutD (ds : List PyData) (lo hi : Option Int) : List PyData := (ds.drop (HT.sIx ds.length 0 lo)).take (HT.sIx ds.length ds.length hi - HT.sIx ds.length 0 lo)
end
/-! ### put_in -/
end Wf
/-! pair_at, with_pair; what the law says of them. -/
namespace Wf
open PySem PySem.Spec L2
def tnum (u v : Int) : Int := u * (u - 1) / 2 + v
/-- a place of a book -/
structure Pl (m s u v a b : Int) : Prop where
  u0 : 1 ≤ u
  u1 : u < m
  v0 : 0 ≤ v
  v1 : v < u
  a0 : 0 ≤ a
  a1 : a < s
  b0 : 0 ≤ b
  b1 : b < s
theorem tnum_lt {m u v : Int} (m5 : m ≤ 5) (u0 : 1 ≤ u) (u1 : u < m) (v0 : 0 ≤ v) (v1 : v < u) : 0 ≤ tnum u v ∧ tnum u v < nT m := by
  unfold tnum nT
  have hm : m = 2 ∨ m = 3 ∨ m = 4 ∨ m = 5 := by omega
  have hu : u = 1 ∨ u = 2 ∨ u = 3 ∨ u = 4 := by omega
  rcases hu with rfl | rfl | rfl | rfl <;> rcases hm with rfl | rfl | rfl | rfl <;> simp <;> omega
def Book.tab (B : Book) (u v : Int) : Tab := B.ts.getD (tnum u v).toNat []
def Book.at (B : Book) (u v a b : Int) : Int × Int := (B.tab u v).getD (a * B.s + b).toNat (0, 0)
def Book.put (B : Book) (u v a b : Int) (p : Int × Int) : Book := { B with ts := B.ts.set (tnum u v).toNat ((B.tab u v).set (a * B.s + b).toNat p) }
section
variable {K : PySem.W.Frag} {H : Hp} {t : V} {B : Book} {m u v a b : Int}
theorem Book.row (ok : BookOk m B) (pl : Pl m B.s u v a b) : B.ts[(tnum u v).toNat]? = some (B.tab u v) ∧ TabOk B.s (B.tab u v) := by
  have h := tnum_lt ok.m5 pl.u0 pl.u1 pl.v0 pl.v1
  have hl := ok.tab.len
  have hi : (tnum u v).toNat < B.ts.length := by omega
  have e : B.ts[(tnum u v).toNat]? = some B.ts[(tnum u v).toNat] := List.getElem?_eq_getElem hi
  have g : B.tab u v = B.ts[(tnum u v).toNat] := by unfold Book.tab; simp [List.getD, e]
  rw [g]
  exact ⟨e, ok.tab.ok _ (List.getElem_mem hi)⟩
theorem Book.cell (ok : BookOk m B) (pl : Pl m B.s u v a b) : (B.tab u v)[(a * B.s + b).toNat]? = some (B.at u v a b) ∧ InP B.s (B.at u v a b) := by
  have ht := (Book.row ok pl).2
  have hl := ht.len
  have hx := ix_lt pl.a0 pl.a1 pl.b0 pl.b1
  have hi : (a * B.s + b).toNat < (B.tab u v).length := by omega
  have e : (B.tab u v)[(a * B.s + b).toNat]? = some (B.tab u v)[(a * B.s + b).toNat] := List.getElem?_eq_getElem hi
  have g : B.at u v a b = (B.tab u v)[(a * B.s + b).toNat] := by unfold Book.at; simp [List.getD, e]
  rw [g]
  exact ⟨e, ht.inn _ (List.getElem_mem hi)⟩
theorem atI_map {α β : Type} {xs : List α} {f : α → β} {i : Int} {x : α} (h0 : 0 ≤ i) (h : xs[i.toNat]? = some x) : atI (xs.map f) i = some (f x) := by
  have hi := (List.getElem?_eq_some_iff.mp h).1
  unfold atI ixN
  rw [if_pos h0, if_pos (by rw [List.length_map]; omega)]
  show (xs.map f)[i.toNat]? = _
  rw [List.getElem?_map, h]
  rfl
end
end Wf
/-! law k03: what is due, right, the law. -/
namespace Wf
open PySem PySem.Spec L2
structure Rows (K : PySem.W.Frag) (H : Hp) (F : Addr) (ts : List Tab) : Prop where
  ex : ∃ vs, H F = some (.lst vs) ∧ DpAll K H vs (ts.map dT)
theorem Rows.same {K : PySem.W.Frag} {H H' : Hp} {F : Addr} {ts : List Tab} (h : Rows K H F ts) (s : Same H H') : Rows K H' F ts := by
  obtain ⟨vs, e1, e2⟩ := h.ex
  exact ⟨vs, s _ _ e1, DpAll.tp (Same.tp s) _ _ (noLAll_dT _) e2⟩
end Wf
/-! Data of small numbers and tuples: shown, short, of small weight and depth. -/
namespace Wf
open PySem PySem.Spec L2
end Wf
/-! for k, x in enumerate(t), t a tuple -/
namespace Wf
open PySem PySem.Spec
open AutoSeq1 (wpAny_loadPart')
theorem meets_enumT (l : Addr) (ws : Array Value) (n : Nat) (dd : Option Addr) (sl : Array (Option Value)) :
    Meets (Builtin.«enumerate.__new__» ⟨[.type "enumerate", .ref l], []⟩) (fun _ R s => s.heap.get? l = some { cls := .type "tuple", dict := dd, data := .seq ws n, slots := sl } ∧
      R (.ok (.ret (.ref (s.heap.push { cls := .type "tuple_iterator", data := .fields #[.ref l, .int 0 0] }).objs.size)))
        { s with heap := (s.heap.push { cls := .type "tuple_iterator", data := .fields #[.ref l, .int 0 0] }).push { cls := .type "enumerate", data := .fields #[.none, .bool false, .ref s.heap.objs.size, rawInt 0, .none, .none] } }) :=
  .of_wp fun prog w A R s hq => by
    obtain ⟨hp, gn, dr, tk, os⟩ := s; obtain ⟨hl, hq⟩ := hq
    have hsubE := sub_enumerate
    have hL : Heap.IsTuple (Shared.heap ⟨hp, gn, dr, tk, os⟩) l ws := ⟨_, hl, rfl, n, rfl⟩
    wp_walk using wpAny_loadPart' hl
    refine wpAny_stack_any fun stk => wpAny_pure ?_
    split
    · rename_i cc _ _ _ _ _
      cases (cc == Value.type "enumerate") <;> (wp_walk using wpAny_loadPart' hl, wpAny_pyIter_tuple hL; exact ⟨_, rfl, hq⟩)
    · wp_walk using wpAny_loadPart' hl, wpAny_pyIter_tuple hL
      exact ⟨_, rfl, hq⟩
section
variable {prog : Program} {w : World} {A : Around} {E : Value → Shared → Prop} {s : Shared}
theorem call_enumT {l : Addr} {ws : Array Value} {Q : Value → Shared → Prop} (hL : s.heap.IsTuple l ws)
    (k : ∀ h', IsEnum h' (s.heap.objs.size + 1) s.heap.objs.size 0 .none → h'.IsTupleIter s.heap.objs.size l 0 → h'.objs.size = s.heap.objs.size + 2 →
      (∀ b o, s.heap.get? b = some o → h'.get? b = some o) → Q (.ref (s.heap.objs.size + 1)) { s with heap := h' }) :
    wpAny (model prog w) A (call (.type "enumerate") [.ref l]) Q E s := by
  obtain ⟨⟨c, dd, dt, sl⟩, hl, hc, n, hd⟩ := hL
  replace hc : c = .type "tuple" := hc
  replace hd : dt = .seq ws n := hd
  subst hc hd
  refine callType_new F.called_enumerate (by decide) (F.typeCall_enumerate_1 _) (F.newCall_enumerate_1 _) (fun ob => F.args_object_init_2 ob _) F.entry_enumerate_new
    (meets_enumT l ws n dd sl) ⟨hl, ?_⟩
  have z1 : (s.heap.push { cls := .type "tuple_iterator", data := .fields #[.ref l, .int 0 0] }).objs.size = s.heap.objs.size + 1 := Heap.size_push ..
  show _ ∧ _
  rw [z1]
  have en : IsEnum ((s.heap.push { cls := .type "tuple_iterator", data := .fields #[.ref l, .int 0 0] }).push
      { cls := .type "enumerate", data := .fields #[.none, .bool false, .ref s.heap.objs.size, rawInt 0, .none, .none] }) (s.heap.objs.size + 1) s.heap.objs.size 0 .none := by
    have g := Heap.get?_push_size (s.heap.push { cls := .type "tuple_iterator", data := .fields #[.ref l, .int 0 0] })
      (o := { cls := .type "enumerate", data := .fields #[.none, .bool false, .ref s.heap.objs.size, rawInt 0, .none, .none] }) rfl
    rw [z1] at g
    exact g
  exact ⟨⟨_, en, rfl⟩, k _ en ⟨_, Heap.get?_push_of_some _ (Heap.get?_push_size _ rfl), rfl, rfl⟩ (by rw [Heap.size_push, z1]) fun b o e => Heap.get?_push_of_some _ (Heap.get?_push_of_some _ e)⟩
theorem enumT_end {e it l : Addr} {i : Nat} {ws : Array Value} {c : Int} {old : Value} {Q : Option Value → Shared → Prop} (hh : A.handled = none)
    (en : IsEnum s.heap e it c old) (hit : s.heap.IsTupleIter it l i) (hl : s.heap.IsTuple l ws) (hx : ws[i]? = none)
    (k : ∀ h', Heap.ExtBut it s.heap h' → Q none { s with heap := h' }) : wpAny (model prog w) A (pyNext (.ref e)) Q E s := by
  have ty : s.TypeIs (.ref e) "enumerate" := ⟨_, en, rfl⟩
  unfold pyNext
  refine wpAny_bind (wpAny_attempt (wpAny_callSpecial?_slot (name := Str.ofString "__next__") ty F.slot_enumerate_next (wpAny_call_entry F.slot_enumerate_next ty F.entry_enumerate_next ?_ (F.args_enumerate_next_1 _))))
  show wpAny _ _ (field (.ref e) 2 >>= _) _ _ _
  refine wpAny_bind (wpAny_field en rfl (x := .ref it) rfl (wpAny_bind (wpAny_nextOf_tuple_end hh hit hl hx fun h' x eb hx' => ?_)))
  obtain ⟨o, ho, hc⟩ := hx'
  exact wpAny_bind (wpAny_isInstance (T := "StopIteration") (b := true) ⟨o, ho, hc⟩ isSubtype_stop (wpAny_pure (k _ eb)))
end
end Wf
namespace Wf
open PySem PySem.Spec PyProof.Rows L2
/-- what is walked: the tuple at a, each thing in a new pair with its number -/
def ItT (K : PySem.W.Frag) (a : Addr) : It :=
  ⟨fun i H => ∃ (xs : List V) (x : V), SqT K H a xs ∧ xs[i]? = some x, fun i H v H' => ∃ T x, v = .ref T ∧ H T = none ∧ H' = upd H T (.tup [.int (i : Nat), x]) ∧ ∀ xs, SqT K H a xs → xs[i]? = some x, fun i H => ∃ xs : List V, SqT K H a xs ∧ xs.length ≤ i⟩
theorem apart_cls {h : Heap} {a b : Addr} {o u : Obj} {m n : String} (ha : h.get? a = some o) (hb : h.get? b = some u) (ho : o.cls = .type m) (hu : u.cls = .type n) (d : m ≠ n) : a ≠ b := fun e => by
  subst e
  rw [ha] at hb
  cases hb
  rw [ho] at hu
  exact d (by injection hu)
theorem turn_enumT {P : Program} {w : World} {K : PySem.W.Frag} {elts : List Expr} {kk : Nat} {tpos : Pos} (a e it : Addr) :
    Turn P w K (.Tuple elts kk tpos) (ItT K a) [e, it] e (fun i h => (∃ old, IsEnum h e it ((i : Nat) : Int) old) ∧ h.IsTupleIter it a i ∧ e ≠ it) where
  mem := by simp
  obj := fun i h st b hb => by
    obtain ⟨⟨old, en⟩, ⟨o, ho, hc, hd⟩, _⟩ := st
    have eb : b = e ∨ b = it := by simpa using hb
    rcases eb with rfl | rfl
    · exact ⟨_, en, fun v q => nomatch q⟩
    · exact ⟨o, ho, fun v q => by rw [hd] at q; cases q⟩
  keep := fun i h h' st kp => let ⟨⟨old, en⟩, hi, ne⟩ := st; ⟨⟨old, kp e (by simp) _ en⟩, hi.at fun o q => kp it (by simp) o q, ne⟩
  item := by
    intro X hP hw hK hc i pins s σ H E I hf st hg
    subst hP hw hK
    obtain ⟨⟨old, en⟩, hit, ne⟩ := st
    obtain ⟨xs, x, hq, hx⟩ := hg
    obtain ⟨its, rv, p, hz⟩ := I.tuple hq
    have pT : s.heap.IsTuple a its.toArray := p
    obtain ⟨u, hu, ru⟩ := rv.get hx
    have lx : i < xs.length := (List.getElem?_eq_some_iff.mp hx).1
    have lr := rv.length
    have hel : e < s.heap.objs.size := Heap.lt_size en
    have hil : it < s.heap.objs.size := by obtain ⟨_, q, _⟩ := hit; exact Heap.lt_size q
    have ae : e ≠ a := by
      obtain ⟨o, ho, hoc, _⟩ := pT
      exact apart_cls en ho rfl hoc (by decide)
    have ai : a ≠ it := by
      obtain ⟨o, ho, hoc, _⟩ := pT
      obtain ⟨o2, ho2, hoc2, _⟩ := hit
      exact apart_cls ho ho2 hoc hoc2 (by decide)
    refine wpAny_pyNext_enum_itemD (Draws.tuple (show X.A.in1.handled = none from I.ok.hd hc) it a ai its.toArray) en ⟨hit, pT⟩ (by simp; omega) ne (by simp [ne, ae]) fun y h' tk hy ho hst hT hsz hk => ?_
    have yu : y = u := by
      have : its[i]? = some y := by simpa using hy
      rw [hu] at this
      exact (Option.some.inj this).symm
    subst yu
    refine ⟨_, rfl, wpAny_letOwnedTupleGo_enum (s := { s with heap := h', toks := tk + 1 }) ho fun h2 en2 sb => ?_⟩
    have hT2 : h2.get? s.heap.objs.size = some { cls := .type "tuple", data := .seq #[.int i tk, y] } := (sb.2 _ (Nat.ne_of_gt hel)).trans hT
    have ok2 : ObjOk X.prog X.w (upd H s.heap.objs.size (.tup [.int (i : Nat), x])) h2 s.heap.objs.size (.tup [.int (i : Nat), x]) :=
      ⟨by show 2 ≤ sizeLine; decide, [.int i tk, y], .cons ⟨_, rfl⟩ (.cons ru .nil), ⟨_, hT2, rfl, _, rfl⟩⟩
    have I2 : Inv X pins σ (upd H s.heap.objs.size (.tup [.int (i : Nat), x])) { s with heap := h2, toks := tk + 1 } :=
      I.turnedNew (ch := [e, it]) (fun b ob hb q => (sb.2 b (fun z => hb (by simp [z]))).trans (hk b ob (fun z => hb (by simp [z])) (fun z => hb (by simp [z])) q)) hf (Nat.le_refl _) ok2
    refine ⟨.ref s.heap.objs.size, _, I2, rfl, ⟨_, x, rfl, I.hok.fresh (Nat.le_refl _), rfl, fun ys hy2 => by rw [I.tuple_inj hy2 hq]; exact hx⟩, ⟨⟨y, ?_⟩, hst.1.at fun o q => (sb.2 it (Ne.symm ne)).trans q, ne⟩, fun b hb => ?_⟩
    · rw [show ((i + 1 : Nat) : Int) = (i : Int) + 1 by omega]
      exact en2
    · have lb : b < s.heap.objs.size := by
        have eb : b = e ∨ b = it := by simpa using hb
        rcases eb with rfl | rfl
        · exact hel
        · exact hil
      rw [upd_ne (Nat.ne_of_lt lb)]
      exact (hf b hb).1
  done := by
    intro X hP hw hK hc i pins s σ H E I hf st hg
    subst hP hw hK
    obtain ⟨⟨old, en⟩, hit, ne⟩ := st
    obtain ⟨xs, hq, hx⟩ := hg
    obtain ⟨its, rv, p, hz⟩ := I.tuple hq
    have pT : s.heap.IsTuple a its.toArray := p
    obtain ⟨f0, f1, f2, f3, f4, f5⟩ := hf it (by simp)
    have lr := rv.length
    have ai : a ≠ it := by
      obtain ⟨o, ho, hoc, _⟩ := pT
      obtain ⟨o2, ho2, hoc2, _⟩ := hit
      exact apart_cls ho ho2 hoc hoc2 (by decide)
    refine enumT_end (I.ok.hd hc) en hit pT (by simp; omega) fun h' eb => ⟨rfl, I.turned (t' := s.toks) (fun b o hb q => eb b o hb q) f0 f1 f3 f4 f5⟩
  self := fun A i s Q E st h => let ⟨⟨_, en⟩, _⟩ := st; wpAny_pyIter_enum en h
end Wf
/-! Own errors over an own base over ValueError: their __init__, raised, caught. -/
namespace Wf
open PySem PySem.Spec PyProof.Rows L2
/-- the base class x, at C0, whose __init__ is ValueError's -/
structure BaseC (K : PySem.W.Frag) (mg : Str → Option Value) (x : Str) (C0 : Addr) : Prop where
  g : mg x = some (.ref C0)
  rd : PySem.W.readsIn K C0 (.type "type") = true
  ga : PySem.W.specialIn K (.ref C0) "__getattribute__" = some (some (.builtin "type.__getattribute__"))
  at_ : PySem.W.findCls K (.ref C0) (.type "type") "__init__" = some (.val (.builtin "ValueError.__init__"))
section
variable {X : Cx} {e : Expr} {es : List Expr} {ta : TA} {p1 p2 pos : Pos} {x : Str} {C0 : Addr}
/-- x.__init__(self, ..) -/
theorem pe_binit {pl : Sem Bool} (T : BaseC X.K X.mg x C0) (hg : Gl X x) (ha : PA X (e :: es) ta) (hdb : (x == ("__debug__" : Str)) = false := by decide)
    (hc : eval (.Call (.Attribute (.Name x p1) "__init__" p2) (e :: es) [] pos) X.env = (do
      let ov ← eval (.Name x p1) X.env
      standAt p2.atName
      let (f, first) ← holding [ov] (getMethod ov "__init__" pl)
      callWith pos f first (backTo pos (starEach (e :: es) X.env)) (backToKw pos (keywordEach [] X.env))) := by rfl)
    (he : starEach (e :: es) X.env = (false, eval e X.env) :: starEach es X.env := by rfl) (hpl : (backTo pos (starEach es X.env)).any (·.1) = false := by rfl) :
    PE X (.Call (.Attribute (.Name x p1) "__init__" p2) (e :: es) [] pos) (tVeI X.K ta) := by
  refine ⟨fun pins s σ H Q I h => ?_⟩
  refine PySem.W.methodCall_KW (ld_glob I hg T.g ?_ hdb) hc
  refine PySem.W.method_cls I.kIn T.ga (PySem.W.cls_value I.kIn T.rd T.at_ (by decide +kernel) ?_)
  show wpAny _ _ (callWith pos (Value.builtin "ValueError.__init__") [] (backTo pos (starEach (e :: es) X.env)) []) _ _ _
  refine PyProof.Rows.callWith_method1 (thn (ha.run pos pins _ σ H _ (I.tok _) h) fun us s1 ⟨vs, H1, I1, r1, a, C, ws, ev, hl, O, ea, q⟩ => ?_) he hpl
  subst ev
  cases r1 with
  | @cons _ u0 _ ur ra rw' =>
    obtain rfl : u0 = Value.ref a := ra
    have hlen : ur.length ≤ sizeLine := by
      rw [← Paired.length rw', sizeLine_eq]
      omega
    exact oinit_ok O I1 ea hlen fun s' J => ⟨.non, H1, J, rfl, q⟩
end
/-! ### readings may be widened -/
def up (ta : TA) : TA := fun σ H Q => ∃ Q' : List V → Hp → Prop, ta σ H Q' ∧ ∀ vs H1, Q' vs H1 → Q vs H1
theorem pa_up {X : Cx} {es : List Expr} {ta : TA} (h : PA X es ta) : PA X es (up ta) := by
  refine ⟨fun pos pins s σ H Q I q => ?_⟩
  obtain ⟨Q', h1, h2⟩ := q
  exact thn (h.run pos pins s σ H Q' I h1) fun us s1 ⟨vs, H1, I1, r1, q1⟩ => ⟨vs, H1, I1, r1, h2 vs H1 q1⟩
/-! ### __init__(self, f1, f2): the base's, then both fields -/
/-! ### calls of defs that may raise -/
abbrev CalX (P : Program) (w : World) (K : PySem.W.Frag) (mg : Str → Option Value) (base : Heap) (k : Nat) (x : Str) (ps : List Str) (sp : Sp) : Prop := Cal P w K mg base (L2.CX P w) k x ps sp
theorem pe_calX {X : Cx} {k j : Nat} {x : Str} {ps : List Str} {sp : Sp} {W : WX} {E : XK} {e : Expr} {es : List Expr} {t : TA} {p pos : Pos} (C : CalX X.prog X.w X.K X.mg X.base k x ps sp) (hr : Room j X.A) (tk : Takes X W) (hW : ∀ cls d σ H, E cls d H → W cls d σ H) (hg : Gl X x) (ha : PA X (e :: es) t) (hk : k ≤ j := by decide)
    (hdb : (x == ("__debug__" : Str)) = false := by decide) (he : starEach (e :: es) X.env = (false, eval e X.env) :: starEach es X.env := by rfl) (hpl : (backTo pos (starEach es X.env)).any (·.1) = false := by rfl) :
    PE X (.Call (.Name x p) (e :: es) [] pos) (tCall sp [] E t) := by
  obtain ⟨f, fd, G, m, kp, b⟩ := C.ex
  exact pe_call G (hr.mono hk) hg m kp b .nil (passes_call tk hW) ha hdb he hpl
/-! ### isinstance of the caught error, its fields told -/
structure IsC (K : PySem.W.Frag) (C : Addr) : Prop where
  cl : (PySem.W.clsIn K C).isSome = true
  ga : PySem.W.findIn K (.ref C) "__getattribute__" = some (some (.builtin "BaseException.__getattribute__"))
  gg : PySem.W.findIn K (.ref C) "__getattr__" = some none
  su : PySem.W.subIn K (.ref C) (.type "BaseException") = some true
  ha : PySem.W.findIn K (.ref C) "__class__" = some (some (.builtin "object.__class__"))
  hn : PySem.W.specialIn K (.builtin "object.__class__") "__get__" = some (some (.builtin "getset_descriptor.__get__"))
  ht : PySem.W.takesIn K (.builtin "object.__class__") = some true
  hm : PySem.W.mroIn K C (.type "object") = some true
end Wf
/-! Keys that are tuples of tuples of numbers; dicts told by their one object. -/
namespace Wf
open PySem PySem.Spec L2
section
variable (P : Program) (w : World)
inductive ItR (h : Heap) : List (List Int) → List Value → Prop
  | nil : ItR h [] []
  | cons {l : List Int} {b : Addr} {ks : List (List Int)} {vs : List Value} : IsTupleKey (intKind P w) h l b → ItR h ks vs → ItR h (l :: ks) (.ref b :: vs)
def IsRow (h : Heap) (ks : List (List Int)) (a : Addr) : Prop := ∃ o items n, h.get? a = some o ∧ o.cls = .type "tuple" ∧ o.data = .seq items n ∧ ItR P w h ks items.toList
end
def numHash (l : List Int) : Int := reduceHash (Builtin.Tuple.tupleHashOf (l.map hashInt))
def rowHash (ks : List (List Int)) : Int := reduceHash (Builtin.Tuple.tupleHashOf (ks.map numHash))
section
variable {P : Program} {w : World} {A : Around} {E : Value → Shared → Prop} {s : Shared}
theorem ItR.inj {h : Heap} {x y : List (List Int)} {vs : List Value} (hx : ItR P w h x vs) (hy : ItR P w h y vs) : x = y := by
  induction hx generalizing y with
  | nil => cases hy; rfl
  | cons h1 _ ih =>
    cases hy with
    | cons h2 t2 => rw [h1.inj h2, ih t2]
theorem IsRow.typeIs {ks : List (List Int)} {a : Addr} (x : IsRow P w s.heap ks a) : s.TypeIs (.ref a) "tuple" := let ⟨o, _, _, ho, hc, _⟩ := x; ⟨o, ho, hc⟩
theorem IsRow.inj {h : Heap} {a : Addr} {x y : List (List Int)} (hx : IsRow P w h x a) (hy : IsRow P w h y a) : x = y := by
  obtain ⟨o, items, n, ho, _, hd, hi⟩ := hx
  obtain ⟨o', items', n', ho', _, hd', hi'⟩ := hy
  obtain rfl : o = o' := Option.some.inj (ho.symm.trans ho')
  rw [hd] at hd'
  injection hd' with h1 _
  subst h1
  exact hi.inj hi'
theorem ItR.keeps {h h' : Heap} {d : Addr} {o : Obj} {es ep} (ho : h.get? d = some o) (hd : o.data = .dict es ep) (hs : Heap.SameBut d h h') {ks : List (List Int)} {vs : List Value} (x : ItR P w h ks vs) : ItR P w h' ks vs := by
  induction x with
  | nil => exact .nil
  | cons h1 _ ih => exact .cons (h1.keeps ho hd hs) ih
theorem IsRow.keeps {h h' : Heap} {ks : List (List Int)} {a d : Addr} {o : Obj} {es ep} (x : IsRow P w h ks a) (ho : h.get? d = some o) (hd : o.data = .dict es ep) (hs : Heap.SameBut d h h') : IsRow P w h' ks a := by
  obtain ⟨o', items, n, ho', hc, hd', hi⟩ := x
  have hne : a ≠ d := by
    rintro rfl
    obtain rfl : o' = o := Option.some.inj (ho'.symm.trans ho)
    rw [hd] at hd'; exact nomatch hd'
  exact ⟨o', items, n, (hs.2 a hne).trans ho', hc, hd', hi.keeps ho hd hs⟩
end
/-- the keys: tuples of numbers, rows -/
abbrev KyT : Bool → Type
  | false => List Int
  | true => List (List Int)
instance kyDec : (r : Bool) → DecidableEq (KyT r)
  | false => inferInstanceAs (DecidableEq (List Int))
  | true => inferInstanceAs (DecidableEq (List (List Int)))
def kyHash : (r : Bool) → KyT r → Int
  | false => numHash
  | true => rowHash
/-- the datum of a key -/
def kyD : (r : Bool) → KyT r → PyData
  | false, l => .tuple (l.map .int)
  | true, ks => .tuple (ks.map fun l => .tuple (l.map .int))
def entD (r : Bool) (x : KyT r × Addr × Value) : DictEntry := ⟨kyHash r x.1, .ref x.2.1, x.2.2⟩
/-- the object of a dict -/
def DctO (a : Addr) (r : Bool) (ks : List (KyT r)) (bs : List Addr) (us : List V) : HO := .ext fun h =>
  ∃ ws : List Value, Vals us ws ∧ ∃ o es ep, h.get? a = some o ∧ o.ExactDict ∧ o.data = .dict es ep ∧ es.toList = (ks.zip (bs.zip ws)).map (entD r)
/-- some heap has a dict there -/
def OwnD (φ : Heap → Prop) (a : Addr) : Prop := ∃ h : Heap, φ h ∧ ∃ o es ep, h.get? a = some o ∧ o.data = .dict es ep
end Wf
/-! By value: what a def does, told of data alone. Things that never change are data; a list of one's own is told by its items, by the slot that holds it. -/
namespace Pv
open PySem PySem.Spec L2 Wf
/-- what stands and stays below a def, and the tables of code -/
structure Bas where
  hp : Hp
  ht : Hp
  T : List NdefX.NTab
/-- tables of code grow -/
structure TbG (T : List NdefX.NTab) (H H' : Hp) : Prop where
  ts : NdefX.TabsN T H → NdefX.TabsN T H'
  st : ∀ a ps, H a = some (.tbl ps) → ∃ qs, H' a = some (.tbl qs)
theorem TbG.refl {T : List NdefX.NTab} {H : Hp} : TbG T H H := ⟨fun h => h, fun _ ps h => ⟨ps, h⟩⟩
theorem TbG.trans {T : List NdefX.NTab} {H H1 H2 : Hp} (a : TbG T H H1) (b : TbG T H1 H2) : TbG T H H2 := ⟨fun h => b.ts (a.ts h), fun x ps h => by
  obtain ⟨qs, h1⟩ := a.st x ps h
  exact b.st x qs h1⟩
theorem TbG.same {T : List NdefX.NTab} {H H' : Hp} (s : Same H H') : TbG T H H' := ⟨fun t => t.ext s, fun _ ps h => ⟨ps, s _ _ h⟩⟩
instance : CoeFun Bas fun _ => Hp := ⟨Bas.hp⟩
variable {B : Bas} {T : List NdefX.NTab}
/-! ### data: None, truths, numbers, texts, tuples, lists that change no more -/
mutual
inductive Dq (K : PySem.W.Frag) (G : Hp) : V → PyData → Prop
  | non : Dq K G .non .none
  | bl (b : Bool) : Dq K G (.bl b) (.bool b)
  | int (i : Int) : Dq K G (.int i) (.int i)
  | str (x : Str) : Dq K G (.str x) (.str x)
  | lst {a : Addr} {xs : List V} {ds : List PyData} : G a = some (.lst xs) → DqAll K G xs ds → Dq K G (.ref a) (.list ds)
  | tup {a : Addr} {xs : List V} {ds : List PyData} : SqT K G a xs → DqAll K G xs ds → Dq K G (.ref a) (.tuple ds)
inductive DqAll (K : PySem.W.Frag) (G : Hp) : List V → List PyData → Prop
  | nil : DqAll K G [] []
  | cons {v : V} {vs : List V} {d : PyData} {ds : List PyData} : Dq K G v d → DqAll K G vs ds → DqAll K G (v :: vs) (d :: ds)
end
/-- an error's fields -/
inductive Fl (K : PySem.W.Frag) (G : Hp) : List (Str × V) → List (Str × PyData) → Prop
  | nil : Fl K G [] []
  | cons {x : Str} {v : V} {d : PyData} {us : List (Str × V)} {fs : List (Str × PyData)} : Dq K G v d → Fl K G us fs → Fl K G ((x, v) :: us) ((x, d) :: fs)
/-- a lambda that holds nothing: its name, parameters, body, scope, where its code object stands -/
structure LF where
  qual : Str
  params : Arguments
  body : Expr
  scope : Scope
  c : Addr
def LamO (f : Addr) (F : LF) : HO := .ext fun h => ∃ pm ctv : Value, h.get? f = some (PySem.W.kla_obj "<lambda>" F.qual F.params F.body F.scope [] pm F.c ctv)
theorem lamO_ne {f : Addr} {F : LF} (ps : Array Value) : LamO f F ≠ .tbl ps := fun z => by
  unfold LamO at z
  cases z
/-- a thing of one's own: a list of data, the dict of draws, the script; a tuple whose object is known; a lambda; a dict by tuples of numbers -/
inductive O where
  | lst (ds : List PyData)
  | deal
  | scr (ns : List Int)
  | ptl (ds : List PyData)
  | lam (F : LF)
  | dic (ks : List (List Int)) (ds : List PyData)
  | dct (r : Bool) (ks : List (KyT r)) (ds : List PyData)
def dicK (ks : List (List Int)) (us : List V) : List (List Key × V) := (ks.map fun k => k.map Sum.inl).zip us
/-- what a slot holds: not known; data; a thing of one's own (pin: a parameter's, the slot is not stored to); a caught error -/
inductive Sl where
  | un
  | im (d : PyData)
  | ow (pin : Bool) (o : O)
  | ex (a dd C : Addr) (fs : List (Str × PyData))
/-- what an expression gives: data; a new thing of one's own; what slot i holds -/
inductive R where
  | im (d : PyData)
  | ow (o : O)
  | at (i : Nat)
mutual
/-- data; where it is a tuple its object is known, and so within -/
inductive Kn (K : PySem.W.Frag) (G : Hp) : V → PyData → Prop
  | any {v : V} {d : PyData} : Dq K G v d → (∀ es, d ≠ .tuple es) → Kn K G v d
  | tup {p : Addr} {o : Obj} {us : List V} {ds : List PyData} : G p = some (.frz o (.tup us)) → o.cls = .type "tuple" → o.dict = none → KnAll K G us ds → Kn K G (.ref p) (.tuple ds)
inductive KnAll (K : PySem.W.Frag) (G : Hp) : List V → List PyData → Prop
  | nil : KnAll K G [] []
  | cons {v : V} {d : PyData} {vs : List V} {ds : List PyData} : Kn K G v d → KnAll K G vs ds → KnAll K G (v :: vs) (d :: ds)
end
section
variable (K : PySem.W.Frag)
def RO (G H : Hp) (m : Addr → Prop) (v : V) : O → Prop
  | .lst ds => ∃ a us, v = .ref a ∧ m a ∧ H a = some (.lst us) ∧ DqAll K G us ds
  | .deal => ∃ d l, v = .ref d ∧ m d ∧ m l ∧ Deal H d l
  | .scr ns => ∃ a, v = .ref a ∧ ((∃ o, m a ∧ H a = some (.frz o (.lst (ns.map V.int)))) ∨ ∀ H1, SqL K H1 a (ns.map V.int))
  | .ptl ds => ∃ p o us, v = .ref p ∧ G p = some (.frz o (.tup us)) ∧ o.cls = .type "tuple" ∧ o.dict = none ∧ DqAll K G us ds ∧ KnAll K G us ds
  | .lam F => ∃ f, v = .ref f ∧ G f = some (LamO f F) ∧ G F.c = some (LamX.CodeO F.c F.qual)
  | .dic ks ds => ∃ a us, v = .ref a ∧ m a ∧ H a = some (.dT (dicK ks us)) ∧ us.length = ks.length ∧ DqAll K G us ds
  | .dct r ks ds => ∃ a bs us, v = .ref a ∧ m a ∧ H a = some (DctO a r ks bs us) ∧ ((a == sysModules) = false ∧ ks.length ≤ sizeLine ∧ ks.Nodup ∧ us.length = ks.length ∧ bs.length = ks.length) ∧ DqAll K G (bs.map V.ref) (ks.map (kyD r)) ∧ DqAll K G us ds
def SlR (G H : Hp) (m : Addr → Prop) (o : Option (Option V)) : Sl → Prop
  | .un => True
  | .im d => ∃ v, o = some (some v) ∧ Dq K G v d
  | .ow _ ob => ∃ v, o = some (some v) ∧ RO K G H m v ob
  | .ex a dd _ fs => o = some (some (.ref a)) ∧ ∃ us, G dd = some (.xd us) ∧ Fl K G us fs
def RR (G H : Hp) (σ : St) (m : Addr → Prop) (v : V) : R → Prop
  | .im d => Dq K G v d
  | .ow o => RO K G H m v o
  | .at i => σ[i]? = some (some v)
/-- no table of code -/
def NT (o : HO) : Prop := ∀ ps, o ≠ .tbl ps
/-- a thing that nobody owns: a tuple, a code object, a lambda -/
def RdX (H : Hp) (a : Addr) : Option (List V) → Prop
  | some xs => Rd H a (.tup xs)
  | none => ∃ φ, H a = some (.ext φ) ∧ ¬ OwnD φ a
def NoX (H : Hp) (a : Addr) : Prop := ∀ xs, ¬ RdX H a xs
theorem NoX.t {H : Hp} {a : Addr} (n : NoX H a) : NoT H a := fun xs => n (some xs)
theorem RdX.same {H H' : Hp} {a : Addr} {o : HO} (e : H a = some o) (e2 : H' a = some o) : ∀ {xs : Option (List V)}, RdX H' a xs → RdX H a xs
  | some xs, z => by
    rcases z with z | ⟨ob, z⟩
    · rw [e2] at z; cases z; exact .inl e
    · rw [e2] at z; cases z; exact .inr ⟨ob, e⟩
  | none, ⟨φ, z, n⟩ => ⟨φ, by rw [e2] at z; rw [e, z], n⟩
theorem NoX.same {H H' : Hp} {a : Addr} {o : HO} (e : H a = some o) (e2 : H' a = some o) (n : NoX H a) : NoX H' a := fun xs z => n xs (RdX.same e e2 z)
theorem NoX.of {H : Hp} {a : Addr} {o : HO} (e : H a = some o) (n1 : ∀ xs, o ≠ .tup xs) (n2 : ∀ ob xs, o ≠ .frz ob (.tup xs)) (n3 : ∀ φ, o ≠ .ext φ) : NoX H a
  | some xs, z => by
    rcases z with z | ⟨ob, z⟩
    · rw [e] at z; cases z; exact n1 _ rfl
    · rw [e] at z; cases z; exact n2 _ _ rfl
  | none, ⟨φ, z, _⟩ => by rw [e] at z; cases z; exact n3 _ rfl
theorem NoX.own {H : Hp} {a : Addr} {φ : Heap → Prop} (e : H a = some (.ext φ)) (n : OwnD φ a) : NoX H a
  | some xs, z => by
    rcases z with z | ⟨ob, z⟩ <;> · rw [e] at z; cases z
  | none, ⟨ψ, z, n2⟩ => by rw [e] at z; cases z; exact n2 n
theorem NoX.tbl {H : Hp} {a : Addr} {ps : Array Value} (e : H a = some (.tbl ps)) : NoX H a := NoX.of e (fun _ z => by cases z) (fun _ _ z => by cases z) fun _ z => by cases z
theorem NoX.lst {H : Hp} {a : Addr} {ps : List V} (e : H a = some (.lst ps)) : NoX H a := NoX.of e (fun _ z => by cases z) (fun _ _ z => by cases z) fun _ z => by cases z
theorem RdX.upd {H : Hp} {a p : Addr} {o : HO} (h : a ≠ p) : ∀ {xs : Option (List V)}, RdX (upd H p o) a xs → RdX H a xs
  | some xs, z => by
    rcases z with z | ⟨ob, z⟩
    · rw [upd_ne h] at z; exact .inl z
    · rw [upd_ne h] at z; exact .inr ⟨ob, z⟩
  | none, ⟨φ, z, n⟩ => ⟨φ, by rw [upd_ne h] at z; exact z, n⟩
theorem RdX.ne {H : Hp} {a : Addr} : ∀ {xs : Option (List V)}, RdX H a xs → H a ≠ none
  | some xs, z, e => by
    rcases z with z | ⟨ob, z⟩ <;> · rw [e] at z; cases z
  | none, ⟨φ, z, _⟩, e => by rw [e] at z; cases z
structure BsOk (B : Bas) (G H : Hp) (w : Addr → Option Nat) : Prop where
  to : ∀ a o, B a = some o → H a = some o ∧ w a = none ∧ NT o
  tt : TbG B.T B.ht H
  ta : NdefX.TabsN B.T B.ht
  gt : ∀ a ps, G a ≠ some (.tbl ps)
/-- G: what never changes any more; w: whose an address is (2 i: slot i's, 2 j + 1: value j's) -/
structure Rep (B : Bas) (G H : Hp) (σ : St) (δ : List Sl) (vs : List V) (rs : List R) (w : Addr → Option Nat) : Prop where
  sub : Same G H
  out : ∀ a i, w a = some i → G a = none ∧ H a ≠ none ∧ NoX H a
  len : σ.length = δ.length
  sl : ∀ i s, δ[i]? = some s → SlR K G H (fun a => w a = some (2 * i)) σ[i]? s
  tlen : vs.length = rs.length
  tm : ∀ j v r, vs[j]? = some v → rs[j]? = some r → RR K G H σ (fun a => w a = some (2 * j + 1)) v r
  bs : BsOk B G H w
end
def Pn (δ δ' : List Sl) : Prop := ∀ (i : Nat) (o : O), δ[i]? = some (Sl.ow true o) → ∃ o', δ'[i]? = some (Sl.ow true o')
/-- a step: what is public stays so, what is not ours stays as it is, but tables of code -/
structure Stp (T : List NdefX.NTab) (G H : Hp) (w : Addr → Option Nat) (δ : List Sl) (G' H' : Hp) (w' : Addr → Option Nat) (δ' : List Sl) : Prop where
  g : Same G G'
  b : ∀ a o, w a = none → H a = some o → H' a = some o ∨ ∃ ps qs, o = .tbl ps ∧ H' a = some (.tbl qs)
  n : ∀ a i, w' a = some i → w a ≠ none ∨ H a = none
  p : ∀ a o, G' a = some o → G a = some o ∨ H a = none ∨ w a ≠ none ∨ ∃ xs, RdX H a xs
  pn : Pn δ δ'
  t : TbG T H H'
  q : ∀ a ps, G' a = some (.tbl ps) → G a = some (.tbl ps)
/-- a step that leaves the tables as they are -/
structure StpO (G H : Hp) (w : Addr → Option Nat) (δ : List Sl) (G' H' : Hp) (w' : Addr → Option Nat) (δ' : List Sl) : Prop where
  g : Same G G'
  b : ∀ a o, w a = none → H a = some o → H' a = some o
  n : ∀ a i, w' a = some i → w a ≠ none ∨ H a = none
  p : ∀ a o, G' a = some o → G a = some o ∨ H a = none ∨ w a ≠ none ∨ ∃ xs, RdX H a xs
  pn : Pn δ δ'
theorem w_stay {H : Hp} {w w' : Addr → Option Nat} (n : ∀ a i, w' a = some i → w a ≠ none ∨ H a = none) {a : Addr} {o : HO} (h1 : w a = none) (h2 : H a = some o) : w' a = none := by
  cases e : w' a with
  | none => rfl
  | some i =>
    rcases n a i e with z | z
    · exact absurd h1 z
    · rw [h2] at z; cases z
theorem Stp.of {G H G' H' : Hp} {w w' : Addr → Option Nat} {δ δ' : List Sl} (s : StpO G H w δ G' H' w' δ') (t : TbG T H H' := by exact TbG.refl) (q : ∀ a ps, G' a = some (.tbl ps) → G a = some (.tbl ps) := by exact fun _ _ h => h) : Stp T G H w δ G' H' w' δ' :=
  ⟨s.g, fun a o h1 h2 => .inl (s.b a o h1 h2), s.n, s.p, s.pn, t, q⟩
theorem q_new {G : Hp} {p : Addr} {o : HO} (n : NT o) : ∀ a ps, upd G p o a = some (.tbl ps) → G a = some (.tbl ps) := fun a ps h => by
  by_cases e : a = p
  · subst e; rw [upd_same] at h; cases h; exact absurd rfl (n ps)
  · rwa [upd_ne e] at h
theorem tabs_new {H : Hp} {p : Addr} {o : HO} (h : H p = none) : TbG T H (upd H p o) := .same (same_new h)
theorem tabs_put {H : Hp} {D : Addr} {xs ys : List V} (h : H D = some (.lst xs)) : TbG T H (upd H D (.lst ys)) := ⟨fun t p hp => by
  obtain ⟨ps, h1, h2, h3⟩ := t p hp
  refine ⟨ps, by rw [upd_ne (fun z => by rw [z, h] at h1; cases h1)]; exact h1, h2, fun pos cv hc => ?_⟩
  obtain ⟨c, e1, e2⟩ := h3 pos cv hc
  exact ⟨c, e1, by rw [upd_ne (fun z => by rw [z, h] at e2; cases e2)]; exact e2⟩, fun a ps e => ⟨ps, by rw [upd_ne (fun z => by rw [z, h] at e; cases e)]; exact e⟩⟩
theorem Stp.bN {G H G' H' : Hp} {w w' : Addr → Option Nat} {δ δ' : List Sl} (s : Stp T G H w δ G' H' w' δ') (a : Addr) (o : HO) (hn : NT o) (hw : w a = none) (h : H a = some o) : H' a = some o := by
  rcases s.b a o hw h with z | ⟨ps, _, z, _⟩
  · exact z
  · exact absurd z (hn ps)
theorem Stp.nn {G H G' H' : Hp} {w w' : Addr → Option Nat} {δ δ' : List Sl} (s : Stp T G H w δ G' H' w' δ') (a : Addr) (hw : w a = none) (h : H a ≠ none) (t : NoX H a) : H' a ≠ none ∧ NoX H' a := by
  cases e : H a with
  | none => exact absurd e h
  | some o =>
    rcases s.b a o hw e with z | ⟨ps, qs, _, z⟩
    · exact ⟨by rw [z]; exact Option.some_ne_none _, t.same e z⟩
    · exact ⟨by rw [z]; exact Option.some_ne_none _, NoX.tbl z⟩
theorem Pn.refl (δ : List Sl) : Pn δ δ := fun _ o h => ⟨o, h⟩
theorem Pn.trans {a b c : List Sl} (x : Pn a b) (y : Pn b c) : Pn a c := fun i o h => by
  obtain ⟨o1, h1⟩ := x i o h
  exact y i o1 h1
theorem Stp.refl {G H : Hp} {w : Addr → Option Nat} {δ : List Sl} : Stp T G H w δ G H w δ :=
  .of ⟨fun _ _ h => h, fun _ _ _ h => h, fun a i h => .inl (by rw [h]; exact Option.some_ne_none _), fun _ _ h => .inl h, .refl _⟩
theorem Stp.bs {G H G' H' : Hp} {w w' : Addr → Option Nat} {δ δ' : List Sl} (s : Stp B.T G H w δ G' H' w' δ') (h : BsOk B G H w) : BsOk B G' H' w' :=
  ⟨fun a o hb => by
    obtain ⟨h1, h2, h3⟩ := h.to a o hb
    exact ⟨s.bN a o h3 h2 h1, w_stay s.n h2 h1, h3⟩, h.tt.trans s.t, h.ta, fun a ps e => h.gt a ps (s.q a ps e)⟩
theorem Stp.trans {G H G1 H1 G2 H2 : Hp} {w w1 w2 : Addr → Option Nat} {δ δ1 δ2 : List Sl} (a : Stp T G H w δ G1 H1 w1 δ1) (b : Stp T G1 H1 w1 δ1 G2 H2 w2 δ2) : Stp T G H w δ G2 H2 w2 δ2 := by
  have no : ∀ x o, w x = none → H x = some o → w1 x = none := fun x o h1 h2 => by
    cases e : w1 x with
    | none => rfl
    | some i =>
      rcases a.n x i e with z | z
      · exact absurd h1 z
      · rw [h2] at z; cases z
  have none1 : ∀ x, H1 x = none → w x ≠ none ∨ H x = none := fun x h => by
    cases e : w x with
    | some i => exact .inl (Option.some_ne_none _)
    | none =>
      cases e2 : H x with
      | none => exact .inr rfl
      | some o =>
        rcases a.b x o e e2 with z | ⟨_, _, _, z⟩ <;> · rw [z] at h; cases h
  have w1n : ∀ x, w1 x ≠ none → w x ≠ none ∨ H x = none := fun x h => by
    cases e : w1 x with
    | none => exact absurd e h
    | some i => exact a.n x i e
  refine ⟨fun x o h => b.g x o (a.g x o h), fun x o h1 h2 => ?_, fun x i h => ?_, fun x o h => ?_, a.pn.trans b.pn, a.t.trans b.t, fun x ps h => a.q x ps (b.q x ps h)⟩
  · rcases a.b x o h1 h2 with z | ⟨ps, qs, z1, z2⟩
    · exact b.b x o (no x o h1 h2) z
    · rcases b.b x _ (no x o h1 h2) z2 with y | ⟨_, rs, _, y⟩
      · exact .inr ⟨ps, qs, z1, y⟩
      · exact .inr ⟨ps, rs, z1, y⟩
  · rcases b.n x i h with z | z
    · exact w1n x z
    · exact none1 x z
  · rcases b.p x o h with z | z | z | ⟨xs, z⟩
    · exact a.p x o z
    · rcases none1 x z with q | q
      · exact .inr (.inr (.inl q))
      · exact .inr (.inl q)
    · rcases w1n x z with q | q
      · exact .inr (.inr (.inl q))
      · exact .inr (.inl q)
    · cases e : w x with
      | some i => exact .inr (.inr (.inl (Option.some_ne_none _)))
      | none =>
        cases e2 : H x with
        | none => exact .inr (.inl rfl)
        | some u =>
          refine .inr (.inr (.inr ⟨xs, ?_⟩))
          rcases a.b x u e e2 with e3 | ⟨_, _, _, e3⟩
          · exact RdX.same e2 e3 z
          · exact absurd z (NoX.tbl e3 xs)
/-! ### data stays -/
mutual
theorem dp_mono {K : PySem.W.Frag} {G G' : Hp} (s : Same G G') : ∀ (d : PyData) (v : V), Dq K G v d → Dq K G' v d
  | .none, _, h => by cases h; exact .non
  | .bool b, _, h => by cases h; exact .bl b
  | .int i, _, h => by cases h; exact .int i
  | .str x, _, h => by cases h; exact .str x
  | .dict _, _, h => by cases h
  | .list ds, _, h => by
    cases h with
    | lst hs ha =>
      exact .lst (s _ _ hs) (dpAll_mono s ds _ ha)
  | .tuple ds, _, h => by
    cases h with
    | tup hs ha => exact .tup (Same.tp s _ _ hs) (dpAll_mono s ds _ ha)
theorem dpAll_mono {K : PySem.W.Frag} {G G' : Hp} (s : Same G G') : ∀ (ds : List PyData) (vs : List V), DqAll K G vs ds → DqAll K G' vs ds
  | [], _, h => by cases h; exact .nil
  | d :: ds, _, h => by
    cases h with
    | cons h1 h2 => exact .cons (dp_mono s d _ h1) (dpAll_mono s ds _ h2)
end
mutual
theorem pl_mono {K : PySem.W.Frag} {G G' : Hp} (s : Same G G') : ∀ (v : V) (d : PyData), Kn K G v d → Kn K G' v d
  | _, _, .any h n => .any (dp_mono s _ _ h) n
  | _, _, .tup h1 h2 h3 h4 => .tup (s _ _ h1) h2 h3 (plAll_mono s _ _ h4)
theorem plAll_mono {K : PySem.W.Frag} {G G' : Hp} (s : Same G G') : ∀ (vs : List V) (ds : List PyData), KnAll K G vs ds → KnAll K G' vs ds
  | _, _, .nil => .nil
  | _, _, .cons h1 h2 => .cons (pl_mono s _ _ h1) (plAll_mono s _ _ h2)
end
theorem Fl.mono {K : PySem.W.Frag} {G G' : Hp} (s : Same G G') : ∀ {us : List (Str × V)} {fs : List (Str × PyData)}, Fl K G us fs → Fl K G' us fs
  | _, _, .nil => .nil
  | _, _, .cons h1 h2 => .cons (dp_mono s _ _ h1) (Fl.mono s h2)
theorem RO.monoN {K : PySem.W.Frag} {G G' H H' : Hp} {m m' : Addr → Prop} {v : V} {o : O} (s : Same G G') (hh : ∀ a u, NT u → m a → H a = some u → H' a = some u) (hm : ∀ a u, m a → H a = some u → m' a) (h : RO K G H m v o) : RO K G' H' m' v o := by
  cases o with
  | lst ds =>
    obtain ⟨a, us, e, ma, ha, hd⟩ := h
    exact ⟨a, us, e, hm a _ ma ha, hh a _ nofun ma ha, dpAll_mono s _ _ hd⟩
  | deal =>
    obtain ⟨d, l, e, md, ml, hd⟩ := h
    obtain ⟨z1, z2, z3, z4, h1, h2, h3⟩ := hd.ex
    exact ⟨d, l, e, hm d _ md h1, hm l _ ml h2, z1, z2, z3, z4, hh d _ nofun md h1, hh l _ nofun ml h2, h3⟩
  | scr ns =>
    obtain ⟨a, e, ⟨o, ma, h⟩ | h⟩ := h
    · exact ⟨a, e, .inl ⟨o, hm a _ ma h, hh a _ nofun ma h⟩⟩
    · exact ⟨a, e, .inr h⟩
  | ptl ds =>
    obtain ⟨p, o, us, e, hp, h1, h2, hd, hl⟩ := h
    exact ⟨p, o, us, e, s _ _ hp, h1, h2, dpAll_mono s _ _ hd, plAll_mono s _ _ hl⟩
  | lam F =>
    obtain ⟨f, e, h1, h2⟩ := h
    exact ⟨f, e, s _ _ h1, s _ _ h2⟩
  | dic ks ds =>
    obtain ⟨a, us, e, ma, ha, hl, hd⟩ := h
    exact ⟨a, us, e, hm a _ ma ha, hh a _ nofun ma ha, hl, dpAll_mono s _ _ hd⟩
  | dct r ks ds =>
    obtain ⟨a, bs, us, e, ma, ha, hl, hk, hd⟩ := h
    exact ⟨a, bs, us, e, hm a _ ma ha, hh a _ (fun ps z => by unfold DctO at z; cases z) ma ha, hl, dpAll_mono s _ _ hk, dpAll_mono s _ _ hd⟩
theorem RO.mono {K : PySem.W.Frag} {G G' H H' : Hp} {m m' : Addr → Prop} {v : V} {o : O} (s : Same G G') (hh : ∀ a u, m a → H a = some u → H' a = some u) (hm : ∀ a u, m a → H a = some u → m' a) (h : RO K G H m v o) : RO K G' H' m' v o := h.monoN s (fun a u _ => hh a u) hm
theorem SlR.mono {K : PySem.W.Frag} {G G' H H' : Hp} {m m' : Addr → Prop} {o : Option (Option V)} {s : Sl} (g : Same G G') (hh : ∀ a u, m a → H a = some u → H' a = some u) (hm : ∀ a u, m a → H a = some u → m' a) (h : SlR K G H m o s) : SlR K G' H' m' o s := by
  cases s with
  | un => trivial
  | im d =>
    obtain ⟨v, e, h⟩ := h
    exact ⟨v, e, dp_mono g d v h⟩
  | ow p ob =>
    obtain ⟨v, e, h⟩ := h
    exact ⟨v, e, h.mono g hh hm⟩
  | ex a dd C fs =>
    obtain ⟨e, us, h1, h2⟩ := h
    exact ⟨e, us, g _ _ h1, h2.mono g⟩
theorem RR.mono {K : PySem.W.Frag} {G G' H H' : Hp} {σ : St} {m m' : Addr → Prop} {v : V} {r : R} (g : Same G G') (hh : ∀ a u, m a → H a = some u → H' a = some u) (hm : ∀ a u, m a → H a = some u → m' a) (h : RR K G H σ m v r) : RR K G' H' σ m' v r := by
  cases r with
  | im d => exact dp_mono g d v h
  | ow ob => exact RO.mono g hh hm h
  | «at» i => exact h
theorem RR.monoN {K : PySem.W.Frag} {G G' H H' : Hp} {σ : St} {m m' : Addr → Prop} {v : V} {r : R} (g : Same G G') (hh : ∀ a u, NT u → m a → H a = some u → H' a = some u) (hm : ∀ a u, m a → H a = some u → m' a) (h : RR K G H σ m v r) : RR K G' H' σ m' v r := by
  cases r with
  | im d => exact dp_mono g d v h
  | ow ob => exact RO.monoN g hh hm h
  | «at» i => exact h
theorem SlR.monoN {K : PySem.W.Frag} {G G' H H' : Hp} {m m' : Addr → Prop} {o : Option (Option V)} {s : Sl} (g : Same G G') (hh : ∀ a u, NT u → m a → H a = some u → H' a = some u) (hm : ∀ a u, m a → H a = some u → m' a) (h : SlR K G H m o s) : SlR K G' H' m' o s := by
  cases s with
  | un => trivial
  | im d =>
    obtain ⟨v, e, h⟩ := h
    exact ⟨v, e, dp_mono g d v h⟩
  | ow p ob =>
    obtain ⟨v, e, h⟩ := h
    exact ⟨v, e, h.monoN g hh hm⟩
  | ex a dd C fs =>
    obtain ⟨e, us, h1, h2⟩ := h
    exact ⟨e, us, g _ _ h1, h2.mono g⟩
/-! ### the frame: values that wait -/
def evn : Option Nat → Option Nat
  | some n => if n % 2 = 0 then some n else none
  | none => none
theorem evn_some {o : Option Nat} {n : Nat} : evn o = some n ↔ o = some n ∧ n % 2 = 0 := by
  cases o with
  | none => simp [evn]
  | some m =>
    unfold evn
    dsimp only
    split
    · constructor
      · intro h; cases h; exact ⟨rfl, by assumption⟩
      · rintro ⟨h, _⟩; exact h
    · constructor
      · intro h; cases h
      · rintro ⟨h, h2⟩; cases h; exact absurd h2 (by assumption)
theorem evn_ne {o : Option Nat} (h : evn o ≠ none) : o ≠ none := by
  intro e; subst e; exact h rfl
theorem Stp.drop {G H : Hp} {w : Addr → Option Nat} {δ : List Sl} : Stp T G H w δ G H (fun a => evn (w a)) δ :=
  .of ⟨fun _ _ h => h, fun _ _ _ h => h, fun a i h => .inl (by rw [(evn_some.mp h).1]; exact Option.some_ne_none _), fun _ _ h => .inl h, .refl _⟩
theorem Rep.drop {K : PySem.W.Frag} {G H : Hp} {σ : St} {δ : List Sl} {vs : List V} {rs : List R} {w : Addr → Option Nat} (r : Rep K B G H σ δ vs rs w) : Rep K B G H σ δ [] [] fun a => evn (w a) where
  sub := r.sub
  out := fun a i h => r.out a i (evn_some.mp h).1
  len := r.len
  sl := fun i s h => (r.sl i s h).mono (fun _ _ h => h) (fun _ _ _ h => h) fun a u ma _ => evn_some.mpr ⟨ma, by omega⟩
  tlen := rfl
  tm := fun j v r h => by simp at h
  bs := (Stp.drop (T := B.T) (δ := δ)).bs (G := G) r.bs
def shf (k : Nat) : Option Nat → Option Nat
  | some n => if n % 2 = 0 then some n else some (n + 2 * k)
  | none => none
def both (k : Nat) (w w' : Addr → Option Nat) (a : Addr) : Option Nat := match w a with
  | some n => if n % 2 = 0 then shf k (w' a) else some n
  | none => shf k (w' a)
theorem both_odd {k : Nat} {w w' : Addr → Option Nat} {a : Addr} {n : Nat} (h : w a = some n) (ho : n % 2 = 1) : both k w w' a = some n := by
  unfold both; rw [h]; dsimp only; rw [if_neg (by omega)]
theorem both_evn {k : Nat} {w w' : Addr → Option Nat} {a : Addr} (h : ∀ n, w a = some n → n % 2 = 0) : both k w w' a = shf k (w' a) := by
  unfold both
  cases e : w a with
  | none => rfl
  | some n => dsimp only; rw [if_pos (h n e)]
theorem shf_some {k n : Nat} {o : Option Nat} (h : shf k o = some n) : ∃ m, o = some m ∧ n = if m % 2 = 0 then m else m + 2 * k := by
  cases o with
  | none => cases h
  | some m =>
    refine ⟨m, rfl, ?_⟩
    unfold shf at h
    dsimp only at h
    split at h <;> cases h <;> simp [*]
theorem Rep.frame {K : PySem.W.Frag} {G H G' H' : Hp} {σ : St} {δ δ' : List Sl} {vs vs1 : List V} {rs rs1 : List R} {w w' : Addr → Option Nat} (r : Rep K B G H σ δ vs rs w) (s : Stp B.T G H (fun a => evn (w a)) δ G' H' w' δ') (r' : Rep K B G' H' σ δ' vs1 rs1 w') :
    ∃ w2, Stp B.T G H w δ G' H' w2 δ' ∧ Rep K B G' H' σ δ' (vs ++ vs1) (rs ++ rs1) w2 := by
  have odd : ∀ a n, w a = some n → n % 2 = 1 → w' a = none ∧ G' a = none ∧ (H' a ≠ none ∧ NoX H' a) ∧ ∀ u, NT u → H a = some u → H' a = some u := fun a n h ho => by
    have e0 : evn (w a) = none := by
      cases e : evn (w a) with
      | none => rfl
      | some m =>
        have := evn_some.mp e
        rw [h] at this
        have z := this.1
        cases z
        omega
    obtain ⟨g0, h0, n0⟩ := r.out a n h
    refine ⟨?_, ?_, s.nn a e0 h0 n0, fun u hn hu => s.bN a u hn e0 hu⟩
    · cases e : w' a with
      | none => rfl
      | some i =>
        rcases s.n a i e with z | z
        · exact absurd e0 z
        · exact absurd z h0
    · cases e : G' a with
      | none => rfl
      | some o =>
        rcases s.p a o e with z | z | z | ⟨xs, z⟩
        · rw [g0] at z; cases z
        · exact absurd z h0
        · exact absurd e0 z
        · exact absurd z (n0 xs)
  have evw : ∀ a i, w' a = some i → ∀ n, w a = some n → n % 2 = 0 := fun a i h n hn => by
    by_cases ho : n % 2 = 1
    · rw [(odd a n hn ho).1] at h; cases h
    · omega
  have st : Stp B.T G H w δ G' H' (both rs.length w w') δ' := by
    refine ⟨s.g, fun a o hw ha => s.b a o (by show evn (w a) = none; rw [hw]; rfl) ha, fun a i h => ?_, fun a o h => ?_, s.pn, s.t, s.q⟩
    · cases e : w a with
      | some n => exact .inl (Option.some_ne_none _)
      | none =>
        have e1 : both rs.length w w' a = shf rs.length (w' a) := both_evn fun n hn => by rw [e] at hn; cases hn
        rw [e1] at h
        obtain ⟨m, hm, _⟩ := shf_some h
        rcases s.n a m hm with z | z
        · have z' := evn_ne z
          rw [e] at z'
          exact .inl z'
        · exact .inr z
    · rcases s.p a o h with z | z | z | z
      · exact .inl z
      · exact .inr (.inl z)
      · exact .inr (.inr (.inl (evn_ne z)))
      · exact .inr (.inr (.inr z))
  refine ⟨both rs.length w w', st, r'.sub, fun a i h => ?_, r'.len, fun i sl h => ?_, by rw [List.length_append, List.length_append, r.tlen, r'.tlen], fun j v q hv hr => ?_, st.bs r.bs⟩
  · by_cases ho : ∃ n, w a = some n ∧ n % 2 = 1
    · obtain ⟨n, hn, ho⟩ := ho
      obtain ⟨_, g, hh, _⟩ := odd a n hn ho
      exact ⟨g, hh⟩
    · have e1 : both rs.length w w' a = shf rs.length (w' a) := both_evn fun n hn => by
        by_cases z : n % 2 = 1
        · exact absurd ⟨n, hn, z⟩ ho
        · omega
      rw [e1] at h
      obtain ⟨m, hm, _⟩ := shf_some h
      exact r'.out a m hm
  · refine (r'.sl i sl h).mono (fun _ _ h => h) (fun _ _ _ h => h) fun a u ma _ => ?_
    rw [both_evn (evw a _ ma)]
    unfold shf
    rw [ma]
    dsimp only
    rw [if_pos (by omega)]
  · by_cases hj : j < vs.length
    · rw [List.getElem?_append_left hj] at hv
      rw [List.getElem?_append_left (by rw [← r.tlen]; exact hj)] at hr
      exact (r.tm j v q hv hr).monoN s.g (fun a u hn ma hu => (odd a _ ma (by omega)).2.2.2 u hn hu) fun a u ma _ => both_odd ma (by omega)
    · have hj : vs.length ≤ j := by omega
      rw [List.getElem?_append_right hj] at hv
      rw [List.getElem?_append_right (by rw [← r.tlen]; exact hj), ← r.tlen] at hr
      refine (r'.tm (j - vs.length) v q hv hr).mono (fun _ _ h => h) (fun _ _ _ h => h) fun a u ma _ => ?_
      rw [both_evn (evw a _ ma)]
      unfold shf
      rw [ma]
      dsimp only
      rw [if_neg (by omega), r.tlen.symm]
      congr 1
      omega
end Pv
namespace Pv
open PySem PySem.Spec L2 Wf
variable {B : Bas}
/-! ### judgements told of data -/
abbrev QE := R → List Sl → Prop
abbrev PX := List Sl → QE → Prop
abbrev PL := List Sl → (List R → List Sl → Prop) → Prop
abbrev PB := List Sl → (Bool → List Sl → Prop) → Prop
section
variable (K : PySem.W.Frag) (B : Bas)
def LE (p : PX) : TE := fun σ H Q => ∃ G w δ Qp, Rep K B G H σ δ [] [] w ∧ p δ Qp ∧ ∀ r δ' v H' G' w', Qp r δ' → Stp B.T G H w δ G' H' w' δ' → Rep K B G' H' σ δ' [v] [r] w' → Q v H'
def LA (n : Nat) (p : PL) : TA := fun σ H Q => ∃ G w δ Qp, Rep K B G H σ δ [] [] w ∧ p δ Qp ∧ ∀ rs δ' vs H' G' w', Qp rs δ' → rs.length = n → Stp B.T G H w δ G' H' w' δ' → Rep K B G' H' σ δ' vs rs w' → Q vs H'
def LB (p : PB) : TT := fun σ H Q => ∃ G w δ Qp, Rep K B G H σ δ [] [] w ∧ p δ Qp ∧ ∀ b δ' H' G' w', Qp b δ' → Stp B.T G H w δ G' H' w' δ' → Rep K B G' H' σ δ' [] [] w' → Q b H'
end
/-- an operation by values -/
def LC (K : PySem.W.Frag) (q : List R → PX) (r : List V → Hp → VK → Prop) : Prop := ∀ {B : Bas} (G H : Hp) (σ : St) (δ : List Sl) (vs : List V) (rs : List R) (w : Addr → Option Nat) (Qp : QE) (Q : VK), Rep K B G H σ δ vs rs w → q rs δ Qp →
  (∀ r δ' v H' G' w', Qp r δ' → Stp B.T G H w δ G' H' w' δ' → Rep K B G' H' σ δ' [v] [r] w' → Q v H') → r vs H Q
def JE (X : Cx) (B : Bas) (e : Expr) (p : PX) : Prop := PE X e (LE X.K B p)
def JA (X : Cx) (B : Bas) (es : List Expr) (p : PL) : Prop := PA X es (LA X.K B es.length p)
def JB (X : Cx) (B : Bas) (e : Expr) (p : PB) : Prop := PT X e (LB X.K B p)
section
variable {X : Cx}
theorem PE_wk {e : Expr} {t t' : TE} (h : PE X e t) (k : ∀ σ H Q, t' σ H Q → t σ H Q) : PE X e t' := ⟨fun pins s σ H Q I q => h.run pins s σ H Q I (k σ H Q q)⟩
theorem PT_wk {e : Expr} {t t' : TT} (h : PT X e t) (k : ∀ σ H Q, t' σ H Q → t σ H Q) : PT X e t' := ⟨fun pins s σ H Q I q => h.run pins s σ H Q I (k σ H Q q)⟩
theorem PW_wk {e : Expr} {t t' : TT} (h : PW X e t) (k : ∀ σ H Q, t' σ H Q → t σ H Q) : PW X e t' := ⟨fun wh pins s σ H Q I q => h.run wh pins s σ H Q I (k σ H Q q)⟩
theorem PA_wk {es : List Expr} {t t' : TA} (h : PA X es t) (k : ∀ σ H Q, t' σ H Q → t σ H Q) : PA X es t' := ⟨fun pos pins s σ H Q I q => h.run pos pins s σ H Q I (k σ H Q q)⟩
theorem PS_wk {st : Stmt} {t t' : TS} (h : PS X st t) (k : ∀ D σ H, t' D σ H → t D σ H) : PS X st t' := ⟨fun pins s σ H D I q => h.run pins s σ H D I (k D σ H q)⟩
theorem PSs_wk {st : List Stmt} {t t' : TS} (h : PSs X st t) (k : ∀ D σ H, t' D σ H → t D σ H) : PSs X st t' := ⟨fun pins s σ H D I q => h.run pins s σ H D I (k D σ H q)⟩
end
/-! ### results -/
theorem noT_upd {H : Hp} {a p : Addr} {o : HO} (h : a ≠ p) (n : NoX H a) : NoX (upd H p o) a := fun xs z => n xs (RdX.upd h z)
section
variable {K : PySem.W.Frag} {G H : Hp} {σ : St} {δ : List Sl} {vs : List V} {rs : List R} {w : Addr → Option Nat}
/-- data is given, nothing is changed -/
theorem Rep.ret (r : Rep K B G H σ δ vs rs w) {v : V} {d : PyData} (h : Dq K G v d) : Rep K B G H σ δ [v] [.im d] fun a => evn (w a) := by
  have r0 := r.drop
  refine ⟨r0.sub, r0.out, r0.len, r0.sl, rfl, fun j u q hu hq => ?_, r0.bs⟩
  match j with
  | 0 =>
    simp only [List.getElem?_cons_zero, Option.some.injEq] at hu hq
    subst hu hq
    exact h
  | j + 1 => simp at hu
theorem Rep.at_ (r : Rep K B G H σ δ vs rs w) {i : Nat} {v : V} (h : σ[i]? = some (some v)) : Rep K B G H σ δ [v] [.at i] fun a => evn (w a) := by
  have r0 := r.drop
  refine ⟨r0.sub, r0.out, r0.len, r0.sl, rfl, fun j u q hu hq => ?_, r0.bs⟩
  match j with
  | 0 =>
    simp only [List.getElem?_cons_zero, Option.some.injEq] at hu hq
    subst hu hq
    exact h
  | j + 1 => simp at hu
/-- a new thing that never changes -/
theorem Rep.retNew (r : Rep K B G H σ δ vs rs w) {p : Addr} {o : HO} {d : PyData} (hp : H p = none) (h : Dq K (upd G p o) (.ref p) d) (hn : NT o := by exact nofun) :
    Stp B.T G H w δ (upd G p o) (upd H p o) (fun a => evn (w a)) δ ∧ Rep K B (upd G p o) (upd H p o) σ δ [.ref p] [.im d] fun a => evn (w a) := by
  have gp : G p = none := by
    cases e : G p with
    | none => rfl
    | some u => rw [r.sub p u e] at hp; cases hp
  have np : ∀ a i, w a = some i → a ≠ p := fun a i hw z => (r.out a i hw).2.1 (by rw [z]; exact hp)
  have sg : Same G (upd G p o) := same_new gp
  have r0 := r.drop
  have st : Stp B.T G H w δ (upd G p o) (upd H p o) (fun a => evn (w a)) δ := by
    refine .of ⟨sg, fun a u _ ha => by rw [upd_ne (ne_of_none ha hp)]; exact ha, fun a i h => .inl (by rw [(evn_some.mp h).1]; exact Option.some_ne_none _), fun a u ha => ?_, .refl _⟩ (tabs_new hp) (q_new hn)
    by_cases e : a = p
    · subst e; exact .inr (.inl hp)
    · rw [upd_ne e] at ha; exact .inl ha
  refine ⟨st, fun a u ha => ?_, fun a i h => ?_, r0.len, fun i s h => ?_, rfl, fun j u q hu hq => ?_, st.bs r.bs⟩
  · by_cases e : a = p
    · subst e; rw [upd_same] at ha ⊢; exact ha
    · rw [upd_ne e] at ha ⊢; exact r.sub a u ha
  · have h' := (evn_some.mp h).1
    have hne := np a i h'
    have ho := r.out a i h'
    rw [upd_ne hne, upd_ne hne]
    exact ⟨ho.1, ho.2.1, noT_upd hne ho.2.2⟩
  · exact (r0.sl i s h).mono sg (fun a u ma hu => by rw [upd_ne (ne_of_none hu hp)]; exact hu) fun a u ma _ => ma
  · match j with
    | 0 =>
      simp only [List.getElem?_cons_zero, Option.some.injEq] at hu hq
      subst hu hq
      exact h
    | j + 1 => simp at hu
/-- a new list of one's own -/
theorem Rep.retLst (r : Rep K B G H σ δ vs rs w) {p : Addr} {us : List V} {ds : List PyData} (hp : H p = none) (h : DqAll K G us ds) :
    ∃ w', Stp B.T G H w δ G (upd H p (.lst us)) w' δ ∧ Rep K B G (upd H p (.lst us)) σ δ [.ref p] [.ow (.lst ds)] w' := by
  have gp : G p = none := by
    cases e : G p with
    | none => rfl
    | some u => rw [r.sub p u e] at hp; cases hp
  have r0 := r.drop
  have st : Stp B.T G H w δ G (upd H p (.lst us)) (fun a => if a = p then some 1 else evn (w a)) δ := by
    refine .of ⟨fun _ _ h => h, fun a u _ ha => by rw [upd_ne (ne_of_none ha hp)]; exact ha, fun a i h => ?_, fun a u ha => .inl ha, .refl _⟩ (tabs_new hp)
    by_cases e : a = p
    · subst e; exact .inr hp
    · simp only [e, if_false] at h
      exact .inl (by rw [(evn_some.mp h).1]; exact Option.some_ne_none _)
  refine ⟨_, st, fun a u ha => ?_, fun a i h => ?_, r0.len, fun i s h => ?_, rfl, fun j u q hu hq => ?_, st.bs r.bs⟩
  · by_cases e : a = p
    · subst e; rw [gp] at ha; cases ha
    · rw [upd_ne e]; exact r.sub a u ha
  · by_cases e : a = p
    · subst e; rw [upd_same]; exact ⟨gp, Option.some_ne_none _, NoX.lst upd_same⟩
    · simp only [e, if_false] at h
      have ho := r0.out a i h
      rw [upd_ne e]
      exact ⟨ho.1, ho.2.1, noT_upd e ho.2.2⟩
  · refine (r0.sl i s h).mono (fun _ _ h => h) (fun a u ma hu => by rw [upd_ne (ne_of_none hu hp)]; exact hu) fun a u ma hu => ?_
    rw [if_neg (ne_of_none hu hp)]
    exact ma
  · match j with
    | 0 =>
      simp only [List.getElem?_cons_zero, Option.some.injEq] at hu hq
      subst hu hq
      exact ⟨p, us, rfl, by simp, upd_same, h⟩
    | j + 1 => simp at hu
end
/-! ### what is read -/
def dat (δ : List Sl) : R → Option PyData
  | .im d => some d
  | .ow (.lst ds) => some (.list ds)
  | .ow (.ptl ds) => some (.tuple ds)
  | .ow _ => none
  | .at i => match δ[i]? with
    | some (.im d) => some d
    | some (.ow _ (.lst ds)) => some (.list ds)
    | some (.ow _ (.ptl ds)) => some (.tuple ds)
    | _ => none
section
variable {K : PySem.W.Frag} {G H : Hp} {σ : St} {δ : List Sl} {vs : List V} {rs : List R} {w : Addr → Option Nat}
mutual
theorem dq_dp (s : Same G H) : ∀ (d : PyData) (v : V), Dq K G v d → Dp K H v d
  | .none, _, h => by cases h; exact .non
  | .bool b, _, h => by cases h; exact .bl b
  | .int i, _, h => by cases h; exact .int i
  | .str x, _, h => by cases h; exact .str x
  | .dict _, _, h => by cases h
  | .list ds, _, h => by
    cases h with
    | lst hs ha => exact .lst (SqL.of (s _ _ hs)) (dqAll_dp s ds _ ha)
  | .tuple ds, _, h => by
    cases h with
    | tup hs ha => exact .tup (Same.tp s _ _ hs) (dqAll_dp s ds _ ha)
theorem dqAll_dp (s : Same G H) : ∀ (ds : List PyData) (vs : List V), DqAll K G vs ds → DpAll K H vs ds
  | [], _, h => by cases h; exact .nil
  | d :: ds, _, h => by
    cases h with
    | cons h1 h2 => exact .cons (dq_dp s d _ h1) (dqAll_dp s ds _ h2)
end
/-- what is to be read of a value -/
def Vw (K : PySem.W.Frag) (G H : Hp) (v : V) (d : PyData) : Prop := Dq K G v d ∨ ∃ a us ds, v = .ref a ∧ H a = some (.lst us) ∧ DqAll K G us ds ∧ d = .list ds
theorem ptl_dq {K : PySem.W.Frag} {G : Hp} {v : V} {ds : List PyData} (h : ∃ p o us, v = .ref p ∧ G p = some (.frz o (.tup us)) ∧ o.cls = .type "tuple" ∧ o.dict = none ∧ DqAll K G us ds ∧ KnAll K G us ds) : Dq K G v (.tuple ds) := by
  obtain ⟨p, o, us, rfl, hp, _, _, hd, _⟩ := h
  exact .tup (.inl (.inr ⟨o, hp⟩)) hd
/-- what a value is: data, public; or a list, its items public -/
theorem Rep.dat (r : Rep K B G H σ δ vs rs w) {j : Nat} {v : V} {q : R} {d : PyData} (hv : vs[j]? = some v) (hq : rs[j]? = some q) (hd : dat δ q = some d) :
    Dq K G v d ∨ ∃ a us ds, v = .ref a ∧ H a = some (.lst us) ∧ DqAll K G us ds ∧ d = .list ds := by
  have t := r.tm j v q hv hq
  cases q with
  | im d' => cases hd; exact .inl t
  | ow o =>
    cases o with
    | lst ds =>
      cases hd
      obtain ⟨a, us, e, _, ha, hds⟩ := t
      exact .inr ⟨a, us, ds, e, ha, hds, rfl⟩
    | deal => cases hd
    | scr ns => cases hd
    | ptl ds => cases hd; exact .inl (ptl_dq t)
    | lam F => cases hd
    | dic ks ds => cases hd
    | dct r ks ds => cases hd
  | «at» i =>
    have t' : σ[i]? = some (some v) := t
    simp only [Pv.dat] at hd
    revert hd
    split
    · rename_i d' e
      intro hd; cases hd
      obtain ⟨u, hu, hd'⟩ := r.sl i _ e
      rw [t'] at hu
      cases hu
      exact .inl hd'
    · rename_i b ds e
      intro hd; cases hd
      obtain ⟨u, hu, a, us, e1, _, ha, hds⟩ := r.sl i _ e
      rw [t'] at hu
      cases hu
      exact .inr ⟨a, us, ds, e1, ha, hds, rfl⟩
    · rename_i b ds e
      intro hd; cases hd
      obtain ⟨u, hu, t2⟩ := r.sl i _ e
      rw [t'] at hu
      cases hu
      exact .inl (ptl_dq t2)
    · intro hd; cases hd
theorem Vw.dp {v : V} {d : PyData} (s : Same G H) (h : Vw K G H v d) : Dp K H v d := by
  rcases h with h | ⟨a, us, ds, rfl, ha, hds, rfl⟩
  · exact dq_dp s _ _ h
  · exact .lst (SqL.of ha) (dqAll_dp s _ _ hds)
theorem Vw.seqL {v : V} {ds : List PyData} (s : Same G H) (h : Vw K G H v (.list ds)) : ∃ a us, v = .ref a ∧ H a = some (.lst us) ∧ DqAll K G us ds := by
  rcases h with h | ⟨a, us, ds', rfl, ha, hds, e⟩
  · cases h with
    | lst hs ha => exact ⟨_, _, rfl, s _ _ hs, ha⟩
  · cases e
    exact ⟨a, us, rfl, ha, hds⟩
theorem Vw.seqT {v : V} {ds : List PyData} (s : Same G H) (h : Vw K G H v (.tuple ds)) : ∃ a us, v = .ref a ∧ SqT K H a us ∧ DqAll K G us ds ∧ Dq K G v (.tuple ds) := by
  rcases h with h | ⟨a, us, ds', rfl, ha, hds, e⟩
  · cases h with
    | tup hs ha => exact ⟨_, _, rfl, Same.tp s _ _ hs, ha, .tup hs ha⟩
  · cases e
theorem Vw.int {v : V} {i : Int} (h : Vw K G H v (.int i)) : v = .int i := by
  rcases h with h | ⟨a, us, ds', rfl, ha, hds, e⟩
  · cases h; rfl
  · cases e
theorem Vw.bool {v : V} {i : Bool} (h : Vw K G H v (.bool i)) : v = .bl i := by
  rcases h with h | ⟨a, us, ds', rfl, ha, hds, e⟩
  · cases h; rfl
  · cases e
theorem Vw.str {v : V} {i : Str} (h : Vw K G H v (.str i)) : v = .str i := by
  rcases h with h | ⟨a, us, ds', rfl, ha, hds, e⟩
  · cases h; rfl
  · cases e
theorem Rep.dpH (r : Rep K B G H σ δ vs rs w) {j : Nat} {v : V} {q : R} {d : PyData} (hv : vs[j]? = some v) (hq : rs[j]? = some q) (hd : Pv.dat δ q = some d) : Dp K H v d := Vw.dp r.sub (r.dat hv hq hd)
end
/-! ### names, constants, arguments -/
def pVar (i : Nat) : PX := fun δ Q => match δ[i]? with
  | some (.im d) => Q (.im d) δ
  | some (.ow _ _) => Q (.at i) δ
  | _ => False
def pK (d : PyData) : PX := fun δ Q => Q (.im d) δ
def pNil : PL := fun δ Q => Q [] δ
def pCons (p : PX) (ps : PL) : PL := fun δ Q => p δ fun r δ1 => ps δ1 fun rs δ2 => Q (r :: rs) δ2
/-- an operation over values that are there -/
def pC (q : List R → PX) (ps : PL) : PX := fun δ Q => ps δ fun rs δ1 => q rs δ1 Q
section
variable {X : Cx}
theorem je_var {i : Nat} {x : Str} {pos : Pos} (hN : X.N[i]? = some x) (hv : Vis X.env.scope x) (hd : (x == ("__debug__" : Str)) = false := by decide) (hcd : (x == ("__classdict__" : Str)) = false := by decide) : JE X B (.Name x pos) (pVar i) := by
  refine PE_wk (pe_var (i := i) hN hv hd hcd) fun σ H Q ⟨G, w, δ, Qp, rep, h, k⟩ => ?_
  unfold pVar at h
  revert h
  split
  · rename_i d e
    intro h
    obtain ⟨v, hv, hd⟩ := rep.sl i _ e
    exact ⟨v, hv, k _ _ v H G _ h .drop (rep.ret hd)⟩
  · rename_i b o e
    intro h
    obtain ⟨v, hv, hd⟩ := rep.sl i _ e
    exact ⟨v, hv, k _ _ v H G _ h .drop (rep.at_ hv)⟩
  · intro h; exact h.elim
theorem je_c {e : Expr} {v : V} {d : PyData} (h : PE X e (tC v)) (hd : ∀ G, Dq X.K G v d) : JE X B e (pK d) :=
  PE_wk h fun σ H Q ⟨G, w, δ, Qp, rep, q, k⟩ => k _ _ v H G _ q .drop (rep.ret (hd G))
theorem je_int {i j pos} : JE X B (.Constant (.int i) j pos) (pK (.int i)) := je_c pe_int fun _ => .int i
theorem je_bl {b j pos} : JE X B (.Constant (.bool b) j pos) (pK (.bool b)) := je_c pe_bl fun _ => .bl b
theorem ja_nil : JA X B [] pNil := PA_wk pa_nil fun σ H Q ⟨G, w, δ, Qp, rep, q, k⟩ => k [] δ [] H G _ q rfl .drop rep.drop
theorem ja_cons {e : Expr} {es : List Expr} {p : PX} {ps : PL} (h : JE X B e p) (hs : JA X B es ps) (he : starEach (e :: es) X.env = (false, eval e X.env) :: starEach es X.env := by rfl) : JA X B (e :: es) (pCons p ps) := by
  refine PA_wk (pa_cons h hs he) fun σ H Q ⟨G, w, δ, Qp, rep, q, k⟩ => ?_
  refine ⟨G, w, δ, _, rep, q, fun r δ1 v H1 G1 w1 q1 s1 rep1 => ?_⟩
  refine ⟨G1, _, δ1, _, rep1.drop, q1, fun rs δ2 vs H2 G2 w2 q2 l2 s2 rep2 => ?_⟩
  obtain ⟨w3, s3, rep3⟩ := rep1.frame s2 rep2
  exact k _ δ2 _ H2 G2 w3 q2 (congrArg (· + 1) l2) (s1.trans s3) rep3
/-- a binary operator -/
def ap2 (r : R2) : List V → Hp → VK → Prop
  | [x, y], H, Q => r x y H Q
  | _, _, _ => False
def ap1 (r : V → Hp → VK → Prop) : List V → Hp → VK → Prop
  | [x], H, Q => r x H Q
  | _, _, _ => False
theorem lc_two {a b : PX} {q : List R → PX} {r : R2} {σ : St} {H : Hp} {Q : VK} (hl : LC X.K q (ap2 r)) (h : LE X.K B (pC q (pCons a (pCons b pNil))) σ H Q) : LE X.K B a σ H fun x H1 => LE X.K B b σ H1 fun y H2 => r x y H2 Q := by
  obtain ⟨G, w, δ, Qp, rep, q, k⟩ := h
  refine ⟨G, w, δ, _, rep, q, fun ra δ1 x H1 G1 w1 q1 s1 rep1 => ?_⟩
  refine ⟨G1, _, δ1, _, rep1.drop, q1, fun rb δ2 y H2 G2 w2 q2 s2 rep2 => ?_⟩
  obtain ⟨w3, s3, rep3⟩ := rep1.frame s2 rep2
  exact hl G2 H2 σ δ2 [x, y] [ra, rb] w3 Qp Q rep3 q2 fun r δ' v H' G' w' hq hs hr => k r δ' v H' G' w' hq ((s1.trans s3).trans hs) hr
theorem je_op {a b : Expr} {op : Operator} {pos : Pos} {pa pb : PX} {q : List R → PX} {r : R2} (ho : OpR X (binaryOp op) r) (hl : LC X.K q (ap2 r)) (ha : JE X B a pa) (hb : JE X B b pb) : JE X B (.BinOp a op b pos) (pC q (pCons pa (pCons pb pNil))) :=
  PE_wk (pe_op ho ha hb) fun σ H Q h => lc_two hl h
theorem je_cmp {a b : Expr} {op : CmpOp} {pos : Pos} {pa pb : PX} {q : List R → PX} {r : R2} (ho : OpR X (compareOp op) r) (hl : LC X.K q (ap2 r)) (ha : JE X B a pa) (hb : JE X B b pb) (hm : behindInMarks op b = false) : JE X B (.Compare a [op] [b] pos) (pC q (pCons pa (pCons pb pNil))) :=
  PE_wk (pe_cmpR ho ha hb hm) fun σ H Q h => lc_two hl h
theorem je_un {a : Expr} {op : UnaryOp} {pos : Pos} {pa : PX} {q : List R → PX} {r : V → Hp → VK → Prop} (ho : UnR X (unaryOp op) r) (hl : LC X.K q (ap1 r)) (ha : JE X B a pa) : JE X B (.UnaryOp op a pos) (pC q (pCons pa pNil)) :=
  PE_wk (pe_un ho ha) fun σ H Q ⟨G, w, δ, Qp, rep, q, k⟩ => ⟨G, w, δ, _, rep, q, fun ra δ1 x H1 G1 w1 q1 s1 rep1 =>
    hl G1 H1 σ δ1 [x] [ra] w1 Qp Q rep1 q1 fun r δ' v H' G' w' hq hs hr => k r δ' v H' G' w' hq (s1.trans hs) hr⟩
theorem lc_args {n : Nat} {ps : PL} {q : List R → PX} {r : List V → Hp → VK → Prop} {σ : St} {H : Hp} {Q : VK} (hl : LC X.K q r) (h : LE X.K B (pC q ps) σ H Q) : tCB r (LA X.K B n ps) σ H Q := by
  obtain ⟨G, w, δ, Qp, rep, q, k⟩ := h
  exact ⟨G, w, δ, _, rep, q, fun rs δ1 vs H1 G1 w1 q1 _ s1 rep1 => hl G1 H1 σ δ1 vs rs w1 Qp Q rep1 q1 fun r δ' v H' G' w' hq hs hr => k r δ' v H' G' w' hq (s1.trans hs) hr⟩
/-! ### tests -/
def pT (p : PX) : PB := fun δ Q => p δ fun r δ1 => ∃ b, dat δ1 r = some (.bool b) ∧ Q b δ1
theorem dp_bool {K : PySem.W.Frag} {H : Hp} {v : V} {b : Bool} (h : Dp K H v (.bool b)) : v = .bl b := by cases h; rfl
theorem jb_val {e : Expr} {p : PX} (h : JE X B e p) (he : ∀ whole, isTrue e X.env whole = (do let v ← whole; standAt e.pos; holding [v] (truthy v)) := by intro _; rfl) : JB X B e (pT p) := by
  refine PT_wk (pt_val h he) fun σ H Q ⟨G, w, δ, Qp, rep, q, k⟩ => ?_
  refine ⟨G, w, δ, _, rep, q, fun r δ1 v H1 G1 w1 q1 s1 rep1 => ?_⟩
  obtain ⟨b, hd, q1⟩ := q1
  exact ⟨b, dp_bool (rep1.dpH (j := 0) rfl rfl hd), k b δ1 H1 G1 _ q1 (s1.trans .drop) rep1.drop⟩
theorem jb_cmp {a b : Expr} {op : CmpOp} {pos : Pos} {pa pb : PX} {q : List R → PX} {r : R2} (ho : OpR X (compareOp op) r) (hl : LC X.K q (ap2 r)) (ha : JE X B a pa) (hb : JE X B b pb) (hm : behindInMarks op b = false) : JB X B (.Compare a [op] [b] pos) (pT (pC q (pCons pa (pCons pb pNil)))) := by
  refine PT_wk (pt_cmpR ho ha hb hm) fun σ H Q ⟨G, w, δ, Qp, rep, q, k⟩ => ?_
  refine lc_two hl ⟨G, w, δ, _, rep, q, fun r δ1 v H1 G1 w1 q1 s1 rep1 => ?_⟩
  obtain ⟨b, hd, q1⟩ := q1
  exact ⟨b, dp_bool (rep1.dpH (j := 0) rfl rfl hd), k b δ1 H1 G1 _ q1 (s1.trans .drop) rep1.drop⟩
def pOr (p q : PB) : PB := fun δ Q => p δ fun b δ1 => if b = true then Q true δ1 else q δ1 Q
def pNot (p : PB) : PB := fun δ Q => p δ fun b δ1 => Q (!b) δ1
def JW (X : Cx) (B : Bas) (e : Expr) (p : PB) : Prop := PW X e (LB X.K B p)
theorem jw_pt {e : Expr} {p : PB} (h : JW X B e p) : JB X B e p := PW.pt h
theorem jw_or1 {a : Expr} {pos : Pos} {p : PB} (h : JB X B a p) : JW X B (.BoolOp .Or [a] pos) p := pw_or1 h
theorem jw_or {a b : Expr} {rest : List Expr} {pos : Pos} {p q : PB} (ha : JB X B a p) (hb : JW X B (.BoolOp .Or (b :: rest) pos) q) : JW X B (.BoolOp .Or (a :: b :: rest) pos) (pOr p q) := by
  refine PW_wk (pw_or ha hb) fun σ H Q ⟨G, w, δ, Qp, rep, h, k⟩ => ?_
  refine ⟨G, w, δ, _, rep, h, fun b δ1 H1 G1 w1 q1 s1 rep1 => ?_⟩
  cases b with
  | false => exact ⟨G1, w1, δ1, Qp, rep1, q1, fun b δ2 H2 G2 w2 q2 s2 rep2 => k b δ2 H2 G2 w2 q2 (s1.trans s2) rep2⟩
  | true => exact k true δ1 H1 G1 w1 q1 s1 rep1
theorem jb_not {a : Expr} {pos : Pos} {p : PB} (h : JB X B a p) : JB X B (.UnaryOp .Not a pos) (pNot p) := by
  refine PT_wk (pt_not h) fun σ H Q ⟨G, w, δ, Qp, rep, h, k⟩ => ?_
  exact ⟨G, w, δ, _, rep, h, fun b δ1 H1 G1 w1 q1 s1 rep1 => k (!b) δ1 H1 G1 w1 q1 s1 rep1⟩
/-- and, or, not as values: truths -/
def pAndV (p q : PX) : PX := fun δ Q => p δ fun r δ1 => ∃ b, dat δ1 r = some (.bool b) ∧ if b = true then q δ1 Q else Q (.im (.bool false)) δ1
def pNotV (p : PX) : PX := fun δ Q => p δ fun r δ1 => ∃ b, dat δ1 r = some (.bool b) ∧ Q (.im (.bool (!b))) δ1
theorem LE.go {K : PySem.W.Frag} {q : PX} {σ : St} {G H G1 H1 : Hp} {w w1 : Addr → Option Nat} {δ δ1 : List Sl} {vs : List V} {rs : List R} {Qp : QE} {Q : VK} (s1 : Stp B.T G H w δ G1 H1 w1 δ1) (rep1 : Rep K B G1 H1 σ δ1 vs rs w1) (h : q δ1 Qp)
    (k : ∀ r δ' v H' G' w', Qp r δ' → Stp B.T G H w δ G' H' w' δ' → Rep K B G' H' σ δ' [v] [r] w' → Q v H') : LE K B q σ H1 Q :=
  ⟨G1, _, δ1, Qp, rep1.drop, h, fun r δ2 v H2 G2 w2 q2 s2 rep2 => k r δ2 v H2 G2 w2 q2 ((s1.trans .drop).trans s2) rep2⟩
theorem je_one {op} {a : Expr} {pos : Pos} {p : PX} (h : JE X B a p) : JE X B (.BoolOp op [a] pos) p := pe_one h
theorem je_and {a b : Expr} {rest : List Expr} {pos : Pos} {p q : PX} (ha : JE X B a p) (hb : JE X B (.BoolOp .And (b :: rest) pos) q) : JE X B (.BoolOp .And (a :: b :: rest) pos) (pAndV p q) := by
  refine PE_wk (pe_and ha hb) fun σ H Q ⟨G, w, δ, Qp, rep, h, k⟩ => ?_
  refine ⟨G, w, δ, _, rep, h, fun r δ1 v H1 G1 w1 q1 s1 rep1 => ?_⟩
  obtain ⟨b, hd, q1⟩ := q1
  refine ⟨b, dp_bool (rep1.dpH (j := 0) rfl rfl hd), ?_⟩
  cases b with
  | true => exact LE.go s1 rep1 q1 k
  | false => exact k _ δ1 _ H1 G1 _ q1 (s1.trans .drop) (rep1.ret (.bl false))
theorem je_not {a : Expr} {pos : Pos} {p : PX} (h : JE X B a p) : JE X B (.UnaryOp .Not a pos) (pNotV p) := by
  refine PE_wk (pe_not h) fun σ H Q ⟨G, w, δ, Qp, rep, h, k⟩ => ?_
  refine ⟨G, w, δ, _, rep, h, fun r δ1 v H1 G1 w1 q1 s1 rep1 => ?_⟩
  obtain ⟨b, hd, q1⟩ := q1
  exact ⟨b, dp_bool (rep1.dpH (j := 0) rfl rfl hd), k _ δ1 _ H1 G1 _ q1 (s1.trans .drop) (rep1.ret (.bl _))⟩
end
end Pv
/-! Books looked at: what is amiss, first of all. -/
namespace Wf
open PySem PySem.Spec L2
def isT : PyData → Bool
  | .tuple _ => true
  | _ => false
/-! ### what is asked -/
def isWh (lo hi : Int) : PyData → Bool
  | .int i => decide (lo ≤ i) && decide (i ≤ hi)
  | _ => false
def isPr (s : Int) : PyData → Bool
  | .tuple [a, b] => isWh 0 (s - 1) a && isWh 0 (s - 1) b
  | _ => false
/-- the first pace that is amiss -/
def amissP : Int → Nat → List PyData → Option Nat
  | _, _, [] => none
  | lo, k, .int i :: ds => if (decide (lo ≤ i) && decide (i ≤ 1000)) = true then amissP (i + 1) (k + 1) ds else some k
  | _, k, _ :: _ => some k
def paceA : PyData → Option Nat
  | .tuple ds => if 1 ≤ ds.length ∧ ds.length ≤ 5 then amissP (-1000) 0 ds else some 0
  | _ => some 0
/-- the first pair that is amiss -/
def amissT (s : Int) : Nat → List PyData → Option Nat
  | _, [] => none
  | n, d :: ds => if isPr s d = true then amissT s (n + 1) ds else some n
def tableA (s : Int) (k : Nat) : PyData → Option (Str × Int)
  | .tuple ds => if (ds.length : Int) = s * s then (amissT s 0 ds).map fun n => (("pair" : Str), (k : Int) * (s * s) + n) else some ("table", (k : Int))
  | _ => some ("table", (k : Int))
def amissB (s : Int) : Nat → List PyData → Option (Str × Int)
  | _, [] => none
  | k, d :: ds => match tableA s k d with
    | some a => some a
    | none => amissB s (k + 1) ds
def tabsA (m s : Int) : PyData → Option (Str × Int)
  | .tuple ts => if (ts.length : Int) = nT m then amissB s 0 ts else some ("tables", 0)
  | _ => some ("tables", 0)
def lenD : PyData → Int
  | .tuple ds => ds.length
  | _ => 0
def bookA : PyData → Option (Str × Int)
  | .tuple [p, s, t] => match paceA p with
    | some k => some ("paces", (k : Int))
    | none => match s with
      | .int s' => if (decide (1 ≤ s') && decide (s' ≤ 6)) = true then tabsA (lenD p) s' t else some ("sorts", 0)
      | _ => some ("sorts", 0)
  | _ => some ("form", 0)
end Wf
/-! look_table, look_paces, look_book. -/
namespace Wf
open PySem PySem.Spec L2
/-- an error of the class at C with these fields leaves -/
def RzE (C : Addr) (H : Hp) (E : XK) (w : Str) (n : Int) : Prop := ∀ (dd : Addr) (H' : Hp), Same H H' → H dd = none → H' dd = some (.xd [("at", .int n), ("word", .str w)]) → E (.ref C) (some dd) H'
theorem RzE.go {C : Addr} {H H1 : Hp} {E : XK} {w : Str} {n : Int} (r : RzE C H E w n) (s : Same H H1) : ∀ dd, H1 dd = none → E (.ref C) (some dd) (upd H1 dd (.xd [("at", .int n), ("word", .str w)])) := fun dd hd =>
  r dd _ (s.trans (same_new hd)) (s.free hd) upd_same
theorem RzE.same {C : Addr} {H H1 : Hp} {E : XK} {w : Str} {n : Int} (r : RzE C H E w n) (s : Same H H1) : RzE C H1 E w n := fun dd H' s' hd he => r dd H' (s.trans s') (s.free hd) he
end Wf
/-! A def within a def that is handed on: its captured cells stand still while another def calls it. -/
namespace Wf
open PySem PySem.Spec PyProof.Rows L2 LamX NdefX
/-! ### a call of what a slot holds -/
/-! ### tuple.index of numbers -/
/-! ### heaps: all but tables of code -/
theorem ExtN.tp {K : PySem.W.Frag} {H H' : Hp} (e : ExtN H H') : Tp K H H' := fun a xs h => by
  rcases h with (h | ⟨o, h⟩) | h
  · exact .inl (.inl (e _ _ h fun ps z => nomatch z))
  · exact .inl (.inr ⟨o, e _ _ h fun ps z => nomatch z⟩)
  · exact .inr h
/-! ### made_table -/
/-! ### made_table(n, f), f a def made here -/
/-- the rule of a def whose code object is known -/
theorem okC {P : Program} {w : World} {K : PySem.W.Frag} {mg : Str → Option Value} {base : Heap} {CX : CXT} {k : Nat} {f c : Addr} {fd : FuncData} {ps N : List Str} {sp : Sp} {x qual : Str} {params : Arguments} {body : List Stmt} {scope : Scope} {dvs : List V} {kws : List (Str × V)}
    (F : FunD K x qual params body scope dvs kws f fd) (hc : fd.code = .ref c) (S : FnScope N ps scope) (len : ∀ vs H Q E, sp vs H Q E → vs.length = ps.length)
    (hb : ∀ (A : Around) (outer : List Env) (s : Shared) (H : Hp) (vs : List V) (Q : VK) (E : XK), Room k (A.deeper (envOfC qual scope s.heap.objs.size f (.ref c))) → sp vs H Q E →
      ∃ t, PSs (cxOf CX P w K mg base N qual scope f (.ref c) A outer s H E) body t ∧ t (EndsQ Q) (start N vs) H) : FnOk P w K mg base CX (k + 1) f fd ps sp := by
  obtain ⟨oc, od, dV, kV, doc, pm, an, cdv, ct, osl, rfl, lk, hcd, _, _⟩ := F.ex
  have ec : cdv = .ref c := hc
  subst ec
  exact fn_of lk hcd S len fun A outer s H vs Q E hr hsp => hb A outer s H vs Q E hr hsp
/-! ### tuples whose object is known -/
/-- x is a tuple of these numbers, its object known -/
structure NmT (H : Hp) (x : V) (ns : List Int) : Prop where
  ex : ∃ (p : Addr) (o : Obj), x = .ref p ∧ H p = some (.frz o (.tup (ns.map V.int))) ∧ o.cls = .type "tuple" ∧ o.dict = none
theorem NmT.ext {H H' : Hp} {x : V} {ns : List Int} (h : NmT H x ns) (e : ExtN H H') : NmT H' x ns := by
  obtain ⟨p, o, rfl, h1, h2, h3⟩ := h.ex
  exact ⟨p, o, rfl, e _ _ h1 (fun ps z => nomatch z), h2, h3⟩
theorem NmT.sq {K : PySem.W.Frag} {H : Hp} {x : V} {ns : List Int} (h : NmT H x ns) : ∃ p, x = .ref p ∧ SqT K H p (ns.map V.int) := by
  obtain ⟨p, o, rfl, h1, _, _⟩ := h.ex
  exact ⟨p, rfl, .inl (.inr ⟨o, h1⟩)⟩
theorem NmT.dp {K : PySem.W.Frag} {H : Hp} {x : V} {ns : List Int} (h : NmT H x ns) : Dp K H x (dI ns) := by
  obtain ⟨p, rfl, hs⟩ := h.sq (K := K)
  exact .tup hs (dp_ints ns)
end Wf
/-! t * n, t a tuple that is not empty, n from 0 on. -/
namespace Wf
open PySem PySem.Spec PyProof.Rows L2
theorem mul_one (l : Addr) (ws : Array Value) (n : Nat) (dd : Option Addr) (sl : Array (Option Value)) (u : Tok) :
    Meets (Builtin.«tuple.__mul__» ⟨[.ref l, .int 1 u], []⟩) (fun _ R s => s.heap.get? l = some { cls := .type "tuple", dict := dd, data := .seq ws n, slots := sl } ∧ R (.ok (.ret (Value.ref l))) s) :=
  .of_wp fun prog w A R s q => by
    obtain ⟨hp, gn, dr, tk, os⟩ := s
    obtain ⟨hl, q⟩ := q
    have ix := AutoSeq1.idx_int
    have c1 : (ws.isEmpty || (1 : Int) == 1) = true := by rw [Bool.or_comm]; rfl
    wp_walk using wpAny_loadPart' hl
    repeat (first
      | (refine wpAny_ite_true (decide_eq_true c1) ?_; wp_walk using wpAny_loadPart' hl)
      | (refine wpAny_ite_true c1 ?_; wp_walk using wpAny_loadPart' hl))
    exact ⟨_, rfl, q⟩
theorem mul_none (l : Addr) (ws : Array Value) (n : Nat) (dd : Option Addr) (sl : Array (Option Value)) (u : Tok) (he : ws.isEmpty = false) :
    Meets (Builtin.«tuple.__mul__» ⟨[.ref l, .int 0 u], []⟩) (fun _ R s => s.heap.get? l = some { cls := .type "tuple", dict := dd, data := .seq ws n, slots := sl } ∧
      R (.ok (.ret (Value.ref s.heap.objs.size))) { s with heap := s.heap.push { cls := Value.type "tuple", data := Data.seq #[] }, toks := s.toks }) :=
  .of_wp fun prog w A R s q => by
    obtain ⟨hp, gn, dr, tk, os⟩ := s
    obtain ⟨hl, q⟩ := q
    have ix := AutoSeq1.idx_int
    have c1 : (ws.isEmpty || (0 : Int) == 1) = false := by rw [he]; rfl
    wp_walk using wpAny_loadPart' hl
    repeat (first
      | (refine wpAny_ite_false (decide_eq_false (by rw [c1]; exact Bool.false_ne_true)) ?_; wp_walk using wpAny_loadPart' hl)
      | (refine wpAny_ite_true (decide_eq_true rfl) ?_; wp_walk using wpAny_loadPart' hl))
    exact ⟨_, rfl, q⟩
def rRepA (K : PySem.W.Frag) : R2 := fun x y H Q => ∃ l k xs, x = .ref l ∧ y = .int k ∧ SqT K H l xs ∧ xs ≠ [] ∧ 0 ≤ k ∧ k ≤ 1000 ∧ xs.length ≤ 1000 ∧ (k = 1 → Q (.ref l) H) ∧ (k ≠ 1 → ∀ p, H p = none → Q (.ref p) (upd H p (.tup (List.replicate k.toNat xs).flatten)))
theorem op_repA {X : Cx} : OpR X (binaryOp .Mult) (rRepA X.K) := by
  intro pins s σ H x y v u Q I rx ry q
  obtain ⟨l, k, xs, rfl, rfl, hT, hne, k0, k1, hz, q1, q2⟩ := q
  by_cases c2 : 2 ≤ k
  · exact op_repT pins s σ H _ _ v u Q I rx ry ⟨l, k, xs, rfl, rfl, hT, hne, c2, k1, hz, q2 (by omega)⟩
  · cases rx
    obtain ⟨t, rfl⟩ := ry
    obtain ⟨its, r, ⟨⟨cls, dd, dt, sl⟩, ho, hc, n, hd⟩, hs⟩ := I.tuple hT
    simp only at hc hd
    subst hc hd
    have hk : k = 0 ∨ k = 1 := by omega
    have hle : its.length = xs.length := r.length.symm
    rcases hk with rfl | rfl
    · have he : its.toArray.isEmpty = false := by
        cases its with
        | nil => exact absurd (List.eq_nil_of_length_eq_zero hle.symm) hne
        | cons a b => rfl
      refine wpAny_binaryOp_repeat_ref (T := "tuple") (U := "int") (by decide) ⟨_, ho, rfl⟩ (fun s' => typeIs_int s' 0 t) noFill_tuple_mul F.fills_int_mul F.slot_int_rmul repeat_tuple F.slot_int_index.lookup
        (call_meets F.slot_int_rmul (typeIs_int s 0 t) F.entry_int_rmul (F.args_int_rmul_2 _ _) (int_rmul_tuple 0 t l its.toArray n dd sl) ⟨ho, rfl, ⟨_, ho, rfl⟩, call_meets F.slot_tuple_mul ⟨_, ho, rfl⟩ F.entry_tuple_mul (F.args_tuple_mul_2 _ _) (mul_none l its.toArray n dd sl t he) ⟨ho, ?_⟩⟩)
      refine ⟨.ref s.heap.objs.size, _, I.laid (t' := s.toks) (o := .tup []) (fun b ob e => Heap.get?_push_of_some _ e) (Nat.le_refl _) ?_, rfl, q2 (by decide) _ (I.hok.fresh (Nat.le_refl _))⟩
      exact ⟨Nat.zero_le _, [], .nil, IsTup.new _ _⟩
    · refine wpAny_binaryOp_repeat_ref (T := "tuple") (U := "int") (by decide) ⟨_, ho, rfl⟩ (fun s' => typeIs_int s' 1 t) noFill_tuple_mul F.fills_int_mul F.slot_int_rmul repeat_tuple F.slot_int_index.lookup
        (call_meets F.slot_int_rmul (typeIs_int s 1 t) F.entry_int_rmul (F.args_int_rmul_2 _ _) (int_rmul_tuple 1 t l its.toArray n dd sl) ⟨ho, rfl, ⟨_, ho, rfl⟩, call_meets F.slot_tuple_mul ⟨_, ho, rfl⟩ F.entry_tuple_mul (F.args_tuple_mul_2 _ _) (mul_one l its.toArray n dd sl t) ⟨ho, ?_⟩⟩)
      exact ⟨.ref l, H, I, rfl, q1 rfl⟩
end Wf
namespace Pv
open PySem PySem.Spec L2 Wf
variable {B : Bas}
/-! ### operations that read data and give data -/
def dats (δ : List Sl) : List R → Option (List PyData)
  | [] => some []
  | r :: rs => match dat δ r with
    | none => none
    | some d => match dats δ rs with
      | none => none
      | some ds => some (d :: ds)
inductive Vws (K : PySem.W.Frag) (G H : Hp) : List V → List PyData → Prop
  | nil : Vws K G H [] []
  | cons {v : V} {vs : List V} {d : PyData} {ds : List PyData} : Vw K G H v d → Vws K G H vs ds → Vws K G H (v :: vs) (d :: ds)
section
variable {K : PySem.W.Frag} {G H : Hp} {σ : St} {δ : List Sl} {w : Addr → Option Nat}
theorem vws_of : ∀ (rs : List R) (vs : List V) (ds : List PyData), vs.length = rs.length → (∀ (j : Nat) v q d, vs[j]? = some v → rs[j]? = some q → Pv.dat δ q = some d → Vw K G H v d) → dats δ rs = some ds → Vws K G H vs ds
  | [], [], ds, _, _, h => by
    cases h; exact .nil
  | [], v :: vs, ds, hl, _, _ => by simp at hl
  | r :: rs, [], ds, hl, _, _ => by simp at hl
  | r :: rs, v :: vs, ds, hl, hv, h => by
    unfold dats at h
    revert h
    split
    · intro h; cases h
    · rename_i d e
      split
      · intro h; cases h
      · rename_i ds' e'
        intro h; cases h
        exact .cons (hv 0 v r d rfl rfl e) (vws_of rs vs ds' (by simpa using hl) (fun j v' q d' h1 h2 h3 => hv (j + 1) v' q d' (by simpa using h1) (by simpa using h2) h3) e')
theorem Rep.vws {vs : List V} {rs : List R} {ds : List PyData} (r : Rep K B G H σ δ vs rs w) (h : dats δ rs = some ds) : Vws K G H vs ds :=
  vws_of rs vs ds r.tlen (fun _ _ _ _ hv hq hd => r.dat hv hq hd) h
end
/-- the value v of the data d: one that is there, or a new tuple -/
def Res (K : PySem.W.Frag) (G H : Hp) (v : V) (H' : Hp) (d : PyData) : Prop := (H' = H ∧ Dq K G v d) ∨ ∃ p us l, v = .ref p ∧ H p = none ∧ H' = upd H p (.tup us) ∧ DqAll K G us l ∧ d = .tuple l
theorem Res.old {K : PySem.W.Frag} {G H : Hp} {v : V} {d : PyData} (h : Dq K G v d) : Res K G H v H d := .inl ⟨rfl, h⟩
theorem Res.int {K : PySem.W.Frag} {G H : Hp} {i : Int} : Res K G H (.int i) H (.int i) := .inl ⟨rfl, .int i⟩
theorem Res.bool {K : PySem.W.Frag} {G H : Hp} {i : Bool} : Res K G H (.bl i) H (.bool i) := .inl ⟨rfl, .bl i⟩
theorem Res.str {K : PySem.W.Frag} {G H : Hp} {i : Str} : Res K G H (.str i) H (.str i) := .inl ⟨rfl, .str i⟩
def qD (f : List PyData → (PyData → Prop) → Prop) : List R → PX := fun rs δ Q => match dats δ rs with
  | some ds => f ds fun d => Q (.im d) δ
  | none => False
def qL (f : List PyData → (List PyData → Prop) → Prop) : List R → PX := fun rs δ Q => match dats δ rs with
  | some ds => f ds fun l => Q (.ow (.lst l)) δ
  | none => False
theorem dq_newTup {K : PySem.W.Frag} {G H : Hp} {p : Addr} {us : List V} {l : List PyData} (s : Same G H) (hp : H p = none) (h : DqAll K G us l) : Dq K (upd G p (.tup us)) (.ref p) (.tuple l) := by
  have gp : G p = none := by
    cases e : G p with
    | none => rfl
    | some u => rw [s p u e] at hp; cases hp
  exact .tup (SqT.of upd_same) (dpAll_mono (same_new gp) _ _ h)
theorem lc_im {K : PySem.W.Frag} {f : List PyData → (PyData → Prop) → Prop} {r : List V → Hp → VK → Prop}
    (h : ∀ G H vs ds Q, Same G H → Vws K G H vs ds → f ds (fun d => ∀ v H', Res K G H v H' d → Q v H') → (∀ k k' : PyData → Prop, (∀ d, k d → k' d) → f ds k → f ds k') → r vs H Q) (mono : ∀ ds (k k' : PyData → Prop), (∀ d, k d → k' d) → f ds k → f ds k') : LC K (qD f) r := by
  intro B G H σ δ vs rs w Qp Q rep q k
  unfold qD at q
  revert q
  split
  · rename_i ds e
    intro q
    refine h G H vs ds Q rep.sub (rep.vws e) (mono ds _ _ (fun d hd v H' res => ?_) q) (mono ds)
    rcases res with ⟨rfl, hq⟩ | ⟨p, us, l, rfl, hp, rfl, hus, rfl⟩
    · exact k _ δ v _ G _ hd .drop (rep.ret hq)
    · obtain ⟨s1, r1⟩ := rep.retNew hp (dq_newTup rep.sub hp hus)
      exact k _ δ _ _ _ _ hd s1 r1
  · intro q; exact q.elim
theorem lc_own {K : PySem.W.Frag} {f : List PyData → (List PyData → Prop) → Prop} {r : List V → Hp → VK → Prop}
    (h : ∀ G H vs ds Q, Same G H → Vws K G H vs ds → f ds (fun l => ∀ us p, DqAll K G us l → H p = none → Q (.ref p) (upd H p (.lst us))) → r vs H Q) (mono : ∀ ds (k k' : List PyData → Prop), (∀ d, k d → k' d) → f ds k → f ds k') : LC K (qL f) r := by
  intro B G H σ δ vs rs w Qp Q rep q k
  unfold qL at q
  revert q
  split
  · rename_i ds e
    intro q
    refine h G H vs ds Q rep.sub (rep.vws e) (mono ds _ _ (fun l hd us p hus hp => ?_) q)
    obtain ⟨w', s1, r1⟩ := rep.retLst hp hus
    exact k _ δ _ _ _ _ hd s1 r1
  · intro q; exact q.elim
/-- one of two readings -/
def qOr (q q' : List R → PX) : List R → PX := fun rs δ Q => q rs δ Q ∨ q' rs δ Q
theorem lc_or {K : PySem.W.Frag} {q q' : List R → PX} {r r' : R2} (h : LC K q (ap2 r)) (h' : LC K q' (ap2 r')) : LC K (qOr q q') (ap2 fun x y H Q => r x y H Q ∨ r' x y H Q) := by
  intro B G H σ δ vs rs w Qp Q rep hq k
  match vs, hq with
  | [x, y], .inl hq => exact .inl (h G H σ δ [x, y] rs w Qp Q rep hq k)
  | [x, y], .inr hq => exact .inr (h' G H σ δ [x, y] rs w Qp Q rep hq k)
  | [], .inl hq => exact h G H σ δ [] rs w Qp Q rep hq k
  | [], .inr hq => exact h' G H σ δ [] rs w Qp Q rep hq k
  | [x], .inl hq => exact h G H σ δ [x] rs w Qp Q rep hq k
  | [x], .inr hq => exact h' G H σ δ [x] rs w Qp Q rep hq k
  | x :: y :: z :: vs, .inl hq => exact h G H σ δ (x :: y :: z :: vs) rs w Qp Q rep hq k
  | x :: y :: z :: vs, .inr hq => exact h' G H σ δ (x :: y :: z :: vs) rs w Qp Q rep hq k
theorem op_or {X : Cx} {f : Value → Value → Sem Value} {r r' : R2} (h : OpR X f r) (h' : OpR X f r') : OpR X f (fun x y H Q => r x y H Q ∨ r' x y H Q) := by
  intro pins s σ H x y v u Q I rx ry q
  rcases q with q | q
  · exact h pins s σ H x y v u Q I rx ry q
  · exact h' pins s σ H x y v u Q I rx ry q
/-! ### arithmetic -/
def fI2 (C : Int → Int → Prop) (g : Int → Int → PyData) : List PyData → (PyData → Prop) → Prop
  | [.int a, .int b], k => C a b ∧ k (g a b)
  | _, _ => False
theorem fI2_mono {C : Int → Int → Prop} {g : Int → Int → PyData} : ∀ ds (k k' : PyData → Prop), (∀ d, k d → k' d) → fI2 C g ds k → fI2 C g ds k' := by
  intro ds k k' h q
  unfold fI2 at q ⊢
  split at q
  · exact ⟨q.1, h _ q.2⟩
  · exact q.elim
theorem lc_I2 {K : PySem.W.Frag} {C : Int → Int → Prop} {g : Int → Int → PyData} {gv : Int → Int → V} (hg : ∀ a b G, Dq K G (gv a b) (g a b)) : LC K (qD (fI2 C g)) (ap2 (rI C gv)) := by
  refine lc_im (fun G H vs ds Q s hv q _ => ?_) fI2_mono
  unfold fI2 at q
  split at q
  · cases hv with
    | cons h1 hv =>
      cases hv with
      | cons h2 hv =>
        cases hv
        exact ⟨_, _, h1.int, h2.int, q.1, q.2 _ _ (.old (hg _ _ G))⟩
  · exact q.elim
def T2 (_ _ : Int) : Prop := True
theorem rI_0 {g : Int → Int → V} {x y : V} {H : Hp} {Q : VK} (h : rI T2 g x y H Q) : rI0 g x y H Q := by
  obtain ⟨i, j, h1, h2, _, q⟩ := h
  exact ⟨i, j, h1, h2, q⟩
theorem lc_wk {K : PySem.W.Frag} {q : List R → PX} {r r' : R2} (h : LC K q (ap2 r)) (k : ∀ x y H Q, r x y H Q → r' x y H Q) : LC K q (ap2 r') := by
  intro B G H σ δ vs rs w Qp Q rep hq kk
  match vs with
  | [x, y] => exact k x y H Q (h G H σ δ [x, y] rs w Qp Q rep hq kk)
  | [] => exact h G H σ δ [] rs w Qp Q rep hq kk
  | [x] => exact h G H σ δ [x] rs w Qp Q rep hq kk
  | x :: y :: z :: vs => exact h G H σ δ (x :: y :: z :: vs) rs w Qp Q rep hq kk
theorem lc_I0 {K : PySem.W.Frag} {g : Int → Int → PyData} {gv : Int → Int → V} (hg : ∀ a b G, Dq K G (gv a b) (g a b)) : LC K (qD (fI2 T2 g)) (ap2 (rI0 gv)) := lc_wk (lc_I2 hg) fun _ _ _ _ h => rI_0 h
/-- sums: numbers, tuples, texts, lists -/
def fCat : List PyData → (PyData → Prop) → Prop
  | [.tuple a, .tuple b], k => a.length + b.length ≤ sizeLine ∧ k (.tuple (a ++ b))
  | _, _ => False
def fCatL : List PyData → (List PyData → Prop) → Prop
  | [.list a, .list b], k => a.length + b.length ≤ sizeLine ∧ k (a ++ b)
  | _, _ => False
def fCatS : List PyData → (PyData → Prop) → Prop
  | [.str a, .str b], k => a.length + b.length ≤ sizeLine ∧ k (.str (a ++ b))
  | _, _ => False
theorem dqAll_len {K : PySem.W.Frag} {G : Hp} : ∀ {us : List V} {ds : List PyData}, DqAll K G us ds → us.length = ds.length
  | _, _, .nil => rfl
  | _, _, .cons _ h => congrArg (· + 1) (dqAll_len h)
theorem dqAll_append {K : PySem.W.Frag} {G : Hp} : ∀ {us us' : List V} {ds ds' : List PyData}, DqAll K G us ds → DqAll K G us' ds' → DqAll K G (us ++ us') (ds ++ ds')
  | _, _, _, _, .nil, h => h
  | _, _, _, _, .cons h1 h2, h => .cons h1 (dqAll_append h2 h)
theorem dqAll_nil {K : PySem.W.Frag} {G : Hp} {us : List V} (h : DqAll K G us []) : us = [] := by cases h; rfl
theorem dqAll_nil' {K : PySem.W.Frag} {G : Hp} {ds : List PyData} (h : DqAll K G [] ds) : ds = [] := by cases h; rfl
theorem lc_cat {K : PySem.W.Frag} : LC K (qD fCat) (ap2 (rCatA K)) := by
  refine lc_im (fun G H vs ds Q s hv q _ => ?_) (fun ds k k' h q => ?_)
  · unfold fCat at q
    split at q
    · cases hv with
      | cons h1 hv =>
        cases hv with
        | cons h2 hv =>
          cases hv
          obtain ⟨p1, u1, rfl, t1, d1, e1⟩ := h1.seqT s
          obtain ⟨p2, u2, rfl, t2, d2, e2⟩ := h2.seqT s
          have l1 := dqAll_len d1
          have l2 := dqAll_len d2
          refine ⟨p1, p2, u1, u2, rfl, rfl, t1, t2, by omega, fun z => ?_, fun z1 z2 => ?_, fun z1 z2 p hp => ?_⟩
          · subst z
            rw [dqAll_nil' d1, List.nil_append] at q
            exact q.2 _ _ (.old e2)
          · subst z2
            rw [dqAll_nil' d2, List.append_nil] at q
            exact q.2 _ _ (.old e1)
          · exact q.2 _ _ (.inr ⟨p, _, _, rfl, hp, rfl, dqAll_append d1 d2, rfl⟩)
    · exact q.elim
  · unfold fCat at q ⊢
    split at q
    · exact ⟨q.1, h _ q.2⟩
    · exact q.elim
theorem lc_catS {K : PySem.W.Frag} : LC K (qD fCatS) (ap2 fun x y H Q => ∃ i j, x = .str i ∧ y = .str j ∧ i.length + j.length ≤ sizeLine ∧ Q (.str (i ++ j)) H) := by
  refine lc_im (fun G H vs ds Q s hv q _ => ?_) (fun ds k k' h q => ?_)
  · unfold fCatS at q
    split at q
    · cases hv with
      | cons h1 hv =>
        cases hv with
        | cons h2 hv =>
          cases hv
          exact ⟨_, _, h1.str, h2.str, q.1, q.2 _ _ .str⟩
    · exact q.elim
  · unfold fCatS at q ⊢
    split at q
    · exact ⟨q.1, h _ q.2⟩
    · exact q.elim
theorem lc_catL {K : PySem.W.Frag} : LC K (qL fCatL) (ap2 rCat) := by
  refine lc_own (fun G H vs ds Q s hv q => ?_) (fun ds k k' h q => ?_)
  · unfold fCatL at q
    split at q
    · cases hv with
      | cons h1 hv =>
        cases hv with
        | cons h2 hv =>
          cases hv
          obtain ⟨p1, u1, rfl, t1, d1⟩ := h1.seqL s
          obtain ⟨p2, u2, rfl, t2, d2⟩ := h2.seqL s
          have l1 := dqAll_len d1
          have l2 := dqAll_len d2
          exact ⟨p1, p2, u1, u2, rfl, rfl, t1, t2, by omega, fun p hp => q.2 _ p (dqAll_append d1 d2) hp⟩
    · exact q.elim
  · unfold fCatL at q ⊢
    split at q
    · exact ⟨q.1, h _ q.2⟩
    · exact q.elim
/-- the plus of any two -/
def qAddU : List R → PX := fun rs δ Q => match dats δ rs with
  | some [.int a, .int b] => Q (.im (.int (a + b))) δ
  | some [.tuple a, .tuple b] => a.length + b.length ≤ sizeLine ∧ Q (.im (.tuple (a ++ b))) δ
  | some [.list a, .list b] => a.length + b.length ≤ sizeLine ∧ Q (.ow (.lst (a ++ b))) δ
  | some [.str a, .str b] => a.length + b.length ≤ sizeLine ∧ Q (.im (.str (a ++ b))) δ
  | _ => False
theorem LC.wq {K : PySem.W.Frag} {q q' : List R → PX} {r : List V → Hp → VK → Prop} (h : LC K q r) (k : ∀ rs δ Q, q' rs δ Q → q rs δ Q) : LC K q' r := fun {B} G H σ δ vs rs w Qp Q rep hq kk => h G H σ δ vs rs w Qp Q rep (k rs δ Qp hq) kk
def rAddU (K : PySem.W.Frag) : R2 := fun x y H Q => qAdd x y H Q ∨ (rCatA K x y H Q ∨ (rCat x y H Q ∨ ∃ i j, x = .str i ∧ y = .str j ∧ i.length + j.length ≤ sizeLine ∧ Q (.str (i ++ j)) H))
theorem op_addU {X : Cx} : OpR X (binaryOp .Add) (rAddU X.K) := op_or op_add (op_or op_catA (op_or op_cat op_add_str))
theorem lc_addU {K : PySem.W.Frag} : LC K qAddU (ap2 (rAddU K)) := by
  refine LC.wq (lc_or (lc_I0 (g := fun a b => .int (a + b)) fun a b G => .int _) (lc_or lc_cat (lc_or lc_catL lc_catS))) fun rs δ Q h => ?_
  unfold qAddU at h
  split at h
  · rename_i a b e
    exact .inl (by unfold qD; rw [e]; exact ⟨trivial, h⟩)
  · rename_i a b e
    exact .inr (.inl (by unfold qD; rw [e]; exact h))
  · rename_i a b e
    exact .inr (.inr (.inl (by unfold qL; rw [e]; exact h)))
  · rename_i a b e
    exact .inr (.inr (.inr (by unfold qD; rw [e]; exact h)))
  · exact h.elim
section
variable {X : Cx} {a b : Expr} {pos : Pos} {pa pb : PX}
def pAdd (pa pb : PX) : PX := pC qAddU (pCons pa (pCons pb pNil))
theorem je_add (ha : JE X B a pa) (hb : JE X B b pb) : JE X B (.BinOp a .Add b pos) (pAdd pa pb) := je_op op_addU lc_addU ha hb
def pSub (pa pb : PX) : PX := pC (qD (fI2 T2 fun a b => .int (a - b))) (pCons pa (pCons pb pNil))
theorem je_sub (ha : JE X B a pa) (hb : JE X B b pb) : JE X B (.BinOp a .Sub b pos) (pSub pa pb) := je_op op_sub (lc_I0 fun a b G => .int _) ha hb
/-- one factor below 2 ^ 64, or both together below a million bits -/
def CMu (i j : Int) : Prop := CMul i j ∨ CMulW i j
def fRepL : List PyData → (List PyData → Prop) → Prop
  | [.list a, .int n], k => -(2 ^ 63) ≤ n ∧ n < 2 ^ 63 ∧ a.length * n.toNat ≤ sizeLine ∧ k (List.replicate n.toNat a).flatten
  | _, _ => False
def fRepT : List PyData → (PyData → Prop) → Prop
  | [.tuple a, .int n], k => a ≠ [] ∧ 0 ≤ n ∧ n ≤ 1000 ∧ a.length ≤ 1000 ∧ k (.tuple (List.replicate n.toNat a).flatten)
  | _, _ => False
theorem dqAll_rep {K : PySem.W.Frag} {G : Hp} {us : List V} {ds : List PyData} (h : DqAll K G us ds) : ∀ n : Nat, DqAll K G (List.replicate n us).flatten (List.replicate n ds).flatten
  | 0 => .nil
  | n + 1 => by
    rw [List.replicate_succ, List.replicate_succ, List.flatten_cons, List.flatten_cons]
    exact dqAll_append h (dqAll_rep h n)
theorem lc_repL {K : PySem.W.Frag} : LC K (qL fRepL) (ap2 rRep) := by
  refine lc_own (fun G H vs ds Q s hv q => ?_) (fun ds k k' h q => ?_)
  · unfold fRepL at q
    split at q
    · cases hv with
      | cons h1 hv =>
        cases hv with
        | cons h2 hv =>
          cases hv
          obtain ⟨p1, u1, rfl, t1, d1⟩ := h1.seqL s
          have l1 := dqAll_len d1
          exact ⟨p1, _, u1, rfl, h2.int, t1, q.1, q.2.1, by rw [l1]; exact q.2.2.1, fun p hp => q.2.2.2 _ p (dqAll_rep d1 _) hp⟩
    · exact q.elim
  · unfold fRepL at q ⊢
    split at q
    · exact ⟨q.1, q.2.1, q.2.2.1, h _ q.2.2.2⟩
    · exact q.elim
theorem lc_repT {K : PySem.W.Frag} : LC K (qD fRepT) (ap2 (rRepA K)) := by
  refine lc_im (fun G H vs ds Q s hv q _ => ?_) (fun ds k k' h q => ?_)
  · unfold fRepT at q
    split at q
    · rename_i a n k
      cases hv with
      | cons h1 hv =>
        cases hv with
        | cons h2 hv =>
          cases hv
          obtain ⟨p1, u1, rfl, t1, d1, e1⟩ := h1.seqT s
          have l1 := dqAll_len d1
          obtain ⟨q1, q2, q3, q4, q5⟩ := q
          refine ⟨p1, _, u1, rfl, h2.int, t1, fun z => ?_, q2, q3, by omega, fun z => ?_, fun z p hp => ?_⟩
          · subst z; exact q1 (dqAll_nil' d1)
          · subst z
            refine q5 _ _ (.old ?_)
            show Dq K G _ (.tuple (List.replicate 1 a).flatten)
            rw [List.replicate_one, List.flatten_cons, List.flatten_nil, List.append_nil]
            exact e1
          · exact q5 _ _ (.inr ⟨p, _, _, rfl, hp, rfl, dqAll_rep d1 _, rfl⟩)
    · exact q.elim
  · unfold fRepT at q ⊢
    split at q
    · exact ⟨q.1, q.2.1, q.2.2.1, q.2.2.2.1, h _ q.2.2.2.2⟩
    · exact q.elim
def qMulU : List R → PX := fun rs δ Q => match dats δ rs with
  | some [.int a, .int b] => CMu a b ∧ Q (.im (.int (a * b))) δ
  | some [.list a, .int n] => -(2 ^ 63) ≤ n ∧ n < 2 ^ 63 ∧ a.length * n.toNat ≤ sizeLine ∧ Q (.ow (.lst (List.replicate n.toNat a).flatten)) δ
  | some [.tuple a, .int n] => a ≠ [] ∧ 0 ≤ n ∧ n ≤ 1000 ∧ a.length ≤ 1000 ∧ Q (.im (.tuple (List.replicate n.toNat a).flatten)) δ
  | _ => False
def rMulU (K : PySem.W.Frag) : R2 := fun x y H Q => (qMul x y H Q ∨ rI CMulW (fun i j => .int (i * j)) x y H Q) ∨ (rRep x y H Q ∨ rRepA K x y H Q)
theorem op_mulU : OpR X (binaryOp .Mult) (rMulU X.K) := op_or (op_or op_mul op_mulW) (op_or op_rep op_repA)
theorem lc_mulU {K : PySem.W.Frag} : LC K qMulU (ap2 (rMulU K)) := by
  refine LC.wq (lc_or (lc_or (lc_I2 (C := CMul) (g := fun a b => .int (a * b)) fun a b G => .int _) (lc_I2 (C := CMulW) (g := fun a b => .int (a * b)) fun a b G => .int _)) (lc_or lc_repL lc_repT)) fun rs δ Q h => ?_
  unfold qMulU at h
  split at h
  · rename_i a b e
    rcases h with ⟨h1 | h1, h⟩
    · exact .inl (.inl (by unfold qD; rw [e]; exact ⟨h1, h⟩))
    · exact .inl (.inr (by unfold qD; rw [e]; exact ⟨h1, h⟩))
  · rename_i a b e
    exact .inr (.inl (by unfold qL; rw [e]; exact h))
  · rename_i a b e
    exact .inr (.inr (by unfold qD; rw [e]; exact h))
  · exact h.elim
def pMul (pa pb : PX) : PX := pC qMulU (pCons pa (pCons pb pNil))
theorem je_mul (ha : JE X B a pa) (hb : JE X B b pb) : JE X B (.BinOp a .Mult b pos) (pMul pa pb) := je_op op_mulU lc_mulU ha hb
def pFdiv (pa pb : PX) : PX := pC (qD (fI2 CDivW fun a b => .int (a / b))) (pCons pa (pCons pb pNil))
theorem je_fdiv (ha : JE X B a pa) (hb : JE X B b pb) : JE X B (.BinOp a .FloorDiv b pos) (pFdiv pa pb) := je_op op_fdivW (lc_I2 fun a b G => .int _) ha hb
def CMod (_ j : Int) : Prop := 0 < j
def pMod (pa pb : PX) : PX := pC (qD (fI2 CMod fun a b => .int (a % b))) (pCons pa (pCons pb pNil))
theorem je_mod (ha : JE X B a pa) (hb : JE X B b pb) : JE X B (.BinOp a .Mod b pos) (pMod pa pb) := je_op op_mod (lc_I2 fun a b G => .int _) ha hb
def pPow (pa pb : PX) : PX := pC (qD (fI2 CPow fun a b => .int (a ^ b.toNat))) (pCons pa (pCons pb pNil))
theorem je_pow (ha : JE X B a pa) (hb : JE X B b pb) : JE X B (.BinOp a .Pow b pos) (pPow pa pb) := je_op op_pow (lc_I2 fun a b G => .int _) ha hb
def fNeg : List PyData → (PyData → Prop) → Prop
  | [.int a], k => k (.int (-a))
  | _, _ => False
theorem lc_neg {K : PySem.W.Frag} : LC K (qD fNeg) (ap1 qNeg) := by
  refine lc_im (fun G H vs ds Q s hv q _ => ?_) (fun ds k k' h q => ?_)
  · unfold fNeg at q
    split at q
    · cases hv with
      | cons h1 hv =>
        cases hv
        exact ⟨_, h1.int, q _ _ .int⟩
    · exact q.elim
  · unfold fNeg at q ⊢
    split at q
    · exact h _ q
    · exact q.elim
def pNeg (pa : PX) : PX := pC (qD fNeg) (pCons pa pNil)
theorem je_neg (ha : JE X B a pa) : JE X B (.UnaryOp .USub a pos) (pNeg pa) := je_un un_neg lc_neg ha
/-! ### comparisons -/
def pCmp (f : Int → Int → Bool) (pa pb : PX) : PX := pC (qD (fI2 T2 fun a b => .bool (f a b))) (pCons pa (pCons pb pNil))
abbrev pLt := pCmp fun a b => decide (a < b)
abbrev pLe := pCmp fun a b => decide (a ≤ b)
abbrev pGt := pCmp fun a b => decide (b < a)
theorem je_lt (ha : JE X B a pa) (hb : JE X B b pb) : JE X B (.Compare a [.Lt] [b] pos) (pLt pa pb) := je_cmp op_lt (lc_I0 fun a b G => .bl _) ha hb (nomark _)
theorem je_le (ha : JE X B a pa) (hb : JE X B b pb) : JE X B (.Compare a [.LtE] [b] pos) (pLe pa pb) := je_cmp op_le (lc_I0 fun a b G => .bl _) ha hb (nomark _)
theorem jb_lt (ha : JE X B a pa) (hb : JE X B b pb) : JB X B (.Compare a [.Lt] [b] pos) (pT (pLt pa pb)) := jb_cmp op_lt (lc_I0 fun a b G => .bl _) ha hb (nomark _)
theorem jb_le (ha : JE X B a pa) (hb : JE X B b pb) : JB X B (.Compare a [.LtE] [b] pos) (pT (pLe pa pb)) := jb_cmp op_le (lc_I0 fun a b G => .bl _) ha hb (nomark _)
theorem jb_gt (ha : JE X B a pa) (hb : JE X B b pb) : JB X B (.Compare a [.Gt] [b] pos) (pT (pGt pa pb)) := jb_cmp op_gt (lc_I0 fun a b G => .bl _) ha hb (nomark _)
/-- equal: of any data -/
def eqd (x y : PyData) : Bool := PyData.eqv x y
def fEq (neg : Bool) : List PyData → (PyData → Prop) → Prop
  | [.int a, .int b], k => k (.bool (if neg then !decide (a = b) else decide (a = b)))
  | [.str a, .str b], k => k (.bool (if neg then !decide (a = b) else decide (a = b)))
  | [a, b], k => SeqAt.shaped a = true ∧ SeqAt.shaped b = true ∧ k (.bool (if neg then !eqd a b else eqd a b))
  | _, _ => False
theorem fEq_mono {neg : Bool} : ∀ ds (k k' : PyData → Prop), (∀ d, k d → k' d) → fEq neg ds k → fEq neg ds k' := by
  intro ds k k' h q
  unfold fEq at q ⊢
  split at q
  · exact h _ q
  · exact h _ q
  · exact ⟨q.1, q.2.1, h _ q.2.2⟩
  · exact q.elim
def rEqU (K : PySem.W.Frag) : R2 := fun x y H Q => rEq x y H Q ∨ rEqD K x y H Q
def rNeU (K : PySem.W.Frag) : R2 := fun x y H Q => rNe x y H Q ∨ rNeD K x y H Q
theorem dec_int {a b : Int} : decide (V.int a = V.int b) = decide (a = b) := by
  by_cases h : a = b
  · subst h; simp
  · rw [decide_eq_false h, decide_eq_false fun z => h (V.int.inj z)]
theorem dec_str {a b : Str} : decide (V.str a = V.str b) = decide (a = b) := by
  by_cases h : a = b
  · subst h; simp
  · rw [decide_eq_false h, decide_eq_false fun z => h (V.str.inj z)]
theorem lc_eqU {K : PySem.W.Frag} : LC K (qD (fEq false)) (ap2 (rEqU K)) := by
  refine lc_im (fun G H vs ds Q s hv q _ => ?_) fEq_mono
  unfold fEq at q
  split at q
  · cases hv with
    | cons h1 hv =>
      cases hv with
      | cons h2 hv =>
        cases hv
        refine .inl ⟨by rw [h1.int, h2.int]; rfl, ?_⟩
        rw [h1.int, h2.int, dec_int]
        exact q _ _ .bool
  · cases hv with
    | cons h1 hv =>
      cases hv with
      | cons h2 hv =>
        cases hv
        refine .inl ⟨by rw [h1.str, h2.str]; rfl, ?_⟩
        rw [h1.str, h2.str, dec_str]
        exact q _ _ .bool
  · cases hv with
    | cons h1 hv =>
      cases hv with
      | cons h2 hv =>
        cases hv
        exact .inr ⟨_, _, h1.dp s, h2.dp s, q.1, q.2.1, q.2.2 _ _ .bool⟩
  · exact q.elim
theorem lc_neU {K : PySem.W.Frag} : LC K (qD (fEq true)) (ap2 (rNeU K)) := by
  refine lc_im (fun G H vs ds Q s hv q _ => ?_) fEq_mono
  unfold fEq at q
  split at q
  · cases hv with
    | cons h1 hv =>
      cases hv with
      | cons h2 hv =>
        cases hv
        refine .inl ⟨by rw [h1.int, h2.int]; rfl, ?_⟩
        rw [h1.int, h2.int, dec_int]
        exact q _ _ .bool
  · cases hv with
    | cons h1 hv =>
      cases hv with
      | cons h2 hv =>
        cases hv
        refine .inl ⟨by rw [h1.str, h2.str]; rfl, ?_⟩
        rw [h1.str, h2.str, dec_str]
        exact q _ _ .bool
  · cases hv with
    | cons h1 hv =>
      cases hv with
      | cons h2 hv =>
        cases hv
        exact .inr ⟨_, _, h1.dp s, h2.dp s, q.1, q.2.1, q.2.2 _ _ .bool⟩
  · exact q.elim
theorem op_eqU (hu : X.A.units + 64 < cLine) : OpR X (compareOp .Eq) (rEqU X.K) := op_or op_eq (op_eqD hu)
theorem op_neU (hu : X.A.units + 64 < cLine) : OpR X (compareOp .NotEq) (rNeU X.K) := op_or op_ne (op_neD hu)
def pEq (neg : Bool) (pa pb : PX) : PX := pC (qD (fEq neg)) (pCons pa (pCons pb pNil))
theorem je_ne {j : Nat} (hr : Room j X.A) (ha : JE X B a pa) (hb : JE X B b pb) : JE X B (.Compare a [.NotEq] [b] pos) (pEq true pa pb) := je_cmp (op_neU hr.units) lc_neU ha hb (nomark _)
theorem jb_eq {j : Nat} (hr : Room j X.A) (ha : JE X B a pa) (hb : JE X B b pb) : JB X B (.Compare a [.Eq] [b] pos) (pT (pEq false pa pb)) := jb_cmp (op_eqU hr.units) lc_eqU ha hb (nomark _)
theorem jb_ne {j : Nat} (hr : Room j X.A) (ha : JE X B a pa) (hb : JE X B b pb) : JB X B (.Compare a [.NotEq] [b] pos) (pT (pEq true pa pb)) := jb_cmp (op_neU hr.units) lc_neU ha hb (nomark _)
/-! ### items -/
def fIx : List PyData → (PyData → Prop) → Prop
  | [.list ds, .int i], k => ∃ d, atI ds i = some d ∧ k d
  | [.tuple ds, .int i], k => ∃ d, atI ds i = some d ∧ k d
  | _, _ => False
theorem dqAll_get {K : PySem.W.Frag} {G : Hp} : ∀ {us : List V} {ds : List PyData} {i : Nat} {d : PyData}, DqAll K G us ds → ds[i]? = some d → ∃ v, us[i]? = some v ∧ Dq K G v d
  | _, _, _, _, .nil, e => by simp at e
  | _, _, 0, _, .cons h _, e => by simp at e; subst e; exact ⟨_, rfl, h⟩
  | _, _, i + 1, _, .cons _ h, e => by
    obtain ⟨v, e1, e2⟩ := dqAll_get (i := i) h (by simpa using e)
    exact ⟨v, by simpa using e1, e2⟩
theorem dqAll_at {K : PySem.W.Frag} {G : Hp} {us : List V} {ds : List PyData} {i : Int} {d : PyData} (h : DqAll K G us ds) (e : atI ds i = some d) : ∃ v, atI us i = some v ∧ Dq K G v d := by
  unfold atI at e ⊢
  rw [dqAll_len h]
  cases q : ixN ds.length i with
  | none => rw [q] at e; cases e
  | some j =>
    rw [q] at e
    exact dqAll_get h e
theorem lc_ix {K : PySem.W.Frag} : LC K (qD fIx) (ap2 (rIx K)) := by
  refine lc_im (fun G H vs ds Q s hv q _ => ?_) (fun ds k k' h q => ?_)
  · unfold fIx at q
    split at q
    · cases hv with
      | cons h1 hv =>
        cases hv with
        | cons h2 hv =>
          cases hv
          obtain ⟨d, e, q⟩ := q
          obtain ⟨p1, u1, rfl, t1, d1⟩ := h1.seqL s
          obtain ⟨v, e2, hd⟩ := dqAll_at d1 e
          exact .inl ⟨p1, u1, _, v, rfl, h2.int, SqL.of t1, e2, q _ _ (.old hd)⟩
    · cases hv with
      | cons h1 hv =>
        cases hv with
        | cons h2 hv =>
          cases hv
          obtain ⟨d, e, q⟩ := q
          obtain ⟨p1, u1, rfl, t1, d1, _⟩ := h1.seqT s
          obtain ⟨v, e2, hd⟩ := dqAll_at d1 e
          exact .inr (.inl ⟨p1, u1, _, v, rfl, h2.int, t1, e2, q _ _ (.old hd)⟩)
    · exact q.elim
  · unfold fIx at q ⊢
    split at q
    · obtain ⟨d, e, q⟩ := q; exact ⟨d, e, h _ q⟩
    · obtain ⟨d, e, q⟩ := q; exact ⟨d, e, h _ q⟩
    · exact q.elim
def pIx (pa pb : PX) : PX := pC (qD fIx) (pCons pa (pCons pb pNil))
theorem je_ix (ha : JE X B a pa) (hb : JE X B b pb) (hs : PlainIx b) : JE X B (.Subscript a b pos) (pIx pa pb) := PE_wk (pe_ix ix_seq ha hb hs) fun σ H Q h => lc_two lc_ix h
end
/-! ### is -/
end Pv
namespace Pv
open PySem PySem.Spec L2 Wf
variable {B : Bas}
/-! ### a list of one's own that changes no more -/
def fz (δ : List Sl) : R → Option (PyData × List Sl)
  | .im d => some (d, δ)
  | .ow (.lst ds) => some (.list ds, δ)
  | .ow (.ptl ds) => some (.tuple ds, δ)
  | .ow _ => none
  | .at i => match δ[i]? with
    | some (.im d) => some (d, δ)
    | some (.ow false (.lst ds)) => some (.list ds, δ.set i (.im (.list ds)))
    | some (.ow _ (.ptl ds)) => some (.tuple ds, δ)
    | _ => none
def fzAll : List Sl → List R → Option (List PyData × List Sl)
  | δ, [] => some ([], δ)
  | δ, r :: rs => match fz δ r with
    | none => none
    | some (d, δ1) => match fzAll δ1 rs with
      | none => none
      | some (ds, δ2) => some (d :: ds, δ2)
section
variable {K : PySem.W.Frag} {G H : Hp} {σ : St} {δ : List Sl} {vs : List V} {rs : List R} {w : Addr → Option Nat}
/-- what was n's, now nobody's, its list public -/
def freed (w : Addr → Option Nat) (n : Nat) (a : Addr) : Option Nat := if w a = some n then none else w a
theorem freed_ne {w : Addr → Option Nat} {n m : Nat} {a : Addr} (h : w a = some m) (hn : m ≠ n) : freed w n a = some m := by
  unfold freed
  rw [if_neg (by rw [h]; intro z; cases z; exact hn rfl)]
  exact h
theorem of_freed {w : Addr → Option Nat} {n m : Nat} {a : Addr} (h : freed w n a = some m) : w a = some m ∧ m ≠ n := by
  unfold freed at h
  split at h
  · cases h
  · rename_i z
    exact ⟨h, fun e => z (by rw [h, e])⟩
theorem Rep.frees (r : Rep K B G H σ δ vs rs w) {n : Nat} {a : Addr} {us : List V} {δ' : List Sl} (ha : H a = some (.lst us)) (hw : w a = some n) (pn : Pn δ δ') :
    Same G (upd G a (.lst us)) ∧ Stp B.T G H w δ (upd G a (.lst us)) H (freed w n) δ' ∧ Same (upd G a (.lst us)) H ∧ (∀ x i, freed w n x = some i → upd G a (.lst us) x = none ∧ H x ≠ none ∧ NoX H x) := by
  have g0 := (r.out a n hw).1
  have sg : Same G (upd G a (.lst us)) := same_new g0
  refine ⟨sg, .of ⟨sg, fun _ _ _ h => h, fun x i h => .inl (by rw [(of_freed h).1]; exact Option.some_ne_none _), fun x o h => ?_, pn⟩ .refl (q_new nofun), fun x o h => ?_, fun x i h => ?_⟩
  · by_cases e : x = a
    · subst e; exact .inr (.inr (.inl (by rw [hw]; exact Option.some_ne_none _)))
    · rw [upd_ne e] at h; exact .inl h
  · by_cases e : x = a
    · subst e; rw [upd_same] at h; cases h; exact ha
    · rw [upd_ne e] at h; exact r.sub x o h
  · obtain ⟨h1, h2⟩ := of_freed h
    have e : x ≠ a := fun z => by subst z; rw [hw] at h1; cases h1; exact h2 rfl
    rw [upd_ne e]
    exact r.out x i h1
theorem pn_set {δ : List Sl} {i : Nat} {s : Sl} (h : ∀ o, δ[i]? ≠ some (.ow true o)) : Pn δ (δ.set i s) := fun j o hj => by
  by_cases e : i = j
  · subst e; exact absurd hj (h o)
  · exact ⟨o, by rw [List.getElem?_set_ne e]; exact hj⟩
theorem Rep.fz1 (r : Rep K B G H σ δ vs rs w) {j : Nat} {v : V} {q : R} {d : PyData} {δ' : List Sl} (hv : vs[j]? = some v) (hq : rs[j]? = some q) (h : fz δ q = some (d, δ')) :
    ∃ G' w', Stp B.T G H w δ G' H w' δ' ∧ Rep K B G' H σ δ' vs (rs.set j (.im d)) w' := by
  have hj : j < rs.length := (List.getElem?_eq_some_iff.mp hq).1
  have t := r.tm j v q hv hq
  have others : ∀ {G' : Hp} {w' : Addr → Option Nat}, Same G G' → (∀ a k, w a = some k → k ≠ 2 * j + 1 → k % 2 = 1 → w' a = some k) → Dq K G' v d → ∀ (k : Nat) u p, vs[k]? = some u → (rs.set j (.im d))[k]? = some p → RR K G' H σ (fun a => w' a = some (2 * k + 1)) u p := by
    intro G' w' sg hw' hd k u p hu hp
    by_cases e : j = k
    · subst e
      rw [List.getElem?_set_self hj] at hp
      cases hp
      rw [hv] at hu
      cases hu
      exact hd
    · rw [List.getElem?_set_ne e] at hp
      exact (r.tm k u p hu hp).mono sg (fun _ _ _ h => h) fun a o ma _ => hw' a _ ma (by omega) (by omega)
  cases q with
  | im d' =>
    cases h
    exact ⟨G, w, .refl, r.sub, r.out, r.len, r.sl, by rw [List.length_set]; exact r.tlen, others (fun _ _ h => h) (fun a k h _ _ => h) t, r.bs⟩
  | ow o =>
    cases o with
    | lst ds =>
      cases h
      obtain ⟨a, us, rfl, ma, ha, hds⟩ := t
      obtain ⟨sg, st, sh, ho⟩ := r.frees (δ' := δ) ha ma (.refl _)
      refine ⟨_, _, st, sh, ho, r.len, fun i s hs => ?_, by rw [List.length_set]; exact r.tlen, others sg (fun a k h1 h2 _ => freed_ne h1 h2) (.lst upd_same (dpAll_mono sg _ _ hds)), st.bs r.bs⟩
      exact (r.sl i s hs).mono sg (fun _ _ _ h => h) fun a o mb _ => freed_ne mb (by omega)
    | deal => cases h
    | scr ns => cases h
    | lam F => cases h
    | dic ks ds => cases h
    | dct r ks ds => cases h
    | ptl ds =>
      cases h
      exact ⟨G, w, .refl, r.sub, r.out, r.len, r.sl, by rw [List.length_set]; exact r.tlen, others (fun _ _ h => h) (fun a k h _ _ => h) (ptl_dq t), r.bs⟩
  | «at» i =>
    have t' : σ[i]? = some (some v) := t
    simp only [fz] at h
    revert h
    split
    · rename_i d' e
      intro h
      cases h
      obtain ⟨u, hu, hd⟩ := r.sl i _ e
      rw [t'] at hu
      cases hu
      exact ⟨G, w, .refl, r.sub, r.out, r.len, r.sl, by rw [List.length_set]; exact r.tlen, others (fun _ _ h => h) (fun a k h _ _ => h) hd, r.bs⟩
    · rename_i ds e
      intro h
      cases h
      obtain ⟨u, hu, a, us, rfl, ma, ha, hds⟩ := r.sl i _ e
      rw [t'] at hu
      cases hu
      obtain ⟨sg, st, sh, ho⟩ := r.frees (δ' := δ.set i (.im (.list ds))) ha ma (pn_set fun o z => by rw [e] at z; cases z)
      have hd : Dq K (upd G a (.lst us)) (.ref a) (.list ds) := .lst upd_same (dpAll_mono sg _ _ hds)
      refine ⟨_, _, st, sh, ho, by rw [List.length_set]; exact r.len, fun k s hs => ?_, by rw [List.length_set]; exact r.tlen, others sg (fun a k h1 h2 h3 => freed_ne h1 (by omega)) hd, st.bs r.bs⟩
      by_cases ek : i = k
      · subst ek
        rw [List.getElem?_set_self (List.getElem?_eq_some_iff.mp e).1] at hs
        cases hs
        exact ⟨_, t', hd⟩
      · rw [List.getElem?_set_ne ek] at hs
        exact (r.sl k s hs).mono sg (fun _ _ _ h => h) fun a o mb _ => freed_ne mb (by omega)
    · rename_i b ds e
      intro h
      cases h
      obtain ⟨u, hu, hd⟩ := r.sl i _ e
      rw [t'] at hu
      cases hu
      exact ⟨G, w, .refl, r.sub, r.out, r.len, r.sl, by rw [List.length_set]; exact r.tlen, others (fun _ _ h => h) (fun a k h _ _ => h) (ptl_dq hd), r.bs⟩
    · intro h; cases h
theorem Rep.fzGo : ∀ (rs2 : List R) (rs1 : List R) {G : Hp} {δ δ' : List Sl} {w : Addr → Option Nat} {ds : List PyData}, Rep K B G H σ δ vs (rs1 ++ rs2) w → fzAll δ rs2 = some (ds, δ') → ∃ G' w', Stp B.T G H w δ G' H w' δ' ∧ Rep K B G' H σ δ' vs (rs1 ++ ds.map .im) w'
  | [], rs1, G, δ, δ', w, ds, r, h => by
    cases h
    exact ⟨G, w, .refl, r⟩
  | q :: rs2, rs1, G, δ, δ', w, ds, r, h => by
    unfold fzAll at h
    revert h
    split
    · intro h; cases h
    · rename_i d δ1 e
      split
      · intro h; cases h
      · rename_i ds' δ2 e2
        intro h
        cases h
        have hq : (rs1 ++ q :: rs2)[rs1.length]? = some q := by simp
        have hl : rs1.length < vs.length := by rw [r.tlen, List.length_append, List.length_cons]; omega
        obtain ⟨G1, w1, s1, r1⟩ := r.fz1 (v := vs[rs1.length]) (List.getElem?_eq_getElem hl) hq e
        have e3 : (rs1 ++ q :: rs2).set rs1.length (.im d) = (rs1 ++ [.im d]) ++ rs2 := by
          rw [List.set_append_right _ _ (Nat.le_refl _), Nat.sub_self, List.set_cons_zero, List.append_assoc]
          rfl
        rw [e3] at r1
        obtain ⟨G2, w2, s2, r2⟩ := Rep.fzGo rs2 (rs1 ++ [.im d]) r1 e2
        refine ⟨G2, w2, s1.trans s2, ?_⟩
        rw [List.append_assoc] at r2
        exact r2
theorem Rep.fzs (r : Rep K B G H σ δ vs rs w) {ds : List PyData} {δ' : List Sl} (h : fzAll δ rs = some (ds, δ')) : ∃ G' w', Stp B.T G H w δ G' H w' δ' ∧ Rep K B G' H σ δ' vs (ds.map .im) w' := by
  have := Rep.fzGo rs [] (by simpa using r) h
  simpa using this
theorem Rep.ims {ds : List PyData} (r : Rep K B G H σ δ vs (ds.map .im) w) : DqAll K G vs ds := by
  have hl : vs.length = ds.length := by have := r.tlen; rwa [List.length_map] at this
  have go : ∀ (vs : List V) (ds : List PyData), vs.length = ds.length → (∀ (j : Nat) v d, vs[j]? = some v → ds[j]? = some d → Dq K G v d) → DqAll K G vs ds := by
    intro vs
    induction vs with
    | nil =>
      intro ds hl _
      cases ds with
      | nil => exact .nil
      | cons => simp at hl
    | cons v vs ih =>
      intro ds hl h
      cases ds with
      | nil => simp at hl
      | cons d ds => exact .cons (h 0 v d rfl rfl) (ih ds (by simpa using hl) fun j v' d' h1 h2 => h (j + 1) v' d' (by simpa using h1) (by simpa using h2))
  refine go vs ds hl fun j v d hv hd => ?_
  exact r.tm j v (.im d) hv (by rw [List.getElem?_map, hd]; rfl)
end
/-! ### displays -/
def qTup : List R → PX := fun rs δ Q => match fzAll δ rs with
  | some (ds, δ') => Q (.im (.tuple ds)) δ'
  | none => False
def qLst : List R → PX := fun rs δ Q => match fzAll δ rs with
  | some (ds, δ') => Q (.ow (.lst ds)) δ'
  | none => False
section
variable {X : Cx}
def pTup (ps : PL) : PX := pC qTup ps
def pLst (ps : PL) : PX := pC qLst ps
theorem je_tup {es : List Expr} {ps : PL} {x1} {pos : Pos} (h : JA X B es ps) (hl : es.length ≤ sizeLine := by decide) : JE X B (.Tuple es x1 pos) (pTup ps) := by
  refine PE_wk (pe_tup h) fun σ H Q ⟨G, w, δ, Qp, rep, q, k⟩ => ?_
  refine ⟨G, w, δ, _, rep, q, fun rs δ1 vs H1 G1 w1 q1 l1 s1 rep1 => ?_⟩
  unfold qTup at q1
  revert q1
  split
  · rename_i ds δ2 e
    intro q1
    obtain ⟨G2, w2, s2, r2⟩ := rep1.fzs e
    refine ⟨by rw [rep1.tlen, l1]; exact hl, fun p hp => ?_⟩
    obtain ⟨s3, r3⟩ := r2.retNew hp (dq_newTup r2.sub hp r2.ims)
    exact k _ _ _ _ _ _ q1 ((s1.trans s2).trans s3) r3
  · intro q1; exact q1.elim
theorem je_lst {es : List Expr} {ps : PL} {pos : Pos} (h : JA X B es ps) (hl : es.length ≤ sizeLine := by decide) : JE X B (.List es pos) (pLst ps) := by
  refine PE_wk (pe_lst h) fun σ H Q ⟨G, w, δ, Qp, rep, q, k⟩ => ?_
  refine ⟨G, w, δ, _, rep, q, fun rs δ1 vs H1 G1 w1 q1 l1 s1 rep1 => ?_⟩
  unfold qLst at q1
  revert q1
  split
  · rename_i ds δ2 e
    intro q1
    obtain ⟨G2, w2, s2, r2⟩ := rep1.fzs e
    refine ⟨by rw [rep1.tlen, l1]; exact hl, fun p hp => ?_⟩
    obtain ⟨w3, s3, r3⟩ := r2.retLst hp r2.ims
    exact k _ _ _ _ _ _ q1 ((s1.trans s2).trans s3) r3
  · intro q1; exact q1.elim
/-! ### built-ins -/
theorem lc_im1 {K : PySem.W.Frag} {f : PyData → (PyData → Prop) → Prop} {r : List V → Hp → VK → Prop} (h : ∀ G H v d Q, Same G H → Vw K G H v d → f d (fun e => ∀ u H', Res K G H u H' e → Q u H') → r [v] H Q) (mono : ∀ d (k k' : PyData → Prop), (∀ e, k e → k' e) → f d k → f d k') :
    LC K (qD fun ds k => match ds with | [d] => f d k | _ => False) r := by
  refine lc_im (fun G H vs ds Q s hv q _ => ?_) (fun ds k k' hk q => ?_)
  · match ds, hv, q with
    | [d], .cons h1 .nil, q => exact h G H _ d Q s h1 q
    | [], _, q => exact q.elim
    | _ :: _ :: _, _, q => exact q.elim
  · match ds, q with
    | [d], q => exact mono d k k' hk q
    | [], q => exact q.elim
    | _ :: _ :: _, q => exact q.elim
theorem lc_im2 {K : PySem.W.Frag} {f : PyData → PyData → (PyData → Prop) → Prop} {r : List V → Hp → VK → Prop} (h : ∀ G H v u d e Q, Same G H → Vw K G H v d → Vw K G H u e → f d e (fun e => ∀ u H', Res K G H u H' e → Q u H') → r [v, u] H Q) (mono : ∀ d e (k k' : PyData → Prop), (∀ e, k e → k' e) → f d e k → f d e k') :
    LC K (qD fun ds k => match ds with | [d, e] => f d e k | _ => False) r := by
  refine lc_im (fun G H vs ds Q s hv q _ => ?_) (fun ds k k' hk q => ?_)
  · match ds, hv, q with
    | [d, e], .cons h1 (.cons h2 .nil), q => exact h G H _ _ d e Q s h1 h2 q
    | [], _, q => exact q.elim
    | [_], _, q => exact q.elim
    | _ :: _ :: _ :: _, _, q => exact q.elim
  · match ds, q with
    | [d, e], q => exact mono d e k k' hk q
    | [], q => exact q.elim
    | [_], q => exact q.elim
    | _ :: _ :: _ :: _, q => exact q.elim
theorem lc_own1 {K : PySem.W.Frag} {f : PyData → (List PyData → Prop) → Prop} {r : List V → Hp → VK → Prop} (h : ∀ G H v d Q, Same G H → Vw K G H v d → f d (fun l => ∀ us p, DqAll K G us l → H p = none → Q (.ref p) (upd H p (.lst us))) → r [v] H Q) (mono : ∀ d (k k' : List PyData → Prop), (∀ e, k e → k' e) → f d k → f d k') :
    LC K (qL fun ds k => match ds with | [d] => f d k | _ => False) r := by
  refine lc_own (fun G H vs ds Q s hv q => ?_) (fun ds k k' hk q => ?_)
  · match ds, hv, q with
    | [d], .cons h1 .nil, q => exact h G H _ d Q s h1 q
    | [], _, q => exact q.elim
    | _ :: _ :: _, _, q => exact q.elim
  · match ds, q with
    | [d], q => exact mono d k k' hk q
    | [], q => exact q.elim
    | _ :: _ :: _, q => exact q.elim
abbrev q1 (f : PyData → (PyData → Prop) → Prop) : List R → PX := qD fun ds k => match ds with | [d] => f d k | _ => False
abbrev q2 (f : PyData → PyData → (PyData → Prop) → Prop) : List R → PX := qD fun ds k => match ds with | [d, e] => f d e k | _ => False
abbrev q1L (f : PyData → (List PyData → Prop) → Prop) : List R → PX := qL fun ds k => match ds with | [d] => f d k | _ => False
def fLen : PyData → (PyData → Prop) → Prop
  | .list ds, k => k (.int ds.length)
  | .tuple ds, k => k (.int ds.length)
  | .str x, k => x.length ≤ sizeLine ∧ k (.int x.length)
  | _, _ => False
theorem lc_len {K : PySem.W.Frag} : LC K (q1 fLen) (qLen K) := by
  refine lc_im1 (fun G H v d Q s hv q => ?_) (fun d k k' hk q => ?_)
  · cases d with
    | list ds =>
      obtain ⟨a, us, rfl, ha, hds⟩ := hv.seqL s
      exact ⟨_, ds.length, rfl, .inl ⟨us, SqL.of ha, (dqAll_len hds).symm⟩, q _ _ .int⟩
    | tuple ds =>
      obtain ⟨a, us, rfl, ha, hds, _⟩ := hv.seqT s
      exact ⟨_, ds.length, rfl, .inr ⟨us, ha, (dqAll_len hds).symm⟩, q _ _ .int⟩
    | str x => exact ⟨v, x.length, rfl, by rw [hv.str]; exact ⟨q.1, rfl⟩, q.2 _ _ .int⟩
    | none => exact q.elim
    | bool b => exact q.elim
    | int i => exact q.elim
    | dict kvs => exact q.elim
  · cases d with
    | list ds => exact hk _ q
    | tuple ds => exact hk _ q
    | str x => exact ⟨q.1, hk _ q.2⟩
    | none => exact q.elim
    | bool b => exact q.elim
    | int i => exact q.elim
    | dict kvs => exact q.elim
variable {e : Expr} {es : List Expr} {p pos : Pos}
/-- a built-in by its name -/
theorem je_cb {x : Str} {id : String} {ps : PL} {q : List R → PX} {r : List V → Hp → VK → Prop} (hc : CallR X (.builtin id) r) (hl : LC X.K q r) (hg : Gl X x) (hm : X.mg x = none) (hv : bootBuiltins x = some (.builtin id)) (ha : JA X B (e :: es) ps) (hn : x ≠ "__name__" := by decide) (hdb : (x == ("__debug__" : Str)) = false := by decide)
    (he : starEach (e :: es) X.env = (false, eval e X.env) :: starEach es X.env := by rfl) (hpl : (backTo pos (starEach es X.env)).any (·.1) = false := by rfl) : JE X B (.Call (.Name x p) (e :: es) [] pos) (pC q ps) :=
  PE_wk (pe_callB hc hg hm hv ha hn hdb he hpl) fun σ H Q h => lc_args hl h
theorem je_ct {x : Str} {T : String} {ps : PL} {q : List R → PX} {r : List V → Hp → VK → Prop} (hc : CallR X (.type T) r) (hl : LC X.K q r) (hg : Gl X x) (hm : X.mg x = none) (hv : bootBuiltins x = some (.type T)) (ha : JA X B (e :: es) ps) (hn : x ≠ "__name__" := by decide) (hdb : (x == ("__debug__" : Str)) = false := by decide)
    (he : starEach (e :: es) X.env = (false, eval e X.env) :: starEach es X.env := by rfl) (hpl : (backTo pos (starEach es X.env)).any (·.1) = false := by rfl) : JE X B (.Call (.Name x p) (e :: es) [] pos) (pC q ps) :=
  PE_wk (pe_callTy hc hg hm hv ha hn hdb he hpl) fun σ H Q h => lc_args hl h
def fMax2 : PyData → PyData → (PyData → Prop) → Prop
  | .int i, .int j, k => k (.int (if j > i then j else i))
  | _, _, _ => False
theorem lc_max2 {K : PySem.W.Frag} : LC K (q2 fMax2) qMax2 := by
  refine lc_im2 (fun G H v u d e Q s hv hu q => ?_) (fun d e k k' hk q => ?_)
  · unfold fMax2 at q
    split at q
    · exact ⟨_, _, by rw [hv.int, hu.int], q _ _ .int⟩
    · exact q.elim
  · unfold fMax2 at q ⊢
    split at q
    · exact hk _ q
    · exact q.elim
def fInt1 : PyData → (PyData → Prop) → Prop
  | .int i, k => k (.int i)
  | .bool b, k => k (.int (if b then 1 else 0))
  | _, _ => False
theorem lc_int1 {K : PySem.W.Frag} : LC K (q1 fInt1) qInt1 := by
  refine lc_im1 (fun G H v d Q s hv q => ?_) (fun d k k' hk q => ?_)
  · unfold fInt1 at q
    split at q
    · exact .inl ⟨_, by rw [hv.int], q _ _ .int⟩
    · exact .inr ⟨_, by rw [hv.bool], q _ _ .int⟩
    · exact q.elim
  · unfold fInt1 at q ⊢
    split at q
    · exact hk _ q
    · exact hk _ q
    · exact q.elim
def fListOf : PyData → (List PyData → Prop) → Prop
  | .list ds, k => k ds
  | .tuple ds, k => k ds
  | _, _ => False
theorem lc_listOf {K : PySem.W.Frag} : LC K (q1L fListOf) (qListOf K) := by
  refine lc_own1 (fun G H v d Q s hv q => ?_) (fun d k k' hk q => ?_)
  · unfold fListOf at q
    split at q
    · obtain ⟨a, us, rfl, ha, hds⟩ := hv.seqL s
      exact ⟨a, us, rfl, .inl (SqL.of ha), fun l hl => q us l hds hl⟩
    · obtain ⟨a, us, rfl, ha, hds, _⟩ := hv.seqT s
      exact ⟨a, us, rfl, .inr ha, fun l hl => q us l hds hl⟩
    · exact q.elim
  · unfold fListOf at q ⊢
    split at q
    · exact hk _ q
    · exact hk _ q
    · exact q.elim
def fTupleOf : PyData → (PyData → Prop) → Prop
  | .list ds, k => k (.tuple ds)
  | .tuple ds, k => k (.tuple ds)
  | _, _ => False
theorem lc_tupleOf {K : PySem.W.Frag} : LC K (q1 fTupleOf) (qTupleOf K) := by
  refine lc_im1 (fun G H v d Q s hv q => ?_) (fun d k k' hk q => ?_)
  · unfold fTupleOf at q
    split at q
    · obtain ⟨a, us, rfl, ha, hds⟩ := hv.seqL s
      exact ⟨a, us, rfl, .inl ⟨SqL.of ha, fun l hl => q _ _ (.inr ⟨l, us, _, rfl, hl, rfl, hds, rfl⟩)⟩⟩
    · obtain ⟨a, us, rfl, ha, hds, e1⟩ := hv.seqT s
      exact ⟨a, us, rfl, .inr ⟨ha, q _ _ (.old e1)⟩⟩
    · exact q.elim
  · unfold fTupleOf at q ⊢
    split at q
    · exact hk _ q
    · exact hk _ q
    · exact q.elim
def intsOf : List PyData → Option (List Int)
  | [] => some []
  | .int i :: ds => (intsOf ds).map (i :: ·)
  | _ :: _ => none
theorem dqAll_ints {K : PySem.W.Frag} {G : Hp} : ∀ {us : List V} {ns : List Int}, DqAll K G us (ns.map .int) → us = ns.map V.int
  | _, [], h => by cases h; rfl
  | _, n :: ns, h => by
    cases h with
    | cons h1 h2 =>
      cases h1
      rw [dqAll_ints h2]
      rfl
/-! ### isinstance(e, T) -/
def tyD : PyData → String
  | .none => "NoneType" | .bool _ => "bool" | .int _ => "int" | .str _ => "str" | .tuple _ => "tuple" | .list _ => "list" | .dict _ => "dict"
def isT (a T : String) : Bool := a == T || (a == "bool" && T == "int")
def isD (T : String) (d : PyData) : Bool := isT (tyD d) T
theorem dp_ty {K : PySem.W.Frag} {H : Hp} {d : PyData} {v : V} (h : Dp K H v d) (hl : ∀ ds, d = .list ds → ∃ a us, v = .ref a ∧ H a = some (.lst us)) : TyX K H v (.type (tyD d)) := by
  cases h with
  | non => exact .base .non
  | bl b => exact .base (.bl b)
  | int i => exact .base (.int i)
  | str x => exact .base (.str x)
  | lst hs ha =>
    obtain ⟨a, us, e, h⟩ := hl _ rfl
    cases e
    exact .base (.lst h)
  | tup hs ha =>
    rcases hs with (h | ⟨o, h⟩) | ⟨o, its, m, hk, hc, _⟩
    · exact .base (.tup h)
    · exact .fTuple h
    · exact .kTuple hk hc
def TyOk (T : String) : Prop := T = "bool" ∨ T = "int" ∨ T = "str" ∨ T = "tuple" ∨ T = "list"
theorem kit_is {T : String} (hT : TyOk T) (d : PyData) (hd : ∀ kvs, d ≠ .dict kvs) : kitB (tyD d) T = some (isD T d) := by
  cases d with
  | none => rcases hT with rfl | rfl | rfl | rfl | rfl <;> (show kitB "NoneType" _ = some (isT "NoneType" _)) <;> decide +kernel
  | bool b => rcases hT with rfl | rfl | rfl | rfl | rfl <;> (show kitB "bool" _ = some (isT "bool" _)) <;> decide +kernel
  | int b => rcases hT with rfl | rfl | rfl | rfl | rfl <;> (show kitB "int" _ = some (isT "int" _)) <;> decide +kernel
  | str b => rcases hT with rfl | rfl | rfl | rfl | rfl <;> (show kitB "str" _ = some (isT "str" _)) <;> decide +kernel
  | tuple b => rcases hT with rfl | rfl | rfl | rfl | rfl <;> (show kitB "tuple" _ = some (isT "tuple" _)) <;> decide +kernel
  | list b => rcases hT with rfl | rfl | rfl | rfl | rfl <;> (show kitB "list" _ = some (isT "list" _)) <;> decide +kernel
  | dict b => exact absurd rfl (hd b)
end
end Pv
namespace Pv
open PySem PySem.Spec L2 Wf
variable {B : Bas}
/-- a new thing beside, that never changes -/
theorem Rep.lay {K : PySem.W.Frag} {G H : Hp} {σ : St} {δ : List Sl} {vs : List V} {rs : List R} {w : Addr → Option Nat} (r : Rep K B G H σ δ vs rs w) {p : Addr} {o : HO} (hp : H p = none) (hn : NT o := by exact nofun) :
    Stp B.T G H w δ (upd G p o) (upd H p o) w δ ∧ Rep K B (upd G p o) (upd H p o) σ δ vs rs w := by
  have gp : G p = none := by
    cases e : G p with
    | none => rfl
    | some u => rw [r.sub p u e] at hp; cases hp
  have sg : Same G (upd G p o) := same_new gp
  have kp : ∀ a u, H a = some u → upd H p o a = some u := fun a u ha => by rw [upd_ne (ne_of_none ha hp)]; exact ha
  have st : Stp B.T G H w δ (upd G p o) (upd H p o) w δ := by
    refine .of ⟨sg, fun a u _ ha => kp a u ha, fun a i h => .inl (by rw [h]; exact Option.some_ne_none _), fun a u ha => ?_, .refl _⟩ (tabs_new hp) (q_new hn)
    by_cases e : a = p
    · subst e; exact .inr (.inl hp)
    · rw [upd_ne e] at ha; exact .inl ha
  refine ⟨st, fun a u ha => ?_, fun a i h => ?_, r.len, fun i s h => ?_, r.tlen, fun j v q hv hq => ?_, st.bs r.bs⟩
  · by_cases e : a = p
    · subst e; rw [upd_same] at ha ⊢; exact ha
    · rw [upd_ne e] at ha ⊢; exact r.sub a u ha
  · have ho := r.out a i h
    have hne : a ≠ p := fun z => ho.2.1 (by rw [z]; exact hp)
    rw [upd_ne hne, upd_ne hne]
    exact ⟨ho.1, ho.2.1, noT_upd hne ho.2.2⟩
  · exact (r.sl i s h).mono sg (fun a u _ hu => kp a u hu) fun a u ma _ => ma
  · exact (r.tm j v q hv hq).mono sg (fun a u _ hu => kp a u hu) fun a u ma _ => ma
section
variable {X : Cx} {a b e : Expr} {es : List Expr} {p pos p2 : Pos} {pa pb : PX}
/-! ### isinstance -/
def pIsi (T : String) (p : PX) : PX := fun δ Q => p δ fun r δ1 => ∃ d, dat δ1 r = some d ∧ Q (.im (.bool (isD T d))) δ1
theorem dq_nodict {K : PySem.W.Frag} {G H : Hp} {v : V} {d : PyData} (h : Vw K G H v d) : ∀ kvs, d ≠ .dict kvs := by
  intro kvs z
  subst z
  rcases h with h | ⟨_, _, _, _, _, _, z⟩
  · cases h
  · cases z
theorem vw_ty {K : PySem.W.Frag} {G H : Hp} {v : V} {d : PyData} (s : Same G H) (h : Vw K G H v d) : TyX K H v (.type (tyD d)) :=
  dp_ty (h.dp s) fun ds z => by
    subst z
    obtain ⟨a, us, e, ha, _⟩ := h.seqL s
    exact ⟨a, us, e, ha⟩
theorem je_isi {T : String} {x : Str} {pt : Pos} (hT : TyOk T) (hg : Gl X "isinstance") (hm : X.mg "isinstance" = none) (ht : PE X (.Name x pt) (tC (.ty T))) (ha : JE X B e pa) (he : starEach [e, .Name x pt] X.env = (false, eval e X.env) :: starEach [.Name x pt] X.env := by rfl) (he2 : starEach [.Name x pt] X.env = (false, eval (.Name x pt) X.env) :: starEach [] X.env := by rfl) (hpl : (backTo pos (starEach [.Name x pt] X.env)).any (·.1) = false := by rfl) :
    JE X B (.Call (.Name "isinstance" p) [e, .Name x pt] [] pos) (pIsi T pa) := by
  refine PE_wk (pe_callB call_isi hg hm (by decide +kernel) (pa_cons ha (pa_cons ht pa_nil he2) he) (by decide) (by decide) he hpl) fun σ H Q ⟨G, w, δ, Qp, rep, q, k⟩ => ?_
  refine ⟨G, w, δ, _, rep, q, fun r δ1 v H1 G1 w1 q1 s1 rep1 => ?_⟩
  obtain ⟨d, hd, q1⟩ := q1
  have hv := rep1.dat (j := 0) rfl rfl hd
  exact ⟨v, .ty T, _, _, _, rfl, .ty T, vw_ty rep1.sub hv, kit_ty (kit_is hT d (dq_nodict hv)), k _ δ1 _ H1 G1 _ q1 (s1.trans .drop) (rep1.ret (.bl _))⟩
/-! ### is -/
theorem vw_none {K : PySem.W.Frag} {G H : Hp} {v : V} (h : Vw K G H v .none) : v = .non := by
  rcases h with h | ⟨a, us, ds, rfl, _, _, z⟩
  · cases h; rfl
  · cases z
/-! ### a < b < c -/
def pChain (q q' : List R → PX) (pa pb pc : PX) : PX := fun δ Q => pa δ fun ra δ1 => pb δ1 fun rb δ2 => ∃ y, rb = .im y ∧ q [ra, .im y] δ2 fun r δ3 => ∃ t, dat δ3 r = some (.bool t) ∧
  if t = true then pc δ3 fun rc δ4 => q' [.im y, rc] δ4 Q else Q (.im (.bool false)) δ3
theorem je_chain {c : Expr} {op op' : CmpOp} {pc : PX} {q q' : List R → PX} {r r' : R2} (ho : OpR X (compareOp op) r) (ho' : OpR X (compareOp op') r') (hl : LC X.K q (ap2 r)) (hl' : LC X.K q' (ap2 r')) (ha : JE X B a pa) (hb : JE X B b pb) (hc : JE X B c pc) (hm : lastMarks [op, op'] [b, c] = false := by rfl) :
    JE X B (.Compare a [op, op'] [b, c] pos) (pChain q q' pa pb pc) := by
  refine PE_wk (pe_chain ho ho' ha hb hc hm) fun σ H Q ⟨G, w, δ, Qp, rep, h, k⟩ => ?_
  refine ⟨G, w, δ, _, rep, h, fun ra δ1 x H1 G1 w1 q1 s1 rep1 => ?_⟩
  refine ⟨G1, _, δ1, _, rep1.drop, q1, fun rb δ2 y H2 G2 w2 q2 s2 rep2 => ?_⟩
  obtain ⟨w3, s3, rep3⟩ := rep1.frame s2 rep2
  obtain ⟨dy, rfl, q2⟩ := q2
  have hy : Dq X.K G2 y dy := rep2.tm 0 y (.im dy) rfl rfl
  refine hl G2 H2 σ δ2 [x, y] [ra, .im dy] w3 _ _ rep3 q2 fun r δ3 z H3 G3 w4 q3 s4 rep4 => ?_
  obtain ⟨t, ht, q3⟩ := q3
  refine ⟨t, dp_bool (rep4.dpH (j := 0) rfl rfl ht), ?_⟩
  have s5 := (s1.trans s3).trans s4
  cases t with
  | false => exact k _ δ3 _ H3 G3 _ q3 (s5.trans .drop) (rep4.ret (.bl false))
  | true =>
    have r5 := rep4.ret (dp_mono s4.g _ _ hy)
    refine ⟨G3, _, δ3, _, r5.drop, q3, fun rc δ4 v H4 G4 w5 q4 s6 rep6 => ?_⟩
    obtain ⟨w6, s7, rep7⟩ := r5.frame s6 rep6
    exact hl' G4 H4 σ δ4 [y, v] [.im dy, rc] w6 Qp Q rep7 q4 fun r δ' u H' G' w' hq hs hr => k r δ' u H' G' w' hq (((s5.trans .drop).trans s7).trans hs) hr
abbrev qLeD := qD (fI2 T2 fun a b => .bool (decide (a ≤ b)))
theorem lc_le {K : PySem.W.Frag} : LC K qLeD (ap2 qLe) := lc_I0 fun a b G => .bl _
/-! ### slices -/
def POx := List Sl → (Option Int → List Sl → Prop) → Prop
def oNone : POx := fun δ Q => Q none δ
def oSome (p : PX) : POx := fun δ Q => p δ fun r δ1 => ∃ i, dat δ1 r = some (.int i) ∧ Q (some i) δ1
def LO (K : PySem.W.Frag) (B : Bas) (p : POx) : TO := fun σ H Q => ∃ G w δ Qp, Rep K B G H σ δ [] [] w ∧ p δ Qp ∧ ∀ b δ' H' G' w', Qp b δ' → Stp B.T G H w δ G' H' w' δ' → Rep K B G' H' σ δ' [] [] w' → Q b H'
def JO (X : Cx) (B : Bas) (e : Option Expr) (p : POx) : Prop := PO X e (LO X.K B p)
theorem PO_wk {e : Option Expr} {t t' : TO} (h : PO X e t) (k : ∀ σ H Q, t' σ H Q → t σ H Q) : PO X e t' := ⟨fun pins s σ H Q I q => h.run pins s σ H Q I (k σ H Q q)⟩
theorem jo_none : JO X B none oNone := PO_wk po_none fun σ H Q ⟨G, w, δ, Qp, rep, q, k⟩ => k none δ H G w q .refl rep
theorem dp_int {K : PySem.W.Frag} {H : Hp} {v : V} {i : Int} (h : Dp K H v (.int i)) : v = .int i := by cases h; rfl
theorem jo_some (ha : JE X B a pa) : JO X B (some a) (oSome pa) := PO_wk (po_some ha) fun σ H Q ⟨G, w, δ, Qp, rep, q, k⟩ => ⟨G, w, δ, _, rep, q, fun r δ1 v H1 G1 w1 q1 s1 rep1 => by
  obtain ⟨i, hi, q1⟩ := q1
  exact ⟨i, dp_int (rep1.dpH (j := 0) rfl rfl hi), k _ δ1 H1 G1 _ q1 (s1.trans .drop) rep1.drop⟩⟩
def cutD {α : Type} (xs : List α) (lo hi : Option Int) : List α := (xs.drop (HT.sIx xs.length 0 lo)).take (HT.sIx xs.length xs.length hi - HT.sIx xs.length 0 lo)
theorem dqAll_drop {K : PySem.W.Frag} {G : Hp} : ∀ (n : Nat) {us : List V} {ds : List PyData}, DqAll K G us ds → DqAll K G (us.drop n) (ds.drop n)
  | 0, _, _, h => h
  | _ + 1, _, _, .nil => .nil
  | n + 1, _, _, .cons _ h => dqAll_drop n h
theorem dqAll_take {K : PySem.W.Frag} {G : Hp} : ∀ (n : Nat) {us : List V} {ds : List PyData}, DqAll K G us ds → DqAll K G (us.take n) (ds.take n)
  | 0, _, _, _ => .nil
  | _ + 1, _, _, .nil => .nil
  | n + 1, _, _, .cons h1 h => .cons h1 (dqAll_take n h)
theorem dqAll_cut {K : PySem.W.Frag} {G : Hp} {us : List V} {ds : List PyData} {lo hi : Option Int} (h : DqAll K G us ds) : DqAll K G (cutV us lo hi) (cutD ds lo hi) := by
  unfold cutV cutD
  rw [dqAll_len h]
  exact dqAll_take _ (dqAll_drop _ h)
def pSlice (pa : PX) (lo hi : POx) : PX := fun δ Q => pa δ fun ra δ1 => lo δ1 fun l δ2 => hi δ2 fun u δ3 => match dat δ3 ra with
  | some (.tuple ds) => Q (.im (.tuple (cutD ds l u))) δ3
  | some (.list ds) => Q (.ow (.lst (cutD ds l u))) δ3
  | _ => False
def rSlU (K : PySem.W.Frag) : V → Option Int → Option Int → Hp → VK → Prop := fun x lo hi H Q => rSlA K x lo hi H Q ∨ rSlL K x lo hi H Q
theorem sl_u : L2.SlR X (rSlU X.K) := by
  intro pins s σ H x v vl vu lo hi sl Q I rx hs pl pu h
  rcases h with h | h
  · exact sl_tupA pins s σ H x v vl vu lo hi sl Q I rx hs pl pu h
  · exact sl_list pins s σ H x v vl vu lo hi sl Q I rx hs pl pu h
theorem cut_whole {α : Type} {xs : List α} {lo hi : Option Int} (h : HT.sIx xs.length 0 lo = 0 ∧ HT.sIx xs.length xs.length hi = xs.length) : cutD xs lo hi = xs := by
  unfold cutD
  rw [h.1, h.2, Nat.sub_zero, List.drop_zero, List.take_length]
theorem je_slice {lo hi : Option Expr} {pl ph : POx} (ha : JE X B a pa) (hl : JO X B lo pl) (hh : JO X B hi ph) : JE X B (.Subscript a (.Slice lo hi none p2) pos) (pSlice pa pl ph) := by
  refine PE_wk (pe_slice sl_u ha hl hh) fun σ H Q ⟨G, w, δ, Qp, rep, h, k⟩ => ?_
  refine ⟨G, w, δ, _, rep, h, fun ra δ1 x H1 G1 w1 q1 s1 rep1 => ?_⟩
  refine ⟨G1, _, δ1, _, rep1.drop, q1, fun l δ2 H2 G2 w2 q2 s2 rep2 => ?_⟩
  obtain ⟨w3, s3, rep3⟩ := rep1.frame s2 rep2
  refine ⟨G2, _, δ2, _, rep3.drop, q2, fun u δ3 H3 G3 w4 q3 s4 rep4 => ?_⟩
  obtain ⟨w5, s5, rep5⟩ := rep3.frame s4 rep4
  have s6 := (s1.trans s3).trans s5
  revert q3
  split
  · rename_i ds e
    intro q3
    obtain ⟨p1, u1, rfl, t1, d1, e1⟩ := Vw.seqT rep5.sub (rep5.dat (j := 0) rfl rfl e)
    refine .inl ⟨p1, u1, rfl, t1, fun hw => ?_, fun hw p hp => ?_⟩
    · rw [dqAll_len d1] at hw
      rw [cut_whole hw] at q3
      exact k _ δ3 _ H3 G3 _ q3 (s6.trans .drop) (rep5.ret e1)
    · obtain ⟨s7, r7⟩ := rep5.retNew hp (dq_newTup rep5.sub hp (dqAll_cut (lo := l) (hi := u) d1))
      exact k _ δ3 _ _ _ _ q3 (s6.trans s7) r7
  · rename_i ds e
    intro q3
    obtain ⟨p1, u1, rfl, t1, d1⟩ := Vw.seqL rep5.sub (rep5.dat (j := 0) rfl rfl e)
    refine .inr ⟨p1, u1, rfl, SqL.of t1, fun p hp => ?_⟩
    obtain ⟨w7, s7, r7⟩ := rep5.retLst hp (dqAll_cut (lo := l) (hi := u) d1)
    exact k _ δ3 _ _ _ _ q3 (s6.trans s7) r7
  · intro q3; exact q3.elim
/-! ### in, not in: lists of data -/
/-! ### list(range(..)), tuple(range(..)) -/
def rgD (a b : Int) : List PyData := (List.range (b - a).toNat).map fun (i : Nat) => PyData.int (a + (i : Nat))
theorem dq_rg {K : PySem.W.Frag} {G : Hp} (a b : Int) : DqAll K G (rgV a b) (rgD a b) := by
  unfold rgV rgD
  induction (List.range (b - a).toNat) with
  | nil => exact .nil
  | cons n ns ih => exact .cons (.int _) ih
def PRx := List Sl → (Int → Int → List Sl → Prop) → Prop
def pRg1 (p : PX) : PRx := fun δ Q => p δ fun r δ1 => ∃ n, dat δ1 r = some (.int n) ∧ Q 0 n δ1
def pLstRg (p : PRx) : PX := fun δ Q => p δ fun a b δ1 => RgOk a b ∧ Q (.ow (.lst (rgD a b))) δ1
def LR (K : PySem.W.Frag) (B : Bas) (p : PRx) : St → Hp → (Int → Int → Hp → Prop) → Prop := fun σ H Q => ∃ G w δ Qp, Rep K B G H σ δ [] [] w ∧ p δ Qp ∧ ∀ a b δ' H' G' w', Qp a b δ' → Stp B.T G H w δ G' H' w' δ' → Rep K B G' H' σ δ' [] [] w' → Q a b H'
def JR (X : Cx) (B : Bas) (e : Expr) (p : PRx) : Prop := PRg X e (LR X.K B p)
theorem PRg_wk {e : Expr} {t t' : St → Hp → (Int → Int → Hp → Prop) → Prop} (h : PRg X e t) (k : ∀ σ H Q, t' σ H Q → t σ H Q) : PRg X e t' := fun pins s σ H Q I q => h pins s σ H Q I (k σ H Q q)
theorem jr_1 (hg : Gl X "range") (hm : X.mg "range" = none) (ha : JE X B a pa) (na : starEach [a] X.env = (false, eval a X.env) :: starEach [] X.env := by rfl) : JR X B (.Call (.Name "range" p) [a] [] pos) (pRg1 pa) :=
  PRg_wk (prg_1 hg hm ha na) fun σ H Q ⟨G, w, δ, Qp, rep, q, k⟩ => ⟨G, w, δ, _, rep, q, fun r δ1 v H1 G1 w1 q1 s1 rep1 => by
    obtain ⟨i, hi, q1⟩ := q1
    exact ⟨i, dp_int (rep1.dpH (j := 0) rfl rfl hi), k _ _ δ1 H1 G1 _ q1 (s1.trans .drop) rep1.drop⟩⟩
theorem je_lstRg {pr : PRx} (hc : X.calm = true) (hg : Gl X "list") (hm : X.mg "list" = none) (he : JR X B e pr) (na : starEach [e] X.env = (false, eval e X.env) :: starEach [] X.env := by rfl) : JE X B (.Call (.Name "list" p) [e] [] pos) (pLstRg pr) :=
  PE_wk (pe_listRg hc hg hm he na) fun σ H Q ⟨G, w, δ, Qp, rep, q, k⟩ => ⟨G, w, δ, _, rep, q, fun i j δ1 H1 G1 w1 q1 s1 rep1 => ⟨q1.1, fun p hp => by
    obtain ⟨w7, s7, r7⟩ := rep1.retLst hp (dq_rg i j)
    exact k _ δ1 _ _ _ _ q1.2 (s1.trans s7) r7⟩⟩
end
end Pv
namespace Pv
open PySem PySem.Spec L2 Wf
variable {B : Bas}
/-! ### storing -/
def slOf : R → Sl
  | .im d => .im d
  | .ow o => .ow false o
  | .at _ => .un
def isAt : R → Bool
  | .at _ => true
  | _ => false
/-- what a slot holds, as data for good -/
def rz (δ : List Sl) : R → Option (R × List Sl)
  | .at i => match δ[i]? with
    | some (.im d) => some (.im d, δ)
    | some (.ow false (.lst ds)) => some (.im (.list ds), δ.set i (.im (.list ds)))
    | some (.ow _ (.ptl ds)) => some (.ow (.ptl ds), δ)
    | _ => none
  | r => some (r, δ)
def rzAll : List Sl → List R → Option (List R × List Sl)
  | δ, [] => some ([], δ)
  | δ, r :: rs => match rz δ r with
    | none => none
    | some (q, δ1) => match rzAll δ1 rs with
      | none => none
      | some (qs, δ2) => some (q :: qs, δ2)
/-- slot i gets r -/
def setS (i : Nat) (r : R) (δ : List Sl) (Q : List Sl → Prop) : Prop := match δ[i]? with
  | none => False
  | some (.ow true _) => False
  | some _ => Q (δ.set i (slOf r))
def setAll : List Nat → List R → List Sl → (List Sl → Prop) → Prop
  | [], [], δ, Q => Q δ
  | i :: is, r :: rs, δ, Q => setS i r δ fun δ' => setAll is rs δ' Q
  | _, _, _, _ => False
def Pin (σ : St) (δ : List Sl) (σ' : St) : Prop := ∀ (i : Nat) (o : O), δ[i]? = some (Sl.ow true o) → σ'[i]? = σ[i]?
theorem Pin.refl {σ : St} {δ : List Sl} : Pin σ δ σ := fun _ _ _ => rfl
theorem Pin.trans {σ σ1 σ2 : St} {δ δ1 : List Sl} (a : Pin σ δ σ1) (n : Pn δ δ1) (b : Pin σ1 δ1 σ2) : Pin σ δ σ2 := fun i o h => by
  obtain ⟨o', h'⟩ := n i o h
  exact (b i o' h').trans (a i o h)
section
variable {K : PySem.W.Frag} {G H : Hp} {σ : St} {δ : List Sl} {vs : List V} {rs : List R} {w : Addr → Option Nat}
theorem Rep.rz1 (r : Rep K B G H σ δ vs rs w) {j : Nat} {q q' : R} {δ' : List Sl} (hq : rs[j]? = some q) (h : rz δ q = some (q', δ')) :
    ∃ G' w', Stp B.T G H w δ G' H w' δ' ∧ Rep K B G' H σ δ' vs (rs.set j q') w' := by
  have hj : j < rs.length := (List.getElem?_eq_some_iff.mp hq).1
  have hjv : j < vs.length := by rw [r.tlen]; exact hj
  have same : rs.set j q = rs := by
    apply List.ext_getElem?
    intro k
    by_cases e : j = k
    · subst e; rw [List.getElem?_set_self hj]; exact hq.symm
    · rw [List.getElem?_set_ne e]
  cases q with
  | im d => cases h; exact ⟨G, w, .refl, by rw [same]; exact r⟩
  | ow o => cases h; exact ⟨G, w, .refl, by rw [same]; exact r⟩
  | «at» i =>
    simp only [rz] at h
    revert h
    split
    · rename_i d e
      intro h
      cases h
      exact r.fz1 (List.getElem?_eq_getElem hjv) hq (by simp only [fz, e])
    · rename_i ds e
      intro h
      cases h
      exact r.fz1 (List.getElem?_eq_getElem hjv) hq (by simp only [fz, e])
    · rename_i b ds e
      intro h
      cases h
      obtain ⟨u, hu, hd⟩ := r.sl i _ e
      have t' : σ[i]? = some (some vs[j]) := r.tm j _ _ (List.getElem?_eq_getElem hjv) hq
      rw [t'] at hu
      cases hu
      refine ⟨G, w, .refl, r.sub, r.out, r.len, r.sl, by rw [List.length_set]; exact r.tlen, fun k x p hx hp => ?_, r.bs⟩
      by_cases ek : j = k
      · subst ek
        rw [List.getElem?_set_self hj] at hp
        cases hp
        rw [List.getElem?_eq_getElem hjv] at hx
        cases hx
        exact hd
      · rw [List.getElem?_set_ne ek] at hp
        exact r.tm k x p hx hp
    · intro h; cases h
theorem Rep.rzGo : ∀ (rs2 : List R) (rs1 : List R) {G : Hp} {δ δ' : List Sl} {w : Addr → Option Nat} {qs : List R}, Rep K B G H σ δ vs (rs1 ++ rs2) w → rzAll δ rs2 = some (qs, δ') → ∃ G' w', Stp B.T G H w δ G' H w' δ' ∧ Rep K B G' H σ δ' vs (rs1 ++ qs) w'
  | [], rs1, G, δ, δ', w, qs, r, h => by
    cases h
    exact ⟨G, w, .refl, r⟩
  | q :: rs2, rs1, G, δ, δ', w, qs, r, h => by
    unfold rzAll at h
    revert h
    split
    · intro h; cases h
    · rename_i q' δ1 e
      split
      · intro h; cases h
      · rename_i qs' δ2 e2
        intro h
        cases h
        have hq : (rs1 ++ q :: rs2)[rs1.length]? = some q := by simp
        obtain ⟨G1, w1, s1, r1⟩ := r.rz1 hq e
        have e3 : (rs1 ++ q :: rs2).set rs1.length q' = (rs1 ++ [q']) ++ rs2 := by
          rw [List.set_append_right _ _ (Nat.le_refl _), Nat.sub_self, List.set_cons_zero, List.append_assoc]
          rfl
        rw [e3] at r1
        obtain ⟨G2, w2, s2, r2⟩ := Rep.rzGo rs2 (rs1 ++ [q']) r1 e2
        refine ⟨G2, w2, s1.trans s2, ?_⟩
        rw [List.append_assoc] at r2
        exact r2
theorem rz_noAt {δ δ' : List Sl} {q q' : R} (h : rz δ q = some (q', δ')) : isAt q' = false := by
  cases q with
  | im d => cases h; rfl
  | ow o => cases h; rfl
  | «at» i =>
    simp only [rz] at h
    revert h
    split
    · intro h; cases h; rfl
    · intro h; cases h; rfl
    · intro h; cases h; rfl
    · intro h; cases h
theorem rzAll_noAt : ∀ {rs qs : List R} {δ δ' : List Sl}, rzAll δ rs = some (qs, δ') → ∀ q ∈ qs, isAt q = false
  | [], _, _, _, h => by cases h; intro q hq; cases hq
  | r :: rs, qs, δ, δ', h => by
    unfold rzAll at h
    revert h
    split
    · intro h; cases h
    · rename_i q' δ1 e
      split
      · intro h; cases h
      · rename_i qs' δ2 e2
        intro h
        cases h
        intro q hq
        rcases List.mem_cons.mp hq with rfl | hq
        · exact rz_noAt e
        · exact rzAll_noAt e2 q hq
theorem Rep.rzs (r : Rep K B G H σ δ vs rs w) {qs : List R} {δ' : List Sl} (h : rzAll δ rs = some (qs, δ')) : ∃ G' w', Stp B.T G H w δ G' H w' δ' ∧ Rep K B G' H σ δ' vs qs w' := by
  have := Rep.rzGo rs [] (by simpa using r) h
  simpa using this
def moved (i : Nat) (w : Addr → Option Nat) (a : Addr) : Option Nat := match w a with
  | none => none
  | some n => if n = 1 then some (2 * i) else if n % 2 = 1 then some (n - 2) else if n = 2 * i then none else some n
theorem of_moved {i : Nat} {w : Addr → Option Nat} {a : Addr} {m : Nat} (h : moved i w a = some m) : ∃ n, w a = some n := by
  unfold moved at h
  cases e : w a with
  | none => rw [e] at h; cases h
  | some n => exact ⟨n, rfl⟩
/-- the first value goes to slot i -/
theorem Rep.sto {v : V} {q : R} (r : Rep K B G H σ δ (v :: vs) (q :: rs) w) {i : Nat} {Q : List Sl → Prop} (h : setS i q δ Q) (hq : isAt q = false) (hrs : ∀ p ∈ rs, isAt p = false) :
    ∃ w', Q (δ.set i (slOf q)) ∧ Stp B.T G H w δ G H w' (δ.set i (slOf q)) ∧ Rep K B G H (σ.set i (some v)) (δ.set i (slOf q)) vs rs w' ∧ Pin σ δ (σ.set i (some v)) := by
  have hd : ∃ s, δ[i]? = some s ∧ (∀ o, s ≠ .ow true o) ∧ Q (δ.set i (slOf q)) := by
    unfold setS at h
    revert h
    split
    · intro h; exact h.elim
    · intro h; exact h.elim
    · rename_i s hn e
      intro h
      exact ⟨s, e, fun o z => hn o z, h⟩
  obtain ⟨s, hs, hp, hQ⟩ := hd
  have hi : i < δ.length := (List.getElem?_eq_some_iff.mp hs).1
  have hiσ : i < σ.length := by rw [r.len]; exact hi
  have np : ∀ o, δ[i]? ≠ some (.ow true o) := fun o z => by rw [hs] at z; cases z; exact hp o rfl
  have st : Stp B.T G H w δ G H (moved i w) (δ.set i (slOf q)) := .of ⟨fun _ _ h => h, fun _ _ _ h => h, fun a m h => by
    obtain ⟨n, hn⟩ := of_moved h
    exact .inl (by rw [hn]; exact Option.some_ne_none _), fun a o h => .inl h, pn_set np⟩
  refine ⟨moved i w, hQ, st, ⟨r.sub, fun a m h => ?_, by rw [List.length_set, List.length_set]; exact r.len, fun k s' hk => ?_, by have := r.tlen; simpa using this, fun j u p hu hp' => ?_, st.bs r.bs⟩, fun k o hk => ?_⟩
  · obtain ⟨n, hn⟩ := of_moved h
    exact r.out a n hn
  · by_cases e : i = k
    · subst e
      rw [List.getElem?_set_self hi] at hk
      cases hk
      have t := r.tm 0 v q rfl rfl
      cases q with
      | im d => exact ⟨v, List.getElem?_set_self hiσ, t⟩
      | ow o =>
        refine ⟨v, List.getElem?_set_self hiσ, RO.mono (fun _ _ h => h) (fun _ _ _ h => h) (fun a u ma _ => ?_) t⟩
        show moved i w a = _
        unfold moved
        rw [ma]
        rfl
      | «at» _ => cases hq
    · rw [List.getElem?_set_ne e] at hk
      rw [List.getElem?_set_ne e]
      refine (r.sl k s' hk).mono (fun _ _ h => h) (fun _ _ _ h => h) fun a u ma _ => ?_
      show moved i w a = _
      unfold moved
      rw [ma]
      dsimp only
      rw [if_neg (by omega), if_neg (by omega), if_neg (by omega)]
  · have t := r.tm (j + 1) u p (by simpa using hu) (by simpa using hp')
    have hno : isAt p = false := hrs p (List.mem_of_getElem? hp')
    cases p with
    | im d => exact t
    | ow o =>
      refine RO.mono (fun _ _ h => h) (fun _ _ _ h => h) (fun a u ma _ => ?_) t
      show moved i w a = _
      unfold moved
      rw [ma]
      dsimp only
      rw [if_neg (by omega), if_pos (by omega)]
      congr 1
    | «at» _ => cases hno
  · by_cases e : i = k
    · subst e; exact absurd hk (np o)
    · rw [List.getElem?_set_ne e]
/-- several slots get several values -/
theorem Rep.stos : ∀ (is : List Nat) {σ : St} {δ : List Sl} {vs : List V} {qs : List R} {w : Addr → Option Nat} {Q : List Sl → Prop}, Rep K B G H σ δ vs qs w → setAll is qs δ Q → (∀ q ∈ qs, isAt q = false) →
    ∃ δ' w', Q δ' ∧ Stp B.T G H w δ G H w' δ' ∧ Rep K B G H ((is.zip vs).foldl (fun σ p => σ.set p.1 (some p.2)) σ) δ' [] [] w' ∧ Pin σ δ ((is.zip vs).foldl (fun σ p => σ.set p.1 (some p.2)) σ) ∧ is.length = vs.length
  | [], σ, δ, vs, qs, w, Q, r, h, hq => by
    cases qs with
    | nil =>
      have hv : vs = [] := List.eq_nil_of_length_eq_zero (by have := r.tlen; simpa using this)
      subst hv
      exact ⟨δ, w, h, .refl, r, .refl, rfl⟩
    | cons => exact h.elim
  | i :: is, σ, δ, vs, qs, w, Q, r, h, hq => by
    cases qs with
    | nil => exact h.elim
    | cons q qs =>
      cases vs with
      | nil => have := r.tlen; simp at this
      | cons v vs =>
        obtain ⟨w1, h1, s1, r1, p1⟩ := r.sto (show setS i q δ _ from h) (hq q List.mem_cons_self) fun p hp => hq p (List.mem_cons_of_mem _ hp)
        obtain ⟨δ2, w2, h2, s2, r2, p2, hl⟩ := Rep.stos is r1 h1 fun p hp => hq p (List.mem_cons_of_mem _ hp)
        exact ⟨δ2, w2, h2, s1.trans s2, r2, p1.trans s1.pn p2, congrArg (· + 1) hl⟩
/-- what slot i holds is handed on -/
def taken (i : Nat) (w : Addr → Option Nat) (a : Addr) : Option Nat := match w a with
  | none => none
  | some n => if n = 2 * i then some 1 else if n % 2 = 1 then none else some n
def mv (δ : List Sl) : R → Option (R × List Sl)
  | .at i => match δ[i]? with
    | some (.im d) => some (.im d, δ)
    | some (.ow false o) => some (.ow o, δ.set i .un)
    | _ => none
  | r => some (r, δ)
theorem Rep.mv1 {v : V} {q q' : R} {δ' : List Sl} (r : Rep K B G H σ δ [v] [q] w) (h : mv δ q = some (q', δ')) : ∃ w', Stp B.T G H w δ G H w' δ' ∧ Rep K B G H σ δ' [v] [q'] w' ∧ isAt q' = false := by
  cases q with
  | im d => cases h; exact ⟨w, .refl, r, rfl⟩
  | ow o => cases h; exact ⟨w, .refl, r, rfl⟩
  | «at» i =>
    have t : σ[i]? = some (some v) := r.tm 0 v (.at i) rfl rfl
    simp only [mv] at h
    revert h
    split
    · rename_i d e
      intro h
      cases h
      obtain ⟨u, hu, hd⟩ := r.sl i _ e
      rw [t] at hu
      cases hu
      exact ⟨_, .drop, r.ret hd, rfl⟩
    · rename_i o e
      intro h
      cases h
      obtain ⟨u, hu, hd⟩ := r.sl i _ e
      rw [t] at hu
      cases hu
      have ot : ∀ a m, taken i w a = some m → ∃ n, w a = some n := fun a m h => by
        unfold taken at h
        cases e : w a with
        | none => rw [e] at h; cases h
        | some n => exact ⟨n, rfl⟩
      have st : Stp B.T G H w δ G H (taken i w) (δ.set i .un) := .of ⟨fun _ _ h => h, fun _ _ _ h => h, fun a m h => by
        obtain ⟨n, hn⟩ := ot a m h
        exact .inl (by rw [hn]; exact Option.some_ne_none _), fun a o h => .inl h, pn_set fun o z => by rw [e] at z; cases z⟩
      refine ⟨taken i w, st, ⟨r.sub, fun a m h => ?_, by rw [List.length_set]; exact r.len, fun k s' hk => ?_, rfl, fun j u p hu hp' => ?_, st.bs r.bs⟩, rfl⟩
      · obtain ⟨n, hn⟩ := ot a m h
        exact r.out a n hn
      · by_cases ek : i = k
        · subst ek
          rw [List.getElem?_set_self (List.getElem?_eq_some_iff.mp e).1] at hk
          cases hk
          trivial
        · rw [List.getElem?_set_ne ek] at hk
          refine (r.sl k s' hk).mono (fun _ _ h => h) (fun _ _ _ h => h) fun a u ma _ => ?_
          show taken i w a = _
          unfold taken
          rw [ma]
          dsimp only
          rw [if_neg (by omega), if_neg (by omega)]
      · match j with
        | 0 =>
          simp only [List.getElem?_cons_zero, Option.some.injEq] at hu hp'
          subst hu hp'
          refine RO.mono (fun _ _ h => h) (fun _ _ _ h => h) (fun a u ma _ => ?_) hd
          show taken i w a = _
          unfold taken
          rw [ma]
          dsimp only
          rw [if_pos rfl]
        | j + 1 => simp at hu
    · intro h; cases h
end
/-! ### statements -/
structure PEn where
  nx : List Sl → Prop
  rt : R → List Sl → Prop
  bk : List Sl → Prop := fun _ => False
  ct : List Sl → Prop := fun _ => False
abbrev PSx := PEn → List Sl → Prop
structure EOk (K : PySem.W.Frag) (B : Bas) (G H : Hp) (w : Addr → Option Nat) (σ : St) (δ : List Sl) (E : PEn) (D : Ends) : Prop where
  nx : ∀ δ' σ' H' G' w', E.nx δ' → Stp B.T G H w δ G' H' w' δ' → Rep K B G' H' σ' δ' [] [] w' → Pin σ δ σ' → D.nx σ' H'
  rt : ∀ r δ' v σ' H' G' w', E.rt r δ' → isAt r = false → Stp B.T G H w δ G' H' w' δ' → Rep K B G' H' σ' δ' [v] [r] w' → Pin σ δ σ' → D.rt v H'
  bk : ∀ δ' σ' H' G' w', E.bk δ' → Stp B.T G H w δ G' H' w' δ' → Rep K B G' H' σ' δ' [] [] w' → Pin σ δ σ' → D.bk σ' H'
  ct : ∀ δ' σ' H' G' w', E.ct δ' → Stp B.T G H w δ G' H' w' δ' → Rep K B G' H' σ' δ' [] [] w' → Pin σ δ σ' → D.ct σ' H'
theorem EOk.later {K : PySem.W.Frag} {G H G1 H1 : Hp} {w w1 : Addr → Option Nat} {σ σ1 : St} {δ δ1 : List Sl} {E : PEn} {D : Ends} (e : EOk K B G H w σ δ E D) (s : Stp B.T G H w δ G1 H1 w1 δ1) (p : Pin σ δ σ1) : EOk K B G1 H1 w1 σ1 δ1 E D :=
  ⟨fun δ' σ' H' G' w' h s' r p' => e.nx δ' σ' H' G' w' h (s.trans s') r (p.trans s.pn p'), fun q δ' v σ' H' G' w' h ha s' r p' => e.rt q δ' v σ' H' G' w' h ha (s.trans s') r (p.trans s.pn p'),
    fun δ' σ' H' G' w' h s' r p' => e.bk δ' σ' H' G' w' h (s.trans s') r (p.trans s.pn p'), fun δ' σ' H' G' w' h s' r p' => e.ct δ' σ' H' G' w' h (s.trans s') r (p.trans s.pn p')⟩
def LS (K : PySem.W.Frag) (B : Bas) (p : PSx) : TS := fun D σ H => ∃ G w δ E, Rep K B G H σ δ [] [] w ∧ p E δ ∧ EOk K B G H w σ δ E D
def JS (X : Cx) (B : Bas) (st : Stmt) (p : PSx) : Prop := PS X st (LS X.K B p)
def JSs (X : Cx) (B : Bas) (st : List Stmt) (p : PSx) : Prop := PSs X st (LS X.K B p)
def pNext : PSx := fun E δ => E.nx δ
def pSeq (a b : PSx) : PSx := fun E δ => a { E with nx := fun δ' => b E δ' } δ
def pExpr (p : PX) : PSx := fun E δ => p δ fun _ δ1 => E.nx δ1
def pRet (p : PX) : PSx := fun E δ => p δ fun r δ1 => ∃ q δ2, mv δ1 r = some (q, δ2) ∧ E.rt q δ2
def pIf (c : PB) (a b : PSx) : PSx := fun E δ => c δ fun t δ1 => if t = true then a E δ1 else b E δ1
def pSet (i : Nat) (p : PX) : PSx := fun E δ => p δ fun r δ1 => ∃ q δ2, rz δ1 r = some (q, δ2) ∧ setS i q δ2 E.nx
def pPar (is : List Nat) (ps : PL) : PSx := fun E δ => ps δ fun rs δ1 => ∃ qs δ2, rzAll δ1 rs = some (qs, δ2) ∧ setAll is qs δ2 E.nx
section
variable {X : Cx} {st : Stmt} {sts : List Stmt} {a b : PSx} {e : Expr} {pa : PX} {pos : Pos}
theorem jss_nil : JSs X B [] pNext := PSs_wk pss_nil fun D σ H ⟨G, w, δ, E, rep, h, ek⟩ => ek.nx δ σ H G w h .refl rep .refl
theorem jss_cons (h1 : JS X B st a) (h2 : JSs X B sts b) : JSs X B (st :: sts) (pSeq a b) := PSs_wk (pss_cons h1 h2) fun D σ H ⟨G, w, δ, E, rep, h, ek⟩ =>
  ⟨G, w, δ, _, rep, h, ⟨fun δ' σ' H' G' w' hb s r p => ⟨G', w', δ', E, r, hb, ek.later s p⟩, ek.rt, ek.bk, ek.ct⟩⟩
theorem jss_one (h1 : JS X B st a) : JSs X B [st] a := pss_one h1
theorem js_expr (he : JE X B e pa) (hs : swapsWith e none pos.line X.env = pure false := by rfl) : JS X B (.Expr e pos) (pExpr pa) := PS_wk (ps_expr he hs) fun D σ H ⟨G, w, δ, E, rep, h, ek⟩ =>
  ⟨G, w, δ, _, rep, h, fun r δ1 v H1 G1 w1 q1 s1 rep1 => ek.nx δ1 σ H1 G1 _ q1 (s1.trans .drop) rep1.drop .refl⟩
theorem js_ret (he : JE X B e pa) : JS X B (.Return (some e) pos) (pRet pa) := PS_wk (ps_ret he) fun D σ H ⟨G, w, δ, E, rep, h, ek⟩ =>
  ⟨G, w, δ, _, rep, h, fun r δ1 v H1 G1 w1 q1 s1 rep1 => by
    obtain ⟨q, δ2, hm, q1⟩ := q1
    obtain ⟨w2, s2, r2, ha⟩ := rep1.mv1 hm
    exact ek.rt q δ2 v σ H1 G1 w2 q1 ha (s1.trans s2) r2 .refl⟩
theorem js_if {c : Expr} {x y : List Stmt} {pc : PB} (hc : JB X B c pc) (ha : JSs X B x a) (hb : JSs X B y b) : JS X B (.If c x y pos) (pIf pc a b) := PS_wk (ps_if hc ha hb) fun D σ H ⟨G, w, δ, E, rep, h, ek⟩ =>
  ⟨G, w, δ, _, rep, h, fun t δ1 H1 G1 w1 q1 s1 rep1 => by
    cases t with
    | true => exact ⟨G1, w1, δ1, E, rep1, q1, ek.later s1 .refl⟩
    | false => exact ⟨G1, w1, δ1, E, rep1, q1, ek.later s1 .refl⟩⟩
theorem set_lift {i : Nat} {p : PX} {D : Ends} {σ : St} {H : Hp} (h : LS X.K B (pSet i p) D σ H) : tAsg (LE X.K B p) (gName i) D σ H := by
  obtain ⟨G, w, δ, E, rep, h, ek⟩ := h
  refine ⟨G, w, δ, _, rep, h, fun r δ1 v H1 G1 w1 q1 s1 rep1 => ?_⟩
  obtain ⟨q, δ2, hz, q1⟩ := q1
  obtain ⟨G2, w2, s2, r2⟩ := rep1.rz1 (j := 0) rfl hz
  obtain ⟨w3, q3, s3, r3, p3⟩ := r2.sto q1 (rz_noAt hz) (fun p hp => by cases hp)
  exact ek.nx _ _ H1 G2 w3 q3 ((s1.trans s2).trans s3) r3 ((Pin.refl (σ := σ)).trans (s1.trans s2).pn p3)
theorem js_set {i : Nat} {x : Str} {pos' : Pos} (hN : X.N.Nodup) (hi : X.N[i]? = some x) (hx : Loc X.env.scope x) (he : JE X B e pa) (hs : swapsWith e (some (.Name x pos')) pos.line X.env = pure false := by rfl) (hf : X.fn x = true ∨ X.env.scope.names.lookup x = some .local := by first | exact .inl rfl | exact .inr rfl | assumption) :
    JS X B (.Assign [.Name x pos'] e pos) (pSet i pa) := PS_wk (ps_set hN hi hx he hs hf) fun D σ H ⟨G, w, δ, E, rep, h, ek⟩ =>
  ⟨G, w, δ, _, rep, h, fun r δ1 v H1 G1 w1 q1 s1 rep1 => by
    obtain ⟨q, δ2, hz, q1⟩ := q1
    obtain ⟨G2, w2, s2, r2⟩ := rep1.rz1 (j := 0) rfl hz
    obtain ⟨w3, q3, s3, r3, p3⟩ := r2.sto q1 (rz_noAt hz) (fun p hp => by cases hp)
    exact ek.nx _ _ H1 G2 w3 q3 ((s1.trans s2).trans s3) r3 ((Pin.refl (σ := σ)).trans (s1.trans s2).pn p3)⟩
theorem js_par2 {i j : Nat} {x y : Str} {e1 e2 : Expr} {ps : PL} {px py pt : Pos} {kt k2 pt2} (hc : X.calm = true) (hN : X.N.Nodup) (hi : X.N[i]? = some x) (hj : X.N[j]? = some y) (hij : i ≠ j)
    (hx : X.env.scope.names.lookup x = some .local) (hy : X.env.scope.names.lookup y = some .local) (ha : JA X B [e1, e2] ps)
    (hw : swappedStores [.Tuple [.Name x px, .Name y py] kt pt] (.Tuple [e1, e2] k2 pt2) X.env = pure (some [x, y]))
    (hs : swapsWithSole [.Tuple [.Name x px, .Name y py] kt pt] (.Tuple [e1, e2] k2 pt2) pos.line X.env = pure false := by rfl) :
    JS X B (.Assign [.Tuple [.Name x px, .Name y py] kt pt] (.Tuple [e1, e2] k2 pt2) pos) (pPar [i, j] ps) := PS_wk (ps_par hc hN hi hj hij hx hy ha hw hs) fun D σ H ⟨G, w, δ, E, rep, h, ek⟩ =>
  ⟨G, w, δ, _, rep, h, fun rs δ1 vs H1 G1 w1 q1 l1 s1 rep1 => by
    obtain ⟨qs, δ2, hz, q1⟩ := q1
    obtain ⟨G2, w2, s2, r2⟩ := rep1.rzs hz
    obtain ⟨δ3, w3, q3, s3, r3, p3, hl⟩ := Rep.stos [i, j] r2 q1 (rzAll_noAt hz)
    match vs, hl with
    | [v, u], _ => exact ⟨v, u, rfl, ek.nx _ _ H1 G2 w3 q3 ((s1.trans s2).trans s3) r3 ((Pin.refl (σ := σ)).trans (s1.trans s2).pn p3)⟩⟩
theorem js_par3 {i j l : Nat} {x y z : Str} {e1 e2 e3 : Expr} {ps : PL} {px py pz pt : Pos} {kt k2 pt2} (hc : X.calm = true) (hN : X.N.Nodup) (hi : X.N[i]? = some x) (hj : X.N[j]? = some y) (hk : X.N[l]? = some z) (hij : i ≠ j) (hil : i ≠ l) (hjl : j ≠ l)
    (hx : X.env.scope.names.lookup x = some .local) (hy : X.env.scope.names.lookup y = some .local) (hz : X.env.scope.names.lookup z = some .local) (ha : JA X B [e1, e2, e3] ps)
    (hw : swappedStores [.Tuple [.Name x px, .Name y py, .Name z pz] kt pt] (.Tuple [e1, e2, e3] k2 pt2) X.env = pure (some [x, y, z]))
    (hs : swapsWithSole [.Tuple [.Name x px, .Name y py, .Name z pz] kt pt] (.Tuple [e1, e2, e3] k2 pt2) pos.line X.env = pure false := by rfl) :
    JS X B (.Assign [.Tuple [.Name x px, .Name y py, .Name z pz] kt pt] (.Tuple [e1, e2, e3] k2 pt2) pos) (pPar [i, j, l] ps) := PS_wk (ps_par3 hc hN hi hj hk hij hil hjl hx hy hz ha hw hs) fun D σ H ⟨G, w, δ, E, rep, h, ek⟩ =>
  ⟨G, w, δ, _, rep, h, fun rs δ1 vs H1 G1 w1 q1 l1 s1 rep1 => by
    obtain ⟨qs, δ2, hz, q1⟩ := q1
    obtain ⟨G2, w2, s2, r2⟩ := rep1.rzs hz
    obtain ⟨δ3, w3, q3, s3, r3, p3, hl⟩ := Rep.stos [i, j, l] r2 q1 (rzAll_noAt hz)
    match vs, hl with
    | [v, u, t], _ => exact ⟨v, u, t, rfl, ek.nx _ _ H1 G2 w3 q3 ((s1.trans s2).trans s3) r3 ((Pin.refl (σ := σ)).trans (s1.trans s2).pn p3)⟩⟩
end
/-! ### targets of data -/
abbrev PGx := PyData → List Sl → (List Sl → Prop) → Prop
abbrev PGxs := List PyData → List Sl → (List Sl → Prop) → Prop
def gN (i : Nat) : PGx := fun d δ Q => setS i (.im d) δ Q
def gsN : PGxs := fun ds δ Q => ds = [] ∧ Q δ
def gsC (g : PGx) (gs : PGxs) : PGxs := fun ds δ Q => match ds with
  | d :: ds => g d δ fun δ' => gs ds δ' Q
  | [] => False
def gT (n : Nat) (gs : PGxs) : PGx := fun d δ Q => match d with
  | .tuple ds => ds.length = n ∧ gs ds δ Q
  | _ => False
/-- only the slots ts are stored to -/
def Tch (ts : List Nat) (σ σ' : St) : Prop := σ'.length = σ.length ∧ ∀ k, k ∉ ts → σ'[k]? = σ[k]?
theorem Tch.refl {ts : List Nat} {σ : St} : Tch ts σ σ := ⟨rfl, fun _ _ => rfl⟩
theorem Tch.trans {ts us : List Nat} {σ σ1 σ2 : St} (a : Tch ts σ σ1) (b : Tch us σ1 σ2) : Tch (ts ++ us) σ σ2 := ⟨b.1.trans a.1, fun k hk => (b.2 k fun z => hk (List.mem_append_right _ z)).trans (a.2 k fun z => hk (List.mem_append_left _ z))⟩
def LG (K : PySem.W.Frag) (B : Bas) (ts : List Nat) (g : PGx) : TG := fun v σ H Q => ∃ G w δ d Qp, Rep K B G H σ δ [] [] w ∧ Dq K G v d ∧ g d δ Qp ∧ ∀ δ' σ' H' G' w', Qp δ' → Stp B.T G H w δ G' H' w' δ' → Rep K B G' H' σ' δ' [] [] w' → Pin σ δ σ' → Tch ts σ σ' → Q σ' H'
def LGs (K : PySem.W.Frag) (B : Bas) (ts : List Nat) (g : PGxs) : TGs := fun vs σ H Q => ∃ G w δ ds Qp, Rep K B G H σ δ [] [] w ∧ DqAll K G vs ds ∧ g ds δ Qp ∧ ∀ δ' σ' H' G' w', Qp δ' → Stp B.T G H w δ G' H' w' δ' → Rep K B G' H' σ' δ' [] [] w' → Pin σ δ σ' → Tch ts σ σ' → Q σ' H'
section
variable {X : Cx} {pos : Pos}
theorem PG_wk {e : Expr} {t t' : TG} (h : PG X e t) (k : ∀ v σ H Q, t' v σ H Q → t v σ H Q) : PG X e t' := ⟨fun pins s σ H v u Q I r q => h.run pins s σ H v u Q I r (k v σ H Q q)⟩
theorem PGs_wk {es : List Expr} {t t' : TGs} (h : PGs X es t) (k : ∀ v σ H Q, t' v σ H Q → t v σ H Q) : PGs X es t' := ⟨fun pins s σ H v u Q I r q => h.run pins s σ H v u Q I r (k v σ H Q q)⟩
def JG (X : Cx) (B : Bas) (e : Expr) (ts : List Nat) (g : PGx) : Prop := PG X e (LG X.K B ts g)
def JGs (X : Cx) (B : Bas) (es : List Expr) (ts : List Nat) (g : PGxs) : Prop := PGs X es (LGs X.K B ts g)
theorem jg_name {i : Nat} {x : Str} (hN : X.N.Nodup) (hi : X.N[i]? = some x) (hx : Loc X.env.scope x) (hf : X.fn x = true ∨ X.env.scope.names.lookup x = some .local := by first | exact .inl rfl | exact .inr rfl | assumption) : JG X B (.Name x pos) [i] (gN i) :=
  PG_wk (pg_name hN hi hx hf) fun v σ H Q ⟨G, w, δ, d, Qp, rep, hd, h, k⟩ => by
    obtain ⟨w3, q3, s3, r3, p3⟩ := (rep.ret hd).sto (show setS i (.im d) δ Qp from h) rfl (fun p hp => by cases hp)
    exact k _ _ H G w3 q3 (Stp.drop.trans s3) r3 p3 ⟨List.length_set, fun k hk => List.getElem?_set_ne fun z => hk (by rw [z]; exact List.mem_singleton.mpr rfl)⟩
theorem jgs_nil : JGs X B [] [] gsN := PGs_wk pgs_nil fun vs σ H Q ⟨G, w, δ, ds, Qp, rep, hd, h, k⟩ => by
  obtain ⟨rfl, h⟩ := h
  exact ⟨dqAll_nil hd, k δ σ H G w h .refl rep .refl .refl⟩
theorem jgs_cons {e : Expr} {es : List Expr} {ts us : List Nat} {g : PGx} {gs : PGxs} (h1 : JG X B e ts g) (h2 : JGs X B es us gs)
    (hs : (assignEach (e :: es) X.env).map (·.2) = assign e X.env :: (assignEach es X.env).map (·.2) := by rfl) : JGs X B (e :: es) (ts ++ us) (gsC g gs) := PGs_wk (pgs_cons h1 h2 hs) fun vs σ H Q ⟨G, w, δ, ds, Qp, rep, hd, h, k⟩ => by
  cases hd with
  | nil => exact h.elim
  | cons h1 h2 =>
    exact ⟨_, _, rfl, G, w, δ, _, _, rep, h1, h, fun δ' σ' H' G' w' hq s r p t => ⟨G', w', δ', _, Qp, r, dpAll_mono s.g _ _ h2, hq, fun δ2 σ2 H2 G2 w2 hq2 s2 r2 p2 t2 => k δ2 σ2 H2 G2 w2 hq2 (s.trans s2) r2 (p.trans s.pn p2) (t.trans t2)⟩⟩
theorem jg_tup {es : List Expr} {k : Nat} {ts : List Nat} {g : PGxs} {n : Nat} (hc : X.calm = true) (h : JGs X B es ts g)
    (hn : (assignEach es X.env).length = n := by rfl) (hst : (assignEach es X.env).findIdx? (·.1) = none := by rfl) : JG X B (.Tuple es k pos) ts (gT n g) := PG_wk (pg_tup hc h hn hst) fun v σ H Q ⟨G, w, δ, d, Qp, rep, hd, h, k⟩ => by
  unfold gT at h
  revert h
  split
  · intro h
    cases hd with
    | tup hs ha => exact ⟨_, _, rfl, Same.tp rep.sub _ _ hs, (dqAll_len ha).trans h.1, G, w, δ, _, Qp, rep, ha, h.2, k⟩
  · intro h; exact h.elim
/-- target = data -/
def pAsg (p : PX) (g : PGx) : PSx := fun E δ => p δ fun r δ1 => ∃ d δ2, fz δ1 r = some (d, δ2) ∧ g d δ2 E.nx
theorem js_asg {tg e : Expr} {p : PX} {ts : List Nat} {g : PGx} (he : JE X B e p) (hg : JG X B tg ts g) (hs : swapsWithSole [tg] e pos.line X.env = pure false := by rfl) (hw : swappedStores [tg] e X.env = pure none := by rfl)
    (h1 : (assignEach [tg] X.env).map (·.2) = [assign tg X.env] := by rfl) : JS X B (.Assign [tg] e pos) (pAsg p g) := PS_wk (ps_asg he hg hs hw h1) fun D σ H ⟨G, w, δ, E, rep, h, ek⟩ =>
  ⟨G, w, δ, _, rep, h, fun r δ1 v H1 G1 w1 q1 s1 rep1 => by
    obtain ⟨d, δ2, hz, q1⟩ := q1
    obtain ⟨G2, w2, s2, r2⟩ := rep1.fz1 (j := 0) rfl rfl hz
    have hd : Dq X.K G2 v d := r2.tm 0 v (.im d) rfl rfl
    exact ⟨G2, _, δ2, d, _, r2.drop, hd, q1, fun δ' σ' H' G' w' hq s r p _ => ek.nx δ' σ' H' G' w' hq (((s1.trans s2).trans .drop).trans s) r ((Pin.refl (σ := σ)).trans ((s1.trans s2).trans .drop).pn p)⟩⟩
/-- a, b, .. = x, y, .. by a tuple -/
theorem js_parT {is : List Nat} {xs : List Str} {tgs es : List Expr} {ps : PL} {pt : Pos} {kt k2 pt2} {gs : TGs} (ha : JA X B es ps) (hg : PG X (.Tuple tgs kt pt) (gTup X.K is.length gs)) (hgs : ∀ vs σ H Q, is.length = vs.length → Q ((is.zip vs).foldl (fun σ p => σ.set p.1 (some p.2)) σ) H → gs vs σ H Q) (hl : es.length ≤ sizeLine := by decide)
    (hs : swapsWithSole [.Tuple tgs kt pt] (.Tuple es k2 pt2) pos.line X.env = pure false := by rfl) (hw : swappedStores [.Tuple tgs kt pt] (.Tuple es k2 pt2) X.env = pure none := by rfl) (h1 : (assignEach [.Tuple tgs kt pt] X.env).map (·.2) = [assign (.Tuple tgs kt pt) X.env] := by rfl) :
    JS X B (.Assign [.Tuple tgs kt pt] (.Tuple es k2 pt2) pos) (pPar is ps) := PS_wk (ps_asg (pe_tup ha) hg hs hw h1) fun D σ H ⟨G, w, δ, E, rep, h, ek⟩ =>
  ⟨G, w, δ, _, rep, h, fun rs δ1 vs H1 G1 w1 q1 l1 s1 rep1 => ⟨by rw [rep1.tlen, l1]; exact hl, fun p hp => by
    obtain ⟨qs, δ2, hz, q1⟩ := q1
    obtain ⟨G2, w2, s2, r2⟩ := rep1.rzs hz
    obtain ⟨s3, r3⟩ := r2.lay (o := .tup vs) hp
    obtain ⟨δ4, w4, q4, s4, r4, p4, hl⟩ := Rep.stos is r3 q1 (rzAll_noAt hz)
    refine ⟨p, vs, rfl, SqT.of upd_same, hl.symm, hgs vs σ _ _ hl ?_⟩
    exact ek.nx _ _ _ _ w4 q4 (((s1.trans s2).trans s3).trans s4) r4 ((Pin.refl (σ := σ)).trans ((s1.trans s2).trans s3).pn p4)⟩⟩
end
end Pv
namespace Pv
open PySem PySem.Spec L2 Wf
variable {B : Bas}
/-! ### a list of one's own is changed -/
section
variable {K : PySem.W.Frag} {G H : Hp} {σ : St} {δ : List Sl} {vs : List V} {rs : List R} {w : Addr → Option Nat}
theorem Rep.own (r : Rep K B G H σ δ vs rs w) {i : Nat} {b : Bool} {ds : List PyData} (h : δ[i]? = some (.ow b (.lst ds))) : ∃ a us, σ[i]? = some (some (.ref a)) ∧ w a = some (2 * i) ∧ H a = some (.lst us) ∧ DqAll K G us ds := by
  obtain ⟨v, hv, a, us, rfl, ma, ha, hd⟩ := r.sl i _ h
  exact ⟨a, us, hv, ma, ha, hd⟩
theorem Rep.wr (r : Rep K B G H σ δ vs rs w) {i : Nat} {b : Bool} {ds ds' : List PyData} {a : Addr} {us us' : List V} (h : δ[i]? = some (.ow b (.lst ds))) (hσ : σ[i]? = some (some (.ref a))) (hw : w a = some (2 * i)) (ha : H a = some (.lst us)) (hd : DqAll K G us' ds') :
    Stp B.T G H w δ G (upd H a (.lst us')) w (δ.set i (.ow b (.lst ds'))) ∧ Rep K B G (upd H a (.lst us')) σ (δ.set i (.ow b (.lst ds'))) vs rs w := by
  have hi : i < δ.length := (List.getElem?_eq_some_iff.mp h).1
  have ne : ∀ x n, w x = some n → n ≠ 2 * i → x ≠ a := fun x n hx hn z => by subst z; rw [hw] at hx; cases hx; exact hn rfl
  have g0 := (r.out a _ hw).1
  have st : Stp B.T G H w δ G (upd H a (.lst us')) w (δ.set i (.ow b (.lst ds'))) := by
    refine .of ⟨fun _ _ h => h, fun x o hx ho => ?_, fun x n hx => .inl (by rw [hx]; exact Option.some_ne_none _), fun _ _ h => .inl h, fun k o hk => ?_⟩ (tabs_put ha)
    · rw [upd_ne (fun z => by subst z; rw [hw] at hx; cases hx)]
      exact ho
    · by_cases e : i = k
      · subst e
        rw [h] at hk
        cases hk
        exact ⟨_, List.getElem?_set_self hi⟩
      · exact ⟨o, by rw [List.getElem?_set_ne e]; exact hk⟩
  refine ⟨st, fun x o hx => ?_, fun x n hx => ?_, by rw [List.length_set]; exact r.len, fun k s hk => ?_, r.tlen, fun j v q hv hq => ?_, st.bs r.bs⟩
  · have : x ≠ a := fun z => by subst z; rw [g0] at hx; cases hx
    rw [upd_ne this]
    exact r.sub x o hx
  · obtain ⟨h1, h2, h3⟩ := r.out x n hx
    by_cases e : x = a
    · subst e
      rw [upd_same]
      exact ⟨h1, Option.some_ne_none _, NoX.lst upd_same⟩
    · rw [upd_ne e]
      exact ⟨h1, h2, noT_upd e h3⟩
  · by_cases e : i = k
    · subst e
      rw [List.getElem?_set_self hi] at hk
      cases hk
      exact ⟨_, hσ, a, us', rfl, hw, upd_same, hd⟩
    · rw [List.getElem?_set_ne e] at hk
      refine (r.sl k s hk).mono (fun _ _ h => h) (fun x u mx hu => ?_) fun x u mx _ => mx
      rw [upd_ne (ne x _ mx (by omega))]
      exact hu
  · refine (r.tm j v q hv hq).mono (fun _ _ h => h) (fun x u mx hu => ?_) fun x u mx _ => mx
    rw [upd_ne (ne x _ mx (by omega))]
    exact hu
end
/-- a method of one's own list: its items, the arguments; what is told, the items then -/
def pMt (f : List PyData → List PyData → (PyData → List PyData → Prop) → Prop) (po : PX) (ps : PL) : PX := fun δ Q => po δ fun ro δ1 => ∃ i b0 ds0, ro = .at i ∧ δ1[i]? = some (.ow b0 (.lst ds0)) ∧ ps δ1 fun rs δ2 => ∃ as δ3 b ds, fzAll δ2 rs = some (as, δ3) ∧ δ3[i]? = some (.ow b (.lst ds)) ∧
  f ds as fun d ds' => Q (.im d) (δ3.set i (.ow b (.lst ds')))
def MtV (K : PySem.W.Frag) (f : List PyData → List PyData → (PyData → List PyData → Prop) → Prop) (r : V → List V → Hp → VK → Prop) : Prop :=
  ∀ (G H : Hp) (a : Addr) (us vs : List V) (ds as : List PyData) (Qp : PyData → List PyData → Prop) (Q : VK), H a = some (.lst us) → DqAll K G us ds → DqAll K G vs as → f ds as Qp → (∀ d ds' v us', Qp d ds' → Dq K G v d → DqAll K G us' ds' → Q v (upd H a (.lst us'))) → r (.ref a) vs H Q
section
variable {X : Cx} {o e : Expr} {es : List Expr} {po : PX} {ps : PL} {name : Str} {apos cpos pos : Pos} {id : String} {r : V → List V → Hp → VK → Prop} {f : List PyData → List PyData → (PyData → List PyData → Prop) → Prop}
theorem mt_go {Q : VK} {σ : St} {G H G1 H1 : Hp} {w w1 : Addr → Option Nat} {δ δ1 : List Sl} {Qp : QE} {x : V} {i : Nat} (hm : MtV X.K f r)
    (k : ∀ r δ' v H' G' w', Qp r δ' → Stp B.T G H w δ G' H' w' δ' → Rep X.K B G' H' σ δ' [v] [r] w' → Q v H') (s1 : Stp B.T G H w δ G1 H1 w1 δ1) {vs : List V} {rs : List R} (rep1 : Rep X.K B G1 H1 σ δ1 vs rs w1) (hx : σ[i]? = some (some x))
    {as : List PyData} {δ3 : List Sl} {b : Bool} {ds : List PyData} (e1 : fzAll δ1 rs = some (as, δ3)) (e2 : δ3[i]? = some (.ow b (.lst ds))) (q : f ds as fun d ds' => Qp (.im d) (δ3.set i (.ow b (.lst ds')))) : r x vs H1 Q := by
  obtain ⟨G2, w2, s2, r2⟩ := rep1.fzs e1
  obtain ⟨a, us, hσ, hw, ha, hd⟩ := r2.own e2
  rw [hx] at hσ
  cases hσ
  refine hm G2 H1 a us vs ds as _ Q ha hd r2.ims q fun d ds' v us' hq hv hu => ?_
  obtain ⟨s3, r3⟩ := r2.wr e2 hx hw ha hu
  exact k _ _ v _ G2 _ hq (((s1.trans s2).trans s3).trans .drop) (r3.ret hv)
theorem je_mt (pa : PlainAttrs "list") (slot : Slot "list" name id) (hty : typeOf (.builtin id) = pure (.type "method_descriptor")) (hm : MtR X id r) (hv : MtV X.K f r) (ho : JE X B o po) (ha : JA X B (e :: es) ps)
    (hbase : attributeBase o name X.env (eval o X.env) = eval o X.env := by rfl)
    (hfew : ((backTo cpos (starEach (e :: es) X.env)).all (fun x => !x.1) && (backToKw cpos (keywordEach [] X.env)).all (fun x => x.1.isSome)
      && decide ((e :: es).length + ([] : List Keyword).length + (if ([] : List Keyword).isEmpty then 0 else 1) < 30)) = true := by rfl)
    (hline : (apos.endLine == cpos.line) = true := by rfl) (hs : starEach (e :: es) X.env = (false, eval e X.env) :: starEach es X.env := by rfl) (hplain : (backTo cpos (starEach es X.env)).any (·.1) = false := by rfl) :
    JE X B (.Call (.Attribute o name apos) (e :: es) [] cpos) (pMt f po ps) := by
  refine PE_wk (pe_bm pa slot hty hm ho ha hbase hfew hline hs hplain) fun σ H Q ⟨G, w, δ, Qp, rep, q, k⟩ => ?_
  refine ⟨G, w, δ, _, rep, q, fun ro δ1 x H1 G1 w1 q1 s1 rep1 => ?_⟩
  obtain ⟨i, b0, ds0, rfl, e0, q1⟩ := q1
  have hx : σ[i]? = some (some x) := rep1.tm 0 x (.at i) rfl rfl
  obtain ⟨a0, us0, hσ0, _, ha0, _⟩ := rep1.own e0
  rw [hx] at hσ0
  cases hσ0
  refine ⟨.inl ⟨rfl, us0, SqL.of ha0⟩, G1, _, δ1, _, rep1.drop, q1, fun rs δ2 vs H2 G2 w2 q2 _ s2 rep2 => ?_⟩
  obtain ⟨as, δ3, b, ds, e1, e2, q2⟩ := q2
  exact mt_go hv k ((s1.trans .drop).trans s2) rep2 hx e1 e2 q2
def mAppend : List PyData → List PyData → (PyData → List PyData → Prop) → Prop
  | ds, [d], k => ds.length < sizeLine ∧ k .none (ds ++ [d])
  | _, _, _ => False
theorem mv_append {K : PySem.W.Frag} : MtV K mAppend rAppend := by
  intro G H a us vs ds as Qp Q ha hu hv q k
  match as, hv, q with
  | [d], .cons h1 .nil, q => exact ⟨a, us, _, rfl, rfl, ha, by rw [dqAll_len hu]; exact q.1, k _ _ _ _ q.2 .non (dqAll_append hu (.cons h1 .nil))⟩
  | [], _, q => exact q.elim
  | _ :: _ :: _, _, q => exact q.elim
def mInsert : List PyData → List PyData → (PyData → List PyData → Prop) → Prop
  | ds, [.int i, d], k => ds.length < sizeLine ∧ 0 ≤ i ∧ i < 2 ^ 63 ∧ k .none (ds.take i.toNat ++ [d] ++ ds.drop i.toNat)
  | _, _, _ => False
theorem mv_insert {K : PySem.W.Frag} : MtV K mInsert (fun x vs H Q => ∃ (l : Addr) (xs : List V) (i : Int) (y : V), x = .ref l ∧ vs = [.int i, y] ∧ H l = some (.lst xs) ∧ xs.length < sizeLine ∧ 0 ≤ i ∧ i < 2 ^ 63 ∧ Q .non (upd H l (.lst (xs.take i.toNat ++ [y] ++ xs.drop i.toNat)))) := by
  intro G H a us vs ds as Qp Q ha hu hv q k
  unfold mInsert at q
  split at q
  · cases hv with
    | cons h1 hv =>
      cases hv with
      | cons h2 hv =>
        cases hv
        cases h1
        exact ⟨a, us, _, _, rfl, rfl, ha, by rw [dqAll_len hu]; exact q.1, q.2.1, q.2.2.1, k _ _ _ _ q.2.2.2 .non (dqAll_append (dqAll_append (dqAll_take _ hu) (.cons h2 .nil)) (dqAll_drop _ hu))⟩
  · exact q.elim
/-! ### x[i] = .. -/
def gSx (po pi : PX) : PGx := fun d δ Q => po δ fun ro δ1 => pi δ1 fun ri δ2 => ∃ i n b ds j, ro = .at i ∧ dat δ2 ri = some (.int n) ∧ δ2[i]? = some (.ow b (.lst ds)) ∧ ixN ds.length n = some j ∧ Q (δ2.set i (.ow b (.lst (ds.set j d))))
theorem dqAll_set {K : PySem.W.Frag} {G : Hp} {v : V} {d : PyData} (h : Dq K G v d) : ∀ (n : Nat) {us : List V} {ds : List PyData}, DqAll K G us ds → DqAll K G (us.set n v) (ds.set n d)
  | _, _, _, .nil => .nil
  | 0, _, _, .cons _ h2 => .cons h h2
  | n + 1, _, _, .cons h1 h2 => .cons h1 (dqAll_set h n h2)
theorem jg_sub {i : Expr} {pi : PX} (ho : JE X B o po) (hi : JE X B i pi)
    (ha : ∀ v, assign (.Subscript o i pos) X.env v = (do
      let ov ← holding [v] (eval o X.env)
      let iv ← holding [v, ov] (eval i X.env)
      standAt pos
      holding [v, ov, iv] (setItem ov iv v)
      release [v, ov, iv] []) := by intro _; rfl) : JG X B (.Subscript o i pos) [] (gSx po pi) := by
  refine PG_wk (pg_sub ho hi set_list ha) fun v σ H Q ⟨G, w, δ, d, Qp, rep, hd, h, k⟩ => ?_
  refine ⟨G, w, δ, _, rep, h, fun ro δ1 x H1 G1 w1 q1 s1 rep1 => ?_⟩
  refine ⟨G1, _, δ1, _, rep1.drop, q1, fun ri δ2 y H2 G2 w2 q2 s2 rep2 => ?_⟩
  obtain ⟨i, n, b, ds, j, rfl, hn, e2, hj, q2⟩ := q2
  have hx : σ[i]? = some (some x) := rep1.tm 0 x (.at i) rfl rfl
  obtain ⟨a, us, hσ, hw, ha, hds⟩ := rep2.own e2
  rw [hx] at hσ
  cases hσ
  have hv := dp_mono (s1.g) _ _ hd
  have hv2 := dp_mono s2.g _ _ hv
  refine ⟨a, us, n, j, rfl, dp_int (rep2.dpH (j := 0) rfl rfl hn), ha, by rw [dqAll_len hds]; exact hj, ?_⟩
  obtain ⟨s4, r4⟩ := rep2.wr e2 hx hw ha (dqAll_set hv2 j hds)
  exact k _ σ _ G2 _ q2 ((((s1.trans .drop).trans s2).trans s4).trans .drop) r4.drop .refl .refl
end
/-! ### what is walked -/
structure ItD (K : PySem.W.Frag) (G : Hp) (J : It) (ds : List PyData) : Prop where
  go : ∀ G' H' (i : Nat), Same G G' → Same G' H' → i < ds.length → J.go i H'
  yld : ∀ G' H' (i : Nat) x H2, Same G G' → Same G' H' → i < ds.length → J.yld i H' x H2 → ∃ d, ds[i]? = some d ∧ Res K G' H' x H2 d
  stop : ∀ G' H', Same G G' → Same G' H' → J.stop ds.length H'
abbrev PIx := List Sl → (List PyData → List Sl → Prop) → Prop
def LI (K : PySem.W.Frag) (B : Bas) (p : PIx) : TI := fun σ H R => ∃ G w δ Qp, Rep K B G H σ δ [] [] w ∧ p δ Qp ∧ ∀ ds δ' J H' G' w', Qp ds δ' → Stp B.T G H w δ G' H' w' δ' → Rep K B G' H' σ δ' [] [] w' → ItD K G' J ds → R J H'
def JI (X : Cx) (B : Bas) (tg iter : Expr) (p : PIx) : Prop := PI X tg iter (LI X.K B p)
theorem PI_wk {X : Cx} {tg iter : Expr} {t t' : TI} (h : PI X tg iter t) (k : ∀ σ H R, t' σ H R → t σ H R) : PI X tg iter t' := ⟨fun pins s σ H R I q => h.run pins s σ H R I (k σ H R q)⟩
theorem itd_list {K : PySem.W.Frag} {G : Hp} {a : Addr} {us : List V} {ds : List PyData} (ha : G a = some (.lst us)) (hd : DqAll K G us ds) : ItD K G (Itl K a) ds where
  go := fun G' H' i sg sh hi => by
    have hl := dqAll_len hd
    exact ⟨us, us[i]'(by omega), SqL.of (sh _ _ (sg _ _ ha)), by simp⟩
  yld := fun G' H' i x H2 sg sh hi y => by
    obtain ⟨rfl, y⟩ := y
    obtain ⟨v, hv, hq⟩ := dqAll_get hd (List.getElem?_eq_getElem hi)
    have e := y us (SqL.of (sh _ _ (sg _ _ ha)))
    rw [hv] at e
    cases e
    exact ⟨_, List.getElem?_eq_getElem hi, .old (dp_mono sg _ _ hq)⟩
  stop := fun G' H' sg sh => ⟨us, SqL.of (sh _ _ (sg _ _ ha)), by rw [dqAll_len hd]; exact Nat.le_refl _⟩
theorem itd_tup {K : PySem.W.Frag} {G : Hp} {a : Addr} {us : List V} {ds : List PyData} (ha : SqT K G a us) (hd : DqAll K G us ds) : ItD K G (Itt K a) ds where
  go := fun G' H' i sg sh hi => by
    have hl := dqAll_len hd
    exact ⟨us, us[i]'(by omega), Same.tp sh _ _ (Same.tp sg _ _ ha), by simp⟩
  yld := fun G' H' i x H2 sg sh hi y => by
    obtain ⟨rfl, y⟩ := y
    obtain ⟨v, hv, hq⟩ := dqAll_get hd (List.getElem?_eq_getElem hi)
    have e := y us (Same.tp sh _ _ (Same.tp sg _ _ ha))
    rw [hv] at e
    cases e
    exact ⟨_, List.getElem?_eq_getElem hi, .old (dp_mono sg _ _ hq)⟩
  stop := fun G' H' sg sh => ⟨us, Same.tp sh _ _ (Same.tp sg _ _ ha), by rw [dqAll_len hd]; exact Nat.le_refl _⟩
theorem itd_rng {K : PySem.W.Frag} {G : Hp} {a b : Int} : ItD K G (Itr a (b - a).toNat) (rgD a b) where
  go := fun G' H' i _ _ hi => by
    unfold rgD at hi
    rw [List.length_map, List.length_range] at hi
    exact hi
  yld := fun G' H' i x H2 _ _ hi y => by
    obtain ⟨rfl, rfl⟩ := y
    unfold rgD at hi ⊢
    rw [List.length_map, List.length_range] at hi
    exact ⟨.int (a + (i : Nat)), by rw [List.getElem?_map, List.getElem?_range hi]; rfl, .int⟩
  stop := fun G' H' _ _ => by
    unfold rgD
    rw [List.length_map, List.length_range]
    exact Nat.le_refl _
section
variable {X : Cx} {tg l a b : Expr} {pl pa pb : PX} {p pos : Pos}
/-- a list or a tuple -/
def iSeqU (K : PySem.W.Frag) (tl : TE) : TI := fun σ H R => tl σ H fun x H1 => ∃ a, x = .ref a ∧ (((∃ xs, SqL K H1 a xs) ∧ R (Itl K a) H1) ∨ ((∃ xs, SqT K H1 a xs) ∧ R (Itt K a) H1))
theorem pi_seqU {tl : TE} (hl : PE X l tl) : PI X tg l (iSeqU X.K tl) := by
  refine ⟨fun pins s σ H R I h => ?_⟩
  refine thn (hl.run pins s σ H _ I h) fun v s1 ⟨x, H1, I1, r1, q1⟩ => ?_
  obtain ⟨a, e, ⟨⟨xs, hq⟩, q⟩ | ⟨⟨xs, hq⟩, q⟩⟩ := q1
  · subst e
    cases r1
    obtain ⟨its, rv, p, hz⟩ := I1.list hq
    refine wpAny_pyIter_list p.isList ?_
    refine ⟨s1.heap.objs.size, [s1.heap.objs.size], _, _, H1, rfl, I1.kept (t' := s1.toks) fun b o e => Heap.get?_push_of_some _ e, turn_list a _, ⟨_, Heap.get?_push_size _ rfl, rfl, rfl⟩, fun b hb => ?_, q⟩
    have e : b = s1.heap.objs.size := by simpa using hb
    subst e
    exact I1.fpOk (Nat.le_refl _) (I1.hok.fresh (Nat.le_refl _))
  · subst e
    cases r1
    obtain ⟨its, rv, p, hz⟩ := I1.tuple hq
    refine wpAny_pyIter_tuple (show s1.heap.IsTuple a its.toArray from p) ?_
    refine ⟨s1.heap.objs.size, [s1.heap.objs.size], _, _, H1, rfl, I1.kept (t' := s1.toks) fun b o e => Heap.get?_push_of_some _ e, turn_tuple a _, ⟨_, Heap.get?_push_size _ rfl, rfl, rfl⟩, fun b hb => ?_, q⟩
    have e : b = s1.heap.objs.size := by simpa using hb
    subst e
    exact I1.fpOk (Nat.le_refl _) (I1.hok.fresh (Nat.le_refl _))
def seqD : PyData → Option (List PyData)
  | .list ds => some ds
  | .tuple ds => some ds
  | _ => none
def iSeq (p : PX) : PIx := fun δ Q => p δ fun r δ1 => ∃ d δ2 ds, fz δ1 r = some (d, δ2) ∧ seqD d = some ds ∧ Q ds δ2
theorem ji_seq (hl : JE X B l pl) : JI X B tg l (iSeq pl) := PI_wk (pi_seqU hl) fun σ H R ⟨G, w, δ, Qp, rep, q, k⟩ =>
  ⟨G, w, δ, _, rep, q, fun r δ1 v H1 G1 w1 q1 s1 rep1 => by
    obtain ⟨d, δ2, ds, hz, hs, q1⟩ := q1
    obtain ⟨G2, w2, s2, r2⟩ := rep1.fz1 (j := 0) rfl rfl hz
    have hd : Dq X.K G2 v d := r2.tm 0 v (.im d) rfl rfl
    cases d with
    | list es =>
      cases hs
      cases hd with
      | lst ha hds => exact ⟨_, rfl, .inl ⟨⟨_, SqL.of (r2.sub _ _ ha)⟩, k ds δ2 _ H1 G2 _ q1 ((s1.trans s2).trans .drop) r2.drop (itd_list ha hds)⟩⟩
    | tuple es =>
      cases hs
      cases hd with
      | tup ha hds => exact ⟨_, rfl, .inr ⟨⟨_, Same.tp r2.sub _ _ ha⟩, k ds δ2 _ H1 G2 _ q1 ((s1.trans s2).trans .drop) r2.drop (itd_tup ha hds)⟩⟩
    | none => cases hs
    | bool _ => cases hs
    | int _ => cases hs
    | str _ => cases hs
    | dict _ => cases hs⟩
def iRg (ps : PL) : PIx := fun δ Q => ps δ fun rs δ1 => match dats δ1 rs with
  | some [.int n] => -(2 ^ 62) ≤ n ∧ n < 2 ^ 62 ∧ Q (rgD 0 n) δ1
  | some [.int i, .int j] => (-(2 ^ 62) ≤ i ∧ i < 2 ^ 62 ∧ -(2 ^ 62) ≤ j ∧ j < 2 ^ 62) ∧ Q (rgD i j) δ1
  | _ => False
theorem vws1 {K : PySem.W.Frag} {G H : Hp} {vs : List V} {i : Int} (h : Vws K G H vs [.int i]) : vs = [.int i] := by
  cases h with
  | cons h1 h => cases h; rw [h1.int]
theorem vws2 {K : PySem.W.Frag} {G H : Hp} {vs : List V} {i j : Int} (h : Vws K G H vs [.int i, .int j]) : vs = [.int i, .int j] := by
  cases h with
  | cons h1 h =>
    cases h with
    | cons h2 h => cases h; rw [h1.int, h2.int]
theorem vws_len {K : PySem.W.Frag} {G H : Hp} : ∀ {vs : List V} {ds : List PyData}, Vws K G H vs ds → vs.length = ds.length
  | _, _, .nil => rfl
  | _, _, .cons _ h => congrArg (· + 1) (vws_len h)
theorem ji_rng1 {ps : PL} (hg : Gl X "range") (hm : X.mg "range" = none) (ha : JA X B [a] ps) (hs : starEach [a] X.env = [(false, eval a X.env)] := by rfl) : JI X B tg (.Call (.Name "range" p) [a] [] pos) (iRg ps) := by
  refine PI_wk (pi_range1 hg hm ha hs) fun σ H R ⟨G, w, δ, Qp, rep, q, k⟩ => ?_
  refine ⟨G, w, δ, _, rep, q, fun rs δ1 vs H1 G1 w1 q1 l1 s1 rep1 => ?_⟩
  revert q1
  split
  · rename_i n e
    rintro ⟨b1, b2, q1⟩
    refine ⟨n, vws1 (rep1.vws e), b1, b2, k _ δ1 _ H1 G1 _ q1 (s1.trans .drop) rep1.drop ?_⟩
    have := itd_rng (K := X.K) (G := G1) (a := 0) (b := n)
    rwa [Int.sub_zero] at this
  · rename_i i j e
    intro q1
    have := vws_len (rep1.vws e)
    rw [rep1.tlen, l1] at this
    simp at this
  · intro q1; exact q1.elim
theorem ji_rng2 {ps : PL} (hg : Gl X "range") (hm : X.mg "range" = none) (ha : JA X B [a, b] ps) (hs : starEach [a, b] X.env = [(false, eval a X.env), (false, eval b X.env)] := by rfl) (hs2 : starEach [b] X.env = [(false, eval b X.env)] := by rfl) : JI X B tg (.Call (.Name "range" p) [a, b] [] pos) (iRg ps) := by
  refine PI_wk (pi_range2 hg hm ha hs hs2) fun σ H R ⟨G, w, δ, Qp, rep, q, k⟩ => ?_
  refine ⟨G, w, δ, _, rep, q, fun rs δ1 vs H1 G1 w1 q1 l1 s1 rep1 => ?_⟩
  revert q1
  split
  · rename_i n e
    intro q1
    have := vws_len (rep1.vws e)
    rw [rep1.tlen, l1] at this
    simp at this
  · rename_i i j e
    rintro ⟨b1, q1⟩
    exact ⟨i, j, vws2 (rep1.vws e), b1, k _ δ1 _ H1 G1 _ q1 (s1.trans .drop) rep1.drop itd_rng⟩
  · intro q1; exact q1.elim
/-! ### for, while -/
/-- the slots ts are forgotten -/
def wp1 : Bool → Sl → Sl
  | true, .ow true o => .ow true o
  | true, _ => .un
  | false, s => s
def wpG (ts : List Nat) : Nat → List Sl → List Sl
  | _, [] => []
  | n, s :: δ => wp1 (ts.elem n) s :: wpG ts (n + 1) δ
def wipeT (δ : List Sl) (ts : List Nat) : List Sl := wpG ts 0 δ
theorem wpG_get (ts : List Nat) : ∀ (δ : List Sl) (n i : Nat), (wpG ts n δ)[i]? = (δ[i]?).map fun s => wp1 (ts.elem (n + i)) s
  | [], n, i => by simp [wpG]
  | s :: δ, n, 0 => by simp [wpG]
  | s :: δ, n, i + 1 => by
    simp only [wpG, List.getElem?_cons_succ, wpG_get ts δ (n + 1) i]
    have : n + 1 + i = n + (i + 1) := by omega
    rw [this]
theorem wpG_len (ts : List Nat) : ∀ (δ : List Sl) (n : Nat), (wpG ts n δ).length = δ.length
  | [], _ => rfl
  | s :: δ, n => by simp only [wpG, List.length_cons, wpG_len ts δ (n + 1)]
theorem wipeT_len (δ : List Sl) (ts : List Nat) : (wipeT δ ts).length = δ.length := wpG_len ts δ 0
theorem wipeT_get {δ : List Sl} {i : Nat} {s : Sl} {ts : List Nat} (h : (wipeT δ ts)[i]? = some s) : s = .un ∨ δ[i]? = some s := by
  unfold wipeT at h
  rw [wpG_get] at h
  obtain ⟨s', h1, rfl⟩ := Option.map_eq_some_iff.mp h
  cases hb : ts.elem (0 + i) with
  | false => exact .inr h1
  | true =>
    cases s' with
    | un => exact .inl rfl
    | im d => exact .inl rfl
    | ex a dd C fs => exact .inl rfl
    | ow b o =>
      cases b with
      | true => exact .inr h1
      | false => exact .inl rfl
theorem wipeT_pin {δ : List Sl} {i : Nat} {o : O} (h : δ[i]? = some (Sl.ow true o)) (ts : List Nat) : (wipeT δ ts)[i]? = some (Sl.ow true o) := by
  unfold wipeT
  rw [wpG_get, h]
  cases hb : ts.elem (0 + i) with
  | false => rfl
  | true => rfl
theorem Rep.wipe {K : PySem.W.Frag} {G H : Hp} {σ : St} {δ : List Sl} {w : Addr → Option Nat} (r : Rep K B G H σ δ [] [] w) (ts : List Nat) : Rep K B G H σ (wipeT δ ts) [] [] w := ⟨r.sub, r.out, by rw [wipeT_len]; exact r.len, fun i s h => by
  rcases wipeT_get h with rfl | h
  · trivial
  · exact r.sl i s h, rfl, fun j v q hv => by simp at hv, r.bs⟩
theorem Stp.wipe {G H G' H' : Hp} {w w' : Addr → Option Nat} {δ δ' : List Sl} (s : Stp B.T G H w δ G' H' w' δ') (ts : List Nat) : Stp B.T G H w δ G' H' w' (wipeT δ' ts) := ⟨s.g, s.b, s.n, s.p, fun i o h => by
  obtain ⟨o', h'⟩ := s.pn i o h
  exact ⟨o', wipeT_pin h' ts⟩, s.t, s.q⟩
/-- turn by turn, by a word I; ts: the slots that no later turn reads -/
def loopI (step : PyData → PSx) (ts : List Nat) (E : PEn) (ds : List PyData) (δ : List Sl) : Prop := ∃ I : Nat → List Sl → Prop, I 0 δ ∧
  (∀ (i : Nat) d δ, ds[i]? = some d → I i δ → step d ⟨fun δ' => I (i + 1) (wipeT δ' ts), E.rt, fun δ' => E.nx (wipeT δ' ts), fun δ' => I (i + 1) (wipeT δ' ts)⟩ δ) ∧ ∀ δ, I ds.length δ → E.nx δ
def pFor (ts : List Nat) (it : PIx) (g : PGx) (body : PSx) : PSx := fun E δ => it δ fun ds δ1 => loopI (fun d E δ => g d δ fun δ' => body E δ') ts E ds (wipeT δ1 ts)
theorem Rep.res {K : PySem.W.Frag} {G H H2 : Hp} {σ : St} {δ : List Sl} {vs : List V} {rs : List R} {w : Addr → Option Nat} {x : V} {d : PyData} (r : Rep K B G H σ δ vs rs w) (h : Res K G H x H2 d) : ∃ G2, Stp B.T G H w δ G2 H2 w δ ∧ Rep K B G2 H2 σ δ vs rs w ∧ Dq K G2 x d := by
  rcases h with ⟨rfl, h⟩ | ⟨p, us, l, rfl, hp, rfl, hd, rfl⟩
  · exact ⟨G, .refl, r, h⟩
  · obtain ⟨s1, r1⟩ := r.lay (o := .tup us) hp
    exact ⟨_, s1, r1, dq_newTup r.sub hp hd⟩
theorem js_for {iter : Expr} {body : List Stmt} {pi : PIx} {ts ts' : List Nat} {g : PGx} {pb : PSx} (hp : PassesOwn (model X.prog X.w) X.A X.env X.xe) (hc : X.calm = true) (hi : JI X B tg iter pi) (hg : JG X B tg ts' g) (hb : JSs X B body pb)
    (hs : ∀ x, foldedSetIterable iter X.env x = pure x := by intro _; rfl) : JS X B (.For tg iter body [] pos) (pFor ts pi g pb) := by
  refine PS_wk (ps_for hp hc hi hg hb (by assumption)) fun D σ H ⟨G, w, δ, E, rep, h, ek⟩ => ?_
  refine ⟨G, w, δ, _, rep, h, fun ds δ1 J H1 G1 w1 q1 s1 rep1 itd => ?_⟩
  obtain ⟨I, i0, is, ie⟩ := q1
  refine ⟨fun i m σ' H' => m = ds.length - i ∧ i ≤ ds.length ∧ ∃ G' w' δ', Stp B.T G H w δ G' H' w' δ' ∧ Same G1 G' ∧ Rep X.K B G' H' σ' δ' [] [] w' ∧ Pin σ δ σ' ∧ I i δ', ⟨ds.length, rfl, Nat.zero_le _, G1, w1, _, s1.wipe ts, fun _ _ h => h, rep1.wipe ts, .refl, i0⟩, ?_⟩
  rintro i m σ' H' ⟨rfl, hi, G', w', δ', st, sg, rp, pn, q⟩
  by_cases hlt : i < ds.length
  · have q := is i _ δ' (List.getElem?_eq_getElem hlt) q
    refine .inr ⟨itd.go G' H' i sg rp.sub hlt, fun σ2 H2 => i + 1 ≤ ds.length ∧ ∃ G' w' δ', Stp B.T G H w δ G' H2 w' δ' ∧ Same G1 G' ∧ Rep X.K B G' H2 σ2 δ' [] [] w' ∧ Pin σ δ σ2 ∧ I (i + 1) δ', fun σ2 H2 z => ⟨ds.length - (i + 1), by omega, rfl, z⟩, fun x H2 y => ?_⟩
    obtain ⟨d, hd, res⟩ := itd.yld G' H' i x H2 sg rp.sub hlt y
    rw [List.getElem?_eq_getElem hlt] at hd
    cases hd
    obtain ⟨G2, s2, r2, hq⟩ := rp.res res
    refine ⟨G2, w', δ', _, _, r2, hq, q, fun δ3 σ3 H3 G3 w3 q3 s3 r3 p3 _ => ⟨G3, w3, δ3, _, r3, q3, ?_⟩⟩
    have st3 := (st.trans s2).trans s3
    have pn3 : Pin σ δ σ3 := pn.trans (st.trans s2).pn p3
    have nx : ∀ δ4 σ4 H4 G4 w4, I (i + 1) (wipeT δ4 ts) → Stp B.T G3 H3 w3 δ3 G4 H4 w4 δ4 → Rep X.K B G4 H4 σ4 δ4 [] [] w4 → Pin σ3 δ3 σ4 → i + 1 ≤ ds.length ∧ ∃ G' w' δ', Stp B.T G H w δ G' H4 w' δ' ∧ Same G1 G' ∧ Rep X.K B G' H4 σ4 δ' [] [] w' ∧ Pin σ δ σ4 ∧ I (i + 1) δ' :=
      fun δ4 σ4 H4 G4 w4 hl s4 r4 p4 => ⟨hlt, G4, w4, _, (st3.trans s4).wipe ts, fun a o ha => s4.g a o (s3.g a o (s2.g a o (sg a o ha))), r4.wipe ts, pn3.trans st3.pn p4, hl⟩
    exact ⟨nx, (ek.later st3 pn3).rt, fun δ4 σ4 H4 G4 w4 hl s4 r4 p4 => ek.nx _ σ4 H4 G4 w4 hl ((st3.trans s4).wipe ts) (r4.wipe ts) (pn3.trans st3.pn p4), nx⟩
  · have ei : i = ds.length := by omega
    subst ei
    exact .inl ⟨itd.stop G' H' sg rp.sub, ek.nx δ' σ' H' G' w' (ie δ' q) st rp pn⟩
/-- while: by a word and a number that falls -/
def pWhile (ts : List Nat) (c : PB) (body : PSx) : PSx := fun E δ => ∃ I : Nat → List Sl → Prop, (∃ m, I m (wipeT δ ts)) ∧ ∀ m δ, I m δ → c δ fun t δ1 => if t = true then body ⟨fun δ' => ∃ m', m' < m ∧ I m' (wipeT δ' ts), E.rt, fun δ' => E.nx (wipeT δ' ts), fun δ' => ∃ m', m' < m ∧ I m' (wipeT δ' ts)⟩ δ1 else E.nx δ1
theorem js_while {c : Expr} {body : List Stmt} {ts : List Nat} {pc : PB} {pb : PSx} (hp : PassesOwn (model X.prog X.w) X.A X.env X.xe) (hc : JB X B c pc) (hb : JSs X B body pb) : JS X B (.While c body [] pos) (pWhile ts pc pb) := by
  refine PS_wk (ps_while hp hc hb) fun D σ H ⟨G, w, δ, E, rep, ⟨I, ⟨n, h⟩, is⟩, ek⟩ => ?_
  refine ⟨fun m σ' H' => ∃ G' w' δ', Stp B.T G H w δ G' H' w' δ' ∧ Rep X.K B G' H' σ' δ' [] [] w' ∧ Pin σ δ σ' ∧ I m δ', ⟨n, G, w, _, (Stp.refl (δ := δ)).wipe ts, rep.wipe ts, .refl, h⟩, ?_⟩
  rintro m σ' H' ⟨G', w', δ', st, rp, pn, q⟩
  refine ⟨G', w', δ', _, rp, is m δ' q, fun t δ1 H1 G1 w1 q1 s1 rep1 => ?_⟩
  cases t with
  | false => exact ek.nx δ1 σ' H1 G1 w1 q1 (st.trans s1) rep1 pn
  | true =>
    refine ⟨fun σ2 H2 => ∃ m', m' < m ∧ ∃ G' w' δ', Stp B.T G H w δ G' H2 w' δ' ∧ Rep X.K B G' H2 σ2 δ' [] [] w' ∧ Pin σ δ σ2 ∧ I m' δ', fun σ2 H2 z => z, G1, w1, δ1, _, rep1, q1, ?_⟩
    have st3 := st.trans s1
    have nx : ∀ δ4 σ4 H4 G4 w4, (∃ m', m' < m ∧ I m' (wipeT δ4 ts)) → Stp B.T G1 H1 w1 δ1 G4 H4 w4 δ4 → Rep X.K B G4 H4 σ4 δ4 [] [] w4 → Pin σ' δ1 σ4 → ∃ m', m' < m ∧ ∃ G' w' δ', Stp B.T G H w δ G' H4 w' δ' ∧ Rep X.K B G' H4 σ4 δ' [] [] w' ∧ Pin σ δ σ4 ∧ I m' δ' :=
      fun δ4 σ4 H4 G4 w4 ⟨m', hm, hl⟩ s4 r4 p4 => ⟨m', hm, G4, w4, _, (st3.trans s4).wipe ts, r4.wipe ts, pn.trans st3.pn p4, hl⟩
    exact ⟨nx, (ek.later st3 pn).rt, fun δ4 σ4 H4 G4 w4 hl s4 r4 p4 => ek.nx _ σ4 H4 G4 w4 hl ((st3.trans s4).wipe ts) (r4.wipe ts) (pn.trans st3.pn p4), nx⟩
end
end Pv
namespace Pv
open PySem PySem.Spec L2 Wf
variable {B : Bas}
theorem RR.noAt {K : PySem.W.Frag} {G H : Hp} {σ σ' : St} {m : Addr → Prop} {v : V} {r : R} (h : RR K G H σ m v r) (n : isAt r = false) : RR K G H σ' m v r := by
  cases r with
  | im d => exact h
  | ow o => exact h
  | «at» i => cases n
theorem Rep.reσ {K : PySem.W.Frag} {G H : Hp} {σ σ' : St} {δ δ' : List Sl} {vs : List V} {rs : List R} {w : Addr → Option Nat} (r : Rep K B G H σ δ vs rs w) (hl : σ'.length = δ'.length) (hs : ∀ (i : Nat) s, δ'[i]? = some s → s = .un ∨ (δ[i]? = some s ∧ σ'[i]? = σ[i]?)) (hn : ∀ q ∈ rs, isAt q = false) : Rep K B G H σ' δ' vs rs w where
  sub := r.sub
  out := r.out
  len := hl
  sl := fun i s h => by
    rcases hs i s h with rfl | ⟨h1, h2⟩
    · trivial
    · rw [h2]; exact r.sl i s h1
  tlen := r.tlen
  tm := fun j v q hv hq => (r.tm j v q hv hq).noAt (hn q (List.mem_of_getElem? hq))
  bs := r.bs
/-- the frame where slots were stored to -/
theorem Rep.frameS {K : PySem.W.Frag} {G H G' H' : Hp} {σ σ' : St} {δ δ' : List Sl} {vs vs1 : List V} {rs rs1 : List R} {w w' : Addr → Option Nat} (r : Rep K B G H σ δ vs rs w) (hn : ∀ q ∈ rs, isAt q = false) (s : Stp B.T G H (fun a => evn (w a)) δ G' H' w' δ') (r' : Rep K B G' H' σ' δ' vs1 rs1 w') :
    ∃ w2, Stp B.T G H w δ G' H' w2 δ' ∧ Rep K B G' H' σ' δ' (vs ++ vs1) (rs ++ rs1) w2 := by
  -- the same addresses
  have odd : ∀ a n, w a = some n → n % 2 = 1 → w' a = none := fun a n h ho => by
    have e0 : evn (w a) = none := by
      cases e : evn (w a) with
      | none => rfl
      | some m =>
        have := evn_some.mp e
        rw [h] at this
        have z := this.1
        cases z
        omega
    obtain ⟨g0, h0, n0⟩ := r.out a n h
    cases e : w' a with
    | none => rfl
    | some i =>
      rcases s.n a i e with z | z
      · exact absurd e0 z
      · exact absurd z h0
  have evw : ∀ a i, w' a = some i → ∀ n, w a = some n → n % 2 = 0 := fun a i h n hn => by
    by_cases ho : n % 2 = 1
    · rw [odd a n hn ho] at h; cases h
    · omega
  have st : Stp B.T G H w δ G' H' (both rs.length w w') δ' := by
    refine ⟨s.g, fun a o hw ha => s.b a o (by show evn (w a) = none; rw [hw]; rfl) ha, fun a i h => ?_, fun a o h => ?_, s.pn, s.t, s.q⟩
    · cases e : w a with
      | some n => exact .inl (Option.some_ne_none _)
      | none =>
        have e1 : both rs.length w w' a = shf rs.length (w' a) := both_evn fun n hn => by rw [e] at hn; cases hn
        rw [e1] at h
        obtain ⟨m, hm, _⟩ := shf_some h
        rcases s.n a m hm with z | z
        · have z' := evn_ne z
          rw [e] at z'
          exact .inl z'
        · exact .inr z
    · rcases s.p a o h with z | z | z | z
      · exact .inl z
      · exact .inr (.inl z)
      · exact .inr (.inr (.inl (evn_ne z)))
      · exact .inr (.inr (.inr z))
  refine ⟨both rs.length w w', st, r'.sub, fun a i h => ?_, r'.len, fun i sl h => ?_, by rw [List.length_append, List.length_append, r.tlen, r'.tlen], fun j v q hv hr => ?_, st.bs r.bs⟩
  · by_cases ho : ∃ n, w a = some n ∧ n % 2 = 1
    · obtain ⟨n, hn', ho⟩ := ho
      have e0 : evn (w a) = none := by
        rw [hn']
        unfold evn
        dsimp only
        rw [if_neg (by omega)]
      obtain ⟨g0, h0, n0⟩ := r.out a n hn'
      refine ⟨?_, s.nn a e0 h0 n0⟩
      cases e3 : G' a with
      | none => rfl
      | some o =>
        rcases s.p a o e3 with z | z | z | ⟨xs, z⟩
        · rw [g0] at z; cases z
        · exact absurd z h0
        · exact absurd e0 z
        · exact absurd z (n0 xs)
    · have e1 : both rs.length w w' a = shf rs.length (w' a) := both_evn fun n hn => by
        by_cases z : n % 2 = 1
        · exact absurd ⟨n, hn, z⟩ ho
        · omega
      rw [e1] at h
      obtain ⟨m, hm, _⟩ := shf_some h
      exact r'.out a m hm
  · refine (r'.sl i sl h).mono (fun _ _ h => h) (fun _ _ _ h => h) fun a u ma _ => ?_
    rw [both_evn (evw a _ ma)]
    unfold shf
    rw [ma]
    dsimp only
    rw [if_pos (by omega)]
  · by_cases hj : j < vs.length
    · rw [List.getElem?_append_left hj] at hv
      rw [List.getElem?_append_left (by rw [← r.tlen]; exact hj)] at hr
      refine ((r.tm j v q hv hr).noAt (σ' := σ') (hn q (List.mem_of_getElem? hr))).monoN s.g (fun a u hnt ma hu => ?_) fun a u ma _ => both_odd ma (by omega)
      refine s.bN a u hnt ?_ hu
      show evn (w a) = none
      rw [ma]
      unfold evn
      dsimp only
      rw [if_neg (by omega)]
    · have hj : vs.length ≤ j := by omega
      rw [List.getElem?_append_right hj] at hv
      rw [List.getElem?_append_right (by rw [← r.tlen]; exact hj), ← r.tlen] at hr
      refine (r'.tm (j - vs.length) v q hv hr).mono (fun _ _ h => h) (fun _ _ _ h => h) fun a u ma _ => ?_
      rw [both_evn (evw a _ ma)]
      unfold shf
      rw [ma]
      dsimp only
      rw [if_neg (by omega), r.tlen.symm]
      congr 1
      omega
/-! ### comprehensions -/
def wipeS (δ : List Sl) : List Nat → List Sl
  | [] => δ
  | v :: vs => (wipeS δ vs).set v .un
def noPin (δ : List Sl) (vs : List Nat) : Prop := ∀ v ∈ vs, ∀ o, δ[v]? ≠ some (.ow true o)
def restS (δ0 δ : List Sl) : List Nat → List Sl
  | [] => δ
  | v :: vs => match δ0[v]? with
    | some (.im d) => (restS δ0 δ vs).set v (.im d)
    | _ => (restS δ0 δ vs).set v .un
theorem wipeS_len (δ : List Sl) : ∀ vs, (wipeS δ vs).length = δ.length
  | [] => rfl
  | v :: vs => by unfold wipeS; rw [List.length_set, wipeS_len δ vs]
theorem wipeS_get {δ : List Sl} {i : Nat} {s : Sl} : ∀ {vs : List Nat}, (wipeS δ vs)[i]? = some s → s = .un ∨ (δ[i]? = some s ∧ i ∉ vs)
  | [], h => .inr ⟨h, by simp⟩
  | v :: vs, h => by
    unfold wipeS at h
    by_cases hi : v = i
    · subst hi
      by_cases hv : v < (wipeS δ vs).length
      · rw [List.getElem?_set_self hv] at h; cases h; exact .inl rfl
      · rw [List.getElem?_eq_none (by simpa using hv)] at h; cases h
    · rw [List.getElem?_set_ne hi] at h
      rcases wipeS_get h with e | ⟨h1, h2⟩
      · exact .inl e
      · exact .inr ⟨h1, by simp only [List.mem_cons, not_or]; exact ⟨fun e => hi e.symm, h2⟩⟩
theorem wipeS_ne {δ : List Sl} {i : Nat} : ∀ {vs : List Nat}, i ∉ vs → (wipeS δ vs)[i]? = δ[i]?
  | [], _ => rfl
  | v :: vs, h => by
    simp only [List.mem_cons, not_or] at h
    unfold wipeS
    rw [List.getElem?_set_ne (Ne.symm h.1)]
    exact wipeS_ne h.2
theorem wipe_ne {σ : St} {i : Nat} : ∀ {vs : List Nat}, i ∉ vs → (wipe σ vs)[i]? = σ[i]?
  | [], _ => rfl
  | v :: vs, h => by
    simp only [List.mem_cons, not_or] at h
    unfold wipe
    rw [List.getElem?_set_ne (Ne.symm h.1)]
    exact wipe_ne h.2
theorem wipe_in {σ : St} {i : Nat} : ∀ {vs : List Nat}, i ∈ vs → i < σ.length → (wipe σ vs)[i]? = some none
  | [], h, _ => by cases h
  | v :: vs, h, hl => by
    unfold wipe
    by_cases e : v = i
    · subst e
      rw [List.getElem?_set_self (by rw [wipe_length]; exact hl)]
    · rw [List.getElem?_set_ne e]
      rcases List.mem_cons.mp h with z | z
      · exact absurd z.symm e
      · exact wipe_in z hl
theorem wipe_eq {σ σ' : St} {vs ts : List Nat} (t : Tch ts (wipe σ vs) σ') (h : ∀ i ∈ ts, i ∈ vs) : wipe σ' vs = wipe σ vs := by
  have hl : σ'.length = σ.length := by rw [t.1, wipe_length]
  apply List.ext_getElem?
  intro i
  by_cases hi : i ∈ vs
  · by_cases hb : i < σ.length
    · rw [wipe_in hi hb, wipe_in hi (by omega)]
    · rw [List.getElem?_eq_none (by rw [wipe_length]; omega), List.getElem?_eq_none (by rw [wipe_length]; omega)]
  · rw [wipe_ne hi, wipe_ne hi, t.2 i fun z => hi (h i z), wipe_ne hi]
theorem restS_ne {δ0 δ : List Sl} {i : Nat} : ∀ {vs : List Nat}, i ∉ vs → (restS δ0 δ vs)[i]? = δ[i]?
  | [], _ => rfl
  | v :: vs, h => by
    simp only [List.mem_cons, not_or] at h
    unfold restS
    split
    · rw [List.getElem?_set_ne (Ne.symm h.1)]; exact restS_ne h.2
    · rw [List.getElem?_set_ne (Ne.symm h.1)]; exact restS_ne h.2
theorem restS_len {δ0 δ : List Sl} : ∀ vs, (restS δ0 δ vs).length = δ.length
  | [] => rfl
  | v :: vs => by
    unfold restS
    split
    · rw [List.length_set, restS_len vs]
    · rw [List.length_set, restS_len vs]
theorem restS_in {δ0 δ : List Sl} {i : Nat} {s : Sl} : ∀ {vs : List Nat}, i ∈ vs → (restS δ0 δ vs)[i]? = some s → s = .un ∨ ∃ d, s = .im d ∧ δ0[i]? = some (.im d)
  | [], h, _ => by cases h
  | v :: vs, h, hs => by
    unfold restS at hs
    by_cases e : v = i
    · subst e
      revert hs
      split
      · rename_i d e0
        intro hs
        by_cases hb : v < (restS δ0 δ vs).length
        · rw [List.getElem?_set_self hb] at hs; cases hs; exact .inr ⟨d, rfl, e0⟩
        · rw [List.getElem?_eq_none (by simpa using hb)] at hs; cases hs
      · intro hs
        by_cases hb : v < (restS δ0 δ vs).length
        · rw [List.getElem?_set_self hb] at hs; cases hs; exact .inl rfl
        · rw [List.getElem?_eq_none (by simpa using hb)] at hs; cases hs
    · have hm : i ∈ vs := by
        rcases List.mem_cons.mp h with z | z
        · exact absurd z.symm e
        · exact z
      revert hs
      split
      · intro hs; rw [List.getElem?_set_ne e] at hs; exact restS_in hm hs
      · intro hs; rw [List.getElem?_set_ne e] at hs; exact restS_in hm hs
/-- turn by turn, by a word I over what is made so far -/
def compI (g : PGx) (tt : PB) (elt : PX) (vs : List Nat) (Kk : List PyData → List Sl → Prop) (ds : List PyData) (δ : List Sl) : Prop := ∃ I : Nat → List PyData → List Sl → Prop, I 0 [] δ ∧
  (∀ (i : Nat) d acc δ, ds[i]? = some d → I i acc δ → g d δ fun δ2 => tt δ2 fun b δ3 => if b = true then elt δ3 fun r δ4 => ∃ e δ5, fz δ4 r = some (e, δ5) ∧ acc.length < sizeLine ∧ I (i + 1) (acc ++ [e]) (wipeS δ5 vs) else I (i + 1) acc (wipeS δ3 vs)) ∧ ∀ acc δ, I ds.length acc δ → Kk acc δ
def pComp (it : PIx) (g : PGx) (tt : PB) (elt : PX) (vs : List Nat) : PX := fun δ Q => it δ fun ds δ1 => noPin δ1 vs ∧ compI g tt elt vs (fun acc δ2 => Q (.ow (.lst acc)) (restS δ1 δ2 vs)) ds (wipeS δ1 vs)
def pYes : PB := fun δ Q => Q true δ
theorem Stp.reδ {G H G' H' : Hp} {w w' : Addr → Option Nat} {δ δ' δ2 : List Sl} (s : Stp B.T G H w δ G' H' w' δ') (p : Pn δ δ2) : Stp B.T G H w δ G' H' w' δ2 := ⟨s.g, s.b, s.n, s.p, p, s.t, s.q⟩
section
variable {K : PySem.W.Frag} {G H : Hp} {σ : St} {δ : List Sl} {vs : List V} {rs : List R} {w : Addr → Option Nat}
theorem Rep.wrT {D : Addr} {ds ds' : List PyData} {us' : List V} (r : Rep K B G H σ δ (.ref D :: vs) (.ow (.lst ds) :: rs) w) (hd : DqAll K G us' ds') :
    ∃ us, H D = some (.lst us) ∧ DqAll K G us ds ∧ Stp B.T G H w δ G (upd H D (.lst us')) w δ ∧ Rep K B G (upd H D (.lst us')) σ δ (.ref D :: vs) (.ow (.lst ds') :: rs) w := by
  obtain ⟨a, us, e, ma, ha, hus⟩ := r.tm 0 _ _ rfl rfl
  cases e
  have hw : w D = some 1 := ma
  have ne : ∀ x n, w x = some n → n ≠ 1 → x ≠ D := fun x n hx hn z => by subst z; rw [hw] at hx; cases hx; exact hn rfl
  have g0 := (r.out D _ hw).1
  have st : Stp B.T G H w δ G (upd H D (.lst us')) w δ := by
    refine .of ⟨fun _ _ h => h, fun x o hx ho => ?_, fun x n hx => .inl (by rw [hx]; exact Option.some_ne_none _), fun _ _ h => .inl h, .refl _⟩ (tabs_put ha)
    rw [upd_ne (fun z => by subst z; rw [hw] at hx; cases hx)]
    exact ho
  refine ⟨us, ha, hus, st, fun x o hx => ?_, fun x n hx => ?_, r.len, fun k s hk => ?_, r.tlen, fun j v q hv hq => ?_, st.bs r.bs⟩
  · have : x ≠ D := fun z => by subst z; rw [g0] at hx; cases hx
    rw [upd_ne this]
    exact r.sub x o hx
  · obtain ⟨h1, h2, h3⟩ := r.out x n hx
    by_cases e : x = D
    · subst e
      rw [upd_same]
      exact ⟨h1, Option.some_ne_none _, NoX.lst upd_same⟩
    · rw [upd_ne e]
      exact ⟨h1, h2, noT_upd e h3⟩
  · refine (r.sl k s hk).mono (fun _ _ h => h) (fun x u mx hu => ?_) fun x u mx _ => mx
    rw [upd_ne (ne x _ mx (by omega))]
    exact hu
  · match j with
    | 0 =>
      simp only [List.getElem?_cons_zero, Option.some.injEq] at hv hq
      subst hv hq
      exact ⟨D, us', rfl, hw, upd_same, hd⟩
    | j + 1 =>
      refine (r.tm (j + 1) v q (by simpa using hv) (by simpa using hq)).mono (fun _ _ h => h) (fun x u mx hu => ?_) fun x u mx _ => mx
      rw [upd_ne (ne x _ mx (by omega))]
      exact hu
theorem Rep.first {v : V} {q : R} (r : Rep K B G H σ δ (v :: vs) (q :: rs) w) : Rep K B G H σ δ [v] [q] w := ⟨r.sub, r.out, r.len, r.sl, rfl, fun j u p hu hp => by
  match j with
  | 0 => exact r.tm 0 u p (by simpa using hu) (by simpa using hp)
  | j + 1 => simp at hu, r.bs⟩
end
def JTs (X : Cx) (B : Bas) (ifs : List Expr) (p : PB) : Prop := PTs X ifs (LB X.K B p)
theorem PTs_wk {X : Cx} {ifs : List Expr} {t t' : TT} (h : PTs X ifs t) (k : ∀ σ H Q, t' σ H Q → t σ H Q) : PTs X ifs t' := ⟨fun pins s σ H Q I q => h.run pins s σ H Q I (k σ H Q q)⟩
theorem jts_nil {X : Cx} : JTs X B [] pYes := PTs_wk pts_nil fun σ H Q ⟨G, w, δ, Qp, rep, q, k⟩ => k true δ H G w q .refl rep
theorem jts_one {X : Cx} {c : Expr} {p : PB} (h : JB X B c p) : JTs X B [c] p := pts_one h
theorem lc_lift {K : PySem.W.Frag} {pi : PIx} {ts vs : List Nat} {g : PGx} {tt : PB} {elt : PX} {σ : St} {H : Hp} {Q : VK} (hts : ∀ i ∈ ts, i ∈ vs) (h : LE K B (pComp pi g tt elt vs) σ H Q) : tLc (LI K B pi) (LG K B ts g) (LB K B tt) (LE K B elt) vs σ H Q := by
  obtain ⟨G, w, δ, Qp, rep, q, k⟩ := h
  refine ⟨G, w, δ, _, rep, q, fun ds δ1 J H1 G1 w1 q1 s1 rep1 itd D hD => ?_⟩
  obtain ⟨np, I, i0, is, ie⟩ := q1
  obtain ⟨w2, s2, r2⟩ := rep1.retLst (us := []) (ds := []) hD .nil
  have noA : ∀ acc : List PyData, ∀ p ∈ [R.ow (.lst acc)], isAt p = false := fun acc p hp => by rw [List.mem_singleton.mp hp]; rfl
  have ni : ∀ (i : Nat) o, δ[i]? = some (Sl.ow true o) → i ∉ vs := fun i o hi => by
    obtain ⟨o1, h1⟩ := s1.pn i o hi
    exact fun z => np i z o1 h1
  have pnw : ∀ {G' H' : Hp} {w' : Addr → Option Nat} {δ' : List Sl}, Stp B.T G H w δ G' H' w' δ' → Stp B.T G H w δ G' H' w' (wipeS δ' vs) := fun s => s.reδ fun i o hi => by
    obtain ⟨o1, h1⟩ := s.pn i o hi
    exact ⟨o1, by rw [wipeS_ne (ni i o hi)]; exact h1⟩
  refine ⟨fun i m H' => m = ds.length - i ∧ i ≤ ds.length ∧ ∃ G' w' δ' acc, Stp B.T G H w δ G' H' w' δ' ∧ Same G1 G' ∧ Rep K B G' H' (wipe σ vs) δ' [.ref D] [.ow (.lst acc)] w' ∧ I i acc δ', ⟨ds.length, rfl, Nat.zero_le _, G1, w2, wipeS δ1 vs, [], pnw (s1.trans s2), fun _ _ h => h, r2.reσ (by rw [wipe_length, wipeS_len]; exact r2.len) (fun i s hi => ?_) (noA _), i0⟩, ?_⟩
  · rcases wipeS_get hi with e | ⟨e1, e2⟩
    · exact .inl e
    · exact .inr ⟨e1, wipe_ne e2⟩
  rintro i m H' ⟨rfl, hi, G', w', δ', acc, st, sg, rp, q⟩
  by_cases hlt : i < ds.length
  · have q := is i _ acc δ' (List.getElem?_eq_getElem hlt) q
    refine .inr ⟨itd.go G' H' i sg rp.sub hlt, fun H2 => i + 1 ≤ ds.length ∧ ∃ G' w' δ' acc, Stp B.T G H w δ G' H2 w' δ' ∧ Same G1 G' ∧ Rep K B G' H2 (wipe σ vs) δ' [.ref D] [.ow (.lst acc)] w' ∧ I (i + 1) acc δ', fun H2 z => ⟨ds.length - (i + 1), by omega, rfl, z⟩, fun x H2 y => ?_⟩
    obtain ⟨d, hd, res⟩ := itd.yld G' H' i x H2 sg rp.sub hlt y
    rw [List.getElem?_eq_getElem hlt] at hd
    cases hd
    obtain ⟨G2, s2, r2, hq⟩ := rp.res res
    refine ⟨G2, _, δ', _, _, r2.drop, hq, q, fun δ3 σ3 H3 G3 w3 q3 s3 r3 p3 t3 => ⟨wipe_eq t3 hts, ?_⟩⟩
    obtain ⟨w4, s4, r4⟩ := r2.frameS (noA _) s3 r3
    have back : ∀ {G9 H9 : Hp} {w9 : Addr → Option Nat} {δ9 : List Sl} {acc9 : List PyData}, Rep K B G9 H9 σ3 δ9 [.ref D] [.ow (.lst acc9)] w9 → Rep K B G9 H9 (wipe σ vs) (wipeS δ9 vs) [.ref D] [.ow (.lst acc9)] w9 := fun {G9 H9 w9 δ9 acc9} r9 => by
      refine r9.reσ ?_ (fun k s hk => ?_) (noA _)
      · rw [wipe_length, wipeS_len, ← r9.len, t3.1, wipe_length]
      · rcases wipeS_get hk with e | ⟨e1, e2⟩
        · exact .inl e
        · exact .inr ⟨e1, (t3.2 k fun z => e2 (hts k z)).symm⟩
    refine ⟨G3, _, δ3, _, r4.drop, q3, fun b δ5 H5 G5 w5 q5 s5 r5 => ?_⟩
    obtain ⟨w6, s6, r6⟩ := r4.frame s5 r5
    have st6 := ((st.trans s2).trans s4).trans s6
    have sg6 : Same G1 G5 := fun a o ha => s6.g a o (s4.g a o (s2.g a o (sg a o ha)))
    cases b with
    | false => exact ⟨hlt, G5, w6, _, acc, pnw st6, sg6, back r6, q5⟩
    | true =>
      refine ⟨G5, _, δ5, _, r6.drop, q5, fun r δ7 y H7 G7 w7 q7 s7 r7 => ?_⟩
      obtain ⟨w8, s8, r8⟩ := r6.frame s7 r7
      obtain ⟨e, δ9, hz, hl, q7⟩ := q7
      obtain ⟨G9, w9, s9, r9⟩ := r8.fz1 (j := 1) rfl rfl hz
      have r9' : Rep K B G9 H7 σ3 δ9 [.ref D, y] [.ow (.lst acc), .im e] w9 := r9
      have hy : Dq K G9 y e := r9'.tm 1 y (.im e) rfl rfl
      obtain ⟨a, us, ea, ma, ha, hus⟩ := r9'.tm 0 (.ref D) (.ow (.lst acc)) rfl rfl
      cases ea
      obtain ⟨us2, h2, h3, s10, r10⟩ := r9'.wrT (dqAll_append hus (.cons hy .nil))
      refine ⟨us, ha, by rw [dqAll_len hus]; exact hl, hlt, G9, w9, _, acc ++ [e], pnw (((st6.trans s8).trans s9).trans s10), fun a o h => s9.g a o (s8.g a o (sg6 a o h)), back r10.first, q7⟩
  · have ei : i = ds.length := by omega
    subst ei
    refine .inl ⟨itd.stop G' H' sg rp.sub, k _ _ _ H' G' w' (ie acc δ' q) (st.reδ fun j o hj => ?_) ⟨rp.sub, rp.out, by rw [restS_len, ← rp.len, wipe_length], fun j s hj => ?_, rp.tlen, fun j v p hv hp => (rp.tm j v p hv hp).noAt (noA _ p (List.mem_of_getElem? hp)), rp.bs⟩⟩
    · obtain ⟨o1, h1⟩ := st.pn j o hj
      exact ⟨o1, by rw [restS_ne (ni j o hj)]; exact h1⟩
    · by_cases hm : j ∈ vs
      · rcases restS_in hm hj with rfl | ⟨d, rfl, e0⟩
        · trivial
        · obtain ⟨v, hv, hd⟩ := rep1.sl j _ e0
          exact ⟨v, hv, dp_mono sg _ _ hd⟩
      · rw [restS_ne hm] at hj
        have := rp.sl j s hj
        rwa [wipe_ne hm] at this
section
variable {X : Cx}
theorem je_lc {elt tg iter : Expr} {ifs : List Expr} {scope : Scope} {own : List (Str × Nat)} {pos : Pos} {pi : PIx} {ts : List Nat} {g : PGx} {tt : PB} {pe : PX} (hc : X.calm = true) (hN : X.N.Nodup) (hi : JI X B tg iter pi) (ok : BlkOk X.N X.env.scope scope own)
    (hg : ∀ (s : Shared) (H : Hp) (C : Addr) (cl : List (Str × Addr)) (fp : List Addr), JG (X.blk s H scope (compEnvC scope cl C X.env) fp) B tg ts g) (ht : ∀ (s : Shared) (H : Hp) (C : Addr) (cl : List (Str × Addr)) (fp : List Addr), JTs (X.blk s H scope (compEnvC scope cl C X.env) fp) B ifs tt)
    (he : ∀ (s : Shared) (H : Hp) (C : Addr) (cl : List (Str × Addr)) (fp : List Addr), JE (X.blk s H scope (compEnvC scope cl C X.env) fp) B elt pe) (hts : ∀ i ∈ ts, i ∈ own.map (·.2) := by decide) (hs : ∀ x, foldedSetIterable iter X.env x = pure x := by intro _; rfl) :
    JE X B (.ListComp elt [⟨tg, iter, ifs, 0⟩] scope pos) (pComp pi g tt pe (own.map (·.2))) := PE_wk (pe_lc (g := LG X.K B ts g) (tt := LB X.K B tt) (te := LE X.K B pe) hc hN hi ok hg ht he hs) fun σ H Q h => lc_lift hts h
theorem js_setLc {i : Nat} {y : Str} {py : Pos} {elt tg iter : Expr} {ifs : List Expr} {scope : Scope} {own : List (Str × Nat)} {pos spos : Pos} {pi : PIx} {ts : List Nat} {g : PGx} {tt : PB} {pe : PX} (hc : X.calm = true) (hN : X.N.Nodup) (hy : X.N[i]? = some y) (hyl : X.env.scope.names.lookup y = some .local)
    (hsw : swapsWith (.ListComp elt [⟨tg, iter, ifs, 0⟩] scope pos) (some (.Name y py)) spos.line X.env = pure true) (hi : JI X B tg iter pi) (ok : BlkOk X.N X.env.scope scope own)
    (hg : ∀ (s : Shared) (H : Hp) (C : Addr) (cl : List (Str × Addr)) (fp : List Addr), JG (X.blk s H scope (compEnvC scope cl C X.env) fp) B tg ts g) (ht : ∀ (s : Shared) (H : Hp) (C : Addr) (cl : List (Str × Addr)) (fp : List Addr), JTs (X.blk s H scope (compEnvC scope cl C X.env) fp) B ifs tt)
    (he : ∀ (s : Shared) (H : Hp) (C : Addr) (cl : List (Str × Addr)) (fp : List Addr), JE (X.blk s H scope (compEnvC scope cl C X.env) fp) B elt pe) (hts : ∀ i ∈ ts, i ∈ own.map (·.2) := by decide) (hs : ∀ x, foldedSetIterable iter X.env x = pure x := by intro _; rfl) :
    JS X B (.Assign [.Name y py] (.ListComp elt [⟨tg, iter, ifs, 0⟩] scope pos) spos) (pSet i (pComp pi g tt pe (own.map (·.2)))) := PS_wk (ps_setLc (g := LG X.K B ts g) (tt := LB X.K B tt) (te := LE X.K B pe) hc hN hy hyl hsw hi ok hg ht he hs) fun D σ H h => lc_lift hts (set_lift h)
end
end Pv
namespace Pv
open PySem PySem.Spec L2 Wf
variable {B : Bas}
/-! ### defs -/
abbrev EX := Addr → List (Str × PyData) → Prop
/-- what a def does: its arguments (data, or a thing of the caller's), what is told and how these things stand then; what is raised -/
abbrev PSp := List Sl → QE → EX → Prop
/-- no tables -/
def nTb : Option HO → Option HO
  | some (.tbl _) => none
  | o => o
theorem nTb_some {x : Option HO} {o : HO} (h : nTb x = some o) : x = some o ∧ NT o := by
  cases x with
  | none => cases h
  | some u => cases u <;> first | (cases h; done) | exact ⟨h, fun ps z => by subst z; cases h⟩
theorem nTb_of {x : Option HO} {o : HO} (h : x = some o) (n : NT o) : nTb x = some o := by
  subst h
  cases o <;> first | rfl | exact absurd rfl (n _)
def B0h (H : Hp) (w : Addr → Option Nat) : Hp := fun a => match w a with
  | none => nTb (H a)
  | some _ => none
def B0 (T : List NdefX.NTab) (H : Hp) (w : Addr → Option Nat) : Bas := ⟨B0h H w, H, T⟩
theorem B0_some {T : List NdefX.NTab} {H : Hp} {w : Addr → Option Nat} {a : Addr} {o : HO} (h : B0 T H w a = some o) : H a = some o ∧ w a = none ∧ NT o := by
  have h : B0h H w a = some o := h
  unfold B0h at h
  split at h
  · rename_i e
    obtain ⟨h1, h2⟩ := nTb_some h
    exact ⟨h1, e, h2⟩
  · cases h
/-- an error's fields, as they stand -/
inductive FlP (K : PySem.W.Frag) (H : Hp) : List (Str × V) → List (Str × PyData) → Prop
  | nil : FlP K H [] []
  | cons {x : Str} {v : V} {d : PyData} {us : List (Str × V)} {fs : List (Str × PyData)} : Dp K H v d → noL d = true → FlP K H us fs → FlP K H ((x, v) :: us) ((x, d) :: fs)
/-- what is wanted of an error that leaves -/
def XOk (K : PySem.W.Frag) (B : Bas) (Ep : EX) (E : XK) : Prop := ∀ C fs us d H', Ep C fs → Same B.hp H' → TbG B.T B.ht H' → B d = none → H' d = some (.xd us) → FlP K H' us fs → E (.ref C) (some d) H'
def LSp (K : PySem.W.Frag) (T : List NdefX.NTab) (ps : PSp) : Sp := fun vs H Q E => ∃ G w as Qp Ep, Rep K (B0 T H w) G H (vs.map some) as [] [] w ∧ (∀ s ∈ as, s = .un ∨ (∃ d, s = .im d) ∨ ∃ o, s = .ow true o) ∧ ps as Qp Ep ∧
  (∀ r δ' v H' G' w', Qp r δ' → isAt r = false → Stp T G H w as G' H' w' δ' → Rep K (B0 T H w) G' H' (vs.map some) δ' [v] [r] w' → Q v H') ∧ XOk K (B0 T H w) Ep E
def outs : List Sl → List Sl → List Sl
  | [], _ => []
  | .ow true _ :: as, d :: ds => d :: outs as ds
  | _ :: as, _ :: ds => .un :: outs as ds
  | _ :: as, [] => .un :: outs as []
theorem outs_len : ∀ (as ds : List Sl), (outs as ds).length = as.length
  | [], _ => rfl
  | .ow true _ :: as, d :: ds => by simp only [outs, List.length_cons, outs_len as ds]
  | .ow false _ :: as, d :: ds => by simp only [outs, List.length_cons, outs_len as ds]
  | .un :: as, d :: ds => by simp only [outs, List.length_cons, outs_len as ds]
  | .im _ :: as, d :: ds => by simp only [outs, List.length_cons, outs_len as ds]
  | .ex _ _ _ _ :: as, d :: ds => by simp only [outs, List.length_cons, outs_len as ds]
  | a :: as, [] => by
    have e : outs (a :: as) [] = .un :: outs as [] := by
      cases a with
      | un => rfl
      | im d => rfl
      | ex _ _ _ _ => rfl
      | ow b o => cases b <;> rfl
    rw [e, List.length_cons, List.length_cons, outs_len as []]
theorem outs_get : ∀ (as ds : List Sl) (i : Nat) {s : Sl}, (outs as ds)[i]? = some s → s = .un ∨ ((∃ o, as[i]? = some (.ow true o)) ∧ ds[i]? = some s)
  | [], _, _, s, h => by simp [outs] at h
  | .ow true o :: as, d :: ds, 0, s, h => by
    simp only [outs, List.getElem?_cons_zero, Option.some.injEq] at h
    exact .inr ⟨⟨o, rfl⟩, by simp [h]⟩
  | .ow true o :: as, d :: ds, i + 1, s, h => by
    rcases outs_get as ds i (by simpa [outs] using h) with e | ⟨⟨o', e1⟩, e2⟩
    · exact .inl e
    · exact .inr ⟨⟨o', by simpa using e1⟩, by simpa using e2⟩
  | .ow false o :: as, d :: ds, 0, s, h => by simp only [outs, List.getElem?_cons_zero, Option.some.injEq] at h; exact .inl h.symm
  | .un :: as, d :: ds, 0, s, h => by simp only [outs, List.getElem?_cons_zero, Option.some.injEq] at h; exact .inl h.symm
  | .im _ :: as, d :: ds, 0, s, h => by simp only [outs, List.getElem?_cons_zero, Option.some.injEq] at h; exact .inl h.symm
  | .ex _ _ _ _ :: as, d :: ds, 0, s, h => by simp only [outs, List.getElem?_cons_zero, Option.some.injEq] at h; exact .inl h.symm
  | .ow false o :: as, d :: ds, i + 1, s, h => by
    rcases outs_get as ds i (by simpa [outs] using h) with e | ⟨⟨o', e1⟩, e2⟩
    · exact .inl e
    · exact .inr ⟨⟨o', by simpa using e1⟩, by simpa using e2⟩
  | .un :: as, d :: ds, i + 1, s, h => by
    rcases outs_get as ds i (by simpa [outs] using h) with e | ⟨⟨o', e1⟩, e2⟩
    · exact .inl e
    · exact .inr ⟨⟨o', by simpa using e1⟩, by simpa using e2⟩
  | .im _ :: as, d :: ds, i + 1, s, h => by
    rcases outs_get as ds i (by simpa [outs] using h) with e | ⟨⟨o', e1⟩, e2⟩
    · exact .inl e
    · exact .inr ⟨⟨o', by simpa using e1⟩, by simpa using e2⟩
  | .ex _ _ _ _ :: as, d :: ds, i + 1, s, h => by
    rcases outs_get as ds i (by simpa [outs] using h) with e | ⟨⟨o', e1⟩, e2⟩
    · exact .inl e
    · exact .inr ⟨⟨o', by simpa using e1⟩, by simpa using e2⟩
  | a :: as, [], i, s, h => by
    have e : outs (a :: as) [] = .un :: outs as [] := by
      cases a with
      | un => rfl
      | im d => rfl
      | ex _ _ _ _ => rfl
      | ow b o => cases b <;> rfl
    rw [e] at h
    match i with
    | 0 => simp only [List.getElem?_cons_zero, Option.some.injEq] at h; exact .inl h.symm
    | i + 1 =>
      rcases outs_get as [] i (by simpa using h) with e | ⟨_, e2⟩
      · exact .inl e
      · simp at e2
theorem outs_own : ∀ (as ds : List Sl) (i : Nat) {o : O} {s : Sl}, as[i]? = some (.ow true o) → ds[i]? = some s → (outs as ds)[i]? = some s
  | [], _, _, _, _, h, _ => by simp at h
  | _ :: _, [], _, _, _, _, h => by simp at h
  | a :: as, d :: ds, 0, o, s, h, h2 => by
    simp only [List.getElem?_cons_zero, Option.some.injEq] at h h2
    subst h h2
    rfl
  | a :: as, d :: ds, i + 1, o, s, h, h2 => by
    have ih := outs_own as ds i (o := o) (s := s) (by simpa using h) (by simpa using h2)
    cases a with
    | un => simpa [outs] using ih
    | im d => simpa [outs] using ih
    | ex _ _ _ _ => simpa [outs] using ih
    | ow b o => cases b <;> simpa [outs] using ih
def endsP (as : List Sl) (Qp : QE) : PEn := { nx := fun δ => Qp (.im .none) (outs as δ), rt := fun r δ => Qp r (outs as δ) }
/-- a def's body keeps its promise -/
theorem fn_lift {K : PySem.W.Frag} {N : List Str} {ps : PSp} {p : EX → PSx} {vs : List V} {H : Hp} {Q : VK} {E : XK} {m : Nat} (hN : N.length = m) (hp : ∀ as Qp Ep, ps as Qp Ep → p Ep (endsP as Qp) (as ++ List.replicate (m - as.length) .un)) {T : List NdefX.NTab} (h : LSp K T ps vs H Q E) (hl : vs.length ≤ m) :
    ∃ (Bh Bt : Hp) (Ep : EX), XOk K ⟨Bh, Bt, T⟩ Ep E ∧ LS K ⟨Bh, Bt, T⟩ (p Ep) { nx := fun _ H' => Q .non H', rt := Q } (L2.start N vs) H := by
  obtain ⟨G, w, as, Qp, Ep, rep, hk, hps, k, x⟩ := h
  have la : vs.length = as.length := by have := rep.len; rwa [List.length_map] at this
  refine ⟨B0h H w, H, Ep, x, G, w, as ++ List.replicate (m - as.length) .un, endsP as Qp, ?_, hp as Qp Ep hps, ?_⟩
  · refine ⟨rep.sub, rep.out, ?_, fun i s hi => ?_, rfl, fun j v r hv => by simp at hv, rep.bs⟩
    · unfold L2.start
      rw [List.length_append, List.length_append, List.length_map, List.length_replicate, List.length_replicate, la, hN]
    · by_cases hi2 : i < as.length
      · rw [List.getElem?_append_left hi2] at hi
        have := rep.sl i s hi
        unfold L2.start
        rw [List.getElem?_append_left (by rw [List.length_map, la]; exact hi2)]
        exact this
      · rw [List.getElem?_append_right (by omega)] at hi
        have e : s = .un := by
          have := List.getElem?_eq_some_iff.mp hi
          obtain ⟨h1, h2⟩ := this
          simpa using h2.symm
        subst e
        trivial
  · have fin : ∀ (r : R) δ' v σ' H' G' w', isAt r = false → Stp T G H w (as ++ List.replicate (m - as.length) .un) G' H' w' δ' → Rep K (B0 T H w) G' H' σ' δ' [v] [r] w' → Pin (L2.start N vs) (as ++ List.replicate (m - as.length) .un) σ' →
        Stp T G H w as G' H' w' (outs as δ') ∧ Rep K (B0 T H w) G' H' (vs.map some) (outs as δ') [v] [r] w' := by
      intro r δ' v σ' H' G' w' hr st rp pn
      have inA : ∀ (i : Nat) o, as[i]? = some (Sl.ow true o) → (as ++ List.replicate (m - as.length) .un)[i]? = some (Sl.ow true o) := fun i o h => by
        rw [List.getElem?_append_left (List.getElem?_eq_some_iff.mp h).1]
        exact h
      refine ⟨⟨st.g, st.b, st.n, st.p, fun i o hi => ?_, st.t, st.q⟩, rp.sub, rp.out, by rw [outs_len, List.length_map, la], fun i s hi => ?_, rfl, fun j u q hu hq => ?_, rp.bs⟩
      · obtain ⟨o', ho'⟩ := st.pn i o (inA i o hi)
        exact ⟨o', outs_own as δ' i hi ho'⟩
      · rcases outs_get as δ' i hi with rfl | ⟨⟨o, e1⟩, e2⟩
        · trivial
        · have e3 := rp.sl i s e2
          have e4 := pn i o (inA i o e1)
          have hi2 : i < as.length := (List.getElem?_eq_some_iff.mp e1).1
          unfold L2.start at e4
          rw [List.getElem?_append_left (by rw [List.length_map, la]; exact hi2)] at e4
          rwa [e4] at e3
      · exact (rp.tm j u q hu hq).noAt (by
          match j with
          | 0 => simp only [List.getElem?_cons_zero, Option.some.injEq] at hq; rw [← hq]; exact hr
          | j + 1 => simp at hq)
    refine ⟨fun δ' σ' H' G' w' h st rp pn => ?_, fun r δ' v σ' H' G' w' h hr st rp pn => ?_, fun δ' σ' H' G' w' h => h.elim, fun δ' σ' H' G' w' h => h.elim⟩
    · obtain ⟨s1, r1⟩ := fin (.im .none) δ' .non σ' H' G' _ rfl (st.trans .drop) (rp.ret .non) pn
      exact k _ _ _ H' G' _ h rfl s1 r1
    · obtain ⟨s1, r1⟩ := fin r δ' v σ' H' G' w' hr st rp pn
      exact k _ _ _ H' G' w' h hr s1 r1
/-! ### calls -/
def argOf (δ : List Sl) : R → Option Sl
  | .im d => some (.im d)
  | .ow o => some (.ow true o)
  | .at i => match δ[i]? with
    | some (.im d) => some (.im d)
    | some (.ow _ o) => some (.ow true o)
    | _ => none
def argsOf (δ : List Sl) : List R → Option (List Sl)
  | [] => some []
  | r :: rs => match argOf δ r with
    | none => none
    | some a => match argsOf δ rs with
      | none => none
      | some as => some (a :: as)
/-- which slots are handed on -/
def atIx (δ : List Sl) : List R → List Nat
  | [] => []
  | .at i :: rs => match δ[i]? with
    | some (.ow _ _) => i :: atIx δ rs
    | _ => atIx δ rs
  | _ :: rs => atIx δ rs
def put1 (δ : List Sl) : R → Sl → List Sl
  | .at i, .ow true o => match δ[i]? with
    | some (.ow b _) => δ.set i (.ow b o)
    | _ => δ
  | _, _ => δ
def putB (δ : List Sl) : List R → List Sl → List Sl
  | [], _ => δ
  | _ :: _, [] => δ
  | r :: rs, s :: ss => putB (put1 δ r s) rs ss
def pCall (ps : PSp) (pa : PL) (Ep : EX) : PX := fun δ Q => pa δ fun rs δ1 => ∃ as, argsOf δ1 rs = some as ∧ (atIx δ1 rs).Nodup ∧ ps as (fun r os => Q r (putB δ1 rs os)) Ep
theorem argsOf_len : ∀ {δ : List Sl} {rs : List R} {as : List Sl}, argsOf δ rs = some as → as.length = rs.length
  | _, [], _, h => by cases h; rfl
  | δ, r :: rs, as, h => by
    unfold argsOf at h
    revert h
    split
    · intro h; cases h
    · split
      · intro h; cases h
      · rename_i as' e'
        intro h
        cases h
        rw [List.length_cons, List.length_cons, argsOf_len e']
theorem argsOf_get : ∀ {δ : List Sl} {rs : List R} {as : List Sl} {j : Nat} {s : Sl}, argsOf δ rs = some as → as[j]? = some s → ∃ r, rs[j]? = some r ∧ argOf δ r = some s
  | _, [], _, _, _, h, hs => by cases h; simp at hs
  | δ, r :: rs, as, j, s, h, hs => by
    unfold argsOf at h
    revert h
    split
    · intro h; cases h
    · rename_i a e
      split
      · intro h; cases h
      · rename_i as' e'
        intro h
        cases h
        match j with
        | 0 => simp only [List.getElem?_cons_zero, Option.some.injEq] at hs; subst hs; exact ⟨r, rfl, e⟩
        | j + 1 =>
          obtain ⟨r', h1, h2⟩ := argsOf_get (j := j) e' (by simpa using hs)
          exact ⟨r', by simpa using h1, h2⟩
def isOw (δ : List Sl) (i : Nat) : Prop := ∃ b o, δ[i]? = some (.ow b o)
theorem put1_len (δ : List Sl) (r : R) (s : Sl) : (put1 δ r s).length = δ.length := by
  unfold put1
  split
  · split
    · rw [List.length_set]
    · rfl
  · rfl
theorem put1_at {δ : List Sl} {i : Nat} {b : Bool} {o o' : O} (h : δ[i]? = some (.ow b o)) : put1 δ (.at i) (.ow true o') = δ.set i (.ow b o') := by
  unfold put1
  dsimp only
  rw [h]
theorem put1_ow {δ : List Sl} {r : R} {s : Sl} {i : Nat} {b : Bool} {o : O} (h : δ[i]? = some (.ow b o)) : ∃ o', (put1 δ r s)[i]? = some (.ow b o') := by
  unfold put1
  split
  · rename_i k o'
    split
    · rename_i b' o'' e
      by_cases ei : k = i
      · subst ei
        rw [h] at e
        cases e
        exact ⟨o', List.getElem?_set_self (List.getElem?_eq_some_iff.mp h).1⟩
      · exact ⟨o, by rw [List.getElem?_set_ne ei]; exact h⟩
    · exact ⟨o, h⟩
  · exact ⟨o, h⟩
theorem put1_ne {δ : List Sl} {r : R} {s : Sl} {i : Nat} (h : r ≠ .at i) : (put1 δ r s)[i]? = δ[i]? := by
  unfold put1
  split
  · rename_i k o'
    split
    · exact List.getElem?_set_ne fun z => h (by rw [z])
    · rfl
  · rfl
theorem put1_nw {δ : List Sl} {r : R} {s : Sl} {i : Nat} (h : ¬ isOw δ i) : (put1 δ r s)[i]? = δ[i]? := by
  unfold put1
  split
  · rename_i k o'
    split
    · rename_i b o e
      exact List.getElem?_set_ne fun z => h ⟨b, o, by rw [← z]; exact e⟩
    · rfl
  · rfl
theorem isOw_put {δ : List Sl} {r : R} {s : Sl} {i : Nat} : isOw (put1 δ r s) i ↔ isOw δ i := by
  constructor
  · intro h
    by_cases hw : isOw δ i
    · exact hw
    · obtain ⟨b, o, e⟩ := h
      rw [put1_nw hw] at e
      exact ⟨b, o, e⟩
  · rintro ⟨b, o, e⟩
    obtain ⟨o', e'⟩ := put1_ow (r := r) (s := s) e
    exact ⟨b, o', e'⟩
theorem mem_atIx : ∀ {δ : List Sl} {rs : List R} {i : Nat}, i ∈ atIx δ rs ↔ isOw δ i ∧ R.at i ∈ rs
  | δ, [], i => by simp [atIx]
  | δ, .im d :: rs, i => by simp [atIx, mem_atIx (δ := δ) (rs := rs) (i := i)]
  | δ, .ow o :: rs, i => by simp [atIx, mem_atIx (δ := δ) (rs := rs) (i := i)]
  | δ, .at k :: rs, i => by
    unfold atIx
    split
    · rename_i b o e
      rw [List.mem_cons, mem_atIx (δ := δ) (rs := rs) (i := i), List.mem_cons]
      constructor
      · rintro (rfl | ⟨h1, h2⟩)
        · exact ⟨⟨b, o, e⟩, .inl rfl⟩
        · exact ⟨h1, .inr h2⟩
      · rintro ⟨h1, h2 | h2⟩
        · cases h2; exact .inl rfl
        · exact .inr ⟨h1, h2⟩
    · rename_i hn
      rw [mem_atIx (δ := δ) (rs := rs) (i := i), List.mem_cons]
      constructor
      · rintro ⟨h1, h2⟩; exact ⟨h1, .inr h2⟩
      · rintro ⟨h1, h2 | h2⟩
        · cases h2
          obtain ⟨b, o, e⟩ := h1
          exact absurd e (hn b o)
        · exact ⟨h1, h2⟩
theorem putB_len : ∀ {rs : List R} {δ : List Sl} {ss : List Sl}, (putB δ rs ss).length = δ.length
  | [], _, _ => by simp [putB]
  | _ :: _, _, [] => by simp [putB]
  | r :: rs, δ, s :: ss => by
    show (putB (put1 δ r s) rs ss).length = _
    rw [putB_len, put1_len]
theorem putB_ne : ∀ {rs : List R} {δ ss : List Sl} {k : Nat}, (¬ isOw δ k ∨ R.at k ∉ rs) → (putB δ rs ss)[k]? = δ[k]?
  | [], _, _, _, _ => by simp [putB]
  | _ :: _, _, [], _, _ => by simp [putB]
  | r :: rs, δ, s :: ss, k, h => by
    show (putB (put1 δ r s) rs ss)[k]? = _
    rcases h with h | h
    · rw [putB_ne (.inl fun z => h (isOw_put.mp z)), put1_nw h]
    · simp only [List.mem_cons, not_or] at h
      rw [putB_ne (.inr h.2), put1_ne (Ne.symm h.1)]
theorem putB_at : ∀ {rs : List R} {δ ss : List Sl} {j k : Nat} {b : Bool} {o o' : O}, (∀ (i j : Nat) k, isOw δ k → rs[i]? = some (.at k) → rs[j]? = some (.at k) → i = j) → rs[j]? = some (.at k) → δ[k]? = some (.ow b o) → ss[j]? = some (.ow true o') → (putB δ rs ss)[k]? = some (.ow b o')
  | [], _, _, _, _, _, _, _, _, h, _, _ => by simp at h
  | _ :: _, _, [], _, _, _, _, _, _, _, _, h => by simp at h
  | r :: rs, δ, s :: ss, 0, k, b, o, o', hu, h, hk, hs => by
    simp only [List.getElem?_cons_zero, Option.some.injEq] at h hs
    subst h hs
    show (putB (put1 δ (.at k) (.ow true o')) rs ss)[k]? = _
    have hn : R.at k ∉ rs := fun z => by
      obtain ⟨j, hj⟩ := List.mem_iff_getElem?.mp z
      have := hu 0 (j + 1) k ⟨b, o, hk⟩ rfl (by simpa using hj)
      omega
    rw [putB_ne (.inr hn), put1_at hk, List.getElem?_set_self (List.getElem?_eq_some_iff.mp hk).1]
  | r :: rs, δ, s :: ss, j + 1, k, b, o, o', hu, h, hk, hs => by
    show (putB (put1 δ r s) rs ss)[k]? = _
    have hr : r ≠ .at k := fun z => by
      have := hu 0 (j + 1) k ⟨b, o, hk⟩ (by simp [z]) h
      omega
    exact putB_at (j := j) (fun i j' k' hw h1 h2 => by
      have := hu (i + 1) (j' + 1) k' (isOw_put.mp hw) (by simpa using h1) (by simpa using h2)
      omega) (by simpa using h) (by rw [put1_ne hr]; exact hk) (by simpa using hs)
theorem uniq_of_nodup : ∀ {δ : List Sl} {rs : List R}, (atIx δ rs).Nodup → ∀ (i j : Nat) k, isOw δ k → rs[i]? = some (.at k) → rs[j]? = some (.at k) → i = j
  | δ, [], _, i, j, k, _, h, _ => by simp at h
  | δ, r :: rs, hn, i, j, k, hw, h1, h2 => by
    have tail : (atIx δ rs).Nodup := by
      cases r with
      | im d => exact hn
      | ow o => exact hn
      | «at» m =>
        unfold atIx at hn
        revert hn
        split
        · intro hn; exact (List.nodup_cons.mp hn).2
        · intro hn; exact hn
    have noHead : r = .at k → R.at k ∉ rs := fun e z => by
      subst e
      obtain ⟨b, o, e⟩ := hw
      have e2 : atIx δ (.at k :: rs) = k :: atIx δ rs := by simp only [atIx, e]
      rw [e2] at hn
      exact (List.nodup_cons.mp hn).1 (mem_atIx.mpr ⟨⟨b, o, e⟩, z⟩)
    match i, j with
    | 0, 0 => rfl
    | 0, j + 1 => exact absurd (List.mem_of_getElem? (show rs[j]? = some (.at k) by simpa using h2)) (noHead (by simpa using h1))
    | i + 1, 0 => exact absurd (List.mem_of_getElem? (show rs[i]? = some (.at k) by simpa using h1)) (noHead (by simpa using h2))
    | i + 1, j + 1 => rw [uniq_of_nodup tail i j k hw (by simpa using h1) (by simpa using h2)]
/-- where slot i is handed on -/
def idxAt (i : Nat) : List R → Option Nat
  | [] => none
  | .at k :: rs => if k = i then some 0 else (idxAt i rs).map (· + 1)
  | _ :: rs => (idxAt i rs).map (· + 1)
theorem idxAt_some : ∀ {rs : List R} {i j : Nat}, idxAt i rs = some j → rs[j]? = some (.at i)
  | [], _, _, h => by cases h
  | .at k :: rs, i, j, h => by
    unfold idxAt at h
    split at h
    · rename_i e; cases h; subst e; rfl
    · obtain ⟨m, h1, rfl⟩ := Option.map_eq_some_iff.mp h
      simpa using idxAt_some h1
  | .im d :: rs, i, j, h => by
    obtain ⟨m, h1, rfl⟩ := Option.map_eq_some_iff.mp (show (idxAt i rs).map (· + 1) = some j from h)
    simpa using idxAt_some h1
  | .ow o :: rs, i, j, h => by
    obtain ⟨m, h1, rfl⟩ := Option.map_eq_some_iff.mp (show (idxAt i rs).map (· + 1) = some j from h)
    simpa using idxAt_some h1
theorem idxAt_mem : ∀ {rs : List R} {i : Nat}, R.at i ∈ rs → ∃ j, idxAt i rs = some j
  | [], _, h => by cases h
  | .at k :: rs, i, h => by
    unfold idxAt
    split
    · exact ⟨0, rfl⟩
    · rename_i hk
      have : R.at i ∈ rs := by
        rcases List.mem_cons.mp h with z | z
        · cases z; exact absurd rfl hk
        · exact z
      obtain ⟨j, e⟩ := idxAt_mem this
      exact ⟨j + 1, by rw [e]; rfl⟩
  | .im d :: rs, i, h => by
    have : R.at i ∈ rs := by
      rcases List.mem_cons.mp h with z | z
      · cases z
      · exact z
    obtain ⟨j, e⟩ := idxAt_mem this
    exact ⟨j + 1, by show (idxAt i rs).map (· + 1) = _; rw [e]; rfl⟩
  | .ow o :: rs, i, h => by
    have : R.at i ∈ rs := by
      rcases List.mem_cons.mp h with z | z
      · cases z
      · exact z
    obtain ⟨j, e⟩ := idxAt_mem this
    exact ⟨j + 1, by show (idxAt i rs).map (· + 1) = _; rw [e]; rfl⟩
def wcOf (rs : List R) (w : Addr → Option Nat) (a : Addr) : Option Nat := match w a with
  | none => none
  | some n => if n % 2 = 1 then some (n - 1) else (idxAt (n / 2) rs).map (2 * ·)
def wbOf (rs : List R) (w w' : Addr → Option Nat) (a : Addr) : Option Nat := match w' a with
  | some m => if m % 2 = 1 then some m else match rs[m / 2]? with
    | some (.at i) => some (2 * i)
    | _ => none
  | none => match wcOf rs w a with
    | none => evn (w a)
    | some _ => none
theorem call_lift {K : PySem.W.Frag} {ps : PSp} {pa : PL} {Ep : EX} {E : XK} {n : Nat} {σ : St} {H : Hp} {Q : VK} (hx : XOk K B Ep E) (h : LE K B (pCall ps pa Ep) σ H Q) : tCall (LSp K B.T ps) [] E (LA K B n pa) σ H Q := by
  obtain ⟨G, w, δ, Qp, rep, q, k⟩ := h
  refine ⟨G, w, δ, _, rep, q, fun rs δ1 vs H1 G1 w1 q1 _ s1 rep1 => ?_⟩
  obtain ⟨as, ha, hnd, q1⟩ := q1
  have uq := uniq_of_nodup hnd
  have la : vs.length = as.length := rep1.tlen.trans (argsOf_len ha).symm
  have wc_some : ∀ a m, wcOf rs w1 a = some m → ∃ n, w1 a = some n := fun a m hm => by
    unfold wcOf at hm
    cases e : w1 a with
    | none => rw [e] at hm; cases hm
    | some n => exact ⟨n, rfl⟩
  have wc_odd : ∀ a (j : Nat), w1 a = some (2 * j + 1) → wcOf rs w1 a = some (2 * j) := fun a j h => by
    unfold wcOf
    rw [h]
    dsimp only
    rw [if_pos (by omega)]
    congr 1
  have wc_at : ∀ a (i j : Nat), isOw δ1 i → rs[j]? = some (.at i) → w1 a = some (2 * i) → wcOf rs w1 a = some (2 * j) := fun a i j hw hj h => by
    obtain ⟨j', e⟩ := idxAt_mem (List.mem_of_getElem? hj)
    have := uq j j' i hw hj (idxAt_some e)
    subst this
    unfold wcOf
    rw [h]
    dsimp only
    rw [if_neg (by omega), show 2 * i / 2 = i by omega, e]
    rfl
  have toB : ∀ a o, B a = some o → B0 B.T H1 (wcOf rs w1) a = some o := fun a o ho => by
    have := rep1.bs.to a o ho
    show B0h H1 (wcOf rs w1) a = some o
    unfold B0h
    have e : wcOf rs w1 a = none := by unfold wcOf; rw [this.2.1]
    rw [e]
    exact nTb_of this.1 this.2.2
  have noB : ∀ d, B0 B.T H1 (wcOf rs w1) d = none → B d = none := fun d h => by
    cases e : B d with
    | none => rfl
    | some o => rw [toB d o e] at h; cases h
  rw [List.append_nil]
  refine ⟨G1, wcOf rs w1, as, _, Ep, ⟨rep1.sub, fun a m hm => ?_, by rw [List.length_map]; exact la, fun j s hs => ?_, rfl, fun j v r hv => by simp at hv, ⟨fun a o ho => B0_some ho, .refl, rep1.bs.tt.ts rep1.bs.ta, rep1.bs.gt⟩⟩, fun s hs => ?_, q1, fun r os v H2 G2 w2 hq hr st rp => ?_, fun C fs us d H2 he hs htb hbd hd hf => hx C fs us d H2 he (fun a o ho => hs a o (toB a o ho)) (rep1.bs.tt.trans htb) (noB d hbd) hd hf⟩
  · obtain ⟨n, hn⟩ := wc_some a m hm
    exact rep1.out a n hn
  · obtain ⟨r, hr, he⟩ := argsOf_get ha hs
    have hj : j < vs.length := by rw [la]; exact (List.getElem?_eq_some_iff.mp hs).1
    have hv : vs[j]? = some vs[j] := List.getElem?_eq_getElem hj
    have hm : (vs.map some)[j]? = some (some vs[j]) := by rw [List.getElem?_map, hv]; rfl
    have t := rep1.tm j _ r hv hr
    cases r with
    | im d => cases he; exact ⟨_, hm, t⟩
    | ow o => cases he; exact ⟨_, hm, RO.mono (fun _ _ h => h) (fun _ _ _ h => h) (fun a u ma _ => wc_odd a j ma) t⟩
    | «at» i =>
      have t' : σ[i]? = some (some vs[j]) := t
      simp only [argOf] at he
      revert he
      split
      · rename_i d e
        intro he
        cases he
        obtain ⟨v, hv', hd⟩ := rep1.sl i _ e
        rw [t'] at hv'
        cases hv'
        exact ⟨_, hm, hd⟩
      · rename_i b o e
        intro he
        cases he
        obtain ⟨v, hv', hd⟩ := rep1.sl i _ e
        rw [t'] at hv'
        cases hv'
        exact ⟨_, hm, RO.mono (fun _ _ h => h) (fun _ _ _ h => h) (fun a u ma _ => wc_at a i j ⟨b, o, e⟩ hr ma) hd⟩
      · intro he; cases he
  · obtain ⟨j, hj⟩ := List.mem_iff_getElem?.mp hs
    obtain ⟨r, hr, he⟩ := argsOf_get ha hj
    cases r with
    | im d => cases he; exact .inr (.inl ⟨d, rfl⟩)
    | ow o => cases he; exact .inr (.inr ⟨o, rfl⟩)
    | «at» i =>
      simp only [argOf] at he
      revert he
      split
      · intro he; cases he; exact .inr (.inl ⟨_, rfl⟩)
      · intro he; cases he; exact .inr (.inr ⟨_, rfl⟩)
      · intro he; cases he
  · -- behind the call
    have nw : ∀ a m n, w2 a = some m → wcOf rs w1 a = none → w1 a = some n → False := fun a m n h1 h2 h3 => by
      rcases st.n a m h1 with z | z
      · exact z h2
      · exact (rep1.out a n h3).2.1 z
    have st' : Stp B.T G1 H1 w1 δ1 G2 H2 (wbOf rs w1 w2) (putB δ1 rs os) := by
      refine ⟨st.g, fun a o hw ho => st.b a o (by unfold wcOf; rw [hw]) ho, fun a m hm => ?_, fun a o ho => ?_, fun i o hi => ?_, st.t, st.q⟩
      · cases e : w1 a with
        | some n => exact .inl (Option.some_ne_none _)
        | none =>
          cases e2 : w2 a with
          | none =>
            unfold wbOf at hm
            have e3 : wcOf rs w1 a = none := by unfold wcOf; rw [e]
            rw [e2, e3, e] at hm
            cases hm
          | some m2 =>
            rcases st.n a m2 e2 with z | z
            · exact absurd (by unfold wcOf; rw [e]) z
            · exact .inr z
      · rcases st.p a o ho with z | z | z | z
        · exact .inl z
        · exact .inr (.inl z)
        · refine .inr (.inr (.inl fun e => z ?_))
          unfold wcOf
          rw [e]
        · exact .inr (.inr (.inr z))
      · by_cases hm : R.at i ∈ rs
        · obtain ⟨j, hj⟩ := List.mem_iff_getElem?.mp hm
          have hja : j < as.length := by rw [argsOf_len ha]; exact (List.getElem?_eq_some_iff.mp hj).1
          obtain ⟨r, hr', he⟩ := argsOf_get ha (List.getElem?_eq_getElem hja)
          rw [hj] at hr'
          cases hr'
          simp only [argOf, hi, Option.some.injEq] at he
          obtain ⟨o', ho'⟩ := st.pn j o (by rw [List.getElem?_eq_getElem hja, he])
          exact ⟨o', putB_at uq hj hi ho'⟩
        · exact ⟨o, by rw [putB_ne (.inr hm)]; exact hi⟩
    refine k r _ v H2 G2 _ hq (s1.trans st') ⟨rp.sub, fun a m hm => ?_, by rw [putB_len]; exact rep1.len, fun i s hs => ?_, rfl, fun j u p hu hp => ?_, st'.bs rep1.bs⟩
    · cases e2 : w2 a with
      | some m2 => exact rp.out a m2 e2
      | none =>
        unfold wbOf at hm
        rw [e2] at hm
        dsimp only at hm
        revert hm
        split
        · rename_i e3
          intro hm
          have hn := (evn_some.mp hm).1
          obtain ⟨g0, h0, n0⟩ := rep1.out a m hn
          refine ⟨?_, st.nn a e3 h0 n0⟩
          cases e6 : G2 a with
          | none => rfl
          | some o =>
            rcases st.p a o e6 with z | z | z | ⟨xs, z⟩
            · rw [g0] at z; cases z
            · exact absurd z h0
            · exact absurd e3 z
            · exact absurd z (n0 xs)
        · intro hm; cases hm
    · by_cases hm : isOw δ1 i ∧ R.at i ∈ rs
      · obtain ⟨⟨b, o, e⟩, hm⟩ := hm
        obtain ⟨j, hj⟩ := List.mem_iff_getElem?.mp hm
        have hja : j < as.length := by rw [argsOf_len ha]; exact (List.getElem?_eq_some_iff.mp hj).1
        obtain ⟨r', hr', he⟩ := argsOf_get ha (List.getElem?_eq_getElem hja)
        rw [hj] at hr'
        cases hr'
        simp only [argOf, e, Option.some.injEq] at he
        obtain ⟨o', ho'⟩ := st.pn j o (by rw [List.getElem?_eq_getElem hja, he])
        rw [putB_at uq hj e ho'] at hs
        cases hs
        obtain ⟨v', hv', hd⟩ := rp.sl j _ ho'
        have hjv : j < vs.length := by rw [la]; exact hja
        rw [List.getElem?_map, List.getElem?_eq_getElem hjv] at hv'
        cases hv'
        have t : σ[i]? = some (some vs[j]) := rep1.tm j _ (.at i) (List.getElem?_eq_getElem hjv) hj
        refine ⟨_, t, RO.mono (fun _ _ h => h) (fun _ _ _ h => h) (fun a u ma _ => ?_) hd⟩
        show wbOf rs w1 w2 a = _
        unfold wbOf
        rw [ma]
        dsimp only
        rw [if_neg (by omega), show 2 * j / 2 = j by omega, hj]
      · have hne : ¬ isOw δ1 i ∨ R.at i ∉ rs := by
          by_cases z : isOw δ1 i
          · exact .inr fun z2 => hm ⟨z, z2⟩
          · exact .inl z
        rw [putB_ne hne] at hs
        have sl := rep1.sl i s hs
        cases s with
        | un => trivial
        | im d =>
          obtain ⟨v', hv', hd⟩ := sl
          exact ⟨v', hv', dp_mono st.g _ _ hd⟩
        | ex a dd C fs =>
          obtain ⟨h1, us, h2, h3⟩ := sl
          exact ⟨h1, us, st.g _ _ h2, h3.mono st.g⟩
        | ow b o =>
          have hni : R.at i ∉ rs := hne.elim (fun z => absurd ⟨b, o, hs⟩ z) id
          have wcn : ∀ a, w1 a = some (2 * i) → wcOf rs w1 a = none := fun a h => by
            unfold wcOf
            rw [h]
            dsimp only
            rw [if_neg (by omega), show 2 * i / 2 = i by omega]
            cases e : idxAt i rs with
            | none => rfl
            | some j => exact absurd (List.mem_of_getElem? (idxAt_some e)) hni
          obtain ⟨v', hv', hd⟩ := sl
          refine ⟨v', hv', RO.monoN st.g (fun a u hnt ma hu => st.bN a u hnt (wcn a ma) hu) (fun a u ma hu => ?_) hd⟩
          show wbOf rs w1 w2 a = _
          unfold wbOf
          cases e2 : w2 a with
          | some m => exact (nw a m _ e2 (wcn a ma) ma).elim
          | none =>
            dsimp only
            rw [wcn a ma]
            exact evn_some.mpr ⟨ma, by omega⟩
    · match j with
      | 0 =>
        simp only [List.getElem?_cons_zero, Option.some.injEq] at hu hp
        subst hu hp
        have t := rp.tm 0 v r rfl rfl
        cases r with
        | im d => exact t
        | ow o =>
          refine RO.mono (fun _ _ h => h) (fun _ _ _ h => h) (fun a u ma _ => ?_) t
          show wbOf rs w1 w2 a = _
          unfold wbOf
          rw [ma]
          rfl
        | «at» i => cases hr
      | j + 1 => simp at hu
end Pv
namespace Pv
open PySem PySem.Spec L2 Wf
variable {B : Bas}
section
variable {X : Cx} {tg l a b e e2 : Expr} {es : List Expr} {pl pa pb : PX} {p pos : Pos}
/-! ### words -/
theorem jv (i : Nat) {x : Str} {pos : Pos} (hN : X.N[i]? = some x := by rfl) (hv : Vis X.env.scope x := by first | exact Or.inl rfl | exact Or.inr (Or.inl rfl) | exact Or.inr (Or.inr rfl)) (hd : (x == ("__debug__" : Str)) = false := by decide)
    (hcd : (x == ("__classdict__" : Str)) = false := by decide) : JE X B (.Name x pos) (pVar i) := je_var hN hv hd hcd
/-- as data for good -/
def pFz (p : PX) : PX := fun δ Q => p δ fun r δ1 => ∃ d δ2, fz δ1 r = some (d, δ2) ∧ Q (.im d) δ2
theorem je_fz (h : JE X B e pa) : JE X B e (pFz pa) := PE_wk h fun σ H Q ⟨G, w, δ, Qp, rep, q, k⟩ => ⟨G, w, δ, _, rep, q, fun r δ1 v H1 G1 w1 q1 s1 rep1 => by
  obtain ⟨d, δ2, hz, q1⟩ := q1
  obtain ⟨G2, w2, s2, r2⟩ := rep1.fz1 (j := 0) rfl rfl hz
  exact k _ _ v H1 G2 w2 q1 (s1.trans s2) r2⟩
/-! ### enumerate -/
def enD (n : Nat) : List PyData → List PyData
  | [] => []
  | d :: ds => .tuple [.int (n : Int), d] :: enD (n + 1) ds
theorem enD_len : ∀ (n : Nat) (ds : List PyData), (enD n ds).length = ds.length
  | _, [] => rfl
  | n, d :: ds => by simp only [enD, List.length_cons, enD_len (n + 1) ds]
theorem enD_get : ∀ (n : Nat) (ds : List PyData) (i : Nat), (enD n ds)[i]? = (ds[i]?).map fun d => .tuple [.int ((n + i : Nat) : Int), d]
  | n, [], i => by simp [enD]
  | n, d :: ds, 0 => by simp [enD]
  | n, d :: ds, i + 1 => by
    simp only [enD, List.getElem?_cons_succ, enD_get (n + 1) ds i]
    have : n + 1 + i = n + (i + 1) := by omega
    rw [this]
theorem itd_enumL {K : PySem.W.Frag} {G : Hp} {a : Addr} {us : List V} {ds : List PyData} (ha : G a = some (.lst us)) (hd : DqAll K G us ds) : ItD K G (Ite K a) (enD 0 ds) where
  go := fun G' H' i sg sh hi => by
    rw [enD_len] at hi
    have hl := dqAll_len hd
    exact ⟨us, us[i]'(by omega), SqL.of (sh _ _ (sg _ _ ha)), by simp⟩
  yld := fun G' H' i x H2 sg sh hi y => by
    rw [enD_len] at hi
    obtain ⟨T, z, rfl, hT, rfl, y⟩ := y
    obtain ⟨v, hv, hq⟩ := dqAll_get hd (List.getElem?_eq_getElem hi)
    have e := y us (SqL.of (sh _ _ (sg _ _ ha)))
    rw [hv] at e
    cases e
    refine ⟨_, by rw [enD_get, List.getElem?_eq_getElem hi]; rfl, .inr ⟨T, _, _, rfl, hT, rfl, .cons ?_ (.cons (dp_mono sg _ _ hq) .nil), rfl⟩⟩
    rw [Nat.zero_add]
    exact .int _
  stop := fun G' H' sg sh => ⟨us, SqL.of (sh _ _ (sg _ _ ha)), by rw [enD_len, dqAll_len hd]; exact Nat.le_refl _⟩
theorem itd_enumT {K : PySem.W.Frag} {G : Hp} {a : Addr} {us : List V} {ds : List PyData} (ha : SqT K G a us) (hd : DqAll K G us ds) : ItD K G (ItT K a) (enD 0 ds) where
  go := fun G' H' i sg sh hi => by
    rw [enD_len] at hi
    have hl := dqAll_len hd
    exact ⟨us, us[i]'(by omega), Same.tp sh _ _ (Same.tp sg _ _ ha), by simp⟩
  yld := fun G' H' i x H2 sg sh hi y => by
    rw [enD_len] at hi
    obtain ⟨T, z, rfl, hT, rfl, y⟩ := y
    obtain ⟨v, hv, hq⟩ := dqAll_get hd (List.getElem?_eq_getElem hi)
    have e := y us (Same.tp sh _ _ (Same.tp sg _ _ ha))
    rw [hv] at e
    cases e
    refine ⟨_, by rw [enD_get, List.getElem?_eq_getElem hi]; rfl, .inr ⟨T, _, _, rfl, hT, rfl, .cons ?_ (.cons (dp_mono sg _ _ hq) .nil), rfl⟩⟩
    rw [Nat.zero_add]
    exact .int _
  stop := fun G' H' sg sh => ⟨us, Same.tp sh _ _ (Same.tp sg _ _ ha), by rw [enD_len, dqAll_len hd]; exact Nat.le_refl _⟩
def iEnumU (K : PySem.W.Frag) (ta : TA) : TI := fun σ H R => ta σ H fun vs H1 => ∃ a xs, vs = [.ref a] ∧ ((SqL K H1 a xs ∧ R (Ite K a) H1) ∨ (SqT K H1 a xs ∧ R (ItT K a) H1))
open PyProof.Rows in
theorem pi_enumU {ta : TA} {tpos : Pos} {elts : List Expr} {kk : Nat} (hg : Gl X "enumerate") (hm : X.mg "enumerate" = none) (ha : PA X [e] ta) (hs : starEach [e] X.env = [(false, eval e X.env)] := by rfl) :
    PI X (.Tuple elts kk tpos) (.Call (.Name "enumerate" p) [e] [] pos) (iEnumU X.K ta) := by
  refine ⟨fun pins s σ H R I h => ?_⟩
  refine Call_ (ld_blt I hg hm boot_enumerate (PyProof.Rows.callWith_type1 (thn (ha.run pos pins s σ H _ I h) fun us s1 ⟨vs, H1, I1, r1, q1⟩ => ?_) hs rfl))
  obtain ⟨a, xs, ex, ⟨hq, q⟩ | ⟨hq, q⟩⟩ := q1
  · subst ex
    cases r1 with
    | cons r rr =>
      cases rr
      cases r
      obtain ⟨its, rv, p', hz⟩ := I1.list hq
      refine call_enumerate_list p'.isList fun h' he hit hsz hk => wpAny_pyIter_enum he ?_
      have I2 : Inv X pins σ H1 { s1 with heap := h' } := I1.kept (t' := s1.toks) hk
      refine ⟨s1.heap.objs.size + 1, [s1.heap.objs.size + 1, s1.heap.objs.size], _, _, H1, rfl, I2, turn_enum a (s1.heap.objs.size + 1) s1.heap.objs.size, ⟨⟨.none, he⟩, hit, Nat.succ_ne_self _⟩, fun b hb => ?_, q⟩
      have e' : b = s1.heap.objs.size + 1 ∨ b = s1.heap.objs.size := by simpa using hb
      have hle : s1.heap.objs.size ≤ b := by
        rcases e' with z | z
        · rw [z]; exact Nat.le_add_right _ _
        · rw [z]; exact Nat.le_refl _
      exact I1.fpOk hle (I1.hok.fresh hle)
  · subst ex
    cases r1 with
    | cons r rr =>
      cases rr
      cases r
      obtain ⟨its, rv, pt, hz⟩ := I1.tuple hq
      refine call_enumT (show s1.heap.IsTuple a its.toArray from pt) fun h' en hit hsz hk => wpAny_pyIter_enum en ?_
      have I2 : Inv X pins σ H1 { s1 with heap := h' } := I1.kept (t' := s1.toks) hk
      refine ⟨s1.heap.objs.size + 1, [s1.heap.objs.size + 1, s1.heap.objs.size], _, _, H1, rfl, I2, turn_enumT a (s1.heap.objs.size + 1) s1.heap.objs.size, ⟨⟨.none, en⟩, hit, Nat.succ_ne_self _⟩, fun b hb => ?_, q⟩
      have le : s1.heap.objs.size ≤ b := by
        have eb : b = s1.heap.objs.size + 1 ∨ b = s1.heap.objs.size := by simpa using hb
        rcases eb with rfl | rfl
        · exact Nat.le_add_right _ _
        · exact Nat.le_refl _
      exact I1.fpOk le (I1.hok.fresh le)
def iEn (ps : PL) : PIx := fun δ Q => ps δ fun rs δ1 => ∃ d δ2 ds, fzAll δ1 rs = some ([d], δ2) ∧ seqD d = some ds ∧ Q (enD 0 ds) δ2
theorem vals1 {K : PySem.W.Frag} {G : Hp} {vs : List V} {d : PyData} (h : DqAll K G vs [d]) : ∃ v, vs = [v] ∧ Dq K G v d := by
  cases h with
  | cons h1 h2 => cases h2; exact ⟨_, rfl, h1⟩
theorem ji_enum {ps : PL} {tpos : Pos} {elts : List Expr} {kk : Nat} (hg : Gl X "enumerate") (hm : X.mg "enumerate" = none) (ha : JA X B [e] ps) (hs : starEach [e] X.env = [(false, eval e X.env)] := by rfl) :
    JI X B (.Tuple elts kk tpos) (.Call (.Name "enumerate" p) [e] [] pos) (iEn ps) := PI_wk (pi_enumU hg hm ha hs) fun σ H R ⟨G, w, δ, Qp, rep, q, k⟩ =>
  ⟨G, w, δ, _, rep, q, fun rs δ1 vs H1 G1 w1 q1 _ s1 rep1 => by
    obtain ⟨d, δ2, ds, hz, hs, q1⟩ := q1
    obtain ⟨G2, w2, s2, r2⟩ := rep1.fzs hz
    obtain ⟨v, rfl, hd⟩ := vals1 (r2.ims)
    cases d with
    | list es =>
      cases hs
      cases hd with
      | lst ha hds => exact ⟨_, _, rfl, .inl ⟨SqL.of (r2.sub _ _ ha), k _ δ2 _ H1 G2 _ q1 ((s1.trans s2).trans .drop) r2.drop (itd_enumL ha hds)⟩⟩
    | tuple es =>
      cases hs
      cases hd with
      | tup ha hds => exact ⟨_, _, rfl, .inr ⟨Same.tp r2.sub _ _ ha, k _ δ2 _ H1 G2 _ q1 ((s1.trans s2).trans .drop) r2.drop (itd_enumT ha hds)⟩⟩
    | none => cases hs
    | bool _ => cases hs
    | int _ => cases hs
    | str _ => cases hs
    | dict _ => cases hs⟩
/-! ### zip -/
def zipD : List PyData → List PyData → List PyData
  | x :: xs, y :: ys => .tuple [x, y] :: zipD xs ys
  | _, _ => []
theorem zipD_len : ∀ (xs ys : List PyData), (zipD xs ys).length = min xs.length ys.length
  | [], _ => by simp [zipD]
  | _ :: _, [] => by simp [zipD]
  | x :: xs, y :: ys => by simp only [zipD, List.length_cons, zipD_len xs ys]; omega
theorem zipD_get : ∀ (xs ys : List PyData) (i : Nat) {x y : PyData}, xs[i]? = some x → ys[i]? = some y → (zipD xs ys)[i]? = some (.tuple [x, y])
  | [], _, _, _, _, h, _ => by simp at h
  | _ :: _, [], _, _, _, _, h => by simp at h
  | x :: xs, y :: ys, 0, _, _, h1, h2 => by simp at h1 h2; subst h1 h2; rfl
  | x :: xs, y :: ys, i + 1, _, _, h1, h2 => by
    simp only [zipD, List.getElem?_cons_succ]
    exact zipD_get xs ys i (by simpa using h1) (by simpa using h2)
/-! ### defs of the module -/
def noX : EX := fun _ _ => False
theorem xok_no {K : PySem.W.Frag} {E : XK} : XOk K B noX E := fun _ _ _ _ _ h => h.elim
theorem je_cal {k j : Nat} {x : Str} {pn : List Str} {psp : PSp} {ps : PL} (C : Cal X.prog X.w X.K X.mg X.base CX0 k x pn (LSp X.K B.T psp)) (hr : Room j X.A) (hg : Gl X x) (ha : JA X B (e :: es) ps) (hk : k ≤ j := by decide)
    (hdb : (x == ("__debug__" : Str)) = false := by decide) (he : starEach (e :: es) X.env = (false, eval e X.env) :: starEach es X.env := by rfl) (hpl : (backTo pos (starEach es X.env)).any (·.1) = false := by rfl) :
    JE X B (.Call (.Name x p) (e :: es) [] pos) (pCall psp ps noX) := PE_wk (pe_cal C hr hg ha hk hdb he hpl) fun σ H Q h => call_lift xok_no h
/-- .. that may raise; the error leaves this def too -/
theorem je_calX {k j : Nat} {x : Str} {pn : List Str} {psp : PSp} {ps : PL} {W : WX} {E : XK} {Ep : EX} (C : CalX X.prog X.w X.K X.mg X.base k x pn (LSp X.K B.T psp)) (hr : Room j X.A) (tk : Takes X W) (hW : ∀ cls d σ H, E cls d H → W cls d σ H) (hx : XOk X.K B Ep E) (hg : Gl X x) (ha : JA X B (e :: es) ps) (hk : k ≤ j := by decide)
    (hdb : (x == ("__debug__" : Str)) = false := by decide) (he : starEach (e :: es) X.env = (false, eval e X.env) :: starEach es X.env := by rfl) (hpl : (backTo pos (starEach es X.env)).any (·.1) = false := by rfl) :
    JE X B (.Call (.Name x p) (e :: es) [] pos) (pCall psp ps Ep) := PE_wk (pe_calX C hr tk hW hg ha hk hdb he hpl) fun σ H Q h => call_lift hx h
/-! ### repr -/
end
/-! ### a def keeps its promise -/
theorem fn_ok {T : List NdefX.NTab} {P : Program} {w : World} {K : PySem.W.Frag} {mg : Str → Option Value} {base : Heap} {CX : CXT} {k : Nat} {f : Addr} {fd : FuncData} {x qual : Str} {params : Arguments} {body : List Stmt} {scope : Scope} {dvs : List V} {kws : List (Str × V)} {N prm : List Str} {psp : PSp} {p : EX → PSx} {m n : Nat}
    (F : FunD K x qual params body scope dvs kws f fd) (S : FnScope N prm scope) (hN : N.length = m) (hn : prm.length = n) (hnm : n ≤ m) (hlen : ∀ as Qp Ep, psp as Qp Ep → as.length = n)
    (hb : ∀ (cdv : Value) (A : Around) (outer : List Env) (s : Shared) (H : Hp) (E : XK) (Bh Bt : Hp) (Ep : EX), Room k (A.deeper (PyProof.Rows.envOfC qual scope s.heap.objs.size f cdv)) → XOk K ⟨Bh, Bt, T⟩ Ep E → JSs (cxOf CX P w K mg base N qual scope f cdv A outer s H E) ⟨Bh, Bt, T⟩ body (p Ep))
    (hp : ∀ as Qp Ep, psp as Qp Ep → p Ep (endsP as Qp) (as ++ List.replicate (m - n) .un)) : FnOk P w K mg base CX (k + 1) f fd prm (LSp K T psp) := by
  have ln : ∀ vs H Q E, LSp K T psp vs H Q E → vs.length = n := fun vs H Q E ⟨G, w, as, Qp, Ep, rep, _, h, _⟩ => by
    have := rep.len
    rw [List.length_map, hlen as Qp Ep h] at this
    exact this
  refine F.ok S (fun vs H Q E h => by rw [hn]; exact ln vs H Q E h) fun cdv A outer s H vs Q E hr h => ?_
  obtain ⟨Bh, Bt, Ep, hx, hl⟩ := fn_lift (N := N) (p := p) hN (fun as Qp Ep h => by rw [hlen as Qp Ep h]; exact hp as Qp Ep h) h (by rw [ln vs H Q E h]; exact hnm)
  exact ⟨_, hb cdv A outer s H E Bh Bt Ep hr hx, hl⟩
theorem JSs.nox {X : Cx} {st : List Stmt} {p : PSx} (h : JSs X.nox B st p) : JSs X B st p := PSs.nox h
end Pv
/-! errors of one field -/
namespace Wf
open PySem PySem.Spec PyProof.Rows L2
def sp_init1 (K : PySem.W.Frag) (C : Addr) (f1 : Str) : Sp := fun vs H Q _ => ∃ (a : Addr) (w : V), vs = [.ref a, w] ∧ H a = some (exo a C none) ∧
  ∀ dx, H dx = none → dx ≠ a → Q .non (upd (upd H dx (exd dx [(f1, w)])) a (exo a C (some dx)))
def t_init1 (K : PySem.W.Frag) (f1 txt : Str) : TS := tSeq (tDrop (tVeI K (tCons (tVar 0) (tCons (tC (.str txt)) tNil)))) (tOst K f1 (tVar 0) (tVar 1))
theorem pure_init1 {K : PySem.W.Frag} {C : Addr} {f1 txt : Str} (O : OexC K C) (n1 : PySem.W.findIn K (.ref C) f1 = some none) (vs : List V) (H : Hp) (Q : VK) (E : XK) (h : sp_init1 K C f1 vs H Q E) :
    t_init1 K f1 txt (EndsQ Q) (sN 2 vs) H := by
  obtain ⟨a, w, rfl, ha, k⟩ := h
  show t_init1 K f1 txt _ [some (.ref a), some w] H
  refine ⟨_, rfl, a, C, [.str txt], rfl, (by show 1 ≤ 1000; decide), O, ha, ?_⟩
  exact ⟨_, rfl, _, rfl, a, C, rfl, O, n1, .inl ⟨ha, fun dx hd ne => k dx hd ne⟩⟩
structure Err1 (P : Program) (w : World) (K : PySem.W.Frag) (mg : Str → Option Value) (base : Heap) (x f1 : Str) (C : Addr) : Prop where
  g : mg x = some (.ref C)
  o : OexC K C
  ini : ∃ fI fd, PySem.W.findIn K (.ref C) "__init__" = some (some (.ref fI)) ∧ PySem.W.typeIn K (.ref fI) = some (.type "function") ∧ FnOk P w K mg base CX0 1 fI fd ["self", f1] (sp_init1 K C f1) ∧ Binds K fd ["self", f1] []
def tRz1 (C : Addr) (f1 : Str) (W : WX) (ta : TA) : TS := fun _ σ H => ta σ H fun vs H1 => ∃ w, vs = [w] ∧ ∀ d, H1 d = none → W (.ref C) (some d) σ (upd H1 d (.xd [(f1, w)]))
theorem ps_rz1 {X : Cx} {x f1 : Str} {C : Addr} {W : WX} {e1 : Expr} {ta : TA} {p pos pos2 : Pos} {j : Nat} (T : Err1 X.prog X.w X.K X.mg X.base x f1 C) (hr : Room j X.A) (hc : X.calm = true) (tk : Takes X W) (hg : Gl X x) (ha : PA X [e1] ta) (hk : 2 ≤ j := by decide)
    (hdb : (x == ("__debug__" : Str)) = false := by decide) (he : starEach (e1 :: []) X.env = (false, eval e1 X.env) :: starEach [] X.env := by rfl) (hpl : (backTo pos (starEach [] X.env)).any (·.1) = false := by rfl) :
    PS X (.Raise (some (.Call (.Name x p) [e1] [] pos)) none pos2) (tRz1 C f1 W ta) := by
  obtain ⟨fI, fd, iC, tI, F, hb⟩ := T.ini
  have R := ps_raise (pos := pos2) hc tk (pmk_oex (p := p) (pos := pos) T.o iC tI F (hr.mono hk) hb .nil pass0 hg T.g (pa_up ha) hdb he hpl)
  refine ⟨fun pins s σ H D I h => R.run pins s σ H D I ⟨_, h, fun vs H1 q => ?_⟩⟩
  obtain ⟨w, rfl, q⟩ := q
  refine ⟨by show 1 ≤ 1000; decide, fun a ha1 => ⟨a, w, rfl, upd_same, fun dx hd ne => ⟨rfl, dx, [(f1, w)], upd_same, ?_, ?_, ?_⟩⟩⟩
  · rw [upd_ne ne, upd_same]
  · rw [upd_ne ne] at hd
    exact hd
  · have hd1 : H1 dx = none := by
      rw [upd_ne ne] at hd
      exact hd
    have ef : upd (del (upd (upd (upd H1 a (exo a C none)) dx (exd dx [(f1, w)])) a (exo a C (some dx))) a) dx (.xd [(f1, w)]) = upd H1 dx (.xd [(f1, w)]) := by
      funext b
      by_cases h1 : b = dx
      · rw [h1, upd_same, upd_same]
      · rw [upd_ne h1, upd_ne h1]
        by_cases h2 : b = a
        · rw [h2, del_same, ha1]
        · rw [del_ne h2, upd_ne h2, upd_ne h1, upd_ne h2]
    rw [ef]
    exact q dx hd1
end Wf
namespace Pv
open PySem PySem.Spec L2 Wf
variable {B : Bas}
/-! ### raise -/
def pRaise (C : Addr) (fs : List Str) (ps : PL) (Ep : EX) : PSx := fun _ δ => ps δ fun rs δ1 => ∃ ds δ2, fzAll δ1 rs = some (ds, δ2) ∧ noLAll ds = true ∧ Ep C ((fs.zip ds).reverse)
theorem raise_ok {K : PySem.W.Frag} {G H : Hp} {σ : St} {δ : List Sl} {vs : List V} {rs : List R} {w : Addr → Option Nat} {C : Addr} {Ep : EX} {E : XK} {d : Addr} {us : List (Str × V)} {fs : List (Str × PyData)} (hx : XOk K B Ep E) (rep : Rep K B G H σ δ vs rs w) (he : Ep C fs) (hd : H d = none) (hf : FlP K (upd H d (.xd us)) us fs) : E (.ref C) (some d) (upd H d (.xd us)) :=
  hx C fs us d _ he (fun a o ha => by
    have := (rep.bs.to a o ha).1
    rw [upd_ne (ne_of_none this hd)]
    exact this) (rep.bs.tt.trans (tabs_new hd)) (by
    cases e : B d with
    | none => rfl
    | some o => rw [(rep.bs.to d o e).1] at hd; cases hd) upd_same hf
theorem dq_upd {K : PySem.W.Frag} {G H : Hp} {d : Addr} {o : HO} {v : V} {x : PyData} (s : Same G H) (hd : H d = none) (h : Dq K G v x) : Dp K (upd H d o) v x :=
  dq_dp (fun a u ha => by rw [upd_ne (ne_of_none (s a u ha) hd)]; exact s a u ha) _ _ h
theorem noLAll_1 {d : PyData} (h : noLAll [d] = true) : noL d = true := by
  have : (noL d && true) = true := h
  simpa using this
section
variable {X : Cx} {p pos pos2 : Pos}
theorem js_rz1 {x f1 : Str} {C : Addr} {E : XK} {Ep : EX} {e1 : Expr} {ps : PL} {j : Nat} (T : Err1 X.prog X.w X.K X.mg X.base x f1 C) (hr : Room j X.A) (hc : X.calm = true) (tk : Takes X fun cls d _ H => E cls d H) (hx : XOk X.K B Ep E) (hg : Gl X x) (ha : JA X B [e1] ps) (hk : 2 ≤ j := by decide)
    (hdb : (x == ("__debug__" : Str)) = false := by decide) (he : starEach (e1 :: []) X.env = (false, eval e1 X.env) :: starEach [] X.env := by rfl) (hpl : (backTo pos (starEach [] X.env)).any (·.1) = false := by rfl) :
    JS X B (.Raise (some (.Call (.Name x p) [e1] [] pos)) none pos2) (pRaise C [f1] ps Ep) := PS_wk (ps_rz1 T hr hc tk hg ha hk hdb he hpl) fun D σ H ⟨G, w, δ, E', rep, h, ek⟩ =>
  ⟨G, w, δ, _, rep, h, fun rs δ1 vs H1 G1 w1 q1 l1 s1 rep1 => by
    obtain ⟨ds, δ2, hz, hn, q1⟩ := q1
    obtain ⟨G2, w2, s2, r2⟩ := rep1.fzs hz
    have hd := r2.ims
    have hl : vs.length = 1 := rep1.tlen.trans l1
    match vs, ds, hd, hl, hn, q1 with
    | [v], [d], .cons h1 .nil, _, hn, q1 => exact ⟨v, rfl, fun dd hdd => raise_ok hx r2 q1 hdd (.cons (dq_upd r2.sub hdd h1) (noLAll_1 hn) .nil)⟩⟩
end
/-! ### all tuples are public -/
open Classical in
noncomputable def pubT (G H : Hp) (x : Option (Addr × HO)) : Hp := fun a => match x with
  | some (d, o) => if a = d then some o else match G a with
    | some u => some u
    | none => if ∃ xs, RdX H a xs then H a else none
  | none => match G a with
    | some u => some u
    | none => if ∃ xs, RdX H a xs then H a else none
open Classical in
theorem pubT_some {G H : Hp} {x : Option (Addr × HO)} {a : Addr} {o : HO} (h : pubT G H x a = some o) : (∃ u, x = some (a, u) ∧ o = u) ∨ G a = some o ∨ (H a = some o ∧ ∃ xs, RdX H a xs) := by
  unfold pubT at h
  have go : (match G a with
    | some u => some u
    | none => if ∃ xs, RdX H a xs then H a else none) = some o → G a = some o ∨ (H a = some o ∧ ∃ xs, RdX H a xs) := fun h => by
    cases e : G a with
    | some u => rw [e] at h; exact .inl h
    | none =>
      rw [e] at h
      dsimp only at h
      split at h
      · rename_i z; exact .inr ⟨h, z⟩
      · cases h
  cases x with
  | none => exact .inr (go h)
  | some p =>
    obtain ⟨d, u⟩ := p
    dsimp only at h
    split at h
    · rename_i e; subst e; cases h; exact .inl ⟨_, rfl, rfl⟩
    · exact .inr (go h)
open Classical in
theorem pubT_g {G H : Hp} {x : Option (Addr × HO)} (hx : ∀ d u, x = some (d, u) → G d = none) : Same G (pubT G H x) := fun a o h => by
  unfold pubT
  cases x with
  | none => rw [h]
  | some p =>
    obtain ⟨d, u⟩ := p
    dsimp only
    rw [if_neg (fun e => by subst e; rw [hx a u rfl] at h; cases h), h]
open Classical in
theorem pubT_tup {K : PySem.W.Frag} {G H : Hp} {x : Option (Addr × HO)} (s : Same G H) (hx : ∀ d u, x = some (d, u) → NoT H d) {a : Addr} {xs : List V} (h : SqT K H a xs) : SqT K (pubT G H x) a xs := by
  rcases h with h | h
  · refine .inl ?_
    have e : pubT G H x a = H a := by
      have body : (match G a with
        | some u => some u
        | none => if ∃ xs, RdX H a xs then H a else none) = H a := by
        cases e : G a with
        | some u => exact (s a u e).symm
        | none => dsimp only; rw [if_pos ⟨some xs, h⟩]
      unfold pubT
      cases x with
      | none => exact body
      | some p =>
        obtain ⟨d, u⟩ := p
        dsimp only
        rw [if_neg (fun e => by subst e; exact hx a u rfl xs h)]
        exact body
    rcases h with h | ⟨o, h⟩
    · exact .inl (by rw [e]; exact h)
    · exact .inr ⟨o, by rw [e]; exact h⟩
  · exact .inr h
mutual
theorem dp_pub {K : PySem.W.Frag} {G H : Hp} {x : Option (Addr × HO)} (s : Same G H) (hx : ∀ d u, x = some (d, u) → NoT H d) : ∀ (d : PyData) (v : V), noL d = true → Dp K H v d → Dq K (pubT G H x) v d
  | .none, _, _, h => by cases h; exact .non
  | .bool b, _, _, h => by cases h; exact .bl b
  | .int i, _, _, h => by cases h; exact .int i
  | .str x, _, _, h => by cases h; exact .str x
  | .list _, _, n, _ => nomatch n
  | .dict _, _, _, h => by cases h
  | .tuple ds, _, n, h => by
    cases h with
    | tup hs ha => exact .tup (pubT_tup s hx hs) (dpAll_pub s hx ds _ n ha)
theorem dpAll_pub {K : PySem.W.Frag} {G H : Hp} {x : Option (Addr × HO)} (s : Same G H) (hx : ∀ d u, x = some (d, u) → NoT H d) : ∀ (ds : List PyData) (vs : List V), noLAll ds = true → DpAll K H vs ds → DqAll K (pubT G H x) vs ds
  | [], _, _, h => by cases h; exact .nil
  | d :: ds, _, n, h => by
    have n2 : (noL d && noLAll ds) = true := n
    rw [Bool.and_eq_true] at n2
    cases h with
    | cons h1 h2 => exact .cons (dp_pub s hx d _ n2.1 h1) (dpAll_pub s hx ds _ n2.2 h2)
end
/-- all that stood stands; new things beside, the tuples public now -/
theorem Rep.pub {K : PySem.W.Frag} {G H H2 : Hp} {σ : St} {δ : List Sl} {w : Addr → Option Nat} (r : Rep K B G H σ δ [] [] w) {x : Option (Addr × HO)} (s : ∀ a o, NT o → H a = some o → H2 a = some o) (tg : TbG B.T H H2) (hx : ∀ d u, x = some (d, u) → H d = none ∧ H2 d = some u ∧ NT u) :
    Stp B.T G H w δ (pubT G H2 x) H2 w δ ∧ Rep K B (pubT G H2 x) H2 σ δ [] [] w := by
  have gx : ∀ d u, x = some (d, u) → G d = none := fun d u e => by
    cases e2 : G d with
    | none => rfl
    | some o => have := r.sub d o e2; rw [(hx d u e).1] at this; cases this
  have sg := pubT_g (H := H2) gx
  have both : ∀ a o, H a = some o → H2 a = some o ∨ ∃ ps qs, o = .tbl ps ∧ H2 a = some (.tbl qs) := fun a o h => by
    by_cases hn : NT o
    · exact .inl (s a o hn h)
    · have : ∃ ps, o = .tbl ps := Classical.byContradiction fun z => hn fun ps e => z ⟨ps, e⟩
      obtain ⟨ps, rfl⟩ := this
      obtain ⟨qs, h2⟩ := tg.st a ps h
      exact .inr ⟨ps, qs, rfl, h2⟩
  have ngt : ∀ {a : Addr} {o : HO}, G a = some o → NT o := fun {a o} h ps e => r.bs.gt a ps (by rw [h, e])
  have st : Stp B.T G H w δ (pubT G H2 x) H2 w δ := by
    refine ⟨sg, fun a o _ h => both a o h, fun a i h => .inl (by rw [h]; exact Option.some_ne_none _), fun a o h => ?_, .refl _, tg, fun a ps h => ?_⟩
    rotate_left
    · rcases pubT_some h with ⟨u, e, z⟩ | h | ⟨h, xs, hr⟩
      · exact absurd z.symm ((hx a u e).2.2 ps)
      · exact h
      · exact absurd hr (NoX.tbl h xs)
    rcases pubT_some h with ⟨u, e, _⟩ | h | ⟨h, xs, hr⟩
    · exact .inr (.inl (hx a u e).1)
    · exact .inl h
    · cases e : H a with
      | none => exact .inr (.inl rfl)
      | some u =>
        refine .inr (.inr (.inr ⟨xs, ?_⟩))
        rcases both a u e with e2 | ⟨_, _, _, e2⟩
        · exact RdX.same e e2 hr
        · exact absurd hr (NoX.tbl e2 xs)
  refine ⟨st, fun a o h => ?_, fun a i h => ?_, r.len, fun i sl h => ((r.sl i sl h).monoN sg (fun a u hn _ hu => s a u hn hu) fun a u ma _ => ma), rfl, fun j v q hv => by simp at hv, st.bs r.bs⟩
  · rcases pubT_some h with ⟨u, e, rfl⟩ | h | ⟨h, _⟩
    · exact (hx a _ e).2.1
    · exact s a o (ngt h) (r.sub a o h)
    · exact h
  · obtain ⟨g0, h0, n0⟩ := r.out a i h
    cases e : H a with
    | none => exact absurd e h0
    | some u =>
      have n2 : H2 a ≠ none ∧ NoX H2 a := by
        rcases both a u e with e2 | ⟨_, _, _, e2⟩
        · exact ⟨by rw [e2]; exact Option.some_ne_none _, n0.same e e2⟩
        · exact ⟨by rw [e2]; exact Option.some_ne_none _, NoX.tbl e2⟩
      refine ⟨?_, n2⟩
      cases e3 : pubT G H2 x a with
      | none => rfl
      | some o =>
        rcases pubT_some e3 with ⟨u', e', _⟩ | h' | ⟨_, xs, hr⟩
        · have := (hx a u' e').1; rw [e] at this; cases this
        · rw [g0] at h'; cases h'
        · exact absurd hr (n2.2 xs)
/-! ### try: name = an expression with one call that may raise -/
end Pv
namespace Pv
open PySem PySem.Spec L2 Wf
/-! ### what is asked of the caught error -/
end Pv
namespace Pv
open PySem PySem.Spec L2 Wf
variable {B : Bas}
theorem _root_.Wf.Cal.imp {P : Program} {w : World} {K : PySem.W.Frag} {mg : Str → Option Value} {base : Heap} {CX : CXT} {k : Nat} {x : Str} {ps : List Str} {sp sp' : Sp} (C : Wf.Cal P w K mg base CX k x ps sp) (h : ∀ vs H Q E, sp' vs H Q E → sp vs H Q E) : Wf.Cal P w K mg base CX k x ps sp' := by
  obtain ⟨f, fd, F, r⟩ := C.ex
  exact ⟨f, fd, F.imp h, r⟩
section
variable {K : PySem.W.Frag} {G H H' : Hp} {σ : St} {δ : List Sl} {vs : List V} {rs : List R} {w : Addr → Option Nat}
theorem noT_same {H H' : Hp} {a : Addr} {u : HO} (e : H a = some u) (e2 : H' a = some u) (n : NoX H a) : NoX H' a := n.same e e2
theorem noT_deal {H : Hp} {d l : Addr} (h : Deal H d l) : NoX H d ∧ NoX H l ∧ H d ≠ none ∧ H l ≠ none := by
  obtain ⟨s, m, n, ns, h1, h2, _⟩ := h.ex
  exact ⟨NoX.of h1 (fun _ z => by cases z) (fun _ _ z => by cases z) (fun _ z => by cases z), NoX.lst h2, by rw [h1]; exact Option.some_ne_none _, by rw [h2]; exact Option.some_ne_none _⟩
theorem tabs_deal {T : List NdefX.NTab} {H H' : Hp} {d l : Addr} (but : But [d, l] H H') (dl : Deal H d l) : TbG T H H' := by
  obtain ⟨s, m, n, ns, h1, h2, _⟩ := dl.ex
  have ne : ∀ x o, (∀ xs, o ≠ .lst xs) → (∀ xs, o ≠ .dK xs) → H x = some o → H' x = some o := fun x o n1 n2 hx => but x o (fun z => by
    simp only [List.mem_cons, List.not_mem_nil, or_false] at z
    rcases z with rfl | rfl
    · rw [h1] at hx; cases hx; exact n2 _ rfl
    · rw [h2] at hx; cases hx; exact n1 _ rfl) hx
  refine ⟨fun t p hp => ?_, fun a ps h => ⟨ps, ne _ _ nofun nofun h⟩⟩
  obtain ⟨ps, e1, e2, e3⟩ := t p hp
  refine ⟨ps, ne _ _ nofun nofun e1, e2, fun pos cv hc => ?_⟩
  obtain ⟨c, f1, f2⟩ := e3 pos cv hc
  exact ⟨c, f1, ne _ _ (fun xs z => by unfold LamX.CodeO at z; cases z) (fun xs z => by unfold LamX.CodeO at z; cases z) f2⟩
/-- the deal goes on -/
theorem Rep.deal (r : Rep K B G H σ δ vs rs w) {i : Nat} {b : Bool} {d l : Addr} (h : δ[i]? = some (.ow b .deal)) (hσ : σ[i]? = some (some (.ref d))) (wd : w d = some (2 * i)) (wl : w l = some (2 * i)) (dl0 : Deal H d l) (but : But [d, l] H H') (dl : Deal H' d l) :
    Stp B.T G H w δ G H' w δ ∧ Rep K B G H' σ δ vs rs w := by
  have nin : ∀ x, w x ≠ some (2 * i) → x ∉ [d, l] := fun x hx z => by
    simp only [List.mem_cons, List.not_mem_nil, or_false] at z
    rcases z with rfl | rfl
    · exact hx wd
    · exact hx wl
  obtain ⟨nd, nl, ed, el⟩ := noT_deal dl
  have st : Stp B.T G H w δ G H' w δ := .of ⟨fun _ _ h => h, fun x o hx ho => but x o (nin x (by rw [hx]; exact nofun)) ho, fun x n hx => .inl (by rw [hx]; exact Option.some_ne_none _), fun _ _ h => .inl h, .refl _⟩ (tabs_deal but dl0)
  refine ⟨st, fun x o hx => ?_, fun x n hx => ?_, r.len, fun k s hk => ?_, r.tlen, fun j v q hv hq => ?_, st.bs r.bs⟩
  · refine but x o (nin x fun z => ?_) (r.sub x o hx)
    rw [(r.out x _ z).1] at hx
    cases hx
  · obtain ⟨h1, h2, h3⟩ := r.out x n hx
    by_cases e : x ∈ [d, l]
    · simp only [List.mem_cons, List.not_mem_nil, or_false] at e
      rcases e with rfl | rfl
      · exact ⟨h1, ed, nd⟩
      · exact ⟨h1, el, nl⟩
    · cases e2 : H x with
      | none => exact absurd e2 h2
      | some u => exact ⟨h1, by rw [but x u e e2]; exact Option.some_ne_none _, noT_same e2 (but x u e e2) h3⟩
  · by_cases e : i = k
    · subst e
      rw [h] at hk
      cases hk
      exact ⟨_, hσ, d, l, rfl, wd, wl, dl⟩
    · refine (r.sl k s hk).mono (fun _ _ h => h) (fun x u mx hu => but x u (nin x ?_) hu) fun x u mx _ => mx
      rw [mx]
      exact fun z => e (by have := Option.some.inj z; omega)
  · refine (r.tm j v q hv hq).mono (fun _ _ h => h) (fun x u mx hu => but x u (nin x ?_) hu) fun x u mx _ => mx
    rw [mx]
    exact fun z => by have := Option.some.inj z; omega
/-- a new deal is told -/
theorem Rep.newDeal (r : Rep K B G H σ δ [] [] w) {d l : Addr} (s : Same H H') (hd : H d = none) (hl : H l = none) (dl : Deal H' d l) :
    ∃ w', Stp B.T G H w δ G H' w' δ ∧ Rep K B G H' σ δ [.ref d] [.ow .deal] w' := by
  obtain ⟨nd, nl, ed, el⟩ := noT_deal dl
  have g0 : ∀ x, H x = none → G x = none := fun x hx => by
    cases e : G x with
    | none => rfl
    | some o => have := r.sub x o e; rw [hx] at this; cases this
  have st : Stp B.T G H w δ G H' (fun a => if a = d ∨ a = l then some 1 else w a) δ := by
    refine .of ⟨fun _ _ h => h, fun x o hx ho => s x o ho, fun x n hx => ?_, fun _ _ h => .inl h, .refl _⟩ (.same s)
    split at hx
    · rename_i e
      rcases e with rfl | rfl
      · exact .inr hd
      · exact .inr hl
    · exact .inl (by rw [hx]; exact Option.some_ne_none _)
  have wn : ∀ x n, w x = some n → ¬ (x = d ∨ x = l) := fun x n hx z => by
    rcases z with rfl | rfl
    · exact (r.out _ n hx).2.1 hd
    · exact (r.out _ n hx).2.1 hl
  refine ⟨_, st, fun x o hx => s x o (r.sub x o hx), fun x n hx => ?_, r.len, fun k sl hk => ?_, rfl, fun j v q hv hq => ?_, st.bs r.bs⟩
  · split at hx
    · rename_i e
      rcases e with rfl | rfl
      · exact ⟨g0 _ hd, ed, nd⟩
      · exact ⟨g0 _ hl, el, nl⟩
    · obtain ⟨h1, h2, h3⟩ := r.out x n hx
      cases e2 : H x with
      | none => exact absurd e2 h2
      | some u => exact ⟨h1, by rw [s x u e2]; exact Option.some_ne_none _, noT_same e2 (s x u e2) h3⟩
  · refine (r.sl k sl hk).mono (fun _ _ h => h) (fun x u mx hu => s x u hu) fun x u mx _ => ?_
    show (if x = d ∨ x = l then some 1 else w x) = _
    rw [if_neg (wn x _ mx)]
    exact mx
  · cases j with
    | succ j => simp at hv
    | zero =>
      cases hv
      cases hq
      exact ⟨d, l, rfl, if_pos (.inl rfl), if_pos (.inr rfl), dl⟩
end
/-! ### what a draw does, by value -/
def psp_draw : PSp := fun as Q _ => ∃ n : Int, as = [.ow true .deal, .im (.int n)] ∧ 0 < n ∧ n < 2 ^ 200 ∧ ∀ k : Nat, (k : Int) < n → Q (.im (.int k)) as
theorem two_of {vs : List V} {as : List Sl} {a b : Sl} (hl : (vs.map some).length = as.length) (ha : as = [a, b]) : ∃ x y, vs = [x, y] := by
  subst ha
  match vs, hl with
  | [x, y], _ => exact ⟨x, y, rfl⟩
theorem conv_draw {K : PySem.W.Frag} {T : List NdefX.NTab} (vs : List V) (H : Hp) (Q : VK) (E : XK) (h : LSp K T psp_draw vs H Q E) : sp_draw vs H Q E := by
  obtain ⟨G, w, as, Qp, Ep, rep, _, ⟨n, rfl, h0, h1, hq⟩, k, _⟩ := h
  obtain ⟨x, y, rfl⟩ := two_of rep.len rfl
  obtain ⟨v, hv, d, l, rfl, wd, wl, dl⟩ := rep.sl 0 _ rfl
  obtain ⟨u, hu, dq⟩ := rep.sl 1 _ rfl
  cases hv
  cases hu
  cases dq
  refine ⟨d, l, n, rfl, h0, h1, dl, fun j H' j0 j1 but dl' => ?_⟩
  obtain ⟨st, r2⟩ := rep.deal (i := 0) rfl rfl wd wl dl but dl'
  obtain ⟨m, rfl⟩ := Int.eq_ofNat_of_zero_le j0
  exact k _ _ _ _ _ _ (hq m j1) rfl (st.trans .drop) (r2.ret (.int _))
def psp_deal : PSp := fun as Q _ => ∃ (b : Int) (ns : List Int), as = [.ow true (.scr ns), .im (.int b)] ∧ 0 ≤ b ∧ b ≤ 63 ∧ ns.length ≤ 1000 ∧ Q (.ow .deal) as
theorem conv_deal {K : PySem.W.Frag} {T : List NdefX.NTab} (vs : List V) (H : Hp) (Q : VK) (E : XK) (h : LSp K T psp_deal vs H Q E) : sp_deal K vs H Q E := by
  obtain ⟨G, w, as, Qp, Ep, rep, _, ⟨b, ns, rfl, h0, h1, hn, hq⟩, k, _⟩ := h
  obtain ⟨x, y, rfl⟩ := two_of rep.len rfl
  obtain ⟨v, hv, a, rfl, hs⟩ := rep.sl 0 _ rfl
  obtain ⟨u, hu, dq⟩ := rep.sl 1 _ rfl
  cases hv
  cases hu
  cases dq
  have sq : SqL K H a (ns.map V.int) := by
    rcases hs with ⟨o, _, ho⟩ | hs
    · exact .inl (.inr ⟨o, ho⟩)
    · exact hs H
  refine ⟨a, b, ns, rfl, sq, h0, h1, hn, fun d l H' s hd hl dl => ?_⟩
  obtain ⟨w', st, r2⟩ := rep.newDeal s hd hl dl
  exact k _ _ _ _ _ _ hq rfl st r2
/-- alike: of one data it is told True -/
def psp_alike : PSp := fun as Q _ => ∃ d, as = [.im d, .im d] ∧ noL d = true ∧ wt d ≤ 1000000 ∧ Q (.im (.bool true)) as
theorem conv_alike {K : PySem.W.Frag} {T : List NdefX.NTab} (vs : List V) (H : Hp) (Q : VK) (E : XK) (h : LSp K T psp_alike vs H Q E) : sp_alike K vs H Q E := by
  obtain ⟨G, w, as, Qp, Ep, rep, _, ⟨d, rfl, h0, h1, hq⟩, k, _⟩ := h
  obtain ⟨x, y, rfl⟩ := two_of rep.len rfl
  obtain ⟨v, hv, dv⟩ := rep.sl 0 _ rfl
  obtain ⟨u, hu, du⟩ := rep.sl 1 _ rfl
  cases hv
  cases hu
  refine ⟨_, _, d, rfl, dq_dp rep.sub _ _ dv, dq_dp rep.sub _ _ du, h0, h1, fun H' s => ?_⟩
  obtain ⟨st, r2⟩ := rep.pub (x := none) (fun a o _ h => s a o h) (.same s) nofun
  exact k _ _ _ _ _ _ hq rfl (st.trans .drop) (r2.ret (.bl true))
/-! ### loops over range(n) -/
theorem rgD_get {a b : Int} {i : Nat} {d : PyData} (h : (rgD a b)[i]? = some d) : d = .int (a + (i : Nat)) ∧ i < (b - a).toNat := by
  unfold rgD at h
  rw [List.getElem?_map] at h
  obtain ⟨j, h1, h2⟩ := Option.map_eq_some_iff.mp h
  obtain ⟨h3, h4⟩ := List.getElem?_eq_some_iff.mp h1
  rw [List.getElem_range] at h4
  rw [List.length_range] at h3
  subst h4
  exact ⟨h2.symm, h3⟩
theorem rgD_len (a b : Int) : (rgD a b).length = (b - a).toNat := by unfold rgD; rw [List.length_map, List.length_range]
/-- for i in range(a, n): I at each turn -/
theorem for_rg2 {step : PyData → PSx} {ts : List Nat} {E : PEn} {n : Int} (a m : Nat) {δ : List Sl} (hn : n = m) (ham : a ≤ m) (I : Nat → List Sl → Prop) (h0 : I a δ) (hs : ∀ (i : Nat) δ, a ≤ i → i < m → I i δ → step (.int (i : Int)) ⟨fun δ' => I (i + 1) (wipeT δ' ts), E.rt, fun δ' => E.nx (wipeT δ' ts), fun δ' => I (i + 1) (wipeT δ' ts)⟩ δ) (he : ∀ δ, I m δ → E.nx δ) : loopI step ts E (rgD a n) δ := by
  subst hn
  refine ⟨fun i δ => I (a + i) δ, h0, fun i d δ hd hi => ?_, fun δ h => he δ ?_⟩
  · obtain ⟨rfl, hl⟩ := rgD_get hd
    have := hs (a + i) δ (by omega) (by omega) hi
    rw [Int.natCast_add] at this
    exact this
  · rw [rgD_len] at h
    have e : a + ((m : Int) - a).toNat = m := by omega
    rw [e] at h
    exact h
theorem for_rg {step : PyData → PSx} {ts : List Nat} {E : PEn} {n : Int} (m : Nat) {δ : List Sl} (hn : n = m) (I : Nat → List Sl → Prop) (h0 : I 0 δ) (hs : ∀ (i : Nat) δ, i < m → I i δ → step (.int (i : Int)) ⟨fun δ' => I (i + 1) (wipeT δ' ts), E.rt, fun δ' => E.nx (wipeT δ' ts), fun δ' => I (i + 1) (wipeT δ' ts)⟩ δ) (he : ∀ δ, I m δ → E.nx δ) : loopI step ts E (rgD 0 n) δ :=
  for_rg2 0 m hn (Nat.zero_le m) I h0 (fun i δ _ => hs i δ) he
theorem atI_of {α : Type} {xs : List α} {i : Int} {j : Nat} {v : α} (hi : i = (j : Int)) (h : xs[j]? = some v) : atI xs i = some v := by rw [hi]; exact atI_nat h
end Pv
namespace Pv
open PySem PySem.Spec L2 Wf
variable {B : Bas}
/-! ### plain tuples: tuple(list) whose object is known; .index of them -/
theorem dqAll_ints2 {K : PySem.W.Frag} {G : Hp} : ∀ {ns : List Int} {us : List V}, DqAll K G us (ns.map PyData.int) → us = ns.map V.int
  | [], _, h => by cases h; rfl
  | n :: ns, _, h => by
    cases h with
    | cons h1 h2 =>
      cases h1
      rw [dqAll_ints2 h2]
      rfl
/-! ### list.index of numbers -/
def mIndex : List PyData → List PyData → (PyData → List PyData → Prop) → Prop := fun ds as k => ∃ (ns : List Int) (n : Int), ds = ns.map .int ∧ as = [.int n] ∧ n ∈ ns ∧ k (.int (ns.idxOf n : Nat)) ds
theorem idxOf_le : ∀ {ns : List Int} {m : Nat} {x : Int}, ns[m]? = some x → ns.idxOf x ≤ m
  | [], m, x, h => by simp at h
  | n :: ns, m, x, h => by
    rw [List.idxOf_cons]
    by_cases e : n = x
    · subst e; simp
    · match m, h with
      | 0, h => simp at h; exact absurd h e
      | m + 1, h =>
        have := idxOf_le (ns := ns) (m := m) (x := x) (by simpa using h)
        rw [beq_false_of_ne e]
        simp only [cond_false]
        omega
theorem mv_index {K : PySem.W.Frag} : MtV K mIndex (rIndex K) := by
  intro G H a us vs ds as Qp Q ha hu hv q k
  obtain ⟨ns, n, rfl, rfl, hn, q⟩ := q
  cases dqAll_ints2 hu
  obtain ⟨v, rfl, hd⟩ := vals1 hv
  cases hd
  have hlt : ns.idxOf n < ns.length := List.idxOf_lt_length_iff.mpr hn
  have hget : ns[ns.idxOf n]? = some n := by rw [List.getElem?_eq_getElem hlt, List.getElem_idxOf]
  have := k _ _ _ _ q (.int _) hu
  have es : upd H a (.lst (ns.map V.int)) = H := by
    funext b
    unfold upd
    split
    · rename_i z; rw [z, ha]
    · rfl
  rw [es] at this
  refine ⟨a, ns.map V.int, _, ns.idxOf n, .int n, rfl, rfl, SqL.of ha, rfl, ?_, by rw [List.getElem?_map, hget]; rfl, ?_, fun m z hm hz => ?_, this⟩
  · rw [List.all_map]; exact List.all_eq_true.mpr fun _ _ => rfl
  · simp [eqV]
  · rw [List.getElem?_map] at hz
    obtain ⟨x, hx, rfl⟩ := Option.map_eq_some_iff.mp hz
    obtain ⟨h1, h2⟩ := List.getElem?_eq_some_iff.mp hx
    have : x ≠ n := fun z => by
      subst z
      exact absurd (idxOf_le hx) (by omega)
    simp [eqV, this]
end Pv
namespace Pv
open PySem PySem.Spec L2 Wf
/-- whole numbers from 0 on, as data -/
abbrev nD (k : Nat) : PyData := .int (k : Int)
abbrev dN (ns : List Nat) : List PyData := ns.map nD
theorem dN_len (ns : List Nat) : (dN ns).length = ns.length := List.length_map _
theorem dN_get {ns : List Nat} {i k : Nat} (h : ns[i]? = some k) : (dN ns)[i]? = some (nD k) := by rw [dN, List.getElem?_map, h]; rfl
theorem rgD_dN (n : Nat) : rgD 0 (n : Int) = dN (List.range n) := by
  unfold rgD dN
  have : ((n : Int) - 0).toNat = n := by omega
  rw [this]
  refine List.map_congr_left fun i _ => ?_
  show PyData.int (0 + (i : Int)) = .int (i : Int)
  rw [Int.zero_add]
theorem dN_app (a b : List Nat) : dN (a ++ b) = dN a ++ dN b := List.map_append
theorem dN_set (a : List Nat) (i k : Nat) : (dN a).set i (nD k) = dN (a.set i k) := by
  unfold dN
  rw [List.map_set]
theorem shaped_dN (a : List Nat) : SeqAt.shaped (.list (dN a)) = true := by
  have h := lay_map nD 0 a fun k _ => ⟨rfl, Nat.le_refl 0⟩
  have h2 : (PyData.list (dN a)).depth ≤ 1 := Nat.succ_le_succ h.2
  unfold SeqAt.shaped
  rw [show (PyData.list (dN a)).canLay0 = true from h.1]
  simp
  omega
theorem szN {n m : Nat} (h : n ≤ m) (hm : m < sizeLine) : n < sizeLine := Nat.lt_of_le_of_lt h hm
theorem nd1 (i : Nat) : [i].Nodup := by simp
/-! ### _law_mixed -/
theorem ixN_nat {n i : Nat} (h : i < n) : ixN n (i : Int) = some i := by
  unfold ixN
  rw [if_pos (by omega), if_pos (by omega)]
  rfl
/-- for k in a row of numbers -/
theorem for_dN {step : PyData → PSx} {ts : List Nat} {E : PEn} {δ : List Sl} (ws : List Nat) (I : Nat → List Sl → Prop) (h0 : I 0 δ) (hs : ∀ (i k : Nat) δ, ws[i]? = some k → I i δ → step (nD k) ⟨fun δ' => I (i + 1) (wipeT δ' ts), E.rt, fun δ' => E.nx (wipeT δ' ts), fun δ' => I (i + 1) (wipeT δ' ts)⟩ δ) (he : ∀ δ, I ws.length δ → E.nx δ) : loopI step ts E (dN ws) δ := by
  refine ⟨I, h0, fun i d δ hd hi => ?_, fun δ h => he δ (by rw [dN_len] at h; exact h)⟩
  rw [dN, List.getElem?_map] at hd
  obtain ⟨k, hk, rfl⟩ := Option.map_eq_some_iff.mp hd
  exact hs i k δ hk hi
/-! ### _law_order -/
def swp (xs : List Nat) (k : Nat) : List Nat := (xs.set k (xs.getD (k + 1) 0)).set (k + 1) (xs.getD k 0)
theorem swp_len (xs : List Nat) (k : Nat) : (swp xs k).length = xs.length := by simp [swp]
def goW (xs : List Nat) (ws : List Nat) : List Nat := ws.foldl swp xs
theorem getD_of {xs : List Nat} {i : Nat} (h : i < xs.length) : xs[i]? = some (xs.getD i 0) := by
  rw [List.getD_eq_getElem?_getD, List.getElem?_eq_getElem h]
  rfl
end Pv
namespace Pv
open PySem PySem.Spec L2 Wf
/-! ### _law_pairs -/
theorem castN (os : List Nat) : dN os = (os.map fun k : Nat => (k : Int)).map PyData.int := by unfold dN; rw [List.map_map]; rfl
theorem idxN (os : List Nat) (k : Nat) : (os.map fun k : Nat => (k : Int)).idxOf (k : Int) = os.idxOf k := by
  induction os with
  | nil => rfl
  | cons o os ih =>
    rw [List.map_cons, List.idxOf_cons, List.idxOf_cons, ih]
    have : ((o : Int) == (k : Int)) = (o == k) := by
      by_cases e : o = k
      · subst e; simp
      · rw [beq_false_of_ne e, beq_false_of_ne (by omega)]
    rw [this]
end Pv
namespace Pv
open PySem PySem.Spec L2 Wf
/-! ### _law_last -/
theorem noPin1 {δ : List Sl} {v : Nat} (h : ∀ o, δ[v]? ≠ some (.ow true o)) : noPin δ [v] := fun u hu o => by
  rw [List.mem_singleton] at hu
  subst hu
  exact h o
/-! ### _law_word -/
/-- the letter k may be done: the two are unlike, the one behind of the greater kind, or any (free) -/
def letOk (f : Bool) (st : List Nat) (k : Nat) : Prop := k + 1 < st.length ∧ (st.getD (k + 1) 0 < st.getD k 0 ∨ f = true ∧ st.getD k 0 ≠ st.getD (k + 1) 0)
def wordOk (f : Bool) : List Nat → List Nat → Prop
  | _, [] => True
  | st, k :: ws => letOk f st k ∧ wordOk f (swp st k) ws
theorem wordOk_snoc {f : Bool} : ∀ {ws st : List Nat} {k : Nat}, wordOk f st ws → letOk f (goW st ws) k → wordOk f st (ws ++ [k])
  | [], st, k, _, h => ⟨h, trivial⟩
  | w :: ws, st, k, h1, h => ⟨h1.1, wordOk_snoc h1.2 h⟩
theorem wordOk_lt {f : Bool} : ∀ {ws st : List Nat}, wordOk f st ws → ∀ w ∈ ws, w + 1 < st.length
  | [], _, _, w, hw => by cases hw
  | k :: ws, st, h, w, hw => by
    cases hw with
    | head => exact h.1.1
    | tail _ hw => have := wordOk_lt h.2 w hw; rw [swp_len] at this; exact this
end Pv
namespace Pv
open PySem PySem.Spec L2 Wf
/-! ### orders -/
theorem swp_perm {xs : List Nat} {k : Nat} (h : k + 1 < xs.length) : (swp xs k).Perm xs := by
  unfold swp
  have e1 : xs.getD (k + 1) 0 = xs[k + 1] := by rw [List.getD_eq_getElem?_getD, List.getElem?_eq_getElem h]; rfl
  have e2 : xs.getD k 0 = xs[k] := by rw [List.getD_eq_getElem?_getD, List.getElem?_eq_getElem (show k < xs.length by omega)]; rfl
  rw [e1, e2]
  exact List.set_set_perm (by omega) h
theorem mem_of_perm {os : List Nat} {n k : Nat} (h : os.Perm (List.range n)) : k ∈ os ↔ k < n := by rw [h.mem_iff, List.mem_range]
theorem perm_len {os : List Nat} {n : Nat} (h : os.Perm (List.range n)) : os.length = n := by rw [h.length_eq, List.length_range]
/-! ### sizes -/
theorem wt_map {α : Type} (f : α → PyData) (c : Nat) (h : ∀ x, wt (f x) ≤ c) : ∀ l : List α, wtAll (l.map f) ≤ c * l.length
  | [] => by simp [wtAll]
  | x :: l => by
    have := wt_map f c h l
    have h1 := h x
    show wt (f x) + wtAll (l.map f) ≤ c * (l.length + 1)
    rw [Nat.mul_add, Nat.mul_one]
    omega
theorem noL_map {α : Type} (f : α → PyData) (h : ∀ x, noL (f x) = true) : ∀ l : List α, noLAll (l.map f) = true
  | [] => rfl
  | x :: l => by
    show (noL (f x) && noLAll (l.map f)) = true
    rw [h x, noL_map f h l]
    rfl
end Pv
namespace Pv
open PySem PySem.Spec L2 Wf
/-! ### a law, by value: of each script it tells True -/
def psp_law : PSp := fun as Q _ => ∃ ns : List Int, as = [.ow true (.scr ns)] ∧ ns.length ≤ 1000 ∧ Q (.im (.bool true)) [.ow true (.scr ns)]
/-! ### a, b = e, f with names that comprehensions read -/
theorem par_go0 : ∀ (vs : List V) (σ : St) (H : Hp) (Q : St → Hp → Prop), ([] : List Nat).length = vs.length → Q ((([] : List Nat).zip vs).foldl (fun σ p => σ.set p.1 (some p.2)) σ) H → gNil vs σ H Q
  | [], _, _, _, _, q => ⟨rfl, q⟩
theorem par_goS {i : Nat} {is : List Nat} {gs : TGs} (h : ∀ (vs : List V) (σ : St) (H : Hp) (Q : St → Hp → Prop), is.length = vs.length → Q ((is.zip vs).foldl (fun σ p => σ.set p.1 (some p.2)) σ) H → gs vs σ H Q) :
    ∀ (vs : List V) (σ : St) (H : Hp) (Q : St → Hp → Prop), (i :: is).length = vs.length → Q (((i :: is).zip vs).foldl (fun σ p => σ.set p.1 (some p.2)) σ) H → gCons (gName i) gs vs σ H Q
  | v :: vs, σ, H, Q, hl, q => ⟨v, vs, rfl, h vs _ H Q (by simpa using hl) q⟩
end Pv
namespace Pv
open PySem PySem.Spec L2 Wf
/-! ### what the program's three defs are to do -/
theorem noL_dN (a : List Nat) : noL (.tuple (dN a)) = true := noL_map nD (fun _ => rfl) a
end Pv
namespace Pv
open PySem PySem.Spec L2 Wf
/-! ### what is caught: errors of one class C, by the name of C0; they are none of os -/
end Pv
namespace Pv
open PySem PySem.Spec L2 Wf
variable {B : Bas}
/-! ### abs, all, any, sorted -/
theorem dqAll_bools {K : PySem.W.Frag} {G : Hp} : ∀ {bs : List Bool} {us : List V}, DqAll K G us (bs.map PyData.bool) → us = bs.map V.bl
  | [], _, h => by cases h; rfl
  | b :: bs, _, h => by
    cases h with
    | cons h1 h2 =>
      cases h1
      rw [dqAll_bools h2]
      rfl
def fAll : PyData → (PyData → Prop) → Prop := fun d k => ∃ bs : List Bool, d = .list (bs.map .bool) ∧ k (.bool (bs.all id))
theorem lc_all {K : PySem.W.Frag} : LC K (q1 fAll) (rAll K) := by
  refine lc_im1 (fun G H v d Q s hv q => ?_) (fun d k k' hk q => ?_)
  · obtain ⟨bs, rfl, q⟩ := q
    obtain ⟨a, us, rfl, ha, hds⟩ := hv.seqL s
    cases dqAll_bools hds
    exact ⟨a, bs, rfl, SqL.of ha, q _ _ (.old (.bl _))⟩
  · obtain ⟨bs, rfl, q⟩ := q
    exact ⟨bs, rfl, hk _ q⟩
/-- sorted(a list of numbers) -/
def fSorted : PyData → (List PyData → Prop) → Prop := fun d k => ∃ ns : List Int, d = .list (ns.map .int) ∧ ∀ ns' : List Int, ns'.Perm ns → ns'.Pairwise (· ≤ ·) → k (ns'.map .int)
theorem dqAll_ofInts {K : PySem.W.Frag} {G : Hp} : ∀ ns : List Int, DqAll K G (ns.map V.int) (ns.map PyData.int)
  | [] => .nil
  | n :: ns => .cons (.int n) (dqAll_ofInts ns)
theorem lc_sorted {K : PySem.W.Frag} : LC K (q1L fSorted) (rSortedI K) := by
  refine lc_own1 (fun G H v d Q s hv q => ?_) (fun d k k' hk q => ?_)
  · obtain ⟨ns, rfl, q⟩ := q
    obtain ⟨a, us, rfl, ha, hds⟩ := hv.seqL s
    cases dqAll_ints2 hds
    exact ⟨a, ns, rfl, SqL.of ha, fun ns' p h1 h2 hp => q ns' h1 h2 _ p (dqAll_ofInts ns') hp⟩
  · obtain ⟨ns, rfl, q⟩ := q
    exact ⟨ns, rfl, fun ns' h1 h2 => hk _ (q ns' h1 h2)⟩
end Pv
/-! Good books are let by. -/
namespace Wf
open PySem PySem.Spec L2
end Wf
/-! Books by value; rows; is_whole, table_number, pair_at. -/
namespace Pv
open PySem PySem.Spec L2 Wf
variable {B : Bas}
/-! ### books -/
theorem four_of {vs : List V} {as : List Sl} {a b c d : Sl} (hl : (vs.map some).length = as.length) (ha : as = [a, b, c, d]) : ∃ x y z u, vs = [x, y, z, u] := by
  subst ha
  match vs, hl with
  | [x, y, z, u], _ => exact ⟨x, y, z, u, rfl⟩
def psp_book : PSp := fun as Q _ => ∃ m s f : Int, as = [.ow true .deal, .im (.int m), .im (.int s), .im (.int f)] ∧ 1 ≤ m ∧ m ≤ 5 ∧ 1 ≤ s ∧ s ≤ 6 ∧
  ∀ (ps : List Int) (ts : List Tab), PacesOk m ps → BookT m s f ts → BookOk m ⟨ps, s, ts⟩ → Q (.im (dB ⟨ps, s, ts⟩)) as
theorem conv_book {K : PySem.W.Frag} {T : List NdefX.NTab} (vs : List V) (H : Hp) (Q : VK) (E : XK) (h : LSp K T psp_book vs H Q E) : sp_book K vs H Q E := by
  obtain ⟨G, w, as, Qp, Ep, rep, _, ⟨m, s, f, rfl, m1, m5, s1, s6, hq⟩, k, _⟩ := h
  obtain ⟨x, y, z, u, rfl⟩ := four_of rep.len rfl
  obtain ⟨v, hv, d, l, rfl, wd, wl, dl⟩ := rep.sl 0 _ rfl
  obtain ⟨_, hu, dq⟩ := rep.sl 1 _ rfl
  cases hv
  cases hu
  cases dq
  obtain ⟨_, hu, dq⟩ := rep.sl 2 _ rfl
  cases hu
  cases dq
  obtain ⟨_, hu, dq⟩ := rep.sl 3 _ rfl
  cases hu
  cases dq
  refine ⟨d, l, m, s, f, rfl, m1, m5, s1, s6, dl, fun v ps ts H' but dl' hv pok bt => ?_⟩
  obtain ⟨st, r2⟩ := rep.deal (i := 0) rfl rfl wd wl dl but dl'
  obtain ⟨st3, r3⟩ := r2.pub (x := none) (fun _ _ _ h => h) .refl nofun
  have dq : Dq K (pubT G H' none) v (dB ⟨ps, s, ts⟩) := dp_pub (x := none) r2.sub (fun _ _ h => by cases h) _ _ (noL_dB _) hv
  exact k _ _ _ _ _ _ (hq ps ts pok bt ⟨pok, m1, m5, s1, s6, bt.ok⟩) rfl ((st.trans st3).trans .drop) (r3.ret dq)
end Pv
namespace Pv
open PySem PySem.Spec L2 Wf
/-! ### is_whole, is_letter -/
def isNumD : PyData → Bool
  | .int _ => true
  | _ => false
def p_is_number : PSx :=
    pRet (pAndV (pIsi "int" (pVar 0)) (pNotV (pIsi "bool" (pVar 0))))
def psp_is_number : PSp := fun as Q _ => ∃ d : PyData, as = [.im d] ∧ Q (.im (.bool (isNumD d))) [.un]
theorem hp_is_number (as : List Sl) (Qp : QE) (Ep : EX) (h : psp_is_number as Qp Ep) : p_is_number (endsP as Qp) (as ++ List.replicate 0 .un) := by
  obtain ⟨d, rfl, q⟩ := h
  cases d with
  | int i => exact ⟨_, rfl, _, rfl, _, rfl, _, rfl, _, _, rfl, q⟩
  | none => exact ⟨_, rfl, _, rfl, _, _, rfl, q⟩
  | bool b => exact ⟨_, rfl, _, rfl, _, rfl, _, rfl, _, _, rfl, q⟩
  | str b => exact ⟨_, rfl, _, rfl, _, _, rfl, q⟩
  | tuple b => exact ⟨_, rfl, _, rfl, _, _, rfl, q⟩
  | list b => exact ⟨_, rfl, _, rfl, _, _, rfl, q⟩
  | dict b => exact ⟨_, rfl, _, rfl, _, _, rfl, q⟩
def p_is_whole : PSx :=
    pRet (pAndV (pCall psp_is_number (pCons (pFz (pVar 0)) (pNil)) noX) (pChain qLeD qLeD (pVar 1) (pVar 0) (pVar 2)))
def psp_is_whole : PSp := fun as Q _ => ∃ (d : PyData) (lo hi : Int), as = [.im d, .im (.int lo), .im (.int hi)] ∧ Q (.im (.bool (isWh lo hi d))) [.un, .un, .un]
theorem hp_is_whole (as : List Sl) (Qp : QE) (Ep : EX) (h : psp_is_whole as Qp Ep) : p_is_whole (endsP as Qp) (as ++ List.replicate 0 .un) := by
  obtain ⟨d, lo, hi, rfl, q⟩ := h
  cases d with
  | int i =>
    refine ⟨_, _, rfl, _, rfl, List.nodup_nil, _, rfl, _, rfl, ?_⟩
    refine ⟨_, rfl, trivial, _, rfl, ?_⟩
    show if decide (lo ≤ i) = true then _ else _
    by_cases c : lo ≤ i
    · rw [if_pos (decide_eq_true c)]
      refine ⟨trivial, _, _, rfl, ?_⟩
      rw [show isWh lo hi (.int i) = decide (i ≤ hi) by simp [isWh, c]] at q
      exact q
    · rw [if_neg (by simp [c])]
      refine ⟨_, _, rfl, ?_⟩
      rw [show isWh lo hi (.int i) = false by simp [isWh, c]] at q
      exact q
  | none => exact ⟨_, _, rfl, _, rfl, List.nodup_nil, _, rfl, _, rfl, _, _, rfl, q⟩
  | bool b => exact ⟨_, _, rfl, _, rfl, List.nodup_nil, _, rfl, _, rfl, _, _, rfl, q⟩
  | str b => exact ⟨_, _, rfl, _, rfl, List.nodup_nil, _, rfl, _, rfl, _, _, rfl, q⟩
  | tuple b => exact ⟨_, _, rfl, _, rfl, List.nodup_nil, _, rfl, _, rfl, _, _, rfl, q⟩
  | list b => exact ⟨_, _, rfl, _, rfl, List.nodup_nil, _, rfl, _, rfl, _, _, rfl, q⟩
  | dict b => exact ⟨_, _, rfl, _, rfl, List.nodup_nil, _, rfl, _, rfl, _, _, rfl, q⟩
def p_is_letter : PSx :=
    pRet (pCall psp_is_whole (pCons (pFz (pVar 0)) (pCons (pFz (pK (.int 0))) (pCons (pFz (pSub (pVar 1) (pK (.int 2)))) (pNil)))) noX)
def psp_is_letter : PSp := fun as Q _ => ∃ k n : Int, as = [.im (.int k), .im (.int n)] ∧ Q (.im (.bool (decide (0 ≤ k) && decide (k ≤ n - 2)))) [.un, .un]
theorem hp_is_letter (as : List Sl) (Qp : QE) (Ep : EX) (h : psp_is_letter as Qp Ep) : p_is_letter (endsP as Qp) (as ++ List.replicate 0 .un) := by
  obtain ⟨k, n, rfl, q⟩ := h
  exact ⟨_, _, rfl, _, _, rfl, trivial, _, _, rfl, _, rfl, List.nodup_nil, _, _, _, rfl, _, _, rfl, q⟩
/-! ### table_number, pair_at -/
def p_table_number : PSx :=
    pRet (pAdd (pFdiv (pMul (pVar 0) (pSub (pVar 0) (pK (.int 1)))) (pK (.int 2))) (pVar 1))
def psp_table_number : PSp := fun as Q _ => ∃ u v : Int, as = [.im (.int u), .im (.int v)] ∧ 0 ≤ u ∧ u ≤ 1000 ∧ Q (.im (.int (tnum u v))) [.un, .un]
theorem cdiv2 (a : Int) : CDivW a 2 := wide_div (b := 2) (by decide) (by decide) (by decide) (by decide)
theorem hp_table_number (as : List Sl) (Qp : QE) (Ep : EX) (h : psp_table_number as Qp Ep) : p_table_number (endsP as Qp) (as ++ List.replicate 0 .un) := by
  obtain ⟨u, v, rfl, u0, u1, q⟩ := h
  exact ⟨trivial, .inl (.inl ⟨by omega, by omega⟩), cdiv2 _, _, _, rfl, q⟩
/-- the cell of a table, by value -/
theorem ix_tabD {B : Book} {m u v a b : Int} (ok : BookOk m B) (pl : Pl m B.s u v a b) : atI (B.ts.map dT) (tnum u v) = some (dT (B.tab u v)) :=
  Wf.atI_map (tnum_lt ok.m5 pl.u0 pl.u1 pl.v0 pl.v1).1 (Book.row ok pl).1
theorem ix_cellD {B : Book} {m u v a b : Int} (ok : BookOk m B) (pl : Pl m B.s u v a b) : atI ((B.tab u v).map dP) (a * B.s + b) = some (dP (B.at u v a b)) :=
  Wf.atI_map (ix_lt pl.a0 pl.a1 pl.b0 pl.b1).1 (Book.cell ok pl).1
def p_pair_at : PSx :=
    pSeq (pPar [5, 6] (pCons (pIx (pVar 0) (pK (.int 1))) (pCons (pIx (pVar 0) (pK (.int 2))) (pNil))))
    (pRet (pIx (pIx (pVar 6) (pCall psp_table_number (pCons (pFz (pVar 1)) (pCons (pFz (pVar 2)) (pNil))) noX)) (pAdd (pMul (pVar 3) (pVar 5)) (pVar 4))))
def psp_pair_at : PSp := fun as Q _ => ∃ (B : Book) (m u v a b : Int), as = [.im (dB B), .im (.int u), .im (.int v), .im (.int a), .im (.int b)] ∧ BookOk m B ∧ Pl m B.s u v a b ∧ Q (.im (dP (B.at u v a b))) [.un, .un, .un, .un, .un]
theorem hp_pair_at (as : List Sl) (Qp : QE) (Ep : EX) (h : psp_pair_at as Qp Ep) : p_pair_at (endsP as Qp) (as ++ List.replicate 2 .un) := by
  obtain ⟨B, m, u, v, a, b, rfl, ok, pl, q⟩ := h
  have := pl.u0
  have := pl.u1
  have := ok.m5
  have := pl.a0
  have := pl.a1
  have := ok.s6
  refine ⟨_, rfl, _, rfl, _, _, rfl, ?_⟩
  refine ⟨_, _, rfl, _, _, rfl, _, rfl, List.nodup_nil, u, v, rfl, by omega, by omega, ?_⟩
  refine ⟨_, ix_tabD ok pl, .inl (.inl ⟨by omega, by omega⟩), _, ix_cellD ok pl, _, _, rfl, q⟩
def p_ltpair : PSx :=
    pRet (pIx (pIx (pIx (pVar 0) (pK (.int 2))) (pAdd (pFdiv (pMul (pVar 1) (pSub (pVar 1) (pK (.int 1)))) (pK (.int 2))) (pVar 2))) (pAdd (pMul (pVar 3) (pIx (pVar 0) (pK (.int 1)))) (pVar 4)))
def psp_ltpair : PSp := psp_pair_at
theorem hp_ltpair (as : List Sl) (Qp : QE) (Ep : EX) (h : psp_ltpair as Qp Ep) : p_ltpair (endsP as Qp) (as ++ List.replicate 0 .un) := by
  obtain ⟨B, m, u, v, a, b, rfl, ok, pl, q⟩ := h
  have := pl.u0
  have := pl.u1
  have := ok.m5
  have := pl.a0
  have := pl.a1
  have := ok.s6
  refine ⟨_, rfl, trivial, .inl (.inl ⟨by omega, by omega⟩), cdiv2 _, ?_⟩
  refine ⟨_, ix_tabD ok pl, _, rfl, .inl (.inl ⟨by omega, by omega⟩), _, ix_cellD ok pl, _, _, rfl, q⟩
/-! ### rows -/
abbrev Wk := Int × Int
abbrev dR (r : List Wk) : PyData := .tuple (r.map dP)
def RowOk (m s : Int) (r : List Wk) : Prop := ∀ p ∈ r, 0 ≤ p.1 ∧ p.1 < m ∧ 0 ≤ p.2 ∧ p.2 < s
def wk (r : List Wk) (k : Nat) : Wk := r.getD k (0, 0)
def canP (r : List Wk) (k : Int) : Bool := (decide (0 ≤ k) && decide (k ≤ (r.length : Int) - 2)) && decide ((wk r (k.toNat + 1)).1 < (wk r k.toNat).1)
def passR (B : Book) (r : List Wk) (k : Nat) : List Wk :=
  (r.set k ((wk r (k + 1)).1, (B.at (wk r k).1 (wk r (k + 1)).1 (wk r k).2 (wk r (k + 1)).2).1)).set (k + 1) ((wk r k).1, (B.at (wk r k).1 (wk r (k + 1)).1 (wk r k).2 (wk r (k + 1)).2).2)
theorem wk_get {r : List Wk} {k : Nat} (h : k < r.length) : r[k]? = some (wk r k) := by
  unfold wk
  simp [List.getD, List.getElem?_eq_getElem h]
theorem wk_ok {m s : Int} {r : List Wk} {k : Nat} (ok : RowOk m s r) (h : k < r.length) : 0 ≤ (wk r k).1 ∧ (wk r k).1 < m ∧ 0 ≤ (wk r k).2 ∧ (wk r k).2 < s := ok _ (List.mem_of_getElem? (wk_get h))
theorem passR_len (B : Book) (r : List Wk) (k : Nat) : (passR B r k).length = r.length := by unfold passR; rw [List.length_set, List.length_set]
theorem pl_of {B : Book} {m : Int} {r : List Wk} {k : Nat} (ok : RowOk m B.s r) (h : k + 1 < r.length) (c : (wk r (k + 1)).1 < (wk r k).1) : Pl m B.s (wk r k).1 (wk r (k + 1)).1 (wk r k).2 (wk r (k + 1)).2 := by
  obtain ⟨a1, a2, a3, a4⟩ := wk_ok ok (show k < r.length by omega)
  obtain ⟨b1, b2, b3, b4⟩ := wk_ok ok h
  exact ⟨by omega, a2, b1, c, a3, a4, b3, b4⟩
theorem passR_ok {B : Book} {m : Int} {r : List Wk} {k : Nat} (bk : BookOk m B) (ok : RowOk m B.s r) (h : k + 1 < r.length) (c : (wk r (k + 1)).1 < (wk r k).1) : RowOk m B.s (passR B r k) := by
  intro p hp
  have ii := (Book.cell bk (pl_of ok h c)).2
  obtain ⟨a1, a2, a3, a4⟩ := wk_ok ok (show k < r.length by omega)
  obtain ⟨b1, b2, b3, b4⟩ := wk_ok ok h
  unfold passR at hp
  rcases List.mem_or_eq_of_mem_set hp with hp | rfl
  · rcases List.mem_or_eq_of_mem_set hp with hp | rfl
    · exact ok p hp
    · exact ⟨b1, b2, ii.1, ii.2.1⟩
  · exact ⟨a1, a2, ii.2.2.1, ii.2.2.2⟩
/-- led as far as can be: the number of the letter that can't be, or the row -/
def ledG (B : Book) : Nat → List Wk → List Int → Nat ⊕ List Wk
  | _, r, [] => .inr r
  | n, r, k :: ks => if canP r k = true then ledG B (n + 1) (passR B r k.toNat) ks else .inl n
def dK (ks : List Int) : PyData := .tuple (ks.map .int)
def ledQ (C : Addr) (Q : QE) (Ep : EX) : Nat ⊕ List Wk → Prop
  | .inl n => Ep C [("at", nD n)]
  | .inr r => Q (.im (dR r)) [.un, .un, .un]
def psp_led_by (cNoPassing : Addr) : PSp := fun as Q Ep => ∃ (B : Book) (m : Int) (r : List Wk) (ks : List Int), as = [.im (dB B), .im (dR r), .im (dK ks)] ∧ BookOk m B ∧ RowOk m B.s r ∧ r.length ≤ 1000 ∧ ks.length ≤ 1000 ∧ ledQ cNoPassing Q Ep (ledG B 0 r ks)
def pb_led_by_1 (cNoPassing : Addr) (Ep : EX) : PSx :=
    pSeq (pIf (pNot (pT (pCall psp_is_letter (pCons (pFz (pVar 5)) (pCons (pFz (pC (q1 fLen) (pCons (pVar 3) (pNil)))) (pNil))) noX))) (pRaise cNoPassing ["at"] (pCons (pFz (pVar 4)) (pNil)) Ep) (pNext))
    (pSeq (pAsg (pTup (pCons (pIx (pVar 3) (pVar 5)) (pCons (pIx (pVar 3) (pAdd (pVar 5) (pK (.int 1)))) (pNil)))) (gT 2 (gsC (gT 2 (gsC (gN 8) (gsC (gN 9) (gsN)))) (gsC (gT 2 (gsC (gN 10) (gsC (gN 11) (gsN)))) (gsN)))))
    (pSeq (pIf (pT (pLe (pVar 8) (pVar 10))) (pRaise cNoPassing ["at"] (pCons (pFz (pVar 4)) (pNil)) Ep) (pNext))
    (pSeq (pAsg (pCall psp_pair_at (pCons (pFz (pVar 0)) (pCons (pFz (pVar 8)) (pCons (pFz (pVar 10)) (pCons (pFz (pVar 9)) (pCons (pFz (pVar 11)) (pNil)))))) noX) (gT 2 (gsC (gN 6) (gsC (gN 7) (gsN)))))
    (pAsg (pTup (pCons (pTup (pCons (pVar 10) (pCons (pVar 6) (pNil)))) (pCons (pTup (pCons (pVar 8) (pCons (pVar 7) (pNil)))) (pNil)))) (gT 2 (gsC (gSx (pVar 3) (pVar 5)) (gsC (gSx (pVar 3) (pAdd (pVar 5) (pK (.int 1)))) (gsN))))))))
def p_led_by (cNoPassing : Addr) (Ep : EX) : PSx :=
    pSeq (pSet 3 (pC (q1L fListOf) (pCons (pVar 1) (pNil))))
    (pSeq (pFor [4, 5, 6, 7, 8, 9, 10, 11] (iEn (pCons (pVar 2) (pNil))) (gT 2 (gsC (gN 4) (gsC (gN 5) (gsN)))) (pb_led_by_1 cNoPassing Ep))
    (pRet (pC (q1 fTupleOf) (pCons (pVar 3) (pNil)))))
abbrev stLed (B : Book) (r : List Wk) (ks : List Int) (r' : List Wk) (s4 s5 s6 s7 s8 s9 s10 s11 : Sl) : List Sl := [.im (dB B), .im (dR r), .im (dK ks), .ow false (.lst (r'.map dP)), s4, s5, s6, s7, s8, s9, s10, s11]
theorem atW {r : List Wk} {k : Int} {j : Nat} (h : k = (j : Int)) (hj : j < r.length) : atI (r.map dP) k = some (dP (wk r j)) := by
  subst h
  exact atI_nat (by rw [List.getElem?_map, wk_get hj]; rfl)
theorem ixNn {n j : Nat} {i : Int} (h : i = (j : Int)) (hj : j < n) : ixN n i = some j := by subst h; exact ixN_nat hj
theorem setW (r : List Wk) (k : Nat) (p : Wk) : (r.map dP).set k (dP p) = (r.set k p).map dP := by rw [List.map_set]
theorem hp_led_turn {cNoPassing : Addr} {Ep : EX} {E : PEn} {B : Book} {m : Int} {r r' : List Wk} {ks : List Int} {n : Nat} {k : Int} (bk : BookOk m B) (ok : RowOk m B.s r') (l3 : r'.length ≤ 1000)
    (hx : canP r' k = false → Ep cNoPassing [("at", nD n)]) (hy : canP r' k = true → E.nx (stLed B r ks (passR B r' k.toNat) (.im (nD n)) (.im (.int k)) (.im (.int (B.at (wk r' k.toNat).1 (wk r' (k.toNat + 1)).1 (wk r' k.toNat).2 (wk r' (k.toNat + 1)).2).1)) (.im (.int (B.at (wk r' k.toNat).1 (wk r' (k.toNat + 1)).1 (wk r' k.toNat).2 (wk r' (k.toNat + 1)).2).2)) (.im (.int (wk r' k.toNat).1)) (.im (.int (wk r' k.toNat).2)) (.im (.int (wk r' (k.toNat + 1)).1)) (.im (.int (wk r' (k.toNat + 1)).2)))) :
    pb_led_by_1 cNoPassing Ep E (stLed B r ks r' (.im (nD n)) (.im (.int k)) .un .un .un .un .un .un) := by
  refine ⟨_, _, rfl, _, _, rfl, _, rfl, List.nodup_nil, k, ((r'.map dP).length : Int), rfl, _, rfl, ?_⟩
  rw [List.length_map]
  show if (!(decide (0 ≤ k) && decide (k ≤ (r'.length : Int) - 2))) = true then _ else _
  by_cases c : (decide (0 ≤ k) && decide (k ≤ (r'.length : Int) - 2)) = true
  · rw [c]
    simp only [Bool.and_eq_true, decide_eq_true_eq] at c
    obtain ⟨j, rfl⟩ := Int.eq_ofNat_of_zero_le c.1
    have ej : ((j : Int)).toNat = j := by simp
    rw [ej] at hy
    have hj : j + 1 < r'.length := by omega
    refine ⟨_, atW rfl (show j < r'.length by omega), _, atW (j := j + 1) (by omega) hj, _, _, rfl, rfl, rfl, rfl, rfl, rfl, rfl, ?_⟩
    refine ⟨trivial, _, rfl, ?_⟩
    show if decide ((wk r' j).1 ≤ (wk r' (j + 1)).1) = true then _ else _
    by_cases c2 : (wk r' j).1 ≤ (wk r' (j + 1)).1
    · rw [if_pos (decide_eq_true c2)]
      refine ⟨_, _, rfl, _, _, rfl, rfl, hx ?_⟩
      unfold canP
      rw [ej]
      simp
      omega
    · rw [if_neg (by simp [c2])]
      have c3 : (wk r' (j + 1)).1 < (wk r' j).1 := by omega
      have cc : canP r' (j : Int) = true := by
        unfold canP
        rw [ej]
        simp
        omega
      refine ⟨_, _, rfl, _, _, rfl, _, _, rfl, _, _, rfl, _, _, rfl, _, rfl, List.nodup_nil, B, m, _, _, _, _, rfl, bk, pl_of ok hj c3, ?_⟩
      refine ⟨_, _, rfl, rfl, rfl, ?_⟩
      refine ⟨_, _, rfl, rfl, ?_⟩
      refine ⟨_, _, _, _, j, rfl, rfl, rfl, ixNn rfl (by rw [List.length_map]; omega), ?_⟩
      refine ⟨_, _, _, _, j + 1, rfl, rfl, rfl, ixNn (by omega) (by rw [List.length_set, List.length_map]; omega), rfl, ?_⟩
      have := hy cc
      have e : ((r'.map dP).set j (.tuple [.int (wk r' (j + 1)).1, .int (B.at (wk r' j).1 (wk r' (j + 1)).1 (wk r' j).2 (wk r' (j + 1)).2).1])).set (j + 1) (.tuple [.int (wk r' j).1, .int (B.at (wk r' j).1 (wk r' (j + 1)).1 (wk r' j).2 (wk r' (j + 1)).2).2]) = (passR B r' j).map dP := by
        unfold passR
        rw [← setW, ← setW]
        rfl
      show E.nx (_ :: _ :: _ :: Sl.ow false (.lst (((r'.map dP).set j (.tuple [.int (wk r' (j + 1)).1, .int (B.at (wk r' j).1 (wk r' (j + 1)).1 (wk r' j).2 (wk r' (j + 1)).2).1])).set (j + 1) (.tuple [.int (wk r' j).1, .int (B.at (wk r' j).1 (wk r' (j + 1)).1 (wk r' j).2 (wk r' (j + 1)).2).2]))) :: _)
      rw [e]
      exact this
  · have c' : (decide (0 ≤ k) && decide (k ≤ (r'.length : Int) - 2)) = false := by simpa using c
    rw [c']
    refine ⟨_, _, rfl, _, _, rfl, rfl, hx ?_⟩
    unfold canP
    rw [c']
    rfl
theorem hp_led_by (cNoPassing : Addr) (as : List Sl) (Qp : QE) (Ep : EX) (h : psp_led_by cNoPassing as Qp Ep) : p_led_by cNoPassing Ep (endsP as Qp) (as ++ List.replicate 9 .un) := by
  obtain ⟨B, m, r, ks, rfl, bk, ok, l1, l2, q⟩ := h
  refine ⟨_, _, rfl, ?_⟩
  refine ⟨_, _, _, rfl, rfl, ?_⟩
  refine ⟨fun i δ => ∃ r', RowOk m B.s r' ∧ r'.length = r.length ∧ ledG B 0 r ks = ledG B i r' (ks.drop i) ∧ δ = stLed B r ks r' .un .un .un .un .un .un .un .un, ⟨r, ok, rfl, rfl, rfl⟩, ?_, ?_⟩
  · rintro i d δ hd ⟨r', ok', hl, he, rfl⟩
    rw [enD_get, List.getElem?_map] at hd
    obtain ⟨d0, h0, rfl⟩ := Option.map_eq_some_iff.mp hd
    obtain ⟨k, hk, rfl⟩ := Option.map_eq_some_iff.mp h0
    refine ⟨rfl, rfl, ?_⟩
    have hi := (List.getElem?_eq_some_iff.mp hk).1
    have ed : ks.drop i = k :: ks.drop (i + 1) := by
      rw [List.drop_eq_getElem_cons hi, (List.getElem?_eq_some_iff.mp hk).2]
    rw [ed] at he
    have e0 : (.int ((0 + i : Nat) : Int) : PyData) = nD i := by rw [Nat.zero_add]
    show pb_led_by_1 _ _ _ (stLed B r ks r' (.im (.int ((0 + i : Nat) : Int))) (.im (.int k)) .un .un .un .un .un .un)
    rw [e0]
    refine hp_led_turn bk ok' (by omega) (fun c => ?_) (fun c => ⟨passR B r' k.toNat, ?_, by rw [passR_len]; exact hl, ?_, rfl⟩)
    · rw [he] at q
      simp only [ledG, c] at q
      exact q
    · simp only [canP, Bool.and_eq_true, decide_eq_true_eq] at c
      refine passR_ok bk ok' (by omega) c.2
    · rw [he]
      simp only [ledG, c, if_true]
  · rintro δ ⟨r', ok', hl, he, rfl⟩
    rw [enD_len, List.length_map, List.drop_length] at he
    rw [he] at q
    exact ⟨_, _, rfl, q⟩
end Pv
/-! x += list; sorted(list of tuples of numbers). -/
namespace Pv
open PySem PySem.Spec L2 Wf
variable {B : Bas}
/-! ### sorted(list of tuples of d numbers in [0, B)) -/
theorem dq_perm {K : PySem.W.Frag} {G : Hp} {us ys : List V} (h : ys.Perm us) : ∀ {nss : List (List Int)}, DqAll K G us (nss.map dK) → ∃ mss : List (List Int), mss.Perm nss ∧ DqAll K G ys (mss.map dK) := by
  induction h with
  | nil => exact fun {nss} h => ⟨nss, .refl _, h⟩
  | cons x h ih =>
    intro nss hd
    match nss, hd with
    | n :: nss, .cons h1 h2 =>
      obtain ⟨mss, p, q⟩ := ih h2
      exact ⟨n :: mss, p.cons n, .cons h1 q⟩
  | swap x y l =>
    intro nss hd
    match nss, hd with
    | n :: m :: nss, .cons h1 (.cons h2 h3) => exact ⟨m :: n :: nss, .swap _ _ _, .cons h2 (.cons h1 h3)⟩
  | trans h1 h2 ih1 ih2 =>
    intro nss hd
    obtain ⟨mss, p, q⟩ := ih2 hd
    obtain ⟨lss, p2, q2⟩ := ih1 q
    exact ⟨lss, p2.trans p, q2⟩
theorem dq_tupI {K : PySem.W.Frag} {G H : Hp} {v : V} {ns : List Int} (s : ∀ a o, G a = some o → H a = some o) (h : Dq K G v (dK ns)) : TupI K H v ns := by
  unfold dK at h
  cases h with
  | tup hs hd =>
    cases dqAll_ints2 hd
    refine ⟨_, rfl, ?_⟩
    rcases hs with (h | ⟨o, h⟩) | h
    · exact .inl (.inl (s _ _ h))
    · exact .inl (.inr ⟨o, s _ _ h⟩)
    · exact .inr h
theorem dq_pairs {K : PySem.W.Frag} {G H : Hp} {R : List Int → List Int → Prop} (s : ∀ a o, G a = some o → H a = some o) : ∀ {mss : List (List Int)} {ys : List V}, DqAll K G ys (mss.map dK) → ys.Pairwise (fun x y => ∀ n m, TupI K H x n → TupI K H y m → R n m) → mss.Pairwise R
  | [], _, _, _ => .nil
  | m :: mss, _, .cons (vs := ys) h1 h2, hp => by
    have hp := List.pairwise_cons.mp hp
    refine List.pairwise_cons.mpr ⟨fun n hn => ?_, dq_pairs s h2 hp.2⟩
    have go : ∀ {mss : List (List Int)} {ys : List V}, DqAll K G ys (mss.map dK) → n ∈ mss → ∃ y ∈ ys, TupI K H y n := by
      intro mss
      induction mss with
      | nil => intro _ _ h; cases h
      | cons k ks ih =>
        intro ys hd hm
        match ys, hd with
        | y :: ys, .cons g1 g2 =>
          rcases List.mem_cons.mp hm with rfl | hm
          · exact ⟨y, List.mem_cons_self, dq_tupI s g1⟩
          · obtain ⟨z, hz, t⟩ := ih g2 hm
            exact ⟨z, List.mem_cons_of_mem _ hz, t⟩
    obtain ⟨y, hy, t⟩ := go h2 hn
    exact hp.1 y hy _ _ (dq_tupI s h1) t
theorem dq_each {K : PySem.W.Frag} {G H : Hp} (s : ∀ a o, G a = some o → H a = some o) {nss : List (List Int)} : ∀ {us : List V}, DqAll K G us (nss.map dK) → ∀ x ∈ us, ∃ ns ∈ nss, TupI K H x ns := by
  induction nss with
  | nil => intro us h x hx; cases h; cases hx
  | cons n nss ih =>
    intro us h x hx
    match us, h with
    | u :: us, .cons h1 h2 =>
      rcases List.mem_cons.mp hx with rfl | hx
      · exact ⟨n, List.mem_cons_self, dq_tupI s h1⟩
      · obtain ⟨m, hm, t⟩ := ih h2 x hx
        exact ⟨m, List.mem_cons_of_mem _ hm, t⟩
end Pv
/-! Comprehensions with two fors, by value. -/
namespace Pv
open PySem PySem.Spec L2 Wf
variable {B : Bas}
/-- the second for's turns; acc is what was made before -/
def comp1I (g : PGx) (tt : PB) (elt : PX) (vs : List Nat) (Kk : List PyData → List Sl → Prop) (ds : List PyData) (acc : List PyData) (δ : List Sl) : Prop := ∃ I : Nat → List PyData → List Sl → Prop, I 0 acc δ ∧
  (∀ (i : Nat) d acc δ, ds[i]? = some d → I i acc δ → g d δ fun δ2 => tt δ2 fun b δ3 => if b = true then elt δ3 fun r δ4 => ∃ e δ5, fz δ4 r = some (e, δ5) ∧ acc.length < sizeLine ∧ I (i + 1) (acc ++ [e]) (wipeS δ5 vs) else I (i + 1) acc (wipeS δ3 vs)) ∧ ∀ acc δ, I ds.length acc δ → Kk acc δ
def comp2I (g : PGx) (tt : PB) (it1 : PIx) (g1 : PGx) (tt1 : PB) (elt : PX) (vs vs1 : List Nat) (Kk : List PyData → List Sl → Prop) (ds : List PyData) (δ : List Sl) : Prop := ∃ I : Nat → List PyData → List Sl → Prop, I 0 [] δ ∧
  (∀ (i : Nat) d acc δ, ds[i]? = some d → I i acc δ → g d δ fun δ2 => tt δ2 fun b δ3 => if b = true then it1 δ3 fun es δ4 => comp1I g1 tt1 elt vs1 (fun acc δ => I (i + 1) acc (wipeS δ vs)) es acc (wipeS δ4 vs1) else I (i + 1) acc (wipeS δ3 vs)) ∧ ∀ acc δ, I ds.length acc δ → Kk acc δ
def pComp2 (it : PIx) (g : PGx) (tt : PB) (it1 : PIx) (g1 : PGx) (tt1 : PB) (elt : PX) (vs vs1 : List Nat) : PX := fun δ Q => it δ fun ds δ1 => noPin δ1 vs ∧ comp2I g tt it1 g1 tt1 elt vs vs1 (fun acc δ2 => Q (.ow (.lst acc)) (restS δ1 δ2 vs)) ds (wipeS δ1 vs)
theorem lc_lift2 {K : PySem.W.Frag} {pi pi1 : PIx} {ts ts1 vs vs1 : List Nat} {g g1 : PGx} {tt tt1 : PB} {elt : PX} {σ : St} {H : Hp} {Q : VK} (hts : ∀ i ∈ ts, i ∈ vs) (hts1 : ∀ i ∈ ts1, i ∈ vs1) (hv : ∀ i ∈ vs1, i ∈ vs) (h : LE K B (pComp2 pi g tt pi1 g1 tt1 elt vs vs1) σ H Q) :
    tLc2 (LI K B pi) (LG K B ts g) (LB K B tt) (LI K B pi1) (LG K B ts1 g1) (LB K B tt1) (LE K B elt) vs vs1 σ H Q := by
  obtain ⟨G, w, δ, Qp, rep, q, k⟩ := h
  refine ⟨G, w, δ, _, rep, q, fun ds δ1 J H1 G1 w1 q1 s1 rep1 itd D hD => ?_⟩
  obtain ⟨np, I, i0, is, ie⟩ := q1
  obtain ⟨w2, s2, r2⟩ := rep1.retLst (us := []) (ds := []) hD .nil
  have noA : ∀ acc : List PyData, ∀ p ∈ [R.ow (.lst acc)], isAt p = false := fun acc p hp => by rw [List.mem_singleton.mp hp]; rfl
  have ni : ∀ (i : Nat) o, δ[i]? = some (Sl.ow true o) → i ∉ vs := fun i o hi => by
    obtain ⟨o1, h1⟩ := s1.pn i o hi
    exact fun z => np i z o1 h1
  have pnw : ∀ {G' H' : Hp} {w' : Addr → Option Nat} {δ' : List Sl}, Stp B.T G H w δ G' H' w' δ' → Stp B.T G H w δ G' H' w' (wipeS δ' vs) := fun s => s.reδ fun i o hi => by
    obtain ⟨o1, h1⟩ := s.pn i o hi
    exact ⟨o1, by rw [wipeS_ne (ni i o hi)]; exact h1⟩
  have pnw1 : ∀ {G' H' : Hp} {w' : Addr → Option Nat} {δ' : List Sl}, Stp B.T G H w δ G' H' w' δ' → Stp B.T G H w δ G' H' w' (wipeS δ' vs1) := fun s => s.reδ fun i o hi => by
    obtain ⟨o1, h1⟩ := s.pn i o hi
    exact ⟨o1, by rw [wipeS_ne (fun z => ni i o hi (hv i z))]; exact h1⟩
  refine ⟨fun i m H' => m = ds.length - i ∧ i ≤ ds.length ∧ ∃ G' w' δ' acc, Stp B.T G H w δ G' H' w' δ' ∧ Same G1 G' ∧ Rep K B G' H' (wipe σ vs) δ' [.ref D] [.ow (.lst acc)] w' ∧ I i acc δ', ⟨ds.length, rfl, Nat.zero_le _, G1, w2, wipeS δ1 vs, [], pnw (s1.trans s2), fun _ _ h => h, r2.reσ (by rw [wipe_length, wipeS_len]; exact r2.len) (fun i s hi => ?_) (noA _), i0⟩, ?_⟩
  · rcases wipeS_get hi with e | ⟨e1, e2⟩
    · exact .inl e
    · exact .inr ⟨e1, wipe_ne e2⟩
  rintro i m H' ⟨rfl, hi, G', w', δ', acc, st, sg, rp, q⟩
  by_cases hlt : i < ds.length
  · have q := is i _ acc δ' (List.getElem?_eq_getElem hlt) q
    refine .inr ⟨itd.go G' H' i sg rp.sub hlt, fun H2 => i + 1 ≤ ds.length ∧ ∃ G' w' δ' acc, Stp B.T G H w δ G' H2 w' δ' ∧ Same G1 G' ∧ Rep K B G' H2 (wipe σ vs) δ' [.ref D] [.ow (.lst acc)] w' ∧ I (i + 1) acc δ', fun H2 z => ⟨ds.length - (i + 1), by omega, rfl, z⟩, fun x H2 y => ?_⟩
    obtain ⟨d, hd, res⟩ := itd.yld G' H' i x H2 sg rp.sub hlt y
    rw [List.getElem?_eq_getElem hlt] at hd
    cases hd
    obtain ⟨G2, s2, r2, hq⟩ := rp.res res
    refine ⟨G2, _, δ', _, _, r2.drop, hq, q, fun δ3 σ3 H3 G3 w3 q3 s3 r3 p3 t3 => ⟨wipe_eq t3 hts, ?_⟩⟩
    obtain ⟨w4, s4, r4⟩ := r2.frameS (noA _) s3 r3
    have back : ∀ {G9 H9 : Hp} {w9 : Addr → Option Nat} {σ9 : St} {δ9 : List Sl} {acc9 : List PyData}, σ9.length = (wipe σ vs).length → (∀ k, k ∉ vs → σ9[k]? = (wipe σ vs)[k]?) → Rep K B G9 H9 σ9 δ9 [.ref D] [.ow (.lst acc9)] w9 → Rep K B G9 H9 (wipe σ vs) (wipeS δ9 vs) [.ref D] [.ow (.lst acc9)] w9 := fun {G9 H9 w9 σ9 δ9 acc9} hl hk r9 => by
      refine r9.reσ ?_ (fun k s hk' => ?_) (noA _)
      · rw [wipeS_len, ← r9.len, hl]
      · rcases wipeS_get hk' with e | ⟨e1, e2⟩
        · exact .inl e
        · exact .inr ⟨e1, (hk k e2).symm⟩
    have l3 : σ3.length = (wipe σ vs).length := t3.1
    have k3 : ∀ k, k ∉ vs → σ3[k]? = (wipe σ vs)[k]? := fun k hk => t3.2 k fun z => hk (hts k z)
    refine ⟨G3, _, δ3, _, r4.drop, q3, fun b δ5 H5 G5 w5 q5 s5 r5 => ?_⟩
    obtain ⟨w6, s6, r6⟩ := r4.frame s5 r5
    have st6 := ((st.trans s2).trans s4).trans s6
    have sg6 : Same G1 G5 := fun a o ha => s6.g a o (s4.g a o (s2.g a o (sg a o ha)))
    cases b with
    | false => exact ⟨hlt, G5, w6, _, acc, pnw st6, sg6, back l3 k3 r6, q5⟩
    | true =>
      refine ⟨G5, _, δ5, _, r6.drop, q5, fun es δ7 J1 H7 G7 w7 q7 s7 r7 itd1 => ?_⟩
      obtain ⟨w8, s8, r8⟩ := r6.frame s7 r7
      obtain ⟨I1, j0, js, je⟩ := q7
      have st8 := st6.trans s8
      have sg8 : Same G1 G7 := fun a o ha => s8.g a o (sg6 a o ha)
      refine ⟨fun j kk H' => kk = es.length - j ∧ j ≤ es.length ∧ ∃ G' w' δ' acc, Stp B.T G H w δ G' H' w' δ' ∧ Same G1 G' ∧ Same G7 G' ∧ Rep K B G' H' (wipe σ3 vs1) δ' [.ref D] [.ow (.lst acc)] w' ∧ I1 j acc δ', ⟨es.length, rfl, Nat.zero_le _, G7, w8, wipeS δ7 vs1, acc, pnw1 st8, sg8, fun _ _ h => h, r8.reσ (by rw [wipe_length, wipeS_len]; exact r8.len) (fun i s hi => ?_) (noA _), j0⟩, ?_⟩
      · rcases wipeS_get hi with e | ⟨e1, e2⟩
        · exact .inl e
        · exact .inr ⟨e1, wipe_ne e2⟩
      rintro j kk Ha ⟨rfl, hj, Ga, wa, δa, acca, sta, sga, sga', rpa, qa⟩
      by_cases hlt1 : j < es.length
      · have qa := js j _ acca δa (List.getElem?_eq_getElem hlt1) qa
        refine .inr ⟨itd1.go Ga Ha j sga' rpa.sub hlt1, fun H2 => j + 1 ≤ es.length ∧ ∃ G' w' δ' acc, Stp B.T G H w δ G' H2 w' δ' ∧ Same G1 G' ∧ Same G7 G' ∧ Rep K B G' H2 (wipe σ3 vs1) δ' [.ref D] [.ow (.lst acc)] w' ∧ I1 (j + 1) acc δ', fun H2 z => ⟨es.length - (j + 1), by omega, rfl, z⟩, fun x1 Hb y1 => ?_⟩
        obtain ⟨d1, hd1, res1⟩ := itd1.yld Ga Ha j x1 Hb sga' rpa.sub hlt1 y1
        rw [List.getElem?_eq_getElem hlt1] at hd1
        cases hd1
        obtain ⟨Gb, sb, rb, hqb⟩ := rpa.res res1
        refine ⟨Gb, _, δa, _, _, rb.drop, hqb, qa, fun δc σc Hc Gc wc qc sc rc pc tc => ⟨wipe_eq tc hts1, ?_⟩⟩
        obtain ⟨wd, sd, rd⟩ := rb.frameS (noA _) sc rc
        have back1 : ∀ {G9 H9 : Hp} {w9 : Addr → Option Nat} {δ9 : List Sl} {acc9 : List PyData}, Rep K B G9 H9 σc δ9 [.ref D] [.ow (.lst acc9)] w9 → Rep K B G9 H9 (wipe σ3 vs1) (wipeS δ9 vs1) [.ref D] [.ow (.lst acc9)] w9 := fun {G9 H9 w9 δ9 acc9} r9 => by
          refine r9.reσ ?_ (fun k s hk => ?_) (noA _)
          · rw [wipe_length, wipeS_len, ← r9.len, tc.1, wipe_length]
          · rcases wipeS_get hk with e | ⟨e1, e2⟩
            · exact .inl e
            · exact .inr ⟨e1, (tc.2 k fun z => e2 (hts1 k z)).symm⟩
        refine ⟨Gc, _, δc, _, rd.drop, qc, fun b1 δe He Ge we qe se re => ?_⟩
        obtain ⟨wf, sf, rf⟩ := rd.frame se re
        have stf := ((sta.trans sb).trans sd).trans sf
        have sgf : Same G1 Ge := fun a o ha => sf.g a o (sd.g a o (sb.g a o (sga a o ha)))
        have sgf' : Same G7 Ge := fun a o ha => sf.g a o (sd.g a o (sb.g a o (sga' a o ha)))
        cases b1 with
        | false => exact ⟨hlt1, Ge, wf, _, acca, pnw1 stf, sgf, sgf', back1 rf, qe⟩
        | true =>
          refine ⟨Ge, _, δe, _, rf.drop, qe, fun r δg y Hg Gg wg qg sg9 rg => ?_⟩
          obtain ⟨wh, sh, rh⟩ := rf.frame sg9 rg
          obtain ⟨e, δi, hz, hl, qg⟩ := qg
          obtain ⟨Gi, wi, si, ri⟩ := rh.fz1 (j := 1) rfl rfl hz
          have ri' : Rep K B Gi Hg σc δi [.ref D, y] [.ow (.lst acca), .im e] wi := ri
          have hy : Dq K Gi y e := ri'.tm 1 y (.im e) rfl rfl
          obtain ⟨a, us, ea, ma, ha, hus⟩ := ri'.tm 0 (.ref D) (.ow (.lst acca)) rfl rfl
          cases ea
          obtain ⟨us2, h2, h3, s10, r10⟩ := ri'.wrT (dqAll_append hus (.cons hy .nil))
          refine ⟨us, ha, by rw [dqAll_len hus]; exact hl, hlt1, Gi, wi, _, acca ++ [e], pnw1 (((stf.trans sh).trans si).trans s10), fun a o h => si.g a o (sh.g a o (sgf a o h)), fun a o h => si.g a o (sh.g a o (sgf' a o h)), back1 r10.first, qg⟩
      · have ej : j = es.length := by omega
        subst ej
        refine .inl ⟨itd1.stop Ga Ha sga' rpa.sub, hlt, Ga, wa, wipeS δa vs, acca, pnw sta, sga, back ?_ (fun k hk => ?_) rpa, je acca δa qa⟩
        · rw [wipe_length, l3]
        · rw [wipe_ne (fun z => hk (hv k z))]
          exact k3 k hk
  · have ei : i = ds.length := by omega
    subst ei
    refine .inl ⟨itd.stop G' H' sg rp.sub, k _ _ _ H' G' w' (ie acc δ' q) (st.reδ fun j o hj => ?_) ⟨rp.sub, rp.out, by rw [restS_len, ← rp.len, wipe_length], fun j s hj => ?_, rp.tlen, fun j v p hv hp => (rp.tm j v p hv hp).noAt (noA _ p (List.mem_of_getElem? hp)), rp.bs⟩⟩
    · obtain ⟨o1, h1⟩ := st.pn j o hj
      exact ⟨o1, by rw [restS_ne (ni j o hj)]; exact h1⟩
    · by_cases hm : j ∈ vs
      · rcases restS_in hm hj with rfl | ⟨d, rfl, e0⟩
        · trivial
        · obtain ⟨v, hv, hd⟩ := rep1.sl j _ e0
          exact ⟨v, hv, dp_mono sg _ _ hd⟩
      · rw [restS_ne hm] at hj
        have := rp.sl j s hj
        rwa [wipe_ne hm] at this
section
variable {X : Cx}
theorem js_setLc2 {i : Nat} {y : Str} {py : Pos} {elt tg iter tg1 iter1 : Expr} {ifs ifs1 : List Expr} {scope : Scope} {own : List (Str × Nat)} {pos spos : Pos} {pi pi1 : PIx} {ts ts1 : List Nat} {g g1 : PGx} {tt tt1 : PB} {pe : PX} (vs1 : List Nat) (hc : X.calm = true) (hN : X.N.Nodup) (hy : X.N[i]? = some y) (hyl : X.env.scope.names.lookup y = some .local)
    (hsw : swapsWith (.ListComp elt [⟨tg, iter, ifs, 0⟩, ⟨tg1, iter1, ifs1, 0⟩] scope pos) (some (.Name y py)) spos.line X.env = pure true) (hi : JI X B tg iter pi) (ok : BlkOk X.N X.env.scope scope own)
    (hg : ∀ (s : Shared) (H : Hp) (C : Addr) (cl : List (Str × Addr)) (fp : List Addr), JG (X.blk s H scope (compEnvC scope cl C X.env) fp) B tg ts g) (ht : ∀ (s : Shared) (H : Hp) (C : Addr) (cl : List (Str × Addr)) (fp : List Addr), JTs (X.blk s H scope (compEnvC scope cl C X.env) fp) B ifs tt)
    (hi1 : ∀ (s : Shared) (H : Hp) (C : Addr) (cl : List (Str × Addr)) (fp : List Addr), JI (X.blk s H scope (compEnvC scope cl C X.env) fp) B tg1 iter1 pi1)
    (hg1 : ∀ (s : Shared) (H : Hp) (C : Addr) (cl : List (Str × Addr)) (fp : List Addr), JG (X.blk s H scope (compEnvC scope cl C X.env) fp) B tg1 ts1 g1) (ht1 : ∀ (s : Shared) (H : Hp) (C : Addr) (cl : List (Str × Addr)) (fp : List Addr), JTs (X.blk s H scope (compEnvC scope cl C X.env) fp) B ifs1 tt1)
    (he : ∀ (s : Shared) (H : Hp) (C : Addr) (cl : List (Str × Addr)) (fp : List Addr), JE (X.blk s H scope (compEnvC scope cl C X.env) fp) B elt pe) (hts : ∀ i ∈ ts, i ∈ own.map (·.2) := by decide) (hts1 : ∀ i ∈ ts1, i ∈ vs1 := by decide) (hv : ∀ i ∈ vs1, i ∈ own.map (·.2) := by decide) (hs : ∀ x, foldedSetIterable iter X.env x = pure x := by intro _; rfl) (hs1 : ∀ env x, foldedSetIterable iter1 env x = pure x := by intro _ _; rfl) :
    JS X B (.Assign [.Name y py] (.ListComp elt [⟨tg, iter, ifs, 0⟩, ⟨tg1, iter1, ifs1, 0⟩] scope pos) spos) (pSet i (pComp2 pi g tt pi1 g1 tt1 pe (own.map (·.2)) vs1)) := PS_wk (ps_setLc2 (g := LG X.K B ts g) (tt := LB X.K B tt) (wi1 := LI X.K B pi1) (g1 := LG X.K B ts1 g1) (tt1 := LB X.K B tt1) (te := LE X.K B pe) hc hN hy hyl hsw hi ok hv hg ht hi1 hg1 ht1 he hs hs1) fun D σ H h => lc_lift2 hts hts1 hv (set_lift h)
end
end Pv
/-! A def within a def, told with how the tables of code grow. -/
namespace Pv
open PySem PySem.Spec PyProof.Rows L2 LamX NdefX Wf
/-- one code object more in the table at P -/
theorem tabs_grow {T : List NTab} {H : Hp} {P d : Addr} {nm : Nat → Nat → Str} {ps : Array Value} {pos : Pos} (mem : (P, nm) ∈ T) (un : ∀ p ∈ T, p.1 = P → p.2 = nm) (hP : H P = some (.tbl ps)) (hd : H d = none) :
    TbG T H (upd (upd H P (.tbl (ps ++ #[rawInt pos.line, rawInt pos.col, .ref d]))) d (CodeO d (nm pos.line pos.col))) := by
  have keep : ∀ b o, H b = some o → NT o → upd (upd H P (.tbl (ps ++ #[rawInt pos.line, rawInt pos.col, .ref d]))) d (CodeO d (nm pos.line pos.col)) b = some o := fun b o e n => by
    have z1 : b ≠ d := ne_of_none e hd
    have z2 : b ≠ P := fun z => n ps (by rw [z, hP] at e; exact (Option.some.inj e).symm)
    rw [upd_ne z1, upd_ne z2]
    exact e
  have pd : P ≠ d := ne_of_none hP hd
  refine ⟨fun t p hp => ?_, fun a qs e => ?_⟩
  · obtain ⟨rs, r1, r2, r3⟩ := t p hp
    by_cases hb : p.1 = P
    · have ez := un p hp hb
      rw [hb] at r1
      rw [hP] at r1
      cases r1
      have el : (ps ++ #[rawInt pos.line, rawInt pos.col, .ref d]).toList = ps.toList ++ [rawInt pos.line, rawInt pos.col, .ref d] := by simp
      refine ⟨ps ++ #[rawInt pos.line, rawInt pos.col, .ref d], by rw [hb, upd_ne pd, upd_same], by rw [el]; exact PySem.TriplesOk_snoc _ _ _ _ r2, fun q cv hq => ?_⟩
      rw [el] at hq
      rcases among_app2 _ r2 hq with z | ⟨z, z1, z2⟩
      · obtain ⟨x, x1, x2⟩ := r3 q cv z
        exact ⟨x, x1, keep _ _ x2 codeO_ne⟩
      · exact ⟨d, z, by rw [← z1, ← z2, ez]; exact upd_same⟩
    · have : p.1 ≠ d := ne_of_none r1 hd
      refine ⟨rs, by rw [upd_ne this, upd_ne hb]; exact r1, r2, fun q cv hq => ?_⟩
      obtain ⟨x, x1, x2⟩ := r3 q cv hq
      exact ⟨x, x1, keep _ _ x2 codeO_ne⟩
  · have : a ≠ d := ne_of_none e hd
    rw [upd_ne this]
    by_cases hb : a = P
    · rw [hb, upd_same]; exact ⟨_, rfl⟩
    · rw [upd_ne hb]; exact ⟨qs, e⟩
theorem ext_grow {H : Hp} {P d : Addr} {ps qs : Array Value} {q : Str} (hP : H P = some (.tbl ps)) (hd : H d = none) : ExtN H (upd (upd H P (.tbl qs)) d (CodeO d q)) := fun b o e n => by
  have z1 : b ≠ d := ne_of_none e hd
  have z2 : b ≠ P := fun z => n ps (by rw [z, hP] at e; exact (Option.some.inj e).symm)
  rw [upd_ne z1, upd_ne z2]
  exact e
end Pv
/-! What the head tells of error classes; whole numbers by their names. -/
namespace Wf
open PySem PySem.Spec PyProof.Rows L2
/-! ### classes of errors -/
def oexB (K : PySem.W.Frag) (C : Addr) : Bool := match K.lookup C with
  | some ⟨.type "type", _, .cls cd, sl⟩ => (match cd.mro, sl.toList with
    | .ref C' :: bm, [_, _, _, _, some (.builtin n), _] => C' == C && n == "ValueError.__new__" && !cd.hasDel && cd.hasDict && PySem.HandSPX.refsVE bm
    | _, _ => false)
  | _ => false
theorem oexB_ok {K : PySem.W.Frag} {C : Addr} (q : oexB K C = true) : ∃ nm qn N bs bm sn sub ab col dd k0 k1 k2 k3 k5, K.lookup C = some (excClassObj nm qn C N bs bm true sn sub ab col dd k0 k1 k2 k3 k5 "ValueError.__new__") ∧ PySem.HandSPX.refsVE bm = true := by
  unfold oexB at q
  split at q
  · rename_i dd cd sl ho
    split at q
    · rename_i C' bm k0 k1 k2 k3 n k5 hm hs
      simp only [Bool.and_eq_true, beq_iff_eq, Bool.not_eq_true'] at q
      obtain ⟨⟨⟨⟨rfl, rfl⟩, hdel⟩, hdc⟩, hbm⟩ := q
      obtain ⟨nm, bs, mro, ns, qn, hd, sn, sub, ab, col, del⟩ := cd
      dsimp only at hm hdel hdc
      subst hm hdel hdc
      have hsl : sl = #[k0, k1, k2, k3, some (.builtin "ValueError.__new__"), k5] := by
        obtain ⟨z⟩ := sl
        simp only at hs
        rw [hs]
      subst hsl
      exact ⟨nm, qn, ns, bs, bm, sn, sub, ab, col, dd, k0, k1, k2, k3, k5, ho, hbm⟩
    · cases q
  · cases q
/-- the error class named x, its fields fs -/
def errB (K : PySem.W.Frag) (x : Str) (fs : List Str) : Bool :=
  oexB K (He.ga K x) && (decide (PySem.W.findIn K (.ref (He.ga K x)) "__setattr__" = some (some (.builtin "object.__setattr__"))) && (decide (PySem.W.subIn K (.ref (He.ga K x)) (.type "BaseException") = some true) && (decide (PySem.W.typeIn K (.ref (He.ga K x)) = some (.type "type")) && (PySem.W.keepIn K (.ref (He.ga K x)) &&
  (decide (PySem.W.findIn K (.ref (He.ga K x)) "__init__" = some (some (.ref (He.ma K (He.ga K x) "__init__")))) && (decide (PySem.W.typeIn K (.ref (He.ma K (He.ga K x) "__init__")) = some (.type "function")) && ((fs.all fun f => decide (PySem.W.findIn K (.ref (He.ga K x)) f = some none)) && (xfB K (He.ga K x) &&
  ((PySem.W.clsIn K (He.ga K x)).isSome && (decide (PySem.W.findIn K (.ref (He.ga K x)) "__class__" = some (some (.builtin "object.__class__"))) && (decide (PySem.W.specialIn K (.builtin "object.__class__") "__get__" = some (some (.builtin "getset_descriptor.__get__"))) &&
  (decide (PySem.W.takesIn K (.builtin "object.__class__") = some true) && decide (PySem.W.mroIn K (He.ga K x) (.type "object") = some true)))))))))))))
structure ErrF (K : PySem.W.Frag) (C fI : Addr) (fs : List Str) : Prop where
  o : OexC K C
  i : PySem.W.findIn K (.ref C) "__init__" = some (some (.ref fI))
  ti : PySem.W.typeIn K (.ref fI) = some (.type "function")
  no : ∀ f ∈ fs, PySem.W.findIn K (.ref C) f = some none
  xf : XfC K C
  is_ : IsC K C
theorem errB_ok {K : PySem.W.Frag} {x : Str} {fs : List Str} (h : errB K x fs = true) : ErrF K (He.ga K x) (He.ma K (He.ga K x) "__init__") fs := by
  unfold errB at h
  simp only [Bool.and_eq_true, decide_eq_true_eq, List.all_eq_true] at h
  obtain ⟨h1, h2, h3, h4, h5, h6, h7, h8, h9, h10, h11, h12, h13, h14⟩ := h
  have X := xfB_ok h9
  exact ⟨⟨oexB_ok h1, h2, h3, h4, h5⟩, h6, h7, h8, X, ⟨h10, X.ga, X.gg, X.exC, h11, h12, h13, h14⟩⟩
def baseB (K : PySem.W.Frag) (x : Str) : Bool := PySem.W.readsIn K (He.ga K x) (.type "type") && (decide (PySem.W.specialIn K (.ref (He.ga K x)) "__getattribute__" = some (some (.builtin "type.__getattribute__"))) && (match PySem.W.findCls K (.ref (He.ga K x)) (.type "type") "__init__" with
  | some (.val (.builtin z)) => z == "ValueError.__init__"
  | _ => false))
theorem baseB_ok {K : PySem.W.Frag} {mg : Str → Option Value} {x : Str} (h : baseB K x = true) (g : mg x = some (.ref (He.ga K x))) : BaseC K mg x (He.ga K x) := by
  unfold baseB at h
  simp only [Bool.and_eq_true, decide_eq_true_eq] at h
  obtain ⟨h1, h2, h3⟩ := h
  refine ⟨g, h1, h2, ?_⟩
  split at h3
  · rename_i z e
    rw [e, beq_iff_eq.mp h3]
  · cases h3
/-! ### a hook: what the module's names reach, and the runtime's own names -/
def frW (n : Nat) (g : Addr → Option Obj) : PySem.W.Frag := He.frT g (cStatics :: He.asD g n)
end Wf
/-! The end of a law whose defs make defs: tables of code objects, no guard. -/
namespace Wf
open PySem PySem.Spec PyProof.Rows L2 LamX
abbrev tab0 : Obj := { cls := .none, data := .fields #[] }
/-- nothing stands but the tables and the script -/
def OnlyT (cs : List (Addr × Addr)) (a : Addr) (H : Hp) : Prop := ∀ b u, H b = some u → (∃ p ∈ cs, p.2 = b) ∨ (b = a ∧ ∃ ob xs, u = HO.frz ob (.lst xs))
theorem lawT {P : Program} {w : World} {K : PySem.W.Frag} {mg mb : Str → Option Value} {k : Nat} {fa a : Addr} {cs : List (Addr × Addr)} {fd : FuncData} {x : Str} {sp : Sp} {s : Shared} {us : List Value} {ns : List Int}
    (KX : K.In s.heap) (hmg : s.heap.Ns mainGlobals mg) (hb : s.heap.Ns builtinsNs mb) (hbb : ∀ x : Str, x ≠ "__name__" → mb x = bootBuiltins x) (hlim : s.heap.NoLimit) (hg : s.gens = #[])
    (hT : ∀ p ∈ cs, s.heap.get? p.2 = some tab0) (nT : ∀ p ∈ cs, K.lookup p.2 = none) (CH : ∀ p ∈ cs, PySem.W.CodeHd s.heap p.1 p.2)
    (hbm : ∃ (bm : Addr) (ob : Obj), mg "__builtins__" = some (.ref bm) ∧ bm ≠ builtinsNs ∧ s.heap.get? bm = some ob ∧ ob.cls = .type "module" ∧ ob.dict = some builtinsNs ∧ ob.data = .plain)
    (ha : s.heap.get? a = some { cls := .type "list", data := .seq us.toArray }) (hi : IntsAre us ns) (hl : ns.length ≤ sizeLine) (hr : Room k callerA)
    (F : ∀ base : Heap, K.In base → base.Ns mainGlobals mg → (∀ p ∈ cs, TabB base mg p.1 p.2) → FnG P w K mg base CX0 k fa fd [x] sp) (hbind : ∀ (s : Shared) (u : Value), BindsTo s fd ⟨[u], []⟩ [(x, u)])
    (hsp : ∀ H : Hp, (∀ p ∈ cs, H p.2 = some (.tbl #[])) → OnlyT cs a H → SqL K H a (ns.map V.int) → sp [.ref a] H (fun v _ => v = .bl true) fun _ _ _ => False) :
    codeAny (model P w) callerA (.call (.ref fa) ⟨[.ref a], []⟩) (fun r s' => r = .ok (.ret (.bool true)) ∧ PySem.OldK s.heap s'.heap ∧ s'.os = s.os ∧ AllBare s'.gens) s := by
  classical
  have rv := vals_ints hi
  let isT : Addr → Prop := fun b => ∃ p ∈ cs, p.2 = b
  have tabAt : ∀ b, isT b → s.heap.get? b = some tab0 := fun b ⟨p, hp, e⟩ => e ▸ hT p hp
  have aT : ¬ isT a := fun z => by
    have e := tabAt a z
    rw [ha] at e
    have := congrArg Obj.data (Option.some.inj e)
    cases this
  have go : ∀ H : Hp, (∀ p ∈ cs, H p.2 = some (.tbl #[])) → (∀ b u, H b = some u → isT b ∨ (b = a ∧ ∃ ob xs, u = .frz ob (.lst xs))) → SqL K H a (ns.map V.int) → HOk P w H s.heap → (H a ≠ none → K.lookup a = none) →
      codeAny (model P w) callerA (.call (.ref fa) ⟨[.ref a], []⟩) (fun r s' => r = .ok (.ret (.bool true)) ∧ PySem.OldK s.heap s'.heap ∧ s'.os = s.os ∧ AllBare s'.gens) s := by
    intro H hH hA hS hok hK
    -- what is neither the script nor a table is not told of
    have clear_ : ∀ {b : Addr} {o : Obj}, s.heap.get? b = some o → o.data ≠ .fields #[] → (∀ vs m, o.data ≠ .seq vs m) → H b = none := fun {b o} e h1 h2 => by
      cases q : H b with
      | none => rfl
      | some u =>
        rcases hA b u q with z | ⟨rfl, _⟩
        · rw [tabAt b z] at e
          cases e
          exact absurd rfl h1
        · rw [ha] at e
          cases e
          exact absurd rfl (h2 _ _)
    have clearD : ∀ {b : Addr} {o : Obj} {es : Array DictEntry} {ep : Nat}, s.heap.get? b = some o → o.data = .dict es ep → H b = none := fun {b o es ep} e d => clear_ e (fun z => by rw [d] at z; cases z) fun vs m z => by rw [d] at z; cases z
    have nsIn_ : ∀ {b : Addr} {m : Str → Option Value}, s.heap.Ns b m → (hidT s.heap H).Ns b m := fun {b m} q => by
      obtain ⟨o, es, ep, e, d, r⟩ := q
      exact ⟨o, es, ep, hidT_get e (clearD e d), d, r⟩
    have hKb : K.In (hidT s.heap H) := fun b o e => by
      refine hidT_get (KX b o e) ?_
      cases q : H b with
      | none => rfl
      | some u =>
        rcases hA b u q with ⟨p, hp, ep⟩ | ⟨rfl, _⟩
        · rw [← ep, nT p hp] at e
          cases e
        · rw [hK (by rw [q]; exact fun z => nomatch z)] at e
          cases e
    have TB : ∀ p ∈ cs, TabB (hidT s.heap H) mg p.1 p.2 := fun p hp => by
      refine ⟨?_, ?_, fun z => ?_⟩
      · obtain ⟨o, vs, file, tf, flags, tg, inF, text, tt, e1, r1, r2, r3, rest⟩ := CH p hp
        refine ⟨o, vs, file, tf, flags, tg, inF, text, tt, hidT_get e1 (clear_ e1 (fun z => ?_) fun vs m z => ?_), r1, r2, r3, rest⟩
        · rw [r2] at z
          cases z
          simp at r3
        · rw [r2] at z
          cases z
      · obtain ⟨bm, ob, b1, b2, b3, b4, b5, b6⟩ := hbm
        refine ⟨bm, ob, b1, b2, fun z => ?_, fun z => ?_, hidT_get b3 (clear_ b3 (fun z => ?_) fun vs m z => ?_), b4, b5, b6⟩
        · obtain ⟨o, es, ep, e, d, _⟩ := hmg
          rw [z, e] at b3
          cases b3
          rw [d] at b6
          cases b6
        · rw [z, hT p hp] at b3
          cases b3
          cases b6
        · rw [b6] at z
          cases z
        · rw [b6] at z
          cases z
      · obtain ⟨o, es, ep, e, d, _⟩ := hmg
        rw [z, hT p hp] at e
        cases e
        cases d
    obtain ⟨mc, l1, l2⟩ := hlim
    have e0 : Env0 P w K mg (hidT s.heap H) callerA [] s H :=
      ⟨rfl, ⟨hKb, nsIn_ hmg, ⟨mb, nsIn_ hb, hbb⟩, ⟨mc, nsIn_ l1, l2⟩⟩, fun b o e => of_hidT e, Nat.le_of_eq (hidT_size _ _), trivial, fun b z => (List.not_mem_nil z).elim, hok, .of_eq hg⟩
    refine codeAny_mono ((F _ hKb (nsIn_ hmg) TB).run callerA rfl [] s H ⟨[.ref a], []⟩ [.ref a] [.ref a] _ _ hr e0 (hbind s (.ref a)) (.cons rfl .nil) (hsp H hH hA hS)) fun r s' q => ?_
    cases r with
    | error e => exact False.elim q
    | ok fl =>
      cases fl with
      | next => exact False.elim q
      | brk => exact False.elim q
      | cont => exact False.elim q
      | ret u =>
        obtain ⟨v, H', os, bare, un, hok', r', ev⟩ := q
        cases (show v = .bl true from ev)
        cases (show u = Value.bool true from r')
        have kept : ∀ b o, ¬ isT b → s.heap.get? b = some o → s'.heap.get? b = some o := fun b o nb e => by
          cases q : H b with
          | none => exact un.keep b o e q (fun y => (List.not_mem_nil y).elim) (fun y => (List.not_mem_nil y).elim)
          | some u =>
            rcases hA b u q with z | ⟨rfl, ob, xs, rfl⟩
            · exact absurd z nb
            · have e1 := (hok b _ q).1
              rw [e] at e1
              cases e1
              exact (hok' b _ (un.frzs b _ _ q)).1
        have grew : ∀ p ∈ cs, ∃ more : Array Value, s'.heap.get? p.2 = some { cls := .none, data := .fields more } := fun p hp => by
          obtain ⟨more, z⟩ := un.tbls p.2 #[] (hH p hp)
          exact ⟨_, hok' p.2 _ z⟩
        refine ⟨rfl, ⟨fun b o e => ?_, fun b o e => ?_⟩, os, bare⟩
        · by_cases z : isT b
          · obtain ⟨p, hp, rfl⟩ := z
            obtain ⟨more, hm⟩ := grew p hp
            rw [hT p hp] at e
            cases e
            exact .inr (.inl ⟨((CH p hp).tab (hT p hp)).isCodeTable, rfl, #[], more, rfl, by rw [Array.empty_append]; exact hm⟩)
          · exact .inl (kept b o z e)
        · by_cases z : isT b
          · obtain ⟨p, hp, rfl⟩ := z
            obtain ⟨more, hm⟩ := grew p hp
            exact ⟨_, hm⟩
          · exact ⟨o, kept b o z e⟩
  cases hk : K.lookup a with
  | some o =>
    have e := KX a o hk
    rw [ha] at e
    cases e
    let H0 : Hp := fun b => if isT b then some (.tbl #[]) else none
    have h1 : ∀ b, isT b → H0 b = some (.tbl #[]) := fun b z => if_pos z
    have h2 : ∀ b, ¬ isT b → H0 b = none := fun b z => if_neg z
    have only : ∀ b u, H0 b = some u → isT b ∧ u = .tbl #[] := fun b u e => by
      by_cases z : isT b
      · rw [h1 b z] at e
        exact ⟨z, (Option.some.inj e).symm⟩
      · rw [h2 b z] at e
        cases e
    refine go H0 (fun p hp => h1 _ ⟨p, hp, rfl⟩) (fun b u e => .inl (only b u e).1) (.inr ⟨_, us.toArray, _, hk, rfl, rfl, rfl, ?_, ?_⟩) (fun b u e => ?_) fun z => absurd (h2 a aT) z
    · rw [List.size_toArray, hi.length]
      exact hl
    · simpa using rv
    · obtain ⟨z, rfl⟩ := only b u e
      exact tabAt b z
  | none =>
    let fr : HO := .frz { cls := .type "list", data := .seq us.toArray } (.lst (ns.map V.int))
    let H0 : Hp := fun b => if b = a then some fr else if isT b then some (.tbl #[]) else none
    have h0 : H0 a = some fr := if_pos rfl
    have h1 : ∀ b, isT b → H0 b = some (.tbl #[]) := fun b z => (if_neg (show ¬ b = a from fun e => aT (by rw [← e]; exact z))).trans (if_pos z)
    have h2 : ∀ b, b ≠ a → ¬ isT b → H0 b = none := fun b n z => (if_neg n).trans (if_neg z)
    have only : ∀ b u, H0 b = some u → (isT b ∧ u = .tbl #[]) ∨ (b = a ∧ u = fr) := fun b u e => by
      by_cases q : b = a
      · subst q
        rw [h0] at e
        exact .inr ⟨rfl, (Option.some.inj e).symm⟩
      · by_cases z : isT b
        · rw [h1 b z] at e
          exact .inl ⟨z, (Option.some.inj e).symm⟩
        · rw [h2 b q z] at e
          cases e
    refine go H0 (fun p hp => h1 _ ⟨p, hp, rfl⟩) (fun b u e => ?_) (.inl (.inr ⟨_, h0⟩)) (fun b u e => ?_) fun _ => hk
    · rcases only b u e with ⟨z, _⟩ | ⟨z, rfl⟩
      · exact .inl z
      · exact .inr ⟨z, _, _, rfl⟩
    · rcases only b u e with ⟨z, rfl⟩ | ⟨rfl, rfl⟩
      · exact tabAt b z
      · exact ⟨ha, by rw [List.length_map]; exact hl, us, _, rv, ha⟩
theorem walkT2 {l : PySem.W.OpenLaw} {n k : Nat} {q : Program} {loose : List Str} {XP : (Str → Option Value) → Heap → Prop} {YP : World → Heap → Prop} {d : DefRec} {x : Str}
    (hn : l.most = some n) (hn2 : n ≤ sizeLine) (hdf : d.params.defaults = []) (hr : Room k callerA)
    (F : ∀ (w : World) (mg : Str → Option Value) (fa : Addr) (h : Heap), YP w h → h.Ns mainGlobals mg → mg d.name = some (.ref fa) →
      ∃ (K : PySem.W.Frag) (fd : FuncData) (cs : List (Addr × Addr)) (sp : Sp), K.In h ∧ (∀ p ∈ cs, h.get? p.2 = some tab0) ∧ (∀ p ∈ cs, K.lookup p.2 = none) ∧ (∀ p ∈ cs, PySem.W.CodeHd h p.1 p.2) ∧ (∀ (s : Shared) (u : Value), BindsTo s fd ⟨[u], []⟩ [(x, u)]) ∧
        (∀ (H : Hp) (a : Addr) (ns : List Int), ns.length ≤ n → (∀ p ∈ cs, H p.2 = some (.tbl #[])) → OnlyT cs a H → SqL K H a (ns.map V.int) → sp [.ref a] H (fun v _ => v = .bl true) fun _ _ _ => False) ∧
        ∀ base : Heap, K.In base → base.Ns mainGlobals mg → (∀ p ∈ cs, TabB base mg p.1 p.2) → FnG l.prog w K mg base CX0 k fa fd [x] sp) :
    PySem.W.WalkO q loose XP YP l.row.toRowW d [] (fun f vs => PySem.call f vs) := by
  refine Att.attach_call hn hdf fun w s0 s1 mg mb fa o pm cd doc a vs ns G Y ho hd hcd hmg hobj hints hlen hg => ?_
  obtain ⟨K, fd, cs, sp, KX, hT, nT, CH, hb, hsp, hF⟩ := F w mg fa _ Y G.T.g hmg
  exact lawT KX G.T.g G.T.b G.T.builtins G.T.nolimit hg hT nT CH G.T.bmain hobj hints (Nat.le_trans hlen hn2) hr hF hb fun H hH hA hS => hsp H a ns hlen hH hA hS
/-! ### a hook that tells of tables -/
structure SaysV (fa : List He.Fa) (fn : List He.DefD) (tf : List He.Defn) (ex : PySem.W.Frag → Bool) (h : Heap) (K : PySem.W.Frag) : Prop where
  d : He.SaysD fa fn K
  more : ex K = true
  hd : ∀ p ∈ tf, PySem.W.codeHdIn K (He.cT K p).1 (He.cT K p).2 = true
  out : ∀ p ∈ tf, K.lookup (He.cT K p).2 = none
  empty : ∀ p ∈ tf, h.get? (He.cT K p).2 = some tab0
def obsV (n : Nat) (fa : List He.Fa) (fn : List He.DefD) (tf : List He.Defn) (ex : PySem.W.Frag → Bool) (g : Addr → Option Obj) : He.AlD × Bool := (He.obsD fa fn (frW n g), ex (frW n g) && He.tabsB g tf (frW n g))
theorem saysV_of {n : Nat} {fa : List He.Fa} {fn : List He.DefD} {tf : List He.Defn} {ex : PySem.W.Frag → Bool} {h : Heap} (e : obsV n fa fn tf ex h.get? = (He.valD fn, true)) : SaysV fa fn tf ex h (frW n h.get?) := by
  have e1 := congrArg (fun z : He.AlD × Bool => z.1) e
  have e2 : (ex (frW n h.get?) && He.tabsB h.get? tf (frW n h.get?)) = true := congrArg (fun z : He.AlD × Bool => z.2) e
  obtain ⟨m1, m2⟩ := Bool.and_eq_true_iff.mp e2
  have at_ : ∀ p ∈ tf, PySem.W.codeHdIn (frW n h.get?) (He.cT (frW n h.get?) p).1 (He.cT (frW n h.get?) p).2 = true ∧ ∃ o, h.get? (He.cT (frW n h.get?) p).2 = some o ∧ He.emptyTab o = true := fun p hp => by
    obtain ⟨z1, z2⟩ := Bool.and_eq_true_iff.mp (List.all_eq_true.mp m2 p hp)
    refine ⟨z1, ?_⟩
    cases q : h.get? (He.cT (frW n h.get?) p).2 with
    | none => rw [q] at z2; cases z2
    | some o => rw [q] at z2; exact ⟨o, rfl, z2⟩
  refine ⟨e1, m1, fun p hp => (at_ p hp).1, fun p hp => ?_, fun p hp => ?_⟩
  · obtain ⟨_, o, q, z⟩ := at_ p hp
    exact He.frT_none q z
  · obtain ⟨_, o, q, z⟩ := at_ p hp
    rw [q, He.emptyTab_eq z]
def hookV (n : Nat) (fa : List He.Fa) (fn : List He.DefD) (tf : List He.Defn) (ex : PySem.W.Frag → Bool) : PySem.W.Hook where
  α := He.AlD × Bool
  obs := fun s => obsV n fa fn tf ex s.heap.get?
  val := fun _ => (He.valD fn, true)
  says := fun _ h => ∃ K : PySem.W.Frag, K.In h ∧ SaysV fa fn tf ex h K
  of := fun _ _ e => ⟨_, He.frT_in, saysV_of e⟩
  keeps := fun _ _ _ ⟨K, hK, c⟩ k => ⟨K, PySem.W.Frag.In.keeps hK k, ⟨c.d, c.more, c.hd, c.out, fun p hp => k _ _ (c.empty p hp)⟩⟩
theorem obsV_eq {n : Nat} {fa : List He.Fa} {fn : List He.DefD} {tf : List He.Defn} {ex : PySem.W.Frag → Bool} {g : Addr → Option Obj} {s : Shared} (h : ∀ a, g a = s.heap.get? a) : obsV n fa fn tf ex g = (hookV n fa fn tf ex).obs s := by
  have e : g = s.heap.get? := funext h
  rw [e] <;> rfl
/-- the code object of a def that the head tells -/
theorem code_of {K : PySem.W.Frag} {p : He.Defn} {qual : Str} {params : Arguments} {body : List Stmt} {scope : Scope} {dvs : List V} {kws : List (Str × V)} {x : Str} {fd : FuncData} (F : FunD K x qual params body scope dvs kws (He.fAd K p) fd) : fd.code = .ref (He.cT K p).1 := by
  obtain ⟨oc, od, dV, kV, doc, pm, an, cdv, ct, osl, rfl, lk, hcd, _, _⟩ := F.ex
  obtain ⟨c, hc⟩ := He.codeIn_ref hcd
  have e := He.codeOf_eq lk (c := c) hc
  show cdv = _
  rw [hc]
  show Value.ref c = .ref (He.codeOf K p)
  rw [e]
end Wf
/-! A law whose program makes defs: its beginning, by value; old contracts that let tables grow, by value. -/
namespace Pv
open PySem PySem.Spec L2 LamX NdefX Wf
theorem end_lawT {K : PySem.W.Frag} {T : List NTab} {cs : List (Addr × Addr)} {H : Hp} {a : Addr} {ns : List Int} (hl : ns.length ≤ 1000) (tn : TabsN T H) (hT : ∀ p ∈ cs, H p.2 = some (.tbl #[])) (hO : OnlyT cs a H) (hS : SqL K H a (ns.map V.int)) : LSp K T psp_law [.ref a] H (fun v _ => v = .bl true) fun _ _ _ => False := by
  have fin : ∀ (G : Hp) (w : Addr → Option Nat), Rep K (B0 T H w) G H [some (.ref a)] [.ow true (.scr ns)] [] [] w → LSp K T psp_law [.ref a] H (fun v _ => v = .bl true) fun _ _ _ => False := fun G w r => by
    refine ⟨G, w, [.ow true (.scr ns)], fun r _ => r = .im (.bool true), noX, r, fun s hs => ?_, ⟨ns, rfl, hl, rfl⟩, fun r δ' v H' G' w' hr _ _ rep => ?_, xok_no⟩
    · rw [List.mem_singleton] at hs
      exact .inr (.inr ⟨_, hs⟩)
    · subst hr
      have : Dq K G' v (.bool true) := rep.tm 0 v _ rfl rfl
      cases this
      rfl
  rcases hS with h | h
  · have ho : ∃ o, H a = some (.frz o (.lst (ns.map V.int))) := by
      rcases h with h | ⟨o, h⟩
      · rcases hO a _ h with ⟨p, hp, e⟩ | ⟨_, o, xs, z⟩
        · have := hT p hp
          rw [e, h] at this
          cases this
        · cases z
      · exact ⟨o, h⟩
    obtain ⟨o, ho⟩ := ho
    refine fin (fun _ => none) (fun b => if b = a then some 0 else none) ⟨(fun _ _ z => by cases z), fun b i hb => ?_, rfl, fun i s hs => ?_, rfl, fun j v q hv => by simp at hv, ⟨fun b u hb => B0_some hb, .refl, tn, nofun⟩⟩
    · split at hb
      · rename_i e
        subst e
        exact ⟨rfl, by rw [ho]; exact Option.some_ne_none _, NoX.of ho (fun _ z => by cases z) (fun _ _ z => by cases z) (fun _ z => by cases z)⟩
      · cases hb
    · match i, hs with
      | 0, hs =>
        cases hs
        exact ⟨.ref a, rfl, a, rfl, .inl ⟨o, if_pos rfl, ho⟩⟩
      | i + 1, hs => simp at hs
  · refine fin (fun _ => none) (fun _ => none) ⟨(fun _ _ z => by cases z), (fun _ _ z => by cases z), rfl, fun i s hs => ?_, rfl, fun j v q hv => by simp at hv, ⟨fun b u hb => B0_some hb, .refl, tn, nofun⟩⟩
    match i, hs with
    | 0, hs =>
      cases hs
      exact ⟨.ref a, rfl, a, rfl, .inr fun H1 => .inr h⟩
    | i + 1, hs => simp at hs
end Pv
/-! Lambdas that hold nothing: made, handed on, called; by value. -/
namespace Pv
open PySem PySem.Spec PyProof.Rows L2 LamX NdefX Wf
theorem clo_nil {cells : List (Str × Addr)} : ∀ {names : List (Str × NameKind)} {acc : List (Str × Addr)}, (∀ y ∈ names, y.2 ≠ .free) → cloFrom cells names acc = acc
  | [], acc, _ => rfl
  | (n, k) :: r, acc, h => by
    have hk : (k == NameKind.free) = false := by
      have := h (n, k) List.mem_cons_self
      cases k <;> first | rfl | exact absurd rfl this
    unfold cloFrom
    rw [hk]
    exact clo_nil fun y hy => h y (List.mem_cons_of_mem _ hy)
section
variable {X : Cx} {pins : List (Addr × Obj)} {σ : L2.St} {H : Hp} {s : Shared}
theorem inv_lam {F : LF} {o : Obj} {t' : Nat} {pm ctv : Value} (I : Inv X pins σ H s) (ho : o = PySem.W.kla_obj "<lambda>" F.qual F.params F.body F.scope [] pm F.c ctv) :
    Inv X pins σ (upd H s.heap.objs.size (LamO s.heap.objs.size F)) { s with heap := s.heap.push o, toks := t' } := by
  subst ho
  refine I.laid (a := s.heap.objs.size) (fun b u e => Heap.get?_push_of_some _ e) (Nat.le_refl _) ?_
  have e : (s.heap.push (PySem.W.kla_obj "<lambda>" F.qual F.params F.body F.scope [] pm F.c ctv)).get? s.heap.objs.size = some (PySem.W.kla_obj "<lambda>" F.qual F.params F.body F.scope [] pm F.c ctv) := Heap.get?_push_size _ rfl
  exact ⟨⟨pm, ctv, e⟩, ⟨_, e⟩, fun h1 h2 ⟨p, t, z⟩ st => ⟨p, t, st _ z⟩⟩
theorem lam_grow {T : List NTab} {nm : Nat → Nat → Str} {c P : Addr} {prm : Arguments} {bd : Expr} {sc : Scope} {pos : Pos} {E : Value → Shared → Prop} {Q : Value → Shared → Prop} (J : Inv X pins σ H s) (tb : TabB X.base X.mg c P) (ec : X.env.code = .ref c)
    (mem : (P, nm) ∈ T) (en : nm pos.line pos.col = X.env.qual ++ "<lambda>") (un : ∀ p ∈ T, p.1 = P → p.2 = nm) (tn : TabsN T H) (hdef : defaultsOf prm X.env = ([], [])) (fr : ∀ y ∈ sc.names, y.2 ≠ .free)
    (go : ∀ (f d : Addr) (H1 : Hp) (s' : Shared), Inv X pins σ H1 s' → ExtN H H1 → TbG T H H1 → H f = none → H1 f = some (LamO f ⟨X.env.qual ++ "<lambda>", prm, bd, sc, d⟩) → H1 d = some (CodeO d (X.env.qual ++ "<lambda>")) → d ≠ f → Q (.ref f) s') :
    wpAny (model X.prog X.w) X.A (eval (.Lambda prm bd sc pos) X.env) Q E s := by
  obtain ⟨ps, hP, tr, all⟩ := (show TabN H P nm from tn _ mem)
  have here : s.heap.get? P = some { cls := .none, data := .fields ps } := J.hok P _ hP
  have cl0 : cloFrom X.env.cells sc.names [] = [] := clo_nil fr
  have hcl : closureFor sc X.env = pure [] := by
    have := closure_ok (env := X.env) (scope := sc) fun y hy e => absurd e (fr y hy)
    rw [cl0] at this
    exact this
  refine PySem.W.kla_eval hdef ?_
  cases hc : codeAmong pos ps.toList with
  | none =>
    refine PySem.W.kla_makeFunction (mg := X.mg) (c := c) (P := P) (ps := ps) hcl J.ok.glob (J.mod.glob.keeps J.bk) ec (tb.code.keeps J.bk) here tr hc tb.gP (tb.bm.keeps J.bk) fun d ctv h' tk hx hge hlt hrec htb => ?_
    obtain ⟨d2, oc, us, t, e2, hoc, hdt, hus⟩ := hrec
    cases e2
    have nd : H d = none := J.hok.fresh hge
    have J1 := inv_table (t' := tk) (more := #[rawInt pos.line, rawInt pos.col, .ref d]) (h' := h') J hP (fun b o hb e => hx b o hb e) htb hge ⟨oc, us, t, hoc, hdt, hus⟩
    have g := tabs_grow (pos := pos) mem un hP nd
    rw [en] at g
    have nf := J1.hok.fresh (Nat.le_refl _)
    have J2 := inv_lam (F := ⟨X.env.qual ++ "<lambda>", prm, bd, sc, d⟩) (t' := tk) (pm := (X.mg "__name__").getD .none) (ctv := ctv) J1 rfl
    refine go h'.objs.size d _ _ J2 ((ext_grow hP nd).trans (.of (same_new nf))) (g.trans (.same (same_new nf))) (J.hok.fresh (Nat.le_trans hge (Nat.le_of_lt hlt))) upd_same ?_ (Nat.ne_of_lt hlt)
    exact (upd_ne (Nat.ne_of_lt hlt)).trans upd_same
  | some cv =>
    obtain ⟨d, e, hco⟩ := all pos cv hc
    subst e
    rw [en] at hco
    refine PySem.W.kla_makeFunctionHit (mg := X.mg) (c := c) (P := P) (ps := ps) hcl J.ok.glob (J.mod.glob.keeps J.bk) ec (tb.code.keeps J.bk) here tr hc (tb.bm.keeps J.bk) fun ctv h' tk hx hsz => ?_
    have J1 : Inv X pins σ H { s with heap := h', toks := tk } := J.kept hx
    have nf : H h'.objs.size = none := J1.hok.fresh (Nat.le_refl _)
    have J2 := inv_lam (F := ⟨X.env.qual ++ "<lambda>", prm, bd, sc, d⟩) (t' := tk) (pm := (X.mg "__name__").getD .none) (ctv := ctv) J1 rfl
    exact go h'.objs.size d _ _ J2 (.of (same_new nf)) (.same (same_new nf)) nf upd_same ((upd_ne (ne_of_none hco nf)).trans hco) (ne_of_none hco nf)
end
/-- a new lambda -/
def pLam (qual : Str) (prm : Arguments) (bd : Expr) (sc : Scope) : PX := fun δ Q => ∀ c, Q (.ow (.lam ⟨qual, prm, bd, sc, c⟩)) δ
theorem Rep.retLam {K : PySem.W.Frag} {B : Bas} {G H : Hp} {σ : L2.St} {δ : List Sl} {vs : List V} {rs : List R} {w : Addr → Option Nat} (r : Rep K B G H σ δ vs rs w) {f : Addr} {F : LF} (h1 : G f = some (LamO f F)) (h2 : G F.c = some (CodeO F.c F.qual)) : Rep K B G H σ δ [.ref f] [.ow (.lam F)] fun a => evn (w a) := by
  have r0 := r.drop
  refine ⟨r0.sub, r0.out, r0.len, r0.sl, rfl, fun j u q hu hq => ?_, r0.bs⟩
  match j with
  | 0 =>
    simp only [List.getElem?_cons_zero, Option.some.injEq] at hu hq
    subst hu hq
    exact ⟨f, rfl, h1, h2⟩
  | j + 1 => simp at hu
theorem je_lam {X : Cx} {B : Bas} {nm : Nat → Nat → Str} {c P : Addr} {prm : Arguments} {bd : Expr} {sc : Scope} {pos : Pos} (tb : TabB X.base X.mg c P) (ec : X.env.code = .ref c) (mem : (P, nm) ∈ B.T) (en : nm pos.line pos.col = X.env.qual ++ "<lambda>") (un : ∀ p ∈ B.T, p.1 = P → p.2 = nm)
    (fr : ∀ y ∈ sc.names, y.2 ≠ .free) (hdef : defaultsOf prm X.env = ([], [])) : JE X B (.Lambda prm bd sc pos) (pLam (X.env.qual ++ "<lambda>") prm bd sc) := by
  refine ⟨fun pins s σ H Q I ⟨G, w, δ, Qp, rep, q, k⟩ => ?_⟩
  refine lam_grow I tb ec mem en un (rep.bs.tt.ts rep.bs.ta) hdef fr fun f d H1 s' I1 e1 g1 f0 ff cc fd => ?_
  have hx : ∀ d' u, some (f, LamO f ⟨X.env.qual ++ "<lambda>", prm, bd, sc, d⟩) = some (d', u) → H d' = none ∧ H1 d' = some u ∧ NT u := fun d' u e => by
    cases e
    exact ⟨f0, ff, lamO_ne⟩
  obtain ⟨st, r2⟩ := rep.pub (x := some (f, LamO f ⟨X.env.qual ++ "<lambda>", prm, bd, sc, d⟩)) (fun a o n h => e1 a o h n) g1 hx
  have p1 : pubT G H1 (some (f, LamO f ⟨X.env.qual ++ "<lambda>", prm, bd, sc, d⟩)) f = some (LamO f ⟨X.env.qual ++ "<lambda>", prm, bd, sc, d⟩) := by
    unfold pubT
    dsimp only
    rw [if_pos rfl]
  have p2 : pubT G H1 (some (f, LamO f ⟨X.env.qual ++ "<lambda>", prm, bd, sc, d⟩)) d = some (CodeO d (X.env.qual ++ "<lambda>")) := by
    unfold pubT
    dsimp only
    rw [if_neg fd]
    cases e : G d with
    | some u =>
      have h1 := rep.sub d u e
      have h2 := e1 d u h1 fun ps z => rep.bs.gt d ps (by rw [e, z])
      rw [cc] at h2
      exact h2.symm
    | none =>
      dsimp only
      rw [if_pos ⟨none, _, cc, fun ⟨_, ⟨_, _, _, e1, e2, _⟩, _, _, _, e3, e4⟩ => by rw [e1] at e3; cases e3; rw [e2] at e4; cases e4⟩]
      exact cc
  exact ⟨.ref f, H1, I1, rfl, k _ δ _ H1 _ _ (q d) (st.trans .drop) (r2.retLam p1 p2)⟩
end Pv
/-! Lambdas called. -/
namespace Pv
open PySem PySem.Spec PyProof.Rows L2 LamX NdefX Wf
theorem run_lam {CX : CXT} {P : Program} {w : World} {K : PySem.W.Frag} {mg : Str → Option Value} {base : Heap} {k : Nat} {f : Addr} {F : LF} {N ps : List Str} (S : FnScope N ps F.scope)
    {A : Around} {outer : List Env} {s : Shared} {H : Hp} {us : List Value} {vs : List V} {Q : VK} {E : XK} (hr : Room (k + 1) A) (e0 : Env0 P w K mg base A outer s H) (hf : H f = some (LamO f F)) (hc : H F.c = some (CodeO F.c F.qual))
    (hb : ∀ pm ctv : Value, bindArgs (PySem.W.kla_fn "<lambda>" F.qual F.params F.body F.scope [] pm (.ref F.c) ctv) ⟨us, []⟩ = pure (ps.zip us)) (r : Vals vs us) (hl : vs.length = ps.length)
    (hbody : Room k (A.deeper (envOfC F.qual F.scope s.heap.objs.size f (.ref F.c))) → ∃ t, PE (cxOf CX P w K mg base N F.qual F.scope f (.ref F.c) A outer s H E) F.body t ∧ t (L2.start N vs) H Q) :
    codeAny (model P w) A (.call (.ref f) ⟨us, []⟩) (CR CX outer P w H s Q E) s := by
  have lim : s.heap.NoLimit := e0.mod.nolimit.keeps fun b o e => (e0.bs b o e).1
  obtain ⟨⟨pm, ctv, of1⟩, _, _⟩ := e0.hok f _ hf
  have hkind : ∀ y ∈ ps.zip us, F.scope.names.lookup y.1 = some .local ∨ (F.scope.names.lookup y.1 = some .cell ∧ ((cellsFrom (s.heap.objs.size + 1) F.scope.names []).lookup y.1).isSome = true) := fun ⟨n, v⟩ hy => by
    rcases S.par n (List.of_mem_zip hy).1 with q | q
    · exact .inl q
    · exact .inr ⟨q, PySem.W.cellsFrom_some _ _ _ (.inl q)⟩
  refine PySem.W.kla_callFunE hr.depth of1 rfl S.co S.gen rfl (codeO_at e0.hok hc) ?_
  rw [hb]
  refine wpAny_pure (wpAny_newFunctionEnv_cells S.kind hkind fun env he s1 x => ?_)
  subst he
  refine ⟨lim.keeps x.toInCall.keep, ?_⟩
  obtain ⟨t, ht, hq⟩ := hbody (hr.deeper _)
  have I : Inv (cxOf CX P w K mg base N F.qual F.scope f (.ref F.c) A outer s H E) [] (L2.start N vs) H s1 := inv_start S hr.hd e0 hl r x
  refine PySem.W.kla_codeExpr (wpAny_mono (ht.run [] s1 (L2.start N vs) H Q I hq) (fun v s' hs => ?_) fun e s' hs => hs)
  obtain ⟨u, H', J, rv, q⟩ := hs
  exact ⟨u, H', J.os, J.bare, J.base, J.hok, rv, q⟩
/-- a lambda of two numbers that tells a truth -/
def LamOk (P : Program) (w : World) (K : PySem.W.Frag) (mg : Str → Option Value) (F : LF) (g : Int → Int → Bool) : Prop := ∀ (base : Heap) (A : Around) (outer : List Env) (s : Shared) (H : Hp) (f : Addr) (x y : Int) (us : List Value) (Q : VK), Room 1 A → Env0 P w K mg base A outer s H → H f = some (LamO f F) → H F.c = some (CodeO F.c F.qual) → Vals [.int x, .int y] us → Q (.bl (g x y)) H →
  codeAny (model P w) A (.call (.ref f) ⟨us, []⟩) (CR CX0 outer P w H s Q E0) s
def pCallL (i : Nat) (L : LF → (Int → Int → Bool) → Prop) (ps : PL) : PX := fun δ Q => ∃ b F g, δ[i]? = some (.ow b (.lam F)) ∧ L F g ∧ ps δ fun rs δ1 => ∃ b1 x y, δ1[i]? = some (.ow b1 (.lam F)) ∧ dats δ1 rs = some [.int x, .int y] ∧ Q (.im (.bool (g x y))) δ1
theorem lam_at {X : Cx} {pins : List (Addr × Obj)} {σ : L2.St} {H : Hp} {s : Shared} {f : Addr} {F : LF} (I : Inv X pins σ H s) (h : H f = some (LamO f F)) : ∃ pm ctv : Value, s.heap.get? f = some (PySem.W.kla_obj "<lambda>" F.qual F.params F.body F.scope [] pm F.c ctv) := (I.hok f _ h).1
theorem je_callL {X : Cx} {B : Bas} {j i : Nat} {L : LF → (Int → Int → Bool) → Prop} {x : Str} {e1 e2 : Expr} {ps : PL} {p pos : Pos} (hL : ∀ F g, L F g → LamOk X.prog X.w X.K X.mg F g) (hr : Room j X.A) (hN : X.N[i]? = some x) (hv : Vis X.env.scope x) (ha : JA X B [e1, e2] ps) (hk : 1 ≤ j := by decide)
    (hd : (x == ("__debug__" : Str)) = false := by decide) (hcd : (x == ("__classdict__" : Str)) = false := by decide)
    (he : starEach [e1, e2] X.env = (false, eval e1 X.env) :: starEach [e2] X.env := by rfl) (hpl : (backTo pos (starEach [e2] X.env)).any (·.1) = false := by rfl) :
    JE X B (.Call (.Name x p) [e1, e2] [] pos) (pCallL i L ps) := by
  refine ⟨fun pins s σ H Q I ⟨G, w, δ, Qp, rep, q, kk⟩ => ?_⟩
  obtain ⟨b, F, g, h0, hLg, q⟩ := q
  obtain ⟨v0, hσ, f, rfl, g1, g2⟩ := rep.sl i _ h0
  refine wpAny_Call_Name_kw (thn ((pe_var (pos := p) hN hv hd hcd).run pins s σ H (fun v H1 => v = .ref f ∧ H1 = H) I ⟨.ref f, hσ, rfl, rfl⟩) fun u s1 ⟨v, H1, I1, r1, ev, eH⟩ => ?_)
  subst ev
  rw [eH] at I1
  obtain rfl : u = Value.ref f := r1
  have fa : ∀ {H2 : Hp} {s2 : Shared}, Inv X pins σ H2 s2 → H2 f = some (LamO f F) → PySem.W.FnAt f s2.heap := fun I2 h => by
    obtain ⟨pm, ctv, ho⟩ := lam_at I2 h
    exact ⟨_, _, _, _, ho⟩
  refine PySem.W.callWith_F (first := []) (fa I1 (rep.sub f _ g1)) (thn (ha.run pos pins s1 σ H (fun vs H2 => ∃ rs δ1 G2 w2 x y, dats δ1 rs = some [.int x, .int y] ∧ Qp (.im (.bool (g x y))) δ1 ∧ Stp B.T G H w δ G2 H2 w2 δ1 ∧ Rep X.K B G2 H2 σ δ1 vs rs w2) I1 ⟨G, w, δ, _, rep, q, fun rs δ1 vs H2 G2 w2 q2 l2 st rep2 => ?_⟩) fun us s2 ⟨vs, H2, I2, r, rs, δ1, G2, w2, x1, y1, hdt, q2, st, rep2⟩ => ?_) he hpl
  · obtain ⟨b1, x1, y1, _, hdt, q3⟩ := q2
    exact ⟨rs, δ1, G2, w2, x1, y1, hdt, q3, st, rep2⟩
  · have ev := vws2 (rep2.vws hdt)
    subst ev
    have f1 : H2 f = some (LamO f F) := rep2.sub f _ (st.g f _ g1)
    have f2 : H2 F.c = some (CodeO F.c F.qual) := rep2.sub _ _ (st.g _ _ g2)
    refine ⟨fa I2 f1, wpAny_call (codeAny_mono (hL F g hLg X.base X.A X.stack s2 H2 f x1 y1 us Q (hr.mono hk) I2.env0 f1 f2 r (kk _ δ1 _ H2 G2 _ q2 (st.trans .drop) (rep2.ret (.bl _)))) fun rr s' hq => ?_)⟩
    cases rr with
    | error er => exact False.elim hq
    | ok fl =>
      cases fl with
      | ret u => exact I2.after hq
      | next => exact False.elim hq
      | brk => exact False.elim hq
      | cont => exact False.elim hq
end Pv
/-! sorted(range(n), key=a lambda that holds a name). -/
namespace Pv
open PySem PySem.Spec PyProof.Rows L2 LamX NdefX Wf SrtO Srt
/-! ### a lambda that holds names, called -/
/-! ### list.sort(key=f) -/
section
variable {X : Cx} {A : Around} {pins : List (Addr × Obj)} {σ : L2.St} {H : Hp} {s : Shared} {a kS f : Addr} {e e1 : Nat} {P : PySem.Fin → Shared → Prop} {E : Value → Shared → Prop}
def KeysAt (H : Hp) (kf : Int → Int × Int) (us : List Value) (ns : List Int) : Prop := ∃ ps : List Addr, us = ps.map Value.ref ∧ ps.length = ns.length ∧ ∀ (j : Nat) p n, ps[j]? = some p → ns[j]? = some n → H p = some (.tup [.int (kf n).1, .int (kf n).2])
theorem KeysAt.mono {H H' : Hp} {kf : Int → Int × Int} {us : List Value} {ns : List Int} (k : KeysAt H kf us ns) (h : ∀ b xs, H b = some (.tup xs) → H' b = some (.tup xs)) : KeysAt H' kf us ns := by
  obtain ⟨ps, e, hl, hk⟩ := k
  exact ⟨ps, e, hl, fun j q m hq hm => h _ _ (hk j q m hq hm)⟩
end
section
variable {X : Cx} {pins : List (Addr × Obj)} {σ : L2.St} {H : Hp} {s : Shared} {f r : Addr} {E : Value → Shared → Prop} {Q : Value → Shared → Prop}
theorem vals_ints : ∀ {ns : List Int} {us : List Value}, IntsAre us ns → Vals (ns.map V.int) us
  | _, _, .nil => .nil
  | _, _, .cons n t h => .cons ⟨t, rfl⟩ (vals_ints h)
end
end Pv
/-! A def whose code object is known, by value; the lambda of a def. -/
namespace Pv
open PySem PySem.Spec PyProof.Rows L2 LamX NdefX Wf
def lamIn (st : Stmt) : Expr := match C8.fnBody st with
  | [.Return (some (.Call _ [_, _, l] _ _)) _] => l
  | _ => .Constant (.int 0) 0 ⟨0, 0, 0, 0⟩
def lamB : Expr → Expr
  | .Lambda _ b _ _ => b
  | e => e
def lamA : Expr → Arguments
  | .Lambda p _ _ _ => p
  | _ => C8.fnArgs (.Pass ⟨0, 0, 0, 0⟩)
def lamS : Expr → Scope
  | .Lambda _ _ s _ => s
  | _ => C8.fnScope (.Pass ⟨0, 0, 0, 0⟩)
theorem fn_okC {T : List NdefX.NTab} {P : Program} {w : World} {K : PySem.W.Frag} {mg : Str → Option Value} {base : Heap} {CX : CXT} {k : Nat} {f c : Addr} {fd : FuncData} {x qual : Str} {params : Arguments} {body : List Stmt} {scope : Scope} {dvs : List V} {kws : List (Str × V)} {N prm : List Str} {psp : PSp} {p : EX → PSx} {m n : Nat}
    (F : FunD K x qual params body scope dvs kws f fd) (hc : fd.code = .ref c) (S : FnScope N prm scope) (hN : N.length = m) (hn : prm.length = n) (hnm : n ≤ m) (hlen : ∀ as Qp Ep, psp as Qp Ep → as.length = n)
    (hb : ∀ (A : Around) (outer : List Env) (s : Shared) (H : Hp) (E : XK) (Bh Bt : Hp) (Ep : EX), Room k (A.deeper (PyProof.Rows.envOfC qual scope s.heap.objs.size f (.ref c))) → XOk K ⟨Bh, Bt, T⟩ Ep E → JSs (cxOf CX P w K mg base N qual scope f (.ref c) A outer s H E) ⟨Bh, Bt, T⟩ body (p Ep))
    (hp : ∀ as Qp Ep, psp as Qp Ep → p Ep (endsP as Qp) (as ++ List.replicate (m - n) .un)) : FnOk P w K mg base CX (k + 1) f fd prm (LSp K T psp) := by
  have ln : ∀ vs H Q E, LSp K T psp vs H Q E → vs.length = n := fun vs H Q E ⟨G, w, as, Qp, Ep, rep, _, h, _⟩ => by
    have := rep.len
    rw [List.length_map, hlen as Qp Ep h] at this
    exact this
  refine okC F hc S (fun vs H Q E h => by rw [hn]; exact ln vs H Q E h) fun A outer s H vs Q E hr h => ?_
  obtain ⟨Bh, Bt, Ep, hx, hl⟩ := fn_lift (N := N) (p := p) hN (fun as Qp Ep h => by rw [hlen as Qp Ep h]; exact hp as Qp Ep h) h (by rw [ln vs H Q E h]; exact hnm)
  exact ⟨_, hb A outer s H E Bh Bt Ep hr hx, hl⟩
end Pv
/-! sorted(range(n), key=lambda i: (x[i], i)), by value. -/
namespace Pv
open PySem PySem.Spec PyProof.Rows L2 LamX NdefX Wf SrtO Srt
end Pv
namespace Pv
open PySem PySem.Spec L2 Wf
/-! ### _law_row, _law_led -/
def ledN (B : Book) (r : List Wk) (ks : List Nat) : List Wk := ks.foldl (passR B) r
def fwdW (B : Book) : List Wk → List Nat → Prop
  | _, [] => True
  | r, k :: ks => (k + 1 < r.length ∧ (wk r (k + 1)).1 < (wk r k).1) ∧ fwdW B (passR B r k) ks
theorem ledN_ok {B : Book} {m : Int} (bk : BookOk m B) : ∀ {ks : List Nat} {r : List Wk}, RowOk m B.s r → fwdW B r ks → RowOk m B.s (ledN B r ks) ∧ (ledN B r ks).length = r.length
  | [], r, ok, _ => ⟨ok, rfl⟩
  | k :: ks, r, ok, h => by
    have h2 := ledN_ok bk (passR_ok bk ok h.1.1 h.1.2) h.2
    rw [passR_len] at h2
    exact h2
def pb_lled_1 : PSx :=
    pSeq (pAsg (pIx (pVar 3) (pVar 4)) (gT 2 (gsC (gN 5) (gsC (gN 6) (gsN)))))
    (pSeq (pAsg (pIx (pVar 3) (pAdd (pVar 4) (pK (.int 1)))) (gT 2 (gsC (gN 7) (gsC (gN 8) (gsN)))))
    (pSeq (pAsg (pCall psp_ltpair (pCons (pFz (pVar 0)) (pCons (pFz (pVar 5)) (pCons (pFz (pVar 7)) (pCons (pFz (pVar 6)) (pCons (pFz (pVar 8)) (pNil)))))) noX) (gT 2 (gsC (gN 9) (gsC (gN 10) (gsN)))))
    (pAsg (pTup (pCons (pTup (pCons (pVar 7) (pCons (pVar 9) (pNil)))) (pCons (pTup (pCons (pVar 5) (pCons (pVar 10) (pNil)))) (pNil)))) (gT 2 (gsC (gSx (pVar 3) (pVar 4)) (gsC (gSx (pVar 3) (pAdd (pVar 4) (pK (.int 1)))) (gsN)))))))
def p_lled : PSx :=
    pSeq (pSet 3 (pC (q1L fListOf) (pCons (pVar 1) (pNil))))
    (pSeq (pFor [4, 5, 6, 7, 8, 9, 10] (iSeq (pVar 2)) (gN 4) (pb_lled_1))
    (pRet (pC (q1 fTupleOf) (pCons (pVar 3) (pNil)))))
def psp_lled : PSp := fun as Q _ => ∃ (B : Book) (m : Int) (r : List Wk) (ks : List Nat) (d : PyData), as = [.im (dB B), .im (dR r), .im d] ∧ seqD d = some (dN ks) ∧ BookOk m B ∧ RowOk m B.s r ∧ fwdW B r ks ∧ Q (.im (dR (ledN B r ks))) [.un, .un, .un]
theorem hp_lled (as : List Sl) (Qp : QE) (Ep : EX) (h : psp_lled as Qp Ep) : p_lled (endsP as Qp) (as ++ List.replicate 8 .un) := by
  obtain ⟨B, m, r, ks, d, rfl, hd, bk, ok, fw, q⟩ := h
  refine ⟨_, _, rfl, ?_⟩
  refine ⟨_, _, _, rfl, hd, ?_⟩
  refine ⟨fun i δ => ∃ r', RowOk m B.s r' ∧ fwdW B r' (ks.drop i) ∧ ledN B r ks = ledN B r' (ks.drop i) ∧ δ = [.im (dB B), .im (dR r), .im d, .ow false (.lst (r'.map dP)), .un, .un, .un, .un, .un, .un, .un], ⟨r, ok, fw, rfl, rfl⟩, ?_, ?_⟩
  · rintro i x δ hx ⟨r', ok', fw', he, rfl⟩
    rw [List.getElem?_map] at hx
    obtain ⟨j, hk, rfl⟩ := Option.map_eq_some_iff.mp hx
    have hi := (List.getElem?_eq_some_iff.mp hk).1
    have ed : ks.drop i = j :: ks.drop (i + 1) := by
      rw [List.drop_eq_getElem_cons hi, (List.getElem?_eq_some_iff.mp hk).2]
    rw [ed] at he fw'
    obtain ⟨⟨hj, c3⟩, fw2⟩ := fw'
    refine ⟨_, atW rfl (show j < r'.length by omega), _, _, rfl, rfl, rfl, ?_⟩
    refine ⟨_, atW (j := j + 1) (by omega) hj, _, _, rfl, rfl, rfl, ?_⟩
    refine ⟨_, _, rfl, _, _, rfl, _, _, rfl, _, _, rfl, _, _, rfl, _, rfl, List.nodup_nil, B, m, _, _, _, _, rfl, bk, pl_of ok' hj c3, ?_⟩
    refine ⟨_, _, rfl, rfl, rfl, ?_⟩
    refine ⟨_, _, rfl, rfl, ?_⟩
    refine ⟨_, _, _, _, j, rfl, rfl, rfl, ixNn rfl (by rw [List.length_map]; omega), ?_⟩
    refine ⟨_, _, _, _, j + 1, rfl, rfl, rfl, ixNn (by omega) (by rw [List.length_set, List.length_map]; omega), rfl, ?_⟩
    refine ⟨passR B r' j, passR_ok bk ok' hj c3, fw2, he, ?_⟩
    have e : ((r'.map dP).set j (.tuple [.int (wk r' (j + 1)).1, .int (B.at (wk r' j).1 (wk r' (j + 1)).1 (wk r' j).2 (wk r' (j + 1)).2).1])).set (j + 1) (.tuple [.int (wk r' j).1, .int (B.at (wk r' j).1 (wk r' (j + 1)).1 (wk r' j).2 (wk r' (j + 1)).2).2]) = (passR B r' j).map dP := by
      unfold passR
      rw [← setW, ← setW]
      rfl
    rw [← e]
    rfl
  · rintro δ ⟨r', ok', fw', he, rfl⟩
    rw [dN_len, List.drop_length] at he
    rw [he] at q
    exact ⟨_, _, rfl, q⟩
/-! ### data of rows, for repr and alike -/
theorem noL_dR (r : List Wk) : noL (dR r) = true := noLAll_dP r
theorem wt_dR (r : List Wk) : wt (dR r) ≤ 3 * r.length + 1 := by
  have : wtAll (r.map dP) ≤ 3 * r.length := wt_map dP 3 (fun _ => Nat.le_refl _) r
  show wtAll (r.map dP) + 1 ≤ _
  omega
theorem mem_cutD {α : Type} {xs : List α} {lo hi : Option Int} {x : α} (h : x ∈ cutD xs lo hi) : x ∈ xs := List.mem_of_mem_drop (List.mem_of_mem_take h)
theorem cutD_len {α : Type} (xs : List α) (lo hi : Option Int) : (cutD xs lo hi).length ≤ xs.length := by
  unfold cutD
  rw [List.length_take, List.length_drop]
  omega
end Pv
/-! Calls that draw: what stands in the slots stays, as it is written. -/
namespace Pv
open PySem PySem.Spec L2 Wf
theorem pk0 {s : Sl} {b : Bool} {d : PyData} {δ : List Sl} : putB (.ow b .deal :: δ) [.at 0, .im d] [.ow true .deal, s] = .ow b .deal :: δ := rfl
end Pv
namespace Pv
open PySem PySem.Spec L2 Wf
/-! ### slices, equal data -/
theorem cut_take {α : Type} (xs : List α) (k : Nat) : cutD xs none (some (k : Int)) = xs.take k := by
  unfold cutD
  rw [HT.sIx_none, HT.sIx_nat, List.drop_zero, Nat.sub_zero]
  by_cases h : k ≤ xs.length
  · rw [Nat.min_eq_left h]
  · rw [Nat.min_eq_right (by omega), List.take_length, List.take_of_length_le (by omega)]
theorem cut_map {α β : Type} (f : α → β) (xs : List α) (lo hi : Option Int) : cutD (xs.map f) lo hi = (cutD xs lo hi).map f := by
  unfold cutD
  rw [List.length_map, List.map_take, List.map_drop]
theorem shapedT_map {α : Type} (f : α → PyData) (n : Nat) (hn : n < 64) (l : List α) (h : ∀ x ∈ l, (f x).canLay0 = true ∧ (f x).depth ≤ n) : SeqAt.shaped (.tuple (l.map f)) = true := by
  have h := lay_map f n l h
  have h2 : (PyData.tuple (l.map f)).depth ≤ n + 1 := Nat.succ_le_succ h.2
  unfold SeqAt.shaped
  rw [show (PyData.tuple (l.map f)).canLay0 = true from h.1]
  simp
  omega
theorem eqd_self {d : PyData} (h : SeqAt.shaped d = true) : eqd d d = true := SeqAt.eqv_refl d (SeqAt.canLay_of_shaped h)
theorem lay_dP (p : Wk) : (dP p).canLay0 = true ∧ (dP p).depth ≤ 1 := ⟨rfl, by show max 0 (max 0 0) + 1 ≤ 1; decide⟩
theorem shaped_dR (r : List Wk) : SeqAt.shaped (dR r) = true := shapedT_map dP 1 (by decide) r fun p _ => lay_dP p
/-! ### kinds of rows, forward words -/
def kindsN (r : List Wk) : List Nat := r.map fun p => p.1.toNat
theorem kindsN_len (r : List Wk) : (kindsN r).length = r.length := List.length_map _
theorem kindsN_get {r : List Wk} {k : Nat} (h : k < r.length) : (kindsN r).getD k 0 = (wk r k).1.toNat := by
  unfold kindsN
  simp [List.getD, List.getElem?_map, wk_get h]
theorem kinds_pass (B : Book) {r : List Wk} {k : Nat} (h : k + 1 < r.length) : kindsN (passR B r k) = swp (kindsN r) k := by
  unfold passR swp
  rw [kindsN_get h, kindsN_get (show k < r.length by omega)]
  unfold kindsN
  rw [List.map_set, List.map_set]
def iW (ws : List Nat) : List Int := ws.map fun k : Nat => (k : Int)
theorem ledG_fwd {B : Book} : ∀ {ws : List Nat} {r : List Wk} {n : Nat}, fwdW B r ws → ledG B n r (iW ws) = .inr (ledN B r ws)
  | [], r, n, _ => rfl
  | k :: ws, r, n, h => by
    have c : canP r (k : Int) = true := by
      have h1 := h.1.1
      have h2 := h.1.2
      unfold canP
      simp
      omega
    show (if canP r (k : Int) = true then ledG B (n + 1) (passR B r (k : Int).toNat) (iW ws) else .inl n) = _
    rw [if_pos c]
    exact ledG_fwd (ws := ws) h.2
theorem fwd_of_word {B : Book} {m : Int} (bk : BookOk m B) : ∀ {ws : List Nat} {r : List Wk}, RowOk m B.s r → wordOk false (kindsN r) ws → fwdW B r ws
  | [], _, _, _ => trivial
  | k :: ws, r, ok, h => by
    have h1 := h.1.1
    rw [kindsN_len] at h1
    have h2 : (wk r (k + 1)).1 < (wk r k).1 := by
      rcases h.1.2 with z | z
      · rw [kindsN_get h1, kindsN_get (show k < r.length by omega)] at z
        have := (wk_ok ok h1).1
        have := (wk_ok ok (show k < r.length by omega)).1
        omega
      · exact absurd z.1 (by decide)
    refine ⟨⟨h1, h2⟩, fwd_of_word bk (passR_ok bk ok h1 h2) ?_⟩
    rw [kinds_pass B h1]
    exact h.2
theorem dN_iW (ws : List Nat) : dN ws = (iW ws).map PyData.int := by unfold iW; rw [List.map_map]; rfl
theorem iW_len (ws : List Nat) : (iW ws).length = ws.length := List.length_map _
theorem dK_iW (ws : List Nat) : dK (iW ws) = .tuple (dN ws) := by rw [dN_iW]; rfl
/-- the kinds of a row, as data -/
theorem kinds_data {m s : Int} {r : List Wk} (ok : RowOk m s r) : (r.map fun p => PyData.int p.1) = dN (kindsN r) := by
  unfold kindsN dN
  rw [List.map_map]
  refine List.map_congr_left fun p hp => ?_
  have := (ok p hp).1
  show PyData.int p.1 = .int ((p.1.toNat : Nat) : Int)
  rw [Int.toNat_of_nonneg this]
end Pv
namespace Pv
open PySem PySem.Spec L2 Wf
/-! ### in, not in: texts or numbers in a tuple or list of such -/
/-! ### repr of a list -/
end Pv
/-! tuple(zip(t, u)), t and u tuples of one length -/
namespace Wf
open PySem PySem.Spec PyProof.Rows
end Wf
namespace Pv
open PySem PySem.Spec L2 Wf
variable {B : Bas}
/-! ### tuple(zip(t, u)) -/
theorem dpAll_zip {K : PySem.W.Frag} {H3 : Hp} : ∀ {ps : List Addr} {xs ys : List V} {ds es : List PyData}, DpAll K H3 xs ds → DpAll K H3 ys es → ps.length = xs.length → xs.length = ys.length →
    (∀ (i : Nat) (p : Addr), ps[i]? = some p → ∃ u v, xs[i]? = some u ∧ ys[i]? = some v ∧ H3 p = some (.tup [u, v])) → DpAll K H3 (ps.map V.ref) (zipD ds es)
  | [], xs, ys, ds, es, h1, h2, l1, l2, h => by
    cases h1 with
    | nil => exact .nil
    | cons a b => simp at l1
  | p :: ps, xs, ys, ds, es, h1, h2, l1, l2, h => by
    cases h1 with
    | nil => simp at l1
    | cons a b =>
      cases h2 with
      | nil => simp at l2
      | cons a' b' =>
        obtain ⟨u, v, e1, e2, e3⟩ := h 0 p rfl
        simp only [List.getElem?_cons_zero, Option.some.injEq] at e1 e2
        subst e1 e2
        exact .cons (.tup (SqT.of e3) (.cons a (.cons a' .nil))) (dpAll_zip b b' (by simpa using l1) (by simpa using l2) fun i q hq => by
          obtain ⟨u, v, f1, f2, f3⟩ := h (i + 1) q (by simpa using hq)
          exact ⟨u, v, by simpa using f1, by simpa using f2, f3⟩)
theorem noL_zip : ∀ {ds es : List PyData}, noLAll ds = true → noLAll es = true → noLAll (zipD ds es) = true
  | [], _, _, _ => by simp [zipD, noLAll]
  | _ :: _, [], _, _ => by simp [zipD, noLAll]
  | d :: ds, e :: es, h1, h2 => by
    have h1' := Bool.and_eq_true_iff.mp (show (noL d && noLAll ds) = true from h1)
    have h2' := Bool.and_eq_true_iff.mp (show (noL e && noLAll es) = true from h2)
    show ((noL d && (noL e && true)) && noLAll (zipD ds es)) = true
    rw [h1'.1, h2'.1, noL_zip h1'.2 h2'.2]
    rfl
section
variable {X : Cx}
/-! ### xs[::-1] of a list -/
def pRevL (p : PX) : PX := fun δ Q => p δ fun r δ1 => ∃ ds, dat δ1 r = some (.list ds) ∧ Q (.ow (.lst ds.reverse)) δ1
theorem dqAll_rev {K : PySem.W.Frag} {G : Hp} : ∀ {us : List V} {ds : List PyData}, DqAll K G us ds → DqAll K G us.reverse ds.reverse
  | _, _, .nil => .nil
  | _, _, .cons h1 h2 => by
    rw [List.reverse_cons, List.reverse_cons]
    exact dqAll_append (dqAll_rev h2) (.cons h1 .nil)
theorem je_revL {e : Expr} {pe : PX} {k : Nat} {p1 p2 p3 pos : Pos} (he : JE X B e pe) : JE X B (.Subscript e (.Slice none none (some (.UnaryOp .USub (.Constant (.int 1) k p1) p2)) p3) pos) (pRevL pe) := by
  refine PE_wk (pe_revL he) fun σ H Q ⟨G, w, δ, Qp, rep, q, kk⟩ => ?_
  refine ⟨G, w, δ, _, rep, q, fun r δ1 v H1 G1 w1 q1 s1 rep1 => ?_⟩
  obtain ⟨ds, hd, q1⟩ := q1
  obtain ⟨a, us, rfl, ha, hds⟩ := Vw.seqL rep1.sub (rep1.dat (j := 0) rfl rfl hd)
  refine ⟨a, us, rfl, SqL.of ha, fun p hp => ?_⟩
  obtain ⟨w', st, r2⟩ := rep1.retLst hp (dqAll_rev hds)
  exact kk _ _ _ _ _ _ q1 (s1.trans st) r2
end
end Pv
namespace Pv
open PySem PySem.Spec L2 Wf
/-! ### burdens_of -/
theorem noPin2 {δ : List Sl} {u v : Nat} (h1 : ∀ o, δ[u]? ≠ some (.ow true o)) (h2 : ∀ o, δ[v]? ≠ some (.ow true o)) : noPin δ [u, v] := fun x hx o => by
  simp only [List.mem_cons, List.not_mem_nil, or_false] at hx
  rcases hx with rfl | rfl
  · exact h1 o
  · exact h2 o
/-! ### both_ways -/
structure Tri (m : Int) (s u v w a b c : Int) : Prop where
  w0 : 0 ≤ w
  wv : w < v
  vu : v < u
  um : u < m
  a0 : 0 ≤ a
  a1 : a < s
  b0 : 0 ≤ b
  b1 : b < s
  c0 : 0 ≤ c
  c1 : c < s
abbrev tri (u v w a b c : Int) : List Wk := [(u, a), (v, b), (w, c)]
theorem Tri.ok {m s u v w a b c : Int} (h : Tri m s u v w a b c) : RowOk m s (tri u v w a b c) := fun p hp => by
  have := h.w0; have := h.wv; have := h.vu; have := h.um
  have := h.a0; have := h.a1; have := h.b0; have := h.b1; have := h.c0; have := h.c1
  simp only [List.mem_cons, List.not_mem_nil, or_false] at hp
  rcases hp with rfl | rfl | rfl
  · exact ⟨by show 0 ≤ u; omega, by show u < m; omega, by show 0 ≤ a; omega, by show a < s; omega⟩
  · exact ⟨by show 0 ≤ v; omega, by show v < m; omega, by show 0 ≤ b; omega, by show b < s; omega⟩
  · exact ⟨by show 0 ≤ w; omega, by show w < m; omega, by show 0 ≤ c; omega, by show c < s; omega⟩
theorem led_fwd' {C : Addr} {B : Book} {m : Int} {r : List Wk} {ws : List Nat} {d : PyData} {Q : QE} {Ep : EX} (hd : d = .tuple (dN ws)) (bk : BookOk m B) (ok : RowOk m B.s r) (l1 : r.length ≤ 1000) (l2 : ws.length ≤ 1000) (fw : fwdW B r ws) (q : Q (.im (dR (ledN B r ws))) [.un, .un, .un]) : psp_led_by C [.im (dB B), .im (dR r), .im d] Q Ep := by
  refine ⟨B, m, r, iW ws, by rw [hd, dK_iW], bk, ok, l1, by rw [iW_len]; exact l2, ?_⟩
  rw [ledG_fwd fw]
  exact q
end Pv
namespace Pv
open PySem PySem.Spec L2 Wf
/-! ### pairs_passed, is_forward, last_order -/
end Pv
/-! Normal words: they lead to their order, forward where the order is. -/
namespace Pv
open PySem PySem.Spec L2 Wf
def runW (m c : Nat) : List Nat := (List.range c).map fun s => m - 1 - s
theorem runW_len (m c : Nat) : (runW m c).length = c := by unfold runW; rw [List.length_map, List.length_range]
theorem getD_app (A rest : List Nat) (b : Nat) : (A ++ b :: rest).getD A.length 0 = b := by
  rw [List.getD, List.getElem?_append_right (Nat.le_refl _), Nat.sub_self]; rfl
theorem getD_app1 (A rest : List Nat) (b m : Nat) : (A ++ b :: m :: rest).getD (A.length + 1) 0 = m := by
  rw [List.getD, List.getElem?_append_right (by omega), show A.length + 1 - A.length = 1 by omega]; rfl
theorem swp_mid (A rest : List Nat) (b m : Nat) : swp (A ++ b :: m :: rest) A.length = A ++ m :: b :: rest := by
  unfold swp
  rw [getD_app, getD_app1, List.set_append_right _ _ (Nat.le_refl _), Nat.sub_self, List.set_append_right _ _ (by omega), show A.length + 1 - A.length = 1 by omega]
  rfl
theorem swp_map (kf : Nat → Nat) {xs : List Nat} {k : Nat} (h : k + 1 < xs.length) : swp (xs.map kf) k = (swp xs k).map kf := by
  have g : ∀ j, j < xs.length → (xs.map kf).getD j 0 = kf (xs.getD j 0) := fun j hj => by
    rw [List.getD, List.getD, List.getElem?_map, List.getElem?_eq_getElem hj]; rfl
  unfold swp
  rw [g _ h, g k (by omega), List.map_set, List.map_set]
theorem goW_map (kf : Nat → Nat) : ∀ {ws xs : List Nat}, (∀ w ∈ ws, w + 1 < xs.length) → goW (xs.map kf) ws = (goW xs ws).map kf
  | [], xs, _ => rfl
  | w :: ws, xs, h => by
    show goW (swp (xs.map kf) w) ws = (goW (swp xs w) ws).map kf
    rw [swp_map kf (h w List.mem_cons_self)]
    exact goW_map kf fun v hv => by rw [swp_len]; exact h v (List.mem_cons_of_mem _ hv)
/-! ### an order, walker by walker -/
def resN (os : List Nat) (m : Nat) : List Nat := os.filter fun i => decide (i < m)
structure Spl (os : List Nat) (m : Nat) (X Y : List Nat) : Prop where
  eq : os = X ++ m :: Y
  nX : m ∉ X
  nY : m ∉ Y
  ix : os.idxOf m = X.length
  af : ∀ i, i ≠ m → i ∈ os → (i ∈ Y ↔ X.length < os.idxOf i)
theorem Spl.res {os X Y : List Nat} {m : Nat} (s : Spl os m X Y) : resN os m = X.filter (fun i => decide (i < m)) ++ Y.filter fun i => decide (i < m) := by
  unfold resN
  rw [s.eq, List.filter_append, List.filter_cons, if_neg (by simp)]
/-! ### kinds -/
theorem kf_range (ks : List Nat) : (List.range ks.length).map (fun i => ks.getD i 0) = ks := by
  refine List.ext_getElem (by simp) fun i h1 h2 => ?_
  rw [List.getElem_map, List.getElem_range, List.getD, List.getElem?_eq_getElem h2]
  rfl
end Pv
namespace Pv
open PySem PySem.Spec L2 Wf SrtO
/-! ### last_order -/
end Pv
/-! law k02: what is due, by the law's own going through. -/
namespace Wf
open PySem PySem.Spec L2
section
variable {K : PySem.W.Frag} {C : Addr}
/-- the reading of a tuple (word, number) that is told -/
def dWN (w : Str) (n : Int) : PyData := .tuple [.str w, .int n]
def GiveWN (K : PySem.W.Frag) (H : Hp) (Q : VK) (w : Str) (n : Int) : Prop := ∀ (q : Addr) (H' : Hp), Same H H' → H' q = some (.tup [.str w, .int n]) → Q (.ref q) H'
theorem GiveWN.go {H H1 : Hp} {Q : VK} {w : Str} {n : Int} (g : GiveWN K H Q w n) (s : Same H H1) : ∀ q, H1 q = none → Q (.ref q) (upd H1 q (.tup [.str w, .int n])) := fun q hq => g q _ (s.trans (same_new hq)) upd_same
end
end Wf
/-! law k02: due, told. -/
namespace Wf
open PySem PySem.Spec L2
def toldD (d : PyData) : PyData := match bookA d with
  | none => .tuple [.str "told", .bool true]
  | some (w, n) => dWN w n
end Wf
/-! law k02: things made otherwise. -/
namespace Wf
open PySem PySem.Spec L2
end Wf
namespace Wf
open PySem PySem.Spec L2 Pv
end Wf
namespace Pv
open PySem PySem.Spec L2 Wf
/-! ### things of any form -/
/-! ### is_tuple_of -/
end Pv
namespace Pv
open PySem PySem.Spec L2 Wf
/-! ### kinds_of -/
def pe_kinds_of_1 : PX :=
    pVar 1
def p_kinds_of : PSx :=
    pRet (pC (q1 fTupleOf) (pCons (pComp (iSeq (pVar 0)) (gT 2 (gsC (gN 1) (gsC (gN 2) (gsN)))) (pYes) (pe_kinds_of_1) [1, 2]) (pNil)))
def psp_kinds_of : PSp := fun as Q _ => ∃ (m s : Int) (r : List Wk), as = [.im (dR r)] ∧ RowOk m s r ∧ r.length ≤ 1000 ∧ Q (.im (.tuple (dN (kindsN r)))) [.un]
theorem hp_kinds_of (as : List Sl) (Qp : QE) (Ep : EX) (h : psp_kinds_of as Qp Ep) : p_kinds_of (endsP as Qp) (as ++ List.replicate 2 .un) := by
  obtain ⟨m, s, r, rfl, ok, hl, q⟩ := h
  refine ⟨_, _, _, rfl, rfl, noPin2 (fun o => nofun) (fun o => nofun), fun j acc δ => acc = (r.take j).map (fun p => PyData.int p.1) ∧ δ = [.im (dR r), .un, .un], ⟨rfl, rfl⟩, ?_, ?_⟩
  · rintro j d acc δ hd ⟨rfl, rfl⟩
    rw [List.getElem?_map] at hd
    obtain ⟨p, hp, rfl⟩ := Option.map_eq_some_iff.mp hd
    have hj := (List.getElem?_eq_some_iff.mp hp).1
    refine ⟨rfl, rfl, _, _, rfl, ?_, ?_, rfl⟩
    · rw [List.length_map, List.length_take]
      exact szN (m := 1000) (by omega) (by decide)
    · rw [List.take_add_one, hp]
      show _ ++ [PyData.int p.1] = List.map _ (r.take j ++ [p])
      rw [List.map_append]
      rfl
  · rintro acc δ ⟨rfl, rfl⟩
    rw [List.length_map, List.take_length, kinds_data ok]
    exact ⟨_, _, rfl, q⟩
/-! ### look_order -/
theorem getI_of {xs : List Int} {i : Nat} (h : i < xs.length) : xs[i]? = some (xs.getD i 0) := by
  rw [List.getD_eq_getElem?_getD, List.getElem?_eq_getElem h]
  rfl
/-! ### normal_word -/
end Pv
namespace Pv
open PySem PySem.Spec L2 Wf
/-! ### look_forward, of a forward order -/
/-! ### borne_in, last_row -/
end Pv
/-! Tuples whose objects are known, also within: written ones, parts, sums; loops over them. -/
namespace Pv
open PySem PySem.Spec L2 Wf
variable {B : Bas}
/-- what an item is -/
def itemR : PyData → R
  | .tuple es => .ow (.ptl es)
  | d => .im d
/-! ### targets -/
def gP (i : Nat) : PGx := fun d δ Q => setS i (itemR d) δ Q
/-! ### a written tuple of known things -/
end Pv
/-! Parts and sums of known tuples are known tuples. -/
namespace Pv
open PySem PySem.Spec L2 Wf
/-! ### a call that may raise, in a try, handed known tuples too -/
end Pv
namespace Pv
open PySem PySem.Spec L2 Wf
/-! ### k13: _law_due, _law_told, law -/
-- def law N ['_law_script', '_law_deal_here', '_law_book_here', '_law_row_here', '_law_some', '_law_k', '_law_kept', '_law_far', '_law_due_here', '_law_wanted'] calls ['_law_deal', '_law_book', '_law_draw', '_law_row', '_law_due', '_law_alike', '_law_told'] takes []
end Pv
namespace Pv
open PySem PySem.Spec L2 Wf
/-! ### numbers that are an order -/
/-! ### _law_due -/
/-! ### _law_told -/
/-! ### _law_changed -/
/-! ### k11 -/
end Pv
/-! [a, b, ..][i] of known things. -/
namespace Pv
open PySem PySem.Spec L2 Wf
end Pv
namespace Pv
open PySem PySem.Spec L2 Wf
end Pv
namespace Pv
open PySem PySem.Spec L2 LamX NdefX Wf
/-! ### orders led -/
abbrev gtB (x y : Int) : Bool := decide (y < x)
/-- the letter k of an order, if it may be -/
def letS (g : Int → Int → Bool) (ks o : List Nat) (k : Int) : Option Nat :=
  if 0 ≤ k ∧ k.toNat + 1 < o.length ∧ g (ks.getD (o.getD k.toNat 0) 0 : Nat) (ks.getD (o.getD (k.toNat + 1) 0) 0 : Nat) = true then some k.toNat else none
def ordG (g : Int → Int → Bool) (ks : List Nat) : Nat → List Nat → List Int → Nat ⊕ List Nat
  | _, o, [] => .inr o
  | n, o, k :: ws => match letS g ks o k with
    | some j => ordG g ks (n + 1) (swp o j) ws
    | none => .inl n
structure OkO (n : Nat) (o : List Nat) : Prop where
  len : o.length = n
  lt : ∀ x ∈ o, x < n
theorem OkO.rng (n : Nat) : OkO n (List.range n) := ⟨List.length_range, fun x hx => List.mem_range.mp hx⟩
theorem OkO.swp {n j : Nat} {o : List Nat} (h : OkO n o) (hj : j + 1 < o.length) : OkO n (swp o j) := ⟨by rw [swp_len]; exact h.len, fun x hx => h.lt x ((swp_perm hj).mem_iff.mp hx)⟩
theorem OkO.get {n j : Nat} {o : List Nat} (h : OkO n o) (hj : j < o.length) : o.getD j 0 < n := by
  rw [List.getD_eq_getElem?_getD, List.getElem?_eq_getElem hj]
  exact h.lt _ (List.getElem_mem hj)
def ordQ (C : Addr) (Q : QE) (Ep : EX) (ss : List Sl) : Nat ⊕ List Nat → Prop
  | .inr o => Q (.im (.tuple (dN o))) ss
  | .inl n => Ep C [("at", nD n)]
def psp_order_led (cNoPassing : Addr) (LL : LF → (Int → Int → Bool) → Prop) : PSp := fun as Q Ep => ∃ (ks : List Nat) (ws : List Int) (F : LF) (g : Int → Int → Bool), as = [.im (.tuple (dN ks)), .im (dK ws), .ow true (.lam F)] ∧ LL F g ∧ ks.length ≤ 1000 ∧ ordQ cNoPassing Q Ep [.un, .un, .ow true (.lam F)] (ordG g ks 0 (List.range ks.length) ws)
def pb_order_led_1 (cNoPassing : Addr) (LL : LF → (Int → Int → Bool) → Prop) (Ep : EX) : PSx :=
    pSeq (pIf (pOr (pNot (pT (pCall psp_is_letter (pCons (pFz (pVar 5)) (pCons (pFz (pC (q1 fLen) (pCons (pVar 3) (pNil)))) (pNil))) noX))) (pNot (pT (pCallL 2 LL (pCons (pIx (pVar 0) (pIx (pVar 3) (pVar 5))) (pCons (pIx (pVar 0) (pIx (pVar 3) (pAdd (pVar 5) (pK (.int 1))))) (pNil))))))) (pRaise cNoPassing ["at"] (pCons (pFz (pVar 4)) (pNil)) Ep) (pNext))
    (pAsg (pTup (pCons (pIx (pVar 3) (pAdd (pVar 5) (pK (.int 1)))) (pCons (pIx (pVar 3) (pVar 5)) (pNil)))) (gT 2 (gsC (gSx (pVar 3) (pVar 5)) (gsC (gSx (pVar 3) (pAdd (pVar 5) (pK (.int 1)))) (gsN)))))
def pr_order_led_1 : PSx :=
    pRet (pC (q1 fTupleOf) (pCons (pVar 3) (pNil)))
def pr_order_led_2 (cNoPassing : Addr) (LL : LF → (Int → Int → Bool) → Prop) (Ep : EX) : PSx :=
    pSeq (pFor [4, 5] (iEn (pCons (pVar 1) (pNil))) (gT 2 (gsC (gN 4) (gsC (gN 5) (gsN)))) (pb_order_led_1 cNoPassing LL Ep))
    (pr_order_led_1)
def p_order_led (cNoPassing : Addr) (LL : LF → (Int → Int → Bool) → Prop) (Ep : EX) : PSx :=
    pSeq (pSet 3 (pLstRg (pRg1 (pC (q1 fLen) (pCons (pVar 0) (pNil))))))
    (pr_order_led_2 cNoPassing LL Ep)
theorem hp_order_led (LL : LF → (Int → Int → Bool) → Prop) (cNoPassing : Addr) (as : List Sl) (Qp : QE) (Ep : EX) (h : psp_order_led cNoPassing LL as Qp Ep) : p_order_led cNoPassing LL Ep (endsP as Qp) (as ++ List.replicate 3 .un) := by
  obtain ⟨ks, ws, F, g, rfl, hL, hn, q⟩ := h
  have z24 : (10000 : Nat) < sizeLine := by decide
  have el : (((dN ks).length : Nat) : Int) = (ks.length : Int) := by rw [dN_len]
  refine ⟨_, rfl, ⟨by omega, by omega, by omega⟩, _, _, rfl, ?_⟩
  rw [el, rgD_dN]
  show pr_order_led_2 _ _ _ _ [.im (.tuple (dN ks)), .im (dK ws), .ow true (.lam F), .ow false (.lst (dN (List.range ks.length))), .un, .un]
  refine ⟨_, _, _, rfl, rfl, ?_⟩
  refine ⟨fun i δ => ∃ o, OkO ks.length o ∧ ordG g ks 0 (List.range ks.length) ws = ordG g ks i o (ws.drop i) ∧ δ = [.im (.tuple (dN ks)), .im (dK ws), .ow true (.lam F), .ow false (.lst (dN o)), .un, .un], ⟨_, .rng _, rfl, rfl⟩, ?_, ?_⟩
  · rintro i d δ hd ⟨o, ok, he, rfl⟩
    rw [enD_get, List.getElem?_map] at hd
    obtain ⟨d0, h0, rfl⟩ := Option.map_eq_some_iff.mp hd
    obtain ⟨k, hk, rfl⟩ := Option.map_eq_some_iff.mp h0
    have hi := (List.getElem?_eq_some_iff.mp hk).1
    have ed : ws.drop i = k :: ws.drop (i + 1) := by
      rw [List.drop_eq_getElem_cons hi, (List.getElem?_eq_some_iff.mp hk).2]
    rw [ed] at he
    refine ⟨rfl, rfl, ?_⟩
    have e0 : (.int ((0 + i : Nat) : Int) : PyData) = nD i := by rw [Nat.zero_add]
    show pb_order_led_1 _ _ _ _ [.im (.tuple (dN ks)), .im (dK ws), .ow true (.lam F), .ow false (.lst (dN o)), .im (.int ((0 + i : Nat) : Int)), .im (.int k)]
    rw [e0]
    have bad : letS g ks o k = none → pRaise cNoPassing ["at"] (pCons (pFz (pVar 4)) (pNil)) Ep (endsP [] Qp) [.im (.tuple (dN ks)), .im (dK ws), .ow true (.lam F), .ow false (.lst (dN o)), .im (nD i), .im (.int k)] := fun c => by
      rw [he] at q
      simp only [ordG, c] at q
      exact ⟨_, _, rfl, _, _, rfl, rfl, q⟩
    have eo : (((dN o).length : Nat) : Int) = (o.length : Int) := by rw [dN_len]
    refine ⟨_, _, rfl, _, _, rfl, _, rfl, List.nodup_nil, _, _, rfl, _, rfl, ?_⟩
    show if (!(decide (0 ≤ k) && decide (k ≤ (((dN o).length : Nat) : Int) - 2))) = true then _ else _
    rw [eo]
    by_cases c : 0 ≤ k ∧ k ≤ (o.length : Int) - 2
    · rw [if_neg (by simp [c.1, c.2])]
      obtain ⟨j, rfl⟩ := Int.eq_ofNat_of_zero_le c.1
      have ej : ((j : Int)).toNat = j := by simp
      have hj : j + 1 < o.length := by omega
      have e1 : ((j : Int) + 1) = ((j + 1 : Nat) : Int) := rfl
      have g1 : o.getD j 0 < ks.length := ok.get (by omega)
      have g2 : o.getD (j + 1) 0 < ks.length := ok.get hj
      refine ⟨true, F, g, rfl, hL, _, atI_of rfl (dN_get (getD_of (i := j) (by omega))), _, atI_of rfl (dN_get (getD_of g1)), _, atI_of e1 (dN_get (getD_of hj)), _, atI_of rfl (dN_get (getD_of g2)), true, _, _, rfl, rfl, _, rfl, ?_⟩
      show if (!g ((ks.getD (o.getD j 0) 0 : Nat) : Int) ((ks.getD (o.getD (j + 1) 0) 0 : Nat) : Int)) = true then _ else _
      cases cg : g ((ks.getD (o.getD j 0) 0 : Nat) : Int) ((ks.getD (o.getD (j + 1) 0) 0 : Nat) : Int) with
      | false => exact bad (by unfold letS; rw [ej, if_neg (by rw [cg]; simp)])
      | true =>
        have hl : letS g ks o (j : Int) = some j := by unfold letS; rw [ej, if_pos ⟨c.1, hj, cg⟩]
        refine ⟨_, atI_of e1 (dN_get (getD_of hj)), _, atI_of rfl (dN_get (getD_of (i := j) (by omega))), _, _, rfl, rfl, 3, (j : Int), false, _, j, rfl, rfl, rfl, by rw [dN_len]; exact ixN_nat (by omega), 3, ((j + 1 : Nat) : Int), false, _, j + 1, rfl, rfl, rfl, by rw [List.length_set, dN_len]; exact ixN_nat hj, rfl, swp o j, ok.swp hj, ?_, ?_⟩
        · rw [he]
          simp only [ordG, hl]
        · show [_, _, _, _, _, _] = _
          rw [dN_set, dN_set]
          rfl
    · rw [if_pos (by simp; omega)]
      exact bad (by unfold letS; rw [if_neg (by omega)])
  · rintro δ ⟨o, ok, he, rfl⟩
    rw [enD_len, List.length_map, List.drop_length] at he
    rw [he] at q
    exact ⟨_, _, rfl, q⟩
def psp_order_behind (cNoPassing : Addr) : PSp := fun as Q Ep => ∃ (ks : List Nat) (ws : List Int), as = [.im (.tuple (dN ks)), .im (dK ws)] ∧ ks.length ≤ 1000 ∧ ordQ cNoPassing Q Ep [.un, .un] (ordG gtB ks 0 (List.range ks.length) ws)
def p_lamled (LL : LF → (Int → Int → Bool) → Prop) (q : Str) (prm : Arguments) (bd : Expr) (sc : Scope) (cNoPassing : Addr) (Ep : EX) : PSx :=
    pRet (pCall (psp_order_led cNoPassing LL) (pCons (pFz (pVar 0)) (pCons (pFz (pVar 1)) (pCons (pLam q prm bd sc) (pNil)))) Ep)
theorem hp_lamled {LL : LF → (Int → Int → Bool) → Prop} {q : Str} {prm : Arguments} {bd : Expr} {sc : Scope} {g : Int → Int → Bool} {cNoPassing : Addr} {ks : List Nat} {ws : List Int} {Qp : QE} {Ep : EX} (hL : ∀ c, LL ⟨q, prm, bd, sc, c⟩ g) (hn : ks.length ≤ 1000) (h : ordQ cNoPassing Qp Ep [.un, .un] (ordG g ks 0 (List.range ks.length) ws)) :
    p_lamled LL q prm bd sc cNoPassing Ep (endsP [.im (.tuple (dN ks)), .im (dK ws)] Qp) [.im (.tuple (dN ks)), .im (dK ws)] := by
  refine ⟨_, _, rfl, _, _, rfl, fun c => ⟨_, rfl, List.nodup_nil, ks, ws, _, g, rfl, hL c, hn, ?_⟩⟩
  revert h
  cases ordG g ks 0 (List.range ks.length) ws with
  | inr o => exact fun h => ⟨_, _, rfl, h⟩
  | inl n => exact fun h => h
theorem hp_order_behind {LL : LF → (Int → Int → Bool) → Prop} {q : Str} {prm : Arguments} {bd : Expr} {sc : Scope} (hL : ∀ c, LL ⟨q, prm, bd, sc, c⟩ gtB) (cNoPassing : Addr) (as : List Sl) (Qp : QE) (Ep : EX) (h : psp_order_behind cNoPassing as Qp Ep) : p_lamled LL q prm bd sc cNoPassing Ep (endsP as Qp) (as ++ List.replicate 0 .un) := by
  obtain ⟨ks, ws, rfl, hn, h⟩ := h
  exact hp_lamled hL hn h
end Pv
/-! Words of runs. -/
namespace Pv
open PySem PySem.Spec L2 Wf
def runsW (c : Nat → Nat) (n : Nat) : List Nat := (List.range n).flatMap fun m => runW m (c m)
theorem runsW_succ (c : Nat → Nat) (n : Nat) : runsW c (n + 1) = runsW c n ++ runW n (c n) := by
  unfold runsW
  rw [List.range_succ, List.flatMap_append, List.flatMap_singleton]
/-! ### as many letters as pairs -/
/-! ### falling kinds -/
theorem ordG_word {g : Int → Int → Bool} (hg : ∀ x y : Int, y < x → g x y = true) {ks : List Nat} : ∀ {ws : List Nat} {o : List Nat} {n : Nat}, wordOk false (o.map fun i => ks.getD i 0) ws → ordG g ks n o (iW ws) = .inr (goW o ws)
  | [], o, n, _ => rfl
  | k :: ws, o, n, h => by
    have h1 := h.1.1
    rw [List.length_map] at h1
    have ge : ∀ j, j < o.length → (o.map fun i => ks.getD i 0).getD j 0 = ks.getD (o.getD j 0) 0 := fun j hj => by
      rw [List.getD, List.getElem?_map, List.getElem?_eq_getElem hj]
      show ks.getD o[j] 0 = _
      have e : o.getD j 0 = o[j] := by rw [List.getD, List.getElem?_eq_getElem hj]; rfl
      rw [e]
    have c : letS g ks o (k : Int) = some k := by
      have h2 := h.1.2
      rw [ge _ h1, ge k (by omega)] at h2
      rcases h2 with h2 | h2
      · unfold letS
        rw [if_pos]
        · rw [Int.toNat_natCast]
        · rw [Int.toNat_natCast]
          exact ⟨by omega, h1, hg _ _ (by omega)⟩
      · exact absurd h2.1 (by decide)
    have h3 := h.2
    rw [swp_map _ h1] at h3
    have ih := ordG_word hg (n := n + 1) h3
    show (match letS g ks o (k : Int) with | some j => ordG g ks (n + 1) (swp o j) (iW ws) | none => .inl n) = _
    rw [c]
    exact ih
theorem gt_of (x y : Int) (h : y < x) : gtB x y = true := decide_eq_true h
end Pv
namespace Pv
open PySem PySem.Spec L2 Wf
/-! ### the order behind a forward word is forward -/
/-! ### the first place of one who has passed wrongly -/
/-! ### look_forward -/
end Pv
namespace Pv
/-! Roads: each passing is of neighbours; the word, and the order behind it. -/
/-- o: an order of n walkers in which j stands behind i, i < j, just where D i j -/
structure InvO (n : Nat) (o : List Nat) (D : Nat → Nat → Prop) : Prop where
  pm : o.Perm (List.range n)
  iv : ∀ a b, a < b → b < n → (o.idxOf b < o.idxOf a ↔ D a b)
theorem InvO.nd {n : Nat} {o : List Nat} {D : Nat → Nat → Prop} (h : InvO n o D) : o.Nodup := h.pm.nodup_iff.mpr List.nodup_range
theorem idx_inj {o : List Nat} {a b : Nat} (ha : a ∈ o) (hb : b ∈ o) (h : o.idxOf a = o.idxOf b) : a = b := by
  have h1 := List.idxOf_lt_length_iff.mpr ha
  have h2 := List.idxOf_lt_length_iff.mpr hb
  have e1 := List.getElem_idxOf h1
  have e2 := List.getElem_idxOf h2
  have : o[o.idxOf a] = o[o.idxOf b] := by simp only [h]
  rw [e1, e2] at this
  exact this
theorem idx_range {n a : Nat} (h : a < n) : (List.range n).idxOf a = a := by
  have hm : a ∈ List.range n := List.mem_range.mpr h
  have h1 := List.idxOf_lt_length_iff.mpr hm
  have e1 := List.getElem_idxOf h1
  rw [List.getElem_range] at e1
  exact e1
theorem inv0 (n : Nat) : InvO n (List.range n) fun _ _ => False := ⟨.refl _, fun a b hab hb => by
  rw [idx_range hb, idx_range (show a < n by omega)]
  constructor
  · intro h; omega
  · intro h; exact h.elim⟩
theorem InvO.congr {n : Nat} {o : List Nat} {D D' : Nat → Nat → Prop} (h : InvO n o D) (e : ∀ a b, a < b → b < n → (D a b ↔ D' a b)) : InvO n o D' := ⟨h.pm, fun a b h1 h2 => (h.iv a b h1 h2).trans (e a b h1 h2)⟩
theorem idx_ne {a b : Nat} {l : List Nat} (h : a ≠ b) : (a :: l).idxOf b = l.idxOf b + 1 := by
  rw [List.idxOf_cons, beq_false_of_ne h]; rfl
theorem idx_mid {A C : List Nat} {i j x : Nat} (nd : (A ++ i :: j :: C).Nodup) : (A ++ i :: j :: C).idxOf i = A.length ∧ (A ++ i :: j :: C).idxOf j = A.length + 1 ∧ (A ++ j :: i :: C).idxOf i = A.length + 1 ∧ (A ++ j :: i :: C).idxOf j = A.length ∧ (x ≠ i → x ≠ j → (A ++ j :: i :: C).idxOf x = (A ++ i :: j :: C).idxOf x) := by
  rw [List.nodup_append, List.nodup_cons, List.nodup_cons] at nd
  obtain ⟨_, ⟨n1, n2, _⟩, n3⟩ := nd
  have iA : i ∉ A := fun h => n3 i h i List.mem_cons_self rfl
  have jA : j ∉ A := fun h => n3 j h j (List.mem_cons_of_mem _ List.mem_cons_self) rfl
  have ij : i ≠ j := fun h => n1 (h ▸ List.mem_cons_self)
  refine ⟨?_, ?_, ?_, ?_, fun h1 h2 => ?_⟩
  · rw [List.idxOf_append, if_neg iA, List.idxOf_cons_self, Nat.zero_add]
  · rw [List.idxOf_append, if_neg jA, idx_ne ij, List.idxOf_cons_self]; omega
  · rw [List.idxOf_append, if_neg iA, idx_ne (Ne.symm ij), List.idxOf_cons_self]; omega
  · rw [List.idxOf_append, if_neg jA, List.idxOf_cons_self, Nat.zero_add]
  · rw [List.idxOf_append, List.idxOf_append]
    by_cases c : x ∈ A
    · rw [if_pos c, if_pos c]
    · rw [if_neg c, if_neg c, idx_ne (Ne.symm h2), idx_ne (Ne.symm h1), idx_ne (Ne.symm h1), idx_ne (Ne.symm h2)]
theorem split2 {o : List Nat} {k : Nat} (h : k + 1 < o.length) : ∃ A x y C, o = A ++ x :: y :: C ∧ A.length = k ∧ o.getD k 0 = x ∧ o.getD (k + 1) 0 = y := by
  refine ⟨o.take k, o[k]'(by omega), o[k + 1]'h, o.drop (k + 2), ?_, by rw [List.length_take]; omega, ?_, ?_⟩
  · rw [← List.drop_eq_getElem_cons, ← List.drop_eq_getElem_cons, List.take_append_drop]
  · rw [List.getD, List.getElem?_eq_getElem (by omega)]; rfl
  · rw [List.getD, List.getElem?_eq_getElem h]; rfl
theorem inv_step {n : Nat} {o : List Nat} {D : Nat → Nat → Prop} {i j : Nat} (h : InvO n o D) (hij : i < j) (hj : j < n) (nd : ¬ D i j) (lo : ∀ x, x < i → (D x i ↔ D x j)) (hi : ∀ x, j < x → x < n → (D i x ↔ D j x)) (mid : ∀ x, i < x → x < j → (D i x ↔ ¬ D x j)) :
    o.idxOf i + 1 < n ∧ o.getD (o.idxOf i) 0 = i ∧ o.getD (o.idxOf i + 1) 0 = j ∧ (InvO n (swp o (o.idxOf i)) fun a b => D a b ∨ (a = i ∧ b = j)) ∧ ∀ z, z < n → ((swp o (o.idxOf i)).idxOf z : Int) = (o.idxOf z : Int) + (if i = z then 1 else 0) - (if j = z then 1 else 0) := by
  have mi : i ∈ o := (mem_of_perm h.pm).mpr (by omega)
  have mj : j ∈ o := (mem_of_perm h.pm).mpr hj
  have ol := perm_len h.pm
  have li := List.idxOf_lt_length_iff.mpr mi
  have lj := List.idxOf_lt_length_iff.mpr mj
  have bij : o.idxOf i < o.idxOf j := by
    have h1 := mt (h.iv i j hij hj).mp nd
    have h2 : o.idxOf i ≠ o.idxOf j := fun z => by have := idx_inj mi mj z; omega
    omega
  have hk : o.idxOf i + 1 < o.length := by omega
  obtain ⟨A, x, y, C, eo, eA, gx, gy⟩ := split2 hk
  have nod := h.nd
  have ex : x = i := by
    rw [← gx, List.getD, List.getElem?_eq_getElem li]
    exact List.getElem_idxOf li
  subst ex
  have my : y ∈ o := by rw [eo]; simp
  have iy : o.idxOf y = o.idxOf x + 1 := by
    rw [eo] at nod
    obtain ⟨h1, h2, _⟩ := idx_mid (x := 0) nod
    rw [eo, h1, h2]
  have ey : y = j := by
    refine Decidable.byContradiction fun c => ?_
    have yn : y < n := (mem_of_perm h.pm).mp my
    have yx : y ≠ x := fun z => by rw [z] at iy; omega
    have ly : o.idxOf y < o.idxOf j := by
      have : o.idxOf y ≠ o.idxOf j := fun z => c (idx_inj my mj z)
      omega
    rcases Nat.lt_trichotomy y x with q | q | q
    · have h1 := h.iv y x q (by omega)
      have h2 := h.iv y j (by omega) hj
      have := lo y q
      rw [← h1, ← h2] at this
      omega
    · exact yx q
    · rcases Nat.lt_trichotomy y j with r | r | r
      · have h1 := h.iv x y q (by omega)
        have h2 := h.iv y j r hj
        have := mid y q r
        rw [← h1, ← h2] at this
        omega
      · exact c r
      · have h1 := h.iv x y (by omega) yn
        have h2 := h.iv j y r yn
        have := hi y r yn
        rw [← h1, ← h2] at this
        omega
  subst ey
  have es : swp o (o.idxOf x) = A ++ y :: x :: C := by
    rw [← eA]
    conv => lhs; rw [eo]
    exact swp_mid A C x y
  rw [eo] at nod
  have key : ∀ z, z < n → (z = x ∧ (A ++ y :: x :: C).idxOf z = A.length + 1 ∧ o.idxOf z = A.length) ∨ (z = y ∧ (A ++ y :: x :: C).idxOf z = A.length ∧ o.idxOf z = A.length + 1) ∨ (z ≠ x ∧ z ≠ y ∧ (A ++ y :: x :: C).idxOf z = o.idxOf z ∧ o.idxOf z ≠ A.length ∧ o.idxOf z ≠ A.length + 1) := fun z hz => by
    obtain ⟨h1, h2, h3, h4, h5⟩ := idx_mid (x := z) nod
    rw [← eo] at h1 h2 h5
    by_cases c1 : z = x
    · subst c1; exact .inl ⟨rfl, h3, h1⟩
    · by_cases c2 : z = y
      · subst c2; exact .inr (.inl ⟨rfl, h4, h2⟩)
      · have mz : z ∈ o := (mem_of_perm h.pm).mpr hz
        refine .inr (.inr ⟨c1, c2, h5 c1 c2, fun q => c1 (idx_inj mz mi (by rw [q, h1])), fun q => c2 (idx_inj mz mj (by rw [q, h2]))⟩)
  refine ⟨by omega, gx, gy, ⟨(swp_perm hk).trans h.pm, fun a b hab hb => ?_⟩, fun z hz => ?_⟩
  · rw [es]
    have ka := key a (by omega)
    have kb := key b hb
    have iv := h.iv a b hab hb
    rw [← iv]
    omega
  · rw [es]
    rcases key z hz with ⟨c, h1, h2⟩ | ⟨c, h1, h2⟩ | ⟨c1, c2, h1, _⟩
    · subst c; rw [if_pos rfl, if_neg (by omega)]; omega
    · subst c; rw [if_neg (by omega), if_pos rfl]; omega
    · rw [if_neg (Ne.symm c1), if_neg (Ne.symm c2)]; omega
/-! ### letters of passings -/
def letsE : List Nat → List Ev → List Nat
  | _, [] => []
  | o, e :: es => o.idxOf e.1 :: letsE (swp o (o.idxOf e.1)) es
def goE (o : List Nat) (es : List Ev) : List Nat := es.foldl (fun o e => swp o (o.idxOf e.1)) o
theorem go_lets : ∀ (es : List Ev) (o : List Nat), goW o (letsE o es) = goE o es
  | [], _ => rfl
  | e :: es, o => go_lets es (swp o (o.idxOf e.1))
theorem goE_snoc (o : List Nat) (es : List Ev) (e : Ev) : goE o (es ++ [e]) = swp (goE o es) ((goE o es).idxOf e.1) := by
  unfold goE; rw [List.foldl_append]; rfl
theorem lets_snoc : ∀ (es : List Ev) (o : List Nat) (e : Ev), letsE o (es ++ [e]) = letsE o es ++ [(goE o es).idxOf e.1]
  | [], _, _ => rfl
  | f :: es, o, e => by
    show _ :: letsE (swp o (o.idxOf f.1)) (es ++ [e]) = _
    rw [lets_snoc es]
    rfl
theorem lets_len : ∀ (es : List Ev) (o : List Nat), (letsE o es).length = es.length
  | [], _ => rfl
  | _ :: es, _ => congrArg (· + 1) (lets_len es _)
/-- all passings, the sooner ones first -/
structure EvL (n : Nat) (k : Nat → Nat) (p s : Nat → Int) (L : List Ev) : Prop where
  mem : ∀ e, e ∈ L ↔ IsEv n k e.1 e.2
  so : L.Pairwise (soon k p s)
section
variable {n : Nat} {k : Nat → Nat} {p s : Nat → Int} {L : List Ev}
theorem EvL.pre {pre post : List Ev} {e : Ev} (h : EvL n k p s L) (eL : L = pre ++ e :: post) (f : Ev) : f ∈ pre ↔ IsEv n k f.1 f.2 ∧ soon k p s f e := by
  have so := h.so
  rw [eL, List.pairwise_append, List.pairwise_cons] at so
  obtain ⟨_, ⟨s2, _⟩, s3⟩ := so
  constructor
  · intro hf
    exact ⟨(h.mem f).mp (by rw [eL]; exact List.mem_append_left _ hf), s3 f hf e List.mem_cons_self⟩
  · rintro ⟨h1, h2⟩
    have := (h.mem f).mpr h1
    rw [eL] at this
    rcases List.mem_append.mp this with z | z
    · exact z
    · rcases List.mem_cons.mp z with rfl | z
      · exact absurd h2 (soon_irr _)
      · exact absurd h2 (soon_asym (s2 f z))
theorem run_step (R : Rod n k p s) (h : EvL n k p s L) {pre post : List Ev} {e : Ev} {o : List Nat} (eL : L = pre ++ e :: post) (io : InvO n o fun a b => (a, b) ∈ pre) :
    o.idxOf e.1 + 1 < n ∧ o.getD (o.idxOf e.1) 0 = e.1 ∧ o.getD (o.idxOf e.1 + 1) 0 = e.2 ∧ (InvO n (swp o (o.idxOf e.1)) fun a b => (a, b) ∈ pre ++ [e]) ∧ ∀ z, z < n → ((swp o (o.idxOf e.1)).idxOf z : Int) = (o.idxOf z : Int) + (if e.1 = z then 1 else 0) - (if e.2 = z then 1 else 0) := by
  have he : IsEv n k e.1 e.2 := (h.mem e).mp (by rw [eL]; simp)
  have P := fun f => h.pre eL f
  obtain ⟨i, j⟩ := e
  have := inv_step io he.1 he.2.1 (fun z => soon_irr _ ((P _).mp z).2) (fun x hx => by rw [P, P]; exact loc_lo R he hx) (fun x hx hn => by rw [P, P]; exact loc_hi R he hx hn) (fun x hx hn => by rw [P, P]; exact loc_mid R he hx hn)
  refine ⟨this.1, this.2.1, this.2.2.1, this.2.2.2.1.congr fun a b _ _ => ?_, this.2.2.2.2⟩
  rw [List.mem_append, List.mem_singleton]
  show _ ↔ _ ∨ (a, b) = (i, j)
  rw [Prod.mk.injEq]
theorem run_ok (R : Rod n k p s) (h : EvL n k p s L) : ∀ (m : Nat) (pre post : List Ev), pre.length = m → L = pre ++ post → InvO n (goE (List.range n) pre) fun a b => (a, b) ∈ pre
  | 0, pre, post, hl, eL => by
    have : pre = [] := List.length_eq_zero_iff.mp hl
    subst this
    exact (inv0 n).congr fun a b _ _ => by simp
  | m + 1, pre, post, hl, eL => by
    have ne : pre ≠ [] := fun z => by rw [z] at hl; cases hl
    have e1 : pre = pre.dropLast ++ [pre.getLast ne] := (List.dropLast_concat_getLast ne).symm
    generalize pre.getLast ne = e at e1
    generalize pre.dropLast = q at e1
    subst e1
    have hq : q.length = m := by simpa using hl
    have eL' : L = q ++ e :: post := by rw [eL, List.append_assoc]; rfl
    have io := run_ok R h m q (e :: post) hq eL'
    rw [goE_snoc]
    exact (run_step R h eL' io).2.2.2.1
/-- the letters of the first passings: forward, by the kinds -/
theorem word_ok {ks : List Nat} (R : Rod ks.length (fun i => ks.getD i 0) p s) (h : EvL ks.length (fun i => ks.getD i 0) p s L) : ∀ (m : Nat) (pre post : List Ev), pre.length = m → L = pre ++ post → wordOk false ks (letsE (List.range ks.length) pre)
  | 0, pre, post, hl, eL => by
    have : pre = [] := List.length_eq_zero_iff.mp hl
    subst this
    exact trivial
  | m + 1, pre, post, hl, eL => by
    have ne : pre ≠ [] := fun z => by rw [z] at hl; cases hl
    have e1 : pre = pre.dropLast ++ [pre.getLast ne] := (List.dropLast_concat_getLast ne).symm
    generalize pre.getLast ne = e at e1
    generalize pre.dropLast = q at e1
    subst e1
    have hq : q.length = m := by simpa using hl
    have eL' : L = q ++ e :: post := by rw [eL, List.append_assoc]; rfl
    have io := run_ok R h m q (e :: post) hq eL'
    have ih := word_ok R h m q (e :: post) hq eL'
    have st := run_step R h eL' io
    have he := (h.mem e).mp (by rw [eL']; simp)
    rw [lets_snoc]
    refine wordOk_snoc ih ?_
    have ol := perm_len io.pm
    have lt := wordOk_lt ih
    have eg : goW ks (letsE (List.range ks.length) q) = (goE (List.range ks.length) q).map fun i => ks.getD i 0 := by
      rw [← go_lets, ← goW_map _ (by rw [List.length_range]; exact lt), kf_range]
    have gm : ∀ t, t < ks.length → ((goE (List.range ks.length) q).map fun i => ks.getD i 0).getD t 0 = ks.getD ((goE (List.range ks.length) q).getD t 0) 0 := fun t ht => by
      rw [List.getD, List.getElem?_map, getD_of (by omega)]
      rfl
    rw [eg]
    refine ⟨by rw [List.length_map]; omega, .inl ?_⟩
    rw [gm _ st.1, gm _ (by omega), st.2.1, st.2.2.1]
    exact he.2.2
end
/-! ### one list alone -/
theorem soon_one {k : Nat → Nat} {p s : Nat → Int} : ∀ {l m : List Ev}, l.Perm m → l.Pairwise (soon k p s) → m.Pairwise (soon k p s) → l = m
  | [], m, h, _, _ => h.nil_eq
  | a :: l, [], h, _, _ => absurd h.length_eq (by simp)
  | a :: l, b :: m, h, h1, h2 => by
    have p1 := List.pairwise_cons.mp h1
    have p2 := List.pairwise_cons.mp h2
    have e : a = b := by
      have ha : a ∈ b :: m := h.mem_iff.mp List.mem_cons_self
      have hb : b ∈ a :: l := h.mem_iff.mpr List.mem_cons_self
      rcases List.mem_cons.mp ha with e | ha
      · exact e
      rcases List.mem_cons.mp hb with e | hb
      · exact e.symm
      exact absurd (p1.1 b hb) (soon_asym (p2.1 a ha))
    subst e
    rw [soon_one h.cons_inv p1.2 p2.2]
end Pv
namespace Pv
/-! Roads: letters by counting; what is done by a beat; who stands where then. -/
def cntA (es : List Ev) (x : Nat) : Nat := (es.filter fun e => decide (e.1 = x)).length
def cntB (es : List Ev) (x : Nat) : Nat := (es.filter fun e => decide (e.2 = x)).length
theorem cntA_snoc (es : List Ev) (e : Ev) (x : Nat) : (cntA (es ++ [e]) x : Int) = cntA es x + if e.1 = x then 1 else 0 := by
  unfold cntA
  rw [List.filter_append, List.length_append]
  by_cases c : e.1 = x <;> simp [List.filter_cons, c]
theorem cntB_snoc (es : List Ev) (e : Ev) (x : Nat) : (cntB (es ++ [e]) x : Int) = cntB es x + if e.2 = x then 1 else 0 := by
  unfold cntB
  rw [List.filter_append, List.length_append]
  by_cases c : e.2 = x <;> simp [List.filter_cons, c]
section
variable {n : Nat} {k : Nat → Nat} {p s : Nat → Int} {L : List Ev}
theorem run_cnt (R : Rod n k p s) (h : EvL n k p s L) : ∀ (m : Nat) (pre post : List Ev), pre.length = m → L = pre ++ post → ∀ x, x < n → ((goE (List.range n) pre).idxOf x : Int) = x + cntA pre x - cntB pre x
  | 0, pre, post, hl, eL => fun x hx => by
    have : pre = [] := List.length_eq_zero_iff.mp hl
    subst this
    show ((List.range n).idxOf x : Int) = x + 0 - 0
    rw [idx_range hx]
    omega
  | m + 1, pre, post, hl, eL => fun x hx => by
    have ne : pre ≠ [] := fun z => by rw [z] at hl; cases hl
    have e1 : pre = pre.dropLast ++ [pre.getLast ne] := (List.dropLast_concat_getLast ne).symm
    generalize pre.getLast ne = e at e1
    generalize pre.dropLast = q at e1
    subst e1
    have hq : q.length = m := by simpa using hl
    have eL' : L = q ++ e :: post := by rw [eL, List.append_assoc]; rfl
    have io := run_ok R h m q (e :: post) hq eL'
    have ih := run_cnt R h m q (e :: post) hq eL' x hx
    have st := (run_step R h eL' io).2.2.2.2 x hx
    rw [goE_snoc, st, ih, cntA_snoc, cntB_snoc]
    omega
/-! ### what is done by a beat -/
def doneB (p s : Nat → Int) (t : Int) (e : Ev) : Bool := decide (wy s e ≤ t * gp p e)
theorem ev_gp (R : Rod n k p s) {e : Ev} (h : IsEv n k e.1 e.2) : 0 < gp p e := by
  have := R.pk e.2 e.1 h.2.1 (by have := h.1; have := h.2.1; omega) h.2.2
  unfold gp
  omega
theorem done_mono (R : Rod n k p s) {t : Int} {e f : Ev} (he : IsEv n k e.1 e.2) (hf : IsEv n k f.1 f.2) (h : soon k p s e f) (d : doneB p s t f = true) : doneB p s t e = true := by
  have ge := ev_gp R he
  have gf := ev_gp R hf
  have d := of_decide_eq_true d
  have h1 : wy s e * gp p f ≤ wy s f * gp p e := by
    rcases h with h | ⟨h, _⟩
    · omega
    · omega
  have h2 : wy s f * gp p e ≤ (t * gp p f) * gp p e := Int.mul_le_mul_of_nonneg_right d (by omega)
  have h3 : wy s e * gp p f ≤ (t * gp p e) * gp p f := by
    have : (t * gp p f) * gp p e = (t * gp p e) * gp p f := by rw [Int.mul_assoc, Int.mul_assoc, Int.mul_comm (gp p f)]
    omega
  exact decide_eq_true (Int.le_of_mul_le_mul_right h3 gf)
theorem filter_pre {α : Type} {d : α → Bool} : ∀ {l : List α}, l.Pairwise (fun a b => d b = true → d a = true) → ∃ post, l = l.filter d ++ post
  | [], _ => ⟨[], rfl⟩
  | a :: l, h => by
    have h := List.pairwise_cons.mp h
    by_cases c : d a = true
    · obtain ⟨post, e⟩ := filter_pre h.2
      refine ⟨post, ?_⟩
      rw [List.filter_cons_of_pos c, List.cons_append, ← e]
    · refine ⟨a :: l, ?_⟩
      have : (a :: l).filter d = [] := List.filter_eq_nil_iff.mpr fun x hx => by
        rcases List.mem_cons.mp hx with rfl | hx
        · exact c
        · exact fun z => c (h.1 x hx z)
      rw [this]
      rfl
theorem done_pre (R : Rod n k p s) (h : EvL n k p s L) (t : Int) : ∃ post, L = L.filter (doneB p s t) ++ post := by
  refine filter_pre (List.Pairwise.imp_of_mem ?_ h.so)
  intro e f he hf hs d
  exact done_mono R ((h.mem e).mp he) ((h.mem f).mp hf) hs d
/-- the order at the beat -/
def ordB (n : Nat) (p s : Nat → Int) (L : List Ev) (t : Int) : List Nat := goE (List.range n) (L.filter (doneB p s t))
def wrdB (n : Nat) (p s : Nat → Int) (L : List Ev) (t : Int) : List Nat := letsE (List.range n) (L.filter (doneB p s t))
theorem ord_inv (R : Rod n k p s) (h : EvL n k p s L) (t : Int) : InvO n (ordB n p s L t) fun a b => IsEv n k a b ∧ doneB p s t (a, b) = true := by
  obtain ⟨post, e⟩ := done_pre R h t
  refine (run_ok R h _ _ post rfl e).congr fun a b _ _ => ?_
  rw [List.mem_filter, h.mem]
theorem inv_pair {o : List Nat} {D : Nat → Nat → Prop} {T : Nat → Nat → Prop} (io : InvO n o D) (h1 : ∀ a b, a < b → b < n → ¬ D a b → T a b) (h2 : ∀ a b, a < b → b < n → D a b → T b a) : o.Pairwise T := by
  rw [List.pairwise_iff_getElem]
  intro i j hi hj hij
  have nd := io.nd
  have e1 : ∀ t (ht : t < o.length), o.idxOf o[t] = t := fun t ht => List.Nodup.idxOf_getElem nd t ht
  have a1 := e1 i hi
  have a2 := e1 j hj
  have n1 := (mem_of_perm io.pm).mp (List.getElem_mem hi)
  have n2 := (mem_of_perm io.pm).mp (List.getElem_mem hj)
  generalize o[i] = a at *
  generalize o[j] = b at *
  rcases Nat.lt_trichotomy a b with c | c | c
  · refine h1 a b c n2 fun z => ?_
    have := (io.iv a b c n2).mpr z
    omega
  · subst c; omega
  · refine h2 b a c n1 ((io.iv b a c n1).mp ?_)
    omega
theorem ord_perm (R : Rod n k p s) (h : EvL n k p s L) (t : Int) : (ordB n p s L t).Perm (List.range n) := (ord_inv R h t).pm
/-- all done -/
theorem ord_last (R : Rod n k p s) (h : EvL n k p s L) {t : Int} (all : ∀ e ∈ L, doneB p s t e = true) : (ordB n p s L t).Pairwise fun a b => k a < k b ∨ k a = k b ∧ a < b := by
  refine inv_pair (ord_inv R h t) (fun a b hab hb nd => ?_) fun a b hab hb d => .inl d.1.2.2
  by_cases c : k b < k a
  · exact absurd ⟨⟨hab, hb, c⟩, all _ ((h.mem (a, b)).mpr ⟨hab, hb, c⟩)⟩ nd
  · omega
end
end Pv
namespace Pv
/-! Roads: the list of all passings, made by putting each where it is due. -/
section
variable {n : Nat} {k : Nat → Nat} {p s : Nat → Int}
theorem soonK_trans {e f g : Ev} (h1 : soonK k e f) (h2 : soonK k f g) : soonK k e g := by
  unfold soonK at *
  omega
theorem soon_trans {e f g : Ev} (ge : 0 < gp p e) (gf : 0 < gp p f) (gg : 0 < gp p g) (h1 : soon k p s e f) (h2 : soon k p s f g) : soon k p s e g := by
  unfold soon at *
  generalize wy s e = we at *
  generalize wy s f = wf at *
  generalize wy s g = wg at *
  generalize gp p e = a at *
  generalize gp p f = b at *
  generalize gp p g = c at *
  have m1 : (we * b) * c = (we * c) * b := Int.mul_right_comm _ _ _
  have m2 : (wf * a) * c = (wf * c) * a := Int.mul_right_comm _ _ _
  have m3 : (wg * b) * a = (wg * a) * b := Int.mul_right_comm _ _ _
  rcases h1 with h1 | ⟨h1, k1⟩ <;> rcases h2 with h2 | ⟨h2, k2⟩
  · have x1 := Int.mul_lt_mul_of_pos_right h1 gg
    have x2 := Int.mul_lt_mul_of_pos_right h2 ge
    exact .inl (Int.lt_of_mul_lt_mul_right (a := b) (by omega) (by omega))
  · have x1 := Int.mul_lt_mul_of_pos_right h1 gg
    have x2 : (wf * c) * a = (wg * b) * a := by rw [h2]
    exact .inl (Int.lt_of_mul_lt_mul_right (a := b) (by omega) (by omega))
  · have x1 : (we * b) * c = (wf * a) * c := by rw [h1]
    have x2 := Int.mul_lt_mul_of_pos_right h2 ge
    exact .inl (Int.lt_of_mul_lt_mul_right (a := b) (by omega) (by omega))
  · have x1 : (we * b) * c = (wf * a) * c := by rw [h1]
    have x2 : (wf * c) * a = (wg * b) * a := by rw [h2]
    refine .inr ⟨Int.eq_of_mul_eq_mul_right (a := b) (by omega) (by omega), soonK_trans k1 k2⟩
instance soonDec (k : Nat → Nat) (p s : Nat → Int) (e f : Ev) : Decidable (soon k p s e f) := by
  unfold soon soonK; infer_instance
def soonB (k : Nat → Nat) (p s : Nat → Int) (e f : Ev) : Bool := decide (soon k p s e f)
/-- put where it is due -/
def putE (k : Nat → Nat) (p s : Nat → Int) (l : List Ev) (e : Ev) : List Ev := l.take (l.filter fun f => soonB k p s f e).length ++ e :: l.drop (l.filter fun f => soonB k p s f e).length
theorem filter_pre2 {α : Type} {d : α → Bool} {l : List α} (h : l.Pairwise (fun a b => d b = true → d a = true)) : ∃ post, l = l.filter d ++ post ∧ ∀ x ∈ post, d x = false := by
  obtain ⟨post, e⟩ := filter_pre h
  refine ⟨post, e, fun x hx => ?_⟩
  have e2 := congrArg (List.filter d) e
  rw [List.filter_append, List.filter_filter] at e2
  have : (l.filter d).length = (l.filter d).length + (post.filter d).length := by
    have := congrArg List.length e2
    simpa using this
  have z : post.filter d = [] := List.length_eq_zero_iff.mp (by omega)
  exact Bool.eq_false_iff.mpr (List.filter_eq_nil_iff.mp z x hx)
theorem put_ok {l : List Ev} {e : Ev} (gl : ∀ f ∈ l, 0 < gp p f) (ge : 0 < gp p e) (hs : l.Pairwise (soon k p s)) (he : e ∉ l) : (putE k p s l e).Pairwise (soon k p s) ∧ (putE k p s l e).Perm (e :: l) := by
  have mono : l.Pairwise (fun a b => soonB k p s b e = true → soonB k p s a e = true) := by
    refine List.Pairwise.imp_of_mem ?_ hs
    intro a b ha hb hab h
    exact decide_eq_true (soon_trans (gl a ha) (gl b hb) ge hab (of_decide_eq_true h))
  obtain ⟨post, e1, e2⟩ := filter_pre2 mono
  have e3 : putE k p s l e = l.filter (fun f => soonB k p s f e) ++ e :: post := by
    unfold putE
    generalize l.filter (fun f => soonB k p s f e) = q at *
    rw [e1, List.take_left' rfl, List.drop_left' rfl]
  rw [e3]
  have hs' := hs
  rw [e1] at hs'
  have pw := List.pairwise_append.mp hs'
  constructor
  · refine List.pairwise_append.mpr ⟨pw.1, List.pairwise_cons.mpr ⟨fun b hb => ?_, pw.2.1⟩, fun a ha b hb => ?_⟩
    · have nb := of_decide_eq_false (e2 b hb)
      have bl : b ∈ l := by rw [e1]; exact List.mem_append_right _ hb
      rcases @soon_tri k p s b e with z | z | z
      · exact absurd z nb
      · exact absurd (z ▸ bl) he
      · exact z
    · have sa := of_decide_eq_true (List.mem_filter.mp ha).2
      rcases List.mem_cons.mp hb with rfl | hb
      · exact sa
      · exact pw.2.2 a ha b hb
  · have : (l.filter (fun f => soonB k p s f e) ++ e :: post).Perm (e :: (l.filter (fun f => soonB k p s f e) ++ post)) := List.perm_middle
    rw [← e1] at this
    exact this
theorem puts_ok (R : Rod n k p s) : ∀ {es l : List Ev}, l.Pairwise (soon k p s) → (∀ f ∈ l, IsEv n k f.1 f.2) → (∀ f ∈ es, IsEv n k f.1 f.2) → (∀ f ∈ es, f ∉ l) → es.Nodup → (es.foldl (putE k p s) l).Pairwise (soon k p s) ∧ (es.foldl (putE k p s) l).Perm (es ++ l)
  | [], l, h, _, _, _, _ => ⟨h, .refl _⟩
  | e :: es, l, h, hl, he, hn, nd => by
    have nd := List.nodup_cons.mp nd
    obtain ⟨h1, h2⟩ := put_ok (fun f hf => ev_gp R (hl f hf)) (ev_gp R (he e List.mem_cons_self)) h (hn e List.mem_cons_self)
    obtain ⟨h3, h4⟩ := puts_ok R (es := es) (l := putE k p s l e) h1 (fun f hf => by
      rcases List.mem_cons.mp (h2.mem_iff.mp hf) with rfl | hf
      · exact he _ List.mem_cons_self
      · exact hl f hf) (fun f hf => he f (List.mem_cons_of_mem _ hf)) (fun f hf z => by
      rcases List.mem_cons.mp (h2.mem_iff.mp z) with rfl | z
      · exact nd.1 hf
      · exact hn f (List.mem_cons_of_mem _ hf) z) nd.2
    refine ⟨h3, h4.trans ?_⟩
    exact ((h2.append_left es).trans List.perm_middle)
/-- all passings, by numbers -/
def evI (n : Nat) (k : Nat → Nat) (i m : Nat) : List Ev := ((List.range m).filter fun j => decide (i < j) && decide (k j < k i)).map fun j => (i, j)
def evD (n : Nat) (k : Nat → Nat) (i : Nat) : List Ev := (List.range i).flatMap fun i => evI n k i n
def evs (n : Nat) (k : Nat → Nat) : List Ev := evD n k n
theorem mem_evI {i m : Nat} {e : Ev} : e ∈ evI n k i m ↔ e.1 = i ∧ i < e.2 ∧ e.2 < m ∧ k e.2 < k i := by
  unfold evI
  rw [List.mem_map]
  constructor
  · rintro ⟨j, hj, rfl⟩
    have := List.mem_filter.mp hj
    have h1 := List.mem_range.mp this.1
    have h2 := this.2
    simp at h2
    exact ⟨rfl, h2.1, h1, h2.2⟩
  · rintro ⟨h1, h2, h3, h4⟩
    refine ⟨e.2, List.mem_filter.mpr ⟨List.mem_range.mpr h3, by simp [h2, h4]⟩, by rw [← h1]⟩
theorem mem_evs {e : Ev} : e ∈ evs n k ↔ IsEv n k e.1 e.2 := by
  unfold evs evD IsEv
  simp only [List.mem_flatMap, List.mem_range, mem_evI]
  constructor
  · rintro ⟨i, hi, h1, h2, h3, h4⟩
    subst h1
    exact ⟨h2, h3, h4⟩
  · rintro ⟨h1, h2, h3⟩
    exact ⟨e.1, by omega, rfl, h1, h2, h3⟩
theorem evI_nodup (i m : Nat) : (evI n k i m).Nodup := by
  unfold evI
  rw [List.nodup_iff_pairwise_ne, List.pairwise_map]
  refine List.Pairwise.imp ?_ ((List.nodup_iff_pairwise_ne.mp (List.nodup_range (n := m))).filter _)
  intro a b h z
  exact h (congrArg Prod.snd z)
theorem evD_succ (i : Nat) : evD n k (i + 1) = evD n k i ++ evI n k i n := by unfold evD; rw [List.range_succ, List.flatMap_append]; simp
theorem mem_evD {i : Nat} {e : Ev} (h : e ∈ evD n k i) : e.1 < i := by
  unfold evD at h
  simp only [List.mem_flatMap, List.mem_range, mem_evI] at h
  obtain ⟨j, hj, h1, _⟩ := h
  omega
theorem evD_nodup : ∀ i, (evD n k i).Nodup
  | 0 => .nil
  | i + 1 => by
    rw [evD_succ, List.nodup_append]
    refine ⟨evD_nodup i, evI_nodup i n, fun a ha b hb z => ?_⟩
    subst z
    have h1 := mem_evD ha
    have h2 := (mem_evI.mp hb).1
    omega
theorem evI_le (i m : Nat) : (evI n k i m).length ≤ m := by
  unfold evI
  rw [List.length_map]
  exact Nat.le_trans (List.length_filter_le _ _) (by rw [List.length_range]; exact Nat.le_refl _)
theorem evD_le : ∀ i, (evD n k i).length ≤ i * n
  | 0 => by simp [evD]
  | i + 1 => by
    rw [evD_succ, List.length_append, Nat.add_mul, Nat.one_mul]
    exact Nat.add_le_add (evD_le i) (evI_le i n)
def theL (n : Nat) (k : Nat → Nat) (p s : Nat → Int) : List Ev := (evs n k).foldl (putE k p s) []
theorem theL_perm (R : Rod n k p s) : (theL n k p s).Perm (evs n k) := by
  have := (puts_ok R (es := evs n k) (l := []) .nil (fun _ h => nomatch h) (fun f hf => mem_evs.mp hf) (fun _ _ h => nomatch h) (evD_nodup n)).2
  rw [List.append_nil] at this
  exact this
theorem theL_ok (R : Rod n k p s) : EvL n k p s (theL n k p s) :=
  ⟨fun e => by rw [(theL_perm R).mem_iff, mem_evs], (puts_ok R (es := evs n k) (l := []) .nil (fun _ h => nomatch h) (fun f hf => mem_evs.mp hf) (fun _ _ h => nomatch h) (evD_nodup n)).1⟩
theorem theL_one (R : Rod n k p s) {L : List Ev} (hp : L.Perm (evs n k)) (hs : L.Pairwise fun a b => ¬ soon k p s b a) : L = theL n k p s := by
  refine soon_one (hp.trans (theL_perm R).symm) ?_ (theL_ok R).so
  have nd : L.Nodup := hp.nodup_iff.mpr (evD_nodup n)
  refine List.Pairwise.imp ?_ (hs.and (List.nodup_iff_pairwise_ne.mp nd))
  intro a b h
  rcases @soon_tri k p s a b with z | z | z
  · exact z
  · exact absurd z h.2
  · exact absurd z h.1
theorem theL_len (R : Rod n k p s) : (theL n k p s).length ≤ n * n := by rw [(theL_perm R).length_eq]; exact evD_le n
end
end Pv
/-! sorted(list of tuples of d ints), any ints, any number of them. -/
namespace LexS
open PySem PySem.Spec PyProof.Rows HT
theorem lex_asym : ∀ x y : List Int, lexLt x y = true → lexLt y x = false
  | [], [], h => by cases h
  | [], _ :: _, _ => rfl
  | _ :: _, [], h => by cases h
  | x :: xs, y :: ys, h => by
    rw [lexLt_cons] at h ⊢
    by_cases e : x = y
    · subst e
      rw [if_pos rfl] at h ⊢
      exact lex_asym xs ys h
    · rw [if_neg e] at h
      rw [if_neg (fun z => e z.symm)]
      have := of_decide_eq_true h
      exact decide_eq_false (by omega)
theorem lex_tr : ∀ x y z : List Int, lexLt y x = false → lexLt z y = false → lexLt z x = false
  | [], [], [], _, _ => rfl
  | [], [], _ :: _, _, _ => rfl
  | [], _ :: _, [], _, h => by cases h
  | [], _ :: _, _ :: _, _, _ => rfl
  | _ :: _, [], _, h, _ => by cases h
  | _ :: _, _ :: _, [], _, h => by cases h
  | x :: xs, y :: ys, z :: zs, h1, h2 => by
    rw [lexLt_cons] at h1 h2 ⊢
    by_cases e1 : y = x
    · subst e1
      rw [if_pos rfl] at h1
      by_cases e2 : z = y
      · rw [if_pos e2] at h2 ⊢
        exact lex_tr xs ys zs h1 h2
      · rw [if_neg e2] at h2 ⊢
        exact h2
    · rw [if_neg e1] at h1
      have a1 := of_decide_eq_false h1
      by_cases e2 : z = y
      · subst e2
        rw [if_neg e1]
        exact h1
      · rw [if_neg e2] at h2
        have a2 := of_decide_eq_false h2
        rw [if_neg (by omega)]
        exact decide_eq_false (by omega)
def ltI (h : Heap) (v u : Value) : Bool := lexLt (TS.intsOf h v) (TS.intsOf h u)
theorem swo_lex (h : Heap) : SrtO.Swo (ltI h) := ⟨fun x y => lex_asym _ _, fun x y z => lex_tr _ _ _⟩
section
variable {prog : Program} {w : World} {A : Around} {E : Value → Shared → Prop} {s : Shared} {Q : Bool → Shared → Prop}
theorem lex_any {b : Bool} {xs ys : List Value} {ns ms : List Int} (i : Nat) (hx : IntsAre xs ns) (hy : IntsAre ys ms) (hl : ns.length = ms.length)
    (h : Q (lexLt ns ms) s) : PySem.W.KatLex prog w A b false Q (xs.zip ys) i s := by
  induction hx generalizing ys ms i with
  | nil =>
    cases hy with
    | nil => exact PySem.W.kat_nil h
    | cons q u hy => simp at hl
  | @cons p t xs ns hx ih =>
    cases hy with
    | nil => simp at hl
    | @cons q u ys ms hy =>
      have hl' : ns.length = ms.length := by simpa using hl
      show PySem.W.KatLex prog w A b false Q ((Value.int p t, Value.int q u) :: xs.zip ys) i s
      refine PySem.W.kat_cons (wpAny_eqBool_int ?_)
      rw [lexLt_cons] at h
      by_cases e : p = q
      · subst e
        rw [beq_self_eq_true]
        rw [if_pos rfl] at h
        refine PySem.W.kat_yes ?_
        first
          | exact ih (i + 1) hy hl' h
          | exact ih _ _ (i + 1) hy hl' h
      · rw [show (p == q) = false from beq_eq_false_iff_ne.mpr e]
        rw [if_neg e] at h
        exact PySem.W.kat_no (TS.oneLt_ints _ h)
/-- tuples of d ints each -/
def TupsD (h : Heap) (d : Nat) (vs : List Value) : Prop := ∀ v, v ∈ vs → ∃ ns, TS.TupInts h v ns ∧ ns.length = d
theorem firstsD {h : Heap} {d : Nat} (hd : 1 ≤ d) : ∀ vs : List Value, TupsD h d vs → ∃ fs, PySem.W.KatTups h vs fs ∧ fs.length = vs.length ∧ ∀ f, f ∈ fs → ∃ n t, f = Value.int n t
  | [], _ => ⟨[], PySem.W.KatTups.nil, rfl, fun f hf => by simp at hf⟩
  | v :: vs, x => by
    obtain ⟨fs, k, hl, hi⟩ := firstsD hd vs fun u hu => x u (List.mem_cons_of_mem _ hu)
    obtain ⟨ns, ⟨a, xs, rfl, ⟨o, ho, hc, n, hdt⟩, i⟩, hn⟩ := x v (List.mem_cons_self ..)
    obtain ⟨y, ys, e⟩ : ∃ y ys, xs.toList = y :: ys := by
      cases q : xs.toList with
      | nil =>
        rw [q] at i
        have l := i.length
        rw [List.length_nil, hn] at l
        omega
      | cons y ys => exact ⟨y, ys, rfl⟩
    obtain ⟨m, t, hy⟩ := i.all y (by rw [e]; exact List.mem_cons_self ..)
    refine ⟨y :: fs, PySem.W.KatTups.cons ho hc hdt ?_ k, by simp [hl], ?_⟩
    · have z := congrArg (fun l : List Value => l[0]?) e
      simpa using z
    · intro f hf
      rcases List.mem_cons.mp hf with rfl | hf
      · exact ⟨m, t, hy⟩
      · exact hi f hf
theorem sortableD {h0 : Heap} {a : Addr} {vs : List Value} {d : Nat} (hd : 1 ≤ d) (h2 : 2 ≤ vs.length) (x0 : TupsD h0 d vs) (k0 : ∀ b o, h0.get? b = some o → o.cls = .type "tuple" → b ≠ a ∧ s.heap.get? b = some o) : SrtO.SortableO prog w A s a vs (ltI h0) := by
  intro h' kp
  have x : TupsD h' d vs := fun v hv => by
    obtain ⟨ns, t, r⟩ := x0 v hv
    exact ⟨ns, t.keeps (fun b o hb hc => kp b o (k0 b o hb hc).1 (k0 b o hb hc).2), r⟩
  obtain ⟨fs, k, hl, hi⟩ := firstsD hd vs x
  refine ⟨tuples' (Value.type "int" != Value.type "tuple"), fun Q E hq => ?_, ?_⟩
  · refine PySem.W.kat_kind (T := Value.type "int") (s := { s with heap := h' }) k (by omega) (fun f hf => ?_) rfl hq
    obtain ⟨n, t, rfl⟩ := hi f hf
    exact PySem.W.Looks.of_pure rfl
  · intro p q hp hq
    obtain ⟨ns, tp0, lp⟩ := x0 _ hp
    obtain ⟨ms, tq0, lq⟩ := x0 _ hq
    have e0 : SrtO.lt2 (ltI h0) p q = lexLt ns ms := by
      show lexLt (TS.intsOf h0 p.1) (TS.intsOf h0 q.1) = _
      rw [tp0.ints, tq0.ints]
    rw [e0]
    obtain ⟨a1, xs, e1, ⟨o, ho, hc, n, hdt⟩, i⟩ := tp0.keeps (h' := h') (fun b o hb hc => kp b o (k0 b o hb hc).1 (k0 b o hb hc).2)
    obtain ⟨a2, ys, e2, ⟨o', ho', hc', n', hdt'⟩, i'⟩ := tq0.keeps (h' := h') (fun b o hb hc => kp b o (k0 b o hb hc).1 (k0 b o hb hc).2)
    rw [e1, e2]
    refine PySem.W.kat_lt (s := { s with heap := h' }) ho hdt ho' hdt' ?_
    have sz : decide (xs.size < ys.size) = false := by
      have l1 := i.length
      have l2 := i'.length
      rw [Array.length_toList] at l1 l2
      exact decide_eq_false (by omega)
    rw [sz]
    exact lex_any 0 i i' (by omega) ⟨rfl, rfl⟩
end
end LexS
namespace L2
open PySem PySem.Spec PyProof.Rows
section
variable {X : Cx}
def rSortL (K : PySem.W.Frag) : List V → Hp → VK → Prop := fun vs H Q => ∃ (a : Addr) (xs : List V) (d : Nat), vs = [V.ref a] ∧ SqL K H a xs ∧ 1 ≤ d ∧ (∀ x ∈ xs, ∃ ns, TupI K H x ns ∧ ns.length = d) ∧
  ∀ (ys : List V) (p : Addr), ys.Perm xs → ys.Pairwise (fun x y => ∀ n m, TupI K H x n → TupI K H y m → HT.lexLt m n = false) → H p = none → Q (.ref p) (upd H p (.lst ys))
theorem cr_sortL : CallR X (.builtin "sorted") (rSortL X.K) := by
  intro pins s σ H vs us Q I r h
  obtain ⟨a, xs, d, rfl, hs, hd, hx, q⟩ := h
  obtain ⟨its, rv, hl, hz⟩ := I.list hs
  rw [Vals.ref1 r]
  obtain ⟨e1, e2⟩ := bkV_refs rv fun x m => by
    obtain ⟨ns, ⟨t, e, _⟩, _⟩ := hx x m
    exact ⟨t, e⟩
  have tD : LexS.TupsD s.heap d its := fun v hv => by
    obtain ⟨t, rfl⟩ := e2 v hv
    have hm : V.ref t ∈ xs := by
      rw [e1]
      exact List.mem_map.mpr ⟨_, hv, rfl⟩
    obtain ⟨ns, ⟨t', e, ht⟩, hn⟩ := hx _ hm
    cases e
    exact ⟨ns, tupI_raw I ht, hn⟩
  refine SrtO.sorted_ord (LexS.swo_lex s.heap) hl.isList (by rw [← rv.length]; exact hz) (fun h2 h₁ a' ha' kp => LexS.sortableD hd h2 tD fun b o hb hc => kp b o hb) fun out h1 h2 => ?_
  obtain ⟨ep, he'⟩ := PyProof.Rows.sortedAll_at s.heap its out.toArray
  have h3 : ∀ u ∈ out, ∃ a, u = Value.ref a := fun u hu => e2 u (h2.perm.mem_iff.mp hu)
  have hp : (out.map bkV).Perm xs := by
    rw [e1]
    exact h2.perm.map bkV
  have hlen : (out.map bkV).length ≤ sizeLine := by
    rw [hp.length_eq]
    exact hz
  refine ⟨.ref _, upd H (s.heap.objs.size + 1) (.lst (out.map bkV)), I.laid (t' := s.toks) (fun _ _ => PyProof.Rows.sortedAll_old) (Nat.le_succ _) ⟨hlen, out, ep, bkV_vals h3, he'⟩, rfl, q _ _ hp ?_ (I.hok.fresh (Nat.le_succ _))⟩
  rw [List.pairwise_map]
  refine List.Pairwise.imp (fun {u v} huv n m hn hm => ?_) h1
  obtain ⟨t, et, ht⟩ := hn
  obtain ⟨t', et', ht'⟩ := hm
  have eu := bkV_ref et
  have ev := bkV_ref et'
  have i1 : TS.intsOf s.heap u = n := by
    rw [eu]
    exact (tupI_raw I ht).ints
  have i2 : TS.intsOf s.heap v = m := by
    rw [ev]
    exact (tupI_raw I ht').ints
  rw [← i1, ← i2]
  exact huv
end
end L2
namespace Pv
open PySem PySem.Spec L2 Wf
/-- sorted(list of tuples of d ints) -/
def fSortL : PyData → (List PyData → Prop) → Prop := fun x k => ∃ (nss : List (List Int)) (d : Nat), x = .list (nss.map dK) ∧ 1 ≤ d ∧ (∀ ns ∈ nss, ns.length = d) ∧ ∀ mss : List (List Int), mss.Perm nss → mss.Pairwise (fun n m => HT.lexLt m n = false) → k (mss.map dK)
theorem lc_sortL {K : PySem.W.Frag} : LC K (q1L fSortL) (rSortL K) := by
  refine lc_own1 (fun G H v x Q s hv q => ?_) (fun x k k' hk q => ?_)
  · obtain ⟨nss, d, rfl, hd, hb, q⟩ := q
    obtain ⟨a, us, rfl, ha, hds⟩ := hv.seqL s
    refine ⟨a, us, d, rfl, SqL.of ha, hd, fun x hx => ?_, fun ys p hp ho hn => ?_⟩
    · obtain ⟨ns, hm, t⟩ := dq_each s hds x hx
      exact ⟨ns, t, hb ns hm⟩
    · obtain ⟨mss, p1, p2⟩ := dq_perm hp hds
      exact q mss p1 (dq_pairs s p2 ho) ys p p2 hn
  · obtain ⟨nss, d, e, hd, hb, q⟩ := q
    exact ⟨nss, d, e, hd, hb, fun mss p1 p2 => hk _ (q mss p1 p2)⟩
end Pv
namespace Pv
open PySem PySem.Spec L2 Wf
/-! Roads: what passings does. -/
/-! ### common_divisor -/
-- DEF common_divisor N ['one', 'other'] calls [] takes []
def pb_cdiv_1 : PSx :=
    pPar [0, 1] (pCons (pVar 1) (pCons (pMod (pVar 0) (pVar 1)) (pNil)))
def pr_cdiv_1 : PSx :=
    pRet (pVar 0)
def p_cdiv : PSx :=
    pSeq (pWhile [] (pT (pGt (pVar 1) (pK (.int 0)))) (pb_cdiv_1))
    (pr_cdiv_1)
def psp_cdiv : PSp := fun as Q _ => ∃ a b : Nat, as = [.im (nD a), .im (nD b)] ∧ Q (.im (nD (Nat.gcd a b))) [.un, .un]
theorem gcd_step (x y : Nat) : Nat.gcd y (x % y) = Nat.gcd x y := by
  rw [Nat.gcd_comm x y, Nat.gcd_rec y x, Nat.gcd_comm]
theorem hp_cdiv (as : List Sl) (Qp : QE) (Ep : EX) (h : psp_cdiv as Qp Ep) : p_cdiv (endsP as Qp) (as ++ List.replicate 0 .un) := by
  obtain ⟨a, b, rfl, q⟩ := h
  refine ⟨fun m δ => ∃ x y : Nat, m = y ∧ Nat.gcd x y = Nat.gcd a b ∧ δ = [.im (nD x), .im (nD y)], ⟨b, a, b, rfl, rfl, rfl⟩, ?_⟩
  rintro m δ ⟨x, y, rfl, hg, rfl⟩
  refine ⟨trivial, _, rfl, ?_⟩
  show if decide ((0 : Int) < (m : Int)) = true then _ else _
  by_cases c : 0 < m
  · rw [if_pos (decide_eq_true (by omega))]
    refine ⟨show (0 : Int) < (m : Int) by omega, _, _, rfl, x % m, Nat.mod_lt _ c, m, x % m, rfl, by rw [gcd_step]; exact hg, ?_⟩
    show [Sl.im (nD m), Sl.im (.int ((x : Int) % (m : Int)))] = [Sl.im (nD m), Sl.im (.int ((x % m : Nat) : Int))]
    rw [Int.natCast_emod]
  · rw [if_neg (fun z => c (by have := of_decide_eq_true z; omega))]
    have e : m = 0 := by omega
    subst e
    rw [Nat.gcd_zero_right] at hg
    subst hg
    exact ⟨_, _, rfl, q⟩
/-! ### common_multiple -/
-- DEF common_multiple N ['numbers', 'multiple', 'number'] calls ['common_divisor'] takes []
def pb_cmul_1 : PSx :=
    pSet 1 (pMul (pFdiv (pVar 1) (pCall psp_cdiv (pCons (pFz (pVar 1)) (pCons (pFz (pVar 2)) (pNil))) noX)) (pVar 2))
def pr_cmul_1 : PSx :=
    pRet (pVar 1)
def pr_cmul_2 : PSx :=
    pSeq (pFor [2] (iSeq (pVar 0)) (gN 2) (pb_cmul_1))
    (pr_cmul_1)
def p_cmul : PSx :=
    pSeq (pSet 1 (pK (.int 1)))
    (pr_cmul_2)
def lcmL (gs : List Nat) : Nat := gs.foldl (fun m g => m / Nat.gcd m g * g) 1
theorem lcmL_snoc (gs : List Nat) (g : Nat) : lcmL (gs ++ [g]) = lcmL gs / Nat.gcd (lcmL gs) g * g := by unfold lcmL; rw [List.foldl_append]; rfl
def psp_cmul : PSp := fun as Q _ => ∃ gs : List Nat, as = [.im (.list (dN gs))] ∧ (∀ g ∈ gs, 1 ≤ g ∧ g ≤ 2000) ∧ Q (.im (nD (lcmL gs))) [.un]
theorem cd_gcd {x : Int} {m g : Nat} (h1 : 1 ≤ g) (h2 : g ≤ 2000) : CDivW x ((Nat.gcd m g : Nat) : Int) := by
  have a := Nat.gcd_le_right m (show 0 < g by omega)
  have b := Nat.gcd_pos_of_pos_right m (show 0 < g by omega)
  exact wide_div (b := 12) (by omega) (by rw [Int.natAbs_natCast]; omega) (by decide) (by decide)
theorem hp_cmul (as : List Sl) (Qp : QE) (Ep : EX) (h : psp_cmul as Qp Ep) : p_cmul (endsP as Qp) (as ++ List.replicate 2 .un) := by
  obtain ⟨gs, rfl, hg, q⟩ := h
  refine ⟨_, _, rfl, ?_⟩
  show pr_cmul_2 _ [.im (.list (dN gs)), .im (nD 1), .un]
  refine ⟨_, _, _, rfl, rfl, ?_⟩
  refine for_dN gs (fun i δ => δ = [.im (.list (dN gs)), .im (nD (lcmL (gs.take i))), .un]) rfl ?_ ?_
  · rintro i g δ hi rfl
    obtain ⟨h1, h2⟩ := hg g (List.mem_of_getElem? hi)
    refine ⟨_, _, rfl, _, _, rfl, _, rfl, List.nodup_nil, _, g, rfl, cd_gcd h1 h2, .inl (.inr ⟨by omega, by omega⟩), _, _, rfl, ?_⟩
    show [_, _, _] = [_, _, _]
    rw [List.take_add_one, hi]
    show _ = [_, Sl.im (nD (lcmL (gs.take i ++ [g]))), _]
    rw [lcmL_snoc]
    show _ = [_, Sl.im (.int ((_ : Nat) : Int)), _]
    rw [Int.natCast_mul, Int.natCast_ediv]
    rfl
  · rintro δ rfl
    rw [List.take_length]
    exact ⟨_, _, rfl, q⟩
theorem lcm_dvd {gs : List Nat} {W : Nat} : ∀ {hs : List Nat} {m : Nat}, (∀ g ∈ hs, 1 ≤ g ∧ g ∣ W) → m ∣ W → 0 < m → hs.foldl (fun m g => m / Nat.gcd m g * g) m ∣ W ∧ 0 < hs.foldl (fun m g => m / Nat.gcd m g * g) m ∧ m ∣ hs.foldl (fun m g => m / Nat.gcd m g * g) m ∧ ∀ g ∈ hs, g ∣ hs.foldl (fun m g => m / Nat.gcd m g * g) m
  | [], m, _, h, h0 => ⟨h, h0, Nat.dvd_refl m, fun _ z => nomatch z⟩
  | g :: hs, m, hg, h, h0 => by
    obtain ⟨g1, g2⟩ := hg g List.mem_cons_self
    have e : m / Nat.gcd m g * g = Nat.lcm m g := by
      unfold Nat.lcm
      rw [Nat.div_mul_right_comm (Nat.gcd_dvd_left m g)]
    obtain ⟨r1, r2, r3, r4⟩ := lcm_dvd (gs := gs) (W := W) (hs := hs) (m := Nat.lcm m g) (fun x hx => hg x (List.mem_cons_of_mem _ hx)) (Nat.lcm_dvd h g2) (Nat.lcm_pos h0 g1)
    have el : (g :: hs).foldl (fun m g => m / Nat.gcd m g * g) m = hs.foldl (fun m g => m / Nat.gcd m g * g) (Nat.lcm m g) := by rw [List.foldl_cons, e]
    rw [el]
    refine ⟨r1, r2, Nat.dvd_trans (Nat.dvd_lcm_left m g) r3, fun x hx => ?_⟩
    rcases List.mem_cons.mp hx with rfl | hx
    · exact Nat.dvd_trans (Nat.dvd_lcm_right m x) r3
    · exact r4 x hx
theorem prod_dvd : ∀ {l : List Nat} {x : Nat}, x ∈ l → x ∣ l.foldr (· * ·) 1
  | a :: l, x, h => by
    rcases List.mem_cons.mp h with rfl | h
    · exact Nat.dvd_mul_right _ _
    · exact Nat.dvd_trans (prod_dvd h) (Nat.dvd_mul_left _ _)
theorem prod_le : ∀ {l : List Nat}, (∀ x ∈ l, 1 ≤ x ∧ x ≤ 2000) → 1 ≤ l.foldr (· * ·) 1 ∧ l.foldr (· * ·) 1 ≤ 2048 ^ l.length
  | [], _ => ⟨Nat.le_refl _, Nat.le_refl _⟩
  | a :: l, h => by
    obtain ⟨h1, h2⟩ := h a List.mem_cons_self
    obtain ⟨i1, i2⟩ := prod_le (l := l) fun x hx => h x (List.mem_cons_of_mem _ hx)
    show 1 ≤ a * l.foldr (· * ·) 1 ∧ a * l.foldr (· * ·) 1 ≤ 2048 ^ (l.length + 1)
    refine ⟨Nat.mul_le_mul h1 i1, ?_⟩
    rw [Nat.pow_succ, Nat.mul_comm (2048 ^ _)]
    exact Nat.mul_le_mul (by omega) i2
theorem lcmL_ok {gs gs0 : List Nat} (h0 : gs0.length ≤ 100) (h1 : ∀ g ∈ gs0, 1 ≤ g ∧ g ≤ 2000) (h2 : ∀ g ∈ gs, g ∈ gs0) : 0 < lcmL gs ∧ lcmL gs < 2 ^ 2000 ∧ ∀ g ∈ gs, g ∣ lcmL gs := by
  obtain ⟨p1, p2⟩ := prod_le h1
  obtain ⟨r1, r2, _, r4⟩ := lcm_dvd (gs := gs) (W := gs0.foldr (· * ·) 1) (hs := gs) (m := 1) (fun g hg => ⟨(h1 g (h2 g hg)).1, prod_dvd (h2 g hg)⟩) (Nat.one_dvd _) (by decide)
  refine ⟨r2, ?_, r4⟩
  have l1 : lcmL gs ≤ gs0.foldr (· * ·) 1 := Nat.le_of_dvd p1 r1
  have l2 : (2048 : Nat) ^ gs0.length ≤ 2048 ^ 100 := Nat.pow_le_pow_right (by decide) h0
  have l3 : (2048 : Nat) ^ 100 < 2 ^ 2000 := by
    rw [show (2048 : Nat) = 2 ^ 11 by decide, ← Nat.pow_mul]
    exact Nat.pow_lt_pow_right (by decide) (by decide)
  exact Nat.lt_of_le_of_lt (Nat.le_trans l1 (Nat.le_trans p2 l2)) l3
/-! ### moment_of -/
-- DEF moment_of N ['upper', 'lower', 'divisor'] calls ['common_divisor'] takes []
def pr_moment_of_1 : PSx :=
    pRet (pTup (pCons (pFdiv (pVar 0) (pVar 2)) (pCons (pFdiv (pVar 1) (pVar 2)) (pNil))))
def p_moment_of : PSx :=
    pSeq (pSet 2 (pCall psp_cdiv (pCons (pFz (pVar 0)) (pCons (pFz (pVar 1)) (pNil))) noX))
    (pr_moment_of_1)
def psp_moment_of : PSp := fun as Q _ => ∃ a b : Nat, as = [.im (nD a), .im (nD b)] ∧ 0 < b ∧ b < 2 ^ 2000 ∧ Q (.im (.tuple [nD (a / Nat.gcd a b), nD (b / Nat.gcd a b)])) [.un, .un]
theorem hp_moment_of (as : List Sl) (Qp : QE) (Ep : EX) (h : psp_moment_of as Qp Ep) : p_moment_of (endsP as Qp) (as ++ List.replicate 1 .un) := by
  obtain ⟨a, b, rfl, b0, b1, q⟩ := h
  have cd : ∀ x : Int, CDivW x ((Nat.gcd a b : Nat) : Int) := fun x => by
    have h1 := Nat.gcd_le_right a b0
    have h2 := Nat.gcd_pos_of_pos_right a b0
    exact wide_div (b := 2000) (by omega) (by rw [Int.natAbs_natCast]; exact Nat.lt_of_le_of_lt h1 b1) (by decide) (by decide)
  refine ⟨_, _, rfl, _, _, rfl, _, rfl, List.nodup_nil, a, b, rfl, _, _, rfl, ?_⟩
  show pr_moment_of_1 _ [.im (nD a), .im (nD b), .im (nD (Nat.gcd a b))]
  refine ⟨cd _, cd _, _, _, rfl, ?_⟩
  have q' := q
  rw [show nD (a / Nat.gcd a b) = .int ((a : Int) / ((Nat.gcd a b : Nat) : Int)) by show PyData.int _ = _; rw [Int.natCast_ediv], show nD (b / Nat.gcd a b) = .int ((b : Int) / ((Nat.gcd a b : Nat) : Int)) by show PyData.int _ = _; rw [Int.natCast_ediv]] at q'
  exact q'
/-! ### in_told_order -/
-- DEF in_told_order N ['kinds', 'meetings', 'parts', 'turns', 'way', 'gap', 'i', 'j', 'when', 'less_u', 'less_v'] calls ['common_multiple', 'moment_of'] takes []
def pe_told_order_1 : PX :=
    pVar 5
def pe_told_order_2 : PX :=
    pTup (pCons (pMul (pVar 4) (pFdiv (pVar 2) (pVar 5))) (pCons (pNeg (pIx (pVar 0) (pVar 6))) (pCons (pNeg (pIx (pVar 0) (pVar 7))) (pCons (pVar 6) (pCons (pVar 7) (pNil))))))
def pe_told_order_3 : PX :=
    pTup (pCons (pCall psp_moment_of (pCons (pFz (pVar 8)) (pCons (pFz (pVar 2)) (pNil))) noX) (pCons (pVar 6) (pCons (pVar 7) (pNil))))
def pr_told_order_1 : PSx :=
    pRet (pC (q1 fTupleOf) (pCons (pComp (iSeq (pVar 3)) (gT 5 (gsC (gN 8) (gsC (gN 9) (gsC (gN 10) (gsC (gN 6) (gsC (gN 7) (gsN))))))) (pYes) (pe_told_order_3) [8, 9, 10, 6, 7]) (pNil)))
def pr_told_order_2 : PSx :=
    pSeq (pSet 3 (pC (q1L fSortL) (pCons (pComp (iSeq (pVar 1)) (gT 4 (gsC (gN 4) (gsC (gN 5) (gsC (gN 6) (gsC (gN 7) (gsN)))))) (pYes) (pe_told_order_2) [4, 5, 6, 7]) (pNil))))
    (pr_told_order_1)
def p_told_order : PSx :=
    pSeq (pSet 2 (pCall psp_cmul (pCons (pFz (pComp (iSeq (pVar 1)) (gT 4 (gsC (gN 4) (gsC (gN 5) (gsC (gN 6) (gsC (gN 7) (gsN)))))) (pYes) (pe_told_order_1) [4, 5, 6, 7])) (pNil)) noX))
    (pr_told_order_2)
/-- a way, a gap, who passes whom -/
abbrev Mt := Nat × Nat × Nat × Nat
abbrev mtD (m : Mt) : PyData := .tuple [nD m.1, nD m.2.1, nD m.2.2.1, nD m.2.2.2]
abbrev toldD (m : Mt) : PyData := .tuple [.tuple [nD (m.1 / Nat.gcd m.1 m.2.1), nD (m.2.1 / Nat.gcd m.1 m.2.1)], nD m.2.2.1, nD m.2.2.2]
def soonM (ks : List Nat) (a b : Mt) : Prop := a.1 * b.2.1 < b.1 * a.2.1 ∨ a.1 * b.2.1 = b.1 * a.2.1 ∧ soonK (fun i => ks.getD i 0) (a.2.2.1, a.2.2.2) (b.2.2.1, b.2.2.2)
def keyM (ks : List Nat) (W : Nat) (m : Mt) : List Int := [((m.1 * (W / m.2.1) : Nat) : Int), -((ks.getD m.2.2.1 0 : Nat) : Int), -((ks.getD m.2.2.2 0 : Nat) : Int), (m.2.2.1 : Int), (m.2.2.2 : Int)]
theorem lex5 {b0 b1 b2 b3 b4 a0 a1 a2 a3 a4 : Int} (h : HT.lexLt [b0, b1, b2, b3, b4] [a0, a1, a2, a3, a4] = false) : ¬ (b0 < a0 ∨ b0 = a0 ∧ (b1 < a1 ∨ b1 = a1 ∧ (b2 < a2 ∨ b2 = a2 ∧ (b3 < a3 ∨ b3 = a3 ∧ b4 < a4)))) := by
  simp only [HT.lexLt_cons] at h
  split at h
  · split at h
    · split at h
      · split at h
        · split at h
          · omega
          · have := of_decide_eq_false h; omega
        · have := of_decide_eq_false h; omega
      · have := of_decide_eq_false h; omega
    · have := of_decide_eq_false h; omega
  · have := of_decide_eq_false h; omega
theorem key_soon {ks : List Nat} {W : Nat} {a b : Mt} (W0 : 0 < W) (ga : 1 ≤ a.2.1) (gb : 1 ≤ b.2.1) (da : a.2.1 ∣ W) (db : b.2.1 ∣ W) (h : HT.lexLt (keyM ks W b) (keyM ks W a) = false) : ¬ soonM ks b a := by
  have h := lex5 h
  intro z
  refine h ?_
  obtain ⟨ca, ea⟩ := da
  obtain ⟨cb, eb⟩ := db
  have qa : W / a.2.1 = ca := by rw [ea]; exact Nat.mul_div_cancel_left _ ga
  have qb : W / b.2.1 = cb := by rw [eb]; exact Nat.mul_div_cancel_left _ gb
  rw [qa, qb]
  have pa : 0 < ca := Nat.pos_of_ne_zero fun z => by rw [z, Nat.mul_zero] at ea; omega
  have pb : 0 < cb := Nat.pos_of_ne_zero fun z => by rw [z, Nat.mul_zero] at eb; omega
  have m1 : (b.1 * cb) * W = (b.1 * a.2.1) * (ca * cb) := by rw [ea, Nat.mul_mul_mul_comm, Nat.mul_comm cb ca]
  have m2 : (a.1 * ca) * W = (a.1 * b.2.1) * (ca * cb) := by rw [eb, Nat.mul_mul_mul_comm]
  have pc : 0 < ca * cb := Nat.mul_pos pa pb
  rcases z with z | ⟨z, y⟩
  · have : (b.1 * cb) * W < (a.1 * ca) * W := by rw [m1, m2]; exact Nat.mul_lt_mul_of_pos_right z pc
    have := Nat.lt_of_mul_lt_mul_right this
    exact .inl (by omega)
  · have : (b.1 * cb) * W = (a.1 * ca) * W := by rw [m1, m2, z]
    have := Nat.eq_of_mul_eq_mul_right W0 this
    refine .inr ⟨by omega, ?_⟩
    unfold soonK at y
    dsimp only at y
    omega
theorem told_red {w g W : Nat} (g1 : 1 ≤ g) (W0 : 0 < W) (d : g ∣ W) : w * (W / g) / Nat.gcd (w * (W / g)) W = w / Nat.gcd w g ∧ W / Nat.gcd (w * (W / g)) W = g / Nat.gcd w g := by
  obtain ⟨c, e⟩ := d
  have q : W / g = c := by rw [e]; exact Nat.mul_div_cancel_left _ g1
  have pc : 0 < c := Nat.pos_of_ne_zero fun z => by rw [z, Nat.mul_zero] at e; omega
  rw [q]
  conv => lhs; rw [e, Nat.gcd_mul_right, Nat.mul_div_mul_right _ _ pc]
  conv => rhs; rw [e, Nat.gcd_mul_right, Nat.mul_div_mul_right _ _ pc]
  exact ⟨rfl, rfl⟩
theorem perm_map_inv {α β : Type} [DecidableEq α] {f : α → β} : ∀ {m : List β} {l : List α}, m.Perm (l.map f) → ∃ o : List α, o.Perm l ∧ m = o.map f
  | [], l, h => ⟨[], by rw [List.map_eq_nil_iff.mp h.nil_eq.symm], rfl⟩
  | b :: m, l, h => by
    obtain ⟨a, ha, e⟩ := List.mem_map.mp (h.mem_iff.mp List.mem_cons_self)
    have p1 := List.perm_cons_erase ha
    have h2 := h.trans (p1.map f)
    rw [List.map_cons, e] at h2
    obtain ⟨o, h3, h4⟩ := perm_map_inv h2.cons_inv
    exact ⟨a :: o, (h3.cons a).trans p1.symm, by rw [List.map_cons, e, h4]⟩
structure MtOk (ks : List Nat) (m : Mt) : Prop where
  w : m.1 < 2 ^ 63
  g1 : 1 ≤ m.2.1
  g2 : m.2.1 ≤ 2000
  i : m.2.2.1 < ks.length
  j : m.2.2.2 < ks.length
def psp_told_order : PSp := fun as Q _ => ∃ (ks : List Nat) (ms : List Mt) (gs0 : List Nat), as = [.im (.tuple (dN ks)), .im (.list (ms.map mtD))] ∧ (∀ m ∈ ms, MtOk ks m) ∧ ms.length ≤ 1000000 ∧ gs0.length ≤ 100 ∧ (∀ g ∈ gs0, 1 ≤ g ∧ g ≤ 2000) ∧ (∀ m ∈ ms, m.2.1 ∈ gs0) ∧
  ∀ out : List Mt, out.Perm ms → out.Pairwise (fun a b => ¬ soonM ks b a) → Q (.im (.tuple (out.map toldD))) [.un, .un]
abbrev stT (ks : List Nat) (ms : List Mt) (s2 s3 : Sl) : List Sl := [.im (.tuple (dN ks)), .im (.list (ms.map mtD)), s2, s3, .un, .un, .un, .un, .un, .un, .un]
theorem hp_told_order (as : List Sl) (Qp : QE) (Ep : EX) (h : psp_told_order as Qp Ep) : p_told_order (endsP as Qp) (as ++ List.replicate 9 .un) := by
  obtain ⟨ks, ms, gs0, rfl, mok, ml, g0, g1, g2, q⟩ := h
  have z9 : (1000000 : Nat) < sizeLine := by decide
  refine ⟨_, _, _, rfl, rfl, fun x hx o => by (simp only [List.mem_cons, List.not_mem_nil, or_false] at hx; rcases hx with rfl | rfl | rfl | rfl <;> exact nofun), fun i acc δ => acc = dN ((ms.take i).map fun m => m.2.1) ∧ δ = stT ks ms .un .un, ⟨rfl, rfl⟩, ?_, ?_⟩
  · rintro i d acc δ hd ⟨rfl, rfl⟩
    rw [List.getElem?_map] at hd
    obtain ⟨m, hm, rfl⟩ := Option.map_eq_some_iff.mp hd
    refine ⟨rfl, rfl, _, _, rfl, ?_, ?_, rfl⟩
    · rw [dN_len, List.length_map, List.length_take]
      omega
    · rw [List.take_add_one, hm, List.map_append, dN_app]
      rfl
  rintro acc δ ⟨rfl, rfl⟩
  rw [List.length_map, List.take_length]
  obtain ⟨W0, W1, W2⟩ := lcmL_ok (gs := ms.map fun m => m.2.1) g0 g1 (fun g hg => by
    obtain ⟨m, hm, rfl⟩ := List.mem_map.mp hg
    exact g2 m hm)
  refine ⟨_, _, rfl, _, rfl, List.nodup_nil, _, rfl, fun g hg => ?_, _, _, rfl, ?_⟩
  · obtain ⟨m, hm, rfl⟩ := List.mem_map.mp hg
    exact ⟨(mok m hm).g1, (mok m hm).g2⟩
  generalize lcmL (ms.map fun m => m.2.1) = W at W0 W1 W2
  have W2 : ∀ m ∈ ms, m.2.1 ∣ W := fun m hm => W2 _ (List.mem_map.mpr ⟨m, hm, rfl⟩)
  show pr_told_order_2 _ (stT ks ms (.im (nD W)) .un)
  refine ⟨_, _, _, rfl, rfl, fun x hx o => by (simp only [List.mem_cons, List.not_mem_nil, or_false] at hx; rcases hx with rfl | rfl | rfl | rfl <;> exact nofun), fun i acc δ => acc = ((ms.take i).map (keyM ks W)).map dK ∧ δ = stT ks ms (.im (nD W)) .un, ⟨rfl, rfl⟩, ?_, ?_⟩
  · rintro i d acc δ hd ⟨rfl, rfl⟩
    rw [List.getElem?_map] at hd
    obtain ⟨m, hm, rfl⟩ := Option.map_eq_some_iff.mp hd
    have ok := mok m (List.mem_of_getElem? hm)
    have cd : CDivW (W : Int) ((m.2.1 : Nat) : Int) := by
      have := ok.g1
      have := ok.g2
      exact wide_div (b := 12) (by omega) (by rw [Int.natAbs_natCast]; omega) (by decide) (by decide)
    have okw := ok.w
    refine ⟨rfl, rfl, cd, .inl (.inl ⟨by omega, by omega⟩), _, atI_of rfl (dN_get (getD_of ok.i)), _, atI_of rfl (dN_get (getD_of ok.j)), _, _, rfl, ?_, ?_, rfl⟩
    · rw [List.length_map, List.length_map, List.length_take]
      omega
    · rw [List.take_add_one, hm, List.map_append, List.map_append]
      show _ ++ [PyData.tuple [.int ((m.1 : Int) * ((W : Int) / (m.2.1 : Int))), _, _, _, _]] = _ ++ [dK (keyM ks W m)]
      unfold keyM
      rw [Int.natCast_mul, Int.natCast_ediv]
      rfl
  rintro acc δ ⟨rfl, rfl⟩
  rw [List.length_map, List.take_length]
  refine ⟨_, 5, rfl, by decide, fun ns hn => ?_, fun mss pm so => ?_⟩
  · obtain ⟨m, hm, rfl⟩ := List.mem_map.mp hn
    rfl
  obtain ⟨out, po, rfl⟩ := perm_map_inv pm
  have so' := List.pairwise_map.mp so
  have oo : out.Pairwise fun a b => ¬ soonM ks b a := by
    refine List.Pairwise.imp_of_mem ?_ so'
    intro a b ha hb hab
    have ma := po.mem_iff.mp ha
    have mb := po.mem_iff.mp hb
    exact key_soon W0 (mok a ma).g1 (mok b mb).g1 (W2 a ma) (W2 b mb) hab
  have q := q out po oo
  have ol := po.length_eq
  refine ⟨_, _, rfl, ?_⟩
  show pr_told_order_1 _ (stT ks ms (.im (nD W)) (.ow false (.lst ((out.map (keyM ks W)).map dK))))
  refine ⟨_, _, _, rfl, rfl, fun x hx o => by (simp only [List.mem_cons, List.not_mem_nil, or_false] at hx; rcases hx with rfl | rfl | rfl | rfl | rfl <;> exact nofun), fun i acc δ => acc = (out.take i).map toldD ∧ δ = stT ks ms (.im (nD W)) (.im (.list ((out.map (keyM ks W)).map dK))), ⟨rfl, rfl⟩, ?_, ?_⟩
  · rintro i d acc δ hd ⟨rfl, rfl⟩
    rw [List.getElem?_map, List.getElem?_map] at hd
    obtain ⟨k, hk, rfl⟩ := Option.map_eq_some_iff.mp hd
    obtain ⟨m, hm, rfl⟩ := Option.map_eq_some_iff.mp hk
    have mm := po.mem_iff.mp (List.mem_of_getElem? hm)
    have ok := mok m mm
    have rd := told_red (w := m.1) ok.g1 W0 (W2 m mm)
    refine ⟨rfl, rfl, _, _, rfl, _, _, rfl, _, rfl, List.nodup_nil, m.1 * (W / m.2.1), W, rfl, W0, W1, _, _, rfl, ?_, ?_, rfl⟩
    · rw [List.length_map, List.length_take]
      omega
    · rw [List.take_add_one, hm, List.map_append, rd.1, rd.2]
      rfl
  · rintro acc δ ⟨rfl, rfl⟩
    rw [List.length_map, List.length_map, List.take_length]
    exact ⟨_, _, rfl, q⟩
/-! ### passings -/
-- DEF passings N ['book', 'kinds', 'spots', 'paces', 'many', 'meetings', 'i', 'j'] calls ['in_told_order'] takes []
def pe_passings_1 : PX :=
    pTup (pCons (pSub (pIx (pVar 2) (pVar 7)) (pIx (pVar 2) (pVar 6))) (pCons (pSub (pIx (pVar 3) (pIx (pVar 1) (pVar 6))) (pIx (pVar 3) (pIx (pVar 1) (pVar 7)))) (pCons (pVar 6) (pCons (pVar 7) (pNil)))))
def pr_passings_1 : PSx :=
    pRet (pCall psp_told_order (pCons (pFz (pVar 1)) (pCons (pFz (pVar 5)) (pNil))) noX)
def pr_passings_2 : PSx :=
    pSeq (pSet 5 (pComp2 (iRg (pCons (pVar 4) (pNil))) (gN 6) (pYes) (iRg (pCons (pAdd (pVar 6) (pK (.int 1))) (pCons (pVar 4) (pNil)))) (gN 7) (pT (pGt (pIx (pVar 1) (pVar 6)) (pIx (pVar 1) (pVar 7)))) (pe_passings_1) [6, 7] [7]))
    (pr_passings_1)
def pr_passings_3 : PSx :=
    pSeq (pSet 4 (pC (q1 fLen) (pCons (pVar 1) (pNil))))
    (pr_passings_2)
def p_passings : PSx :=
    pSeq (pSet 3 (pIx (pVar 0) (pK (.int 0))))
    (pr_passings_3)
abbrev kf (ks : List Nat) : Nat → Nat := fun i => ks.getD i 0
abbrev pf (ps : List Int) (ks : List Nat) : Nat → Int := fun i => ps.getD (ks.getD i 0) 0
abbrev sf (ss : List Int) : Nat → Int := fun i => ss.getD i 0
structure RdOk (m : Int) (ps : List Int) (ks : List Nat) (ss : List Int) : Prop where
  pac : PacesOk m ps
  m5 : m ≤ 5
  kl : ∀ k ∈ ks, (k : Int) < m
  n10 : ks.length ≤ 10
  sl : ss.length = ks.length
  up : ss.Pairwise (· < ·)
  lo : ∀ x ∈ ss, -(2 ^ 62) ≤ x ∧ x < 2 ^ 62
theorem getDm {α : Type} {l : List α} {i : Nat} {d : α} (h : i < l.length) : l.getD i d ∈ l := by
  rw [List.getD_eq_getElem?_getD, List.getElem?_eq_getElem h]
  exact List.getElem_mem h
theorem up_get {l : List Int} (h : l.Pairwise (· < ·)) {i j : Nat} (hij : i < j) (hj : j < l.length) : l.getD i 0 < l.getD j 0 := by
  have := List.pairwise_iff_getElem.mp h i j (by omega) hj hij
  rw [List.getD_eq_getElem?_getD, List.getD_eq_getElem?_getD, List.getElem?_eq_getElem hj, List.getElem?_eq_getElem (show i < l.length by omega)]
  exact this
theorem RdOk.kp {m : Int} {ps ss : List Int} {ks : List Nat} (h : RdOk m ps ks ss) {i : Nat} (hi : i < ks.length) : ks.getD i 0 < ps.length := by
  have := h.kl _ (getDm (d := 0) hi)
  have := h.pac.len
  omega
theorem RdOk.rod {m : Int} {ps ss : List Int} {ks : List Nat} (h : RdOk m ps ks ss) : Rod ks.length (kf ks) (pf ps ks) (sf ss) where
  up := fun i j hij hj => up_get h.up hij (by rw [h.sl]; exact hj)
  pk := fun i j hi hj hk => up_get h.pac.rise hk (h.kp hj)
  pe := fun i j hi hj hk => by show ps.getD _ 0 = ps.getD _ 0; rw [show ks.getD i 0 = ks.getD j 0 from hk]
def mE (ps : List Int) (ks : List Nat) (ss : List Int) (e : Ev) : Mt := ((wy (sf ss) e).toNat, (gp (pf ps ks) e).toNat, e.1, e.2)
abbrev pasD (ps : List Int) (ks : List Nat) (ss : List Int) (e : Ev) : PyData := toldD (mE ps ks ss e)
abbrev thL (ps : List Int) (ks : List Nat) (ss : List Int) : List Ev := theL ks.length (kf ks) (pf ps ks) (sf ss)
theorem RdOk.ev {m : Int} {ps ss : List Int} {ks : List Nat} (h : RdOk m ps ks ss) {e : Ev} (he : IsEv ks.length (kf ks) e.1 e.2) : 1 ≤ wy (sf ss) e ∧ wy (sf ss) e < 2 ^ 63 ∧ 1 ≤ gp (pf ps ks) e ∧ gp (pf ps ks) e ≤ 2000 := by
  have R := h.rod
  have h1 : ss.getD e.1 0 < ss.getD e.2 0 := R.up e.1 e.2 he.1 he.2.1
  have h2 : 0 < ps.getD (ks.getD e.1 0) 0 - ps.getD (ks.getD e.2 0) 0 := ev_gp R he
  have hi : e.1 < ks.length := by have := he.1; have := he.2.1; omega
  have h3 := h.lo _ (getDm (d := 0) (show e.1 < ss.length by rw [h.sl]; exact hi))
  have h4 := h.lo _ (getDm (d := 0) (show e.2 < ss.length by rw [h.sl]; exact he.2.1))
  have h5 := h.pac.lo _ (getDm (d := 0) (h.kp hi))
  have h6 := h.pac.lo _ (getDm (d := 0) (h.kp he.2.1))
  show 1 ≤ ss.getD e.2 0 - ss.getD e.1 0 ∧ ss.getD e.2 0 - ss.getD e.1 0 < 2 ^ 63 ∧ 1 ≤ ps.getD (ks.getD e.1 0) 0 - ps.getD (ks.getD e.2 0) 0 ∧ ps.getD (ks.getD e.1 0) 0 - ps.getD (ks.getD e.2 0) 0 ≤ 2000
  refine ⟨by omega, by omega, by omega, by omega⟩
theorem RdOk.mok {m : Int} {ps ss : List Int} {ks : List Nat} (h : RdOk m ps ks ss) {e : Ev} (he : IsEv ks.length (kf ks) e.1 e.2) : MtOk ks (mE ps ks ss e) := by
  obtain ⟨h1, h2, h3, h4⟩ := h.ev he
  have := he.1
  have := he.2.1
  exact ⟨by show (wy (sf ss) e).toNat < _; omega, by show 1 ≤ (gp (pf ps ks) e).toNat; omega, by show (gp (pf ps ks) e).toNat ≤ _; omega, by show e.1 < _; omega, by show e.2 < _; omega⟩
theorem soon_mE {m : Int} {ps ss : List Int} {ks : List Nat} (h : RdOk m ps ks ss) {e f : Ev} (he : IsEv ks.length (kf ks) e.1 e.2) (hf : IsEv ks.length (kf ks) f.1 f.2) : soonM ks (mE ps ks ss e) (mE ps ks ss f) ↔ soon (kf ks) (pf ps ks) (sf ss) e f := by
  obtain ⟨a1, _, a3, _⟩ := h.ev he
  obtain ⟨b1, _, b3, _⟩ := h.ev hf
  unfold soonM soon mE
  dsimp only
  generalize wy (sf ss) e = we at *
  generalize wy (sf ss) f = wf at *
  generalize gp (pf ps ks) e = ge at *
  generalize gp (pf ps ks) f = gf at *
  have e1 : (we.toNat : Int) = we := by omega
  have e2 : (wf.toNat : Int) = wf := by omega
  have e3 : (ge.toNat : Int) = ge := by omega
  have e4 : (gf.toNat : Int) = gf := by omega
  have m1 : ((we.toNat * gf.toNat : Nat) : Int) = we * gf := by rw [Int.natCast_mul, e1, e4]
  have m2 : ((wf.toNat * ge.toNat : Nat) : Int) = wf * ge := by rw [Int.natCast_mul, e2, e3]
  rw [← m1, ← m2, Int.ofNat_lt]
  constructor
  · rintro (z | ⟨z, y⟩)
    · exact .inl z
    · exact .inr ⟨by omega, y⟩
  · rintro (z | ⟨z, y⟩)
    · exact .inl z
    · exact .inr ⟨by omega, y⟩
def psp_passings : PSp := fun as Q _ => ∃ (m : Int) (ps : List Int) (rest : List PyData) (ks : List Nat) (ss : List Int), as = [.im (.tuple (dI ps :: rest)), .im (.tuple (dN ks)), .im (dK ss)] ∧ RdOk m ps ks ss ∧ Q (.im (.tuple ((thL ps ks ss).map (pasD ps ks ss)))) [.un, .un, .un]
theorem evI_succ {n : Nat} {k : Nat → Nat} {i m : Nat} (h : i < m) : evI n k i (m + 1) = if k m < k i then evI n k i m ++ [(i, m)] else evI n k i m := by
  unfold evI
  rw [List.range_succ, List.filter_append, List.map_append]
  by_cases c : k m < k i
  · rw [if_pos c, List.filter_cons_of_pos (by simp [h, c])]; rfl
  · rw [if_neg c, List.filter_cons_of_neg (by simp [c])]; simp
theorem evI_small {n : Nat} {k : Nat → Nat} {i m : Nat} (h : m ≤ i + 1) : evI n k i m = [] := by
  unfold evI
  rw [List.map_eq_nil_iff, List.filter_eq_nil_iff]
  intro x hx z
  have := List.mem_range.mp hx
  simp at z
  omega
theorem hp_passings (as : List Sl) (Qp : QE) (Ep : EX) (h : psp_passings as Qp Ep) : p_passings (endsP as Qp) (as ++ List.replicate 5 .un) := by
  obtain ⟨m, ps, rest, ks, ss, rfl, ok, q⟩ := h
  have n10 := ok.n10
  have R := ok.rod
  have z9 : (1000 : Nat) < sizeLine := by decide
  refine ⟨_, atI_of (j := 0) rfl rfl, _, _, rfl, ?_⟩
  show pr_passings_3 _ [.im (.tuple (dI ps :: rest)), .im (.tuple (dN ks)), .im (dK ss), .im (dI ps), .un, .un, .un, .un]
  refine ⟨_, _, rfl, ?_⟩
  show pr_passings_2 _ [.im (.tuple (dI ps :: rest)), .im (.tuple (dN ks)), .im (dK ss), .im (dI ps), .im (.int ((dN ks).length : Int)), .un, .un, .un]
  rw [dN_len]
  have bD : ∀ i, i ≤ ks.length → (evD ks.length (kf ks) i).length ≤ 100 := fun i hi => Nat.le_trans (evD_le i) (Nat.le_trans (Nat.mul_le_mul (show i ≤ 10 by omega) n10) (by decide))
  refine ⟨by omega, by omega, noPin2 (fun o => nofun) (fun o => nofun), fun i acc δ => acc = ((evD ks.length (kf ks) i).map (mE ps ks ss)).map mtD ∧ δ = [.im (.tuple (dI ps :: rest)), .im (.tuple (dN ks)), .im (dK ss), .im (dI ps), .im (nD ks.length), .un, .un, .un], ⟨rfl, rfl⟩, ?_, ?_⟩
  · rintro i d acc δ hd ⟨rfl, rfl⟩
    obtain ⟨rfl, hi⟩ := rgD_get hd
    have hi : i < ks.length := by simpa using hi
    have b1 := bD i (by omega)
    refine ⟨⟨by omega, by omega, by omega, by omega⟩, fun j acc δ => acc = ((evD ks.length (kf ks) i ++ evI ks.length (kf ks) i (i + 1 + j)).map (mE ps ks ss)).map mtD ∧ δ = [.im (.tuple (dI ps :: rest)), .im (.tuple (dN ks)), .im (dK ss), .im (dI ps), .im (nD ks.length), .un, .im (.int (0 + (i : Int))), .un], ⟨by rw [evI_small (by omega), List.append_nil], rfl⟩, ?_, ?_⟩
    · rintro j e acc δ he ⟨rfl, rfl⟩
      obtain ⟨rfl, hj⟩ := rgD_get he
      have hj : i + 1 + j < ks.length := by
        rw [show (0 + (i : Int) + 1) = ((i + 1 : Nat) : Int) by omega] at hj
        omega
      have gf := dN_get (getD_of hj)
      have gr := dN_get (getD_of (xs := ks) (i := i) (by omega))
      have lj := @evI_le ks.length (kf ks) i (i + 1 + j)
      refine ⟨_, atI_of (j := i) (by omega) gr, _, atI_of (j := i + 1 + j) (by omega) gf, trivial, _, rfl, ?_⟩
      show if decide (((ks.getD (i + 1 + j) 0 : Nat) : Int) < ((ks.getD i 0 : Nat) : Int)) = true then _ else _
      have es := @evI_succ ks.length (kf ks) i (i + 1 + j) (by omega)
      by_cases c : ks.getD (i + 1 + j) 0 < ks.getD i 0
      · rw [if_pos c] at es
        rw [if_pos (decide_eq_true (by omega))]
        have he : IsEv ks.length (kf ks) i (i + 1 + j) := ⟨by omega, hj, c⟩
        obtain ⟨w1, w2, w3, w4⟩ := ok.ev (e := (i, i + 1 + j)) he
        have sg : ∀ t, t < ks.length → (ss.map PyData.int)[t]? = some (.int (ss.getD t 0)) := fun t ht => by
          rw [List.getElem?_map, getI_of (by rw [ok.sl]; exact ht)]; rfl
        have pg : ∀ t, t < ks.length → (ps.map PyData.int)[ks.getD t 0]? = some (.int (ps.getD (ks.getD t 0) 0)) := fun t ht => by
          rw [List.getElem?_map, getI_of (ok.kp ht)]; rfl
        refine ⟨_, atI_of (j := i + 1 + j) (by omega) (sg _ hj), _, atI_of (j := i) (by omega) (sg i (by omega)), trivial, _, atI_of (j := i) (by omega) gr, _, atI_of rfl (pg i (by omega)), _, atI_of (j := i + 1 + j) (by omega) gf, _, atI_of rfl (pg _ hj), trivial, _, _, rfl, ?_, ?_, rfl⟩
        · rw [List.length_map, List.length_map, List.length_append]
          omega
        · rw [show i + 1 + (j + 1) = i + 1 + j + 1 by omega, es, ← List.append_assoc]
          generalize evD ks.length (kf ks) i ++ evI ks.length (kf ks) i (i + 1 + j) = pre
          rw [List.map_append, List.map_append]
          show _ ++ [PyData.tuple [.int (wy (sf ss) (i, i + 1 + j)), .int (gp (pf ps ks) (i, i + 1 + j)), .int (0 + (i : Int)), .int ((0 + (i : Int) + 1) + (j : Int))]] = _ ++ [mtD (mE ps ks ss (i, i + 1 + j))]
          unfold mE mtD
          dsimp only
          have e1 : (((wy (sf ss) (i, i + 1 + j)).toNat : Nat) : Int) = wy (sf ss) (i, i + 1 + j) := by omega
          have e2 : (((gp (pf ps ks) (i, i + 1 + j)).toNat : Nat) : Int) = gp (pf ps ks) (i, i + 1 + j) := by omega
          have e3 : (0 + (i : Int)) = (i : Int) := by omega
          have e4 : (0 + (i : Int) + 1) + (j : Int) = ((i + 1 + j : Nat) : Int) := by omega
          unfold nD
          rw [e1, e2, e3] at *
          rw [← e4, e3]
      · rw [if_neg c] at es
        rw [if_neg (fun z => c (by have := of_decide_eq_true z; omega))]
        exact ⟨by rw [show i + 1 + (j + 1) = i + 1 + j + 1 by omega, es], rfl⟩
    · rintro acc δ ⟨rfl, rfl⟩
      rw [rgD_len, evD_succ]
      have e : i + 1 + ((ks.length : Int) - (0 + (i : Int) + 1)).toNat = ks.length := by omega
      rw [e]
      exact ⟨rfl, rfl⟩
  · rintro acc δ ⟨rfl, rfl⟩
    rw [rgD_len]
    have e : ((ks.length : Int) - 0).toNat = ks.length := by omega
    rw [e]
    refine ⟨_, _, rfl, ?_⟩
    show pr_passings_1 _ [.im (.tuple (dI ps :: rest)), .im (.tuple (dN ks)), .im (dK ss), .im (dI ps), .im (nD ks.length), .ow false (.lst (((evs ks.length (kf ks)).map (mE ps ks ss)).map mtD)), .un, .un]
    have le := bD ks.length (Nat.le_refl _)
    have le : (evs ks.length (kf ks)).length ≤ 100 := le
    refine ⟨_, _, rfl, _, _, rfl, _, rfl, List.nodup_nil, ks, (evs ks.length (kf ks)).map (mE ps ks ss), ((evs ks.length (kf ks)).map (mE ps ks ss)).map fun m => m.2.1, rfl, fun m hm => ?_, by rw [List.length_map]; omega, by rw [List.length_map, List.length_map]; exact le, fun g hg => ?_, fun m hm => List.mem_map.mpr ⟨m, hm, rfl⟩, fun out po so => ?_⟩
    · obtain ⟨e, he, rfl⟩ := List.mem_map.mp hm
      exact ok.mok (mem_evs.mp he)
    · obtain ⟨m, hm, rfl⟩ := List.mem_map.mp hg
      obtain ⟨e, he, rfl⟩ := List.mem_map.mp hm
      have := ok.mok (mem_evs.mp he)
      exact ⟨this.g1, this.g2⟩
    · obtain ⟨L, pl, rfl⟩ := perm_map_inv po
      have so' := List.pairwise_map.mp so
      have eL : L = thL ps ks ss := by
        refine theL_one R pl (List.Pairwise.imp_of_mem ?_ so')
        intro a b ha hb hab
        rw [soon_mE ok (mem_evs.mp (pl.mem_iff.mp hb)) (mem_evs.mp (pl.mem_iff.mp ha))] at hab
        exact hab
      subst eL
      refine ⟨_, _, rfl, ?_⟩
      rw [List.map_map]
      exact q
end Pv
/-! A name of the module that stands for a tuple of numbers. -/
namespace Pv
open PySem PySem.Spec L2 Wf
end Pv
/-! Truth of data: in tests, in or; t > u of tuples of numbers; x -= e. -/
namespace Pv
open PySem PySem.Spec L2 Wf
variable {B : Bas}
def truD : PyData → Option Bool
  | .none => some false
  | .bool b => some b
  | .int i => some (i != 0)
  | .list ds => some (!ds.isEmpty)
  | .tuple ds => some (!ds.isEmpty)
  | _ => none
theorem isEmpty_len {α β : Type} : ∀ {xs : List α} {ys : List β}, xs.length = ys.length → xs.isEmpty = ys.isEmpty
  | [], [], _ => rfl
  | _ :: _, _ :: _, _ => rfl
theorem vw_tru {K : PySem.W.Frag} {G H : Hp} {v : V} {d : PyData} {b : Bool} (s : Same G H) (h : Vw K G H v d) (e : truD d = some b) : TruV K v H b := by
  cases d with
  | none => cases e; rw [vw_none h]; rfl
  | bool c => cases e; rw [h.bool]; rfl
  | int i => cases e; rw [h.int]; rfl
  | str x => cases e
  | dict kvs => cases e
  | list ds =>
    cases e
    obtain ⟨a, us, rfl, ha, hd⟩ := h.seqL s
    exact .inl ⟨us, SqL.of ha, by rw [isEmpty_len (dqAll_len hd)]⟩
  | tuple ds =>
    cases e
    obtain ⟨a, us, rfl, ha, hd, _⟩ := h.seqT s
    exact .inr (.inl ⟨us, ha, by rw [isEmpty_len (dqAll_len hd)]⟩)
section
variable {X : Cx} {a b : Expr} {rest : List Expr} {pos : Pos} {pa pb : PX}
/-- truth of data -/
def pTr (p : PX) : PB := fun δ Q => p δ fun r δ1 => ∃ d t, dat δ1 r = some d ∧ truD d = some t ∧ Q t δ1
theorem jb_tru {e : Expr} {p : PX} (h : JE X B e p) (he : ∀ whole, isTrue e X.env whole = (do let v ← whole; standAt e.pos; holding [v] (truthy v)) := by intro _; rfl) : JB X B e (pTr p) := by
  refine PT_wk (pt_truth h he) fun σ H Q ⟨G, w, δ, Qp, rep, q, k⟩ => ?_
  refine ⟨G, w, δ, _, rep, q, fun r δ1 v H1 G1 w1 q1 s1 rep1 => ?_⟩
  obtain ⟨d, t, hd, ht, q1⟩ := q1
  exact ⟨t, vw_tru rep1.sub (rep1.dat (j := 0) rfl rfl hd) ht, k t δ1 H1 G1 _ q1 (s1.trans .drop) rep1.drop⟩
/-- x or y, by truth of data -/
def pOrL (pa pb : PX) : PX := fun δ Q => pa δ fun r δ1 => ∃ d t, dat δ1 r = some d ∧ truD d = some t ∧ if t = true then Q r δ1 else pb δ1 Q
theorem je_orL (ha : JE X B a pa) (hb : JE X B (.BoolOp .Or (b :: rest) pos) pb) : JE X B (.BoolOp .Or (a :: b :: rest) pos) (pOrL pa pb) := by
  refine PE_wk (pe_orT ha hb) fun σ H Q ⟨G, w, δ, Qp, rep, h, k⟩ => ?_
  refine ⟨G, w, δ, _, rep, h, fun r δ1 v H1 G1 w1 q1 s1 rep1 => ?_⟩
  obtain ⟨d, t, hd, ht, q1⟩ := q1
  refine ⟨t, vw_tru rep1.sub (rep1.dat (j := 0) rfl rfl hd) ht, ?_⟩
  cases t with
  | true => exact k r δ1 v H1 G1 w1 q1 s1 rep1
  | false => exact ⟨G1, _, δ1, Qp, rep1.drop, q1, fun r δ2 v H2 G2 w2 q2 s2 rep2 => k r δ2 v H2 G2 w2 q2 ((s1.trans .drop).trans s2) rep2⟩
end
/-! ### t > u -/
def lexG (ns ms : List Int) : Bool := Ob.lexAt (fun j => decide (ns.getD j 0 = ms.getD j 0)) (fun j => decide (ms.getD j 0 < ns.getD j 0)) (decide (ns.length > ms.length)) 0 (min ns.length ms.length)
theorem lexG4 {a b c d a' b' c' d' : Int} : lexG [a, b, c, d] [a', b', c', d'] = decide (a' < a ∨ a = a' ∧ (b' < b ∨ b = b' ∧ (c' < c ∨ c = c' ∧ d' < d))) := by
  have e : lexG [a, b, c, d] [a', b', c', d'] = if decide (a = a') = true then if decide (b = b') = true then if decide (c = c') = true then if decide (d = d') = true then false else decide (d' < d) else decide (c' < c) else decide (b' < b) else decide (a' < a) := rfl
  rw [e]
  simp only [decide_eq_true_eq]
  split
  · split
    · split
      · split
        · exact (decide_eq_false (by omega)).symm
        · rw [decide_eq_decide]; omega
      · rw [decide_eq_decide]; omega
    · rw [decide_eq_decide]; omega
  · rw [decide_eq_decide]; omega
def rGtT (K : PySem.W.Frag) : R2 := fun x y H Q => ∃ (a b : Addr) (ns ms : List Int), x = .ref a ∧ y = .ref b ∧ SqT K H a (ns.map V.int) ∧ SqT K H b (ms.map V.int) ∧ Q (.bl (lexG ns ms)) H
open PyProof.Rows in
theorem op_gtT {X : Cx} (hu : X.A.units < cLine) : OpR X (compareOp .Gt) (rGtT X.K) := by
  intro pins s σ H x y v u Q I rx ry h
  obtain ⟨a, b, ns, ms, rfl, rfl, ha, hb, q⟩ := h
  cases rx
  cases ry
  obtain ⟨its, r1, p1, _⟩ := I.tuple ha
  obtain ⟨its2, r2, p2, _⟩ := I.tuple hb
  have i1 : IntsAre its ns := Vals.ints r1
  have i2 : IntsAre its2 ms := Vals.ints r2
  have e1 : its.toArray.size = ns.length := by rw [List.size_toArray]; exact i1.length
  have e2 : its2.toArray.size = ms.length := by rw [List.size_toArray]; exact i2.length
  have at1 : ∀ j (h1 : j < its.toArray.size), ∃ t, its.toArray[j] = .int (ns.getD j 0) t := fun j h1 => PyProof.Rows.IntsAre.int_at i1 _ _ (by simp at h1; simp [h1])
  have at2 : ∀ j (h1 : j < its2.toArray.size), ∃ t, its2.toArray[j] = .int (ms.getD j 0) t := fun j h1 => PyProof.Rows.IntsAre.int_at i2 _ _ (by simp at h1; simp [h1])
  have go := Ob.RcOp.tuples_gt (A := X.A) (s := s) (e := fun j => decide (ns.getD j 0 = ms.getD j 0)) (r := fun j => decide (ms.getD j 0 < ns.getD j 0)) p1 p2 hu (fun j h1 h2 => by
    obtain ⟨t, et⟩ := at1 j h1
    obtain ⟨t', et'⟩ := at2 j h2
    rw [et, et']
    have same : (ns.getD j 0 == ms.getD j 0) = decide (ns.getD j 0 = ms.getD j 0) := Bool.beq_eq_decide_eq _ _
    rw [← same]
    exact SeqAt.EqAt.int_int _ _ _ _) fun j h1 h2 _ => by
      obtain ⟨t, et⟩ := at1 j h1
      obtain ⟨t', et'⟩ := at2 j h2
      rw [et, et']
      exact Ob.RcOp.gt_int _ _ _ _
  rw [e1, e2] at go
  exact go X.prog X.w X.xe (EP X pins σ Q) ⟨.bl _, H, I, rfl, q⟩
def fGtT : List PyData → (PyData → Prop) → Prop
  | [.tuple a, .tuple b], k => ∃ ns ms : List Int, a = ns.map .int ∧ b = ms.map .int ∧ k (.bool (lexG ns ms))
  | _, _ => False
theorem lc_gtT {K : PySem.W.Frag} : LC K (qD fGtT) (ap2 (rGtT K)) := by
  refine lc_im (fun G H vs ds Q s hv q _ => ?_) (fun ds k k' h q => ?_)
  · unfold fGtT at q
    split at q
    · cases hv with
      | cons h1 hv =>
        cases hv with
        | cons h2 hv =>
          cases hv
          obtain ⟨ns, ms, rfl, rfl, q⟩ := q
          obtain ⟨p1, u1, rfl, t1, d1, _⟩ := h1.seqT s
          obtain ⟨p2, u2, rfl, t2, d2, _⟩ := h2.seqT s
          cases dqAll_ints d1
          cases dqAll_ints d2
          exact ⟨p1, p2, ns, ms, rfl, rfl, t1, t2, q _ _ .bool⟩
    · exact q.elim
  · unfold fGtT at q ⊢
    split at q
    · obtain ⟨ns, ms, e1, e2, q⟩ := q
      exact ⟨ns, ms, e1, e2, h _ q⟩
    · exact q.elim
section
variable {X : Cx} {a b : Expr} {pos : Pos} {pa pb : PX}
def pGtT (pa pb : PX) : PX := pC (qD fGtT) (pCons pa (pCons pb pNil))
theorem je_gtT {j : Nat} (hr : Room j X.A) (ha : JE X B a pa) (hb : JE X B b pb) : JE X B (.Compare a [.Gt] [b] pos) (pGtT pa pb) := je_cmp (op_gtT (by have := hr.units; omega)) lc_gtT ha hb (nomark _)
end
end Pv
namespace Pv
open PySem PySem.Spec L2 Wf
/-! ### the last row -/
-- DEF _law_due N ['_law_book_here', '_law_row_here', '_law_word', '_law_m', '_law_passers', '_law_walker', '_law_step'] calls ['_law_led'] takes []
-- DEF law N ['_law_script', '_law_deal_here', '_law_book_here', '_law_turn', '_law_row_here', '_law_found', '_law_falls', '_law_kept', '_law_due_here', '_law_k'] calls ['_law_deal', '_law_book', '_law_draw', '_law_row', '_law_due', 'last_row', '_law_alike'] takes []
/-! ### kinds of the last row -/
end Pv
/-! Comprehensions with any number of fors: a clause's turn over a body. -/
namespace Wf
open PySem PySem.Spec L2 PyProof.Rows
end Wf
/-! A clause over a body is a body. -/
namespace Wf
open PySem PySem.Spec L2 PyProof.Rows
abbrev TB := L2.St → Hp → (Hp → Prop) → Prop
end Wf
/-! The first for of a comprehension over any body. -/
namespace Wf
open PySem PySem.Spec L2 PyProof.Rows
end Wf
/-! Comprehensions with three fors. -/
namespace Wf
open PySem PySem.Spec L2 PyProof.Rows
end Wf
/-! Comprehensions with any number of fors, by value: bodies. -/
namespace Pv
open PySem PySem.Spec L2 Wf
end Pv
/-! Calls with keywords, and defs with a default for a keyword. -/
namespace Wf
open PySem PySem.Spec L2
structure CalK (P : Program) (w : World) (K : PySem.W.Frag) (mg : Str → Option Value) (base : Heap) (CX : CXT) (k : Nat) (x : Str) (ps : List Str) (n : Nat) (ks : List Str) (sp : Sp) : Prop where
  ex : ∃ f fd, FnOk P w K mg base CX k f fd ps sp ∧ mg x = some (.ref f) ∧ PySem.W.keepIn K (.ref f) = true ∧ KBn K fd ps n ks (fun us ws => us ++ ws) (fun vs zs => vs ++ zs)
theorem vals_app : ∀ {vs : List V} {us : List Value} {zs : List V} {ws : List Value}, Vals vs us → Vals zs ws → Vals (vs ++ zs) (us ++ ws)
  | _, _, _, _, .nil, h => h
  | _, _, _, _, .cons r t, h => .cons r (vals_app t h)
theorem kb_of {K : PySem.W.Frag} {x qual : Str} {params : Arguments} {body : List Stmt} {scope : Scope} {kws : List (Str × V)} {f : Addr} {fd : FuncData} {ps ks : List Str} {n : Nat} (F : FunD K x qual params body scope [] kws f fd)
    (h : ∀ (kV doc pm : Value) (an : Option Addr) (cdv ct : Value) (us ws : List Value), us.length = n → ws.length = ks.length → bindArgs (PySem.W.fnOf x qual params body scope .none kV doc pm an cdv ct) ⟨us, ks.zip ws⟩ = pure (ps.zip (us ++ ws))) : KBn K fd ps n ks (fun us ws => us ++ ws) (fun vs zs => vs ++ zs) := by
  obtain ⟨oc, od, dV, kV, doc, pm, an, cdv, ct, osl, rfl, lk, hcd, hD, hK⟩ := F.ex
  rcases hD with ⟨_, rfl⟩ | ⟨e, _⟩
  · exact ⟨fun s us ws _ h1 h2 => .of_eq (h kV doc pm an cdv ct us ws h1 h2), fun r1 r2 => vals_app r1 r2⟩
  · exact absurd rfl e
end Wf
namespace Pv
open PySem PySem.Spec L2 Wf
variable {B : Bas}
/-- values one behind the other -/
def pApp (pa pb : PL) : PL := fun δ Q => pa δ fun rs δ1 => pb δ1 fun rs2 δ2 => Q (rs ++ rs2) δ2
def JK (X : Cx) (B : Bas) (kws : List Keyword) (p : PL) : Prop := PK X kws (LA X.K B kws.length p)
theorem PK_wk {X : Cx} {kws : List Keyword} {t t' : TA} (h : PK X kws t) (k : ∀ σ H Q, t' σ H Q → t σ H Q) : PK X kws t' := ⟨fun pos pins s σ H Q I q => h.run pos pins s σ H Q I (k σ H Q q)⟩
section
variable {X : Cx}
theorem jk_nil : JK X B [] pNil := PK_wk pk_nil fun σ H Q ⟨G, w, δ, Qp, rep, q, k⟩ => k [] δ [] H G _ q rfl .drop rep.drop
theorem jk_cons {e : Expr} {kws : List Keyword} {nm : Option Str} {kpos : Pos} {p : PX} {ps : PL} (h : JE X B e p) (hs : JK X B kws ps) : JK X B (⟨nm, e, kpos⟩ :: kws) (pCons p ps) := by
  refine PK_wk (pk_cons h hs) fun σ H Q ⟨G, w, δ, Qp, rep, q, k⟩ => ?_
  refine ⟨G, w, δ, _, rep, q, fun r δ1 v H1 G1 w1 q1 s1 rep1 => ?_⟩
  refine ⟨G1, _, δ1, _, rep1.drop, q1, fun rs δ2 vs H2 G2 w2 q2 l2 s2 rep2 => ?_⟩
  obtain ⟨w3, s3, rep3⟩ := rep1.frame s2 rep2
  exact k _ δ2 _ H2 G2 w3 q2 (congrArg (· + 1) l2) (s1.trans s3) rep3
theorem la_app {K : PySem.W.Frag} {n m : Nat} {pa pb : PL} {σ : St} {H : Hp} {Q : List V → Hp → Prop} (h : LA K B (n + m) (pApp pa pb) σ H Q) : LA K B n pa σ H fun vs H1 => LA K B m pb σ H1 fun zs H2 => vs.length = n ∧ zs.length = m ∧ Q (vs ++ zs) H2 := by
  obtain ⟨G, w, δ, Qp, rep, q, k⟩ := h
  refine ⟨G, w, δ, _, rep, q, fun rs δ1 vs H1 G1 w1 q1 l1 s1 rep1 => ?_⟩
  refine ⟨G1, _, δ1, _, rep1.drop, q1, fun rs2 δ2 zs H2 G2 w2 q2 l2 s2 rep2 => ?_⟩
  obtain ⟨w3, s3, rep3⟩ := rep1.frame s2 rep2
  exact ⟨rep1.tlen.trans l1, rep2.tlen.trans l2, k _ δ2 _ H2 G2 w3 q2 (by rw [List.length_append, l1, l2]) (s1.trans s3) rep3⟩
theorem je_calK {k j : Nat} {x : Str} {pn ks : List Str} {psp : PSp} {pa pk : PL} {e : Expr} {es : List Expr} {kws : List Keyword} {p pos : Pos} (C : CalK X.prog X.w X.K X.mg X.base CX0 k x pn (e :: es).length ks (LSp X.K B.T psp)) (hr : Room j X.A) (hg : Gl X x) (ha : JA X B (e :: es) pa) (hkw : JK X B kws pk) (hk : k ≤ j := by decide) (hkl : kws.length = ks.length := by rfl)
    (hall : (backToKw pos (keywordEach kws X.env)).all (·.1.isSome) = true := by rfl) (hks : (backToKw pos (keywordEach kws X.env)).filterMap (·.1) = ks := by rfl)
    (hdb : (x == ("__debug__" : Str)) = false := by decide) (he : starEach (e :: es) X.env = (false, eval e X.env) :: starEach es X.env := by rfl)
    (hpl : ((backTo pos (starEach (e :: es) X.env)).any (·.1) || (backToKw pos (keywordEach kws X.env)).any (·.1.isNone)) = false := by rfl) :
    JE X B (.Call (.Name x p) (e :: es) kws pos) (pCall psp (pApp pa pk) noX) := by
  obtain ⟨f, fd, F, m, kp, b⟩ := C.ex
  refine PE_wk (pe_callN F (hr.mono hk) hg m kp b pass0 ha hkw hall hks hdb he hpl) fun σ H Q h => ?_
  have h2 := la_app (call_lift (E := E0) (n := (e :: es).length + kws.length) xok_no h)
  obtain ⟨G, w, δ, Qp, rep, q, kk⟩ := h2
  refine ⟨G, w, δ, Qp, rep, q, fun rs δ1 vs H1 G1 w1 q1 l1 s1 rep1 => ?_⟩
  obtain ⟨G2, w2, δ2, Qp2, rep2, q2, k2⟩ := kk rs δ1 vs H1 G1 w1 q1 l1 s1 rep1
  refine ⟨G2, w2, δ2, Qp2, rep2, q2, fun rs2 δ3 zs H3 G3 w3 q3 l3 s3 rep3 => ?_⟩
  obtain ⟨a1, a2, a3⟩ := k2 rs2 δ3 zs H3 G3 w3 q3 l3 s3 rep3
  rw [List.append_nil] at a3
  exact ⟨a1, a2.trans hkl, a3⟩
end
end Pv
/-! t[::-1] of a tuple, in the model. -/
namespace Wf
open PySem PySem.Spec PyProof.Rows
end Wf
namespace Pv
open PySem PySem.Spec L2 Wf
/-! ### isinstance(caught error, a built-in class) -/
/-! ### t[::-1] of a tuple -/
end Pv
/-! tuple(d), d a dict whose keys are tuples -/
namespace Wf
open PySem PySem.Spec PyProof.Rows
end Wf
/-! Dicts by tuples of numbers, by value. -/
namespace Pv
open PySem PySem.Spec L2 Wf
variable {B : Bas}
theorem NoX.dT {H : Hp} {a : Addr} {kvs : List (List Key × V)} (e : H a = some (.dT kvs)) : NoX H a := NoX.of e (fun _ z => by cases z) (fun _ _ z => by cases z) fun _ z => by cases z
end Pv
/-! sorted(xs, reverse=True), list(zip(t, u)) by value. -/
namespace Pv
open PySem PySem.Spec L2 Wf
variable {B : Bas}
theorem Rep.takeL {K : PySem.W.Frag} {G G0 H H0 : Hp} {σ : St} {δ : List Sl} {w : Addr → Option Nat} {q : Addr} {us : List V} {ds : List PyData} (st : Stp B.T G0 H0 w δ G H w δ) (r : Rep K B G H σ δ [] [] w) (h0 : H0 q = none) (hq : H q = some (.lst us)) (gq : G q = none) (wq : w q = none) (hd : DqAll K G us ds) (b0 : BsOk B G0 H0 w) :
    ∃ w', Stp B.T G0 H0 w δ G H w' δ ∧ Rep K B G H σ δ [.ref q] [.ow (.lst ds)] w' := by
  have st2 : Stp B.T G0 H0 w δ G H (fun a => if a = q then some 1 else evn (w a)) δ := by
    refine ⟨st.g, st.b, fun a i h => ?_, st.p, st.pn, st.t, st.q⟩
    by_cases e : a = q
    · subst e; exact .inr h0
    · simp only [e, if_false] at h
      exact .inl (by rw [(evn_some.mp h).1]; exact Option.some_ne_none _)
  refine ⟨fun a => if a = q then some 1 else evn (w a), st2, ?_⟩
  · have r0 := r.drop
    refine ⟨r.sub, fun a i h => ?_, r0.len, fun i s h => ?_, rfl, fun j u p hu hp => ?_, st2.bs b0⟩
    · by_cases e : a = q
      · subst e; exact ⟨gq, by rw [hq]; exact Option.some_ne_none _, NoX.lst hq⟩
      · simp only [e, if_false] at h
        exact r0.out a i h
    · refine (r0.sl i s h).mono (fun _ _ h => h) (fun a u ma hu => hu) fun a u ma hu => ?_
      have : a ≠ q := fun z => by subst z; rw [wq] at ma; cases ma
      rw [if_neg this]
      exact ma
    · match j with
      | 0 =>
        simp only [List.getElem?_cons_zero, Option.some.injEq] at hu hp
        subst hu hp
        exact ⟨q, us, rfl, by simp, hq, hd⟩
      | j + 1 => simp at hu
end Pv
/-! len(set(t)), t a tuple of tuples of numbers. -/
namespace Wf
open PySem PySem.Spec PyProof.Rows L2
end Wf
/-! len(set(t)), t a tuple of tuples of numbers, by value. -/
namespace Wf
open PySem PySem.Spec L2 PyProof.Rows
end Wf
namespace Pv
open PySem PySem.Spec L2 Wf
end Pv
/-! zip(l, t), l a list and t a tuple. One turn of a zip whose two parts are any iterators that can be told of. -/
namespace Wf
open PySem PySem.Spec L2 RZ
section
variable {P : Program} {w : World} {A : Around} {E : Value → Shared → Prop} {s : Shared} {z p q ia ib la lb : Addr}
/-- the first part hands out x: it changes at ia alone -/
def Hands (P : Program) (w : World) (s : Shared) (ia : Addr) (no : List Addr) (J : Heap → Prop) (x : Value) : Prop :=
  ∀ (A' : Around) (E' Q' : Value → Shared → Prop) (g : Heap), (∀ c o, c ∉ no → s.heap.get? c = some o → g.get? c = some o) → (∀ g', J g' → Heap.SameBut ia g g' → Q' x { s with heap := g' }) →
    wpAny (model P w) A' (Builtin.SmallTypes.nextOf (.ref ia)) Q' E' { s with heap := g }
def Ends (P : Program) (w : World) (s : Shared) (ia : Addr) (no : List Addr) : Prop :=
  ∀ (A' : Around) (E' Q' : Value → Shared → Prop) (g : Heap), A'.handled = none → (∀ c o, c ∉ no → s.heap.get? c = some o → g.get? c = some o) →
    (∀ g' e, Heap.ExtBut ia g g' → (∃ o, g'.get? e = some o ∧ o.cls = .type "StopIteration") → E' (.ref e) { s with heap := g' }) →
    wpAny (model P w) A' (Builtin.SmallTypes.nextOf (.ref ia)) Q' E' { s with heap := g }
def KeptAt (ia : Addr) (J : Heap → Prop) : Prop := ∀ g g' : Heap, J g → (∀ o, g.get? ia = some o → g'.get? ia = some o) → J g'
theorem nin1 {c z : Addr} (h : c ∉ [z]) : c ≠ z := fun e => h (by rw [e]; exact List.mem_singleton.mpr rfl)
theorem zipG_end {Ja : Heap → Prop} {a b : Value} {Q : Fin → Shared → Prop} (hh : A.handled = none) (D : ZipApart z p q ia ib la lb) (hz : IsZip s.heap z p q .none) (hp : IsPair s.heap p (.ref ia) (.ref ib)) (hq : IsPair s.heap q a b)
    (alt : Ends P w s ia [z] ∨ ∃ x, Hands P w s ia [z] Ja x ∧ Ends P w s ib [z, ia, q])
    (fin : ∀ g e, (∀ c o, c ∉ [z, q, ia, ib] → s.heap.get? c = some o → g.get? c = some o) → (∃ o, g.get? e = some o ∧ o.cls = .type "StopIteration") → E (.ref e) { s with heap := g }) :
    wpAny (model P w) A (Builtin.«zip.__next__» ⟨[.ref z], []⟩) Q E s := by
  show wpAny _ _ (field (.ref z) 2 >>= _) _ _ _
  refine wpAny_bind (wpAny_field hz rfl (x := .bool false) rfl (show wpAny _ _ (field (.ref z) 3 >>= _) _ _ _ from wpAny_bind (wpAny_field hz rfl (x := .ref p) rfl (wpAny_bind (wpAny_seqItems hp rfl ?_)))))
  show wpAny _ _ (Builtin.SmallTypes.ownedTupleIsFree (.ref z) >>= _) _ _ s
  refine wpAny_bind ?_
  unfold Builtin.SmallTypes.ownedTupleIsFree
  refine wpAny_bind (wpAny_field hz rfl (x := .none) rfl (wpAny_pure ?_))
  rw [if_pos rfl]
  refine wpAny_bind (wpAny_rule (wpAny_bind (wpAny_field hz rfl (x := .ref q) rfl (wpAny_bind (wpAny_setField_rec hz (by simp) fun g1 z1 s1 => ?_)))))
  have z1 : IsZip g1 z p q .ellipsis := z1
  refine wpAny_bind ?_
  simp only [List.forIn_cons, List.forIn_nil, List.zipIdx_cons, List.zipIdx_nil]
  have u1 : ∀ c o, c ∉ [z] → s.heap.get? c = some o → g1.get? c = some o := fun c o hc e => s1.extBut _ _ (nin1 hc) e
  refine wpAny_bind (wpAny_bind (wpAny_onRaise (show wpAny _ _ (Builtin.SmallTypes.nextOf (.ref ia) >>= _) _ _ _ from wpAny_bind ?_)))
  rcases alt with na | ⟨x, na, nb⟩
  · refine na _ _ _ g1 hh u1 fun g2 e s2 he => ?_
    obtain ⟨oe, h1, h2⟩ := he
    have z2 : IsZip g2 z p q .ellipsis := s2 _ _ D.i1z.symm z1
    have ez : e ≠ z := fun y => by subst y; rw [z2] at h1; cases h1; simp at h2
    refine wpAny_setField_rec z2 (by simp) fun g3 _ s3 => fin g3 e (fun c o hc y => ?_) ⟨oe, s3.extBut _ _ ez h1, h2⟩
    simp only [List.mem_cons, List.not_mem_nil, or_false, not_or] at hc
    exact s3.extBut _ _ hc.1 (s2 _ _ hc.2.2.1 (s1.extBut _ _ hc.1 y))
  · refine na _ _ _ g1 u1 fun g2 j2 s2 => wpAny_pure ?_
    have q2 : IsPair g2 q a b := s2.extBut _ _ D.TOi1 (s1.extBut _ _ D.TOz hq)
    refine wpAny_bind (wpAny_seqItems q2 rfl (wpAny_bind (wpAny_updateSeq_pair q2 fun g3 q3 s3 => ?_)))
    refine wpAny_bind (wpAny_letGo (wpAny_pure (wpAny_bind (wpAny_bind (wpAny_onRaise ?_)))))
    show wpAny _ _ (Builtin.SmallTypes.nextOf (.ref ib) >>= _) _ _ _
    refine wpAny_bind (nb _ _ _ g3 hh (fun c o hc e => ?_) fun g4 e s4 he => ?_)
    · simp only [List.mem_cons, List.not_mem_nil, or_false, not_or] at hc
      exact s3.extBut _ _ hc.2.2 (s2.extBut _ _ hc.2.1 (s1.extBut _ _ hc.1 e))
    · obtain ⟨oe, h1, h2⟩ := he
      have z4 : IsZip g4 z p q .ellipsis := s4 _ _ D.i2z.symm (s3.extBut _ _ D.TOz.symm (s2.extBut _ _ D.i1z.symm z1))
      have ez : e ≠ z := fun y => by subst y; rw [z4] at h1; cases h1; simp at h2
      refine wpAny_setField_rec z4 (by simp) fun g5 _ s5 => fin g5 e (fun c o hc y => ?_) ⟨oe, s5.extBut _ _ ez h1, h2⟩
      simp only [List.mem_cons, List.not_mem_nil, or_false, not_or] at hc
      exact s5.extBut _ _ hc.1 (s4 _ _ hc.2.2.2 (s3.extBut _ _ hc.2.1 (s2.extBut _ _ hc.2.2.1 (s1.extBut _ _ hc.1 y))))
/-! ### a list and a tuple -/
theorem hands_tuple {ia la : Addr} {k : Nat} {xs : Array Value} {x : Value} {no : List Addr} (h1 : s.heap.IsTupleIter ia la k) (h2 : s.heap.IsTuple la xs) (n1 : ia ∉ no) (n2 : la ∉ no) (hx : xs[k]? = some x) : Hands P w s ia no (fun g => g.IsTupleIter ia la (k + 1)) x := fun A' E' Q' g up kk => by
  obtain ⟨o1, e1, r1⟩ := h1
  obtain ⟨o2, e2, r2⟩ := h2
  exact nextOf_tuple_item (s := { s with heap := g }) ⟨o1, up _ _ n1 e1, r1⟩ ⟨o2, up _ _ n2 e2, r2⟩ hx kk
theorem ends_tuple {ia la : Addr} {k : Nat} {xs : Array Value} {no : List Addr} (h1 : s.heap.IsTupleIter ia la k) (h2 : s.heap.IsTuple la xs) (n1 : ia ∉ no) (n2 : la ∉ no) (hx : xs[k]? = none) : Ends P w s ia no := fun A' E' Q' g hh up kk => by
  obtain ⟨o1, e1, r1⟩ := h1
  obtain ⟨o2, e2, r2⟩ := h2
  exact nextOf_tuple_end (s := { s with heap := g }) hh ⟨o1, up _ _ n1 e1, r1⟩ ⟨o2, up _ _ n2 e2, r2⟩ hx kk
end
end Wf
/-! zip(l, t): how it is made, and for over it. -/
namespace Wf
open PySem PySem.Spec L2 RZ
end Wf
/-! for over zip(a list, a tuple); divmod. By value. -/
namespace Pv
open PySem PySem.Spec L2 Wf
end Pv
namespace Pv
open PySem PySem.Spec L2 Wf
end Pv
namespace Pv
open PySem PySem.Spec L2 Wf
/-! ### two_kinds, look_back -/
theorem tab_mem {m : Int} {B : Book} (bk : BookOk m B) {t : Tab} (h : t ∈ B.ts) : TabOk B.s t := bk.tab.ok t h
end Pv
namespace Pv
open PySem PySem.Spec L2 Wf
/-! ### burdens before: the places of a pair in a table -/
def idxT (t : Tab) (p : Wk) (j : Nat) : List Nat := (List.range j).filter fun n => decide (t.getD n (0, 0) = p)
def fstT (t : Tab) (p : Wk) : Nat := (idxT t p t.length).headD 0
theorem mem_idxT {t : Tab} {p : Wk} {n : Nat} : n ∈ idxT t p t.length ↔ n < t.length ∧ t.getD n (0, 0) = p := by
  unfold idxT
  rw [List.mem_filter, List.mem_range]
  simp
theorem fstT_of {t : Tab} {p : Wk} (h : p ∈ t) : ∃ rest, idxT t p t.length = fstT t p :: rest := by
  obtain ⟨n, hn, e⟩ := List.getElem_of_mem h
  have hm : n ∈ idxT t p t.length := mem_idxT.mpr ⟨hn, by simp [List.getD, List.getElem?_eq_getElem hn, e]⟩
  unfold fstT
  cases ei : idxT t p t.length with
  | nil => rw [ei] at hm; cases hm
  | cons a rest => exact ⟨rest, rfl⟩
theorem fstT_ok {t : Tab} {p : Wk} (h : p ∈ t) : fstT t p < t.length ∧ t.getD (fstT t p) (0, 0) = p := by
  obtain ⟨rest, e⟩ := fstT_of h
  exact mem_idxT.mp (by rw [e]; exact List.mem_cons_self)
theorem hd0 {α : Type} (x : α) (xs : List α) : atI (x :: xs) 0 = some x := atI_nat (j := 0) rfl
def undo (B : Book) (u v : Int) (p : Wk) : Wk := (((fstT (B.tab u v) p : Nat) : Int) / B.s, ((fstT (B.tab u v) p : Nat) : Int) % B.s)
theorem tab_in {B : Book} {m u v a b : Int} (bk : BookOk m B) (pl : Pl m B.s u v a b) : B.tab u v ∈ B.ts := List.mem_of_getElem? (Book.row bk pl).1
/-! ### a passing, freely -/
def pairF (B : Book) (x y : Wk) : Wk := if x.1 > y.1 then B.at x.1 y.1 x.2 y.2 else undo B y.1 x.1 (x.2, y.2)
structure One (m : Int) (B : Book) : Prop where
  bk : BookOk m B
  nd : ∀ t ∈ B.ts, t.Nodup
  on : ∀ t ∈ B.ts, ∀ p, InP B.s p → p ∈ t
def WkOk (m s : Int) (p : Wk) : Prop := 0 ≤ p.1 ∧ p.1 < m ∧ 0 ≤ p.2 ∧ p.2 < s
theorem plW {m s : Int} {x y : Wk} (hx : WkOk m s x) (hy : WkOk m s y) (h : y.1 < x.1) {a b : Int} (ha : 0 ≤ a ∧ a < s) (hb : 0 ≤ b ∧ b < s) : Pl m s x.1 y.1 a b := by
  obtain ⟨x1, x2, x3, x4⟩ := hx
  obtain ⟨y1, y2, y3, y4⟩ := hy
  exact ⟨by omega, x2, y1, h, ha.1, ha.2, hb.1, hb.2⟩
end Pv
namespace Pv
open PySem PySem.Spec L2 Wf
/-! ### rows led freely -/
theorem tab_sq {m : Int} {B : Book} (bk : BookOk m B) {t : Tab} (h : t ∈ B.ts) : ∃ s : Nat, B.s = (s : Int) ∧ t.length = s * s ∧ 1 ≤ s := by
  have h1 := (tab_mem bk h).len
  have := bk.s1
  obtain ⟨s, hs⟩ := Int.eq_ofNat_of_zero_le (show 0 ≤ B.s by omega)
  refine ⟨s, hs, ?_, by omega⟩
  rw [hs] at h1
  exact_mod_cast h1
theorem undo_in {m u v : Int} {B : Book} (on : One m B) (pl : Pl m B.s u v 0 0) {p : Wk} (hp : InP B.s p) : InP B.s (undo B u v p) := by
  have ht := tab_in on.bk pl
  obtain ⟨s, hs, hl, h1⟩ := tab_sq on.bk ht
  have h2 := (fstT_ok (on.on _ ht p hp)).1
  rw [hl] at h2
  unfold undo
  generalize fstT (B.tab u v) p = n at h2
  rw [hs]
  have a1 : n / s < s := Nat.div_lt_of_lt_mul h2
  have a2 : n % s < s := Nat.mod_lt _ (by omega)
  refine ⟨?_, ?_, ?_, ?_⟩
  · show (0 : Int) ≤ (n : Int) / (s : Int)
    rw [← Int.natCast_ediv]; exact Int.natCast_nonneg _
  · show (n : Int) / (s : Int) < (s : Int)
    rw [← Int.natCast_ediv]; omega
  · show (0 : Int) ≤ (n : Int) % (s : Int)
    rw [← Int.natCast_emod]; omega
  · show (n : Int) % (s : Int) < (s : Int)
    rw [← Int.natCast_emod]; omega
theorem pl00 {m s u v a b : Int} (pl : Pl m s u v a b) : Pl m s u v 0 0 := ⟨pl.u0, pl.u1, pl.v0, pl.v1, by omega, by have := pl.a0; have := pl.a1; omega, by omega, by have := pl.a0; have := pl.a1; omega⟩
theorem cell_ix {m u v a b : Int} {B : Book} (bk : BookOk m B) (pl : Pl m B.s u v a b) : ∃ n : Nat, a * B.s + b = (n : Int) ∧ n < (B.tab u v).length ∧ (n : Int) / B.s = a ∧ (n : Int) % B.s = b := by
  obtain ⟨s, hs, hl, h1⟩ := tab_sq bk (tab_in bk pl)
  have a0 := pl.a0; have a1 := pl.a1; have b0 := pl.b0; have b1 := pl.b1
  rw [hs] at a1 b1 ⊢
  obtain ⟨x, rfl⟩ := Int.eq_ofNat_of_zero_le a0
  obtain ⟨y, rfl⟩ := Int.eq_ofNat_of_zero_le b0
  have hx : x < s := by omega
  have hy : y < s := by omega
  refine ⟨x * s + y, by rw [Int.natCast_add, Int.natCast_mul], ?_, ?_, ?_⟩
  · rw [hl]
    have : (x + 1) * s ≤ s * s := Nat.mul_le_mul_right s hx
    rw [Nat.add_mul, Nat.one_mul] at this
    omega
  · rw [← Int.natCast_ediv]
    have : (x * s + y) / s = x := by rw [Nat.add_comm, Nat.add_mul_div_right _ _ (by omega), Nat.div_eq_of_lt hy]; omega
    rw [this]
  · rw [← Int.natCast_emod]
    have : (x * s + y) % s = y := by rw [Nat.add_comm, Nat.add_mul_mod_self_right, Nat.mod_eq_of_lt hy]
    rw [this]
theorem at_in {m u v a b : Int} {B : Book} (bk : BookOk m B) (pl : Pl m B.s u v a b) : InP B.s (B.at u v a b) := by
  obtain ⟨n, e, hn, _, _⟩ := cell_ix bk pl
  unfold Book.at
  rw [e]
  refine (tab_mem bk (tab_in bk pl)).inn _ ?_
  have : ((n : Int)).toNat = n := by simp
  rw [this, List.getD_eq_getElem?_getD, List.getElem?_eq_getElem hn]
  exact List.getElem_mem hn
theorem pairF_in {m : Int} {B : Book} (on : One m B) {x y : Wk} (hx : WkOk m B.s x) (hy : WkOk m B.s y) (ne : x.1 ≠ y.1) : InP B.s (pairF B x y) := by
  unfold pairF
  split
  · rename_i c
    exact at_in on.bk (plW hx hy c ⟨hx.2.2.1, hx.2.2.2⟩ ⟨hy.2.2.1, hy.2.2.2⟩)
  · rename_i c
    exact undo_in on (pl00 (plW hy hx (by omega) ⟨hy.2.2.1, hy.2.2.2⟩ ⟨hx.2.2.1, hx.2.2.2⟩)) ⟨hx.2.2.1, hx.2.2.2, hy.2.2.1, hy.2.2.2⟩
end Pv
namespace Pv
open PySem PySem.Spec L2 Wf
/-! ### led_freely -/
end Pv
namespace Pv
open PySem PySem.Spec L2 Wf
/-! ### _law_paces, by value -/
/-! ### tables one to one -/
end Pv
namespace Pv
open PySem PySem.Spec L2 Wf
/-! ### threes -/
abbrev N3 := Nat × Nat × Nat
def d3 (t : N3) : PyData := dK [(t.1 : Int), (t.2.1 : Int), (t.2.2 : Int)]
def F2 (a b : Nat) (c : Nat) : List N3 := (List.range c).map fun w => (a, b, w)
end Pv
namespace Pv
open PySem PySem.Spec L2 Wf
/-! ### judge_book -/
-- DEF judge_book N ['book', 'kind_threes', 'threes', 'kinds', 'paces', 'sorts', 'tables', 'burdens', 'rear_first', 'fore_first'] calls ['falling_threes', 'burden_threes', 'both_ways'] takes []
end Pv
namespace Pv
open PySem PySem.Spec L2 Wf
/-! ### _law_first_bad: its turn -/
def bN (s n : Nat) : N3 := (n / s / s, n / s % s, n % s)
-- DEF _law_first_bad N ['_law_book_here', '_law_u', '_law_sorts', '_law_many', '_law_v', '_law_w', '_law_n', '_law_walkers', '_law_behind', '_law_borne'] calls ['_law_led'] takes []
end Pv
namespace Pv
open PySem PySem.Spec L2 Wf
/-! ### _law_first_bad -/
end Pv
/-! Good tables: both ways alike. -/
namespace Wf
open PySem PySem.Spec L2
abbrev PF := Int → Int → Int × Int
/-- both ways of three, with f for the first two, g for the outer two, h for the last two -/
def YB (f g h : PF) (a b c : Int) : Prop :=
  (h (f a b).1 (g (f a b).2 c).1).1 = (g a (h b c).1).1 ∧ (h (f a b).1 (g (f a b).2 c).1).2 = (f (g a (h b c).1).2 (h b c).2).1 ∧ (g (f a b).2 c).2 = (f (g a (h b c).1).2 (h b c).2).2
def InR (s : Int) (f : PF) : Prop := ∀ a b, 0 ≤ a → a < s → 0 ≤ b → b < s → InP s (f a b)
def EqR (s : Int) (f g : PF) : Prop := ∀ a b, 0 ≤ a → a < s → 0 ≤ b → b < s → f a b = g a b
theorem YB.congr {s : Int} {f g h f' g' h' : PF} {a b c : Int} (ef : EqR s f f') (eg : EqR s g g') (eh : EqR s h h') (rf : InR s f') (rg : InR s g') (rh : InR s h') (a0 : 0 ≤ a) (a1 : a < s) (b0 : 0 ≤ b) (b1 : b < s) (c0 : 0 ≤ c) (c1 : c < s) (y : YB f' g' h' a b c) : YB f g h a b c := by
  have p := rf a b a0 a1 b0 b1
  have q := rg _ c p.2.2.1 p.2.2.2 c0 c1
  have x := rh b c b0 b1 c0 c1
  have z := rg a _ a0 a1 x.1 x.2.1
  unfold YB at y ⊢
  rw [ef a b a0 a1 b0 b1, eh b c b0 b1 c0 c1, eg _ _ p.2.2.1 p.2.2.2 c0 c1, eg _ _ a0 a1 x.1 x.2.1, eh _ _ p.1 p.2.1 q.1 q.2.1, ef _ _ z.2.2.1 z.2.2.2 x.2.2.1 x.2.2.2]
  exact y
theorem YB.same (f s : Int) (s1 s2 s3 : Int × Int) (a b c : Int) (f0 : 0 ≤ f) (f4 : f ≤ 4) : YB (pairF f s s1) (pairF f s s2) (pairF f s s3) a b c := by
  have : f = 0 ∨ f = 1 ∨ f = 2 ∨ f = 3 ∨ f = 4 := by omega
  rcases this with rfl | rfl | rfl | rfl | rfl
  · exact ⟨rfl, rfl, rfl⟩
  · exact ⟨rfl, rfl, rfl⟩
  · simp only [YB, pairF, show ¬ ((2 : Int) = 0) by decide, show ¬ ((2 : Int) = 1) by decide, if_false, if_true]
    refine ⟨?_, ?_, ?_⟩ <;> (repeat' split) <;> omega
  · simp only [YB, pairF, show ¬ ((3 : Int) = 0) by decide, show ¬ ((3 : Int) = 1) by decide, show ¬ ((3 : Int) = 2) by decide, if_false, if_true]
    refine ⟨trivial, trivial, ?_⟩
    have e1 : (2 * c - (2 * b - a) % s) % s = (2 * c - (2 * b - a)) % s := by rw [Int.sub_emod, Int.emod_emod, ← Int.sub_emod]
    have e2 : (2 * ((2 * c - b) % s) - (2 * c - a) % s) % s = (2 * (2 * c - b) - (2 * c - a)) % s := by rw [Int.sub_emod, Int.emod_emod, Int.mul_emod, Int.emod_emod, ← Int.mul_emod, ← Int.sub_emod]
    rw [e1, e2]
    congr 1
    omega
  · simp only [YB, pairF, show ¬ ((4 : Int) = 0) by decide, show ¬ ((4 : Int) = 1) by decide, show ¬ ((4 : Int) = 2) by decide, show ¬ ((4 : Int) = 3) by decide, if_false, if_true]
    have e : ∀ x y z : Int, ((x + y) % s + z) % s = ((x + z) % s + y) % s := fun x y z => by rw [Int.emod_add_emod, Int.emod_add_emod]; congr 1; omega
    exact ⟨e _ _ _, e _ _ _, e _ _ _⟩
theorem YB.one {s : Int} {k : PF} {s1 s2 s3 : Int × Int} (a b c : Int) : YB k (pairF 0 s s2) (pairF 0 s s3) a b c ∧ YB (pairF 0 s s1) k (pairF 0 s s3) a b c ∧ YB (pairF 0 s s1) (pairF 0 s s2) k a b c := ⟨⟨rfl, rfl, rfl⟩, ⟨rfl, rfl, rfl⟩, ⟨rfl, rfl, rfl⟩⟩
theorem ix_div {s a b : Int} (b0 : 0 ≤ b) (b1 : b < s) : (a * s + b) / s = a ∧ (a * s + b) % s = b := by
  have hs : s ≠ 0 := by omega
  constructor
  · rw [Int.add_comm, Int.add_mul_ediv_right _ _ hs, Int.ediv_eq_zero_of_lt b0 b1]
    omega
  · rw [Int.add_comm, Int.add_mul_emod_self_right, Int.emod_eq_of_lt b0 b1]
/-- two side by side -/
def sideF (r : Int) (f g : PF) : PF := fun a b => ((f (a / r) (b / r)).1 * r + (g (a % r) (b % r)).1, (f (a / r) (b / r)).2 * r + (g (a % r) (b % r)).2)
theorem YB.side {w r : Int} {f g h f' g' h' : PF} {a b c : Int} (r1 : 1 ≤ r) (rf : InR w f) (rg : InR w g) (rh : InR w h) (rf' : InR r f') (rg' : InR r g') (rh' : InR r h') (a0 : 0 ≤ a) (a1 : a < w * r) (b0 : 0 ≤ b) (b1 : b < w * r) (c0 : 0 ≤ c) (c1 : c < w * r)
    (y : YB f g h (a / r) (b / r) (c / r)) (y' : YB f' g' h' (a % r) (b % r) (c % r)) : YB (sideF r f f') (sideF r g g') (sideF r h h') a b c := by
  have dv : ∀ {a : Int}, 0 ≤ a → a < w * r → 0 ≤ a / r ∧ a / r < w := fun a0 a1 => ⟨Int.ediv_nonneg a0 (by omega), Int.ediv_lt_of_lt_mul (by omega) a1⟩
  have mo : ∀ a : Int, 0 ≤ a % r ∧ a % r < r := fun a => mod_lt (by omega)
  obtain ⟨qa0, qa1⟩ := dv a0 a1
  obtain ⟨qb0, qb1⟩ := dv b0 b1
  obtain ⟨qc0, qc1⟩ := dv c0 c1
  obtain ⟨ma0, ma1⟩ := mo a
  obtain ⟨mb0, mb1⟩ := mo b
  obtain ⟨mc0, mc1⟩ := mo c
  have p' := rf' _ _ ma0 ma1 mb0 mb1
  have q' := rg' _ _ p'.2.2.1 p'.2.2.2 mc0 mc1
  have x' := rh' _ _ mb0 mb1 mc0 mc1
  have z' := rg' _ _ ma0 ma1 x'.1 x'.2.1
  have k : ∀ {x y : Int}, 0 ≤ y → y < r → (x * r + y) / r = x ∧ (x * r + y) % r = y := fun h0 h1 => ix_div h0 h1
  obtain ⟨y1, y2, y3⟩ := y
  obtain ⟨z1, z2, z3⟩ := y'
  have ep : sideF r f f' a b = ((f (a / r) (b / r)).1 * r + (f' (a % r) (b % r)).1, (f (a / r) (b / r)).2 * r + (f' (a % r) (b % r)).2) := rfl
  have ex : sideF r h h' b c = ((h (b / r) (c / r)).1 * r + (h' (b % r) (c % r)).1, (h (b / r) (c / r)).2 * r + (h' (b % r) (c % r)).2) := rfl
  have eq : sideF r g g' (sideF r f f' a b).2 c = ((g (f (a / r) (b / r)).2 (c / r)).1 * r + (g' (f' (a % r) (b % r)).2 (c % r)).1, (g (f (a / r) (b / r)).2 (c / r)).2 * r + (g' (f' (a % r) (b % r)).2 (c % r)).2) := by
    rw [ep]
    unfold sideF
    dsimp only
    rw [(k p'.2.2.1 p'.2.2.2).1, (k p'.2.2.1 p'.2.2.2).2]
  have ey : sideF r g g' a (sideF r h h' b c).1 = ((g (a / r) (h (b / r) (c / r)).1).1 * r + (g' (a % r) (h' (b % r) (c % r)).1).1, (g (a / r) (h (b / r) (c / r)).1).2 * r + (g' (a % r) (h' (b % r) (c % r)).1).2) := by
    rw [ex]
    unfold sideF
    dsimp only
    rw [(k x'.1 x'.2.1).1, (k x'.1 x'.2.1).2]
  have er : sideF r h h' (sideF r f f' a b).1 (sideF r g g' (sideF r f f' a b).2 c).1 = ((h (f (a / r) (b / r)).1 (g (f (a / r) (b / r)).2 (c / r)).1).1 * r + (h' (f' (a % r) (b % r)).1 (g' (f' (a % r) (b % r)).2 (c % r)).1).1, (h (f (a / r) (b / r)).1 (g (f (a / r) (b / r)).2 (c / r)).1).2 * r + (h' (f' (a % r) (b % r)).1 (g' (f' (a % r) (b % r)).2 (c % r)).1).2) := by
    rw [eq, ep]
    unfold sideF
    dsimp only
    rw [(k p'.1 p'.2.1).1, (k p'.1 p'.2.1).2, (k q'.1 q'.2.1).1, (k q'.1 q'.2.1).2]
  have ez : sideF r f f' (sideF r g g' a (sideF r h h' b c).1).2 (sideF r h h' b c).2 = ((f (g (a / r) (h (b / r) (c / r)).1).2 (h (b / r) (c / r)).2).1 * r + (f' (g' (a % r) (h' (b % r) (c % r)).1).2 (h' (b % r) (c % r)).2).1, (f (g (a / r) (h (b / r) (c / r)).1).2 (h (b / r) (c / r)).2).2 * r + (f' (g' (a % r) (h' (b % r) (c % r)).1).2 (h' (b % r) (c % r)).2).2) := by
    rw [ey, ex]
    unfold sideF
    dsimp only
    rw [(k z'.2.2.1 z'.2.2.2).1, (k z'.2.2.1 z'.2.2.2).2, (k x'.2.2.1 x'.2.2.2).1, (k x'.2.2.1 x'.2.2.2).2]
  refine ⟨?_, ?_, ?_⟩
  · rw [er, ey, y1, z1]
  · rw [er, ez, y2, z2]
  · rw [eq, ez, y3, z3]
/-- other names -/
theorem YB.name {n : Int → Int} {f g h f' g' h' : PF} {s a b c : Int} (rf : InR s f) (rg : InR s g) (rh : InR s h) (ef : ∀ a b, 0 ≤ a → a < s → 0 ≤ b → b < s → f' (n a) (n b) = (n (f a b).1, n (f a b).2)) (eg : ∀ a b, 0 ≤ a → a < s → 0 ≤ b → b < s → g' (n a) (n b) = (n (g a b).1, n (g a b).2)) (eh : ∀ a b, 0 ≤ a → a < s → 0 ≤ b → b < s → h' (n a) (n b) = (n (h a b).1, n (h a b).2))
    (a0 : 0 ≤ a) (a1 : a < s) (b0 : 0 ≤ b) (b1 : b < s) (c0 : 0 ≤ c) (c1 : c < s) (y : YB f g h a b c) : YB f' g' h' (n a) (n b) (n c) := by
  have p := rf a b a0 a1 b0 b1
  have q := rg _ c p.2.2.1 p.2.2.2 c0 c1
  have x := rh b c b0 b1 c0 c1
  have z := rg a _ a0 a1 x.1 x.2.1
  unfold YB at y ⊢
  rw [ef a b a0 a1 b0 b1, eh b c b0 b1 c0 c1]
  dsimp only
  rw [eg _ _ p.2.2.1 p.2.2.2 c0 c1, eg _ _ a0 a1 x.1 x.2.1]
  dsimp only
  rw [eh _ _ p.1 p.2.1 q.1 q.2.1, ef _ _ z.2.2.1 z.2.2.2 x.2.2.1 x.2.2.2]
  dsimp only
  rw [y.1, y.2.1, y.2.2]
  exact ⟨rfl, rfl, rfl⟩
end Wf
namespace Pv
open PySem PySem.Spec L2 Wf
/-! ### k18 -/
-- DEF law N ['_law_script', '_law_turn', '_law_deal_here', '_law_some', '_law_book_here', '_law_form', '_law_due', '_law_many', '_law_most'] calls ['_law_deal', '_law_draw', '_law_book', '_law_first_bad', '_law_alike', 'judge_book'] takes []
end Pv
/-! Good books: all passings lead to one last row. -/
namespace Pv
open PySem PySem.Spec L2 Wf
/-! ### a measure -/
/-! ### no passing more -/
def NoDesc (r : List Wk) : Prop := ∀ k, k + 1 < r.length → ¬ (wk r (k + 1)).1 < (wk r k).1
structure Max (B : Book) (r : List Wk) (ws : List Nat) : Prop where
  fw : fwdW B r ws
  nd : NoDesc (ledN B r ws)
theorem Max.cons {B : Book} {r : List Wk} {k : Nat} {ws : List Nat} (h1 : k + 1 < r.length) (h2 : (wk r (k + 1)).1 < (wk r k).1) (h : Max B (passR B r k) ws) : Max B r (k :: ws) := ⟨⟨⟨h1, h2⟩, h.fw⟩, h.nd⟩
end Pv
namespace Pv
open PySem PySem.Spec L2 Wf
/-! Roads: by beats, and at last. -/
/-! ### is_done_by -/
-- DEF is_done_by N ['moment', 'beat', 'upper', 'lower'] calls [] takes []
def pr_is_done_by_1 : PSx :=
    pRet (pLe (pVar 2) (pMul (pVar 1) (pVar 3)))
def p_is_done_by : PSx :=
    pSeq (pAsg (pVar 0) (gT 2 (gsC (gN 2) (gsC (gN 3) (gsN)))))
    (pr_is_done_by_1)
def psp_is_done_by : PSp := fun as Q _ => ∃ (a b : Nat) (t : Int), as = [.im (.tuple [nD a, nD b]), .im (.int t)] ∧ b < 2 ^ 63 ∧ Q (.im (.bool (decide ((a : Int) ≤ t * (b : Int))))) [.un, .un]
theorem hp_is_done_by (as : List Sl) (Qp : QE) (Ep : EX) (h : psp_is_done_by as Qp Ep) : p_is_done_by (endsP as Qp) (as ++ List.replicate 2 .un) := by
  obtain ⟨a, b, t, rfl, hb, q⟩ := h
  refine ⟨_, _, rfl, rfl, rfl, ?_⟩
  exact ⟨.inl (.inr ⟨by omega, by omega⟩), trivial, _, _, rfl, q⟩
/-- done in lowest terms -/
theorem done_low {w g : Nat} {t : Int} (g1 : 1 ≤ g) : ((w / Nat.gcd w g : Nat) : Int) ≤ t * ((g / Nat.gcd w g : Nat) : Int) ↔ (w : Int) ≤ t * (g : Int) := by
  have pc := Nat.gcd_pos_of_pos_right w g1
  obtain ⟨a, ea⟩ := Nat.gcd_dvd_left w g
  obtain ⟨b, eb⟩ := Nat.gcd_dvd_right w g
  generalize Nat.gcd w g = c at *
  subst ea
  subst eb
  rw [Nat.mul_div_cancel_left _ pc, Nat.mul_div_cancel_left _ pc, Int.natCast_mul, Int.natCast_mul]
  have e : t * ((c : Int) * (b : Int)) = (c : Int) * (t * (b : Int)) := Int.mul_left_comm _ _ _
  rw [e]
  constructor
  · intro h; exact Int.mul_le_mul_of_nonneg_left h (by omega)
  · intro h; exact Int.le_of_mul_le_mul_left h (by omega)
theorem done_mE {m : Int} {ps ss : List Int} {ks : List Nat} (h : RdOk m ps ks ss) {e : Ev} (he : IsEv ks.length (kf ks) e.1 e.2) (t : Int) : decide ((((mE ps ks ss e).1 / Nat.gcd (mE ps ks ss e).1 (mE ps ks ss e).2.1 : Nat) : Int) ≤ t * (((mE ps ks ss e).2.1 / Nat.gcd (mE ps ks ss e).1 (mE ps ks ss e).2.1 : Nat) : Int)) = doneB (pf ps ks) (sf ss) t e := by
  obtain ⟨a1, _, a3, _⟩ := h.ev he
  unfold doneB
  rw [decide_eq_decide, done_low (h.mok he).g1]
  show (((wy (sf ss) e).toNat : Nat) : Int) ≤ t * (((gp (pf ps ks) e).toNat : Nat) : Int) ↔ _
  rw [Int.toNat_of_nonneg (by omega), Int.toNat_of_nonneg (by omega)]
/-! ### word_by -/
-- DEF word_by N ['book', 'kinds', 'spots', 'beat', 'order', 'word', 'moment', 'i', 'j', 'k'] calls ['passings', 'is_done_by'] takes []
def pr_word_by_1 : PSx :=
    pExpr (pMt mAppend (pVar 5) (pCons (pVar 9) (pNil)))
def pr_word_by_2 : PSx :=
    pSeq (pAsg (pTup (pCons (pVar 8) (pCons (pVar 7) (pNil)))) (gT 2 (gsC (gSx (pVar 4) (pVar 9)) (gsC (gSx (pVar 4) (pAdd (pVar 9) (pK (.int 1)))) (gsN)))))
    (pr_word_by_1)
def pb_word_by_3 : PSx :=
    pIf (pT (pCall psp_is_done_by (pCons (pFz (pVar 6)) (pCons (pFz (pVar 3)) (pNil))) noX)) (pSeq (pSet 9 (pMt mIndex (pVar 4) (pCons (pVar 7) (pNil))))
    (pr_word_by_2)) (pNext)
def pr_word_by_3 : PSx :=
    pRet (pC (q1 fTupleOf) (pCons (pVar 5) (pNil)))
def pr_word_by_4 : PSx :=
    pSeq (pFor [6, 7, 8, 9] (iSeq (pCall psp_passings (pCons (pFz (pVar 0)) (pCons (pFz (pVar 1)) (pCons (pFz (pVar 2)) (pNil)))) noX)) (gT 3 (gsC (gN 6) (gsC (gN 7) (gsC (gN 8) (gsN))))) (pb_word_by_3))
    (pr_word_by_3)
def pr_word_by_5 : PSx :=
    pSeq (pSet 5 (pLst (pNil)))
    (pr_word_by_4)
def p_word_by : PSx :=
    pSeq (pSet 4 (pLstRg (pRg1 (pC (q1 fLen) (pCons (pVar 1) (pNil))))))
    (pr_word_by_5)
abbrev ordT (ps : List Int) (ks : List Nat) (ss : List Int) (t : Int) : List Nat := ordB ks.length (pf ps ks) (sf ss) (thL ps ks ss) t
abbrev wrdT (ps : List Int) (ks : List Nat) (ss : List Int) (t : Int) : List Nat := wrdB ks.length (pf ps ks) (sf ss) (thL ps ks ss) t
def psp_word_by : PSp := fun as Q _ => ∃ (m : Int) (ps : List Int) (rest : List PyData) (ks : List Nat) (ss : List Int) (t : Int), as = [.im (.tuple (dI ps :: rest)), .im (.tuple (dN ks)), .im (dK ss), .im (.int t)] ∧ RdOk m ps ks ss ∧ Q (.im (.tuple (dN (wrdT ps ks ss t)))) [.un, .un, .un, .un]
abbrev stW (ps : List Int) (rest : List PyData) (ks : List Nat) (ss : List Int) (t : Int) (o w : List Nat) (s6 s7 s8 s9 : Sl) : List Sl := [.im (.tuple (dI ps :: rest)), .im (.tuple (dN ks)), .im (dK ss), .im (.int t), .ow false (.lst (dN o)), .ow false (.lst (dN w)), s6, s7, s8, s9]
theorem hp_wturn {E : PEn} {ps : List Int} {rest : List PyData} {ks : List Nat} {ss : List Int} {t : Int} {o w : List Nat} {i j k : Nat} {s6 : Sl} (hm : i ∈ o) (hk : o.idxOf i = k) (hl : k + 1 < o.length) (gi : o.getD k 0 = i) (gj : o.getD (k + 1) 0 = j) (wl : w.length ≤ 1000)
    (q : E.nx (stW ps rest ks ss t (swp o k) (w ++ [k]) s6 (.im (nD i)) (.im (nD j)) (.im (nD k)))) :
    (pSeq (pSet 9 (pMt mIndex (pVar 4) (pCons (pVar 7) (pNil)))) (pr_word_by_2)) E (stW ps rest ks ss t o w s6 (.im (nD i)) (.im (nD j)) .un) := by
  refine ⟨_, _, _, rfl, rfl, _, _, _, _, rfl, rfl, o.map fun k : Nat => (k : Int), (i : Int), castN o, rfl, List.mem_map.mpr ⟨i, hm, rfl⟩, ?_⟩
  rw [idxN, hk]
  refine ⟨_, _, rfl, ?_⟩
  show pr_word_by_2 E (stW ps rest ks ss t o w s6 (.im (nD i)) (.im (nD j)) (.im (nD k)))
  have e1 : ((k : Int) + 1) = ((k + 1 : Nat) : Int) := rfl
  refine ⟨_, _, rfl, rfl, 4, (k : Int), false, _, k, rfl, rfl, rfl, by rw [dN_len]; exact ixN_nat (by omega), 4, ((k + 1 : Nat) : Int), false, _, k + 1, rfl, rfl, rfl, by rw [List.length_set, dN_len]; exact ixN_nat hl, rfl, ?_⟩
  have es : ((dN o).set k (nD j)).set (k + 1) (nD i) = dN (swp o k) := by
    rw [dN_set, dN_set]
    unfold swp
    rw [gi, gj]
  show pr_word_by_1 E [.im (.tuple (dI ps :: rest)), .im (.tuple (dN ks)), .im (dK ss), .im (.int t), .ow false (.lst (((dN o).set k (nD j)).set (k + 1) (nD i))), .ow false (.lst (dN w)), s6, .im (nD i), .im (nD j), .im (nD k)]
  rw [es]
  refine ⟨_, _, _, rfl, rfl, _, _, _, _, rfl, rfl, ?_, ?_⟩
  · rw [dN_len]; exact szN (m := 1000) wl (by decide)
  · show E.nx [_, _, _, _, _, .ow false (.lst (dN w ++ [nD k])), _, _, _, _]
    rw [show dN w ++ [nD k] = dN (w ++ [k]) by rw [dN_app]; rfl]
    exact q
theorem hp_word_by (as : List Sl) (Qp : QE) (Ep : EX) (h : psp_word_by as Qp Ep) : p_word_by (endsP as Qp) (as ++ List.replicate 6 .un) := by
  obtain ⟨m, ps, rest, ks, ss, t, rfl, ok, q⟩ := h
  have n10 := ok.n10
  have R := ok.rod
  have EL : EvL ks.length (kf ks) (pf ps ks) (sf ss) (thL ps ks ss) := theL_ok R
  refine ⟨_, rfl, ⟨by omega, by omega, by rw [dN_len]; have : (1000 : Nat) ≤ sizeLine := by decide
                                          omega⟩, _, _, rfl, ?_⟩
  show pr_word_by_5 _ [.im (.tuple (dI ps :: rest)), .im (.tuple (dN ks)), .im (dK ss), .im (.int t), .ow false (.lst (rgD 0 ((dN ks).length : Int))), .un, .un, .un, .un, .un]
  rw [dN_len, rgD_dN]
  refine ⟨_, _, rfl, ?_⟩
  show pr_word_by_4 _ (stW ps rest ks ss t (List.range ks.length) [] .un .un .un .un)
  refine ⟨_, _, rfl, _, _, rfl, _, _, rfl, _, rfl, List.nodup_nil, m, ps, rest, ks, ss, rfl, ok, _, _, _, rfl, rfl, ?_⟩
  have ll : (thL ps ks ss).length ≤ 100 := Nat.le_trans (theL_len R) (Nat.le_trans (Nat.mul_le_mul n10 n10) (by decide))
  generalize hL : thL ps ks ss = L at *
  refine ⟨fun i δ => δ = stW ps rest ks ss t (goE (List.range ks.length) ((L.take i).filter (doneB (pf ps ks) (sf ss) t))) (letsE (List.range ks.length) ((L.take i).filter (doneB (pf ps ks) (sf ss) t))) .un .un .un .un, rfl, ?_, ?_⟩
  · rintro i d δ hd rfl
    rw [List.getElem?_map] at hd
    obtain ⟨e, he, rfl⟩ := Option.map_eq_some_iff.mp hd
    have hi := (List.getElem?_eq_some_iff.mp he).1
    have eL : L = L.take i ++ e :: L.drop (i + 1) := by
      rw [← (List.getElem?_eq_some_iff.mp he).2, ← List.drop_eq_getElem_cons hi, List.take_append_drop]
    have ev : IsEv ks.length (kf ks) e.1 e.2 := (EL.mem e).mp (List.mem_of_getElem? he)
    have tk : L.take (i + 1) = L.take i ++ [e] := by rw [List.take_add_one, he]; rfl
    have bb := (ok.mok ev).g2
    refine ⟨rfl, rfl, ?_⟩
    refine ⟨_, _, rfl, _, _, rfl, _, rfl, List.nodup_nil, _, _, t, rfl, Nat.lt_of_le_of_lt (Nat.le_trans (Nat.div_le_self _ _) bb) (by decide), _, rfl, ?_⟩
    show if decide (_ ≤ _) = true then _ else _
    rw [done_mE ok ev]
    by_cases c : doneB (pf ps ks) (sf ss) t e = true
    · rw [if_pos c]
      have all : (L.take i).filter (doneB (pf ps ks) (sf ss) t) = L.take i := List.filter_eq_self.mpr fun f hf => by
        have sf := (EL.pre eL f).mp hf
        exact done_mono R sf.1 ev sf.2 c
      rw [all]
      have io := run_ok R EL _ (L.take i) (e :: L.drop (i + 1)) rfl eL
      have st := run_step R EL eL io
      have ol := perm_len io.pm
      refine hp_wturn (i := e.1) (j := e.2) ((mem_of_perm io.pm).mpr (by have := ev.1; have := ev.2.1; omega)) rfl (by omega) st.2.1 st.2.2.1 ?_ ?_
      · rw [lets_len, List.length_take]; omega
      · have fi : (L.take (i + 1)).filter (doneB (pf ps ks) (sf ss) t) = L.take i ++ [e] := by
          rw [tk, List.filter_append, all, List.filter_cons_of_pos c]; rfl
        show stW _ _ _ _ _ _ _ _ _ _ _ = _
        rw [fi, goE_snoc, lets_snoc]
        rfl
    · rw [if_neg c]
      have fi : (L.take (i + 1)).filter (doneB (pf ps ks) (sf ss) t) = (L.take i).filter (doneB (pf ps ks) (sf ss) t) := by
        rw [tk, List.filter_append, List.filter_cons_of_neg c]; simp
      show stW _ _ _ _ _ _ _ _ _ _ _ = _
      rw [fi]
      rfl
  · rintro δ rfl
    rw [List.length_map, List.take_length]
    refine ⟨_, _, rfl, ?_⟩
    have q' := q
    unfold wrdT wrdB at q'
    rw [hL] at q'
    exact q'
/-! ### row_by -/
theorem wrd_ok {m : Int} {ps ss : List Int} {ks : List Nat} (h : RdOk m ps ks ss) (t : Int) : wordOk false ks (wrdT ps ks ss t) := by
  obtain ⟨post, e⟩ := done_pre h.rod (theL_ok h.rod) t
  exact word_ok h.rod (theL_ok h.rod) _ _ post rfl e
theorem wrd_len {m : Int} {ps ss : List Int} {ks : List Nat} (h : RdOk m ps ks ss) (t : Int) : (wrdT ps ks ss t).length ≤ 100 := by
  have h1 : (wrdT ps ks ss t).length ≤ (thL ps ks ss).length := by
    unfold wrdT wrdB
    rw [lets_len]
    exact List.length_filter_le _ _
  exact Nat.le_trans h1 (Nat.le_trans (theL_len h.rod) (Nat.le_trans (Nat.mul_le_mul h.n10 h.n10) (by decide)))
-- DEF row_by N ['book', 'row', 'spots', 'beat'] calls ['led_by', 'word_by', 'kinds_of'] takes ['cNoPassing']
def p_row_by (cNoPassing : Addr) : PSx :=
    pRet (pCall (psp_led_by cNoPassing) (pCons (pFz (pVar 0)) (pCons (pFz (pVar 1)) (pCons (pFz (pCall psp_word_by (pApp (pCons (pFz (pVar 0)) (pCons (pFz (pCall psp_kinds_of (pCons (pFz (pVar 1)) (pNil)) noX)) (pCons (pFz (pVar 2)) (pNil)))) (pCons (pFz (pVar 3)) (pNil))) noX)) (pNil)))) noX)
def psp_row_by : PSp := fun as Q _ => ∃ (B : Book) (m : Int) (r : List Wk) (ss : List Int) (t : Int), as = [.im (dB B), .im (dR r), .im (dK ss), .im (.int t)] ∧ BookOk m B ∧ RowOk m B.s r ∧ RdOk m B.ps (kindsN r) ss ∧ Q (.im (dR (ledN B r (wrdT B.ps (kindsN r) ss t)))) [.un, .un, .un, .un]
theorem hp_row_by (cNoPassing : Addr) (as : List Sl) (Qp : QE) (Ep : EX) (h : psp_row_by as Qp Ep) : p_row_by cNoPassing (endsP as Qp) (as ++ List.replicate 0 .un) := by
  obtain ⟨B, m, r, ss, t, rfl, bk, ok, rd, q⟩ := h
  have rl : r.length ≤ 10 := by have := rd.n10; rw [kindsN_len] at this; exact this
  have fw := fwd_of_word bk ok (wrd_ok rd t)
  refine ⟨_, _, rfl, _, _, rfl, _, _, rfl, _, _, rfl, _, rfl, List.nodup_nil, m, B.s, r, rfl, ok, by omega, _, _, rfl, _, _, rfl, _, _, rfl, _, rfl, List.nodup_nil, m, B.ps, _, kindsN r, ss, t, rfl, rd, _, _, rfl, _, rfl, List.nodup_nil, ?_⟩
  exact led_fwd' rfl bk ok (by omega) (Nat.le_trans (wrd_len rd t) (by decide)) fw ⟨_, _, rfl, q⟩
/-! ### settled_at -/
-- DEF settled_at N ['book', 'kinds', 'spots', 'found', 'upper', 'lower'] calls ['passings'] takes []
def pr_settled_at_1 : PSx :=
    pRet (pNeg (pFdiv (pNeg (pVar 4)) (pVar 5)))
def pr_settled_at_2 : PSx :=
    pSeq (pAsg (pIx (pIx (pVar 3) (pNeg (pK (.int 1)))) (pK (.int 0))) (gT 2 (gsC (gN 4) (gsC (gN 5) (gsN)))))
    (pr_settled_at_1)
def pr_settled_at_3 : PSx :=
    pSeq (pIf (pNot (pTr (pVar 3))) (pRet (pK (.int 0))) (pNext))
    (pr_settled_at_2)
def p_settled_at : PSx :=
    pSeq (pSet 3 (pCall psp_passings (pCons (pFz (pVar 0)) (pCons (pFz (pVar 1)) (pCons (pFz (pVar 2)) (pNil)))) noX))
    (pr_settled_at_3)
theorem atApp {xs : List PyData} {x : PyData} : atI (xs ++ [x]) (-1) = some x := by
  rw [atI_neg1 (by simp)]; simp
/-- when the last is done -/
def stl (ps : List Int) (ks : List Nat) (ss : List Int) : Option Ev → Int
  | none => 0
  | some e => -((-(((mE ps ks ss e).1 / Nat.gcd (mE ps ks ss e).1 (mE ps ks ss e).2.1 : Nat) : Int)) / (((mE ps ks ss e).2.1 / Nat.gcd (mE ps ks ss e).1 (mE ps ks ss e).2.1 : Nat) : Int))
abbrev stlT (ps : List Int) (ks : List Nat) (ss : List Int) : Int := stl ps ks ss (thL ps ks ss).getLast?
def psp_settled_at : PSp := fun as Q _ => ∃ (m : Int) (ps : List Int) (rest : List PyData) (ks : List Nat) (ss : List Int), as = [.im (.tuple (dI ps :: rest)), .im (.tuple (dN ks)), .im (dK ss)] ∧ RdOk m ps ks ss ∧ Q (.im (.int (stlT ps ks ss))) [.un, .un, .un]
theorem hp_settled_at (as : List Sl) (Qp : QE) (Ep : EX) (h : psp_settled_at as Qp Ep) : p_settled_at (endsP as Qp) (as ++ List.replicate 3 .un) := by
  obtain ⟨m, ps, rest, ks, ss, rfl, ok, q⟩ := h
  have EL : EvL ks.length (kf ks) (pf ps ks) (sf ss) (thL ps ks ss) := theL_ok ok.rod
  refine ⟨_, _, rfl, _, _, rfl, _, _, rfl, _, rfl, List.nodup_nil, m, ps, rest, ks, ss, rfl, ok, _, _, rfl, ?_⟩
  show pr_settled_at_3 _ [.im (.tuple (dI ps :: rest)), .im (.tuple (dN ks)), .im (dK ss), .im (.tuple ((thL ps ks ss).map (pasD ps ks ss))), .un, .un]
  unfold stlT at q
  generalize thL ps ks ss = L at *
  refine ⟨_, _, rfl, rfl, ?_⟩
  rcases List.eq_nil_or_concat L with rfl | ⟨L', e, rfl⟩
  · exact ⟨_, _, rfl, q⟩
  · rw [List.concat_eq_append] at *
    have ne : (!(!((L' ++ [e]).map (pasD ps ks ss)).isEmpty)) = false := by
      rw [List.map_append]
      cases L'.map (pasD ps ks ss) <;> rfl
    show if (!(!((L' ++ [e]).map (pasD ps ks ss)).isEmpty)) = true then _ else _
    rw [ne, if_neg Bool.false_ne_true]
    show pr_settled_at_2 _ [.im (.tuple (dI ps :: rest)), .im (.tuple (dN ks)), .im (dK ss), .im (.tuple ((L' ++ [e]).map (pasD ps ks ss))), .un, .un]
    have ev : IsEv ks.length (kf ks) e.1 e.2 := (EL.mem e).mp (by simp)
    have mk := ok.mok ev
    have g0 := Nat.gcd_pos_of_pos_right (mE ps ks ss e).1 mk.g1
    have d1 : 1 ≤ (mE ps ks ss e).2.1 / Nat.gcd (mE ps ks ss e).1 (mE ps ks ss e).2.1 := (Nat.le_div_iff_mul_le g0).mpr (by rw [Nat.one_mul]; exact Nat.gcd_le_right _ mk.g1)
    have d2 : (mE ps ks ss e).2.1 / Nat.gcd (mE ps ks ss e).1 (mE ps ks ss e).2.1 ≤ 2000 := Nat.le_trans (Nat.div_le_self _ _) mk.g2
    have at9 : atI ((L' ++ [e]).map (pasD ps ks ss)) (-1) = some (pasD ps ks ss e) := by
      rw [List.map_append]
      exact atApp
    refine ⟨_, at9, _, rfl, _, _, rfl, rfl, rfl, ?_⟩
    have q' := q
    rw [List.getLast?_concat] at q'
    refine ⟨wide_div (b := 12) (by omega) (by rw [Int.natAbs_natCast]; omega) (by decide) (by decide), _, _, rfl, ?_⟩
    exact q'
/-! ### row_at_last -/
-- DEF row_at_last N ['book', 'row', 'spots'] calls ['row_by', 'settled_at', 'kinds_of'] takes []
def p_row_at_last : PSx :=
    pRet (pCall psp_row_by (pApp (pCons (pFz (pVar 0)) (pCons (pFz (pVar 1)) (pCons (pFz (pVar 2)) (pNil)))) (pCons (pFz (pCall psp_settled_at (pCons (pFz (pVar 0)) (pCons (pFz (pCall psp_kinds_of (pCons (pFz (pVar 1)) (pNil)) noX)) (pCons (pFz (pVar 2)) (pNil)))) noX)) (pNil))) noX)
theorem stl_all {m : Int} {ps ss : List Int} {ks : List Nat} (ok : RdOk m ps ks ss) : ∀ e ∈ thL ps ks ss, doneB (pf ps ks) (sf ss) (stlT ps ks ss) e = true := by
  have R := ok.rod
  have EL : EvL ks.length (kf ks) (pf ps ks) (sf ss) (thL ps ks ss) := theL_ok R
  intro f hf
  unfold stlT
  generalize thL ps ks ss = L at *
  rcases List.eq_nil_or_concat L with rfl | ⟨L', e, rfl⟩
  · cases hf
  · rw [List.concat_eq_append] at *
    rw [List.getLast?_concat]
    have ev : IsEv ks.length (kf ks) e.1 e.2 := (EL.mem e).mp (by simp)
    have de : doneB (pf ps ks) (sf ss) (stl ps ks ss (some e)) e = true := by
      rw [← done_mE ok ev]
      refine decide_eq_true ?_
      have mk := ok.mok ev
      have g0 := Nat.gcd_pos_of_pos_right (mE ps ks ss e).1 mk.g1
      have d1 : 1 ≤ (mE ps ks ss e).2.1 / Nat.gcd (mE ps ks ss e).1 (mE ps ks ss e).2.1 := (Nat.le_div_iff_mul_le g0).mpr (by rw [Nat.one_mul]; exact Nat.gcd_le_right _ mk.g1)
      rw [show stl ps ks ss (some e) = -((-(((mE ps ks ss e).1 / Nat.gcd (mE ps ks ss e).1 (mE ps ks ss e).2.1 : Nat) : Int)) / (((mE ps ks ss e).2.1 / Nat.gcd (mE ps ks ss e).1 (mE ps ks ss e).2.1 : Nat) : Int)) from rfl]
      generalize (mE ps ks ss e).1 / Nat.gcd (mE ps ks ss e).1 (mE ps ks ss e).2.1 = a
      generalize (mE ps ks ss e).2.1 / Nat.gcd (mE ps ks ss e).1 (mE ps ks ss e).2.1 = b at d1
      have := Int.ediv_mul_le (-(a : Int)) (show (b : Int) ≠ 0 by omega)
      rw [Int.neg_mul]
      omega
    rcases List.mem_append.mp hf with h1 | h1
    · have eL : L' ++ [e] = L' ++ e :: [] := rfl
      have sf := (EL.pre eL f).mp h1
      exact done_mono R sf.1 ev sf.2 de
    · rw [List.mem_singleton.mp h1]; exact de
theorem stl_word {m : Int} {ps ss : List Int} {ks : List Nat} (ok : RdOk m ps ks ss) : wrdT ps ks ss (stlT ps ks ss) = letsE (List.range ks.length) (thL ps ks ss) := by
  unfold wrdT wrdB
  rw [List.filter_eq_self.mpr (stl_all ok)]
def psp_row_at_last : PSp := fun as Q _ => ∃ (B : Book) (m : Int) (r : List Wk) (ss : List Int), as = [.im (dB B), .im (dR r), .im (dK ss)] ∧ BookOk m B ∧ RowOk m B.s r ∧ RdOk m B.ps (kindsN r) ss ∧ Q (.im (dR (ledN B r (letsE (List.range (kindsN r).length) (thL B.ps (kindsN r) ss))))) [.un, .un, .un]
theorem hp_row_at_last (as : List Sl) (Qp : QE) (Ep : EX) (h : psp_row_at_last as Qp Ep) : p_row_at_last (endsP as Qp) (as ++ List.replicate 0 .un) := by
  obtain ⟨B, m, r, ss, rfl, bk, ok, rd, q⟩ := h
  have rl : r.length ≤ 10 := by have := rd.n10; rw [kindsN_len] at this; exact this
  refine ⟨_, _, rfl, _, _, rfl, _, _, rfl, _, _, rfl, _, _, rfl, _, rfl, List.nodup_nil, m, B.s, r, rfl, ok, by omega, _, _, rfl, _, _, rfl, _, rfl, List.nodup_nil, m, B.ps, _, kindsN r, ss, rfl, rd, _, _, rfl, _, rfl, List.nodup_nil, B, m, r, ss, stlT B.ps (kindsN r) ss, rfl, bk, ok, rd, ?_⟩
  rw [stl_word rd]
  exact ⟨_, _, rfl, q⟩
end Pv
namespace Pv
open PySem PySem.Spec L2 Wf
/-! Roads: orders and spots by beats, and the law's words and orders by beats. -/
/-! ### order_by -/
-- DEF order_by N ['book', 'kinds', 'spots', 'beat'] calls ['order_behind', 'word_by'] takes ['cNoPassing']
def p_order_by (cNoPassing : Addr) : PSx :=
    pRet (pCall (psp_order_behind cNoPassing) (pCons (pFz (pVar 1)) (pCons (pFz (pCall psp_word_by (pApp (pCons (pFz (pVar 0)) (pCons (pFz (pVar 1)) (pCons (pFz (pVar 2)) (pNil)))) (pCons (pFz (pVar 3)) (pNil))) noX)) (pNil))) noX)
def psp_order_by : PSp := fun as Q _ => ∃ (m : Int) (ps : List Int) (rest : List PyData) (ks : List Nat) (ss : List Int) (t : Int), as = [.im (.tuple (dI ps :: rest)), .im (.tuple (dN ks)), .im (dK ss), .im (.int t)] ∧ RdOk m ps ks ss ∧ Q (.im (.tuple (dN (ordT ps ks ss t)))) [.un, .un, .un, .un]
theorem ordG_wrd {m : Int} {ps ss : List Int} {ks : List Nat} (ok : RdOk m ps ks ss) (t : Int) : ordG gtB ks 0 (List.range ks.length) (iW (wrdT ps ks ss t)) = .inr (ordT ps ks ss t) := by
  rw [ordG_word gt_of (by rw [kf_range]; exact wrd_ok ok t)]
  exact congrArg Sum.inr (go_lets _ _)
theorem hp_order_by (cNoPassing : Addr) (as : List Sl) (Qp : QE) (Ep : EX) (h : psp_order_by as Qp Ep) : p_order_by cNoPassing (endsP as Qp) (as ++ List.replicate 0 .un) := by
  obtain ⟨m, ps, rest, ks, ss, t, rfl, ok, q⟩ := h
  have n10 := ok.n10
  refine ⟨_, _, rfl, _, _, rfl, _, _, rfl, _, _, rfl, _, _, rfl, _, rfl, List.nodup_nil, m, ps, rest, ks, ss, t, rfl, ok, _, _, rfl, _, rfl, List.nodup_nil, ks, iW (wrdT ps ks ss t), ?_, by omega, ?_⟩
  · rw [dK_iW]
  · rw [ordG_wrd ok t]
    exact ⟨_, _, rfl, q⟩
/-! ### spots_by -/
-- DEF spots_by N ['book', 'kinds', 'spots', 'beat', 'paces', 'order', 'i'] calls ['order_by'] takes []
theorem noPinC {δ : List Sl} {v : Nat} {vs : List Nat} (h : ∀ o, δ[v]? ≠ some (.ow true o)) (hs : noPin δ vs) : noPin δ (v :: vs) := fun u hu o => by
  rcases List.mem_cons.mp hu with rfl | hu
  · exact h o
  · exact hs u hu o
/-! ### _law_word_by -/
-- DEF _law_word_by N ['_law_found', '_law_hour', '_law_done', '_law_word', '_law_n', '_law_ahead', '_law_i', '_law_j', '_law_upper', '_law_lower', '_law_a', '_law_b'] calls [] takes []
def pe_lword_by_1 : PX :=
    pTup (pCons (pVar 6) (pCons (pVar 7) (pNil)))
def pe_lword_by_2 : PX :=
    pK (.int 1)
def pe_lword_by_3 : PX :=
    pK (.int 1)
def pr_lword_by_1 : PSx :=
    pExpr (pMt mAppend (pVar 3) (pCons (pSub (pAdd (pVar 6) (pVar 5)) (pC (q1 fLen) (pCons (pComp (iSeq (pSlice (pVar 2) (oNone) (oSome (pVar 4)))) (gT 2 (gsC (gN 10) (gsC (gN 11) (gsN)))) (pT (pEq false (pVar 11) (pVar 6))) (pe_lword_by_3) [10, 11]) (pNil)))) (pNil)))
def pb_lword_by_5 : PSx :=
    pSeq (pSet 5 (pC (q1 fLen) (pCons (pComp (iSeq (pSlice (pVar 2) (oNone) (oSome (pVar 4)))) (gT 2 (gsC (gN 10) (gsC (gN 11) (gsN)))) (pT (pEq false (pVar 10) (pVar 6))) (pe_lword_by_2) [10, 11]) (pNil))))
    (pr_lword_by_1)
def pr_lword_by_2 : PSx :=
    pRet (pC (q1 fTupleOf) (pCons (pVar 3) (pNil)))
def pr_lword_by_3 : PSx :=
    pSeq (pFor [4, 5, 6, 7] (iEn (pCons (pVar 2) (pNil))) (gT 2 (gsC (gN 4) (gsC (gT 2 (gsC (gN 6) (gsC (gN 7) (gsN)))) (gsN)))) (pb_lword_by_5))
    (pr_lword_by_2)
def pr_lword_by_4 : PSx :=
    pSeq (pSet 3 (pLst (pNil)))
    (pr_lword_by_3)
def p_lword_by : PSx :=
    pSeq (pSet 2 (pComp (iSeq (pVar 0)) (gT 3 (gsC (gT 2 (gsC (gN 8) (gsC (gN 9) (gsN)))) (gsC (gN 6) (gsC (gN 7) (gsN))))) (pT (pLe (pVar 8) (pMul (pVar 1) (pVar 9)))) (pe_lword_by_1) [6, 7, 8, 9]))
    (pr_lword_by_4)
abbrev ePD (e : Ev) : PyData := .tuple [nD e.1, nD e.2]
def psp_lword_by : PSp := fun as Q _ => ∃ (m : Int) (ps : List Int) (ks : List Nat) (ss : List Int) (t : Int), as = [.im (.list ((thL ps ks ss).map (pasD ps ks ss))), .im (.int t)] ∧ RdOk m ps ks ss ∧ Q (.im (.tuple (dN (wrdT ps ks ss t)))) [.un, .un]
abbrev stWb (L : List PyData) (t : Int) (s2 s3 s4 s5 s6 s7 s10 s11 : Sl) : List Sl := [.im (.list L), .im (.int t), s2, s3, s4, s5, s6, s7, .un, .un, s10, s11]
/-- how many are led by the walker x -/
theorem hp_cntE {F : Ev → Nat} {G : PGx} {C : PB} {elt : PX} {ds : List PyData} {δ0 : List Sl} {x : Nat} {D : List Ev} {Kk : List PyData → List Sl → Prop} (hds : ds = D.map ePD) (dl : D.length ≤ 100)
    (hst : ∀ (e : Ev) (acc : List PyData) (I' : List PyData → List Sl → Prop), (if decide (((F e : Nat) : Int) = (x : Int)) = true then acc.length < sizeLine ∧ I' (acc ++ [PyData.int 1]) δ0 else I' acc δ0) → G (ePD e) δ0 fun δ2 => C δ2 fun b δ3 => if b = true then elt δ3 fun r δ4 => ∃ e δ5, fz δ4 r = some (e, δ5) ∧ acc.length < sizeLine ∧ I' (acc ++ [e]) (wipeS δ5 [10, 11]) else I' acc (wipeS δ3 [10, 11]))
    (q : Kk (List.replicate ((D.filter fun e => decide (F e = x)).length) (.int 1)) δ0) : compI G C elt [10, 11] Kk ds δ0 := by
  subst hds
  refine ⟨fun i acc δ => acc = List.replicate (((D.take i).filter fun e => decide (F e = x)).length) (.int 1) ∧ δ = δ0, ⟨rfl, rfl⟩, ?_, ?_⟩
  · rintro i d acc δ hd ⟨rfl, rfl⟩
    rw [List.getElem?_map] at hd
    obtain ⟨e, he, rfl⟩ := Option.map_eq_some_iff.mp hd
    have tk : D.take (i + 1) = D.take i ++ [e] := by rw [List.take_add_one, he]; rfl
    refine hst e _ (fun acc δ' => acc = List.replicate (((D.take (i + 1)).filter fun e => decide (F e = x)).length) (PyData.int 1) ∧ δ' = δ) ?_
    by_cases c : F e = x
    · have f1 : [e].filter (fun e => decide (F e = x)) = [e] := List.filter_cons_of_pos (by simpa using c)
      rw [if_pos (decide_eq_true (by omega)), tk, List.filter_append, f1, List.length_append]
      refine ⟨?_, ?_, rfl⟩
      · rw [List.length_replicate]
        have := List.length_filter_le (fun e => decide (F e = x)) (D.take i)
        rw [List.length_take] at this
        exact szN (m := 100) (by omega) (by decide)
      · show _ ++ List.replicate 1 _ = List.replicate (_ + 1) _
        rw [List.replicate_append_replicate]
    · have f1 : [e].filter (fun e => decide (F e = x)) = [] := List.filter_cons_of_neg (by simpa using c)
      rw [if_neg (by simp; omega), tk, List.filter_append, f1, List.append_nil]
      exact ⟨rfl, rfl⟩
  · rintro acc δ ⟨rfl, rfl⟩
    rw [List.length_map, List.take_length]
    exact q
theorem cmuN {a : Int} {n : Nat} (h : n < 2 ^ 63) : CMu a (n : Int) := .inl (.inr ⟨by omega, by omega⟩)
theorem hp_lword_by (as : List Sl) (Qp : QE) (Ep : EX) (h : psp_lword_by as Qp Ep) : p_lword_by (endsP as Qp) (as ++ List.replicate 10 .un) := by
  obtain ⟨m, ps, ks, ss, t, rfl, ok, q⟩ := h
  have n10 := ok.n10
  have R := ok.rod
  have EL : EvL ks.length (kf ks) (pf ps ks) (sf ss) (thL ps ks ss) := theL_ok R
  have ll : (thL ps ks ss).length ≤ 100 := Nat.le_trans (theL_len R) (Nat.le_trans (Nat.mul_le_mul n10 n10) (by decide))
  obtain ⟨post, eD⟩ := done_pre R EL t
  have q' : Qp (.im (.tuple (dN (letsE (List.range ks.length) ((thL ps ks ss).filter (doneB (pf ps ks) (sf ss) t)))))) [.un, .un] := q
  have dl : ((thL ps ks ss).filter (doneB (pf ps ks) (sf ss) t)).length ≤ 100 := Nat.le_trans (List.length_filter_le _ _) ll
  generalize hL : thL ps ks ss = L at *
  refine ⟨_, _, _, rfl, rfl, noPinC (fun o => nofun) (noPinC (fun o => nofun) (noPinC (fun o => nofun) (noPin1 (fun o => nofun)))), fun i acc δ => acc = ((L.take i).filter (doneB (pf ps ks) (sf ss) t)).map ePD ∧ δ = stWb (L.map (pasD ps ks ss)) t .un .un .un .un .un .un .un .un, ⟨rfl, rfl⟩, ?_, ?_⟩
  · rintro i d acc δ hd ⟨rfl, rfl⟩
    rw [List.getElem?_map] at hd
    obtain ⟨e, he, rfl⟩ := Option.map_eq_some_iff.mp hd
    have ev : IsEv ks.length (kf ks) e.1 e.2 := (EL.mem e).mp (List.mem_of_getElem? he)
    have tk : L.take (i + 1) = L.take i ++ [e] := by rw [List.take_add_one, he]; rfl
    have bb := (ok.mok ev).g2
    have b2 : (mE ps ks ss e).2.1 / Nat.gcd (mE ps ks ss e).1 (mE ps ks ss e).2.1 < 2 ^ 63 := Nat.lt_of_le_of_lt (Nat.le_trans (Nat.div_le_self _ _) bb) (by decide)
    refine ⟨rfl, rfl, rfl, rfl, cmuN b2, trivial, _, rfl, ?_⟩
    show if decide (_ ≤ _) = true then _ else _
    rw [done_mE ok ev]
    by_cases c : doneB (pf ps ks) (sf ss) t e = true
    · rw [if_pos c]
      have f1 : [e].filter (doneB (pf ps ks) (sf ss) t) = [e] := List.filter_cons_of_pos (by exact c)
      refine ⟨_, _, rfl, ?_, ?_, rfl⟩
      · rw [List.length_map]
        have := List.length_filter_le (doneB (pf ps ks) (sf ss) t) (L.take i)
        rw [List.length_take] at this
        exact szN (m := 100) (by omega) (by decide)
      · rw [tk, List.filter_append, f1, List.map_append]; rfl
    · rw [if_neg c]
      have f1 : [e].filter (doneB (pf ps ks) (sf ss) t) = [] := List.filter_cons_of_neg (by exact c)
      refine ⟨?_, rfl⟩
      rw [tk, List.filter_append, f1, List.append_nil]
  · rintro acc δ ⟨rfl, rfl⟩
    rw [List.length_map, List.take_length]
    refine ⟨_, _, rfl, ?_⟩
    generalize L.filter (doneB (pf ps ks) (sf ss) t) = D at *
    refine ⟨_, _, rfl, ?_⟩
    refine ⟨_, _, _, rfl, rfl, fun i δ => δ = stWb (L.map (pasD ps ks ss)) t (.im (.list (D.map ePD))) (.ow false (.lst (dN (letsE (List.range ks.length) (D.take i))))) .un .un .un .un .un .un, rfl, ?_, ?_⟩
    · rintro i d δ hd rfl
      rw [enD_get, List.getElem?_map] at hd
      obtain ⟨d0, h0, rfl⟩ := Option.map_eq_some_iff.mp hd
      obtain ⟨e, he, rfl⟩ := Option.map_eq_some_iff.mp h0
      have hi := (List.getElem?_eq_some_iff.mp he).1
      have eD2 : D = D.take i ++ e :: D.drop (i + 1) := by
        rw [← (List.getElem?_eq_some_iff.mp he).2, ← List.drop_eq_getElem_cons hi, List.take_append_drop]
      have eL2 : L = D.take i ++ (e :: D.drop (i + 1) ++ post) := by rw [← List.append_assoc, ← eD2, ← eD]
      have ev : IsEv ks.length (kf ks) e.1 e.2 := (EL.mem e).mp (by rw [eL2]; simp)
      have cn := run_cnt R EL _ (D.take i) _ rfl eL2 e.1 (by have := ev.1; have := ev.2.1; omega)
      have tk : D.take (i + 1) = D.take i ++ [e] := by rw [List.take_add_one, he]; rfl
      have e0 : (.int ((0 + i : Nat) : Int) : PyData) = nD i := by rw [Nat.zero_add]
      have ct : cutD (D.map ePD) none (some (i : Int)) = (D.take i).map ePD := by rw [cut_map, cut_take]
      refine ⟨rfl, rfl, rfl, rfl, ?_⟩
      show pb_lword_by_5 _ (stWb (L.map (pasD ps ks ss)) t (.im (.list (D.map ePD))) (.ow false (.lst (dN (letsE (List.range ks.length) (D.take i))))) (.im (.int ((0 + i : Nat) : Int))) .un (.im (nD e.1)) (.im (nD e.2)) .un .un)
      rw [e0]
      have tl : (D.take i).length ≤ 100 := by rw [List.length_take]; omega
      refine ⟨_, rfl, _, _, _, rfl, rfl, noPin2 (fun o => nofun) (fun o => nofun), hp_cntE (F := fun e => e.1) (x := e.1) (D := D.take i) ct tl (fun f acc I' h => ⟨rfl, rfl, _, rfl, ?_⟩) ?_⟩
      · show if decide (((f.1 : Nat) : Int) = ((e.1 : Nat) : Int)) = true then _ else _
        by_cases c : decide (((f.1 : Nat) : Int) = ((e.1 : Nat) : Int)) = true
        · rw [if_pos c] at h ⊢
          exact ⟨_, _, rfl, h.1, h.2⟩
        · rw [if_neg c] at h ⊢
          exact h
      refine ⟨_, _, rfl, ?_⟩
      have fA : ((List.replicate (((D.take i).filter fun f => decide (f.1 = e.1)).length) (PyData.int 1)).length : Int) = (cntA (D.take i) e.1 : Int) := by rw [List.length_replicate]; rfl
      have fB : ((List.replicate (((D.take i).filter fun f => decide (f.2 = e.1)).length) (PyData.int 1)).length : Int) = (cntB (D.take i) e.1 : Int) := by rw [List.length_replicate]; rfl
      show pr_lword_by_1 _ (stWb (L.map (pasD ps ks ss)) t (.im (.list (D.map ePD))) (.ow false (.lst (dN (letsE (List.range ks.length) (D.take i))))) (.im (nD i)) (.im (.int ((List.replicate (((D.take i).filter fun f => decide (f.1 = e.1)).length) (PyData.int 1)).length : Int))) (.im (nD e.1)) (.im (nD e.2)) .un .un)
      rw [fA]
      refine ⟨_, _, _, rfl, rfl, _, rfl, _, _, _, rfl, rfl, noPin2 (fun o => nofun) (fun o => nofun), hp_cntE (F := fun e => e.2) (x := e.1) (D := D.take i) ct tl (fun f acc I' h => ⟨rfl, rfl, _, rfl, ?_⟩) ?_⟩
      · show if decide (((f.2 : Nat) : Int) = ((e.1 : Nat) : Int)) = true then _ else _
        by_cases c : decide (((f.2 : Nat) : Int) = ((e.1 : Nat) : Int)) = true
        · rw [if_pos c] at h ⊢
          exact ⟨_, _, rfl, h.1, h.2⟩
        · rw [if_neg c] at h ⊢
          exact h
      refine ⟨trivial, _, _, _, _, rfl, rfl, ?_, ?_⟩
      · rw [dN_len, lets_len]
        exact szN (m := 100) tl (by decide)
      show stWb _ _ _ (.ow false (.lst (dN (letsE (List.range ks.length) (D.take i)) ++ [PyData.int (((e.1 : Nat) : Int) + (cntA (D.take i) e.1 : Int) - ((List.replicate (((D.take i).filter fun f => decide (f.2 = e.1)).length) (PyData.int 1)).length : Int))]))) _ _ _ _ _ _ = _
      rw [fB, ← cn, tk, lets_snoc, dN_app]
      rfl
    · rintro δ rfl
      rw [enD_len, List.length_map, List.take_length]
      exact ⟨_, _, rfl, q'⟩
/-! ### _law_order_by -/
-- DEF _law_order_by N ['_law_book_here', '_law_kinds_here', '_law_spots_here', '_law_hour', '_law_some', '_law_walker', '_law_kind', '_law_spot'] calls [] takes []
end Pv
namespace Pv
open PySem PySem.Spec L2 Wf
/-! Roads: the law's settings out. -/
/-! ### _law_part -/
-- DEF _law_part N ['_law_one', '_law_other'] calls [] takes []
def pb_lpart_1 : PSx :=
    pPar [0, 1] (pCons (pVar 1) (pCons (pMod (pVar 0) (pVar 1)) (pNil)))
def pr_lpart_1 : PSx :=
    pRet (pVar 0)
def p_lpart : PSx :=
    pSeq (pWhile [] (pT (pGt (pVar 1) (pK (.int 0)))) (pb_lpart_1))
    (pr_lpart_1)
def psp_lpart : PSp := psp_cdiv
theorem hp_lpart (as : List Sl) (Qp : QE) (Ep : EX) (h : psp_lpart as Qp Ep) : p_lpart (endsP as Qp) (as ++ List.replicate 0 .un) := hp_cdiv as Qp Ep h
/-! ### _law_bare_book -/
-- DEF _law_bare_book N ['_law_deal_here', '_law_many', '_law_times', '_law_widest', '_law_steps', '_law_paces', '_law_step', '_law_k'] calls ['_law_draw'] takes []
/-! ### _law_kinds -/
-- DEF _law_kinds N ['_law_deal_here', '_law_book', '_law_many', '_law_found', '_law_k'] calls ['_law_draw'] takes []
def pe_lkinds3_1 : PX :=
    pCall psp_draw (pCons (pVar 0) (pCons (pFz (pC (q1 fLen) (pCons (pIx (pVar 1) (pK (.int 0))) (pNil)))) (pNil))) noX
def pr_lkinds3_1 : PSx :=
    pRet (pC (q1 fTupleOf) (pCons (pVar 3) (pNil)))
def pr_lkinds3_2 : PSx :=
    pSeq (pIf (pT (pEq false (pCall psp_draw (pCons (pVar 0) (pCons (pFz (pK (.int 3))) (pNil))) noX) (pK (.int 0)))) (pSet 3 (pRevL (pC (q1L fSorted) (pCons (pVar 3) (pNil))))) (pNext))
    (pr_lkinds3_1)
def p_lkinds3 : PSx :=
    pSeq (pSet 3 (pComp (iRg (pCons (pVar 2) (pNil))) (gN 4) (pYes) (pe_lkinds3_1) [4]))
    (pr_lkinds3_2)
def psp_lkinds3 : PSp := fun as Q _ => ∃ (ps : List Int) (rest : List PyData) (n : Nat), as = [.ow true .deal, .im (.tuple (dI ps :: rest)), .im (nD n)] ∧ 1 ≤ ps.length ∧ ps.length ≤ 100 ∧ n ≤ 1000 ∧ ∀ ks : List Nat, ks.length = n → (∀ k ∈ ks, k < ps.length) → Q (.im (.tuple (dN ks))) [.ow true .deal, .un, .un]
abbrev stKi (ps : List Int) (rest : List PyData) (n : Nat) (s3 : Sl) : List Sl := [.ow true .deal, .im (.tuple (dI ps :: rest)), .im (nD n), s3, .un]
theorem hp_lkinds3 (as : List Sl) (Qp : QE) (Ep : EX) (h : psp_lkinds3 as Qp Ep) : p_lkinds3 (endsP as Qp) (as ++ List.replicate 2 .un) := by
  obtain ⟨ps, rest, n, rfl, p1, p2, hn, q⟩ := h
  have z9 : (1000 : Nat) < sizeLine := by decide
  refine ⟨by omega, by omega, noPin1 (fun o => nofun), fun i acc δ => ∃ ks : List Nat, acc = dN ks ∧ ks.length = i ∧ (∀ k ∈ ks, k < ps.length) ∧ δ = stKi ps rest n .un, ⟨[], rfl, rfl, nofun, rfl⟩, ?_, ?_⟩
  · rintro i d acc δ hd ⟨ks, rfl, kl, kb, rfl⟩
    obtain ⟨rfl, hi⟩ := rgD_get hd
    refine ⟨_, atI_of (j := 0) rfl rfl, _, _, rfl, _, rfl, nd1 0, _, rfl, ?_, ?_, fun k hk => ?_⟩
    · show (0 : Int) < ((ps.map PyData.int).length : Int)
      rw [List.length_map]; omega
    · show ((ps.map PyData.int).length : Int) < 2 ^ 200
      rw [List.length_map]; exact Int.lt_of_le_of_lt (show (ps.length : Int) ≤ 100 by omega) (by decide)
    simp only [pk0]
    have hk : (k : Int) < ((ps.map PyData.int).length : Int) := hk
    rw [List.length_map] at hk
    refine ⟨_, _, rfl, ?_, ks ++ [k], ?_, by simp [kl], fun y hy => ?_, rfl⟩
    · rw [dN_len]; omega
    · rw [dN_app]; rfl
    · rcases List.mem_append.mp hy with h1 | h1
      · exact kb y h1
      · rw [List.mem_singleton.mp h1]; omega
  · rintro acc δ ⟨ks, rfl, kl, kb, rfl⟩
    rw [rgD_len] at kl
    have kl : ks.length = n := by omega
    refine ⟨_, _, rfl, ?_⟩
    show pr_lkinds3_2 _ (stKi ps rest n (.ow false (.lst (dN ks))))
    refine ⟨_, _, rfl, _, rfl, nd1 0, _, rfl, by decide, by decide, fun b hb => ?_⟩
    simp only [pk0]
    refine ⟨_, rfl, ?_⟩
    show if decide ((b : Int) = 0) = true then _ else _
    have fin : ∀ ks : List Nat, ks.length = n → (∀ k ∈ ks, k < ps.length) → pr_lkinds3_1 (endsP [.ow true .deal, .im (.tuple (dI ps :: rest)), .im (nD n)] Qp) (stKi ps rest n (.ow false (.lst (dN ks)))) := fun ks h1 h2 => ⟨_, _, rfl, q ks h1 h2⟩
    by_cases c : (b : Int) = 0
    · rw [if_pos (decide_eq_true c)]
      refine ⟨ks.map fun k : Nat => (k : Int), congrArg PyData.list (castN ks), fun ns' pm so => ?_⟩
      obtain ⟨o, po, rfl⟩ := perm_map_inv pm
      refine ⟨_, rfl, _, _, rfl, ?_⟩
      have e : ((o.map fun k : Nat => (k : Int)).map PyData.int).reverse = dN o.reverse := by rw [← castN, dN, dN, List.map_reverse]
      show pr_lkinds3_1 _ (stKi ps rest n (.ow false (.lst ((o.map fun k : Nat => (k : Int)).map PyData.int).reverse)))
      rw [e]
      exact fin _ (by rw [List.length_reverse, po.length_eq, kl]) fun k hk => kb k (po.mem_iff.mp (List.mem_reverse.mp hk))
    · rw [if_neg (by simpa using c)]
      exact fin ks kl kb
/-! ### _law_spots -/
-- DEF _law_spots N ['_law_deal_here', '_law_many', '_law_begins', '_law_k', '_law_form', '_law_wide', '_law_spot', '_law_great', '_law_found', '_law_step', '_law_leap'] calls ['_law_draw'] takes []
def pr_lspots3_1 : PSx :=
    pSet 6 (pAdd (pVar 6) (pVar 9))
def pr_lspots3_2 : PSx :=
    pSeq (pExpr (pMt mAppend (pVar 8) (pCons (pVar 6) (pNil))))
    (pr_lspots3_1)
def pr_lspots3_3 : PSx :=
    pSeq (pIf (pT (pEq false (pVar 3) (pVar 7))) (pSet 6 (pIx (pLst (pCons (pAdd (pVar 6) (pVar 10)) (pCons (pAdd (pSub (pMul (pK (.int 4)) (pPow (pK (.int 10)) (pK (.int 18)))) (pPow (pK (.int 10)) (pK (.int 11)))) (pMod (pVar 10) (pPow (pK (.int 10)) (pK (.int 9))))) (pNil)))) (pVar 4))) (pNext))
    (pr_lspots3_2)
def pb_lspots3_4 : PSx :=
    pSeq (pPar [9, 10] (pCons (pAdd (pK (.int 1)) (pCall psp_draw (pCons (pVar 0) (pCons (pFz (pVar 5)) (pNil))) noX)) (pCons (pCall psp_draw (pCons (pVar 0) (pCons (pFz (pPow (pK (.int 10)) (pK (.int 18)))) (pNil))) noX) (pNil))))
    (pr_lspots3_3)
def pr_lspots3_4 : PSx :=
    pRet (pC (q1 fTupleOf) (pCons (pVar 8) (pNil)))
def pr_lspots3_5 : PSx :=
    pSeq (pFor [3, 9, 10] (iRg (pCons (pVar 1) (pNil))) (gN 3) (pb_lspots3_4))
    (pr_lspots3_4)
def pr_lspots3_6 : PSx :=
    pSeq (pIf (pT (pLt (pVar 4) (pK (.int 2)))) (pSet 7 (pCall psp_draw (pCons (pVar 0) (pCons (pFz (pAdd (pVar 1) (pK (.int 1)))) (pNil))) noX)) (pNext))
    (pr_lspots3_5)
def pr_lspots3_7 : PSx :=
    pSeq (pPar [6, 7, 8] (pCons (pIx (pVar 2) (pCall psp_draw (pCons (pVar 0) (pCons (pFz (pK (.int 4))) (pNil))) noX)) (pCons (pVar 1) (pCons (pLst (pNil)) (pNil)))))
    (pr_lspots3_6)
def pr_lspots3_8 : PSx :=
    pSeq (pSet 2 (pLst (pCons (pK (.int 0)) (pCons (pSub (pCall psp_draw (pCons (pVar 0) (pCons (pFz (pK (.int 41))) (pNil))) noX) (pK (.int 20))) (pCons (pSub (pCall psp_draw (pCons (pVar 0) (pCons (pFz (pPow (pK (.int 10)) (pK (.int 18)))) (pNil))) noX) (pPow (pK (.int 10)) (pK (.int 18)))) (pCons (pSub (pK (.int 0)) (pMul (pK (.int 4)) (pPow (pK (.int 10)) (pK (.int 18))))) (pNil)))))))
    (pr_lspots3_7)
def p_lspots3 : PSx :=
    pSeq (pPar [4, 5] (pCons (pCall psp_draw (pCons (pVar 0) (pCons (pFz (pK (.int 5))) (pNil))) noX) (pCons (pIx (pLst (pCons (pK (.int 1)) (pCons (pK (.int 4)) (pCons (pK (.int 60)) (pCons (pPow (pK (.int 10)) (pK (.int 9))) (pNil)))))) (pCall psp_draw (pCons (pVar 0) (pCons (pFz (pK (.int 4))) (pNil))) noX)) (pNil))))
    (pr_lspots3_8)
theorem p1018 : ((10 : Int) ^ (Int.toNat 18)) = 1000000000000000000 := by decide
theorem p1011 : ((10 : Int) ^ (Int.toNat 11)) = 100000000000 := by decide
theorem p109 : ((10 : Int) ^ (Int.toNat 9)) = 1000000000 := by decide
def psp_lspots3 : PSp := fun as Q _ => ∃ n : Nat, as = [.ow true .deal, .im (nD n)] ∧ n ≤ 10 ∧ ∀ ss : List Int, ss.length = n → ss.Pairwise (· < ·) → (∀ x ∈ ss, -(2 ^ 62) ≤ x ∧ x < 2 ^ 62) → Q (.im (dK ss)) [.ow true .deal, .un]
abbrev stSp (n : Nat) (s2 s3 s4 s5 s6 s7 s8 s9 s10 : Sl) : List Sl := [.ow true .deal, .im (nD n), s2, s3, s4, s5, s6, s7, s8, s9, s10]
theorem sel_wide {b : Nat} (hb : b < 4) : ∃ x : Int, atI [PyData.int 1, .int 4, .int 60, .int (10 ^ (Int.toNat 9))] (b : Int) = some (.int x) ∧ 1 ≤ x ∧ x ≤ 1000000000 := by
  match b, hb with
  | 0, _ => exact ⟨1, rfl, by decide, by decide⟩
  | 1, _ => exact ⟨4, rfl, by decide, by decide⟩
  | 2, _ => exact ⟨60, rfl, by decide, by decide⟩
  | 3, _ => exact ⟨_, rfl, by decide, by decide⟩
theorem sel_begin {b : Nat} {c e : Int} (hb : b < 4) (c0 : 0 ≤ c ∧ c < 41) (e0 : 0 ≤ e ∧ e < 1000000000000000000) : ∃ x : Int, atI [PyData.int 0, .int (c - 20), .int (e - 10 ^ (Int.toNat 18)), .int (0 - 4 * 10 ^ (Int.toNat 18))] (b : Int) = some (.int x) ∧ -4000000000000000000 ≤ x ∧ x ≤ 20 := by
  rw [p1018]
  match b, hb with
  | 0, _ => exact ⟨0, rfl, by decide, by decide⟩
  | 1, _ => exact ⟨_, rfl, by omega, by omega⟩
  | 2, _ => exact ⟨_, rfl, by omega, by omega⟩
  | 3, _ => exact ⟨_, rfl, by decide, by decide⟩
theorem hp_sturn {E : PEn} {n a G i : Nat} {L : List PyData} {w sp : Int} {ss : List Int} (w1 : 1 ≤ w) (w2 : w ≤ 1000000000) (aG : a < 2 ∨ G = n) (hi : i < n) (hn : n ≤ 10) (sl : ss.length = i) (b0 : -4000000000000000000 ≤ sp) (b1 : sp ≤ 3999999901000000000 + 1000000000 * (i : Int)) (b2 : i ≤ G → sp ≤ 20 + 1000000000 * (i : Int))
    (q : ∀ sp' step : Int, sp ≤ sp' → sp' ≤ 3999999901000000000 + 1000000000 * (i : Int) → (i < G → sp' ≤ 20 + 1000000000 * (i : Int)) → 1 ≤ step → step ≤ 1000000000 → ∀ s9 s10 : PyData, E.nx (stSp n (.ow false (.lst L)) (.im (nD i)) (.im (nD a)) (.im (.int w)) (.im (.int (sp' + step))) (.im (nD G)) (.ow false (.lst ((ss ++ [sp']).map .int))) (.im s9) (.im s10))) :
    pb_lspots3_4 E (stSp n (.ow false (.lst L)) (.im (nD i)) (.im (nD a)) (.im (.int w)) (.im (.int sp)) (.im (nD G)) (.ow false (.lst (ss.map .int))) .un .un) := by
  refine ⟨_, _, rfl, _, rfl, nd1 0, _, rfl, by omega, Int.lt_of_le_of_lt w2 (by decide), fun b hb => ?_⟩
  simp only [pk0]
  refine ⟨⟨by decide, by decide, by decide⟩, _, _, rfl, _, rfl, nd1 0, _, rfl, by decide, by decide, fun c hc => ?_⟩
  rw [p1018] at hc
  simp only [pk0]
  refine ⟨_, _, rfl, ?_⟩
  show pr_lspots3_3 E (stSp n (.ow false (.lst L)) (.im (nD i)) (.im (nD a)) (.im (.int w)) (.im (.int sp)) (.im (nD G)) (.ow false (.lst (ss.map .int))) (.im (.int (1 + (b : Int)))) (.im (nD c)))
  have fin : ∀ sp' : Int, sp ≤ sp' → sp' ≤ 3999999901000000000 + 1000000000 * (i : Int) → (i < G → sp' ≤ 20 + 1000000000 * (i : Int)) → pr_lspots3_2 E (stSp n (.ow false (.lst L)) (.im (nD i)) (.im (nD a)) (.im (.int w)) (.im (.int sp')) (.im (nD G)) (.ow false (.lst (ss.map .int))) (.im (.int (1 + (b : Int)))) (.im (nD c))) := fun sp' h1 h2 h3 => by
    refine ⟨_, _, _, rfl, rfl, _, _, _, _, rfl, rfl, ?_, ?_⟩
    · rw [List.length_map]; exact szN (m := 100) (by omega) (by decide)
    · refine ⟨_, _, rfl, ?_⟩
      have := q sp' (1 + (b : Int)) h1 h2 h3 (by omega) (by omega) (.int (1 + (b : Int))) (nD c)
      rw [List.map_append] at this
      exact this
  refine ⟨_, rfl, ?_⟩
  show if decide ((i : Int) = (G : Int)) = true then _ else _
  by_cases e : (i : Int) = (G : Int)
  · rw [if_pos (decide_eq_true e)]
    have a2 : a < 2 := by omega
    have bb := b2 (by omega)
    refine ⟨⟨by decide, by decide, by decide⟩, .inl (.inl ⟨by decide, by decide⟩), ⟨by decide, by decide, by decide⟩, trivial, ⟨by decide, by decide, by decide⟩, (show (0 : Int) < _ by decide), ?_⟩
    have sel : ∃ x : Int, atI [PyData.int (sp + (c : Int)), .int (4 * 10 ^ (Int.toNat 18) - 10 ^ (Int.toNat 11) + (c : Int) % 10 ^ (Int.toNat 9))] (a : Int) = some (.int x) ∧ sp ≤ x ∧ x ≤ 3999999901000000000 + 1000000000 * (i : Int) := by
      rw [p1018, p1011, p109]
      have := Int.emod_nonneg (c : Int) (show (1000000000 : Int) ≠ 0 by decide)
      have := Int.emod_lt_of_pos (c : Int) (show (0 : Int) < 1000000000 by decide)
      match a, a2 with
      | 0, _ => exact ⟨_, rfl, by omega, by omega⟩
      | 1, _ => exact ⟨_, rfl, by omega, by omega⟩
    obtain ⟨x, ex, x1, x2⟩ := sel
    exact ⟨_, ex, _, _, rfl, fin x x1 x2 (by omega)⟩
  · rw [if_neg (by simpa using e)]
    exact fin sp (Int.le_refl _) b1 fun h => b2 (by omega)
theorem hp_lspots3 (as : List Sl) (Qp : QE) (Ep : EX) (h : psp_lspots3 as Qp Ep) : p_lspots3 (endsP as Qp) (as ++ List.replicate 9 .un) := by
  obtain ⟨n, rfl, hn, q⟩ := h
  refine ⟨_, _, rfl, _, rfl, nd1 0, _, rfl, by decide, by decide, fun a ha => ?_⟩
  simp only [pk0]
  refine ⟨⟨by decide, by decide, by decide⟩, _, _, rfl, _, rfl, nd1 0, _, rfl, by decide, by decide, fun b hb => ?_⟩
  simp only [pk0]
  obtain ⟨w, ew, w1, w2⟩ := sel_wide (b := b) (by omega)
  refine ⟨_, ew, _, _, rfl, ?_⟩
  show pr_lspots3_8 _ (stSp n .un .un (.im (nD a)) (.im (.int w)) .un .un .un .un .un)
  refine ⟨_, _, rfl, _, rfl, nd1 0, _, rfl, by decide, by decide, fun c hc => ?_⟩
  simp only [pk0]
  refine ⟨trivial, ⟨by decide, by decide, by decide⟩, _, _, rfl, _, rfl, nd1 0, _, rfl, by decide, by decide, fun e he => ?_⟩
  rw [p1018] at he
  simp only [pk0]
  refine ⟨⟨by decide, by decide, by decide⟩, trivial, ⟨by decide, by decide, by decide⟩, .inl (.inl ⟨by decide, by decide⟩), trivial, _, _, rfl, ?_⟩
  generalize hL : [PyData.int 0, .int ((c : Int) - 20), .int ((e : Int) - 10 ^ (Int.toNat 18)), .int (0 - 4 * 10 ^ (Int.toNat 18))] = L
  show pr_lspots3_7 _ (stSp n (.ow false (.lst L)) .un (.im (nD a)) (.im (.int w)) .un .un .un .un .un)
  refine ⟨_, _, rfl, _, rfl, nd1 0, _, rfl, by decide, by decide, fun g hg => ?_⟩
  simp only [pk0]
  obtain ⟨sp, es, s0, s1⟩ := sel_begin (b := g) (c := (c : Int)) (e := (e : Int)) (by omega) (by omega) (by omega)
  rw [hL] at es
  refine ⟨_, es, _, _, rfl, ?_⟩
  show pr_lspots3_6 _ (stSp n (.ow false (.lst L)) .un (.im (nD a)) (.im (.int w)) (.im (.int sp)) (.im (nD n)) (.ow false (.lst [])) .un .un)
  have fin : ∀ G : Nat, (a < 2 ∨ G = n) → pr_lspots3_5 (endsP [.ow true .deal, .im (nD n)] Qp) (stSp n (.ow false (.lst L)) .un (.im (nD a)) (.im (.int w)) (.im (.int sp)) (.im (nD G)) (.ow false (.lst [])) .un .un) := fun G aG => by
    refine ⟨by omega, by omega, ?_⟩
    refine for_rg n rfl (fun i δ => ∃ (ss : List Int) (x : Int), ss.length = i ∧ ss.Pairwise (· < ·) ∧ (∀ y ∈ ss, -4000000000000000000 ≤ y ∧ y < x) ∧ -4000000000000000000 ≤ x ∧ x ≤ 3999999901000000000 + 1000000000 * (i : Int) ∧ (i ≤ G → x ≤ 20 + 1000000000 * (i : Int)) ∧ δ = stSp n (.ow false (.lst L)) .un (.im (nD a)) (.im (.int w)) (.im (.int x)) (.im (nD G)) (.ow false (.lst (ss.map .int))) .un .un) ⟨[], sp, rfl, .nil, nofun, s0, by omega, fun _ => by omega, rfl⟩ ?_ ?_
    · rintro i δ hi ⟨ss, x, sl, su, sb, x0, x1, x2, rfl⟩
      refine hp_sturn w1 w2 aG hi hn sl x0 x1 x2 fun sp' step h1 h2 h3 h4 h5 s9 s10 => ⟨ss ++ [sp'], sp' + step, by simp [sl], ?_, fun y hy => ?_, by omega, by omega, fun hh => by have := h3 (by omega); omega, rfl⟩
      · rw [List.pairwise_append]
        refine ⟨su, List.pairwise_singleton _ _, fun z hz u hu => ?_⟩
        rw [List.mem_singleton.mp hu]
        have := sb z hz
        omega
      · rcases List.mem_append.mp hy with z | z
        · have := sb y z; omega
        · rw [List.mem_singleton.mp z]; omega
    · rintro δ ⟨ss, x, sl, su, sb, x0, x1, x2, rfl⟩
      refine ⟨_, _, rfl, q ss sl su fun y hy => ?_⟩
      have := sb y hy
      omega
  refine ⟨trivial, _, rfl, ?_⟩
  show if decide ((a : Int) < 2) = true then _ else _
  by_cases a2 : (a : Int) < 2
  · rw [if_pos (decide_eq_true a2)]
    refine ⟨_, _, rfl, _, rfl, nd1 0, _, rfl, by omega, Int.lt_of_le_of_lt (show (n : Int) + 1 ≤ 11 by omega) (by decide), fun G hG => ?_⟩
    simp only [pk0]
    exact ⟨_, _, rfl, fin G (.inl (by omega))⟩
  · rw [if_neg (by simpa using a2)]
    exact fin n (.inr rfl)
/-! ### _law_meeting -/
-- DEF _law_meeting N ['_law_deal_here', '_law_book', '_law_many', '_law_pace', '_law_hour', '_law_swift', '_law_shared', '_law_at', '_law_who', '_law_stands', '_law_group', '_law_kind', '_law_lead'] calls ['_law_part', '_law_draw'] takes []
def pb_lmeet_1 : PSx :=
    pSet 6 (pCall psp_lpart (pCons (pFz (pSub (pVar 3) (pIx (pVar 5) (pK (.int 0))))) (pCons (pFz (pVar 6)) (pNil))) noX)
def pe_lmeet_2 : PX :=
    pVar 11
def pr_lmeet_1 : PSx :=
    pExpr (pMt mAppend (pVar 9) (pCons (pSub (pVar 7) (pMul (pVar 12) (pVar 4))) (pNil)))
def pr_lmeet_2 : PSx :=
    pSeq (pSet 12 (pFdiv (pSub (pIx (pVar 5) (pVar 11)) (pIx (pVar 5) (pK (.int 0)))) (pC (q2 fMax2) (pCons (pK (.int 1)) (pCons (pVar 6) (pNil))))))
    (pr_lmeet_1)
def pb_lmeet_5 : PSx :=
    pSeq (pExpr (pMt mAppend (pVar 8) (pCons (pVar 11) (pNil))))
    (pr_lmeet_2)
def pr_lmeet_3 : PSx :=
    pSet 7 (pAdd (pAdd (pVar 7) (pMul (pAdd (pK (.int 2001)) (pCall psp_draw (pCons (pVar 0) (pCons (pFz (pK (.int 9))) (pNil))) noX)) (pVar 4))) (pK (.int 1)))
def pr_lmeet_4 : PSx :=
    pSeq (pFor [11, 12] (iSeq (pSlice (pVar 10) (oNone) (oSome (pSub (pVar 2) (pC (q1 fLen) (pCons (pVar 8) (pNil))))))) (gN 11) (pb_lmeet_5))
    (pr_lmeet_3)
def pb_lmeet_8 : PSx :=
    pSeq (pSet 10 (pOrL (pRevL (pComp (iRg (pCons (pC (q1 fLen) (pCons (pVar 5) (pNil))) (pNil))) (gN 11) (pT (pGt (pCall psp_draw (pCons (pVar 0) (pCons (pFz (pK (.int 3))) (pNil))) noX) (pK (.int 0)))) (pe_lmeet_2) [11])) (pLst (pCons (pK (.int 0)) (pNil)))))
    (pr_lmeet_4)
def pr_lmeet_5 : PSx :=
    pRet (pTup (pCons (pC (q1 fTupleOf) (pCons (pVar 8) (pNil))) (pCons (pC (q1 fTupleOf) (pCons (pVar 9) (pNil))) (pNil))))
def pr_lmeet_6 : PSx :=
    pSeq (pWhile [10, 11, 12] (pT (pLt (pC (q1 fLen) (pCons (pVar 8) (pNil))) (pVar 2))) (pb_lmeet_8))
    (pr_lmeet_5)
def pr_lmeet_7 : PSx :=
    pSeq (pPar [7, 8, 9] (pCons (pK (.int 0)) (pCons (pLst (pNil)) (pCons (pLst (pNil)) (pNil)))))
    (pr_lmeet_6)
def pr_lmeet_8 : PSx :=
    pSeq (pSet 4 (pAdd (pK (.int 1)) (pCall psp_draw (pCons (pVar 0) (pCons (pFz (pIx (pLst (pCons (pK (.int 3)) (pCons (pK (.int 60)) (pCons (pPow (pK (.int 10)) (pK (.int 6))) (pNil))))) (pCall psp_draw (pCons (pVar 0) (pCons (pFz (pK (.int 3))) (pNil))) noX))) (pNil))) noX)))
    (pr_lmeet_7)
def pr_lmeet_9 : PSx :=
    pSeq (pFor [3] (iSeq (pVar 5)) (gN 3) (pb_lmeet_1))
    (pr_lmeet_8)
def p_lmeet : PSx :=
    pSeq (pPar [5, 6] (pCons (pIx (pVar 1) (pK (.int 0))) (pCons (pK (.int 0)) (pNil))))
    (pr_lmeet_9)
abbrev pp (ps : List Int) (j : Nat) : Int := ps.getD j 0
def mxD (g : Nat) : Int := if (g : Int) > 1 then (g : Int) else 1
def ldM (ps : List Int) (g : Nat) (k : Nat) : Int := (pp ps k - pp ps 0) / mxD g
theorem mxD_b {g : Nat} (h : g ≤ 2000) : 1 ≤ mxD g ∧ mxD g ≤ 2000 := by unfold mxD; split <;> omega
theorem ld_b {m : Int} {ps : List Int} {g k : Nat} (pok : PacesOk m ps) (hk : k < ps.length) (h : g ≤ 2000) : 0 ≤ ldM ps g k ∧ ldM ps g k ≤ 2000 := by
  have d := mxD_b h
  have a := pok.lo _ (getDm (d := 0) hk)
  have b := pok.lo _ (getDm (d := 0) (show 0 < ps.length by omega))
  have c : pp ps 0 ≤ pp ps k := by
    rcases Nat.eq_zero_or_pos k with z | z
    · subst z; exact Int.le_refl _
    · exact Int.le_of_lt (up_get pok.rise z hk)
  unfold ldM
  have h1 : 0 ≤ pp ps k - pp ps 0 := by omega
  refine ⟨Int.ediv_nonneg h1 (by omega), Int.le_trans (Int.ediv_le_self _ h1) ?_⟩
  show ps.getD k 0 - ps.getD 0 0 ≤ 2000
  omega
theorem ld_lt {m : Int} {ps : List Int} {g i j : Nat} (pok : PacesOk m ps) (hd : ∀ t, t < ps.length → (g : Int) ∣ pp ps t - pp ps 0) (hij : i < j) (hj : j < ps.length) (h : g ≤ 2000) : ldM ps g i < ldM ps g j := by
  have d := mxD_b h
  have lt := up_get pok.rise hij hj
  have dv : mxD g ∣ pp ps j - pp ps 0 := by
    unfold mxD
    split
    · exact hd j hj
    · exact Int.one_dvd _
  obtain ⟨c, e⟩ := dv
  unfold ldM
  rw [e, Int.mul_ediv_cancel_left _ (by omega)]
  refine Int.ediv_lt_of_lt_mul (by omega) ?_
  rw [Int.mul_comm, ← e]
  show ps.getD i 0 - ps.getD 0 0 < ps.getD j 0 - ps.getD 0 0
  omega
abbrev stM (ps : List Int) (rest : List PyData) (n : Nat) (s3 s4 s6 s7 s8 s9 s10 s11 s12 : Sl) : List Sl := [.ow true .deal, .im (.tuple (dI ps :: rest)), .im (nD n), s3, s4, .im (dI ps), s6, s7, s8, s9, s10, s11, s12]
structure Mee (ps : List Int) (n : Nat) (h : Int) (ks : List Nat) (ss : List Int) (t : Int) : Prop where
  l : ss.length = ks.length
  n : ks.length ≤ n
  k : ∀ k ∈ ks, k < ps.length
  u : ss.Pairwise (· < ·)
  b : ∀ x ∈ ss, -(2000 * h) ≤ x ∧ x + 2000 * h < t
  t0 : 0 ≤ t
  t1 : t ≤ (ks.length : Int) * (2010 * h)
def stdM (ps : List Int) (g : Nat) (t h : Int) (k : Nat) : Int := t - ldM ps g k * h
theorem mee_step {m : Int} {ps : List Int} {n g : Nat} {h t d : Int} {ks gs : List Nat} {ss : List Int} (pok : PacesOk m ps) (hd : ∀ t, t < ps.length → (g : Int) ∣ pp ps t - pp ps 0) (g2 : g ≤ 2000) (h1 : 1 ≤ h) (M : Mee ps n h ks ss t) (gn : gs ≠ []) (gl : ks.length + gs.length ≤ n) (gk : ∀ k ∈ gs, k < ps.length) (gp : gs.Pairwise (fun a b => b < a)) (d0 : 0 ≤ d) (d8 : d ≤ 8) :
    Mee ps n h (ks ++ gs) (ss ++ gs.map (stdM ps g t h)) (t + (2001 + d) * h + 1) := by
  have st : ∀ k, k < ps.length → t - 2000 * h ≤ stdM ps g t h k ∧ stdM ps g t h k ≤ t := fun k hk => by
    have := ld_b pok hk g2
    have a := Int.mul_le_mul_of_nonneg_right this.2 (show 0 ≤ h by omega)
    have b := Int.mul_nonneg this.1 (show 0 ≤ h by omega)
    unfold stdM
    omega
  have dh : (2001 + d) * h ≤ 2009 * h := Int.mul_le_mul_of_nonneg_right (by omega) (by omega)
  have dh0 : 2001 * h ≤ (2001 + d) * h := Int.mul_le_mul_of_nonneg_right (by omega) (by omega)
  have gpos : 1 ≤ gs.length := List.length_pos_iff.mpr gn
  have t0 := M.t0
  refine ⟨by rw [List.length_append, List.length_append, List.length_map, M.l], by rw [List.length_append]; exact gl, fun k hk => ?_, ?_, fun x hx => ?_, by omega, ?_⟩
  · rcases List.mem_append.mp hk with z | z
    · exact M.k k z
    · exact gk k z
  · refine List.pairwise_append.mpr ⟨M.u, ?_, fun x hx y hy => ?_⟩
    · rw [List.pairwise_map]
      refine List.Pairwise.imp_of_mem ?_ gp
      intro a b ha hb hab
      have l := ld_lt pok hd hab (gk a ha) g2
      have := Int.mul_lt_mul_of_pos_right l (show 0 < h by omega)
      unfold stdM
      omega
    · obtain ⟨k, hk, rfl⟩ := List.mem_map.mp hy
      have := M.b x hx
      have := st k (gk k hk)
      omega
  · rcases List.mem_append.mp hx with z | z
    · have := M.b x z
      omega
    · obtain ⟨k, hk, rfl⟩ := List.mem_map.mp z
      have := st k (gk k hk)
      omega
  · have t1 := M.t1
    rw [List.length_append]
    have e : ((ks.length : Int) + 1) * (2010 * h) ≤ ((ks.length + gs.length : Nat) : Int) * (2010 * h) := Int.mul_le_mul_of_nonneg_right (by omega) (by omega)
    rw [Int.add_mul] at e
    omega
theorem mee_ok {m : Int} {ps : List Int} {n : Nat} {h t : Int} {ks : List Nat} {ss : List Int} (pok : PacesOk m ps) (m5 : m ≤ 5) (h1 : 1 ≤ h) (h2 : h ≤ 1000000) (M : Mee ps n h ks ss t) (n10 : n ≤ 10) : RdOk m ps ks ss where
  pac := pok
  m5 := m5
  kl := fun k hk => by have := M.k k hk; have := pok.len; omega
  n10 := by have := M.n; omega
  sl := M.l
  up := M.u
  lo := fun x hx => by
    have := M.b x hx
    have t1 := M.t1
    have := M.n
    have e : (ks.length : Int) * (2010 * h) ≤ 10 * (2010 * h) := Int.mul_le_mul_of_nonneg_right (by omega) (by omega)
    omega
theorem hp_mbody {E : PEn} {m : Int} {ps : List Int} {rest : List PyData} {n g k : Nat} {h t : Int} {ks : List Nat} {ss : List Int} {s10 : Sl} (pok : PacesOk m ps) (hk : k < ps.length) (g2 : g ≤ 2000) (h1 : 1 ≤ h) (h2 : h ≤ 1000000) (l1 : ks.length ≤ 100) (l2 : ss.length ≤ 100)
    (q : ∀ x12 : PyData, E.nx (stM ps rest n .un (.im (.int h)) (.im (nD g)) (.im (.int t)) (.ow false (.lst (dN (ks ++ [k])))) (.ow false (.lst ((ss ++ [stdM ps g t h k]).map .int))) s10 (.im (nD k)) (.im x12))) :
    pb_lmeet_5 E (stM ps rest n .un (.im (.int h)) (.im (nD g)) (.im (.int t)) (.ow false (.lst (dN ks))) (.ow false (.lst (ss.map .int))) s10 (.im (nD k)) .un) := by
  have pg : ∀ t, t < ps.length → (ps.map PyData.int)[t]? = some (.int (ps.getD t 0)) := fun t ht => by
    rw [List.getElem?_map, getI_of ht]; rfl
  have d := mxD_b g2
  refine ⟨_, _, _, rfl, rfl, _, _, _, _, rfl, rfl, by rw [dN_len]; exact szN (m := 100) l1 (by decide), ?_⟩
  show pr_lmeet_2 E (stM ps rest n .un (.im (.int h)) (.im (nD g)) (.im (.int t)) (.ow false (.lst (dN ks ++ [nD k]))) (.ow false (.lst (ss.map .int))) s10 (.im (nD k)) .un)
  rw [show dN ks ++ [nD k] = dN (ks ++ [k]) by rw [dN_app]; rfl]
  refine ⟨_, atI_of rfl (pg k hk), _, atI_of (j := 0) rfl (pg 0 (by omega)), trivial, wide_div (b := 12) (i := _) (j := mxD g) (by omega) (by omega) (by decide) (by decide), _, _, rfl, ?_⟩
  show pr_lmeet_1 E (stM ps rest n .un (.im (.int h)) (.im (nD g)) (.im (.int t)) (.ow false (.lst (dN (ks ++ [k])))) (.ow false (.lst (ss.map .int))) s10 (.im (nD k)) (.im (.int (ldM ps g k))))
  refine ⟨_, _, _, rfl, rfl, .inl (.inr ⟨by omega, by omega⟩), trivial, _, _, _, _, rfl, rfl, by rw [List.length_map]; exact szN (m := 100) l2 (by decide), ?_⟩
  have := q (.int (ldM ps g k))
  rw [List.map_append] at this
  exact this
theorem hp_mgroup {E : PEn} {m : Int} {ps : List Int} {rest : List PyData} {n g : Nat} {h t : Int} {ks gl : List Nat} {ss : List Int} (pok : PacesOk m ps) (n10 : n ≤ 10) (hd : ∀ t, t < ps.length → (g : Int) ∣ pp ps t - pp ps 0) (g2 : g ≤ 2000) (h1 : 1 ≤ h) (h2 : h ≤ 1000000) (M : Mee ps n h ks ss t) (lt : ks.length < n) (gn : gl ≠ []) (gk : ∀ k ∈ gl, k < ps.length) (gp : gl.Pairwise (fun a b => b < a))
    (q : ∀ ks' ss' t', ks.length < ks'.length → Mee ps n h ks' ss' t' → E.nx (stM ps rest n .un (.im (.int h)) (.im (nD g)) (.im (.int t')) (.ow false (.lst (dN ks'))) (.ow false (.lst (ss'.map .int))) (.ow false (.lst (dN gl))) .un .un)) :
    pr_lmeet_4 E (stM ps rest n .un (.im (.int h)) (.im (nD g)) (.im (.int t)) (.ow false (.lst (dN ks))) (.ow false (.lst (ss.map .int))) (.ow false (.lst (dN gl))) .un .un) := by
  have Ml := M.l
  have ec : (n : Int) - ((dN ks).length : Int) = ((n - ks.length : Nat) : Int) := by rw [dN_len]; omega
  have ecut : cutD (dN gl) none (some ((n : Int) - ((dN ks).length : Int))) = dN (gl.take (n - ks.length)) := by
    rw [ec, cut_take]
    show _ = (gl.take (n - ks.length)).map nD
    rw [List.map_take]
  refine ⟨trivial, _, rfl, _, _, _, rfl, rfl, ?_⟩
  rw [ecut]
  have gtl : (gl.take (n - ks.length)).length ≤ n - ks.length := by rw [List.length_take]; omega
  have gtn : gl.take (n - ks.length) ≠ [] := by
    intro z
    have z := congrArg List.length z
    rw [List.length_take] at z
    have z : min (n - ks.length) gl.length = 0 := z
    have := List.length_pos_iff.mpr gn
    omega
  have gtk : ∀ k ∈ gl.take (n - ks.length), k < ps.length := fun k hk => gk k (List.mem_of_mem_take hk)
  have gtp : (gl.take (n - ks.length)).Pairwise (fun a b => b < a) := gp.sublist (List.take_sublist _ _)
  generalize gl.take (n - ks.length) = gs at *
  refine for_dN gs (fun j δ => δ = stM ps rest n .un (.im (.int h)) (.im (nD g)) (.im (.int t)) (.ow false (.lst (dN (ks ++ gs.take j)))) (.ow false (.lst ((ss ++ (gs.take j).map (stdM ps g t h)).map .int))) (.ow false (.lst (dN gl))) .un .un) (by rw [List.take_zero, List.append_nil, List.map_nil, List.append_nil]; rfl) ?_ ?_
  · rintro j k δ hj rfl
    have hjl := (List.getElem?_eq_some_iff.mp hj).1
    have tk : gs.take (j + 1) = gs.take j ++ [k] := by rw [List.take_add_one, hj]; rfl
    refine hp_mbody pok (gtk k (List.mem_of_getElem? hj)) g2 h1 h2 (by rw [List.length_append, List.length_take]; omega) (by rw [List.length_append, List.length_map, List.length_take]; omega) fun x12 => ?_
    have ea : ks ++ gs.take j ++ [k] = ks ++ gs.take (j + 1) := by rw [tk, List.append_assoc]
    have eb : ss ++ (gs.take j).map (stdM ps g t h) ++ [stdM ps g t h k] = ss ++ (gs.take (j + 1)).map (stdM ps g t h) := by rw [tk, List.map_append, List.append_assoc]; rfl
    show wipeT (stM ps rest n .un (.im (.int h)) (.im (nD g)) (.im (.int t)) (.ow false (.lst (dN (ks ++ gs.take j ++ [k])))) (.ow false (.lst ((ss ++ (gs.take j).map (stdM ps g t h) ++ [stdM ps g t h k]).map .int))) (.ow false (.lst (dN gl))) (.im (nD k)) (.im x12)) [11, 12] = _
    rw [ea, eb]
    rfl
  · rintro δ rfl
    rw [List.take_length]
    show pr_lmeet_3 E (stM ps rest n .un (.im (.int h)) (.im (nD g)) (.im (.int t)) (.ow false (.lst (dN (ks ++ gs)))) (.ow false (.lst ((ss ++ gs.map (stdM ps g t h)).map .int))) (.ow false (.lst (dN gl))) .un .un)
    refine ⟨_, _, rfl, _, rfl, nd1 0, _, rfl, by decide, by decide, fun d hd' => ?_⟩
    simp only [pk0]
    refine ⟨.inl (.inr ⟨by omega, by omega⟩), _, _, rfl, ?_⟩
    have gpos := List.length_pos_iff.mpr gtn
    exact q _ _ _ (by rw [List.length_append]; omega) (mee_step pok hd g2 h1 M gtn (by omega) gtk gtp (d := (d : Int)) (by omega) (by omega))
theorem sel_hour {b : Nat} (hb : b < 3) : ∃ x : Int, atI [PyData.int 3, .int 60, .int (10 ^ (Int.toNat 6))] (b : Int) = some (.int x) ∧ 1 ≤ x ∧ x ≤ 1000000 := by
  match b, hb with
  | 0, _ => exact ⟨3, rfl, by decide, by decide⟩
  | 1, _ => exact ⟨60, rfl, by decide, by decide⟩
  | 2, _ => exact ⟨_, rfl, by decide, by decide⟩
def psp_lmeet : PSp := fun as Q _ => ∃ (m : Int) (ps : List Int) (rest : List PyData) (n : Nat), as = [.ow true .deal, .im (.tuple (dI ps :: rest)), .im (nD n)] ∧ PacesOk m ps ∧ 1 ≤ m ∧ m ≤ 5 ∧ n ≤ 10 ∧ ∀ (ks : List Nat) (ss : List Int), RdOk m ps ks ss → ks.length = n → Q (.im (.tuple [.tuple (dN ks), dK ss])) [.ow true .deal, .un, .un]
theorem hp_mwhile {E : PEn} {m : Int} {ps : List Int} {rest : List PyData} {n g : Nat} {h : Int} (pok : PacesOk m ps) (m1 : 1 ≤ m) (m5 : m ≤ 5) (n10 : n ≤ 10) (hd : ∀ t, t < ps.length → (g : Int) ∣ pp ps t - pp ps 0) (g2 : g ≤ 2000) (h1 : 1 ≤ h) (h2 : h ≤ 1000000)
    (q : ∀ (ks : List Nat) (ss : List Int) (t : Int), RdOk m ps ks ss → ks.length = n → E.rt (.im (.tuple [.tuple (dN ks), dK ss])) (stM ps rest n .un (.im (.int h)) (.im (nD g)) (.im (.int t)) (.ow false (.lst (dN ks))) (.ow false (.lst (ss.map .int))) .un .un .un)) :
    pr_lmeet_6 E (stM ps rest n .un (.im (.int h)) (.im (nD g)) (.im (.int 0)) (.ow false (.lst [])) (.ow false (.lst [])) .un .un .un) := by
  have pl := pok.len
  have z9 : (1000 : Nat) < sizeLine := by decide
  refine ⟨fun mm δ => ∃ (ks : List Nat) (ss : List Int) (t : Int), mm = n - ks.length ∧ Mee ps n h ks ss t ∧ δ = stM ps rest n .un (.im (.int h)) (.im (nD g)) (.im (.int t)) (.ow false (.lst (dN ks))) (.ow false (.lst (ss.map .int))) .un .un .un, ⟨n, [], [], 0, rfl, ⟨rfl, Nat.zero_le _, nofun, .nil, nofun, Int.le_refl _, by simp⟩, rfl⟩, ?_⟩
  rintro mm δ ⟨ks, ss, t, rfl, M, rfl⟩
  refine ⟨trivial, _, rfl, ?_⟩
  show if decide (((dN ks).length : Int) < (n : Int)) = true then _ else _
  have Mn := M.n
  by_cases c : ((dN ks).length : Int) < (n : Int)
  · rw [if_pos (decide_eq_true c)]
    rw [dN_len] at c
    refine ⟨?_, ?_, noPin1 (fun o => nofun), fun i acc δ => ∃ gs : List Nat, acc = dN gs ∧ gs.length ≤ i ∧ gs.Pairwise (· < ·) ∧ (∀ k ∈ gs, k < i) ∧ δ = stM ps rest n .un (.im (.int h)) (.im (nD g)) (.im (.int t)) (.ow false (.lst (dN ks))) (.ow false (.lst (ss.map .int))) .un .un .un, ⟨[], rfl, Nat.le_refl _, .nil, nofun, rfl⟩, ?_, ?_⟩
    · show (-2 ^ 62 : Int) ≤ ((ps.map PyData.int).length : Int)
      rw [List.length_map]; omega
    · show ((ps.map PyData.int).length : Int) < 2 ^ 62
      rw [List.length_map]; omega
    · rintro i d acc δ hi ⟨gs, rfl, gl, gp, gb, rfl⟩
      obtain ⟨rfl, hlt⟩ := rgD_get hi
      have hlt : i < ps.length := by rw [List.length_map] at hlt; omega
      refine ⟨_, _, rfl, _, rfl, nd1 0, _, rfl, by decide, by decide, fun b hb => ?_⟩
      simp only [pk0]
      refine ⟨trivial, _, rfl, ?_⟩
      show if decide ((0 : Int) < (b : Int)) = true then _ else _
      by_cases c2 : (0 : Int) < (b : Int)
      · rw [if_pos (decide_eq_true c2)]
        refine ⟨_, _, rfl, by rw [dN_len]; omega, gs ++ [i], ?_, by simp; omega, ?_, fun k hk => ?_, rfl⟩
        · rw [dN_app]
          show _ ++ [PyData.int (0 + (i : Int))] = _ ++ [nD i]
          rw [Int.zero_add]
        · rw [List.pairwise_append]
          refine ⟨gp, List.pairwise_singleton _ _, fun z hz u hu => ?_⟩
          rw [List.mem_singleton.mp hu]
          exact gb z hz
        · rcases List.mem_append.mp hk with z | z
          · have := gb k z; omega
          · rw [List.mem_singleton.mp z]; omega
      · rw [if_neg (by simpa using c2)]
        exact ⟨gs, rfl, by omega, gp, fun k hk => by have := gb k hk; omega, rfl⟩
    · rintro acc δ ⟨gs, rfl, gl, gp, gb, rfl⟩
      rw [rgD_len] at gb
      have gb : ∀ k ∈ gs, k < ps.length := fun k hk => by
        have := gb k hk
        rw [List.length_map] at this
        omega
      have fin : ∀ gl : List Nat, gl ≠ [] → (∀ k ∈ gl, k < ps.length) → gl.Pairwise (fun a b => b < a) → ∀ E' : PEn, (∀ ks' ss' t', ks.length < ks'.length → Mee ps n h ks' ss' t' → E'.nx (stM ps rest n .un (.im (.int h)) (.im (nD g)) (.im (.int t')) (.ow false (.lst (dN ks'))) (.ow false (.lst (ss'.map .int))) (.ow false (.lst (dN gl))) .un .un)) → pr_lmeet_4 E' (stM ps rest n .un (.im (.int h)) (.im (nD g)) (.im (.int t)) (.ow false (.lst (dN ks))) (.ow false (.lst (ss.map .int))) (.ow false (.lst (dN gl))) .un .un) :=
        fun gl g1 g3 g4 E' k => hp_mgroup pok n10 hd g2 h1 h2 M (by omega) g1 g3 g4 k
      have er : (dN gs).reverse = dN gs.reverse := by rw [dN, dN, List.map_reverse]
      refine ⟨_, rfl, _, _, rfl, rfl, ?_⟩
      show if (!(dN gs).reverse.isEmpty) = true then _ else _
      rw [er]
      have done : ∀ gl : List Nat, ∀ ks' ss' t', ks.length < ks'.length → Mee ps n h ks' ss' t' → ∃ m', m' < n - ks.length ∧ ∃ (ks2 : List Nat) (ss2 : List Int) (t2 : Int), m' = n - ks2.length ∧ Mee ps n h ks2 ss2 t2 ∧ wipeT (stM ps rest n .un (.im (.int h)) (.im (nD g)) (.im (.int t')) (.ow false (.lst (dN ks'))) (.ow false (.lst (ss'.map .int))) (.ow false (.lst (dN gl))) .un .un) [10, 11, 12] = stM ps rest n .un (.im (.int h)) (.im (nD g)) (.im (.int t2)) (.ow false (.lst (dN ks2))) (.ow false (.lst (ss2.map .int))) .un .un .un :=
        fun gl ks' ss' t' hl M' => ⟨n - ks'.length, by have := M'.n; omega, ks', ss', t', rfl, M', rfl⟩
      cases hg : gs.reverse with
      | nil =>
        rw [if_neg (by decide)]
        refine ⟨_, _, rfl, ?_⟩
        exact fin [0] (by simp) (fun k hk => by rw [List.mem_singleton.mp hk]; omega) (List.pairwise_singleton _ _) _ (done [0])
      | cons a l =>
        rw [if_pos (show (!(dN (a :: l)).isEmpty) = true from rfl)]
        refine ⟨_, _, rfl, ?_⟩
        refine fin (a :: l) (by simp) (fun k hk => gb k (List.mem_reverse.mp (by rw [hg]; exact hk))) ?_ _ (done (a :: l))
        rw [← hg, List.pairwise_reverse]
        exact gp
  · rw [if_neg (by simpa using c)]
    rw [dN_len] at c
    have en : ks.length = n := by omega
    exact ⟨_, _, rfl, q ks ss t (mee_ok pok m5 h1 h2 M n10) en⟩
theorem hp_lmeet (as : List Sl) (Qp : QE) (Ep : EX) (h : psp_lmeet as Qp Ep) : p_lmeet (endsP as Qp) (as ++ List.replicate 10 .un) := by
  obtain ⟨m, ps, rest, n, rfl, pok, m1, m5, n10, q⟩ := h
  have pl := pok.len
  refine ⟨_, atI_of (j := 0) rfl rfl, _, _, rfl, ?_⟩
  show pr_lmeet_9 _ (stM ps rest n .un .un (.im (nD 0)) .un .un .un .un .un .un)
  refine ⟨_, _, _, rfl, rfl, ?_⟩
  refine ⟨fun i δ => ∃ g : Nat, (∀ t, t < i → t < ps.length → (g : Int) ∣ pp ps t - pp ps 0) ∧ g ≤ 2000 ∧ δ = stM ps rest n .un .un (.im (nD g)) .un .un .un .un .un .un, ⟨0, fun t z => absurd z (Nat.not_lt_zero t), by decide, rfl⟩, ?_, ?_⟩
  · rintro i d δ hi ⟨g, hd, g2, rfl⟩
    rw [List.getElem?_map] at hi
    obtain ⟨x, hx, rfl⟩ := Option.map_eq_some_iff.mp hi
    have hil := (List.getElem?_eq_some_iff.mp hx).1
    have ex : pp ps i = x := by
      show ps.getD i 0 = x
      rw [List.getD_eq_getElem?_getD, hx]; rfl
    have up : pp ps 0 ≤ pp ps i := by
      rcases Nat.eq_zero_or_pos i with z | z
      · subst z; exact Int.le_refl _
      · exact Int.le_of_lt (up_get pok.rise z hil)
    have lo1 := pok.lo _ (getDm (d := 0) hil)
    have lo2 := pok.lo _ (getDm (d := 0) (show 0 < ps.length by omega))
    have ed : x - pp ps 0 = ((x - pp ps 0).toNat : Int) := by omega
    generalize hdd : (x - pp ps 0).toNat = dd at ed
    have dd2 : dd ≤ 2000 := by
      have lo1 : -1000 ≤ pp ps i ∧ pp ps i ≤ 1000 := lo1
      have lo2 : -1000 ≤ pp ps 0 ∧ pp ps 0 ≤ 1000 := lo2
      omega
    have g0 : (ps.map PyData.int)[0]? = some (.int (pp ps 0)) := by rw [List.getElem?_map, getI_of (show 0 < ps.length by omega)]; rfl
    refine ⟨_, atI_of (j := 0) rfl g0, trivial, _, _, rfl, _, _, rfl, _, rfl, List.nodup_nil, dd, g, ?_, _, _, rfl, Nat.gcd dd g, fun t ht hl => ?_, ?_, rfl⟩
    · show [Sl.im (.int (x - pp ps 0)), .im (nD g)] = _
      rw [ed]
    · rcases Nat.lt_or_eq_of_le (Nat.le_of_lt_succ ht) with z | z
      · exact Int.dvd_trans (Int.natCast_dvd_natCast.mpr (Nat.gcd_dvd_right dd g)) (hd t z hl)
      · subst z
        rw [ex, ed]
        exact Int.natCast_dvd_natCast.mpr (Nat.gcd_dvd_left dd g)
    · rcases Nat.eq_zero_or_pos g with z | z
      · subst z; rw [Nat.gcd_zero_right]; exact dd2
      · exact Nat.le_trans (Nat.gcd_le_right dd z) g2
  · rintro δ ⟨g, hd, g2, rfl⟩
    rw [List.length_map] at hd
    show pr_lmeet_8 _ (stM ps rest n .un .un (.im (nD g)) .un .un .un .un .un .un)
    refine ⟨⟨by decide, by decide, by decide⟩, _, _, rfl, _, rfl, nd1 0, _, rfl, by decide, by decide, fun b hb => ?_⟩
    simp only [pk0]
    obtain ⟨y, ey, y1, y2⟩ := sel_hour (b := b) (by omega)
    refine ⟨_, ey, _, _, rfl, _, rfl, nd1 0, _, rfl, by omega, Int.lt_of_le_of_lt y2 (by decide), fun c hc => ?_⟩
    simp only [pk0]
    refine ⟨_, _, rfl, ?_⟩
    show pr_lmeet_7 _ (stM ps rest n .un (.im (.int (1 + (c : Int)))) (.im (nD g)) .un .un .un .un .un .un)
    refine ⟨_, _, rfl, ?_⟩
    exact hp_mwhile pok m1 m5 n10 (fun t ht => hd t ht ht) g2 (by omega) (by omega) fun ks ss t rd en => q ks ss rd en
/-! ### _law_setting -/
-- DEF _law_setting N ['_law_deal_here', '_law_book', '_law_many'] calls ['_law_draw', '_law_meeting', '_law_spots', '_law_kinds'] takes []
def pr_lsetting_1 : PSx :=
    pRet (pTup (pCons (pCall psp_lkinds3 (pCons (pVar 0) (pCons (pFz (pVar 1)) (pCons (pFz (pVar 2)) (pNil)))) noX) (pCons (pCall psp_lspots3 (pCons (pVar 0) (pCons (pFz (pVar 2)) (pNil))) noX) (pNil))))
def pr_lsetting_2 : PSx :=
    pSeq (pIf (pT (pEq false (pCall psp_draw (pCons (pVar 0) (pCons (pFz (pK (.int 2))) (pNil))) noX) (pK (.int 0)))) (pRet (pCall psp_lmeet (pCons (pVar 0) (pCons (pFz (pVar 1)) (pCons (pFz (pVar 2)) (pNil)))) noX)) (pNext))
    (pr_lsetting_1)
def p_lsetting : PSx :=
    pSeq (pSet 2 (pIx (pLst (pCons (pCall psp_draw (pCons (pVar 0) (pCons (pFz (pK (.int 4))) (pNil))) noX) (pCons (pCall psp_draw (pCons (pVar 0) (pCons (pFz (pK (.int 11))) (pNil))) noX) (pNil)))) (pCall psp_draw (pCons (pVar 0) (pCons (pFz (pK (.int 2))) (pNil))) noX)))
    (pr_lsetting_2)
def psp_lsetting : PSp := fun as Q _ => ∃ (m : Int) (ps : List Int) (rest : List PyData), as = [.ow true .deal, .im (.tuple (dI ps :: rest))] ∧ PacesOk m ps ∧ 1 ≤ m ∧ m ≤ 5 ∧ ∀ (ks : List Nat) (ss : List Int), RdOk m ps ks ss → Q (.im (.tuple [.tuple (dN ks), dK ss])) [.ow true .deal, .un]
theorem sel_many {a b c : Nat} (hc : c < 2) (ha : a < 4) (hb : b < 11) : ∃ x : Nat, atI [nD a, nD b] (c : Int) = some (nD x) ∧ x ≤ 10 := by
  match c, hc with
  | 0, _ => exact ⟨a, rfl, by omega⟩
  | 1, _ => exact ⟨b, rfl, by omega⟩
theorem hp_lsetting (as : List Sl) (Qp : QE) (Ep : EX) (h : psp_lsetting as Qp Ep) : p_lsetting (endsP as Qp) (as ++ List.replicate 1 .un) := by
  obtain ⟨m, ps, rest, rfl, pok, m1, m5, q⟩ := h
  have pl := pok.len
  refine ⟨_, _, rfl, _, rfl, nd1 0, _, rfl, by decide, by decide, fun a ha => ?_⟩
  simp only [pk0]
  refine ⟨_, _, rfl, _, rfl, nd1 0, _, rfl, by decide, by decide, fun b hb => ?_⟩
  simp only [pk0]
  refine ⟨_, _, rfl, _, rfl, nd1 0, _, rfl, by decide, by decide, fun c hc => ?_⟩
  simp only [pk0]
  obtain ⟨n, en, n10⟩ := sel_many (a := a) (b := b) (c := c) (by omega) (by omega) (by omega)
  refine ⟨_, en, _, _, rfl, ?_⟩
  show pr_lsetting_2 _ [.ow true .deal, .im (.tuple (dI ps :: rest)), .im (nD n)]
  refine ⟨_, _, rfl, _, rfl, nd1 0, _, rfl, by decide, by decide, fun e he => ?_⟩
  simp only [pk0]
  refine ⟨_, rfl, ?_⟩
  show if decide ((e : Int) = 0) = true then _ else _
  by_cases c0 : (e : Int) = 0
  · rw [if_pos (decide_eq_true c0)]
    exact ⟨_, _, rfl, _, _, rfl, _, rfl, nd1 0, m, ps, rest, n, rfl, pok, m1, m5, n10, fun ks ss rd en => ⟨_, _, rfl, q ks ss rd⟩⟩
  · rw [if_neg (by simpa using c0)]
    refine ⟨_, _, rfl, _, _, rfl, _, rfl, nd1 0, ps, rest, n, rfl, by omega, by omega, by omega, fun ks kl kb => ?_⟩
    refine ⟨_, _, rfl, _, rfl, nd1 0, n, rfl, n10, fun ss sl su sb => ?_⟩
    exact ⟨_, _, rfl, q ks ss ⟨pok, m5, fun k hk => by have := kb k hk; omega, by omega, by omega, su, sb⟩⟩
end Pv
/-! A comprehension over a list of one's own that stays one's own. -/
namespace Pv
open PySem PySem.Spec L2 Wf
variable {B : Bas}
def pCompB (b0 : Nat) (g : PGx) (tt : PB) (elt : PX) (vs : List Nat) : PX := fun δ Q => ∃ pin ds, δ[b0]? = some (.ow pin (.lst ds)) ∧ b0 ∉ vs ∧ noPin δ vs ∧ ∃ I : Nat → List PyData → List Sl → Prop, (∀ i acc δ', I i acc δ' → ∃ p, δ'[b0]? = some (.ow p (.lst ds))) ∧ I 0 [] (wipeS δ vs) ∧
  (∀ (i : Nat) d acc δ, ds[i]? = some d → I i acc δ → g d δ fun δ2 => tt δ2 fun b δ3 => if b = true then elt δ3 fun r δ4 => ∃ e δ5, fz δ4 r = some (e, δ5) ∧ acc.length < sizeLine ∧ I (i + 1) (acc ++ [e]) (wipeS δ5 vs) else I (i + 1) acc (wipeS δ3 vs)) ∧ ∀ acc δ', I ds.length acc δ' → Q (.ow (.lst acc)) (restS δ δ' vs)
theorem lc_liftB {K : PySem.W.Frag} {b0 : Nat} {ts vs : List Nat} {g : PGx} {tt : PB} {elt : PX} {σ : St} {H : Hp} {Q : VK} (hts : ∀ i ∈ ts, i ∈ vs) (h : LE K B (pCompB b0 g tt elt vs) σ H Q) : tLc (iSeqU K (tVar b0)) (LG K B ts g) (LB K B tt) (LE K B elt) vs σ H Q := by
  obtain ⟨G, w, δ, Qp, rep, q, k⟩ := h
  obtain ⟨pin, ds, hb0, bv, np, I, iI, i0, is, ie⟩ := q
  obtain ⟨a0, us0, ha0, hw0, hH0, hd0⟩ := rep.own hb0
  refine ⟨.ref a0, ha0, a0, rfl, .inl ⟨⟨us0, SqL.of hH0⟩, fun D hD => ?_⟩⟩
  have s1 : Stp B.T G H w δ G H w δ := .refl
  have rep1 := rep
  have now : ∀ {G' H' : Hp} {w' : Addr → Option Nat} {δ' : List Sl} {acc : List PyData} {i : Nat}, Rep K B G' H' (wipe σ vs) δ' [.ref D] [.ow (.lst acc)] w' → I i acc δ' → ∃ us, H' a0 = some (.lst us) ∧ DqAll K G' us ds := fun {G' H' w' δ' acc i} r q => by
    obtain ⟨p, hp⟩ := iI _ _ _ q
    obtain ⟨a, us, h1, _, h3, h4⟩ := r.own hp
    rw [wipe_ne bv, ha0] at h1
    cases h1
    exact ⟨us, h3, h4⟩
  obtain ⟨w2, s2, r2⟩ := rep1.retLst (us := []) (ds := []) hD .nil
  have noA : ∀ acc : List PyData, ∀ p ∈ [R.ow (.lst acc)], isAt p = false := fun acc p hp => by rw [List.mem_singleton.mp hp]; rfl
  have ni : ∀ (i : Nat) o, δ[i]? = some (Sl.ow true o) → i ∉ vs := fun i o hi => by
    obtain ⟨o1, h1⟩ := s1.pn i o hi
    exact fun z => np i z o1 h1
  have pnw : ∀ {G' H' : Hp} {w' : Addr → Option Nat} {δ' : List Sl}, Stp B.T G H w δ G' H' w' δ' → Stp B.T G H w δ G' H' w' (wipeS δ' vs) := fun s => s.reδ fun i o hi => by
    obtain ⟨o1, h1⟩ := s.pn i o hi
    exact ⟨o1, by rw [wipeS_ne (ni i o hi)]; exact h1⟩
  refine ⟨fun i m H' => m = ds.length - i ∧ i ≤ ds.length ∧ ∃ G' w' δ' acc, Stp B.T G H w δ G' H' w' δ' ∧ Same G G' ∧ Rep K B G' H' (wipe σ vs) δ' [.ref D] [.ow (.lst acc)] w' ∧ I i acc δ', ⟨ds.length, rfl, Nat.zero_le _, G, w2, wipeS δ vs, [], pnw (s1.trans s2), fun _ _ h => h, r2.reσ (by rw [wipe_length, wipeS_len]; exact r2.len) (fun i s hi => ?_) (noA _), i0⟩, ?_⟩
  · rcases wipeS_get hi with e | ⟨e1, e2⟩
    · exact .inl e
    · exact .inr ⟨e1, wipe_ne e2⟩
  rintro i m H' ⟨rfl, hi, G', w', δ', acc, st, sg, rp, q⟩
  by_cases hlt : i < ds.length
  · obtain ⟨usn, hHn, hdn⟩ := now rp q
    have q := is i _ acc δ' (List.getElem?_eq_getElem hlt) q
    refine .inr ⟨⟨usn, usn[i]'(by have := dqAll_len hdn; omega), SqL.of hHn, by simp⟩, fun H2 => i + 1 ≤ ds.length ∧ ∃ G' w' δ' acc, Stp B.T G H w δ G' H2 w' δ' ∧ Same G G' ∧ Rep K B G' H2 (wipe σ vs) δ' [.ref D] [.ow (.lst acc)] w' ∧ I (i + 1) acc δ', fun H2 z => ⟨ds.length - (i + 1), by omega, rfl, z⟩, fun x H2 y => ?_⟩
    obtain ⟨rfl, y⟩ := y
    obtain ⟨v, hv, hq0⟩ := dqAll_get hdn (List.getElem?_eq_getElem hlt)
    have ev := y usn (SqL.of hHn)
    rw [hv] at ev
    cases ev
    obtain ⟨G2, s2, r2, hq⟩ := rp.res (Res.old hq0)
    refine ⟨G2, _, δ', _, _, r2.drop, hq, q, fun δ3 σ3 H3 G3 w3 q3 s3 r3 p3 t3 => ⟨wipe_eq t3 hts, ?_⟩⟩
    obtain ⟨w4, s4, r4⟩ := r2.frameS (noA _) s3 r3
    have back : ∀ {G9 H9 : Hp} {w9 : Addr → Option Nat} {δ9 : List Sl} {acc9 : List PyData}, Rep K B G9 H9 σ3 δ9 [.ref D] [.ow (.lst acc9)] w9 → Rep K B G9 H9 (wipe σ vs) (wipeS δ9 vs) [.ref D] [.ow (.lst acc9)] w9 := fun {G9 H9 w9 δ9 acc9} r9 => by
      refine r9.reσ ?_ (fun k s hk => ?_) (noA _)
      · rw [wipe_length, wipeS_len, ← r9.len, t3.1, wipe_length]
      · rcases wipeS_get hk with e | ⟨e1, e2⟩
        · exact .inl e
        · exact .inr ⟨e1, (t3.2 k fun z => e2 (hts k z)).symm⟩
    refine ⟨G3, _, δ3, _, r4.drop, q3, fun b δ5 H5 G5 w5 q5 s5 r5 => ?_⟩
    obtain ⟨w6, s6, r6⟩ := r4.frame s5 r5
    have st6 := ((st.trans s2).trans s4).trans s6
    have sg6 : Same G G5 := fun a o ha => s6.g a o (s4.g a o (s2.g a o (sg a o ha)))
    cases b with
    | false => exact ⟨hlt, G5, w6, _, acc, pnw st6, sg6, back r6, q5⟩
    | true =>
      refine ⟨G5, _, δ5, _, r6.drop, q5, fun r δ7 y H7 G7 w7 q7 s7 r7 => ?_⟩
      obtain ⟨w8, s8, r8⟩ := r6.frame s7 r7
      obtain ⟨e, δ9, hz, hl, q7⟩ := q7
      obtain ⟨G9, w9, s9, r9⟩ := r8.fz1 (j := 1) rfl rfl hz
      have r9' : Rep K B G9 H7 σ3 δ9 [.ref D, y] [.ow (.lst acc), .im e] w9 := r9
      have hy : Dq K G9 y e := r9'.tm 1 y (.im e) rfl rfl
      obtain ⟨a, us, ea, ma, ha, hus⟩ := r9'.tm 0 (.ref D) (.ow (.lst acc)) rfl rfl
      cases ea
      obtain ⟨us2, h2, h3, s10, r10⟩ := r9'.wrT (dqAll_append hus (.cons hy .nil))
      refine ⟨us, ha, by rw [dqAll_len hus]; exact hl, hlt, G9, w9, _, acc ++ [e], pnw (((st6.trans s8).trans s9).trans s10), fun a o h => s9.g a o (s8.g a o (sg6 a o h)), back r10.first, q7⟩
  · have ei : i = ds.length := by omega
    subst ei
    obtain ⟨usn, hHn, hdn⟩ := now rp q
    refine .inl ⟨⟨usn, SqL.of hHn, by rw [dqAll_len hdn]; exact Nat.le_refl _⟩, k _ _ _ H' G' w' (ie acc δ' q) (st.reδ fun j o hj => ?_) ⟨rp.sub, rp.out, by rw [restS_len, ← rp.len, wipe_length], fun j s hj => ?_, rp.tlen, fun j v p hv hp => (rp.tm j v p hv hp).noAt (noA _ p (List.mem_of_getElem? hp)), rp.bs⟩⟩
    · obtain ⟨o1, h1⟩ := st.pn j o hj
      exact ⟨o1, by rw [restS_ne (ni j o hj)]; exact h1⟩
    · by_cases hm : j ∈ vs
      · rcases restS_in hm hj with rfl | ⟨d, rfl, e0⟩
        · trivial
        · obtain ⟨v, hv, hd⟩ := rep1.sl j _ e0
          exact ⟨v, hv, dp_mono sg _ _ hd⟩
      · rw [restS_ne hm] at hj
        have := rp.sl j s hj
        rwa [wipe_ne hm] at this
section
variable {X : Cx}
theorem js_setLcB {i b0 : Nat} {y : Str} {py : Pos} {elt tg iter : Expr} {ifs : List Expr} {scope : Scope} {own : List (Str × Nat)} {pos spos : Pos} {ts : List Nat} {g : PGx} {tt : PB} {pe : PX} (hc : X.calm = true) (hN : X.N.Nodup) (hy : X.N[i]? = some y) (hyl : X.env.scope.names.lookup y = some .local)
    (hsw : swapsWith (.ListComp elt [⟨tg, iter, ifs, 0⟩] scope pos) (some (.Name y py)) spos.line X.env = pure true) (hi : PE X iter (tVar b0)) (ok : BlkOk X.N X.env.scope scope own)
    (hg : ∀ (s : Shared) (H : Hp) (C : Addr) (cl : List (Str × Addr)) (fp : List Addr), JG (X.blk s H scope (compEnvC scope cl C X.env) fp) B tg ts g) (ht : ∀ (s : Shared) (H : Hp) (C : Addr) (cl : List (Str × Addr)) (fp : List Addr), JTs (X.blk s H scope (compEnvC scope cl C X.env) fp) B ifs tt)
    (he : ∀ (s : Shared) (H : Hp) (C : Addr) (cl : List (Str × Addr)) (fp : List Addr), JE (X.blk s H scope (compEnvC scope cl C X.env) fp) B elt pe) (hts : ∀ i ∈ ts, i ∈ own.map (·.2) := by decide) (hs : ∀ x, foldedSetIterable iter X.env x = pure x := by intro _; rfl) :
    JS X B (.Assign [.Name y py] (.ListComp elt [⟨tg, iter, ifs, 0⟩] scope pos) spos) (pSet i (pCompB b0 g tt pe (own.map (·.2)))) := PS_wk (ps_setLc (g := LG X.K B ts g) (tt := LB X.K B tt) (te := LE X.K B pe) hc hN hy hyl hsw (pi_seqU hi) ok hg ht he hs) fun D σ H h => lc_liftB hts (set_lift h)
end
end Pv
namespace Pv
open PySem PySem.Spec L2 Wf
/-! The law's own passings. -/
/-! ### _law_sooner -/
-- DEF _law_sooner N ['_law_one', '_law_other', '_law_kinds_here', '_law_mine', '_law_i', '_law_j', '_law_a', '_law_b', '_law_upper', '_law_lower', '_law_high', '_law_low'] calls [] takes []
def pr_lsooner_1 : PSx :=
    pRet (pGtT (pVar 3) (pTup (pCons (pIx (pVar 2) (pVar 6)) (pCons (pIx (pVar 2) (pVar 7)) (pCons (pSub (pK (.int 0)) (pVar 6)) (pCons (pSub (pK (.int 0)) (pVar 7)) (pNil)))))))
def pr_lsooner_2 : PSx :=
    pSeq (pSet 3 (pTup (pCons (pIx (pVar 2) (pVar 4)) (pCons (pIx (pVar 2) (pVar 5)) (pCons (pSub (pK (.int 0)) (pVar 4)) (pCons (pSub (pK (.int 0)) (pVar 5)) (pNil)))))))
    (pr_lsooner_1)
def pr_lsooner_3 : PSx :=
    pSeq (pIf (pT (pEq true (pMul (pVar 8) (pVar 11)) (pMul (pVar 10) (pVar 9)))) (pRet (pLt (pMul (pVar 8) (pVar 11)) (pMul (pVar 10) (pVar 9)))) (pNext))
    (pr_lsooner_2)
def pr_lsooner_4 : PSx :=
    pSeq (pAsg (pVar 1) (gT 3 (gsC (gT 2 (gsC (gN 10) (gsC (gN 11) (gsN)))) (gsC (gN 6) (gsC (gN 7) (gsN))))))
    (pr_lsooner_3)
def p_lsooner : PSx :=
    pSeq (pAsg (pVar 0) (gT 3 (gsC (gT 2 (gsC (gN 8) (gsC (gN 9) (gsN)))) (gsC (gN 4) (gsC (gN 5) (gsN))))))
    (pr_lsooner_4)
abbrev m2D (m : Mt) : PyData := .tuple [.tuple [nD m.1, nD m.2.1], nD m.2.2.1, nD m.2.2.2]
instance soonMDec (ks : List Nat) (a b : Mt) : Decidable (soonM ks a b) := by unfold soonM soonK; infer_instance
def psp_lsooner : PSp := fun as Q _ => ∃ (ks : List Nat) (a b : Mt), as = [.im (m2D a), .im (m2D b), .im (.tuple (dN ks))] ∧ (a.1 < 2 ^ 63 ∧ b.1 < 2 ^ 63) ∧ (a.2.2.1 < ks.length ∧ a.2.2.2 < ks.length ∧ b.2.2.1 < ks.length ∧ b.2.2.2 < ks.length) ∧ Q (.im (.bool (decide (soonM ks a b)))) [.un, .un, .un]
theorem hp_lsooner (as : List Sl) (Qp : QE) (Ep : EX) (h : psp_lsooner as Qp Ep) : p_lsooner (endsP as Qp) (as ++ List.replicate 9 .un) := by
  obtain ⟨ks, ⟨a1, a2, i, j⟩, ⟨b1, b2, k, l⟩, rfl, ⟨ha, hb⟩, ⟨hi, hj, hk, hl⟩, q⟩ := h
  have ha : a1 < 2 ^ 63 := ha
  have hb : b1 < 2 ^ 63 := hb
  refine ⟨_, _, rfl, rfl, rfl, rfl, rfl, ?_⟩
  refine ⟨_, _, rfl, rfl, rfl, rfl, rfl, ?_⟩
  have c1 : CMu (a1 : Int) (b2 : Int) := .inl (.inl ⟨by omega, by omega⟩)
  have c2 : CMu (b1 : Int) (a2 : Int) := .inl (.inl ⟨by omega, by omega⟩)
  refine ⟨c1, c2, _, rfl, ?_⟩
  show if (!decide ((a1 : Int) * (b2 : Int) = (b1 : Int) * (a2 : Int))) = true then _ else _
  have n1 : ((a1 * b2 : Nat) : Int) = (a1 : Int) * (b2 : Int) := Int.natCast_mul _ _
  have n2 : ((b1 * a2 : Nat) : Int) = (b1 : Int) * (a2 : Int) := Int.natCast_mul _ _
  by_cases e : (a1 : Int) * (b2 : Int) = (b1 : Int) * (a2 : Int)
  · rw [if_neg (by rw [decide_eq_true e]; decide)]
    refine ⟨_, atI_of rfl (dN_get (getD_of hi)), _, atI_of rfl (dN_get (getD_of hj)), trivial, trivial, _, _, rfl, ?_⟩
    refine ⟨_, atI_of rfl (dN_get (getD_of hk)), _, atI_of rfl (dN_get (getD_of hl)), trivial, trivial, [((ks.getD i 0 : Nat) : Int), ((ks.getD j 0 : Nat) : Int), 0 - (i : Int), 0 - (j : Int)], [((ks.getD k 0 : Nat) : Int), ((ks.getD l 0 : Nat) : Int), 0 - (k : Int), 0 - (l : Int)], rfl, rfl, _, _, rfl, ?_⟩
    rw [lexG4]
    have q' := q
    rw [show decide (soonM ks (a1, a2, i, j) (b1, b2, k, l)) = decide (((ks.getD k 0 : Nat) : Int) < ((ks.getD i 0 : Nat) : Int) ∨ ((ks.getD i 0 : Nat) : Int) = ((ks.getD k 0 : Nat) : Int) ∧ (((ks.getD l 0 : Nat) : Int) < ((ks.getD j 0 : Nat) : Int) ∨ ((ks.getD j 0 : Nat) : Int) = ((ks.getD l 0 : Nat) : Int) ∧ (0 - (k : Int) < 0 - (i : Int) ∨ 0 - (i : Int) = 0 - (k : Int) ∧ 0 - (l : Int) < 0 - (j : Int)))) by
      rw [decide_eq_decide]
      unfold soonM soonK
      dsimp only
      omega] at q'
    exact q'
  · rw [if_pos (by rw [decide_eq_false e]; rfl)]
    refine ⟨c1, c2, trivial, _, _, rfl, ?_⟩
    have q' := q
    rw [show decide (soonM ks (a1, a2, i, j) (b1, b2, k, l)) = decide ((a1 : Int) * (b2 : Int) < (b1 : Int) * (a2 : Int)) by
      rw [decide_eq_decide]
      unfold soonM
      dsimp only
      omega] at q'
    exact q'
/-- in lowest terms the sooner is the same -/
def redM (m : Mt) : Mt := (m.1 / Nat.gcd m.1 m.2.1, m.2.1 / Nat.gcd m.1 m.2.1, m.2.2.1, m.2.2.2)
theorem soon_red {ks : List Nat} {a b : Mt} (ga : 1 ≤ a.2.1) (gb : 1 ≤ b.2.1) : soonM ks (redM a) (redM b) ↔ soonM ks a b := by
  obtain ⟨a1, a2, i, j⟩ := a
  obtain ⟨b1, b2, k, l⟩ := b
  unfold soonM redM
  dsimp only at *
  have pa := Nat.gcd_pos_of_pos_right a1 ga
  have pb := Nat.gcd_pos_of_pos_right b1 gb
  obtain ⟨x, ex⟩ := Nat.gcd_dvd_left a1 a2
  obtain ⟨y, ey⟩ := Nat.gcd_dvd_right a1 a2
  obtain ⟨z, ez⟩ := Nat.gcd_dvd_left b1 b2
  obtain ⟨u, eu⟩ := Nat.gcd_dvd_right b1 b2
  generalize Nat.gcd a1 a2 = c at *
  generalize Nat.gcd b1 b2 = d at *
  subst ex ey ez eu
  rw [Nat.mul_div_cancel_left _ pa, Nat.mul_div_cancel_left _ pa, Nat.mul_div_cancel_left _ pb, Nat.mul_div_cancel_left _ pb]
  have e1 : c * x * (d * u) = c * d * (x * u) := Nat.mul_mul_mul_comm _ _ _ _
  have e2 : d * z * (c * y) = c * d * (z * y) := by rw [Nat.mul_mul_mul_comm, Nat.mul_comm d c]
  have pc : 0 < c * d := Nat.mul_pos pa pb
  rw [e1, e2, Nat.mul_lt_mul_left pc, Nat.mul_right_inj (by omega)]
end Pv
namespace Pv
open PySem PySem.Spec L2 Wf
/-! ### _law_passings -/
-- DEF _law_passings N ['_law_book', '_law_kinds_here', '_law_spots_here', '_law_i', '_law_found', '_law_paces', '_law_j', '_law_way', '_law_gain', '_law_part_here', '_law_one', '_law_sooner_here', '_law_other'] calls ['_law_part', '_law_sooner'] takes []
def pe_lpass30_1 : PX :=
    pVar 12
def pr_lpass30_1 : PSx :=
    pExpr (pMt mInsert (pVar 4) (pCons (pC (q1 fLen) (pCons (pVar 11) (pNil))) (pCons (pVar 10) (pNil))))
def pr_lpass30_2 : PSx :=
    pSeq (pSet 11 (pCompB 4 (gN 12) (pT (pCall psp_lsooner (pCons (pFz (pVar 12)) (pCons (pFz (pVar 10)) (pCons (pFz (pVar 1)) (pNil)))) noX)) (pe_lpass30_1) [12]))
    (pr_lpass30_1)
def pr_lpass30_3 : PSx :=
    pSeq (pSet 10 (pTup (pCons (pTup (pCons (pFdiv (pVar 7) (pVar 9)) (pCons (pFdiv (pVar 8) (pVar 9)) (pNil)))) (pCons (pVar 3) (pCons (pVar 6) (pNil))))))
    (pr_lpass30_2)
def pr_lpass30_4 : PSx :=
    pSeq (pSet 9 (pCall psp_lpart (pCons (pFz (pVar 7)) (pCons (pFz (pVar 8)) (pNil))) noX))
    (pr_lpass30_3)
def pr_lpass30_5 : PSx :=
    pSeq (pSet 8 (pSub (pIx (pVar 5) (pIx (pVar 1) (pVar 3))) (pIx (pVar 5) (pIx (pVar 1) (pVar 6)))))
    (pr_lpass30_4)
def pb_lpass30_7 : PSx :=
    pIf (pT (pGt (pIx (pVar 1) (pVar 3)) (pIx (pVar 1) (pVar 6)))) (pSeq (pSet 7 (pSub (pIx (pVar 2) (pVar 6)) (pIx (pVar 2) (pVar 3))))
    (pr_lpass30_5)) (pNext)
def pb_lpass30_8 : PSx :=
    pFor [6, 7, 8, 9, 10, 11] (iRg (pCons (pAdd (pVar 3) (pK (.int 1))) (pCons (pC (q1 fLen) (pCons (pVar 2) (pNil))) (pNil)))) (gN 6) (pb_lpass30_7)
def pr_lpass30_6 : PSx :=
    pRet (pVar 4)
def pr_lpass30_7 : PSx :=
    pSeq (pFor [3, 6, 7, 8, 9, 10, 11] (iRg (pCons (pC (q1 fLen) (pCons (pVar 2) (pNil))) (pNil))) (gN 3) (pb_lpass30_8))
    (pr_lpass30_6)
def p_lpass30 : PSx :=
    pSeq (pPar [4, 5] (pCons (pLst (pNil)) (pCons (pIx (pVar 0) (pK (.int 0))) (pNil))))
    (pr_lpass30_7)
def psp_lpass30 : PSp := fun as Q _ => ∃ (m : Int) (ps : List Int) (rest : List PyData) (ks : List Nat) (ss : List Int), as = [.im (.tuple (dI ps :: rest)), .im (.tuple (dN ks)), .im (dK ss)] ∧ RdOk m ps ks ss ∧ Q (.ow (.lst ((thL ps ks ss).map (pasD ps ks ss)))) [.un, .un, .un]
abbrev stLp (ps : List Int) (rest : List PyData) (ks : List Nat) (ss : List Int) (s3 : Sl) (L : List Ev) (s6 s7 s8 s9 s10 s11 : Sl) : List Sl := [.im (.tuple (dI ps :: rest)), .im (.tuple (dN ks)), .im (dK ss), s3, .ow false (.lst (L.map (pasD ps ks ss))), .im (dI ps), s6, s7, s8, s9, s10, s11, .un]
abbrev putT (ps : List Int) (ks : List Nat) (ss : List Int) : List Ev → Ev → List Ev := putE (kf ks) (pf ps ks) (sf ss)
theorem hp_lpe {E : PEn} {m : Int} {ps : List Int} {rest : List PyData} {ks : List Nat} {ss : List Int} {L : List Ev} {i j : Nat} (ok : RdOk m ps ks ss) (he : IsEv ks.length (kf ks) i j) (hL : ∀ f ∈ L, IsEv ks.length (kf ks) f.1 f.2) (ll : L.length ≤ 100)
    (q : ∀ x7 x8 x9 x10 : PyData, ∀ l11 : List PyData, E.nx (stLp ps rest ks ss (.im (nD i)) (putT ps ks ss L (i, j)) (.im (nD j)) (.im x7) (.im x8) (.im x9) (.im x10) (.ow false (.lst l11)))) :
    pb_lpass30_7 E (stLp ps rest ks ss (.im (nD i)) L (.im (nD j)) .un .un .un .un .un) := by
  have hi : i < ks.length := by have := he.1; have := he.2.1; omega
  have hj := he.2.1
  have gi := dN_get (getD_of hi)
  have gj := dN_get (getD_of hj)
  have sg : ∀ t, t < ks.length → (ss.map PyData.int)[t]? = some (.int (ss.getD t 0)) := fun t ht => by
    rw [List.getElem?_map, getI_of (by rw [ok.sl]; exact ht)]; rfl
  have pg : ∀ t, t < ks.length → (ps.map PyData.int)[ks.getD t 0]? = some (.int (ps.getD (ks.getD t 0) 0)) := fun t ht => by
    rw [List.getElem?_map, getI_of (ok.kp ht)]; rfl
  obtain ⟨w1, w2, w3, w4⟩ := ok.ev (e := (i, j)) he
  have mk := ok.mok (e := (i, j)) he
  refine ⟨_, atI_of rfl gi, _, atI_of rfl gj, trivial, _, rfl, ?_⟩
  show if decide (((ks.getD j 0 : Nat) : Int) < ((ks.getD i 0 : Nat) : Int)) = true then _ else _
  have hk : ks.getD j 0 < ks.getD i 0 := he.2.2
  rw [if_pos (decide_eq_true (by omega))]
  refine ⟨_, atI_of rfl (sg j hj), _, atI_of rfl (sg i hi), trivial, _, _, rfl, ?_⟩
  show pr_lpass30_5 E (stLp ps rest ks ss (.im (nD i)) L (.im (nD j)) (.im (.int (wy (sf ss) (i, j)))) .un .un .un .un)
  have ew : wy (sf ss) (i, j) = (((mE ps ks ss (i, j)).1 : Nat) : Int) := by
    show _ = (((wy (sf ss) (i, j)).toNat : Nat) : Int)
    omega
  rw [ew]
  refine ⟨_, atI_of rfl gi, _, atI_of rfl (pg i hi), _, atI_of rfl gj, _, atI_of rfl (pg j hj), trivial, _, _, rfl, ?_⟩
  show pr_lpass30_4 E (stLp ps rest ks ss (.im (nD i)) L (.im (nD j)) (.im (nD (mE ps ks ss (i, j)).1)) (.im (.int (gp (pf ps ks) (i, j)))) .un .un .un)
  have eg : gp (pf ps ks) (i, j) = (((mE ps ks ss (i, j)).2.1 : Nat) : Int) := by
    show _ = (((gp (pf ps ks) (i, j)).toNat : Nat) : Int)
    omega
  rw [eg]
  refine ⟨_, _, rfl, _, _, rfl, _, rfl, List.nodup_nil, (mE ps ks ss (i, j)).1, (mE ps ks ss (i, j)).2.1, rfl, _, _, rfl, ?_⟩
  show pr_lpass30_3 E (stLp ps rest ks ss (.im (nD i)) L (.im (nD j)) (.im (nD (mE ps ks ss (i, j)).1)) (.im (nD (mE ps ks ss (i, j)).2.1)) (.im (nD (Nat.gcd (mE ps ks ss (i, j)).1 (mE ps ks ss (i, j)).2.1))) .un .un)
  have cd : ∀ x : Int, CDivW x ((Nat.gcd (mE ps ks ss (i, j)).1 (mE ps ks ss (i, j)).2.1 : Nat) : Int) := fun x => cd_gcd mk.g1 mk.g2
  refine ⟨cd _, cd _, _, _, rfl, ?_⟩
  have et : PyData.tuple [.tuple [.int (((mE ps ks ss (i, j)).1 : Int) / ((Nat.gcd (mE ps ks ss (i, j)).1 (mE ps ks ss (i, j)).2.1 : Nat) : Int)), .int (((mE ps ks ss (i, j)).2.1 : Int) / ((Nat.gcd (mE ps ks ss (i, j)).1 (mE ps ks ss (i, j)).2.1 : Nat) : Int))], nD i, nD j] = pasD ps ks ss (i, j) := by
    rw [← Int.natCast_ediv, ← Int.natCast_ediv]
    rfl
  show pr_lpass30_2 E (stLp ps rest ks ss (.im (nD i)) L (.im (nD j)) (.im (nD (mE ps ks ss (i, j)).1)) (.im (nD (mE ps ks ss (i, j)).2.1)) (.im (nD (Nat.gcd (mE ps ks ss (i, j)).1 (mE ps ks ss (i, j)).2.1))) (.im (.tuple [.tuple [.int (((mE ps ks ss (i, j)).1 : Int) / ((Nat.gcd (mE ps ks ss (i, j)).1 (mE ps ks ss (i, j)).2.1 : Nat) : Int)), .int (((mE ps ks ss (i, j)).2.1 : Int) / ((Nat.gcd (mE ps ks ss (i, j)).1 (mE ps ks ss (i, j)).2.1 : Nat) : Int))], nD i, nD j])) .un)
  rw [et]
  have sb : ∀ f ∈ L, decide (soonM ks (redM (mE ps ks ss f)) (redM (mE ps ks ss (i, j)))) = soonB (kf ks) (pf ps ks) (sf ss) f (i, j) := fun f hf => by
    unfold soonB
    rw [decide_eq_decide, soon_red (ok.mok (hL f hf)).g1 mk.g1, soon_mE ok (hL f hf) he]
  refine ⟨false, _, rfl, by decide, noPin1 (fun o => nofun), fun t acc δ => acc = ((L.take t).filter fun f => soonB (kf ks) (pf ps ks) (sf ss) f (i, j)).map (pasD ps ks ss) ∧ δ = stLp ps rest ks ss (.im (nD i)) L (.im (nD j)) (.im (nD (mE ps ks ss (i, j)).1)) (.im (nD (mE ps ks ss (i, j)).2.1)) (.im (nD (Nat.gcd (mE ps ks ss (i, j)).1 (mE ps ks ss (i, j)).2.1))) (.im (pasD ps ks ss (i, j))) .un, fun t acc δ' h => ⟨false, by rw [h.2]; rfl⟩, ⟨rfl, rfl⟩, ?_, ?_⟩
  · rintro t d acc δ hd ⟨rfl, rfl⟩
    rw [List.getElem?_map] at hd
    obtain ⟨f, hf, rfl⟩ := Option.map_eq_some_iff.mp hd
    have fm := List.mem_of_getElem? hf
    have fe := hL f fm
    have fk := ok.mok fe
    have tk : L.take (t + 1) = L.take t ++ [f] := by rw [List.take_add_one, hf]; rfl
    have fi : f.1 < ks.length := by have := fe.1; have := fe.2.1; omega
    refine ⟨_, _, rfl, _, _, rfl, _, _, rfl, _, rfl, List.nodup_nil, ks, redM (mE ps ks ss f), redM (mE ps ks ss (i, j)), rfl, ⟨Nat.lt_of_le_of_lt (Nat.div_le_self _ _) fk.w, Nat.lt_of_le_of_lt (Nat.div_le_self _ _) mk.w⟩, ⟨fi, fe.2.1, hi, hj⟩, _, rfl, ?_⟩
    show if decide (soonM ks (redM (mE ps ks ss f)) (redM (mE ps ks ss (i, j)))) = true then _ else _
    rw [sb f fm]
    by_cases c : soonB (kf ks) (pf ps ks) (sf ss) f (i, j) = true
    · rw [if_pos c]
      refine ⟨_, _, rfl, ?_, ?_, rfl⟩
      · rw [List.length_map]
        have := List.length_filter_le (fun f => soonB (kf ks) (pf ps ks) (sf ss) f (i, j)) (L.take t)
        rw [List.length_take] at this
        exact szN (m := 100) (by omega) (by decide)
      · have f1 : [f].filter (fun f => soonB (kf ks) (pf ps ks) (sf ss) f (i, j)) = [f] := List.filter_cons_of_pos (by exact c)
        rw [tk, List.filter_append, f1, List.map_append]
        rfl
    · rw [if_neg c]
      refine ⟨?_, rfl⟩
      have f1 : [f].filter (fun f => soonB (kf ks) (pf ps ks) (sf ss) f (i, j)) = [] := List.filter_cons_of_neg (by exact c)
      rw [tk, List.filter_append, f1, List.append_nil]
  · rintro acc δ ⟨rfl, rfl⟩
    rw [List.length_map, List.take_length]
    refine ⟨_, _, rfl, ?_⟩
    have fl := List.length_filter_le (fun f => soonB (kf ks) (pf ps ks) (sf ss) f (i, j)) L
    have ep : putT ps ks ss L (i, j) = L.take (L.filter fun f => soonB (kf ks) (pf ps ks) (sf ss) f (i, j)).length ++ (i, j) :: L.drop (L.filter fun f => soonB (kf ks) (pf ps ks) (sf ss) f (i, j)).length := rfl
    generalize hF : (L.filter fun f => soonB (kf ks) (pf ps ks) (sf ss) f (i, j)) = F at *
    refine ⟨_, _, _, rfl, rfl, _, _, _, _, rfl, rfl, ?_, ?_, ?_, ?_⟩
    · rw [List.length_map]; exact szN (m := 100) ll (by decide)
    · show (0 : Int) ≤ ((F.map (pasD ps ks ss)).length : Int)
      omega
    · show ((F.map (pasD ps ks ss)).length : Int) < 2 ^ 63
      rw [List.length_map]; omega
    · have q := q (nD (mE ps ks ss (i, j)).1) (nD (mE ps ks ss (i, j)).2.1) (nD (Nat.gcd (mE ps ks ss (i, j)).1 (mE ps ks ss (i, j)).2.1)) (pasD ps ks ss (i, j)) (F.map (pasD ps ks ss))
      have eq2 : (putT ps ks ss L (i, j)).map (pasD ps ks ss) = (L.map (pasD ps ks ss)).take (((F.map (pasD ps ks ss)).length : Int)).toNat ++ [pasD ps ks ss (i, j)] ++ (L.map (pasD ps ks ss)).drop (((F.map (pasD ps ks ss)).length : Int)).toNat := by
        rw [ep, List.map_append, List.map_cons, List.map_take, List.map_drop, List.length_map, Int.toNat_natCast]
        simp
      unfold stLp at q
      rw [eq2] at q
      exact q
theorem hp_lpass30 (as : List Sl) (Qp : QE) (Ep : EX) (h : psp_lpass30 as Qp Ep) : p_lpass30 (endsP as Qp) (as ++ List.replicate 10 .un) := by
  obtain ⟨m, ps, rest, ks, ss, rfl, ok, q⟩ := h
  have n10 := ok.n10
  have R := ok.rod
  have sl := ok.sl
  have bl : ((ss.map PyData.int).length : Int) = (ks.length : Int) := by rw [List.length_map, sl]
  refine ⟨_, atI_of (j := 0) rfl rfl, _, _, rfl, ?_⟩
  show pr_lpass30_7 _ (stLp ps rest ks ss .un [] .un .un .un .un .un .un)
  -- all that is put in so far
  have prop : ∀ es : List Ev, (∀ f ∈ es, IsEv ks.length (kf ks) f.1 f.2) → es.Nodup → (∀ f ∈ es.foldl (putT ps ks ss) [], IsEv ks.length (kf ks) f.1 f.2) ∧ (es.foldl (putT ps ks ss) []).length = es.length := fun es he nd => by
    have := (puts_ok R (es := es) (l := []) .nil (fun _ h => nomatch h) he (fun _ _ h => nomatch h) nd).2
    rw [List.append_nil] at this
    exact ⟨fun f hf => he f (this.mem_iff.mp hf), this.length_eq⟩
  have evO : ∀ i, i ≤ ks.length → ∀ f ∈ evD ks.length (kf ks) i, IsEv ks.length (kf ks) f.1 f.2 := fun i hi f hf => by
    refine mem_evs.mp ?_
    unfold evD at hf
    unfold evs evD
    simp only [List.mem_flatMap, List.mem_range] at hf ⊢
    obtain ⟨t, ht, h2⟩ := hf
    exact ⟨t, by omega, h2⟩
  refine ⟨by rw [bl]; omega, by rw [bl]; omega, ?_⟩
  refine for_rg ks.length bl (fun i δ => δ = stLp ps rest ks ss .un ((evD ks.length (kf ks) i).foldl (putT ps ks ss) []) .un .un .un .un .un .un) rfl ?_ ?_
  · rintro i δ hi rfl
    refine ⟨⟨by omega, by omega, by rw [bl]; omega, by rw [bl]; omega⟩, ?_⟩
    have ei : ((i : Int) + 1) = ((i + 1 : Nat) : Int) := rfl
    rw [ei]
    refine for_rg2 (i + 1) ks.length bl (by omega) (fun j δ => δ = stLp ps rest ks ss (.im (nD i)) ((evD ks.length (kf ks) i ++ evI ks.length (kf ks) i j).foldl (putT ps ks ss) []) .un .un .un .un .un .un) (by rw [evI_small (Nat.le_refl _), List.append_nil]; rfl) ?_ ?_
    · rintro j δ h1 h2 rfl
      have es := @evI_succ ks.length (kf ks) i j (by omega)
      have es' : ∀ f ∈ evD ks.length (kf ks) i ++ evI ks.length (kf ks) i j, IsEv ks.length (kf ks) f.1 f.2 := fun f hf => by
        rcases List.mem_append.mp hf with z | z
        · exact evO i (by omega) f z
        · have := mem_evI.mp z
          obtain ⟨e1, e2, e3, e4⟩ := this
          subst e1
          exact ⟨e2, by omega, e4⟩
      have nd : (evD ks.length (kf ks) i ++ evI ks.length (kf ks) i j).Nodup := List.nodup_append.mpr ⟨evD_nodup i, evI_nodup i j, fun a ha b hb z => by
        subst z
        have h1 := mem_evD ha
        have h2 := (mem_evI.mp hb).1
        omega⟩
      obtain ⟨pr1, pr2⟩ := prop _ es' nd
      have len : (evD ks.length (kf ks) i ++ evI ks.length (kf ks) i j).length ≤ 100 := by
        rw [List.length_append]
        have a1 := @evD_le ks.length (kf ks) i
        have a2 := @evI_le ks.length (kf ks) i j
        have a3 : i * ks.length ≤ 9 * ks.length := Nat.mul_le_mul_right _ (by omega)
        omega
      by_cases c : ks.getD j 0 < ks.getD i 0
      · rw [if_pos c] at es
        refine hp_lpe (i := i) (j := j) ok ⟨by omega, h2, c⟩ pr1 (by omega) fun x7 x8 x9 x10 l11 => ?_
        show wipeT (stLp ps rest ks ss (.im (nD i)) (putT ps ks ss ((evD ks.length (kf ks) i ++ evI ks.length (kf ks) i j).foldl (putT ps ks ss) []) (i, j)) (.im (nD j)) (.im x7) (.im x8) (.im x9) (.im x10) (.ow false (.lst l11))) [6, 7, 8, 9, 10, 11] = _
        rw [es, ← List.append_assoc, List.foldl_append (l' := [(i, j)])]
        rfl
      · rw [if_neg c] at es
        refine ⟨_, atI_of rfl (dN_get (getD_of hi)), _, atI_of rfl (dN_get (getD_of h2)), trivial, _, rfl, ?_⟩
        show if decide (((ks.getD j 0 : Nat) : Int) < ((ks.getD i 0 : Nat) : Int)) = true then _ else _
        rw [if_neg (fun z => c (by have := of_decide_eq_true z; omega))]
        show wipeT (stLp ps rest ks ss (.im (nD i)) ((evD ks.length (kf ks) i ++ evI ks.length (kf ks) i j).foldl (putT ps ks ss) []) (.im (nD j)) .un .un .un .un .un) [6, 7, 8, 9, 10, 11] = _
        rw [es]
        rfl
    · rintro δ rfl
      rw [← evD_succ]
      rfl
  · rintro δ rfl
    exact ⟨_, _, rfl, q⟩
end Pv
namespace Pv
open PySem PySem.Spec L2 Wf
/-! ### law 31 -/
theorem pk31 {s0 s1 s2 s : Sl} {b : Bool} {d : PyData} {δ : List Sl} : putB (s0 :: s1 :: s2 :: .ow b .deal :: δ) [.at 3, .im d] [.ow true .deal, s] = s0 :: s1 :: s2 :: .ow b .deal :: δ := rfl
/-! ### _law_beats -/
-- DEF _law_beats N ['_law_deal_here', '_law_found', '_law_beats_here', '_law_turn', '_law_upper', '_law_lower'] calls ['_law_draw'] takes []
/-! ### _law_right -/
-- DEF _law_right N ['_law_book_here', '_law_row', '_law_spots_here', '_law_found', '_law_hour', '_law_kinds_here', '_law_due', '_law_word', '_law_order', '_law_walker', '_law_kind', '_law_burden'] calls ['_law_order_by', '_law_word_by', '_law_alike', 'word_by', 'order_by', 'spots_by', '_law_led', 'row_by'] takes []
/-! ### law -/
-- DEF law N ['_law_script', '_law_book_here', '_law_turn', '_law_deal_here', '_law_asked', '_law_row', '_law_found', '_law_kinds_here', '_law_spots_here', '_law_kind', '_law_hour'] calls ['_law_deal', '_law_book', '_law_draw', '_law_setting', '_law_passings', '_law_beats', '_law_right'] takes []
end Pv
namespace Pv
open PySem PySem.Spec L2 Wf
/-! ### the beat at which all is settled -/
theorem ceil_one {a b c d : Int} (b0 : 0 < b) (c1 : (c - 1) * b < a) (c2 : a ≤ c * b) (d1 : (d - 1) * b < a) (d2 : a ≤ d * b) : c = d := by
  rcases Int.lt_trichotomy c d with z | z | z
  · have := Int.mul_le_mul_of_nonneg_right (show c ≤ d - 1 by omega) (show (0 : Int) ≤ b by omega)
    omega
  · exact z
  · have := Int.mul_le_mul_of_nonneg_right (show d ≤ c - 1 by omega) (show (0 : Int) ≤ b by omega)
    omega
theorem ceil_le {a b c t : Int} (b0 : 0 < b) (c1 : (c - 1) * b < a) (h : a ≤ t * b) : c ≤ t := by
  rcases Int.lt_or_le t c with z | z
  · have := Int.mul_le_mul_of_nonneg_right (show t ≤ c - 1 by omega) (show (0 : Int) ≤ b by omega)
    omega
  · exact z
theorem ceil_neg {a b : Int} (b0 : 0 < b) : (-((-a) / b) - 1) * b < a ∧ a ≤ -((-a) / b) * b := by
  have h1 := Int.ediv_mul_le (-a) (show b ≠ 0 by omega)
  have h2 := Int.lt_ediv_add_one_mul_self (-a) b0
  rw [Int.add_mul, Int.one_mul] at h2
  rw [Int.sub_mul, Int.neg_mul, Int.one_mul]
  constructor <;> omega
theorem ceil_law {a b : Int} (b0 : 0 < b) : (a / b + (if a / b * b < a then 1 else 0) - 1) * b < a ∧ a ≤ (a / b + (if a / b * b < a then 1 else 0)) * b := by
  have h1 := Int.ediv_mul_le a (show b ≠ 0 by omega)
  have h2 := Int.lt_ediv_add_one_mul_self a b0
  rw [Int.add_mul, Int.one_mul] at h2
  generalize a / b = q at *
  by_cases c : q * b < a
  · rw [if_pos c, Int.add_sub_cancel, Int.add_mul, Int.one_mul]
    omega
  · rw [if_neg c, Int.add_zero, Int.sub_mul, Int.one_mul]
    omega
abbrev loA (ps : List Int) (ks : List Nat) (ss : List Int) (e : Ev) : Nat := (mE ps ks ss e).1 / Nat.gcd (mE ps ks ss e).1 (mE ps ks ss e).2.1
abbrev loB (ps : List Int) (ks : List Nat) (ss : List Int) (e : Ev) : Nat := (mE ps ks ss e).2.1 / Nat.gcd (mE ps ks ss e).1 (mE ps ks ss e).2.1
/-- the least beat at which it is done -/
def clE (ps : List Int) (ks : List Nat) (ss : List Int) (e : Ev) : Int := (loA ps ks ss e : Int) / (loB ps ks ss e : Int) + (if (loA ps ks ss e : Int) / (loB ps ks ss e : Int) * (loB ps ks ss e : Int) < (loA ps ks ss e : Int) then 1 else 0)
section
variable {m : Int} {ps ss : List Int} {ks : List Nat}
theorem loB_pos (ok : RdOk m ps ks ss) {e : Ev} (ev : IsEv ks.length (kf ks) e.1 e.2) : 1 ≤ loB ps ks ss e ∧ loB ps ks ss e ≤ 2000 := by
  have mk := ok.mok ev
  have g0 := Nat.gcd_pos_of_pos_right (mE ps ks ss e).1 mk.g1
  exact ⟨(Nat.le_div_iff_mul_le g0).mpr (by rw [Nat.one_mul]; exact Nat.gcd_le_right _ mk.g1), Nat.le_trans (Nat.div_le_self _ _) mk.g2⟩
theorem stl_last (ok : RdOk m ps ks ss) {L' : List Ev} {e : Ev} (h : thL ps ks ss = L' ++ [e]) : stlT ps ks ss = clE ps ks ss e ∧ IsEv ks.length (kf ks) e.1 e.2 := by
  have EL : EvL ks.length (kf ks) (pf ps ks) (sf ss) (thL ps ks ss) := theL_ok ok.rod
  have ev : IsEv ks.length (kf ks) e.1 e.2 := (EL.mem e).mp (by rw [h]; simp)
  have b0 : (0 : Int) < (loB ps ks ss e : Int) := by have := (loB_pos ok ev).1; omega
  refine ⟨?_, ev⟩
  unfold stlT
  rw [h, List.getLast?_concat]
  have h1 := ceil_neg (a := (loA ps ks ss e : Int)) b0
  have h2 := ceil_law (a := (loA ps ks ss e : Int)) b0
  exact ceil_one b0 h1.1 h1.2 h2.1 h2.2
theorem cl_le (ok : RdOk m ps ks ss) {e : Ev} (he : e ∈ thL ps ks ss) : clE ps ks ss e ≤ stlT ps ks ss := by
  have EL : EvL ks.length (kf ks) (pf ps ks) (sf ss) (thL ps ks ss) := theL_ok ok.rod
  have ev : IsEv ks.length (kf ks) e.1 e.2 := (EL.mem e).mp he
  have b0 : (0 : Int) < (loB ps ks ss e : Int) := by have := (loB_pos ok ev).1; omega
  have d := stl_all ok e he
  rw [← done_mE ok ev] at d
  exact ceil_le b0 (ceil_law (a := (loA ps ks ss e : Int)) b0).1 (of_decide_eq_true d)
theorem stl_nn (ok : RdOk m ps ks ss) : 0 ≤ stlT ps ks ss := by
  rcases List.eq_nil_or_concat (thL ps ks ss) with h | ⟨L', e, h⟩
  · unfold stlT
    rw [h]
    exact Int.le_refl _
  · rw [List.concat_eq_append] at h
    rw [(stl_last ok h).1]
    have b0 : (0 : Int) < (loB ps ks ss e : Int) := by have := (loB_pos ok (stl_last ok h).2).1; omega
    unfold clE
    have := Int.ediv_nonneg (show (0 : Int) ≤ (loA ps ks ss e : Int) by omega) (Int.le_of_lt b0)
    split <;> omega
/-- a beat earlier they are in another order -/
theorem not_yet (ok : RdOk m ps ks ss) (h : 0 < stlT ps ks ss) : ordT ps ks ss (stlT ps ks ss - 1) ≠ ordT ps ks ss (stlT ps ks ss) := by
  intro e
  have EL := theL_ok ok.rod
  rcases List.eq_nil_or_concat (thL ps ks ss) with h0 | ⟨L', f, h0⟩
  · unfold stlT at h
    rw [h0] at h
    exact absurd h (Int.lt_irrefl 0)
  · rw [List.concat_eq_append] at h0
    have hl := stl_last ok h0
    have ev := hl.2
    have b0 : (0 : Int) < (loB ps ks ss f : Int) := by have := (loB_pos ok ev).1; omega
    have i1 := (ord_inv ok.rod EL (stlT ps ks ss)).iv f.1 f.2 ev.1 ev.2.1
    have i2 := (ord_inv ok.rod EL (stlT ps ks ss - 1)).iv f.1 f.2 ev.1 ev.2.1
    have d1 : doneB (pf ps ks) (sf ss) (stlT ps ks ss) (f.1, f.2) = true := stl_all ok f (by rw [h0]; simp)
    have a1 := i1.mpr ⟨ev, d1⟩
    have e' : ordB ks.length (pf ps ks) (sf ss) (thL ps ks ss) (stlT ps ks ss - 1) = ordB ks.length (pf ps ks) (sf ss) (thL ps ks ss) (stlT ps ks ss) := e
    unfold thL at e' i1 i2 a1
    rw [← e'] at a1
    have d2 := (i2.mp a1).2
    have d2 : doneB (pf ps ks) (sf ss) (stlT ps ks ss - 1) f = true := d2
    rw [← done_mE ok ev] at d2
    have d2 : (loA ps ks ss f : Int) ≤ (stlT ps ks ss - 1) * (loB ps ks ss f : Int) := of_decide_eq_true d2
    have c1 : (clE ps ks ss f - 1) * (loB ps ks ss f : Int) < (loA ps ks ss f : Int) := (ceil_law (a := (loA ps ks ss f : Int)) b0).1
    rw [hl.1] at d2
    omega
theorem one_ofL {α : Type} {R : α → α → Prop} : ∀ {l m : List α}, (∀ a ∈ l, ∀ b ∈ l, R a b → R b a → a = b) → l.Perm m → l.Pairwise R → m.Pairwise R → l = m
  | [], m, _, h, _, _ => h.nil_eq
  | a :: l, [], _, h, _, _ => absurd h.length_eq (by simp)
  | a :: l, b :: m, as, h, h1, h2 => by
    have p1 := List.pairwise_cons.mp h1
    have p2 := List.pairwise_cons.mp h2
    have e : a = b := by
      have ha : a ∈ b :: m := h.mem_iff.mp List.mem_cons_self
      have hb : b ∈ a :: l := h.mem_iff.mpr List.mem_cons_self
      rcases List.mem_cons.mp ha with e | ha
      · exact e
      rcases List.mem_cons.mp hb with e | hb
      · exact e.symm
      exact as a List.mem_cons_self b (List.mem_cons_of_mem _ hb) (p1.1 b hb) (p2.1 a ha)
    subst e
    rw [one_ofL (fun x hx y hy => as x (List.mem_cons_of_mem _ hx) y (List.mem_cons_of_mem _ hy)) h.cons_inv p1.2 p2.2]
/-- the last order: by kinds, then by numbers -/
theorem last_one (ok : RdOk m ps ks ss) {o : List Nat} (pm : o.Perm (List.range ks.length)) (so : o.Pairwise fun a b => kf ks a < kf ks b ∨ kf ks a = kf ks b ∧ a ≤ b) : o = ordT ps ks ss (stlT ps ks ss) := by
  have EL := theL_ok ok.rod
  refine one_ofL (R := fun a b => kf ks a < kf ks b ∨ kf ks a = kf ks b ∧ a ≤ b) (fun a _ b _ h1 h2 => by omega) (pm.trans (ord_perm ok.rod EL (stlT ps ks ss)).symm) so ?_
  refine (ord_last ok.rod EL (stl_all ok)).imp fun {a b} h => ?_
  omega
end
end Pv
/-! list(zip(t, range(n))), t a tuple of n things -/
namespace Wf
open PySem PySem.Spec L2 RZ
section
variable {prog : Program} {w : World} {A : Around} {E : Value → Shared → Prop} {s : Shared}
theorem nextOf_range_item {it : Addr} {x left step : Int} {Q : Value → Shared → Prop} (h : IsRangeIter s.heap it x left step) (hl : 0 < left)
    (hQ : ∀ h', IsRangeIter h' it (x + step) (left - 1) step → Heap.SameBut it s.heap h' → Q (.int x s.toks) { s with heap := h', toks := s.toks + 1 }) : wpAny (model prog w) A (Builtin.SmallTypes.nextOf (.ref it)) Q E s := by
  have hT : s.TypeIs (.ref it) "range_iterator" := ⟨_, h, rfl⟩
  unfold Builtin.SmallTypes.nextOf
  refine wpAny_bind (wpAny_callSpecial?_slot (name := Str.ofString "__next__") hT F.slot_range_iterator_next (wpAny_call_entry F.slot_range_iterator_next hT F.entry_range_iterator_next ?_ (F.args_range_iterator_next_1 _)))
  have h' : (Shared.heap s).get? it = some { cls := .type "range_iterator", data := .fields #[rawInt x, rawInt left, rawInt step] } := h
  have hl' : ¬ left ≤ 0 := by omega
  unfold Builtin.«range_iterator.__next__»
  wp_walk
  refine ⟨_, rfl, wpAny_pure (hQ _ ?_ ?_)⟩
  · have h1 := Heap.get?_update_self (Obj.mapFields fun y => y.setIfInBounds 0 (rawInt (x + step))) h rfl
    exact Heap.get?_update_self (Obj.mapFields fun y => y.setIfInBounds 1 (rawInt (left - 1))) h1 rfl
  · exact (Heap.SameBut.update _ _ _).trans (Heap.SameBut.update _ _ _)
/-- the next pair of a zip whose tuple is out -/
theorem nextOutR {z TI TO i1 i2 l1 l2 a : Addr} {k : Nat} {b : Bool} {oa : Obj} {xs : Array Value} {x : Value} {y0 left : Int} {Q : Option Value → Shared → Prop} (D : ZipApart z TI TO i1 i2 l1 l2)
    (hz : s.heap.get? z = some (zObj (rawInt a) b TI TO)) (ha : s.heap.get? a = some oa) (hTI : IsPair s.heap TI (.ref i1) (.ref i2))
    (h1 : s.heap.IsTupleIter i1 l1 k) (h2 : IsRangeIter s.heap i2 y0 left 1) (hl1 : s.heap.IsTuple l1 xs) (hl : 0 < left) (hx : xs[k]? = some x)
    (hQ : ∀ h' tk t, h'.get? z = some (zObj (rawInt a) true TI TO) → h'.IsTupleIter i1 l1 (k + 1) → IsRangeIter h' i2 (y0 + 1) (left - 1) 1 → IsPair h' s.heap.objs.size x (.int y0 t) → h'.objs.size = s.heap.objs.size + 1 →
      (∀ c o, c ≠ z → c ≠ i1 → c ≠ i2 → s.heap.get? c = some o → h'.get? c = some o) → Q (some (.ref s.heap.objs.size)) { s with heap := h', toks := tk }) : wpAny (model prog w) A (pyNext (.ref z)) Q E s := by
  have hT : s.TypeIs (.ref z) "zip" := ⟨_, hz, rfl⟩
  unfold pyNext
  refine wpAny_bind (wpAny_attempt (wpAny_callSpecial?_slot (name := Str.ofString "__next__") hT F.slot_zip_next (wpAny_call_entry F.slot_zip_next hT F.entry_zip_next ?_ (F.args_zip_next_1 _))))
  show wpAny _ _ (field (.ref z) 2 >>= _) _ _ _
  refine wpAny_bind (wpAny_field hz rfl (x := .bool false) rfl ?_)
  show wpAny _ _ (field (.ref z) 3 >>= _) _ _ _
  refine wpAny_bind (wpAny_field hz rfl (x := .ref TI) rfl ?_)
  refine wpAny_bind (wpAny_seqItems hTI rfl ?_)
  show wpAny _ _ (Builtin.SmallTypes.ownedTupleIsFree (.ref z) >>= _) _ _ _
  refine wpAny_bind (notFree hz ha fun g hg sg => ?_)
  simp only [Bool.false_eq_true, if_false]
  refine wpAny_bind ?_
  rw [← Array.forIn_toList]
  simp only [List.forIn_cons, List.forIn_nil]
  refine wpAny_bind (wpAny_bind (wpAny_holding ?_))
  show wpAny _ _ (Builtin.SmallTypes.nextOf (.ref i1) >>= _) _ _ _
  refine wpAny_bind (RZ.nextOf_tuple_item (h1.extBut sg.extBut D.i1z) (hl1.extBut sg.extBut D.l1z) hx fun g2 j1 sg2 => wpAny_pure ?_)
  refine wpAny_pure ?_
  refine wpAny_bind (wpAny_bind (wpAny_holding ?_))
  show wpAny _ _ (Builtin.SmallTypes.nextOf (.ref i2) >>= _) _ _ _
  refine wpAny_bind (nextOf_range_item (s := { s with heap := g2 }) (sg2.extBut _ _ D.i12.symm (sg.extBut _ _ D.i2z h2)) hl fun g3 j2 sg3 => wpAny_pure ?_)
  refine wpAny_pure ?_
  refine wpAny_pure ?_
  show wpAny _ _ (newTuple [x, .int y0 s.toks] >>= fun v => ret v) _ _ _
  refine wpAny_bind (wpAny_newTuple ?_ (by show 2 ≤ sizeLine; decide))
  refine wpAny_pure ⟨_, rfl, wpAny_pure ?_⟩
  have z3 : g3.objs.size = s.heap.objs.size := by rw [sg3.1, sg2.1, sg.1]
  have up : ∀ c o, c ≠ z → c ≠ i1 → c ≠ i2 → s.heap.get? c = some o → g3.get? c = some o := fun c o n0 n1 n2 e => sg3.extBut _ _ n2 (sg2.extBut _ _ n1 (sg.extBut _ _ n0 e))
  show Q (some (.ref g3.objs.size)) { s with heap := g3.push { cls := .type "tuple", data := .seq #[x, .int y0 s.toks] }, toks := s.toks + 1 }
  have gg : IsPair (g3.push { cls := .type "tuple", data := .seq #[x, .int y0 s.toks] }) g3.objs.size x (.int y0 s.toks) := Heap.get?_push_size _ rfl
  rw [z3] at gg ⊢
  refine hQ _ _ _ (Heap.get?_push_of_some _ (sg3.extBut _ _ D.i2z.symm (sg2.extBut _ _ D.i1z.symm hg))) ((j1.extBut sg3.extBut D.i12).at fun o e => Heap.get?_push_of_some _ e) (Heap.get?_push_of_some _ j2) gg (by rw [Heap.size_push, z3]) fun c o n0 n1 n2 e => Heap.get?_push_of_some _ (up c o n0 n1 n2 e)
/-- such a zip at its end -/
theorem endOutR {z TI TO i1 i2 l1 l2 a : Addr} {k : Nat} {b : Bool} {oa : Obj} {xs : Array Value} {Q : Option Value → Shared → Prop} (hh : A.handled = none) (D : ZipApart z TI TO i1 i2 l1 l2)
    (hz : s.heap.get? z = some (zObj (rawInt a) b TI TO)) (ha : s.heap.get? a = some oa) (hTI : IsPair s.heap TI (.ref i1) (.ref i2))
    (h1 : s.heap.IsTupleIter i1 l1 k) (hl1 : s.heap.IsTuple l1 xs) (hx : xs[k]? = none)
    (hQ : ∀ h', (∀ c o, c ≠ z → c ≠ i1 → c ≠ i2 → s.heap.get? c = some o → h'.get? c = some o) → Q none { s with heap := h' }) : wpAny (model prog w) A (pyNext (.ref z)) Q E s := by
  have hT : s.TypeIs (.ref z) "zip" := ⟨_, hz, rfl⟩
  unfold pyNext
  refine wpAny_bind (wpAny_attempt (wpAny_callSpecial?_slot (name := Str.ofString "__next__") hT F.slot_zip_next (wpAny_call_entry F.slot_zip_next hT F.entry_zip_next ?_ (F.args_zip_next_1 _))))
  show wpAny _ _ (field (.ref z) 2 >>= _) _ _ _
  refine wpAny_bind (wpAny_field hz rfl (x := .bool false) rfl ?_)
  show wpAny _ _ (field (.ref z) 3 >>= _) _ _ _
  refine wpAny_bind (wpAny_field hz rfl (x := .ref TI) rfl ?_)
  refine wpAny_bind (wpAny_seqItems hTI rfl ?_)
  show wpAny _ _ (Builtin.SmallTypes.ownedTupleIsFree (.ref z) >>= _) _ _ _
  refine wpAny_bind (notFree hz ha fun g hg sg => ?_)
  simp only [Bool.false_eq_true, if_false]
  refine wpAny_bind ?_
  rw [← Array.forIn_toList]
  simp only [List.forIn_cons, List.forIn_nil]
  refine wpAny_bind (wpAny_bind (wpAny_holding ?_))
  show wpAny _ _ (Builtin.SmallTypes.nextOf (.ref i1) >>= _) _ _ _
  refine wpAny_bind (RZ.nextOf_tuple_end hh (h1.extBut sg.extBut D.i1z) (hl1.extBut sg.extBut D.l1z) hx fun g2 e sg2 he => ?_)
  obtain ⟨o, ho, hc⟩ := he
  refine wpAny_bind (wpAny_isInstance (T := "StopIteration") (b := true) ⟨o, ho, hc⟩ isSubtype_stop ?_)
  exact wpAny_pure (hQ g2 fun c o n0 n1 _ e => sg2 _ _ n1 (sg.extBut _ _ n0 e))
theorem zipR_item {Ja : Heap → Prop} {x a b : Value} {y0 left : Int} {z p q ia ib la lb : Addr} {Q : Value → Shared → Prop} (D : ZipApart z p q ia ib la lb) (hz : IsZip s.heap z p q .none) (hp : IsPair s.heap p (.ref ia) (.ref ib)) (hq : IsPair s.heap q a b)
    (oa : ∃ o, s.heap.get? ia = some o) (hb : IsRangeIter s.heap ib y0 left 1) (hl : 0 < left) (ka : KeptAt ia Ja) (na : Hands prog w s ia [z] Ja x)
    (fin : ∀ g tk t, IsZip g z p q (rawInt s.heap.objs.size) → Ja g → IsRangeIter g ib (y0 + 1) (left - 1) 1 → IsPair g s.heap.objs.size x (.int y0 t) → g.objs.size = s.heap.objs.size + 1 → (∀ c o, c ∉ [z, q, ia, ib] → s.heap.get? c = some o → g.get? c = some o) → Q (.ref s.heap.objs.size) { s with heap := g, toks := tk }) :
    wpAny (model prog w) A (Builtin.«zip.__next__» ⟨[.ref z], []⟩) (fun r s' => ∃ v, r = .done (.ret v) ∧ Q v s') E s := by
  show wpAny _ _ (field (.ref z) 2 >>= _) _ _ _
  refine wpAny_bind (wpAny_field hz rfl (x := .bool false) rfl (show wpAny _ _ (field (.ref z) 3 >>= _) _ _ _ from wpAny_bind (wpAny_field hz rfl (x := .ref p) rfl (wpAny_bind (wpAny_seqItems hp rfl ?_)))))
  show wpAny _ _ (Builtin.SmallTypes.ownedTupleIsFree (.ref z) >>= _) _ _ s
  refine wpAny_bind ?_
  unfold Builtin.SmallTypes.ownedTupleIsFree
  refine wpAny_bind (wpAny_field hz rfl (x := .none) rfl (wpAny_pure ?_))
  rw [if_pos rfl]
  refine wpAny_bind (wpAny_rule (wpAny_bind (wpAny_field hz rfl (x := .ref q) rfl (wpAny_bind (wpAny_setField_rec hz (by simp) fun g1 z1 s1 => ?_)))))
  have z1 : IsZip g1 z p q .ellipsis := z1
  refine wpAny_bind ?_
  simp only [List.forIn_cons, List.forIn_nil, List.zipIdx_cons, List.zipIdx_nil]
  refine wpAny_bind (wpAny_bind (wpAny_onRaise (show wpAny _ _ (Builtin.SmallTypes.nextOf (.ref ia) >>= _) _ _ _ from wpAny_bind (na _ _ _ g1 (fun c o hc e => s1.extBut _ _ (nin1 hc) e) fun g2 j2 s2 => wpAny_pure ?_))))
  have q2 : IsPair g2 q a b := s2.extBut _ _ D.TOi1 (s1.extBut _ _ D.TOz hq)
  refine wpAny_bind (wpAny_seqItems q2 rfl (wpAny_bind (wpAny_updateSeq_pair q2 fun g3 q3 s3 => ?_)))
  have q3 : IsPair g3 q x b := q3
  refine wpAny_bind (wpAny_letGo (wpAny_pure (wpAny_bind (wpAny_bind (wpAny_onRaise ?_)))))
  show wpAny _ _ (Builtin.SmallTypes.nextOf (.ref ib) >>= _) _ _ _
  have up3 : ∀ c o, c ∉ [z, ia, q] → s.heap.get? c = some o → g3.get? c = some o := fun c o hc e => by
    simp only [List.mem_cons, List.not_mem_nil, or_false, not_or] at hc
    exact s3.extBut _ _ hc.2.2 (s2.extBut _ _ hc.2.1 (s1.extBut _ _ hc.1 e))
  refine wpAny_bind (nextOf_range_item (s := { s with heap := g3 }) (up3 _ _ (by simp [D.i2z, D.i12.symm, D.TOi2.symm]) hb) hl fun g4 j4 s4 => wpAny_pure ?_)
  have q4 : IsPair g4 q x b := s4.extBut _ _ D.TOi2 q3
  refine wpAny_bind (wpAny_seqItems q4 rfl (wpAny_bind (wpAny_updateSeq_pair q4 fun g5 q5 s5 => ?_)))
  have q5 : IsPair g5 q x (.int y0 s.toks) := q5
  refine wpAny_bind (wpAny_letGo (wpAny_pure (wpAny_pure (wpAny_bind (wpAny_seqItems q5 rfl (wpAny_bind (wpAny_newTuple ?_)))))))
  have e5 : g5.objs.size = s.heap.objs.size := by rw [s5.1, s4.1, s3.1, s2.1, s1.1]
  have z5 : IsZip g5 z p q .ellipsis := s5.extBut _ _ D.TOz.symm (s4.extBut _ _ D.i2z.symm (s3.extBut _ _ D.TOz.symm (s2.extBut _ _ D.i1z.symm z1)))
  have lz : z < g5.objs.size := Heap.lt_size z5
  show wpAny _ _ (Builtin.SmallTypes.ownedTupleHandOut (.ref z) (.ref g5.objs.size) >>= _) _ _ _
  refine wpAny_bind ?_
  unfold Builtin.SmallTypes.ownedTupleHandOut
  refine wpAny_bind (wpAny_setField_rec (show IsZip (g5.push { cls := .type "tuple", data := .seq #[x, .int y0 s.toks] }) z p q .ellipsis from Heap.get?_push_of_some _ z5) (by simp) fun g7 z7 s7 => ?_)
  have z7 : IsZip g7 z p q (rawInt g5.objs.size) := z7
  refine wpAny_setField_rec z7 (by simp) fun g8 z8 s8 => ?_
  have z8 : IsZip g8 z p q (rawInt g5.objs.size) := z8
  have up : ∀ c o, c ≠ z → g5.get? c = some o → g8.get? c = some o := fun c o hc e => s8.extBut _ _ hc (s7.extBut _ _ hc (Heap.get?_push_of_some _ e))
  have n8 : IsPair g8 g5.objs.size x (.int y0 s.toks) := s8.extBut _ _ (Nat.ne_of_gt lz) (s7.extBut _ _ (Nat.ne_of_gt lz) (Heap.get?_push_size _ rfl))
  have e8 : g8.objs.size = g5.objs.size + 1 := by rw [s8.1, s7.1, Heap.size_push]
  rw [e5] at z8 n8 e8
  refine wpAny_pure ⟨_, rfl, ?_⟩
  show Q (.ref g5.objs.size) _
  rw [e5]
  refine fin g8 _ _ z8 (ka _ _ j2 fun o e => ?_) ?_ n8 e8 fun c o hc e => ?_
  · exact up _ _ D.i1z (s5.extBut _ _ D.TOi1.symm (s4.extBut _ _ D.i12 (s3.extBut _ _ D.TOi1.symm e)))
  · exact up _ _ D.i2z (s5.extBut _ _ D.TOi2.symm j4)
  · simp only [List.mem_cons, List.not_mem_nil, or_false, not_or] at hc
    exact up c o hc.1 (s5.extBut _ _ hc.2.1 (s4.extBut _ _ hc.2.2.2 (up3 c o (by simp [hc.1, hc.2.1, hc.2.2.1]) e)))
theorem next_zipR {z p q ia ib la lb : Addr} {k : Nat} {xs : Array Value} {x a b : Value} {y0 left : Int} {Q : Option Value → Shared → Prop} (D : ZipApart z p q ia ib la lb) (hz : IsZip s.heap z p q .none) (hp : IsPair s.heap p (.ref ia) (.ref ib)) (hq : IsPair s.heap q a b)
    (h1 : s.heap.IsTupleIter ia la k) (h2 : IsRangeIter s.heap ib y0 left 1) (hl : s.heap.IsTuple la xs) (hlf : 0 < left) (hx : xs[k]? = some x)
    (fin : ∀ g tk t, IsZip g z p q (rawInt s.heap.objs.size) → g.IsTupleIter ia la (k + 1) → IsRangeIter g ib (y0 + 1) (left - 1) 1 → IsPair g s.heap.objs.size x (.int y0 t) → g.objs.size = s.heap.objs.size + 1 → (∀ c o, c ∉ [z, q, ia, ib] → s.heap.get? c = some o → g.get? c = some o) → Q (some (.ref s.heap.objs.size)) { s with heap := g, toks := tk }) :
    wpAny (model prog w) A (pyNext (.ref z)) Q E s := by
  have ty : s.TypeIs (.ref z) "zip" := ⟨_, hz, rfl⟩
  unfold pyNext
  refine wpAny_bind (wpAny_attempt (wpAny_callSpecial?_slot (name := Str.ofString "__next__") ty F.slot_zip_next (wpAny_call_entry F.slot_zip_next ty F.entry_zip_next (zipR_item (Ja := fun g => g.IsTupleIter ia la (k + 1)) D hz hp hq ?_ h2 hlf ?_ ?_ fun g tk t a1 a3 a4 a5 a6 a7 => wpAny_pure (fin g tk t a1 a3 a4 a5 a6 a7)) (F.args_zip_next_1 _))))
  · obtain ⟨o, e, _⟩ := h1; exact ⟨o, e⟩
  · rintro g g' ⟨o, e, r⟩ kp; exact ⟨o, kp o e, r⟩
  · exact hands_tuple h1 hl (by simp [D.i1z]) (by simp [D.l1z]) hx
theorem stop_zipR {z p q ia ib la lb : Addr} {k : Nat} {xs : Array Value} {a b : Value} {Q : Option Value → Shared → Prop} (hh : A.handled = none) (D : ZipApart z p q ia ib la lb) (hz : IsZip s.heap z p q .none) (hp : IsPair s.heap p (.ref ia) (.ref ib)) (hq : IsPair s.heap q a b)
    (h1 : s.heap.IsTupleIter ia la k) (hl : s.heap.IsTuple la xs) (he : xs[k]? = none)
    (fin : ∀ g, (∀ c o, c ∉ [z, q, ia, ib] → s.heap.get? c = some o → g.get? c = some o) → Q none { s with heap := g }) : wpAny (model prog w) A (pyNext (.ref z)) Q E s := by
  have ty : s.TypeIs (.ref z) "zip" := ⟨_, hz, rfl⟩
  unfold pyNext
  refine wpAny_bind (wpAny_attempt (wpAny_callSpecial?_slot (name := Str.ofString "__next__") ty F.slot_zip_next (wpAny_call_entry F.slot_zip_next ty F.entry_zip_next (zipG_end (Ja := fun g => g.IsTupleIter ia la (k + 1)) hh D hz hp hq (.inl (ends_tuple h1 hl (by simp [D.i1z]) (by simp [D.l1z]) he)) fun g e kp he => ?_) (F.args_zip_next_1 _))))
  obtain ⟨o, h1, h2⟩ := he
  exact wpAny_bind (wpAny_isInstance (T := "StopIteration") (b := true) ⟨o, h1, h2⟩ isSubtype_stop (wpAny_pure (fin _ kp)))
/-- where the walk of a zip of two tuples stands -/
structure ZAtR (h : Heap) (z TI TO i1 i2 l1 S n0 : Addr) (xs : Array Value) (i : Nat) : Prop where
  own : (i = 0 ∧ IsZip h z TI TO .none ∧ ∃ a b, IsPair h TO a b) ∨ (0 < i ∧ ∃ b, h.get? z = some (zObj (rawInt n0) b TI TO))
  ti : IsPair h TI (.ref i1) (.ref i2)
  it1 : h.IsTupleIter i1 l1 i
  it2 : IsRangeIter h i2 (i : Int) ((xs.size : Int) - (i : Int)) 1
  t1 : h.IsTuple l1 xs
  lst : ∃ acc c, h.get? S = some { cls := .type "list", dict := none, data := .seq acc c, slots := #[] } ∧ acc.toList = (List.range i).map fun j => Value.ref (n0 + j)
  sz : h.objs.size = n0 + i
  made : ∀ j, j < i → ∃ x t, xs[j]? = some x ∧ IsPair h (n0 + j) x (.int (j : Int) t)
theorem loopZipR {R : Result → Shared → Prop} {z TI TO i1 i2 l1 l2 S n0 : Addr} {xs : Array Value} {res : Value} (hh : A.handled = none) (D : ZipApart z TI TO i1 i2 l1 l2) (hl : xs.size ≤ sizeLine)
    (hS : S ≠ z ∧ S ≠ TO ∧ S ≠ i1 ∧ S ≠ i2 ∧ S ≠ TI ∧ S ≠ l1 ∧ S ≠ l2 ∧ S < n0) (hb : z < n0 ∧ TO < n0 ∧ i1 < n0 ∧ i2 < n0) :
    ∀ (k i : Nat) (s : Shared), xs.size - i = k → i ≤ xs.size → ZAtR s.heap z TI TO i1 i2 l1 S n0 xs i →
      (∀ h' tk, (∀ c o, c ≠ z → c ≠ TO → c ≠ i1 → c ≠ i2 → c ≠ S → s.heap.get? c = some o → h'.get? c = some o) →
        (∃ acc c, h'.get? S = some { cls := .type "list", dict := none, data := .seq acc c, slots := #[] } ∧ acc.toList = (List.range xs.size).map fun j => Value.ref (n0 + j)) →
        (∀ j, j < xs.size → ∃ x t, xs[j]? = some x ∧ IsPair h' (n0 + j) x (.int (j : Int) t)) → R (.ok (.ret res)) { s with heap := h', toks := tk }) →
      codeAny (model prog w) A (.builtin "list.extend.loop" ⟨[.ref S, .ref z, res], []⟩) R s := by
  obtain ⟨s1, s2, s3, s4, s5, s6, s7, s8⟩ := hS
  obtain ⟨b1, b2, b3, b4⟩ := hb
  have far : ∀ {c : Addr} {j : Nat}, c < n0 → n0 + j ≠ c := fun h => Nat.ne_of_gt (Nat.lt_of_lt_of_le h (Nat.le_add_right _ _))
  intro k
  induction k with
  | zero =>
    intro i s hk hi Z hR
    have hin : i = xs.size := by omega
    refine codeAny_builtin F.entry_extend_loop ?_
    rw [Around.under_plainId F.plain_extend_loop _]
    show wpAny _ A.in1 (pyNext (.ref z) >>= _) _ _ s
    have hx : xs[i]? = none := by rw [hin]; simp
    have fin : ∀ h' : Heap, (∀ c o, c ≠ z → c ≠ TO → c ≠ i1 → c ≠ i2 → s.heap.get? c = some o → h'.get? c = some o) → R (.ok (.ret res)) { s with heap := h' } := fun h' kp => by
      obtain ⟨acc, c, e, ea⟩ := Z.lst
      rw [hin] at ea
      refine hR h' s.toks (fun c o c1 c2 c3 c4 _ e => kp c o c1 c2 c3 c4 e) ⟨acc, c, kp _ _ s1 s2 s3 s4 e, ea⟩ fun j hj => ?_
      obtain ⟨x, y, e1, e3⟩ := Z.made j (by omega)
      exact ⟨x, y, e1, kp _ _ (far b1) (far b2) (far b3) (far b4) e3⟩
    rcases Z.own with ⟨_, hz, a, b, hTO⟩ | ⟨h0, b, hz⟩
    · refine wpAny_bind (stop_zipR hh D hz Z.ti hTO Z.it1 Z.t1 hx fun h' kp => wpAny_pure ?_)
      exact fin h' fun c o c1 c2 c3 c4 e => kp c o (by simp [c1, c2, c3, c4]) e
    · obtain ⟨_, _, _, e3⟩ := Z.made 0 h0
      refine wpAny_bind (endOutR hh D hz e3 Z.ti Z.it1 Z.t1 hx fun h' kp => wpAny_pure ?_)
      exact fin h' fun c o c1 _ c3 c4 e => kp c o c1 c3 c4 e
  | succ k ih =>
    intro i s hk hi Z hR
    have hlt : i < xs.size := by omega
    refine codeAny_builtin F.entry_extend_loop ?_
    rw [Around.under_plainId F.plain_extend_loop _]
    show wpAny _ A.in1 (pyNext (.ref z) >>= _) _ _ s
    have hx : xs[i]? = some xs[i] := by simp [hlt]
    have hlf : 0 < (xs.size : Int) - (i : Int) := by omega
    generalize xs[i] = x at hx
    -- behind the next pair
    have step : ∀ (h' : Heap) (tq : Nat) (tt : Tok), (∃ b, h'.get? z = some (zObj (rawInt n0) b TI TO)) → h'.IsTupleIter i1 l1 (i + 1) → IsRangeIter h' i2 ((i : Int) + 1) ((xs.size : Int) - (i : Int) - 1) 1 → IsPair h' s.heap.objs.size x (.int (i : Int) tt) → h'.objs.size = s.heap.objs.size + 1 →
        (∀ c o, c ≠ z → c ≠ TO → c ≠ i1 → c ≠ i2 → s.heap.get? c = some o → h'.get? c = some o) →
        wpAny (model prog w) A.in1 (updateSeq S (·.push (.ref s.heap.objs.size)) >>= fun _ => again (.builtin "list.extend.loop" ⟨[.ref S, .ref z, res], []⟩))
          (fun fin s' => match fin with | .done f => R (.ok f) s' | .again c' => c'.quiet = true ∧ codeAny (model prog w) A c' R s') (fun e s' => R (.error e) s') { s with heap := h', toks := tq } := by
      intro h' tq tt hz j1 j2 hp sz kp
      obtain ⟨acc, c, e, ea⟩ := Z.lst
      have e' := kp _ _ s1 s2 s3 s4 e
      have la : acc.size = i := by rw [← Array.length_toList, ea, List.length_map, List.length_range]
      have oth : ∀ b o, b ≠ S → h'.get? b = some o → (h'.update S (Obj.mapSeq (·.push (.ref s.heap.objs.size)))).get? b = some o := fun b o hb e => (Heap.get?_update_other _ _ (Ne.symm hb)).trans e
      refine wpAny_bind ?_
      refine wpAny_updateSeq e' rfl (wpAny_pure ⟨plainId_quiet F.plain_extend_loop _, ih (i + 1) _ (by omega) hlt ?_ fun h'' tk kp2 q2 q3 => ?_⟩)
        (by rw [la]; omega) (by show (acc.push _).size ≤ sizeLine + 1; rw [Array.size_push, la]; omega)
      · refine ⟨.inr ⟨Nat.succ_pos _, ?_⟩, oth _ _ (Ne.symm s5) (kp _ _ D.TIz D.TITO D.TIi1 D.TIi2 Z.ti), j1.at fun o e => oth _ o (Ne.symm s3) e, oth _ _ (Ne.symm s4) (by rw [show ((i + 1 : Nat) : Int) = (i : Int) + 1 by omega, show (xs.size : Int) - ((i : Int) + 1) = (xs.size : Int) - (i : Int) - 1 by omega]; exact j2), ?_, ⟨_, _, Heap.get?_update_self _ e' rfl, ?_⟩, ?_, fun j hj => ?_⟩
        · obtain ⟨b, hz⟩ := hz
          exact ⟨b, oth _ _ (Ne.symm s1) hz⟩
        · obtain ⟨o, q, r⟩ := Z.t1
          exact ⟨o, oth _ _ (Ne.symm s6) (kp _ _ D.l1z D.l1TO D.l1i1 D.l1i2 q), r⟩
        · rw [Array.toList_push, ea, List.range_succ, List.map_append, Z.sz]
          rfl
        · show (h'.update S _).objs.size = _
          rw [Heap.size_update, sz, Z.sz]
          rfl
        · by_cases hji : j < i
          · obtain ⟨x', y', e1, e3⟩ := Z.made j hji
            exact ⟨x', y', e1, oth _ _ (far s8) (kp _ _ (far b1) (far b2) (far b3) (far b4) e3)⟩
          · have hj : j = i := by omega
            subst hj
            refine ⟨x, tt, hx, oth _ _ (far s8) ?_⟩
            rw [← Z.sz]
            exact hp
      · exact hR h'' tk (fun c o c1 c2 c3 c4 c5 e => kp2 c o c1 c2 c3 c4 c5 (oth _ _ c5 (kp _ _ c1 c2 c3 c4 e))) q2 q3
    rcases Z.own with ⟨h0, hz, a, b, hTO⟩ | ⟨h0, b, hz⟩
    · refine wpAny_bind (next_zipR D hz Z.ti hTO Z.it1 Z.it2 Z.t1 hlf hx fun h' tk t q1 q3 q4 q5 q6 kp => ?_)
      refine step h' tk t ⟨false, ?_⟩ q3 q4 q5 q6 fun c o c1 c2 c3 c4 e => kp c o (by simp [c1, c2, c3, c4]) e
      have e0 : s.heap.objs.size = n0 := by rw [Z.sz, h0]; rfl
      rw [← e0]
      exact q1
    · obtain ⟨_, _, _, e3⟩ := Z.made 0 h0
      refine wpAny_bind (nextOutR D hz e3 Z.ti Z.it1 Z.it2 Z.t1 hlf hx fun h' tk t q1 q3 q4 q5 q6 kp => ?_)
      exact step h' tk t ⟨true, q1⟩ q3 q4 q5 q6 fun c o c1 _ c3 c4 e => kp c o c1 c3 c4 e
/-- list(z), z a zip just made -/
theorem callZipR {z TI TO i1 i2 l1 l2 : Addr} {xs : Array Value} {or2 : Obj} {Q : Value → Shared → Prop} (hh : A.handled = none) (D : ZipApart z TI TO i1 i2 l1 l2) (hl : xs.size ≤ sizeLine)
    (hz : IsZip s.heap z TI TO .none) (hTI : IsPair s.heap TI (.ref i1) (.ref i2)) (hTO : IsPair s.heap TO .none .none) (h1 : s.heap.IsTupleIter i1 l1 0) (h2 : IsRangeIter s.heap i2 0 (xs.size : Int) 1) (t1 : s.heap.IsTuple l1 xs) (t2 : s.heap.get? l2 = some or2)
    (hQ : ∀ h' tk, (∀ c o, c ≠ z → c ≠ TO → c ≠ i1 → c ≠ i2 → s.heap.get? c = some o → h'.get? c = some o) →
        (∃ acc c, h'.get? s.heap.objs.size = some { cls := .type "list", dict := none, data := .seq acc c, slots := #[] } ∧ acc.toList = (List.range xs.size).map fun j => Value.ref (s.heap.objs.size + 1 + j)) →
        (∀ j, j < xs.size → ∃ x t, xs[j]? = some x ∧ IsPair h' (s.heap.objs.size + 1 + j) x (.int (j : Int) t)) → Q (.ref s.heap.objs.size) { s with heap := h', toks := tk }) :
    wpAny (model prog w) A (call (.type "list") [.ref z]) Q E s := by
  refine callType_codes (Q₁ := fun obj s₁ => obj = .ref s.heap.objs.size ∧ s₁ = { s with heap := s.heap.push { cls := .type "list", data := .seq #[] } }) F.called_list (F.typeCall_list_1 _) F.entry_list_init (code_list_new _ ⟨rfl, rfl⟩) fun obj s₁ h₁ => ?_
  obtain ⟨rfl, rfl⟩ := h₁
  obtain ⟨o1, ho1, _⟩ := id h1
  have ho2 := h2
  obtain ⟨p1, hp1, _⟩ := id t1
  have hp2 := t2
  have hS : (s.heap.push { cls := .type "list", data := .seq #[] }).get? s.heap.objs.size = some { cls := .type "list", data := .seq #[] } := Heap.get?_push_size _ rfl
  have up : ∀ b o, s.heap.get? b = some o → (s.heap.push { cls := .type "list", data := .seq #[] }).get? b = some o := fun b o e => Heap.get?_push_of_some _ e
  have nS : ∀ {b o}, s.heap.get? b = some o → s.heap.objs.size ≠ b := fun e => Nat.ne_of_gt (Heap.lt_size e)
  refine ⟨⟨_, hS, rfl⟩, F.args_list_init_2 _ _, ?_⟩
  show wpAny _ A.in1.in1 (Builtin.List.listItems (.ref s.heap.objs.size) >>= fun old => Builtin.List.listUpdate (.ref s.heap.objs.size) (fun _ => #[]) >>= fun _ => letGo old.toList.reverse >>= fun _ => Builtin.List.listExtendWith (.ref s.heap.objs.size) (.ref z) .none) _ _ _
  refine wpAny_bind ?_
  unfold Builtin.List.listItems
  refine wpAny_bind (wpAny_seqItems hS rfl (wpAny_pure ?_))
  show wpAny _ A.in1.in1 (updateSeq s.heap.objs.size (fun _ => #[]) >>= fun _ => letGo (#[] : Array Value).toList.reverse >>= fun _ => Builtin.List.listExtendWith (.ref s.heap.objs.size) (.ref z) .none) _ _ _
  refine wpAny_bind (wpAny_updateSeq hS rfl ?_)
  have hS2 := Heap.get?_update_self (Obj.mapSeq (fun _ => (#[] : Array Value))) hS rfl
  generalize hg : (s.heap.push { cls := .type "list", data := .seq #[] }).update s.heap.objs.size (Obj.mapSeq (fun _ => (#[] : Array Value))) = g at hS2
  have up2 : ∀ b o, s.heap.get? b = some o → g.get? b = some o := fun b o e => by
    rw [← hg]
    exact (Heap.get?_update_other _ _ (nS e)).trans (up b o e)
  have sg : g.objs.size = s.heap.objs.size + 1 := by rw [← hg, Heap.size_update, Heap.size_push]
  refine wpAny_bind (wpAny_letGo ?_)
  have hT : ({ s with heap := g } : Shared).TypeIs (.ref z) "zip" := ⟨_, up2 _ _ hz, rfl⟩
  have hs1 : Builtin.List.listSameRef (.ref s.heap.objs.size) (.ref z) = false := by simp [Builtin.List.listSameRef, nS hz]
  show wpAny _ A.in1.in1 (Builtin.List.listExtendWith (.ref s.heap.objs.size) (.ref z) .none) _ _ { s with heap := g }
  unfold Builtin.List.listExtendWith
  refine wpAny_bind (wpAny_typeOf hT ?_)
  rw [if_neg (by rw [hs1]; decide)]
  refine wpAny_bind (wpAny_pyIter_zip (up2 _ _ hz) ?_)
  refine wpAny_bind (wpAny_holding ?_)
  unfold Builtin.List.listLengthHint
  refine wpAny_bind (wpAny_specialOf hT nolen_zip ?_)
  show wpAny _ _ (specialOf (Value.ref z) (Str.ofString "__length_hint__") >>= _) _ _ _
  refine wpAny_bind (wpAny_specialOf hT nohint_zip ?_)
  refine wpAny_pure ?_
  show wpAny _ _ (rule "list.extend.makes-room" >>= fun _ => Builtin.List.listTouch (.ref s.heap.objs.size) >>= fun _ => again (.builtin "list.extend.loop" ⟨[.ref s.heap.objs.size, .ref z, .none], []⟩)) _ _ _
  refine wpAny_bind (wpAny_rule ?_)
  refine wpAny_bind ?_
  show wpAny _ _ (updateSeq s.heap.objs.size (·.push .none) >>= fun _ => updateSeq s.heap.objs.size (·.pop)) _ _ _
  refine wpAny_bind (wpAny_updateSeq hS2 rfl ?_)
  have hS3 := Heap.get?_update_self (Obj.mapSeq (·.push Value.none)) hS2 rfl
  refine wpAny_updateSeq (hz := by seq_fits) hS3 rfl ?_
  have hS4 := Heap.get?_update_self (Obj.mapSeq (·.pop)) hS3 rfl
  generalize hg4 : ((g.update s.heap.objs.size (Obj.mapSeq (·.push Value.none))).update s.heap.objs.size (Obj.mapSeq (·.pop))) = g4 at hS4
  have up4 : ∀ b o, s.heap.get? b = some o → g4.get? b = some o := fun b o e => by
    rw [← hg4]
    exact (Heap.get?_update_other _ _ (nS e)).trans ((Heap.get?_update_other _ _ (nS e)).trans (up2 b o e))
  have sg4 : g4.objs.size = s.heap.objs.size + 1 := by rw [← hg4, Heap.size_update, Heap.size_update, sg]
  have lt1 : ∀ {b o}, s.heap.get? b = some o → b < s.heap.objs.size + 1 := fun e => Nat.lt_succ_of_lt (Heap.lt_size e)
  refine wpAny_pure ⟨plainId_quiet F.plain_extend_loop _, loopZipR (n0 := s.heap.objs.size + 1) (S := s.heap.objs.size) (A := A.in1) hh D hl ⟨nS hz, nS hTO, nS ho1, nS ho2, nS hTI, nS hp1, nS hp2, Nat.lt_succ_self _⟩ ⟨lt1 hz, lt1 hTO, lt1 ho1, lt1 ho2⟩ xs.size 0 _ (by simp) (Nat.zero_le _)
    ⟨.inl ⟨rfl, up4 _ _ hz, _, _, up4 _ _ hTO⟩, up4 _ _ hTI, h1.at fun o e => up4 _ o e, by rw [show (xs.size : Int) - ((0 : Nat) : Int) = (xs.size : Int) by omega]; exact up4 _ _ h2, ⟨p1, up4 _ _ hp1, by assumption⟩, ⟨_, _, hS4, rfl⟩, sg4, fun j hj => absurd hj (Nat.not_lt_zero _)⟩ fun h' tk kp q2 q3 => ?_⟩
  exact ⟨rfl, hQ h' tk (fun c o c1 c2 c3 c4 e => kp c o c1 c2 c3 c4 (Ne.symm (nS e)) (up4 _ _ e)) q2 q3⟩
end
abbrev zr1 (h : Heap) (l : Addr) : Heap := h.push { cls := .type "tuple_iterator", data := .fields #[.ref l, .int 0 0] }
abbrev zr2 (h : Heap) (l : Addr) (n : Int) : Heap := (zr1 h l).push { cls := .type "range_iterator", data := .fields #[rawInt 0, rawInt (Builtin.Range.rangeSize 0 n 1), rawInt 1] }
abbrev zr3 (h : Heap) (l : Addr) (n : Int) : Heap := (zr2 h l n).push { cls := .type "tuple", data := .seq #[.ref h.objs.size, .ref (zr1 h l).objs.size] }
abbrev zr4 (h : Heap) (l : Addr) (n : Int) : Heap := (zr3 h l n).push { cls := .type "tuple", data := .seq #[.none, .none] }
abbrev zr5 (h : Heap) (l : Addr) (n : Int) : Heap := (zr4 h l n).push { cls := .type "zip", data := .fields #[.none, .bool false, .bool false, .ref (zr2 h l n).objs.size, .ref (zr3 h l n).objs.size] }
theorem newR (l r : Addr) (n : Int) (t u v : Tok) (xs : Array Value) (sm : Builtin.Range.small 0 n 1 = true) : Meets (Builtin.«zip.__new__» ⟨[.type "zip", .ref l, .ref r], []⟩) (fun _ R s => s.heap.IsTuple l xs ∧ IsRange s.heap r 0 n 1 t u v ∧ R (.ok (.ret (.ref (zr4 s.heap l n).objs.size))) { s with heap := zr5 s.heap l n }) :=
  .of_wp fun prog w A R s h => by
    obtain ⟨hp, g, d, tk, os⟩ := s
    obtain ⟨a1, a2, h⟩ := h
    have hsub := sub_zip
    have b1 : Heap.IsTuple (Shared.heap ⟨hp, g, d, tk, os⟩) l xs := a1
    have b2 : IsRange (Shared.heap ⟨hp.push { cls := .type "tuple_iterator", data := .fields #[.ref l, .int 0 0] }, g, d, tk, os⟩) r 0 n 1 t u v := Heap.get?_push_of_some _ a2
    wp_walk using wpAny_pyIter_tuple b1, wpAny_pyIter_range b2 sm
    exact ⟨_, rfl, h⟩
section
variable {P : Program} {w : World} {A : Around} {E : Value → Shared → Prop} {s : Shared}
theorem call_zipR {l r : Addr} {n : Int} {t u v : Tok} {xs : Array Value} {Q : Value → Shared → Prop} (a1 : s.heap.IsTuple l xs) (a2 : IsRange s.heap r 0 n 1 t u v) (sm : Builtin.Range.small 0 n 1 = true) (n0 : 0 ≤ n)
    (fin : ∀ g, IsZip g (s.heap.objs.size + 4) (s.heap.objs.size + 2) (s.heap.objs.size + 3) .none → IsPair g (s.heap.objs.size + 2) (.ref s.heap.objs.size) (.ref (s.heap.objs.size + 1)) → IsPair g (s.heap.objs.size + 3) .none .none →
      g.IsTupleIter s.heap.objs.size l 0 → IsRangeIter g (s.heap.objs.size + 1) 0 n 1 → g.objs.size = s.heap.objs.size + 5 → (∀ c o, s.heap.get? c = some o → g.get? c = some o) → Q (.ref (s.heap.objs.size + 4)) { s with heap := g }) :
    wpAny (model P w) A (call (.type "zip") [.ref l, .ref r]) Q E s := by
  refine callType_new F.called_zip (by decide) (F.typeCall_zip_2 _ _) (F.newCall_zip_2 _ _) (fun v => F.args_object_init_3 v _ _) F.entry_zip_new (newR l r n t u v xs sm) ⟨a1, a2, ?_⟩
  have e1 : (zr1 s.heap l).objs.size = s.heap.objs.size + 1 := Heap.size_push ..
  have e2 : (zr2 s.heap l n).objs.size = s.heap.objs.size + 2 := by rw [Heap.size_push, e1]
  have e3 : (zr3 s.heap l n).objs.size = s.heap.objs.size + 3 := by rw [Heap.size_push, e2]
  have e4 : (zr4 s.heap l n).objs.size = s.heap.objs.size + 4 := by rw [Heap.size_push, e3]
  have e5 : (zr5 s.heap l n).objs.size = s.heap.objs.size + 5 := by rw [Heap.size_push, e4]
  have g5 : (zr5 s.heap l n).get? (zr4 s.heap l n).objs.size = some _ := Heap.get?_push_size _ rfl
  have g4 : (zr5 s.heap l n).get? (zr3 s.heap l n).objs.size = some _ := Heap.get?_push_of_some _ (Heap.get?_push_size _ rfl)
  have g3 : (zr5 s.heap l n).get? (zr2 s.heap l n).objs.size = some _ := Heap.get?_push_of_some _ (Heap.get?_push_of_some _ (Heap.get?_push_size _ rfl))
  have g2 : (zr5 s.heap l n).get? (zr1 s.heap l).objs.size = some _ := Heap.get?_push_of_some _ (Heap.get?_push_of_some _ (Heap.get?_push_of_some _ (Heap.get?_push_size _ rfl)))
  have g1 : (zr5 s.heap l n).get? s.heap.objs.size = some _ := Heap.get?_push_of_some _ (Heap.get?_push_of_some _ (Heap.get?_push_of_some _ (Heap.get?_push_of_some _ (Heap.get?_push_size _ rfl))))
  have er : Builtin.Range.rangeSize 0 n 1 = n := by rw [rangeSize_one]; split <;> omega
  show _ ∧ _
  rw [e2, e3, e4] at g5
  rw [e1, e2] at g3
  rw [e3] at g4
  rw [e1, er] at g2
  rw [e4]
  exact ⟨⟨_, g5, rfl⟩, fin _ g5 g3 g4 ⟨_, g1, rfl, rfl⟩ g2 e5 fun c o x => Heap.get?_push_of_some _ (Heap.get?_push_of_some _ (Heap.get?_push_of_some _ (Heap.get?_push_of_some _ (Heap.get?_push_of_some _ x))))⟩
end
end Wf
namespace Wf
open PySem PySem.Spec L2 RZ
section
open L2
variable {X : Cx}
/-- list(zip(t, range(n))), t a tuple of n things: a new list of new pairs -/
def rLstZR (K : PySem.W.Frag) (a : Addr) (xs : List V) (H : Hp) (Q : VK) : Prop := ∀ (q : Addr) (ps : List Addr) (H3 : Hp), H q = none → (∀ p ∈ ps, H p = none) → Same H H3 → H3 q = some (.lst (ps.map V.ref)) → ps.length = xs.length →
    (∀ (i : Nat) (p : Addr), ps[i]? = some p → ∃ u, xs[i]? = some u ∧ H3 p = some (.tup [u, .int (i : Int)])) → Q (.ref q) H3
theorem pe_lstZR {e1 e2 : Expr} {t : TE} {tr : St → Hp → (Int → Int → Hp → Prop) → Prop} {p p2 pos pos2 : Pos} (hc : X.calm = true) (hg : Gl X "list") (hm : X.mg "list" = none) (hg2 : Gl X "zip") (hm2 : X.mg "zip" = none) (ha : PE X e1 t) (hr : PRg X e2 tr)
    (hs : starEach [e1, e2] X.env = (false, eval e1 X.env) :: starEach [e2] X.env := by rfl)
    (hs0 : starEach [e2] X.env = (false, eval e2 X.env) :: starEach [] X.env := by rfl)
    (hpl : (backTo pos2 (starEach [e2] X.env)).any (·.1) = false := by rfl)
    (hs2 : starEach [.Call (.Name "zip" p2) [e1, e2] [] pos2] X.env = (false, eval (.Call (.Name "zip" p2) [e1, e2] [] pos2) X.env) :: starEach [] X.env := by rfl) :
    PE X (.Call (.Name "list" p) [.Call (.Name "zip" p2) [e1, e2] [] pos2] [] pos) (fun σ H Q => t σ H fun v H1 => tr σ H1 fun x n H2 => ∃ a xs, v = .ref a ∧ x = 0 ∧ n = (xs.length : Int) ∧ SqT X.K H2 a xs ∧ rLstZR X.K a xs H2 Q) := by
  refine ⟨fun pins s σ H Q I h => ?_⟩
  refine PyProof.Rows.Call_ (ld_blt I hg hm PyProof.Rows.boot_list (PyProof.Rows.callWith_type1 (PyProof.Rows.args_cons (PyProof.Rows.Call_ (ld_blt I hg2 hm2 PyProof.Rows.boot_zip (PyProof.Rows.callWith_type1 (PyProof.Rows.args_cons (thn (ha.run pins s σ H _ I h) fun u0 s0 ⟨v0, H0, I0, rv0, hq⟩ => PyProof.Rows.args_cons (thn (hr pins s0 σ H0 _ I0 hq) fun x0 s1 ⟨r, la, lb, t1, t2, t3, H1, ex, hrg, I1, a, xs, ev, e0, en, hqx1, q⟩ => PyProof.Rows.args_nil ?_) hs0) hs) hs hpl))) hs2) hs2 rfl))
  subst ev e0 en ex
  obtain rfl : u0 = .ref a := rv0
  obtain ⟨ix, rv1, p1, z1⟩ := I1.tuple hqx1
  have nx : ix.toArray.size = xs.length := by rw [List.size_toArray, rv1.length]
  have sz : sizeLine = 16777216 := by decide
  refine call_zipR (show s1.heap.IsTuple a ix.toArray from p1) hrg (small_one (by decide) (by decide) (by omega) (by omega)) (by omega) fun h' hz hTI hTO h1 h2 hsz hk => ?_
  obtain ⟨o1, ho1, _⟩ := id p1
  have w1 : h'.IsTuple a ix.toArray := by
    obtain ⟨o, e, r⟩ := p1
    exact ⟨o, hk _ _ e, r⟩
  refine PyProof.Rows.args_nil ?_
  refine callZipR (s := { s1 with heap := h' }) (I1.ok.hd hc) (PySem.W.ktu_apart s1.heap.objs.size a r (Heap.lt_size ho1) (Heap.lt_size hrg)) (by rw [nx]; exact z1) hz hTI hTO h1 (by rw [nx]; exact h2) w1 (hk _ _ hrg) fun g tk kp ⟨acc, c, hS, ea⟩ made => ?_
  have base : ∀ {c o}, s1.heap.get? c = some o → g.get? c = some o := fun {c o} e => by
    have l : c < s1.heap.objs.size := Heap.lt_size e
    exact kp c o (Nat.ne_of_lt (Nat.lt_of_lt_of_le l (Nat.le_add_right _ _))) (Nat.ne_of_lt (Nat.lt_of_lt_of_le l (Nat.le_add_right _ _))) (Nat.ne_of_lt l) (Nat.ne_of_lt (Nat.lt_of_lt_of_le l (Nat.le_add_right _ _))) (hk c o e)
  have hsz' : h'.objs.size = s1.heap.objs.size + 5 := hsz
  generalize hm0 : h'.objs.size = m at hS made ea
  have lm : s1.heap.objs.size ≤ m := by rw [← hm0, hsz']; exact Nat.le_add_right _ _
  have old : ∀ {c o}, s1.heap.get? c = some o → c < m := fun e => Nat.lt_of_lt_of_le (Heap.lt_size e) lm
  have oldH : ∀ {c o}, H1 c = some o → c < m := fun e => Nat.lt_of_lt_of_le (I1.hok.lt e) lm
  have pick : ∀ j, j < xs.length → ∃ u iu t, xs[j]? = some u ∧ ix[j]? = some iu ∧ RelV u iu ∧ IsPair g (m + 1 + j) iu (.int (j : Int) t) := fun j hj => by
    obtain ⟨iu, t, e1, e3⟩ := made j (by rw [nx]; exact hj)
    have k1 : xs[j]? = some xs[j] := List.getElem?_eq_getElem hj
    obtain ⟨u', f1, f2⟩ := rv1.get k1
    have e1' : ix[j]? = some iu := by simpa using e1
    rw [e1'] at f1
    cases f1
    exact ⟨_, iu, t, k1, e1', f2, e3⟩
  let H3 : Hp := fun c => if c = m then some (.lst (((List.range xs.length).map fun j => m + 1 + j).map V.ref)) else if m < c ∧ c < m + 1 + xs.length then some (.tup [xs.getD (c - m - 1) .non, .int ((c - m - 1 : Nat) : Int)]) else H1 c
  have hH0 : H3 m = some (.lst (((List.range xs.length).map fun j => m + 1 + j).map V.ref)) := if_pos rfl
  have hHt : ∀ j, j < xs.length → ∀ u, xs[j]? = some u → H3 (m + 1 + j) = some (.tup [u, .int (j : Int)]) := fun j hj u e1 => by
    have a1 : ¬ m + 1 + j = m := Nat.ne_of_gt (Nat.lt_of_lt_of_le (Nat.lt_succ_self m) (Nat.le_add_right _ _))
    have a2 : m < m + 1 + j ∧ m + 1 + j < m + 1 + xs.length := ⟨Nat.lt_of_lt_of_le (Nat.lt_succ_self m) (Nat.le_add_right _ _), Nat.add_lt_add_left hj _⟩
    have a3 : m + 1 + j - m - 1 = j := by rw [Nat.add_assoc, Nat.add_sub_cancel_left, Nat.add_sub_cancel_left]
    show (if m + 1 + j = m then _ else if m < m + 1 + j ∧ m + 1 + j < m + 1 + xs.length then _ else _) = _
    rw [if_neg a1, if_pos a2, a3]
    simp [List.getD, e1]
  have hHo : ∀ c, c < m → H3 c = H1 c := fun c hc => by
    show (if c = m then _ else if m < c ∧ c < m + 1 + xs.length then _ else _) = _
    rw [if_neg (Nat.ne_of_lt hc), if_neg (fun z => absurd z.1 (Nat.not_lt_of_le (Nat.le_of_lt hc)))]
  have hHs : ∀ c o, H3 c = some o → c = m ∨ (∃ j, j < xs.length ∧ c = m + 1 + j) ∨ H1 c = some o := fun c o e => by
    by_cases c1 : c = m
    · exact .inl c1
    · by_cases c2 : m < c ∧ c < m + 1 + xs.length
      · refine .inr (.inl ⟨c - m - 1, ?_, ?_⟩)
        · have := c2.2
          have := c2.1
          simp only [Addr] at *
          omega
        · have := c2.1
          simp only [Addr] at *
          omega
      · have e' : (if c = m then some (HO.lst (((List.range xs.length).map fun j => m + 1 + j).map V.ref)) else if m < c ∧ c < m + 1 + xs.length then some (.tup [xs.getD (c - m - 1) .non, .int ((c - m - 1 : Nat) : Int)]) else H1 c) = some o := e
        rw [if_neg c1, if_neg c2] at e'
        exact .inr (.inr e')
  have sH : Same H1 H3 := fun c o e => by rw [hHo c (oldH e)]; exact e
  refine I1.after ⟨.ref m, H3, rfl, I1.bare, ⟨fun c o e n _ _ => base e, fun c o e n _ _ => ⟨o.slots, base e⟩, fun c o e n _ => by rw [hHo c (old e)]; exact n, fun c o e _ => ⟨o, base e⟩, fun c zs e => sH _ _ e, fun c o u e => sH _ _ e, fun c ps e => ⟨#[], by rw [sH _ _ e]; simp⟩⟩, fun c o e => ?_, by rw [← hm0]; rfl, ?_⟩
  · rcases hHs c o e with rfl | ⟨j, hj, rfl⟩ | e1
    · rw [hH0] at e
      cases e
      refine ⟨by simp only [List.length_map, List.length_range]; exact z1, acc.toList, _, ?_, by rw [Array.toArray_toList]; exact hS⟩
      rw [ea, nx]
      exact vrefs _ _
    · obtain ⟨u, iu, t, k1, k3, r1, e3⟩ := pick j hj
      rw [hHt j hj u k1] at e
      cases e
      exact ⟨by show 2 ≤ sizeLine; decide, [iu, .int (j : Int) t], .cons r1 (.cons ⟨t, rfl⟩ .nil), _, e3, rfl, _, rfl⟩
    · exact (I1.hok c o e1).stay (fun b u _ q => base q) (fun b q => sH _ _ q) fun b zs q => sH _ _ q
  · refine q m _ H3 (I1.hok.fresh lm) (fun c hc => ?_) sH hH0 (by simp) fun i c hc => ?_
    · obtain ⟨j, _, rfl⟩ := List.mem_map.mp hc
      exact I1.hok.fresh (Nat.le_trans lm (Nat.le_trans (Nat.le_succ m) (Nat.le_add_right _ _)))
    · rw [List.getElem?_map] at hc
      obtain ⟨j, e1, e2⟩ := Option.map_eq_some_iff.mp hc
      have hi : i < xs.length := by
        have := (List.getElem?_eq_some_iff.mp e1).1
        simpa using this
      have e1' : i = j := by
        rw [List.getElem?_range hi] at e1
        exact Option.some.inj e1
      subst e1'
      subst e2
      obtain ⟨u, _, _, k1, _⟩ := pick i hi
      exact ⟨u, k1, hHt i hi u k1⟩
end
end Wf
/-! list(zip(t, range(n))) by value, t a tuple of n things. -/
namespace Pv
open PySem PySem.Spec L2 Wf
variable {B : Bas}
def nums0 (n : Nat) : List PyData := (List.range n).map fun i : Nat => .int ((i : Nat) : Int)
def pLstZR (pa : PX) (pr : PRx) : PX := fun δ Q => pa δ fun r δ1 => pr δ1 fun x n δ2 => ∃ ds, dat δ2 r = some (.tuple ds) ∧ noLAll ds = true ∧ x = 0 ∧ n = (ds.length : Int) ∧ Q (.ow (.lst (zipD ds (nums0 ds.length)))) δ2
theorem dp_nums {K : PySem.W.Frag} {H : Hp} : ∀ (l : List Nat), DpAll K H (l.map fun i : Nat => V.int ((i : Nat) : Int)) (l.map fun i : Nat => .int ((i : Nat) : Int))
  | [] => .nil
  | i :: l => .cons (.int _) (dp_nums l)
theorem noL_nums (n : Nat) : noLAll (nums0 n) = true := by unfold nums0; induction List.range n with
  | nil => simp [noLAll]
  | cons i l ih => simp only [List.map_cons, noLAll, noL, Bool.true_and]; exact ih
variable {X : Cx}
theorem je_lstZR {e1 e2 : Expr} {pa : PX} {pr : PRx} {p p2 pos pos2 : Pos} (hc : X.calm = true) (hg : Gl X "list") (hm : X.mg "list" = none) (hg2 : Gl X "zip") (hm2 : X.mg "zip" = none) (ha : JE X B e1 pa) (hr : JR X B e2 pr)
    (hs : starEach [e1, e2] X.env = (false, eval e1 X.env) :: starEach [e2] X.env := by rfl)
    (hs0 : starEach [e2] X.env = (false, eval e2 X.env) :: starEach [] X.env := by rfl)
    (hpl : (backTo pos2 (starEach [e2] X.env)).any (·.1) = false := by rfl)
    (hs2 : starEach [.Call (.Name "zip" p2) [e1, e2] [] pos2] X.env = (false, eval (.Call (.Name "zip" p2) [e1, e2] [] pos2) X.env) :: starEach [] X.env := by rfl) :
    JE X B (.Call (.Name "list" p) [.Call (.Name "zip" p2) [e1, e2] [] pos2] [] pos) (pLstZR pa pr) :=
  PE_wk (Wf.pe_lstZR hc hg hm hg2 hm2 ha hr hs hs0 hpl hs2) fun σ H Q ⟨G, w, δ, Qp, rep, q, k⟩ => ⟨G, w, δ, _, rep, q, fun r δ1 v H1 G1 w1 q1 s1 rep1 => ⟨G1, _, δ1, _, rep1.drop, q1, fun x n δ2 H2 G2 w2 q2 s2 rep2 => by
    obtain ⟨w3, s3, rep3⟩ := rep1.frame s2 rep2
    obtain ⟨ds, hd, nl, rfl, rfl, q2⟩ := q2
    obtain ⟨a, us, rfl, ta, da, _⟩ := Vw.seqT rep3.sub (rep3.dat (j := 0) rfl rfl hd)
    have la := dqAll_len da
    refine ⟨a, us, rfl, rfl, by rw [la], ta, fun q0 ps H3 hq0 hps s hq hpl hp => ?_⟩
    obtain ⟨st, r2⟩ := rep3.drop.pub (x := none) (fun a o _ h => s a o h) (.same s) nofun
    have s3' : Same G2 H3 := fun x o e => s x o (rep3.sub x o e)
    have dp : DpAll _ H3 (ps.map V.ref) (zipD ds (nums0 ds.length)) := dpAll_zip (dqAll_dp s3' _ _ da) (dp_nums (List.range ds.length)) hpl (by rw [List.length_map, List.length_range, la]) fun i p hip => by
      obtain ⟨u, e1, e2⟩ := hp i p hip
      have hi : i < ds.length := by rw [← la]; exact (List.getElem?_eq_some_iff.mp e1).1
      exact ⟨u, _, e1, by rw [List.getElem?_map, List.getElem?_range hi]; rfl, e2⟩
    have dq : DqAll _ (pubT G2 H3 none) (ps.map V.ref) (zipD ds (nums0 ds.length)) := dpAll_pub (x := none) s3' (fun _ _ h => by cases h) _ _ (noL_zip nl (noL_nums _)) dp
    have gq : pubT G2 H3 none q0 = none := by
      cases e : pubT G2 H3 none q0 with
      | none => rfl
      | some o =>
        rcases pubT_some e with ⟨u, z, _⟩ | z | ⟨_, xs, hr⟩
        · cases z
        · have := rep3.sub _ _ z; rw [hq0] at this; cases this
        · exact absurd hr (NoX.lst hq xs)
    have wq : evn (w3 q0) = none := by
      cases e : evn (w3 q0) with
      | none => rfl
      | some i => exact absurd hq0 (rep3.drop.out q0 i e).2.1
    obtain ⟨w', st', r'⟩ := Rep.takeL st r2 hq0 hq gq wq dq rep3.drop.bs
    exact k _ δ2 _ _ _ _ q2 ((s1.trans s3).trans (Stp.drop.trans st')) r'⟩⟩
end Pv
namespace Pv
open PySem PySem.Spec L2 Wf
/-! ### _law_runs -/
-- DEF _law_runs N ['_law_deal_here', '_law_many', '_law_word', '_law_m', '_law_step'] calls ['_law_draw'] takes []
def RunsOk (n : Nat) (ws : List Nat) : Prop := ∃ c : Nat → Nat, (∀ m, m < n → c m ≤ m) ∧ ws = runsW c n
theorem RunsOk.one : RunsOk 1 [] := ⟨fun _ => 0, fun _ _ => Nat.zero_le _, rfl⟩
theorem RunsOk.len {n : Nat} {ws : List Nat} (h : RunsOk n ws) (hn : n ≤ 10) : ws.length ≤ 100 := by
  obtain ⟨c, hc, rfl⟩ := h
  have : ∀ m, m ≤ n → (runsW c m).length ≤ 10 * m := fun m => by
    induction m with
    | zero => intro _; simp [runsW]
    | succ m ih =>
      intro hm
      rw [runsW_succ, List.length_append, runW_len]
      have := ih (by omega)
      have := hc m (by omega)
      omega
  have := this n (Nat.le_refl _)
  omega
/-! ### _law_behind -/
-- DEF _law_behind N ['_law_many', '_law_word', '_law_order_here', '_law_falling', '_law_k'] calls ['_law_order', 'order_behind', 'free_order', 'is_forward'] takes ['cNoPassing']
/-! ### k12 -/
-- DEF law N ['_law_script', '_law_deal_here', '_law_many', '_law_one', '_law_other', '_law_first', '_law_second', '_law_order_here', '_law_word'] calls ['_law_deal', '_law_draw', '_law_runs', '_law_behind', '_law_alike', 'normal_word', 'pairs_passed'] takes ['cNoOrder']
theorem eqd_dN (a b : List Nat) : eqd (.tuple (dN a)) (.tuple (dN b)) = decide (a = b) := by
  have go : ∀ a b : List Nat, PyData.eqvAll (dN a) (dN b) = decide (a = b) := fun a => by
    induction a with
    | nil => intro b; cases b <;> simp [PyData.eqvAll]
    | cons x a ih =>
      intro b
      cases b with
      | nil => simp [PyData.eqvAll]
      | cons y b =>
        have := ih b
        show (PyData.eqv (nD x) (nD y) && PyData.eqvAll (dN a) (dN b)) = _
        rw [this]
        have e : PyData.eqv (nD x) (nD y) = decide (x = y) := by
          show ((x : Int) == (y : Int)) = decide (x = y)
          by_cases c : x = y
          · subst c; simp
          · rw [beq_false_of_ne (show (x : Int) ≠ (y : Int) by omega), decide_eq_false c]
        rw [e]
        by_cases c1 : x = y <;> by_cases c2 : a = b <;> simp [c1, c2]
  have := go a b
  simpa [eqd, PyData.eqv] using this
end Pv
namespace Pv
open PySem PySem.Spec L2 Wf
/-! ### _law_settled -/
-- DEF _law_settled N ['_law_found', '_law_least', '_law_i', '_law_j', '_law_upper', '_law_lower'] calls [] takes []
def pb_lsettled_1 : PSx :=
    pSet 1 (pC (q2 fMax2) (pCons (pVar 1) (pCons (pAdd (pFdiv (pVar 4) (pVar 5)) (pC (q1 fInt1) (pCons (pLt (pMul (pFdiv (pVar 4) (pVar 5)) (pVar 5)) (pVar 4)) (pNil)))) (pNil))))
def pr_lsettled_1 : PSx :=
    pRet (pVar 1)
def pr_lsettled_2 : PSx :=
    pSeq (pFor [2, 3, 4, 5] (iSeq (pVar 0)) (gT 3 (gsC (gT 2 (gsC (gN 4) (gsC (gN 5) (gsN)))) (gsC (gN 2) (gsC (gN 3) (gsN))))) (pb_lsettled_1))
    (pr_lsettled_1)
def p_lsettled : PSx :=
    pSeq (pSet 1 (pK (.int 0)))
    (pr_lsettled_2)
def psp_lsettled : PSp := fun as Q _ => ∃ (m : Int) (ps : List Int) (ks : List Nat) (ss : List Int), as = [.im (.list ((thL ps ks ss).map (pasD ps ks ss)))] ∧ RdOk m ps ks ss ∧ Q (.im (.int (stlT ps ks ss))) [.un]
theorem hp_lsettled (as : List Sl) (Qp : QE) (Ep : EX) (h : psp_lsettled as Qp Ep) : p_lsettled (endsP as Qp) (as ++ List.replicate 5 .un) := by
  obtain ⟨m, ps, ks, ss, rfl, ok, q⟩ := h
  have EL : EvL ks.length (kf ks) (pf ps ks) (sf ss) (thL ps ks ss) := theL_ok ok.rod
  refine ⟨_, _, rfl, ?_⟩
  show pr_lsettled_2 _ [.im (.list ((thL ps ks ss).map (pasD ps ks ss))), .im (.int 0), .un, .un, .un, .un]
  refine ⟨_, _, _, rfl, rfl, fun i δ => ∃ x : Int, (∀ e ∈ (thL ps ks ss).take i, clE ps ks ss e ≤ x) ∧ 0 ≤ x ∧ x ≤ stlT ps ks ss ∧ δ = [.im (.list ((thL ps ks ss).map (pasD ps ks ss))), .im (.int x), .un, .un, .un, .un], ⟨0, nofun, Int.le_refl _, stl_nn ok, rfl⟩, ?_, ?_⟩
  · rintro i d δ hd ⟨x, hx, x0, xs, rfl⟩
    rw [List.getElem?_map] at hd
    obtain ⟨e, he, rfl⟩ := Option.map_eq_some_iff.mp hd
    have em := List.mem_of_getElem? he
    have ev := (EL.mem e).mp em
    have lb := loB_pos ok ev
    have cl := cl_le ok em
    have wd : CDivW (loA ps ks ss e : Int) (loB ps ks ss e : Int) := wide_div (b := 12) (by omega) (by rw [Int.natAbs_natCast]; omega) (by decide) (by decide)
    refine ⟨rfl, rfl, rfl, rfl, wd, wd, cmuN (Nat.lt_of_le_of_lt lb.2 (by decide)), trivial, _, _, rfl, ?_⟩
    have fin : ∀ c : Int, c = clE ps ks ss e → ∃ x' : Int, (∀ f ∈ (thL ps ks ss).take (i + 1), clE ps ks ss f ≤ x') ∧ 0 ≤ x' ∧ x' ≤ stlT ps ks ss ∧ x' = if c > x then c else x := by
      rintro c rfl
      refine ⟨_, fun f hf => ?_, ?_, ?_, rfl⟩
      · rw [List.take_add_one, he] at hf
        rcases List.mem_append.mp hf with h1 | h1
        · have := hx f h1
          split <;> omega
        · have h1 : f = e := by simpa using h1
          subst h1
          split <;> omega
      · split <;> omega
      · split <;> omega
    obtain ⟨x', f1, f2, f3, f4⟩ := fin ((loA ps ks ss e : Int) / (loB ps ks ss e : Int) + (if decide ((loA ps ks ss e : Int) / (loB ps ks ss e : Int) * (loB ps ks ss e : Int) < (loA ps ks ss e : Int)) = true then 1 else 0)) (by
      unfold clE
      congr 1
      by_cases c : (loA ps ks ss e : Int) / (loB ps ks ss e : Int) * (loB ps ks ss e : Int) < (loA ps ks ss e : Int)
      · rw [if_pos c, if_pos (decide_eq_true c)]
      · rw [if_neg c, if_neg (by rw [decide_eq_true_eq]; exact c)])
    refine ⟨x', f1, f2, f3, ?_⟩
    rw [f4]
    rfl
  · rintro δ ⟨x, hx, x0, xs, rfl⟩
    rw [List.length_map, List.take_length] at hx
    have e : x = stlT ps ks ss := by
      rcases List.eq_nil_or_concat (thL ps ks ss) with h0 | ⟨L', f, h0⟩
      · have : stlT ps ks ss = 0 := by unfold stlT; rw [h0]; rfl
        omega
      · rw [List.concat_eq_append] at h0
        have h1 := (stl_last ok h0).1
        have h2 := hx f (by rw [h0]; simp)
        omega
    subst e
    exact ⟨_, _, rfl, q⟩
/-! ### _law_right -/
-- DEF _law_right N ['_law_book_here', '_law_row', '_law_spots_here', '_law_kinds_here', '_law_found', '_law_ends', '_law_due', '_law_last', '_law_kind', '_law_burden', '_law_walker'] calls ['_law_passings', '_law_settled', '_law_alike', 'settled_at', '_law_led', '_law_word_by', 'row_at_last', 'order_by', 'row_by'] takes []
def pe_lright33_1 : PX :=
    pVar 8
def pe_lright33_2 : PX :=
    pVar 10
def pr_lright33_1 : PSx :=
    pRet (pEq true (pCall psp_order_by (pApp (pCons (pFz (pVar 0)) (pCons (pFz (pVar 3)) (pCons (pFz (pVar 2)) (pNil)))) (pCons (pFz (pSub (pVar 6) (pK (.int 1)))) (pNil))) noX) (pVar 7))
def pr_lright33_2 : PSx :=
    pSeq (pIf (pOr (pT (pEq false (pVar 6) (pK (.int 0)))) (pT (pGt (pVar 6) (pPow (pK (.int 10)) (pK (.int 15)))))) (pRet (pK (.bool true))) (pNext))
    (pr_lright33_1)
def pr_lright33_3 : PSx :=
    pSeq (pIf (pOr (pT (pEq true (pCall psp_order_by (pApp (pCons (pFz (pVar 0)) (pCons (pFz (pVar 3)) (pCons (pFz (pVar 2)) (pNil)))) (pCons (pFz (pVar 6)) (pNil))) noX) (pVar 7))) (pT (pEq true (pCall psp_row_by (pApp (pCons (pFz (pVar 0)) (pCons (pFz (pVar 1)) (pCons (pFz (pVar 2)) (pNil)))) (pCons (pFz (pVar 6)) (pNil))) noX) (pVar 5)))) (pRet (pK (.bool false))) (pNext))
    (pr_lright33_2)
def pr_lright33_4 : PSx :=
    pSeq (pIf (pNot (pT (pCall psp_alike (pCons (pFz (pCall psp_row_at_last (pCons (pFz (pVar 0)) (pCons (pFz (pVar 1)) (pCons (pFz (pVar 2)) (pNil)))) noX)) (pCons (pFz (pVar 5)) (pNil))) noX))) (pRet (pK (.bool false))) (pNext))
    (pr_lright33_3)
def pr_lright33_5 : PSx :=
    pSeq (pSet 5 (pCall psp_lled (pCons (pFz (pVar 0)) (pCons (pFz (pVar 1)) (pCons (pFz (pCall psp_lword_by (pCons (pFz (pVar 4)) (pCons (pFz (pVar 6)) (pNil))) noX)) (pNil)))) noX))
    (pr_lright33_4)
def pr_lright33_6 : PSx :=
    pSeq (pIf (pNot (pT (pCall psp_alike (pCons (pFz (pCall psp_settled_at (pCons (pFz (pVar 0)) (pCons (pFz (pVar 3)) (pCons (pFz (pVar 2)) (pNil)))) noX)) (pCons (pFz (pVar 6)) (pNil))) noX))) (pRet (pK (.bool false))) (pNext))
    (pr_lright33_5)
def pr_lright33_7 : PSx :=
    pSeq (pPar [6, 7] (pCons (pCall psp_lsettled (pCons (pFz (pVar 4)) (pNil)) noX) (pCons (pC (q1 fTupleOf) (pCons (pComp (iSeq (pC (q1L fSortL) (pCons (pLstZR (pVar 3) (pRg1 (pC (q1 fLen) (pCons (pVar 3) (pNil))))) (pNil)))) (gT 2 (gsC (gN 8) (gsC (gN 10) (gsN)))) (pYes) (pe_lright33_2) [8, 10]) (pNil))) (pNil))))
    (pr_lright33_6)
def pr_lright33_8 : PSx :=
    pSeq (pSet 4 (pCall psp_lpass30 (pCons (pFz (pVar 0)) (pCons (pFz (pVar 3)) (pCons (pFz (pVar 2)) (pNil)))) noX))
    (pr_lright33_7)
def p_lright33 : PSx :=
    pSeq (pSet 3 (pC (q1 fTupleOf) (pCons (pComp (iSeq (pVar 1)) (gT 2 (gsC (gN 8) (gsC (gN 9) (gsN)))) (pYes) (pe_lright33_1) [8, 9]) (pNil))))
    (pr_lright33_8)
abbrev st33 (B : Book) (r : List Wk) (ss : List Int) (s3 s4 s5 s6 s7 : Sl) : List Sl := [.im (dB B), .im (dR r), .im (dK ss), s3, s4, s5, s6, s7, .un, .un, .un]
def psp_lright33 : PSp := fun as Q _ => ∃ (B : Book) (m : Int) (r : List Wk) (ss : List Int), as = [.im (dB B), .im (dR r), .im (dK ss)] ∧ BookOk m B ∧ RowOk m B.s r ∧ RdOk m B.ps (kindsN r) ss ∧ Q (.im (.bool true)) [.un, .un, .un]
theorem hp_lright33 (as : List Sl) (Qp : QE) (Ep : EX) (h : psp_lright33 as Qp Ep) : p_lright33 (endsP as Qp) (as ++ List.replicate 8 .un) := by
  obtain ⟨B, m, r, ss, rfl, bk, ok, rd, q⟩ := h
  have n10 := rd.n10
  have kl := kindsN_len r
  have rl : r.length ≤ 10 := by omega
  have EL := theL_ok rd.rod
  refine ⟨_, _, _, rfl, rfl, noPin2 (fun o => nofun) (fun o => nofun), fun i acc δ => acc = dN (kindsN (r.take i)) ∧ δ = st33 B r ss .un .un .un .un .un, ⟨rfl, rfl⟩, ?_, ?_⟩
  · rintro i d acc δ hd ⟨rfl, rfl⟩
    rw [List.getElem?_map] at hd
    obtain ⟨p, hp, rfl⟩ := Option.map_eq_some_iff.mp hd
    have o := ok p (List.mem_of_getElem? hp)
    refine ⟨rfl, rfl, _, _, rfl, ?_, ?_, rfl⟩
    · rw [dN_len, kindsN_len, List.length_take]
      exact szN (m := 1000) (by omega) (by decide)
    · rw [List.take_add_one, hp]
      show _ ++ [PyData.int p.1] = dN (kindsN (r.take i ++ [p]))
      unfold kindsN
      rw [List.map_append, dN_app]
      show _ = _ ++ [PyData.int ((p.1.toNat : Nat) : Int)]
      rw [Int.toNat_of_nonneg o.1]
  rintro acc δ ⟨rfl, rfl⟩
  rw [List.length_map, List.take_length]
  refine ⟨_, _, rfl, ?_⟩
  show pr_lright33_8 _ (st33 B r ss (.im (.tuple (dN (kindsN r)))) .un .un .un .un)
  refine ⟨_, _, rfl, _, _, rfl, _, _, rfl, _, rfl, List.nodup_nil, m, B.ps, _, kindsN r, ss, rfl, rd, _, _, rfl, ?_⟩
  show pr_lright33_7 _ (st33 B r ss (.im (.tuple (dN (kindsN r)))) (.ow false (.lst ((thL B.ps (kindsN r) ss).map (pasD B.ps (kindsN r) ss)))) .un .un .un)
  refine ⟨_, _, rfl, _, rfl, List.nodup_nil, m, B.ps, kindsN r, ss, rfl, rd, ?_⟩
  generalize hT : stlT B.ps (kindsN r) ss = T at *
  generalize hK : kindsN r = K at *
  let key : Nat → List Int := fun i => [((K.getD i 0 : Nat) : Int), (i : Int)]
  have dl : (dN K).length = K.length := dN_len K
  have ez : PyData.list (zipD (dN K) (nums0 (dN K).length)) = .list (((List.range K.length).map key).map dK) := by
    refine congrArg PyData.list (List.ext_getElem? fun j => ?_)
    rw [dl, List.getElem?_map, List.getElem?_map]
    by_cases c : j < K.length
    · rw [zipD_get (dN K) (nums0 K.length) j (dN_get (getD_of c)) (by unfold nums0; rw [List.getElem?_map, List.getElem?_range c]; rfl), List.getElem?_range c]
      rfl
    · rw [List.getElem?_eq_none (by rw [zipD_len, dl]; omega), List.getElem?_eq_none (by rw [List.length_range]; omega)]
      rfl
  refine ⟨_, rfl, _, rfl, noL_dN K, rfl, rfl, (List.range K.length).map key, 2, ez, by decide, fun x hx => ?_, fun mss pm so => ?_⟩
  · obtain ⟨i, _, rfl⟩ := List.mem_map.mp hx
    rfl
  obtain ⟨o, po, rfl⟩ := perm_map_inv pm
  have so' : o.Pairwise fun a b => kf K a < kf K b ∨ kf K a = kf K b ∧ a ≤ b := by
    rw [List.pairwise_map] at so
    refine so.imp fun {x y} h => ?_
    have h : HT.lexLt [((K.getD y 0 : Nat) : Int), (y : Int)] [((K.getD x 0 : Nat) : Int), (x : Int)] = false := h
    simp only [HT.lexLt_cons] at h
    show K.getD x 0 < K.getD y 0 ∨ K.getD x 0 = K.getD y 0 ∧ x ≤ y
    split at h
    · split at h
      · omega
      · have := of_decide_eq_false h; omega
    · have := of_decide_eq_false h; omega
  have eo := last_one rd po so'
  rw [hT] at eo
  subst eo
  generalize hO : ordT B.ps K ss T = O at *
  have ol : O.length ≤ 10 := by rw [po.length_eq, List.length_range]; exact n10
  refine ⟨_, _, _, rfl, rfl, noPin2 (fun o => nofun) (fun o => nofun), fun i acc δ => acc = dN (O.take i) ∧ δ = st33 B r ss (.im (.tuple (dN K))) (.im (.list ((thL B.ps K ss).map (pasD B.ps K ss)))) .un .un .un, ⟨rfl, rfl⟩, ?_, ?_⟩
  · rintro i d acc δ hd ⟨rfl, rfl⟩
    rw [List.getElem?_map, List.getElem?_map] at hd
    obtain ⟨d0, h0, rfl⟩ := Option.map_eq_some_iff.mp hd
    obtain ⟨x, hx, rfl⟩ := Option.map_eq_some_iff.mp h0
    refine ⟨rfl, rfl, _, _, rfl, ?_, ?_, rfl⟩
    · rw [dN_len, List.length_take]
      exact szN (m := 1000) (by omega) (by decide)
    · rw [List.take_add_one, hx, dN_app]
      rfl
  rintro acc δ ⟨rfl, rfl⟩
  rw [List.length_map, List.length_map, List.take_length]
  refine ⟨_, _, rfl, ?_⟩
  show pr_lright33_6 _ (st33 B r ss (.im (.tuple (dN K))) (.im (.list ((thL B.ps K ss).map (pasD B.ps K ss)))) .un (.im (.int T)) (.im (.tuple (dN O))))
  refine ⟨_, _, rfl, _, _, rfl, _, _, rfl, _, rfl, List.nodup_nil, m, B.ps, _, K, ss, rfl, rd, ?_⟩
  rw [hT]
  refine ⟨_, _, rfl, _, _, rfl, _, rfl, List.nodup_nil, _, rfl, rfl, Nat.le_of_ble_eq_true rfl, _, rfl, ?_⟩
  show pr_lright33_5 _ (st33 B r ss (.im (.tuple (dN K))) (.im (.list ((thL B.ps K ss).map (pasD B.ps K ss)))) .un (.im (.int T)) (.im (.tuple (dN O))))
  have fw := fwd_of_word bk ok (by rw [hK]; exact wrd_ok rd T)
  have sw := stl_word rd
  rw [hT] at sw
  refine ⟨_, _, rfl, _, _, rfl, _, _, rfl, _, _, rfl, _, rfl, List.nodup_nil, m, B.ps, K, ss, T, rfl, rd, _, _, rfl, _, rfl, List.nodup_nil, B, m, r, wrdT B.ps K ss T, _, rfl, rfl, bk, ok, fw, _, _, rfl, ?_⟩
  have lR := (ledN_ok bk ok fw).2
  have wR := wt_dR (ledN B r (wrdT B.ps K ss T))
  generalize hW : wrdT B.ps K ss T = W at *
  show pr_lright33_4 _ (st33 B r ss (.im (.tuple (dN K))) (.im (.list ((thL B.ps K ss).map (pasD B.ps K ss)))) (.im (dR (ledN B r W))) (.im (.int T)) (.im (.tuple (dN O))))
  refine ⟨_, _, rfl, _, _, rfl, _, _, rfl, _, rfl, List.nodup_nil, B, m, r, ss, rfl, bk, ok, by rw [hK]; exact rd, ?_⟩
  rw [hK, ← sw]
  refine ⟨_, _, rfl, _, _, rfl, _, rfl, List.nodup_nil, _, rfl, noL_dR _, by omega, _, rfl, ?_⟩
  show pr_lright33_3 _ (st33 B r ss (.im (.tuple (dN K))) (.im (.list ((thL B.ps K ss).map (pasD B.ps K ss)))) (.im (dR (ledN B r W))) (.im (.int T)) (.im (.tuple (dN O))))
  refine ⟨_, _, rfl, _, _, rfl, _, _, rfl, _, _, rfl, _, rfl, List.nodup_nil, m, B.ps, _, K, ss, T, rfl, rd, ?_⟩
  rw [hO]
  have shO : ∀ o : List Nat, SeqAt.shaped (.tuple (dN o)) = true := fun o => shaped_dN o
  refine ⟨shO _, shO _, _, rfl, ?_⟩
  show if (!eqd (.tuple (dN O)) (.tuple (dN O))) = true then _ else _
  rw [eqd_self (shO _)]
  refine ⟨_, _, rfl, _, _, rfl, _, _, rfl, _, _, rfl, _, rfl, List.nodup_nil, B, m, r, ss, T, rfl, bk, ok, by rw [hK]; exact rd, ?_⟩
  rw [hK, hW]
  refine ⟨shaped_dR _, shaped_dR _, _, rfl, ?_⟩
  show if (!eqd (dR (ledN B r W)) (dR (ledN B r W))) = true then _ else _
  rw [eqd_self (shaped_dR _)]
  show pr_lright33_2 _ (st33 B r ss (.im (.tuple (dN K))) (.im (.list ((thL B.ps K ss).map (pasD B.ps K ss)))) (.im (dR (ledN B r W))) (.im (.int T)) (.im (.tuple (dN O))))
  refine ⟨_, rfl, ?_⟩
  show if decide (T = 0) = true then _ else _
  have t0 := stl_nn rd
  rw [hT] at t0
  by_cases c0 : T = 0
  · rw [if_pos (decide_eq_true c0)]
    exact ⟨_, _, rfl, q⟩
  rw [if_neg (by rw [decide_eq_true_eq]; exact c0)]
  refine ⟨⟨by decide, by decide, by decide⟩, trivial, _, rfl, ?_⟩
  show if decide ((10 : Int) ^ Int.toNat 15 < T) = true then _ else _
  by_cases c1 : (10 : Int) ^ Int.toNat 15 < T
  · rw [if_pos (decide_eq_true c1)]
    exact ⟨_, _, rfl, q⟩
  rw [if_neg (by rw [decide_eq_true_eq]; exact c1)]
  show pr_lright33_1 _ (st33 B r ss (.im (.tuple (dN K))) (.im (.list ((thL B.ps K ss).map (pasD B.ps K ss)))) (.im (dR (ledN B r W))) (.im (.int T)) (.im (.tuple (dN O))))
  have ny := not_yet rd (by rw [hT]; omega)
  rw [hT, hO] at ny
  refine ⟨_, _, rfl, _, _, rfl, _, _, rfl, trivial, _, _, rfl, _, rfl, List.nodup_nil, m, B.ps, _, K, ss, T - 1, rfl, rd, ?_⟩
  generalize ordT B.ps K ss (T - 1) = O' at *
  have ne : eqd (.tuple (dN O')) (.tuple (dN O)) = false := by rw [eqd_dN]; exact decide_eq_false ny
  refine ⟨shO _, shO _, _, _, rfl, ?_⟩
  show Qp (.im (.bool (!eqd (.tuple (dN O')) (.tuple (dN O))))) [.un, .un, .un]
  rw [ne]
  exact q
/-! ### the law -/
-- DEF law N ['_law_script', '_law_book_here', '_law_turn', '_law_deal_here', '_law_asked', '_law_kinds_here', '_law_spots_here', '_law_row', '_law_kind'] calls ['_law_deal', '_law_book', '_law_draw', '_law_setting', '_law_right'] takes []
def pe_law33_1 : PX :=
    pTup (pCons (pVar 8) (pCons (pCall psp_draw (pCons (pVar 3) (pCons (pFz (pIx (pVar 1) (pK (.int 1)))) (pNil))) noX) (pNil)))
def pr_law33_1 : PSx :=
    pExpr (pMt mAppend (pVar 4) (pCons (pTup (pCons (pC (q1 fTupleOf) (pCons (pComp (iSeq (pVar 5)) (gN 8) (pYes) (pe_law33_1) [8]) (pNil))) (pCons (pVar 6) (pNil)))) (pNil)))
def pb_law33_3 : PSx :=
    pSeq (pAsg (pCall psp_lsetting (pCons (pVar 3) (pCons (pFz (pVar 1)) (pNil))) noX) (gT 2 (gsC (gN 5) (gsC (gN 6) (gsN)))))
    (pr_law33_1)
def pe_law33_4 : PX :=
    pCall psp_lright33 (pCons (pFz (pVar 1)) (pCons (pFz (pVar 7)) (pCons (pFz (pVar 6)) (pNil)))) noX
def pr_law33_2 : PSx :=
    pRet (pC (q1 fAll) (pCons (pComp (iSeq (pAdd (pVar 4) (pSlice (pVar 4) (oNone) (oSome (pK (.int 1)))))) (gT 2 (gsC (gN 7) (gsC (gN 6) (gsN)))) (pYes) (pe_law33_4) [7, 6]) (pNil)))
def pr_law33_3 : PSx :=
    pSeq (pFor [2, 5, 6] (iRg (pCons (pK (.int 3)) (pNil))) (gN 2) (pb_law33_3))
    (pr_law33_2)
def pr_law33_4 : PSx :=
    pSeq (pSet 1 (pCall psp_book (pCons (pVar 3) (pCons (pFz (pAdd (pK (.int 1)) (pCall psp_draw (pCons (pVar 3) (pCons (pFz (pK (.int 5))) (pNil))) noX))) (pCons (pFz (pAdd (pK (.int 1)) (pCall psp_draw (pCons (pVar 3) (pCons (pFz (pK (.int 6))) (pNil))) noX))) (pCons (pFz (pCall psp_draw (pCons (pVar 3) (pCons (pFz (pK (.int 3))) (pNil))) noX)) (pNil))))) noX))
    (pr_law33_3)
def p_law33 : PSx :=
    pSeq (pPar [3, 4] (pCons (pCall psp_deal (pCons (pVar 0) (pCons (pFz (pK (.int 0))) (pNil))) noX) (pCons (pLst (pNil)) (pNil))))
    (pr_law33_4)
abbrev st33l (ns : List Int) (s1 s2 : Sl) (A : List PyData) (s5 s6 : Sl) : List Sl := [.ow true (.scr ns), s1, s2, .ow false .deal, .ow false (.lst A), s5, s6, .un, .un]
inductive Ask33 (B : Book) (m : Int) : PyData → Prop
  | mk (r : List Wk) (ss : List Int) : RowOk m B.s r → RdOk m B.ps (kindsN r) ss → Ask33 B m (.tuple [dR r, dK ss])
theorem hp_turn33 {E : PEn} {ns : List Int} {B : Book} {m : Int} {A : List PyData} {i : Nat} (bk : BookOk m B) (al : A.length ≤ 100) (hA : ∀ d ∈ A, Ask33 B m d)
    (q : ∀ (A' : List PyData) (x5 x6 : PyData), (∀ d ∈ A', Ask33 B m d) → A'.length = A.length + 1 → E.nx (st33l ns (.im (dB B)) (.im (nD i)) A' (.im x5) (.im x6))) :
    pb_law33_3 E (st33l ns (.im (dB B)) (.im (nD i)) A .un .un) := by
  have s1 := bk.s1
  have s6 := bk.s6
  refine ⟨_, _, rfl, _, rfl, nd1 3, m, B.ps, _, rfl, bk.pac, bk.m1, bk.m5, fun ks ss rd => ?_⟩
  simp only [pk31]
  refine ⟨_, _, rfl, rfl, rfl, ?_⟩
  show pr_law33_1 E (st33l ns (.im (dB B)) (.im (nD i)) A (.im (.tuple (dN ks))) (.im (dK ss)))
  have n10 := rd.n10
  refine ⟨_, _, _, rfl, rfl, _, _, _, rfl, rfl, noPin1 (fun o => nofun), fun j acc δ => ∃ r : List Wk, acc = r.map dP ∧ kindsN r = ks.take j ∧ RowOk m B.s r ∧ δ = st33l ns (.im (dB B)) (.im (nD i)) A (.im (.tuple (dN ks))) (.im (dK ss)), ⟨[], rfl, rfl, nofun, rfl⟩, ?_, ?_⟩
  · rintro j d acc δ hd ⟨r, rfl, kr, ok, rfl⟩
    have hd : (ks.map nD)[j]? = some d := hd
    rw [List.getElem?_map] at hd
    obtain ⟨k, hk, rfl⟩ := Option.map_eq_some_iff.mp hd
    have km := rd.kl k (List.mem_of_getElem? hk)
    have rl := kindsN_len r
    rw [kr, List.length_take] at rl
    refine ⟨_, atI_of (j := 1) rfl rfl, _, _, rfl, _, rfl, nd1 3, _, rfl, by show (0 : Int) < B.s; omega, Int.lt_of_le_of_lt (show B.s ≤ 6 by omega) (by decide), fun c hc => ?_⟩
    simp only [pk31]
    have hc : (c : Int) < B.s := hc
    refine ⟨_, _, rfl, ?_, r ++ [((k : Int), (c : Int))], ?_, ?_, ?_, rfl⟩
    · rw [List.length_map]
      exact szN (m := 100) (by omega) (by decide)
    · rw [List.map_append]; rfl
    · rw [List.take_add_one, hk, ← kr]
      unfold kindsN
      rw [List.map_append]
      rfl
    · intro p hp
      rcases List.mem_append.mp hp with h1 | h1
      · exact ok p h1
      · rw [List.mem_singleton.mp h1]
        exact ⟨Int.natCast_nonneg k, km, Int.natCast_nonneg c, hc⟩
  · rintro acc δ ⟨r, rfl, kr, ok, rfl⟩
    have el : (dN ks).length = ks.length := List.length_map _
    rw [el, List.take_length] at kr
    subst kr
    refine ⟨_, _, _, _, rfl, rfl, szN (m := 100) al (by decide), ?_⟩
    exact q (A ++ [.tuple [dR r, dK ss]]) _ _ (fun d hd => by
      rcases List.mem_append.mp hd with h1 | h1
      · exact hA d h1
      · rw [List.mem_singleton.mp h1]
        exact .mk r ss ok rd) (by simp)
theorem hp_law33 (as : List Sl) (Qp : QE) (Ep : EX) (h : psp_law as Qp Ep) : p_law33 (endsP as Qp) (as ++ List.replicate 8 .un) := by
  obtain ⟨ns, rfl, hn, q⟩ := h
  refine ⟨_, _, rfl, _, rfl, nd1 0, 0, ns, rfl, by omega, by omega, hn, _, _, rfl, ?_⟩
  show pr_law33_4 _ (st33l ns .un .un [] .un .un)
  refine ⟨_, _, rfl, _, rfl, nd1 3, _, rfl, by decide, by decide, fun a ha => ?_⟩
  simp only [pk31]
  refine ⟨_, _, rfl, _, _, rfl, _, rfl, nd1 3, _, rfl, by decide, by decide, fun b hb => ?_⟩
  simp only [pk31]
  refine ⟨_, _, rfl, _, _, rfl, _, rfl, nd1 3, _, rfl, by decide, by decide, fun c hc => ?_⟩
  simp only [pk31]
  refine ⟨_, _, rfl, _, rfl, nd1 3, _, _, _, rfl, by omega, by omega, by omega, by omega, fun ps ts pok bt bk => ?_⟩
  refine ⟨_, _, rfl, ?_⟩
  generalize hB : (Book.mk ps (1 + (b : Int)) ts) = B at bk
  show pr_law33_3 _ (st33l ns (.im (dB B)) .un [] .un .un)
  refine ⟨by decide, by decide, ?_⟩
  refine for_rg 3 rfl (fun i δ => ∃ A : List PyData, (∀ d ∈ A, Ask33 B (1 + (a : Int)) d) ∧ A.length = i ∧ δ = st33l ns (.im (dB B)) .un A .un .un) ⟨[], nofun, rfl, rfl⟩ ?_ ?_
  · rintro i δ hi ⟨A, hA, al, rfl⟩
    exact hp_turn33 bk (by omega) hA fun A' x5 x6 h1 h2 => ⟨A', h1, by omega, rfl⟩
  · rintro δ ⟨A, hA, al, rfl⟩
    have z24 : (10000 : Nat) < sizeLine := by decide
    have cl := cutD_len A none (some 1)
    refine ⟨_, rfl, ⟨by omega, _, _, _, rfl, rfl, noPin2 (fun o => nofun) (fun o => nofun), fun j acc δ => acc = List.replicate j (.bool true) ∧ δ = st33l ns (.im (dB B)) .un A .un .un, ⟨rfl, rfl⟩, ?_, ?_⟩⟩
    · rintro j d acc δ hd ⟨rfl, rfl⟩
      have jl := (List.getElem?_eq_some_iff.mp hd).1
      rw [List.length_append] at jl
      have ad : Ask33 B (1 + (a : Int)) d := by
        rcases List.mem_append.mp (List.mem_of_getElem? hd) with h1 | h1
        · exact hA d h1
        · exact hA d (mem_cutD h1)
      cases ad with
      | mk r ss ok rd =>
        refine ⟨rfl, rfl, _, _, rfl, _, _, rfl, _, _, rfl, _, rfl, List.nodup_nil, B, _, r, ss, rfl, bk, ok, rd, _, _, rfl, ?_, ?_, rfl⟩
        · rw [List.length_replicate]
          omega
        · show _ ++ List.replicate 1 _ = List.replicate (_ + 1) _
          rw [List.replicate_append_replicate]
    · rintro acc δ ⟨rfl, rfl⟩
      refine ⟨List.replicate _ true, congrArg PyData.list List.map_replicate.symm, ?_⟩
      rw [show (List.replicate (A ++ cutD A none (some 1)).length true).all id = true from List.all_eq_true.mpr fun x hx => (List.mem_replicate.mp hx).2]
      exact ⟨_, _, rfl, q⟩
end Pv
/-! Books, where the pair put in has a name of its own. -/
namespace Wf
open PySem PySem.Spec L2
def t_bookQ_c (K : PySem.W.Frag) : TS := tRet (tTup (tCons (tVar 4) (tCons (tVar 2) (tCons (tCB (qTupleOf K) (tCons (tLc (iList K (tVar 5)) (gName 6) (tYes) (tCB (qTupleOf K) (tCons (tVar 6) (tNil))) [6]) (tNil))) (tNil)))))
def t_bookQ_b (K : PySem.W.Frag) (sp_draw : Sp) : TS := (tIfS (tAnd (tTest (tOp rEq (tVar 3) (tC (.int 2)))) (tTest (tOp qGt (tCB (qLen K) (tCons (tVar 5) (tNil))) (tC (.int 0))))) (tSeq (tAsg (tOp (rIxL K) (tVar 5) (tCall sp_draw [] E0 (tCons (tVar 0) (tCons (tCB (qLen K) (tCons (tVar 5) (tNil))) (tNil))))) (gName 6))
    (tSeq (tAsg (tTup (tCons (tCall sp_draw [] E0 (tCons (tVar 0) (tCons (tVar 2) (tNil)))) (tCons (tCall sp_draw [] E0 (tCons (tVar 0) (tCons (tVar 2) (tNil)))) (tNil)))) (gName 7)) (tAsg (tVar 7) (gSub (tVar 6) (tCall sp_draw [] E0 (tCons (tVar 0) (tCons (tCB (qLen K) (tCons (tVar 6) (tNil))) (tNil)))) rSetL)))) (tNext))
def t_bookQ (K : PySem.W.Frag) (sp_paces : Sp) (sp_any : Sp) (sp_good : Sp) (sp_draw : Sp) : TS := tSeq (tAsg (tCall sp_paces [] E0 (tCons (tVar 0) (tCons (tVar 1) (tNil)))) (gName 4))
    (tSeq (tAsg (tIf (tTest (tOp rEq (tVar 3) (tC (.int 0)))) (tCall sp_any [] E0 (tCons (tVar 0) (tCons (tVar 1) (tCons (tVar 2) (tNil))))) (tCall sp_good [] E0 (tCons (tVar 0) (tCons (tVar 1) (tCons (tVar 2) (tNil)))))) (gName 5))
    (tSeq (t_bookQ_b K sp_draw)
    (t_bookQ_c K)))
theorem pure_bookQ {K : PySem.W.Frag} (vs : List V) (H : Hp) (Q : VK) (E : XK) (h : sp_book K vs H Q E) : t_bookQ K (sp_paces K) (sp_any K) (sp_good K) sp_draw (EndsQ Q) (sN 8 vs) H := by
  obtain ⟨d, l, m, s, f, rfl, m1, m5, s1, s6, hD, k⟩ := h
  show t_bookQ K (sp_paces K) (sp_any K) (sp_good K) sp_draw _ [some (.ref d), some (.int m), some (.int s), some (.int f), none, none, none, none] H
  have hn := nT_le m1 m5
  refine ⟨_, rfl, _, rfl, d, l, m, rfl, m1, m5, hD, fun v ps H1 b1 d1 hv pok => ?_⟩
  -- the end: paces and tables as a book
  have last : ∀ (c6 c7 : Option V) (F : Addr) (ls : List Addr) (ts : List Tab) (H3 : Hp), But [d, l] H H3 → Deal H3 d l → Tabs K H1 H3 F ls ts → Dp K H3 v (dI ps) → BookT m s f ts → t_bookQ_c K (EndsQ Q) [some (.ref d), some (.int m), some (.int s), some (.int f), some v, some (.ref F), c6, c7] H3 := by
    intro c6 c7 F ls ts H3 b3 d3 t3 hv3 bt
    have lt := bt.ok.len
    refine ⟨_, rfl, _, rfl, _, rfl, F, rfl, ⟨_, SqL.of t3.lst⟩, fun D hDn => ?_⟩
    refine lc_list (K := K) (a := F) (xs := ls.map V.ref) (fun i H4 => Same H3 H4 ∧ ∃ vs, H4 D = some (.lst vs) ∧ DpAll K H4 vs ((ts.take i).map dT)) ?_ ?_ ?_ ?_
    · exact ⟨same_new hDn, [], upd_same, .nil⟩
    · rintro i H4 _ ⟨s4, _⟩
      exact SqL.of (s4 _ _ t3.lst)
    · rintro i x H4 hx ⟨s4, us, e1, e2⟩
      rw [List.getElem?_map] at hx
      obtain ⟨a, ha, rfl⟩ := Option.map_eq_some_iff.mp hx
      obtain ⟨t, ht1, ta1⟩ := pr_get (t3.same s4).tab ha
      obtain ⟨ws, g1, g2⟩ := ta1.ex
      refine ⟨rfl, ?_⟩
      simp only [tYes, ↓reduceIte]
      refine ⟨_, rfl, a, ws, rfl, .inl ⟨SqL.of g1, fun q hq => ?_⟩⟩
      have sq := same_new (o := .tup ws) hq
      have hqq : upd H4 q (.tup ws) q = some (.tup ws) := upd_same
      have hDq : D ≠ q := ne_of_none e1 hq
      generalize upd H4 q (.tup ws) = H5 at sq hqq
      have e1' := sq _ _ e1
      have lu : us.length = i := by
        rw [DpAll.len e2, List.length_map, List.length_take]
        have := (List.getElem?_eq_some_iff.mp ht1).1
        omega
      refine ⟨us, e1', ?_, ?_⟩
      · rw [lu]
        have := (List.getElem?_eq_some_iff.mp ht1).1
        exact Nat.lt_of_le_of_lt (show i ≤ 10 by omega) (by decide)
      · refine ⟨fun c o e => ?_, us ++ [.ref q], upd_same, ?_⟩
        · rw [upd_ne (ne_of_none e hDn)]
          exact sq _ _ (s4 _ _ e)
        · have tp6 : Tp K H5 (upd H5 D (.lst (us ++ [.ref q]))) := tp_upd (not_lst e1')
          have tp46 := (Same.tp sq).trans tp6
          rw [List.take_add_one, ht1, List.map_append]
          refine DpAll.append (DpAll.tp tp46 _ _ (noLAll_dT _) e2) (.cons (.tup (SqT.of ?_) (DpAll.tp tp46 _ _ (noLAll_dP t) g2)) .nil)
          rw [upd_ne (Ne.symm hDq)]
          exact hqq
    · rintro H4 ⟨s4, us, e1, e2⟩
      have el : ts.take (ls.map V.ref).length = ts := List.take_of_length_le (by rw [List.length_map, t3.len]; exact Nat.le_refl _)
      rw [el] at e2
      refine ⟨D, us, rfl, .inl ⟨SqL.of e1, fun q hq => ?_⟩⟩
      have sq := same_new (o := .tup us) hq
      have hqq : upd H4 q (.tup us) q = some (.tup us) := upd_same
      generalize upd H4 q (.tup us) = H5 at sq hqq
      refine ⟨(by show 3 ≤ sizeLine; decide), fun r hr => ?_⟩
      have sr := same_new (o := .tup [v, .int s, .ref q]) hr
      have s35 := s4.trans (sq.trans sr)
      refine k _ ps ts _ (b3.trans (Same.but s35)) (Same.deal s35 d3) (.tup (SqT.of upd_same) (.cons (Dp.tp (Same.tp s35) _ _ (noL_dI ps) hv3) (.cons (.int s) (.cons (.tup (SqT.of (sr _ _ hqq)) (DpAll.tp (Same.tp (sq.trans sr)) _ _ (noLAll_dT ts) e2)) .nil)))) pok bt
  have mid : ∀ (F : Addr) (ls : List Addr) (ts : List Tab) (H2 : Hp), But [d, l] H H2 → Deal H2 d l → Tabs K H1 H2 F ls ts → Dp K H2 v (dI ps) → AllOk m s ts → (f ≠ 0 → GoodT m s ts) → tSeq (t_bookQ_b K sp_draw) (t_bookQ_c K) (EndsQ Q) [some (.ref d), some (.int m), some (.int s), some (.int f), some v, some (.ref F), none, none] H2 := by
    intro F ls ts H2 b2 d2 t2 hv2 ok g
    have lt := ok.len
    have plain : BookT m s f ts := ⟨ok, fun e => g (by omega), fun e => ⟨ts, g (by omega), .inl rfl⟩⟩
    refine ⟨_, rfl, rfl, _, rfl, ?_⟩
    by_cases hf : f = 2
    · subst hf
      simp only [decide_true, ↓reduceIte]
      refine ⟨_, rfl, _, (ls.map V.ref).length, rfl, .inl ⟨_, SqL.of t2.lst, rfl⟩, _, _, rfl, rfl, _, rfl, ?_⟩
      refine ifd (fun c => ?_) (fun c => ?_)
      · have cl : 0 < ls.length := by
          rw [List.length_map] at c
          omega
        refine ⟨_, rfl, _, rfl, _, rfl, _, (ls.map V.ref).length, rfl, .inl ⟨_, SqL.of t2.lst, rfl⟩, d, l, _, rfl, by rw [List.length_map]; omega, by rw [List.length_map, t2.len]; omega, d2, fun q H3 q0 q1 b3 d3 => ?_⟩
        rw [List.length_map] at q1
        have t3 := t2.but d1 d2 b3
        have hq : q.toNat < ls.length := by omega
        have ea : ls[q.toNat]? = some ls[q.toNat] := List.getElem?_eq_getElem hq
        generalize ls[q.toNat] = a at ea
        obtain ⟨t, ht1, ta3⟩ := pr_get t3.tab ea
        have okt := ok.ok t (List.mem_of_getElem? ht1)
        have hss := ss_le s1 s6
        have ltt := okt.len
        refine ⟨F, _, q, .ref a, rfl, rfl, SqL.of t3.lst, ?_, ?_⟩
        · unfold atI ixN
          rw [if_pos q0, if_pos (by rw [List.length_map]; exact q1)]
          show (ls.map V.ref)[q.toNat]? = _
          rw [List.getElem?_map, ea]
          rfl
        · refine ⟨_, rfl, _, rfl, d, l, s, rfl, by omega, by omega, d3, fun x H4 x0 x1 b4 d4 => ?_⟩
          refine ⟨_, rfl, _, rfl, d, l, s, rfl, by omega, by omega, d4, fun y H5 y0 y1 b5 d5 => ?_⟩
          refine ⟨(by show 2 ≤ sizeLine; decide), fun p hp => ?_⟩
          have t5 := t3.but d1 d3 (b4.trans b5)
          have sp := same_new (o := .tup [.int x, .int y]) hp
          have hpp : upd H5 p (.tup [.int x, .int y]) p = some (.tup [.int x, .int y]) := upd_same
          have b6 : But [d, l] H (upd H5 p (.tup [.int x, .int y])) := (b2.trans (b3.trans (b4.trans b5))).trans (Same.but sp)
          have d6 : Deal (upd H5 p (.tup [.int x, .int y])) d l := Same.deal sp d5
          have hv6 : Dp K (upd H5 p (.tup [.int x, .int y])) v (dI ps) := Dp.tp (((b3.trans (b4.trans b5)).tp d2.noT).trans (Same.tp sp)) _ _ (noL_dI ps) hv2
          have t6 := t5.same sp
          generalize upd H5 p (.tup [.int x, .int y]) = H6 at hpp b6 d6 hv6 t6
          obtain ⟨t', ht1', ta6⟩ := pr_get t6.tab ea
          rw [ht1] at ht1'
          cases ht1'
          obtain ⟨va, e1, e2⟩ := ta6.ex
          have lva : va.length = t.length := by rw [DpAll.len e2, List.length_map]
          refine ⟨_, rfl, _, rfl, _, rfl, _, rfl, _, va.length, rfl, .inl ⟨_, SqL.of e1, rfl⟩, d, l, _, rfl, by omega, by omega, d6, fun z H7 z0 z1 b7 d7 => ?_⟩
          have t7 := t6.but d1 d6 b7
          have na := t6.apart d1 a (List.mem_cons_of_mem _ (List.mem_of_getElem? ea))
          have e1' := b7.at na e1
          have tp7 : Tp K H6 H7 := b7.tp d6.noT
          have np := d6
          have hp7 : H7 p = some (.tup [.int x, .int y]) := by
            have : SqT K H7 p [.int x, .int y] := tp7 _ _ (SqT.of hpp)
            refine b7.at ⟨fun w => ?_, fun w => ?_⟩ hpp
            · exact (d6.noT d (by simp)) _ (.inl (w ▸ hpp))
            · exact (d6.noT l (by simp)) _ (.inl (w ▸ hpp))
          have e27 := DpAll.tp tp7 _ _ (noLAll_dP t) e2
          refine ⟨a, va, z, z.toNat, rfl, rfl, e1', ?_, ?_⟩
          · unfold ixN
            rw [if_pos z0, if_pos z1]
          · have tp8 : Tp K H7 (upd H7 a (.lst (va.set z.toNat (.ref p)))) := tp_upd (not_lst e1')
            have hF := List.nodup_cons.mp t7.nd
            have hFa : F ≠ a := fun w => hF.1 (w ▸ List.mem_of_getElem? ea)
            have ta8 : TabAt K (upd H7 a (.lst (va.set z.toNat (.ref p)))) a (t.set z.toNat (x, y)) := by
              refine ⟨_, upd_same, ?_⟩
              rw [List.map_set]
              refine DpAll.set (dP_new ?_) _ (DpAll.tp tp8 _ _ (noLAll_dP t) e27)
              rw [upd_ne (show p ≠ a from ne_of hp7 e1' (by intro w; cases w))]
              exact hp7
            have t8 : Tabs K H1 (upd H7 a (.lst (va.set z.toNat (.ref p)))) F ls (ts.set q.toNat (t.set z.toNat (x, y))) := by
              refine ⟨by rw [upd_ne hFa]; exact t7.lst, ?_, t7.nd, t7.newF, t7.newL⟩
              refine pr_chg t7.tab hF.2 ea ta8 fun c b hc hb => hb.keep (fun o e => ?_) tp8
              rw [upd_ne hc]
              exact e
            have okz : TabOk s (t.set z.toNat (x, y)) := ⟨by rw [List.length_set]; exact okt.len, fun w hw => by
              rcases List.mem_or_eq_of_mem_set hw with hw | hw
              · exact okt.inn w hw
              · rw [hw]
                exact ⟨x0, x1, y0, y1⟩⟩
            have na7 := d7.noT
            refine last _ _ F ls _ _ (fun c o hc e => ?_) (d7.upd na) t8 (Dp.tp (tp7.trans tp8) _ _ (noL_dI ps) hv6) ⟨⟨by rw [List.length_set]; exact lt, fun w hw => ?_⟩, fun e => absurd e (by decide), fun _ => ⟨ts, g (by decide), .inr ⟨q.toNat, z.toNat, (x, y), t, ht1, by omega, ⟨x0, x1, y0, y1⟩, rfl⟩⟩⟩
            · have := t6.newL a (List.mem_of_getElem? ea)
              rw [upd_ne (show c ≠ a from fun w => by rw [w] at e; rw [b1.at na e] at this; cases this)]
              exact (b6.trans b7) c o hc e
            · rcases List.mem_or_eq_of_mem_set hw with hw | hw
              · exact ok.ok w hw
              · rw [hw]
                exact okz
      · exact last none none F ls ts H2 b2 d2 t2 hv2 plain
    · have : decide (V.int f = V.int 2) = false := decide_eq_false fun z => hf (V.int.inj z)
      rw [this]
      exact last none none F ls ts H2 b2 d2 t2 hv2 plain
  refine ⟨_, rfl, rfl, _, rfl, ?_⟩
  by_cases hf : f = 0
  · subst hf
    simp only [decide_true, ↓reduceIte]
    refine ⟨_, rfl, _, rfl, _, rfl, d, l, m, s, rfl, m1, m5, s1, s6, d1, fun F ls ts H2 b2 d2 t2 ok => ?_⟩
    exact mid F ls ts H2 (b1.trans b2) d2 t2 (Dp.tp (b2.tp d1.noT) _ _ (noL_dI ps) hv) ok fun z => absurd rfl z
  · have : decide (V.int f = V.int 0) = false := decide_eq_false fun z => hf (V.int.inj z)
    rw [this]
    refine ⟨_, rfl, _, rfl, _, rfl, d, l, m, s, rfl, m1, m5, s1, s6, d1, fun F ls ts H2 b2 d2 t2 gt => ?_⟩
    exact mid F ls ts H2 (b1.trans b2) d2 t2 (Dp.tp (b2.tp d1.noT) _ _ (noL_dI ps) hv) (gt.ok s1) fun _ => gt
end Wf
namespace Wf
open PySem PySem.Spec L2 Pv LamX NdefX
/-- the rows of the linked text -/
def topS (i : Nat) : Stmt := PySem.Challenge.pw_wherefrom_k33_settled_and_last.main.body.getD i (.Pass ⟨0, 0, 0, 0⟩)
def clsS (i : Nat) : Stmt := match topS i with
  | .ClassDef _ _ _ body _ _ _ _ _ _ _ => body.getD 0 (.Pass ⟨0, 0, 0, 0⟩)
  | x => x
section
variable {P : Program} {w : World} {K : PySem.W.Frag} {mg : Str → Option Value} {base : Heap} {f : Addr} {fd : FuncData} {cNoPassing cRoadError : Addr} {T : List NTab}
abbrev s_init_NoPassing : Stmt := clsS 2
theorem sc_init_NoPassing : FnScope ["self", "at"] ["self", "at"] (defScope s_init_NoPassing) := ⟨rfl, rfl, rfl, by decide +kernel, rfl, by decide +kernel, by decide +kernel⟩
theorem ok_init_NoPassing (F : FunD K "__init__" "NoPassing.__init__" (defArgs s_init_NoPassing) (defBody s_init_NoPassing) (defScope s_init_NoPassing) [] [] f fd) (BC : BaseC K mg "RoadError" cRoadError) (O : OexC K cNoPassing) (n0 : PySem.W.findIn K (.ref cNoPassing) "at" = some none) : FnOk P w K mg base CX0 1 f fd ["self", "at"] (sp_init1 K cNoPassing "at") := by
  refine F.ok sc_init_NoPassing (fun vs H Q E h => ?_) (fun cdv A outer s H vs Q E hr h => ⟨_, PSs.nox ?_, pure_init1 (txt := "no passing there") O n0 vs H Q E h⟩)
  · obtain ⟨_, _, rfl, _⟩ := h
    rfl
  · exact pss_cons (ps_expr (pe_binit (pl := _) BC (by rfl) (pa_cons (pv 0) (pa_cons (pe_str) (pa_nil))))) (pss_one (ps_ost (pv 0) (pv 1)))
abbrev s_draw : Stmt := topS 29
abbrev N_draw : List Str := ["_law_deal_here", "_law_many", "_law_one", "_law_other", "_law_digit"]
theorem sc_draw : FnScope N_draw ["_law_deal_here", "_law_many"] (defScope s_draw) := ⟨rfl, rfl, rfl, by decide +kernel, rfl, by decide +kernel, by decide +kernel⟩
theorem ok_draw (F : FnP K "_law_draw" s_draw f fd) (B : Bl mg)  : FnOk P w K mg base CX0 1 f fd ["_law_deal_here", "_law_many"] sp_draw := by
  refine F.ok sc_draw (fun vs H Q E h => ?_) (fun cdv A outer s H vs Q E hr h => ⟨_, PSs.nox ?_, pure_draw (K := K) vs H Q E h⟩)
  · obtain ⟨_, _, _, rfl, _⟩ := h
    rfl
  · exact pss_cons (ps_while PassesOwn.never (PW.pt (pw_and (pt_cmpR op_eq (pe_dget (hu_of hr) (pv 0) (pe_str) (fun _ _ => rfl)) (pe_int) (nomark _)) (pw_and1 (pt_cmpR op_gt (pe_callB call_len (by rfl) B.b_len (by decide +kernel) (pa_cons (pe_dget (hu_of hr) (pv 0) (pe_str) (fun _ _ => rfl)) (pa_nil))) (pe_int) (nomark _))))) (pss_one (ps_dput (hu_of hr) (pv 0) (pe_str) (pe_bm0 PySem.F.plainAttrs_list PySem.F.slot_list_pop PySem.F.type_list_pop mt_pop (pe_dget (hu_of hr) (pv 0) (pe_str) (fun _ _ => rfl))) rfl)))
          (pss_cons (ps_if (pt_cmpR op_gt (pe_dget (hu_of hr) (pv 0) (pe_str) (fun _ _ => rfl)) (pe_int) (nomark _)) (pss_cons (ps_set (i := 4) sc_draw.nd rfl (by first | exact Or.inl rfl | exact Or.inr rfl) (pe_op op_mod (pe_dget (hu_of hr) (pv 0) (pe_str) (fun _ _ => rfl)) (pv 1)))
          (pss_cons (ps_dput (hu_of hr) (pv 0) (pe_str) (pe_op op_fdivW (pe_dget (hu_of hr) (pv 0) (pe_str) (fun _ _ => rfl)) (pv 1)) rfl)
          (pss_one (ps_ret (pv 4))))) (pss_nil))
          (pss_cons (ps_dput (hu_of hr) (pv 0) (pe_str) (pe_op op_add (pe_dget (hu_of hr) (pv 0) (pe_str) (fun _ _ => rfl)) (pe_int)) rfl)
          (pss_cons (ps_set (i := 2) sc_draw.nd rfl (by first | exact Or.inl rfl | exact Or.inr rfl) (pe_op op_mod (pe_op op_mul (pe_op op_add (pe_dget (hu_of hr) (pv 0) (pe_str) (fun _ _ => rfl)) (pe_op op_mul (pe_int) (pe_dget (hu_of hr) (pv 0) (pe_str) (fun _ _ => rfl)))) (pe_int)) (pe_int)))
          (pss_cons (ps_set (i := 3) sc_draw.nd rfl (by first | exact Or.inl rfl | exact Or.inr rfl) (pe_op op_mod (pe_op op_add (pe_op op_add (pe_op op_mul (pv 2) (pv 2)) (pe_op op_mul (pe_int) (pe_dget (hu_of hr) (pv 0) (pe_str) (fun _ _ => rfl)))) (pe_dget (hu_of hr) (pv 0) (pe_str) (fun _ _ => rfl))) (pe_int)))
          (pss_one (ps_ret (pe_op op_mod (pe_op op_fdiv (pe_op op_add (pe_op op_mul (pe_op op_mod (pe_op op_mul (pv 3) (pv 3)) (pe_int)) (pe_int)) (pv 2)) (pe_int)) (pv 1))))))))
abbrev s_deal : Stmt := topS 28
abbrev N_deal : List Str := ["_law_script", "_law_base", "_law_some", "_law_seed", "_law_one"]
theorem sc_deal : FnScope N_deal ["_law_script", "_law_base"] (defScope s_deal) := ⟨rfl, rfl, rfl, by decide +kernel, rfl, by decide +kernel, by decide +kernel⟩
theorem ok_deal (F : FnP K "_law_deal" s_deal f fd) (B : Bl mg)  : FnOk P w K mg base CX0 1 f fd ["_law_script", "_law_base"] (sp_deal K) := by
  refine F.ok sc_deal (fun vs H Q E h => ?_) (fun cdv A outer s H vs Q E hr h => ⟨_, PSs.nox ?_, pure_deal (K := K) vs H Q E h⟩)
  · obtain ⟨_, _, _, rfl, _⟩ := h
    rfl
  · exact pss_cons (ps_setLc (i := 2) (own := [("_law_one", 4)]) rfl sc_deal.nd rfl rfl (sw_true rfl rfl rfl (by decide +kernel)) (pi_list (pe_slice sl_list (pv 0) (po_some (pv 1)) (po_some (pe_int)))) (blkOk_by (N := N_deal) (sc := defScope s_deal) (by decide +kernel)) (fun _ _ _ _ _ => pg_name (i := 4) sc_deal.nd rfl (by first | exact Or.inl rfl | exact Or.inr rfl)) (fun _ _ _ _ _ => pts_nil) (fun _ _ _ _ _ => pe_callB (call_max2 rfl) (by rfl) B.b_max (by decide +kernel) (pa_cons (pv 4) (pa_cons (pe_op op_sub (pe_int) (pv 4)) (pa_nil)))))
          (pss_cons (ps_set (i := 3) sc_deal.nd rfl (by first | exact Or.inl rfl | exact Or.inr rfl) (pe_op op_add (pe_int) (pe_op op_mul (pe_int) (pv 1))))
          (pss_cons (ps_for PassesOwn.never rfl (pi_list (pv 2)) (pg_name (i := 4) sc_deal.nd rfl (by first | exact Or.inl rfl | exact Or.inr rfl)) (pss_one (ps_set (i := 3) sc_deal.nd rfl (by first | exact Or.inl rfl | exact Or.inr rfl) (pe_op op_mod (pe_op op_add (pe_op op_add (pe_op op_mul (pv 3) (pe_int)) (pe_op op_mod (pv 4) (pe_int))) (pe_int)) (pe_int)))))
          (pss_one (ps_ret (pe_disp (pps_cons (pe_str) (pe_op op_add (pv 3) (pe_int)) (pps_cons (pe_str) (pe_int) (pps_cons (pe_str) (pe_int) (pps_cons (pe_str) (Wf.pe_lstRev rfl (by rfl) B.b_list (by rfl) B.b_reversed (pe_lc (own := [("_law_one", 4)]) rfl sc_deal.nd (pi_list (pv 2)) (blkOk_by (N := N_deal) (sc := defScope s_deal) (by decide +kernel)) (fun _ _ _ _ _ => pg_name (i := 4) sc_deal.nd rfl (by first | exact Or.inl rfl | exact Or.inr rfl)) (fun _ _ _ _ _ => pts_one (pt_cmpR op_ge (pv 4) (pe_op op_pow (pe_int) (pe_int)) (nomark _))) (fun _ _ _ _ _ => pv 4))) (pps_nil))))) (by rfl) (by rfl) (fun z => by cases z) (by decide))))))
abbrev s_alike : Stmt := topS 30
abbrev N_alike : List Str := ["_law_found", "_law_due", "_law_left", "_law_one", "_law_other"]
theorem sc_alike : FnScope N_alike ["_law_found", "_law_due"] (defScope s_alike) := ⟨rfl, rfl, rfl, by decide +kernel, rfl, by decide +kernel, by decide +kernel⟩
theorem ok_alike (F : FnP K "_law_alike" s_alike f fd) (B : Bl mg)  : FnOk P w K mg base CX0 1 f fd ["_law_found", "_law_due"] (sp_alike K) := by
  refine F.ok sc_alike (fun vs H Q E h => ?_) (fun cdv A outer s H vs Q E hr h => ⟨_, PSs.nox ?_, pure_alike (K := K) vs H Q E h⟩)
  · obtain ⟨_, _, _, rfl, _⟩ := h
    rfl
  · exact pss_cons (ps_set (i := 2) sc_alike.nd rfl (by first | exact Or.inl rfl | exact Or.inr rfl) (pe_lst (pa_cons (pe_tup (pa_cons (pv 0) (pa_cons (pv 1) (pa_nil)))) (pa_nil))))
          (pss_cons (ps_while PassesOwn.never (pt_cmpR op_gt (pe_callB call_len (by rfl) B.b_len (by decide +kernel) (pa_cons (pv 2) (pa_nil))) (pe_int) (nomark _)) (pss_cons (ps_asg (pe_bm0 PySem.F.plainAttrs_list PySem.F.slot_list_pop PySem.F.type_list_pop mt_pop (pv 2)) (pg_tup rfl (pgs_cons (pg_name (i := 3) sc_alike.nd rfl (by first | exact Or.inl rfl | exact Or.inr rfl)) (pgs_cons (pg_name (i := 4) sc_alike.nd rfl (by first | exact Or.inl rfl | exact Or.inr rfl)) (pgs_nil)))))
          (pss_cons (ps_if (PW.pt (pw_or (pt_cmpR op_ne (pe_callB call_isi (by rfl) B.b_isinstance (by decide +kernel) (pa_cons (pv 3) (pa_cons (pe_bltn (v := .ty "bool") (by rfl) B.b_bool (by decide +kernel) rfl) (pa_nil)))) (pe_callB call_isi (by rfl) B.b_isinstance (by decide +kernel) (pa_cons (pv 4) (pa_cons (pe_bltn (v := .ty "bool") (by rfl) B.b_bool (by decide +kernel) rfl) (pa_nil)))) (nomark _)) (pw_or1 (pt_cmpR op_ne (pe_callB call_isi (by rfl) B.b_isinstance (by decide +kernel) (pa_cons (pv 3) (pa_cons (pe_bltn (v := .ty "tuple") (by rfl) B.b_tuple (by decide +kernel) rfl) (pa_nil)))) (pe_callB call_isi (by rfl) B.b_isinstance (by decide +kernel) (pa_cons (pv 4) (pa_cons (pe_bltn (v := .ty "tuple") (by rfl) B.b_tuple (by decide +kernel) rfl) (pa_nil)))) (nomark _))))) (pss_one (ps_ret (pe_bl))) (pss_nil))
          (pss_cons (ps_if (PW.pt (pw_or (pt_cmpR op_ne (pe_callB call_isi (by rfl) B.b_isinstance (by decide +kernel) (pa_cons (pv 3) (pa_cons (pe_bltn (v := .ty "list") (by rfl) B.b_list (by decide +kernel) rfl) (pa_nil)))) (pe_callB call_isi (by rfl) B.b_isinstance (by decide +kernel) (pa_cons (pv 4) (pa_cons (pe_bltn (v := .ty "list") (by rfl) B.b_list (by decide +kernel) rfl) (pa_nil)))) (nomark _)) (pw_or1 (pt_cmpR op_ne (pe_callB call_isi (by rfl) B.b_isinstance (by decide +kernel) (pa_cons (pv 3) (pa_cons (pe_bltn (v := .ty "str") (by rfl) B.b_str (by decide +kernel) rfl) (pa_nil)))) (pe_callB call_isi (by rfl) B.b_isinstance (by decide +kernel) (pa_cons (pv 4) (pa_cons (pe_bltn (v := .ty "str") (by rfl) B.b_str (by decide +kernel) rfl) (pa_nil)))) (nomark _))))) (pss_one (ps_ret (pe_bl))) (pss_nil))
          (pss_cons (ps_if (pt_cmpR op_ne (pe_callB call_isi (by rfl) B.b_isinstance (by decide +kernel) (pa_cons (pv 3) (pa_cons (pe_bltn (v := .ty "int") (by rfl) B.b_int (by decide +kernel) rfl) (pa_nil)))) (pe_callB call_isi (by rfl) B.b_isinstance (by decide +kernel) (pa_cons (pv 4) (pa_cons (pe_bltn (v := .ty "int") (by rfl) B.b_int (by decide +kernel) rfl) (pa_nil)))) (nomark _)) (pss_one (ps_ret (pe_bl))) (pss_nil))
          (pss_one (ps_if (pt_val (pe_callB call_isiT (by rfl) B.b_isinstance (by decide +kernel) (pa_cons (pv 4) (pa_cons (pe_tup (pa_cons (pe_bltn (v := .ty "tuple") (by rfl) B.b_tuple (by decide +kernel) rfl) (pa_cons (pe_bltn (v := .ty "list") (by rfl) B.b_list (by decide +kernel) rfl) (pa_nil)))) (pa_nil))))) (pss_cons (ps_if (pt_cmpR op_ne (pe_callB call_len (by rfl) B.b_len (by decide +kernel) (pa_cons (pv 3) (pa_nil))) (pe_callB call_len (by rfl) B.b_len (by decide +kernel) (pa_cons (pv 4) (pa_nil))) (nomark _)) (pss_one (ps_ret (pe_bl))) (pss_nil))
          (pss_one (ps_expr (pe_bm PySem.F.plainAttrs_list PySem.F.slot_list_extend PySem.F.type_list_extend mt_extend (pv 2) (pa_cons (Wf.pe_lstZip rfl (by rfl) B.b_list (by rfl) B.b_zip (pa_cons (pv 3) (pa_cons (pv 4) (pa_nil)))) (pa_nil)))))) (pss_one (ps_if (pt_cmpR (op_neD hr.units) (pv 3) (pv 4) (nomark _)) (pss_one (ps_ret (pe_bl))) (pss_nil))))))))))
          (pss_one (ps_ret (pe_bl))))
abbrev s_paces : Stmt := topS 31
abbrev N_paces : List Str := ["_law_deal_here", "_law_many", "_law_wide", "_law_steps", "_law_found", "_law_step", "_law_k"]
theorem sc_paces : FnScope N_paces ["_law_deal_here", "_law_many"] (defScope s_paces) := ⟨rfl, rfl, rfl, by decide +kernel, rfl, by decide +kernel, by decide +kernel⟩
theorem ok_paces (F : FnP K "_law_paces" s_paces f fd) (B : Bl mg) (C_draw : Cal P w K mg base CX0 1 "_law_draw" ["_law_deal_here", "_law_many"] sp_draw) : FnOk P w K mg base CX0 2 f fd ["_law_deal_here", "_law_many"] (sp_paces K) := by
  refine F.ok sc_paces (fun vs H Q E h => ?_) (fun cdv A outer s H vs Q E hr h => ⟨_, PSs.nox ?_, pure_paces (K := K) vs H Q E h⟩)
  · obtain ⟨_, _, _, rfl, _⟩ := h
    rfl
  · exact pss_cons (ps_set (i := 2) sc_paces.nd rfl (by first | exact Or.inl rfl | exact Or.inr rfl) (pe_lst (pa_cons (pe_int) (pa_cons (pe_int) (pa_cons (pe_int) (pa_cons (pe_op op_fdiv (pe_int) (pe_callB (call_max2 rfl) (by rfl) B.b_max (by decide +kernel) (pa_cons (pe_int) (pa_cons (pe_op op_sub (pv 1) (pe_int)) (pa_nil))))) (pa_nil)))))))
          (pss_cons (ps_setLc (i := 3) (own := [("_law_k", 6)]) rfl sc_paces.nd rfl rfl (sw_true rfl rfl rfl (by decide +kernel)) (pi_range1 (by rfl) B.b_range (pa_cons (pe_op op_sub (pv 1) (pe_int)) (pa_nil))) (blkOk_by (N := N_paces) (sc := defScope s_paces) (by decide +kernel)) (fun _ _ _ _ _ => pg_name (i := 6) sc_paces.nd rfl (by first | exact Or.inl rfl | exact Or.inr rfl)) (fun _ _ _ _ _ => pts_nil) (fun _ _ _ _ _ => pe_op op_add (pe_int) (Wf.pe_cal C_draw hr (by rfl) (pa_cons (pv 0) (pa_cons (pe_ix ix_list (pv 2) (Wf.pe_cal C_draw hr (by rfl) (pa_cons (pv 0) (pa_cons (pe_int) (pa_nil)))) (fun _ _ => rfl)) (pa_nil))))))
          (pss_cons (ps_set (i := 4) sc_paces.nd rfl (by first | exact Or.inl rfl | exact Or.inr rfl) (pe_lst (pa_cons (pe_op op_sub (Wf.pe_cal C_draw hr (by rfl) (pa_cons (pv 0) (pa_cons (pe_op op_sub (pe_int) (pe_callB (cr_sum rfl) (by rfl) B.b_sum (by decide +kernel) (pa_cons (pv 3) (pa_nil)))) (pa_nil)))) (pe_int)) (pa_nil))))
          (pss_cons (ps_for PassesOwn.never rfl (pi_list (pv 3)) (pg_name (i := 5) sc_paces.nd rfl (by first | exact Or.inl rfl | exact Or.inr rfl)) (pss_one (ps_expr (pe_bm PySem.F.plainAttrs_list PySem.F.slot_list_append PySem.F.type_list_append mt_append (pv 4) (pa_cons (pe_op op_add (pe_ix ix_list (pv 4) (pe_un un_neg (pe_int)) (fun _ _ => rfl)) (pv 5)) (pa_nil))))))
          (pss_one (ps_ret (pe_callTy call_tuple_of (by rfl) B.b_tuple (by decide +kernel) (pa_cons (pv 4) (pa_nil))))))))
abbrev s_pair : Stmt := topS 32
abbrev N_pair : List Str := ["_law_form", "_law_size", "_law_step", "_law_a", "_law_b", "_law_some", "_law_d", "_law_e"]
theorem sc_pair : FnScope N_pair ["_law_form", "_law_size", "_law_step", "_law_a", "_law_b"] (defScope s_pair) := ⟨rfl, rfl, rfl, by decide +kernel, rfl, by decide +kernel, by decide +kernel⟩
theorem ok_pair (F : FnP K "_law_pair" s_pair f fd) (B : Bl mg)  : FnOk P w K mg base CX0 1 f fd ["_law_form", "_law_size", "_law_step", "_law_a", "_law_b"] (sp_pair K) := by
  refine F.ok sc_pair (fun vs H Q E h => ?_) (fun cdv A outer s H vs Q E hr h => ⟨_, PSs.nox ?_, pure_pair (K := K) vs H Q E h⟩)
  · obtain ⟨_, _, _, _, _, _, rfl, _⟩ := h
    rfl
  · exact pss_cons (ps_asg (pv 2) (pg_tup rfl (pgs_cons (pg_name (i := 6) sc_pair.nd rfl (by first | exact Or.inl rfl | exact Or.inr rfl)) (pgs_cons (pg_name (i := 7) sc_pair.nd rfl (by first | exact Or.inl rfl | exact Or.inr rfl)) (pgs_nil)))))
          (pss_cons (ps_set (i := 5) sc_pair.nd rfl (by first | exact Or.inl rfl | exact Or.inr rfl) (pe_lst (pa_cons (pe_tup (pa_cons (pv 4) (pa_cons (pv 3) (pa_nil)))) (pa_cons (pe_tup (pa_cons (pv 3) (pa_cons (pv 4) (pa_nil)))) (pa_cons (pe_tup (pa_cons (pe_callB (call_min2 rfl) (by rfl) B.b_min (by decide +kernel) (pa_cons (pv 3) (pa_cons (pv 4) (pa_nil)))) (pa_cons (pe_callB (call_max2 rfl) (by rfl) B.b_max (by decide +kernel) (pa_cons (pv 3) (pa_cons (pv 4) (pa_nil)))) (pa_nil)))) (pa_cons (pe_tup (pa_cons (pv 4) (pa_cons (pe_op op_mod (pe_op op_sub (pe_op op_mul (pe_int) (pv 4)) (pv 3)) (pv 1)) (pa_nil)))) (pa_cons (pe_tup (pa_cons (pe_op op_mod (pe_op op_add (pv 4) (pv 7)) (pv 1)) (pa_cons (pe_op op_mod (pe_op op_add (pv 3) (pv 6)) (pv 1)) (pa_nil)))) (pa_nil))))))))
          (pss_one (ps_ret (pe_ix ix_list (pv 5) (pv 0) (fun _ _ => rfl)))))
abbrev s_plain : Stmt := topS 33
abbrev N_plain : List Str := ["_law_deal_here", "_law_many", "_law_size", "_law_k", "_law_form", "_law_found", "_law_step", "_law_pairs", "_law_n"]
theorem sc_plain : FnScope N_plain ["_law_deal_here", "_law_many", "_law_size"] (defScope s_plain) := ⟨rfl, rfl, rfl, by decide +kernel, rfl, by decide +kernel, by decide +kernel⟩
theorem ok_plain (F : FnP K "_law_plain" s_plain f fd) (B : Bl mg) (C_draw : Cal P w K mg base CX0 1 "_law_draw" ["_law_deal_here", "_law_many"] sp_draw) (C_pair : Cal P w K mg base CX0 1 "_law_pair" ["_law_form", "_law_size", "_law_step", "_law_a", "_law_b"] (sp_pair K)) : FnOk P w K mg base CX0 2 f fd ["_law_deal_here", "_law_many", "_law_size"] (sp_plain K) := by
  refine F.ok sc_plain (fun vs H Q E h => ?_) (fun cdv A outer s H vs Q E hr h => ⟨_, PSs.nox ?_, pure_plain (K := K) vs H Q E h⟩)
  · obtain ⟨_, _, _, _, rfl, _⟩ := h
    rfl
  · exact pss_cons (ps_asg (pe_tup (pa_cons (Wf.pe_cal C_draw hr (by rfl) (pa_cons (pv 0) (pa_cons (pe_int) (pa_nil)))) (pa_cons (pe_lst (pa_nil)) (pa_nil)))) (pg_tup rfl (pgs_cons (pg_name (i := 4) sc_plain.nd rfl (by first | exact Or.inl rfl | exact Or.inr rfl)) (pgs_cons (pg_name (i := 5) sc_plain.nd rfl (by first | exact Or.inl rfl | exact Or.inr rfl)) (pgs_nil)))))
          (pss_cons (ps_for PassesOwn.never rfl (pi_range1 (by rfl) B.b_range (pa_cons (pe_op op_fdiv (pe_op op_mul (pv 1) (pe_op op_sub (pv 1) (pe_int))) (pe_int)) (pa_nil))) (pg_name (i := 3) sc_plain.nd rfl (by first | exact Or.inl rfl | exact Or.inr rfl)) (pss_cons (ps_set (i := 6) sc_plain.nd rfl (by first | exact Or.inl rfl | exact Or.inr rfl) (pe_tup (pa_cons (Wf.pe_cal C_draw hr (by rfl) (pa_cons (pv 0) (pa_cons (pv 2) (pa_nil)))) (pa_cons (Wf.pe_cal C_draw hr (by rfl) (pa_cons (pv 0) (pa_cons (pv 2) (pa_nil)))) (pa_nil)))))
          (pss_one (ps_expr (pe_bm PySem.F.plainAttrs_list PySem.F.slot_list_append PySem.F.type_list_append mt_append (pv 5) (pa_cons (pe_lc (own := [("_law_n", 8)]) rfl sc_plain.nd (pi_range1 (by rfl) B.b_range (pa_cons (pe_op op_mul (pv 2) (pv 2)) (pa_nil))) (blkOk_by (N := N_plain) (sc := defScope s_plain) (by decide +kernel)) (fun _ _ _ _ _ => pg_name (i := 8) sc_plain.nd rfl (by first | exact Or.inl rfl | exact Or.inr rfl)) (fun _ _ _ _ _ => pts_nil) (fun _ _ _ _ _ => Wf.pe_cal C_pair hr (by rfl) (pa_cons (pe_op op_mod (pv 4) (pe_int)) (pa_cons (pv 2) (pa_cons (pv 6) (pa_cons (pe_op op_fdiv (pv 8) (pv 2)) (pa_cons (pe_op op_mod (pv 8) (pv 2)) (pa_nil)))))))) (pa_nil)))))))
          (pss_cons (ps_if (PW.pt (pw_and (pt_cmpR op_eq (pv 4) (pe_int) (nomark _)) (pw_and1 (pt_cmpR (op_neD hr.units) (pv 5) (pe_lst (pa_nil)) (nomark _))))) (pss_cons (ps_setLc (i := 7) (own := [("_law_n", 8)]) rfl sc_plain.nd rfl rfl (sw_true rfl rfl rfl (by decide +kernel)) (pi_range1 (by rfl) B.b_range (pa_cons (pe_op op_mul (pv 2) (pv 2)) (pa_nil))) (blkOk_by (N := N_plain) (sc := defScope s_plain) (by decide +kernel)) (fun _ _ _ _ _ => pg_name (i := 8) sc_plain.nd rfl (by first | exact Or.inl rfl | exact Or.inr rfl)) (fun _ _ _ _ _ => pts_nil) (fun _ _ _ _ _ => pe_tup (pa_cons (Wf.pe_cal C_draw hr (by rfl) (pa_cons (pv 0) (pa_cons (pv 2) (pa_nil)))) (pa_cons (Wf.pe_cal C_draw hr (by rfl) (pa_cons (pv 0) (pa_cons (pv 2) (pa_nil)))) (pa_nil)))))
          (pss_one (ps_asg (pv 7) (pg_sub (pv 5) (Wf.pe_cal C_draw hr (by rfl) (pa_cons (pv 0) (pa_cons (pe_callB call_len (by rfl) B.b_len (by decide +kernel) (pa_cons (pv 5) (pa_nil))) (pa_nil)))) set_list)))) (pss_nil))
          (pss_one (ps_ret (pv 5)))))
abbrev s_side : Stmt := topS 34
abbrev N_side : List Str := ["_law_one", "_law_other", "_law_wide", "_law_more", "_law_found", "_law_size", "_law_first", "_law_second", "_law_pairs", "_law_n", "_law_a", "_law_b", "_law_c", "_law_d", "_law_g", "_law_h"]
theorem sc_side : FnScope N_side ["_law_one", "_law_other", "_law_wide", "_law_more"] (defScope s_side) := ⟨rfl, rfl, rfl, by decide +kernel, rfl, by decide +kernel, by decide +kernel⟩
theorem ok_side (F : FnP K "_law_side" s_side f fd) (B : Bl mg)  : FnOk P w K mg base CX0 1 f fd ["_law_one", "_law_other", "_law_wide", "_law_more"] (sp_side K) := by
  refine F.ok sc_side (fun vs H Q E h => ?_) (fun cdv A outer s H vs Q E hr h => ⟨_, PSs.nox ?_, pure_side (K := K) vs H Q E h⟩)
  · obtain ⟨_, _, _, _, _, _, _, _, rfl, _⟩ := h
    rfl
  · exact pss_cons (ps_par rfl sc_side.nd rfl rfl (by decide) rfl rfl (pa_cons (pe_lst (pa_nil)) (pa_cons (pe_op op_mul (pv 2) (pv 3)) (pa_nil))) (by rfl))
          (pss_cons (ps_for PassesOwn.never rfl (RZ.pi_zipA (by rfl) B.b_zip (pa_cons (pv 0) (pa_cons (pv 1) (pa_nil)))) (pg_tup rfl (pgs_cons (pg_name (i := 6) sc_side.nd rfl (by first | exact Or.inl rfl | exact Or.inr rfl)) (pgs_cons (pg_name (i := 7) sc_side.nd rfl (by first | exact Or.inl rfl | exact Or.inr rfl)) (pgs_nil)))) (pss_cons (ps_set (i := 8) sc_side.nd rfl (by first | exact Or.inl rfl | exact Or.inr rfl) (pe_lst (pa_nil)))
          (pss_cons (ps_for PassesOwn.never rfl (pi_range1 (by rfl) B.b_range (pa_cons (pe_op op_mul (pv 5) (pv 5)) (pa_nil))) (pg_name (i := 9) sc_side.nd rfl (by first | exact Or.inl rfl | exact Or.inr rfl)) (pss_cons (ps_par rfl sc_side.nd rfl rfl (by decide) rfl rfl (pa_cons (pe_op op_fdiv (pv 9) (pv 5)) (pa_cons (pe_op op_mod (pv 9) (pv 5)) (pa_nil))) (by rfl))
          (pss_cons (ps_asg (pe_ix ix_list (pv 6) (pe_op op_add (pe_op op_mul (pe_op op_fdiv (pv 10) (pv 3)) (pv 2)) (pe_op op_fdiv (pv 11) (pv 3))) (fun _ _ => rfl)) (pg_tup rfl (pgs_cons (pg_name (i := 12) sc_side.nd rfl (by first | exact Or.inl rfl | exact Or.inr rfl)) (pgs_cons (pg_name (i := 13) sc_side.nd rfl (by first | exact Or.inl rfl | exact Or.inr rfl)) (pgs_nil)))))
          (pss_cons (ps_asg (pe_ix ix_list (pv 7) (pe_op op_add (pe_op op_mul (pe_op op_mod (pv 10) (pv 3)) (pv 3)) (pe_op op_mod (pv 11) (pv 3))) (fun _ _ => rfl)) (pg_tup rfl (pgs_cons (pg_name (i := 14) sc_side.nd rfl (by first | exact Or.inl rfl | exact Or.inr rfl)) (pgs_cons (pg_name (i := 15) sc_side.nd rfl (by first | exact Or.inl rfl | exact Or.inr rfl)) (pgs_nil)))))
          (pss_one (ps_expr (pe_bm PySem.F.plainAttrs_list PySem.F.slot_list_append PySem.F.type_list_append mt_append (pv 8) (pa_cons (pe_tup (pa_cons (pe_op op_add (pe_op op_mul (pv 12) (pv 3)) (pv 14)) (pa_cons (pe_op op_add (pe_op op_mul (pv 13) (pv 3)) (pv 15)) (pa_nil)))) (pa_nil)))))))))
          (pss_one (ps_expr (pe_bm PySem.F.plainAttrs_list PySem.F.slot_list_append PySem.F.type_list_append mt_append (pv 4) (pa_cons (pv 8) (pa_nil))))))))
          (pss_one (ps_ret (pv 4))))
abbrev s_mixed : Stmt := topS 35
abbrev N_mixed : List Str := ["_law_deal_here", "_law_many", "_law_turn", "_law_left", "_law_found"]
theorem sc_mixed : FnScope N_mixed ["_law_deal_here", "_law_many"] (defScope s_mixed) := ⟨rfl, rfl, rfl, by decide +kernel, rfl, by decide +kernel, by decide +kernel⟩
theorem ok_mixed (F : FnP K "_law_mixed" s_mixed f fd) (B : Bl mg) (C_draw : Cal P w K mg base CX0 1 "_law_draw" ["_law_deal_here", "_law_many"] sp_draw) : FnOk P w K mg base CX0 2 f fd ["_law_deal_here", "_law_many"] sp_mixed := by
  refine F.ok sc_mixed (fun vs H Q E h => ?_) (fun cdv A outer s H vs Q E hr h => ⟨_, PSs.nox ?_, pure_mixed (K := K) vs H Q E h⟩)
  · obtain ⟨_, _, _, rfl, _⟩ := h
    rfl
  · exact pss_cons (ps_par rfl sc_mixed.nd rfl rfl (by decide) rfl rfl (pa_cons (pe_listRg rfl (by rfl) B.b_list (prg_1 (by rfl) B.b_range (pv 1))) (pa_cons (pe_lst (pa_nil)) (pa_nil))) (by rfl))
          (pss_cons (ps_for PassesOwn.never rfl (pi_range1 (by rfl) B.b_range (pa_cons (pv 1) (pa_nil))) (pg_name (i := 2) sc_mixed.nd rfl (by first | exact Or.inl rfl | exact Or.inr rfl)) (pss_one (ps_expr (pe_bm PySem.F.plainAttrs_list PySem.F.slot_list_append PySem.F.type_list_append mt_append (pv 4) (pa_cons (pe_bm PySem.F.plainAttrs_list PySem.F.slot_list_pop PySem.F.type_list_pop mt_popAt (pv 3) (pa_cons (Wf.pe_cal C_draw hr (by rfl) (pa_cons (pv 0) (pa_cons (pe_callB call_len (by rfl) B.b_len (by decide +kernel) (pa_cons (pv 3) (pa_nil))) (pa_nil)))) (pa_nil))) (pa_nil))))))
          (pss_one (ps_ret (pv 4))))
abbrev s_names_put : Stmt := topS 36
abbrev N_names_put : List Str := ["_law_tables", "_law_size", "_law_names", "_law_found", "_law_table", "_law_pairs", "_law_n", "_law_pair_here", "_law_a", "_law_b"]
theorem sc_names_put : FnScope N_names_put ["_law_tables", "_law_size", "_law_names"] (defScope s_names_put) := ⟨rfl, rfl, rfl, by decide +kernel, rfl, by decide +kernel, by decide +kernel⟩
theorem ok_names_put (F : FnP K "_law_names_put" s_names_put f fd) (B : Bl mg)  : FnOk P w K mg base CX0 1 f fd ["_law_tables", "_law_size", "_law_names"] (sp_names K) := by
  refine F.ok sc_names_put (fun vs H Q E h => ?_) (fun cdv A outer s H vs Q E hr h => ⟨_, PSs.nox ?_, pure_names (K := K) vs H Q E h⟩)
  · obtain ⟨_, _, _, _, _, _, rfl, _⟩ := h
    rfl
  · exact pss_cons (ps_set (i := 3) sc_names_put.nd rfl (by first | exact Or.inl rfl | exact Or.inr rfl) (pe_lst (pa_nil)))
          (pss_cons (ps_for PassesOwn.never rfl (pi_list (pv 0)) (pg_name (i := 4) sc_names_put.nd rfl (by first | exact Or.inl rfl | exact Or.inr rfl)) (pss_cons (ps_set (i := 5) sc_names_put.nd rfl (by first | exact Or.inl rfl | exact Or.inr rfl) (pe_op op_rep (pe_lst (pa_cons (pe_tup (pa_cons (pe_int) (pa_cons (pe_int) (pa_nil)))) (pa_nil))) (pe_op op_mul (pv 1) (pv 1))))
          (pss_cons (ps_for PassesOwn.never rfl (pi_enum (by rfl) B.b_enumerate (pa_cons (pv 4) (pa_nil))) (pg_tup rfl (pgs_cons (pg_name (i := 6) sc_names_put.nd rfl (by first | exact Or.inl rfl | exact Or.inr rfl)) (pgs_cons (pg_name (i := 7) sc_names_put.nd rfl (by first | exact Or.inl rfl | exact Or.inr rfl)) (pgs_nil)))) (pss_cons (ps_par rfl sc_names_put.nd rfl rfl (by decide) rfl rfl (pa_cons (pe_ix ix_list (pv 2) (pe_op op_fdiv (pv 6) (pv 1)) (fun _ _ => rfl)) (pa_cons (pe_ix ix_list (pv 2) (pe_op op_mod (pv 6) (pv 1)) (fun _ _ => rfl)) (pa_nil))) (by rfl))
          (pss_one (ps_asg (pe_tup (pa_cons (pe_ix ix_list (pv 2) (pe_ix ix_tup (pv 7) (pe_int) (fun _ _ => rfl)) (fun _ _ => rfl)) (pa_cons (pe_ix ix_list (pv 2) (pe_ix ix_tup (pv 7) (pe_int) (fun _ _ => rfl)) (fun _ _ => rfl)) (pa_nil)))) (pg_sub (pv 5) (pe_op op_add (pe_op op_mul (pv 8) (pv 1)) (pv 9)) set_list)))))
          (pss_one (ps_expr (pe_bm PySem.F.plainAttrs_list PySem.F.slot_list_append PySem.F.type_list_append mt_append (pv 3) (pa_cons (pv 5) (pa_nil))))))))
          (pss_one (ps_ret (pv 3))))
abbrev s_good : Stmt := topS 37
abbrev N_good : List Str := ["_law_deal_here", "_law_many", "_law_size", "_law_wide", "_law_found"]
theorem sc_good : FnScope N_good ["_law_deal_here", "_law_many", "_law_size"] (defScope s_good) := ⟨rfl, rfl, rfl, by decide +kernel, rfl, by decide +kernel, by decide +kernel⟩
theorem ok_good (F : FnP K "_law_good" s_good f fd) (B : Bl mg) (C_draw : Cal P w K mg base CX0 1 "_law_draw" ["_law_deal_here", "_law_many"] sp_draw) (C_plain : Cal P w K mg base CX0 2 "_law_plain" ["_law_deal_here", "_law_many", "_law_size"] (sp_plain K)) (C_side : Cal P w K mg base CX0 1 "_law_side" ["_law_one", "_law_other", "_law_wide", "_law_more"] (sp_side K)) (C_names_put : Cal P w K mg base CX0 1 "_law_names_put" ["_law_tables", "_law_size", "_law_names"] (sp_names K)) (C_mixed : Cal P w K mg base CX0 2 "_law_mixed" ["_law_deal_here", "_law_many"] sp_mixed) : FnOk P w K mg base CX0 3 f fd ["_law_deal_here", "_law_many", "_law_size"] (sp_good K) := by
  refine F.ok sc_good (fun vs H Q E h => ?_) (fun cdv A outer s H vs Q E hr h => ⟨_, PSs.nox ?_, pure_good (K := K) vs H Q E h⟩)
  · obtain ⟨_, _, _, _, rfl, _⟩ := h
    rfl
  · exact pss_cons (ps_set (i := 3) sc_good.nd rfl (by first | exact Or.inl rfl | exact Or.inr rfl) (pe_ifExp (pt_cmpR op_eq (Wf.pe_cal C_draw hr (by rfl) (pa_cons (pv 0) (pa_cons (pe_int) (pa_nil)))) (pe_int) (nomark _)) (pe_ix ix_list (pe_lst (pa_cons (pe_int) (pa_cons (pe_int) (pa_cons (pe_int) (pa_cons (pe_int) (pa_cons (pe_int) (pa_cons (pe_int) (pa_cons (pe_ix ix_list (pe_lst (pa_cons (pe_int) (pa_cons (pe_int) (pa_nil)))) (Wf.pe_cal C_draw hr (by rfl) (pa_cons (pv 0) (pa_cons (pe_int) (pa_nil)))) (fun _ _ => rfl)) (pa_nil))))))))) (pv 2) (fun _ _ => rfl)) (pe_int)))
          (pss_cons (ps_set (i := 4) sc_good.nd rfl (by first | exact Or.inl rfl | exact Or.inr rfl) (Wf.pe_cal C_plain hr (by rfl) (pa_cons (pv 0) (pa_cons (pv 1) (pa_cons (pe_op op_fdiv (pv 2) (pv 3)) (pa_nil))))))
          (pss_cons (ps_if (pt_cmpR op_gt (pv 3) (pe_int) (nomark _)) (pss_one (ps_set (i := 4) sc_good.nd rfl (by first | exact Or.inl rfl | exact Or.inr rfl) (Wf.pe_cal C_side hr (by rfl) (pa_cons (Wf.pe_cal C_plain hr (by rfl) (pa_cons (pv 0) (pa_cons (pv 1) (pa_cons (pv 3) (pa_nil))))) (pa_cons (pv 4) (pa_cons (pv 3) (pa_cons (pe_op op_fdiv (pv 2) (pv 3)) (pa_nil)))))))) (pss_nil))
          (pss_cons (ps_if (pt_cmpR op_eq (Wf.pe_cal C_draw hr (by rfl) (pa_cons (pv 0) (pa_cons (pe_int) (pa_nil)))) (pe_int) (nomark _)) (pss_one (ps_set (i := 4) sc_good.nd rfl (by first | exact Or.inl rfl | exact Or.inr rfl) (Wf.pe_cal C_names_put hr (by rfl) (pa_cons (pv 4) (pa_cons (pv 2) (pa_cons (Wf.pe_cal C_mixed hr (by rfl) (pa_cons (pv 0) (pa_cons (pv 2) (pa_nil)))) (pa_nil))))))) (pss_nil))
          (pss_one (ps_ret (pv 4))))))
abbrev s_any : Stmt := topS 38
abbrev N_any : List Str := ["_law_deal_here", "_law_many", "_law_size", "_law_found", "_law_k", "_law_n"]
theorem sc_any : FnScope N_any ["_law_deal_here", "_law_many", "_law_size"] (defScope s_any) := ⟨rfl, rfl, rfl, by decide +kernel, rfl, by decide +kernel, by decide +kernel⟩
theorem ok_any (F : FnP K "_law_any" s_any f fd) (B : Bl mg) (C_draw : Cal P w K mg base CX0 1 "_law_draw" ["_law_deal_here", "_law_many"] sp_draw) : FnOk P w K mg base CX0 2 f fd ["_law_deal_here", "_law_many", "_law_size"] (sp_any K) := by
  refine F.ok sc_any (fun vs H Q E h => ?_) (fun cdv A outer s H vs Q E hr h => ⟨_, PSs.nox ?_, pure_any (K := K) vs H Q E h⟩)
  · obtain ⟨_, _, _, _, rfl, _⟩ := h
    rfl
  · exact pss_cons (ps_set (i := 3) sc_any.nd rfl (by first | exact Or.inl rfl | exact Or.inr rfl) (pe_lst (pa_nil)))
          (pss_cons (ps_for PassesOwn.never rfl (pi_range1 (by rfl) B.b_range (pa_cons (pe_op op_fdiv (pe_op op_mul (pv 1) (pe_op op_sub (pv 1) (pe_int))) (pe_int)) (pa_nil))) (pg_name (i := 4) sc_any.nd rfl (by first | exact Or.inl rfl | exact Or.inr rfl)) (pss_one (ps_expr (pe_bm PySem.F.plainAttrs_list PySem.F.slot_list_append PySem.F.type_list_append mt_append (pv 3) (pa_cons (pe_lc (own := [("_law_n", 5)]) rfl sc_any.nd (pi_range1 (by rfl) B.b_range (pa_cons (pe_op op_mul (pv 2) (pv 2)) (pa_nil))) (blkOk_by (N := N_any) (sc := defScope s_any) (by decide +kernel)) (fun _ _ _ _ _ => pg_name (i := 5) sc_any.nd rfl (by first | exact Or.inl rfl | exact Or.inr rfl)) (fun _ _ _ _ _ => pts_nil) (fun _ _ _ _ _ => pe_tup (pa_cons (Wf.pe_cal C_draw hr (by rfl) (pa_cons (pv 0) (pa_cons (pv 2) (pa_nil)))) (pa_cons (Wf.pe_cal C_draw hr (by rfl) (pa_cons (pv 0) (pa_cons (pv 2) (pa_nil)))) (pa_nil))))) (pa_nil))))))
          (pss_one (ps_ret (pv 3))))
abbrev s_book : Stmt := topS 39
abbrev N_book : List Str := ["_law_deal_here", "_law_many", "_law_size", "_law_form", "_law_paces_here", "_law_tables", "_law_table", "_law_pair_here"]
theorem sc_book : FnScope N_book ["_law_deal_here", "_law_many", "_law_size", "_law_form"] (defScope s_book) := ⟨rfl, rfl, rfl, by decide +kernel, rfl, by decide +kernel, by decide +kernel⟩
theorem ok_book (F : FnP K "_law_book" s_book f fd) (B : Bl mg) (C_paces : Cal P w K mg base CX0 2 "_law_paces" ["_law_deal_here", "_law_many"] (sp_paces K)) (C_any : Cal P w K mg base CX0 2 "_law_any" ["_law_deal_here", "_law_many", "_law_size"] (sp_any K)) (C_good : Cal P w K mg base CX0 3 "_law_good" ["_law_deal_here", "_law_many", "_law_size"] (sp_good K)) (C_draw : Cal P w K mg base CX0 1 "_law_draw" ["_law_deal_here", "_law_many"] sp_draw) : FnOk P w K mg base CX0 4 f fd ["_law_deal_here", "_law_many", "_law_size", "_law_form"] (sp_book K) := by
  refine F.ok sc_book (fun vs H Q E h => ?_) (fun cdv A outer s H vs Q E hr h => ⟨_, PSs.nox ?_, pure_bookQ (K := K) vs H Q E h⟩)
  · obtain ⟨_, _, _, _, _, rfl, _⟩ := h
    rfl
  · exact pss_cons (ps_set (i := 4) sc_book.nd rfl (by first | exact Or.inl rfl | exact Or.inr rfl) (Wf.pe_cal C_paces hr (by rfl) (pa_cons (pv 0) (pa_cons (pv 1) (pa_nil)))))
          (pss_cons (ps_set (i := 5) sc_book.nd rfl (by first | exact Or.inl rfl | exact Or.inr rfl) (pe_ifExp (pt_cmpR op_eq (pv 3) (pe_int) (nomark _)) (Wf.pe_cal C_any hr (by rfl) (pa_cons (pv 0) (pa_cons (pv 1) (pa_cons (pv 2) (pa_nil))))) (Wf.pe_cal C_good hr (by rfl) (pa_cons (pv 0) (pa_cons (pv 1) (pa_cons (pv 2) (pa_nil)))))))
          (pss_cons (ps_if (PW.pt (pw_and (pt_cmpR op_eq (pv 3) (pe_int) (nomark _)) (pw_and1 (pt_cmpR op_gt (pe_callB call_len (by rfl) B.b_len (by decide +kernel) (pa_cons (pv 5) (pa_nil))) (pe_int) (nomark _))))) (pss_cons (ps_set (i := 6) sc_book.nd rfl (by first | exact Or.inl rfl | exact Or.inr rfl) (pe_ix ix_list (pv 5) (Wf.pe_cal C_draw hr (by rfl) (pa_cons (pv 0) (pa_cons (pe_callB call_len (by rfl) B.b_len (by decide +kernel) (pa_cons (pv 5) (pa_nil))) (pa_nil)))) (fun _ _ => rfl)))
          (pss_cons (ps_set (i := 7) sc_book.nd rfl (by first | exact Or.inl rfl | exact Or.inr rfl) (pe_tup (pa_cons (Wf.pe_cal C_draw hr (by rfl) (pa_cons (pv 0) (pa_cons (pv 2) (pa_nil)))) (pa_cons (Wf.pe_cal C_draw hr (by rfl) (pa_cons (pv 0) (pa_cons (pv 2) (pa_nil)))) (pa_nil)))))
          (pss_one (ps_asg (pv 7) (pg_sub (pv 6) (Wf.pe_cal C_draw hr (by rfl) (pa_cons (pv 0) (pa_cons (pe_callB call_len (by rfl) B.b_len (by decide +kernel) (pa_cons (pv 6) (pa_nil))) (pa_nil)))) set_list))))) (pss_nil))
          (pss_one (ps_ret (pe_tup (pa_cons (pv 4) (pa_cons (pv 2) (pa_cons (pe_callTy call_tuple_of (by rfl) B.b_tuple (by decide +kernel) (pa_cons (pe_lc (own := [("_law_table", 6)]) rfl sc_book.nd (pi_list (pv 5)) (blkOk_by (N := N_book) (sc := defScope s_book) (by decide +kernel)) (fun _ _ _ _ _ => pg_name (i := 6) sc_book.nd rfl (by first | exact Or.inl rfl | exact Or.inr rfl)) (fun _ _ _ _ _ => pts_nil) (fun _ _ _ _ _ => pe_callTy call_tuple_of (by rfl) B.b_tuple (by decide +kernel) (pa_cons (pv 6) (pa_nil)))) (pa_nil))) (pa_nil)))))))))
abbrev s_is_number : Stmt := topS 4
abbrev N_is_number : List Str := ["thing"]
theorem sc_is_number : FnScope N_is_number ["thing"] (defScope s_is_number) := ⟨rfl, rfl, rfl, by decide +kernel, rfl, by decide +kernel, by decide +kernel⟩
theorem ok_is_number (F : FnP K "is_number" s_is_number f fd) (B : Bl mg)  : FnOk P w K mg base CX0 1 f fd ["thing"] (LSp K T psp_is_number) := by
  refine fn_ok (p := fun _ => p_is_number) F sc_is_number rfl rfl (by decide) (fun as Qp Ep h => by obtain ⟨_, rfl, _⟩ := h; rfl) (fun cdv A outer s H E Bh Bt Ep hr hx => JSs.nox ?_) hp_is_number
  exact jss_one (js_ret (je_and (je_isi (by unfold TyOk; decide) (by rfl) B.b_isinstance (pe_bltn (v := .ty "int") (by rfl) B.b_int (by decide +kernel) rfl) (jv 0)) (je_one (je_not (je_isi (by unfold TyOk; decide) (by rfl) B.b_isinstance (pe_bltn (v := .ty "bool") (by rfl) B.b_bool (by decide +kernel) rfl) (jv 0))))))
abbrev s_is_whole : Stmt := topS 5
abbrev N_is_whole : List Str := ["thing", "least", "most"]
theorem sc_is_whole : FnScope N_is_whole ["thing", "least", "most"] (defScope s_is_whole) := ⟨rfl, rfl, rfl, by decide +kernel, rfl, by decide +kernel, by decide +kernel⟩
theorem ok_is_whole (F : FnP K "is_whole" s_is_whole f fd) (B : Bl mg) (C_is_number : Cal P w K mg base CX0 1 "is_number" ["thing"] (LSp K T psp_is_number)) : FnOk P w K mg base CX0 2 f fd ["thing", "least", "most"] (LSp K T psp_is_whole) := by
  refine fn_ok (p := fun _ => p_is_whole) F sc_is_whole rfl rfl (by decide) (fun as Qp Ep h => by obtain ⟨_, _, _, rfl, _⟩ := h; rfl) (fun cdv A outer s H E Bh Bt Ep hr hx => JSs.nox ?_) hp_is_whole
  exact jss_one (js_ret (je_and (je_cal C_is_number hr (by rfl) (ja_cons (je_fz (jv 0)) (ja_nil))) (je_one (je_chain op_le op_le lc_le lc_le (jv 1) (jv 0) (jv 2)))))
abbrev s_table_number : Stmt := topS 6
abbrev N_table_number : List Str := ["u", "v"]
theorem sc_table_number : FnScope N_table_number ["u", "v"] (defScope s_table_number) := ⟨rfl, rfl, rfl, by decide +kernel, rfl, by decide +kernel, by decide +kernel⟩
theorem ok_table_number (F : FnP K "table_number" s_table_number f fd) (B : Bl mg)  : FnOk P w K mg base CX0 1 f fd ["u", "v"] (LSp K T psp_table_number) := by
  refine fn_ok (p := fun _ => p_table_number) F sc_table_number rfl rfl (by decide) (fun as Qp Ep h => by obtain ⟨_, _, rfl, _⟩ := h; rfl) (fun cdv A outer s H E Bh Bt Ep hr hx => JSs.nox ?_) hp_table_number
  exact jss_one (js_ret (je_add (je_fdiv (je_mul (jv 0) (je_sub (jv 0) (je_int))) (je_int)) (jv 1)))
abbrev s_pair_at : Stmt := topS 7
abbrev N_pair_at : List Str := ["book", "u", "v", "a", "b", "sorts", "tables"]
theorem sc_pair_at : FnScope N_pair_at ["book", "u", "v", "a", "b"] (defScope s_pair_at) := ⟨rfl, rfl, rfl, by decide +kernel, rfl, by decide +kernel, by decide +kernel⟩
theorem ok_pair_at (F : FnP K "pair_at" s_pair_at f fd) (B : Bl mg) (C_table_number : Cal P w K mg base CX0 1 "table_number" ["u", "v"] (LSp K T psp_table_number)) : FnOk P w K mg base CX0 2 f fd ["book", "u", "v", "a", "b"] (LSp K T psp_pair_at) := by
  refine fn_ok (p := fun _ => p_pair_at) F sc_pair_at rfl rfl (by decide) (fun as Qp Ep h => by obtain ⟨_, _, _, _, _, _, rfl, _⟩ := h; rfl) (fun cdv A outer s H E Bh Bt Ep hr hx => JSs.nox ?_) hp_pair_at
  exact jss_cons (js_par2 rfl sc_pair_at.nd rfl rfl (by decide) rfl rfl (ja_cons (je_ix (jv 0) (je_int) (fun _ _ => rfl)) (ja_cons (je_ix (jv 0) (je_int) (fun _ _ => rfl)) (ja_nil))) (by rfl))
    (jss_one (js_ret (je_ix (je_ix (jv 6) (je_cal C_table_number hr (by rfl) (ja_cons (je_fz (jv 1)) (ja_cons (je_fz (jv 2)) (ja_nil)))) (fun _ _ => rfl)) (je_add (je_mul (jv 3) (jv 5)) (jv 4)) (fun _ _ => rfl))))
abbrev s_kinds_of : Stmt := topS 9
abbrev N_kinds_of : List Str := ["row", "kind", "burden"]
theorem sc_kinds_of : FnScope N_kinds_of ["row"] (defScope s_kinds_of) := ⟨rfl, rfl, rfl, by decide +kernel, rfl, by decide +kernel, by decide +kernel⟩
theorem ok_kinds_of (F : FnP K "kinds_of" s_kinds_of f fd) (B : Bl mg)  : FnOk P w K mg base CX0 1 f fd ["row"] (LSp K T psp_kinds_of) := by
  refine fn_ok (p := fun _ => p_kinds_of) F sc_kinds_of rfl rfl (by decide) (fun as Qp Ep h => by obtain ⟨_, _, _, rfl, _⟩ := h; rfl) (fun cdv A outer s H E Bh Bt Ep hr hx => JSs.nox ?_) hp_kinds_of
  exact jss_one (js_ret (je_ct call_tuple_of lc_tupleOf (by rfl) B.b_tuple (by decide +kernel) (ja_cons (je_lc (own := [("kind", 1), ("burden", 2)]) rfl sc_kinds_of.nd (ji_seq (jv 0)) (blkOk_by (N := N_kinds_of) (sc := defScope s_kinds_of) (by decide +kernel)) (fun _ _ _ _ _ => jg_tup rfl (jgs_cons (jg_name (i := 1) sc_kinds_of.nd rfl (by first | exact Or.inl rfl | exact Or.inr rfl)) (jgs_cons (jg_name (i := 2) sc_kinds_of.nd rfl (by first | exact Or.inl rfl | exact Or.inr rfl)) (jgs_nil)))) (fun _ _ _ _ _ => jts_nil) (fun _ _ _ _ _ => jv 1)) (ja_nil))))
abbrev s_is_letter : Stmt := topS 10
abbrev N_is_letter : List Str := ["k", "many"]
theorem sc_is_letter : FnScope N_is_letter ["k", "many"] (defScope s_is_letter) := ⟨rfl, rfl, rfl, by decide +kernel, rfl, by decide +kernel, by decide +kernel⟩
theorem ok_is_letter (F : FnP K "is_letter" s_is_letter f fd) (B : Bl mg) (C_is_whole : Cal P w K mg base CX0 2 "is_whole" ["thing", "least", "most"] (LSp K T psp_is_whole)) : FnOk P w K mg base CX0 3 f fd ["k", "many"] (LSp K T psp_is_letter) := by
  refine fn_ok (p := fun _ => p_is_letter) F sc_is_letter rfl rfl (by decide) (fun as Qp Ep h => by obtain ⟨_, _, rfl, _⟩ := h; rfl) (fun cdv A outer s H E Bh Bt Ep hr hx => JSs.nox ?_) hp_is_letter
  exact jss_one (js_ret (je_cal C_is_whole hr (by rfl) (ja_cons (je_fz (jv 0)) (ja_cons (je_fz (je_int)) (ja_cons (je_fz (je_sub (jv 1) (je_int))) (ja_nil))))))
abbrev s_order_led : Stmt := topS 12
abbrev N_order_led : List Str := ["kinds", "word", "may_pass", "order", "at", "k"]
theorem sc_order_led : FnScope N_order_led ["kinds", "word", "may_pass"] (defScope s_order_led) := ⟨rfl, rfl, rfl, by decide +kernel, rfl, by decide +kernel, by decide +kernel⟩
theorem ok_order_led (F : FnP K "order_led" s_order_led f fd) (B : Bl mg) (C_is_letter : Cal P w K mg base CX0 3 "is_letter" ["k", "many"] (LSp K T psp_is_letter)) (T_NoPassing : Err1 P w K mg base "NoPassing" "at" cNoPassing) : FnOk P w K mg base (L2.CX P w) 4 f fd ["kinds", "word", "may_pass"] (LSp K T (psp_order_led cNoPassing (LamOk P w K mg))) := by
  refine fn_ok (p := fun Ep => p_order_led cNoPassing (LamOk P w K mg) Ep) F sc_order_led rfl rfl (by decide) (fun as Qp Ep h => by obtain ⟨_, _, _, _, rfl, _⟩ := h; rfl) (fun cdv A outer s H E Bh Bt Ep hr hx => ?_) (hp_order_led (LamOk P w K mg) cNoPassing)
  exact jss_cons (js_set (i := 3) sc_order_led.nd rfl (by first | exact Or.inl rfl | exact Or.inr rfl) (je_lstRg rfl (by rfl) B.b_list (jr_1 (by rfl) B.b_range (je_cb call_len lc_len (by rfl) B.b_len (by decide +kernel) (ja_cons (jv 0) (ja_nil))))))
    (jss_cons (js_for (passes_of rfl) rfl (ji_enum (by rfl) B.b_enumerate (ja_cons (jv 1) (ja_nil))) (jg_tup rfl (jgs_cons (jg_name (i := 4) sc_order_led.nd rfl (by first | exact Or.inl rfl | exact Or.inr rfl)) (jgs_cons (jg_name (i := 5) sc_order_led.nd rfl (by first | exact Or.inl rfl | exact Or.inr rfl)) (jgs_nil)))) (jss_cons (js_if (jw_pt (jw_or (jb_not (jb_val (je_cal C_is_letter hr (by rfl) (ja_cons (je_fz (jv 5)) (ja_cons (je_fz (je_cb call_len lc_len (by rfl) B.b_len (by decide +kernel) (ja_cons (jv 3) (ja_nil)))) (ja_nil)))))) (jw_or1 (jb_not (jb_val (je_callL (fun _ _ h => h) hr rfl (by first | exact Or.inl rfl | exact Or.inr (Or.inl rfl) | exact Or.inr (Or.inr rfl)) (ja_cons (je_ix (jv 0) (je_ix (jv 3) (jv 5) (fun _ _ => rfl)) (fun _ _ => rfl)) (ja_cons (je_ix (jv 0) (je_ix (jv 3) (je_add (jv 5) (je_int)) (fun _ _ => rfl)) (fun _ _ => rfl)) (ja_nil))))))))) (jss_one (js_rz1 T_NoPassing hr rfl (takes_of rfl rfl rfl rfl) hx (by rfl) (ja_cons (je_fz (jv 4)) (ja_nil)))) (jss_nil))
    (jss_one (js_asg (je_tup (ja_cons (je_ix (jv 3) (je_add (jv 5) (je_int)) (fun _ _ => rfl)) (ja_cons (je_ix (jv 3) (jv 5) (fun _ _ => rfl)) (ja_nil)))) (jg_tup rfl (jgs_cons (jg_sub (jv 3) (jv 5)) (jgs_cons (jg_sub (jv 3) (je_add (jv 5) (je_int))) (jgs_nil))))))))
    (jss_one (js_ret (je_ct call_tuple_of lc_tupleOf (by rfl) B.b_tuple (by decide +kernel) (ja_cons (jv 3) (ja_nil))))))
def nmL : Nat → Nat → Str := fun l _ => "order_behind.<locals>.<lambda>"
def tabT (K : PySem.W.Frag) : List NTab := [((He.cT K ("order_behind", none)).2, nmL)]
theorem un_tabT (K : PySem.W.Frag) (P : Addr) : ∀ p ∈ tabT K, p.1 = P → p.2 = nmL := fun p hp _ => by
  simp only [tabT, List.mem_cons, List.not_mem_nil, or_false] at hp
  rcases hp with rfl <;> rfl
theorem tabs0 {K : PySem.W.Frag} {H : Hp} (h : ∀ p ∈ [(("order_behind" : Str), (none : Option Str))].map (He.cT K), H p.2 = some (.tbl #[])) : TabsN (tabT K) H := fun p hp => by
  simp only [tabT, List.mem_cons, List.not_mem_nil, or_false] at hp
  rcases hp with rfl
  · exact TabN.nil (h _ (by first | exact List.mem_cons_self | exact List.mem_cons_of_mem _ List.mem_cons_self))
abbrev s_order_behind : Stmt := topS 11
abbrev N_order_behind : List Str := ["kinds", "word"]
theorem sc_order_behind : FnScope N_order_behind ["kinds", "word"] (defScope s_order_behind) := ⟨rfl, rfl, rfl, by decide +kernel, rfl, by decide +kernel, by decide +kernel⟩
abbrev lam_order_behind : Expr := lamIn s_order_behind
theorem scl_order_behind : FnScope ["rear", "fore"] ["rear", "fore"] (lamS lam_order_behind) := ⟨rfl, rfl, rfl, by decide +kernel, rfl, by decide +kernel, by decide +kernel⟩
theorem lok_order_behind (c : Addr) : LamOk P w K mg ⟨"order_behind.<locals>.<lambda>", lamA lam_order_behind, lamB lam_order_behind, lamS lam_order_behind, c⟩ gtB := by
  intro base A outer s H f x y us Q hr e0 hf hc r q
  refine run_lam (k := 0) (N := ["rear", "fore"]) (ps := ["rear", "fore"]) scl_order_behind hr e0 hf hc (fun pm ctv => ?_) r rfl fun _ => ⟨_, pe_cmpR op_gt (pv 0) (pv 1) (nomark _), ?_⟩
  · cases r with
    | cons r1 r2 =>
      cases r2 with
      | cons r2 r3 => cases r3; rfl
  · exact ⟨_, rfl, _, rfl, _, _, rfl, rfl, q⟩
theorem ok_order_behind {c Pt : Addr} (F : FnP K "order_behind" s_order_behind f fd) (hc : fd.code = .ref c) (TB : TabB base mg c Pt) (mem : (Pt, nmL) ∈ T) (un : ∀ p ∈ T, p.1 = Pt → p.2 = nmL) (C_ol : Cal P w K mg base (L2.CX P w) 4 "order_led" ["kinds", "word", "may_pass"] (LSp K T (psp_order_led cNoPassing (LamOk P w K mg)))) : FnOk P w K mg base (L2.CX P w) 5 f fd ["kinds", "word"] (LSp K T (psp_order_behind cNoPassing)) := by
  refine fn_okC (p := fun Ep => p_lamled (LamOk P w K mg) "order_behind.<locals>.<lambda>" (lamA lam_order_behind) (lamB lam_order_behind) (lamS lam_order_behind) cNoPassing Ep) F hc sc_order_behind rfl rfl (by decide) (fun as Qp Ep h => by obtain ⟨_, _, rfl, _⟩ := h; rfl) (fun A outer s H E Bh Bt Ep hr hx => ?_) (hp_order_behind lok_order_behind cNoPassing)
  exact jss_one (js_ret (je_calX C_ol hr (takes_of rfl rfl rfl rfl) (fun _ _ _ _ z => z) hx (by rfl) (ja_cons (je_fz (jv 0)) (ja_cons (je_fz (jv 1)) (ja_cons (je_lam TB rfl mem (by rfl) un (by decide +kernel) rfl) (ja_nil))))))
abbrev s_led_by : Stmt := topS 14
abbrev N_led_by : List Str := ["book", "row", "word", "led", "at", "k", "c", "d", "u", "a", "v", "b"]
theorem sc_led_by : FnScope N_led_by ["book", "row", "word"] (defScope s_led_by) := ⟨rfl, rfl, rfl, by decide +kernel, rfl, by decide +kernel, by decide +kernel⟩
theorem ok_led_by (F : FnP K "led_by" s_led_by f fd) (B : Bl mg) (C_is_letter : Cal P w K mg base CX0 3 "is_letter" ["k", "many"] (LSp K T psp_is_letter)) (C_pair_at : Cal P w K mg base CX0 2 "pair_at" ["book", "u", "v", "a", "b"] (LSp K T psp_pair_at)) (T_NoPassing : Err1 P w K mg base "NoPassing" "at" cNoPassing) : FnOk P w K mg base (L2.CX P w) 4 f fd ["book", "row", "word"] (LSp K T (psp_led_by cNoPassing)) := by
  refine fn_ok (p := fun Ep => p_led_by cNoPassing Ep) F sc_led_by rfl rfl (by decide) (fun as Qp Ep h => by obtain ⟨_, _, _, _, rfl, _⟩ := h; rfl) (fun cdv A outer s H E Bh Bt Ep hr hx => ?_) (hp_led_by cNoPassing)
  exact jss_cons (js_set (i := 3) sc_led_by.nd rfl (by first | exact Or.inl rfl | exact Or.inr rfl) (je_ct call_list_of lc_listOf (by rfl) B.b_list (by decide +kernel) (ja_cons (jv 1) (ja_nil))))
    (jss_cons (js_for (passes_of rfl) rfl (ji_enum (by rfl) B.b_enumerate (ja_cons (jv 2) (ja_nil))) (jg_tup rfl (jgs_cons (jg_name (i := 4) sc_led_by.nd rfl (by first | exact Or.inl rfl | exact Or.inr rfl)) (jgs_cons (jg_name (i := 5) sc_led_by.nd rfl (by first | exact Or.inl rfl | exact Or.inr rfl)) (jgs_nil)))) (jss_cons (js_if (jb_not (jb_val (je_cal C_is_letter hr (by rfl) (ja_cons (je_fz (jv 5)) (ja_cons (je_fz (je_cb call_len lc_len (by rfl) B.b_len (by decide +kernel) (ja_cons (jv 3) (ja_nil)))) (ja_nil)))))) (jss_one (js_rz1 T_NoPassing hr rfl (takes_of rfl rfl rfl rfl) hx (by rfl) (ja_cons (je_fz (jv 4)) (ja_nil)))) (jss_nil))
    (jss_cons (js_asg (je_tup (ja_cons (je_ix (jv 3) (jv 5) (fun _ _ => rfl)) (ja_cons (je_ix (jv 3) (je_add (jv 5) (je_int)) (fun _ _ => rfl)) (ja_nil)))) (jg_tup rfl (jgs_cons (jg_tup rfl (jgs_cons (jg_name (i := 8) sc_led_by.nd rfl (by first | exact Or.inl rfl | exact Or.inr rfl)) (jgs_cons (jg_name (i := 9) sc_led_by.nd rfl (by first | exact Or.inl rfl | exact Or.inr rfl)) (jgs_nil)))) (jgs_cons (jg_tup rfl (jgs_cons (jg_name (i := 10) sc_led_by.nd rfl (by first | exact Or.inl rfl | exact Or.inr rfl)) (jgs_cons (jg_name (i := 11) sc_led_by.nd rfl (by first | exact Or.inl rfl | exact Or.inr rfl)) (jgs_nil)))) (jgs_nil)))))
    (jss_cons (js_if (jb_le (jv 8) (jv 10)) (jss_one (js_rz1 T_NoPassing hr rfl (takes_of rfl rfl rfl rfl) hx (by rfl) (ja_cons (je_fz (jv 4)) (ja_nil)))) (jss_nil))
    (jss_cons (js_asg (je_cal C_pair_at hr (by rfl) (ja_cons (je_fz (jv 0)) (ja_cons (je_fz (jv 8)) (ja_cons (je_fz (jv 10)) (ja_cons (je_fz (jv 9)) (ja_cons (je_fz (jv 11)) (ja_nil))))))) (jg_tup rfl (jgs_cons (jg_name (i := 6) sc_led_by.nd rfl (by first | exact Or.inl rfl | exact Or.inr rfl)) (jgs_cons (jg_name (i := 7) sc_led_by.nd rfl (by first | exact Or.inl rfl | exact Or.inr rfl)) (jgs_nil)))))
    (jss_one (js_asg (je_tup (ja_cons (je_tup (ja_cons (jv 10) (ja_cons (jv 6) (ja_nil)))) (ja_cons (je_tup (ja_cons (jv 8) (ja_cons (jv 7) (ja_nil)))) (ja_nil)))) (jg_tup rfl (jgs_cons (jg_sub (jv 3) (jv 5)) (jgs_cons (jg_sub (jv 3) (je_add (jv 5) (je_int))) (jgs_nil)))))))))))
    (jss_one (js_ret (je_ct call_tuple_of lc_tupleOf (by rfl) B.b_tuple (by decide +kernel) (ja_cons (jv 3) (ja_nil))))))
abbrev s_cdiv : Stmt := topS 19
abbrev N_cdiv : List Str := ["one", "other"]
theorem sc_cdiv : FnScope N_cdiv ["one", "other"] (defScope s_cdiv) := ⟨rfl, rfl, rfl, by decide +kernel, rfl, by decide +kernel, by decide +kernel⟩
theorem ok_cdiv (F : FnP K "common_divisor" s_cdiv f fd) (B : Bl mg)  : FnOk P w K mg base CX0 1 f fd ["one", "other"] (LSp K T psp_cdiv) := by
  refine fn_ok (p := fun _ => p_cdiv) F sc_cdiv rfl rfl (by decide) (fun as Qp Ep h => by obtain ⟨_, _, rfl, _⟩ := h; rfl) (fun cdv A outer s H E Bh Bt Ep hr hx => JSs.nox ?_) hp_cdiv
  exact jss_cons (js_while PassesOwn.never (jb_gt (jv 1) (je_int)) (jss_one (js_par2 rfl sc_cdiv.nd rfl rfl (by decide) rfl rfl (ja_cons (jv 1) (ja_cons (je_mod (jv 0) (jv 1)) (ja_nil))) (by rfl))))
    (jss_one (js_ret (jv 0)))
abbrev s_cmul : Stmt := topS 18
abbrev N_cmul : List Str := ["numbers", "multiple", "number"]
theorem sc_cmul : FnScope N_cmul ["numbers"] (defScope s_cmul) := ⟨rfl, rfl, rfl, by decide +kernel, rfl, by decide +kernel, by decide +kernel⟩
theorem ok_cmul (F : FnP K "common_multiple" s_cmul f fd) (B : Bl mg) (C_cdiv : Cal P w K mg base CX0 1 "common_divisor" ["one", "other"] (LSp K T psp_cdiv)) : FnOk P w K mg base CX0 2 f fd ["numbers"] (LSp K T psp_cmul) := by
  refine fn_ok (p := fun _ => p_cmul) F sc_cmul rfl rfl (by decide) (fun as Qp Ep h => by obtain ⟨_, rfl, _⟩ := h; rfl) (fun cdv A outer s H E Bh Bt Ep hr hx => JSs.nox ?_) hp_cmul
  exact jss_cons (js_set (i := 1) sc_cmul.nd rfl (by first | exact Or.inl rfl | exact Or.inr rfl) (je_int))
    (jss_cons (js_for PassesOwn.never rfl (ji_seq (jv 0)) (jg_name (i := 2) sc_cmul.nd rfl (by first | exact Or.inl rfl | exact Or.inr rfl)) (jss_one (js_set (i := 1) sc_cmul.nd rfl (by first | exact Or.inl rfl | exact Or.inr rfl) (je_mul (je_fdiv (jv 1) (je_cal C_cdiv hr (by rfl) (ja_cons (je_fz (jv 1)) (ja_cons (je_fz (jv 2)) (ja_nil))))) (jv 2)))))
    (jss_one (js_ret (jv 1))))
abbrev s_moment_of : Stmt := topS 20
abbrev N_moment_of : List Str := ["upper", "lower", "divisor"]
theorem sc_moment_of : FnScope N_moment_of ["upper", "lower"] (defScope s_moment_of) := ⟨rfl, rfl, rfl, by decide +kernel, rfl, by decide +kernel, by decide +kernel⟩
theorem ok_moment_of (F : FnP K "moment_of" s_moment_of f fd) (B : Bl mg) (C_cdiv : Cal P w K mg base CX0 1 "common_divisor" ["one", "other"] (LSp K T psp_cdiv)) : FnOk P w K mg base CX0 2 f fd ["upper", "lower"] (LSp K T psp_moment_of) := by
  refine fn_ok (p := fun _ => p_moment_of) F sc_moment_of rfl rfl (by decide) (fun as Qp Ep h => by obtain ⟨_, _, rfl, _⟩ := h; rfl) (fun cdv A outer s H E Bh Bt Ep hr hx => JSs.nox ?_) hp_moment_of
  exact jss_cons (js_set (i := 2) sc_moment_of.nd rfl (by first | exact Or.inl rfl | exact Or.inr rfl) (je_cal C_cdiv hr (by rfl) (ja_cons (je_fz (jv 0)) (ja_cons (je_fz (jv 1)) (ja_nil)))))
    (jss_one (js_ret (je_tup (ja_cons (je_fdiv (jv 0) (jv 2)) (ja_cons (je_fdiv (jv 1) (jv 2)) (ja_nil))))))
abbrev s_told_order : Stmt := topS 17
abbrev N_told_order : List Str := ["kinds", "meetings", "parts", "turns", "way", "gap", "i", "j", "when", "less_u", "less_v"]
theorem sc_told_order : FnScope N_told_order ["kinds", "meetings"] (defScope s_told_order) := ⟨rfl, rfl, rfl, by decide +kernel, rfl, by decide +kernel, by decide +kernel⟩
theorem ok_told_order (F : FnP K "in_told_order" s_told_order f fd) (B : Bl mg) (C_cmul : Cal P w K mg base CX0 2 "common_multiple" ["numbers"] (LSp K T psp_cmul)) (C_moment_of : Cal P w K mg base CX0 2 "moment_of" ["upper", "lower"] (LSp K T psp_moment_of)) : FnOk P w K mg base CX0 3 f fd ["kinds", "meetings"] (LSp K T psp_told_order) := by
  refine fn_ok (p := fun _ => p_told_order) F sc_told_order rfl rfl (by decide) (fun as Qp Ep h => by obtain ⟨_, _, _, rfl, _⟩ := h; rfl) (fun cdv A outer s H E Bh Bt Ep hr hx => JSs.nox ?_) hp_told_order
  exact jss_cons (js_set (i := 2) sc_told_order.nd rfl (by first | exact Or.inl rfl | exact Or.inr rfl) (je_cal C_cmul hr (by rfl) (ja_cons (je_fz (je_lc (own := [("way", 4), ("gap", 5), ("i", 6), ("j", 7)]) rfl sc_told_order.nd (ji_seq (jv 1)) (blkOk_by (N := N_told_order) (sc := defScope s_told_order) (by decide +kernel)) (fun _ _ _ _ _ => jg_tup rfl (jgs_cons (jg_name (i := 4) sc_told_order.nd rfl (by first | exact Or.inl rfl | exact Or.inr rfl)) (jgs_cons (jg_name (i := 5) sc_told_order.nd rfl (by first | exact Or.inl rfl | exact Or.inr rfl)) (jgs_cons (jg_name (i := 6) sc_told_order.nd rfl (by first | exact Or.inl rfl | exact Or.inr rfl)) (jgs_cons (jg_name (i := 7) sc_told_order.nd rfl (by first | exact Or.inl rfl | exact Or.inr rfl)) (jgs_nil)))))) (fun _ _ _ _ _ => jts_nil) (fun _ _ _ _ _ => jv 5))) (ja_nil))))
    (jss_cons (js_set (i := 3) sc_told_order.nd rfl (by first | exact Or.inl rfl | exact Or.inr rfl) (je_cb cr_sortL lc_sortL (by rfl) B.b_sorted (by decide +kernel) (ja_cons (je_lc (own := [("way", 4), ("gap", 5), ("i", 6), ("j", 7)]) rfl sc_told_order.nd (ji_seq (jv 1)) (blkOk_by (N := N_told_order) (sc := defScope s_told_order) (by decide +kernel)) (fun _ _ _ _ _ => jg_tup rfl (jgs_cons (jg_name (i := 4) sc_told_order.nd rfl (by first | exact Or.inl rfl | exact Or.inr rfl)) (jgs_cons (jg_name (i := 5) sc_told_order.nd rfl (by first | exact Or.inl rfl | exact Or.inr rfl)) (jgs_cons (jg_name (i := 6) sc_told_order.nd rfl (by first | exact Or.inl rfl | exact Or.inr rfl)) (jgs_cons (jg_name (i := 7) sc_told_order.nd rfl (by first | exact Or.inl rfl | exact Or.inr rfl)) (jgs_nil)))))) (fun _ _ _ _ _ => jts_nil) (fun _ _ _ _ _ => je_tup (ja_cons (je_mul (jv 4) (je_fdiv (jv 2) (jv 5))) (ja_cons (je_neg (je_ix (jv 0) (jv 6) (fun _ _ => rfl))) (ja_cons (je_neg (je_ix (jv 0) (jv 7) (fun _ _ => rfl))) (ja_cons (jv 6) (ja_cons (jv 7) (ja_nil)))))))) (ja_nil))))
    (jss_one (js_ret (je_ct call_tuple_of lc_tupleOf (by rfl) B.b_tuple (by decide +kernel) (ja_cons (je_lc (own := [("when", 8), ("less_u", 9), ("less_v", 10), ("i", 6), ("j", 7)]) rfl sc_told_order.nd (ji_seq (jv 3)) (blkOk_by (N := N_told_order) (sc := defScope s_told_order) (by decide +kernel)) (fun _ _ _ _ _ => jg_tup rfl (jgs_cons (jg_name (i := 8) sc_told_order.nd rfl (by first | exact Or.inl rfl | exact Or.inr rfl)) (jgs_cons (jg_name (i := 9) sc_told_order.nd rfl (by first | exact Or.inl rfl | exact Or.inr rfl)) (jgs_cons (jg_name (i := 10) sc_told_order.nd rfl (by first | exact Or.inl rfl | exact Or.inr rfl)) (jgs_cons (jg_name (i := 6) sc_told_order.nd rfl (by first | exact Or.inl rfl | exact Or.inr rfl)) (jgs_cons (jg_name (i := 7) sc_told_order.nd rfl (by first | exact Or.inl rfl | exact Or.inr rfl)) (jgs_nil))))))) (fun _ _ _ _ _ => jts_nil) (fun _ _ _ _ _ => je_tup (ja_cons (je_cal C_moment_of hr (by rfl) (ja_cons (je_fz (jv 8)) (ja_cons (je_fz (jv 2)) (ja_nil)))) (ja_cons (jv 6) (ja_cons (jv 7) (ja_nil)))))) (ja_nil))))))
abbrev s_passings : Stmt := topS 16
abbrev N_passings : List Str := ["book", "kinds", "spots", "paces", "many", "meetings", "i", "j"]
theorem sc_passings : FnScope N_passings ["book", "kinds", "spots"] (defScope s_passings) := ⟨rfl, rfl, rfl, by decide +kernel, rfl, by decide +kernel, by decide +kernel⟩
theorem ok_passings (F : FnP K "passings" s_passings f fd) (B : Bl mg) (C_told_order : Cal P w K mg base CX0 3 "in_told_order" ["kinds", "meetings"] (LSp K T psp_told_order)) : FnOk P w K mg base CX0 4 f fd ["book", "kinds", "spots"] (LSp K T psp_passings) := by
  refine fn_ok (p := fun _ => p_passings) F sc_passings rfl rfl (by decide) (fun as Qp Ep h => by obtain ⟨_, _, _, _, _, rfl, _⟩ := h; rfl) (fun cdv A outer s H E Bh Bt Ep hr hx => JSs.nox ?_) hp_passings
  exact jss_cons (js_set (i := 3) sc_passings.nd rfl (by first | exact Or.inl rfl | exact Or.inr rfl) (je_ix (jv 0) (je_int) (fun _ _ => rfl)))
    (jss_cons (js_set (i := 4) sc_passings.nd rfl (by first | exact Or.inl rfl | exact Or.inr rfl) (je_cb call_len lc_len (by rfl) B.b_len (by decide +kernel) (ja_cons (jv 1) (ja_nil))))
    (jss_cons (js_setLc2 (i := 5) (own := [("i", 6), ("j", 7)]) [7] rfl sc_passings.nd rfl rfl (sw_true rfl rfl rfl (by decide +kernel)) (ji_rng1 (by rfl) B.b_range (ja_cons (jv 4) (ja_nil))) (blkOk_by (N := N_passings) (sc := defScope s_passings) (by decide +kernel)) (fun _ _ _ _ _ => jg_name (i := 6) sc_passings.nd rfl (by first | exact Or.inl rfl | exact Or.inr rfl)) (fun _ _ _ _ _ => jts_nil) (fun _ _ _ _ _ => ji_rng2 (by rfl) B.b_range (ja_cons (je_add (jv 6) (je_int)) (ja_cons (jv 4) (ja_nil)))) (fun _ _ _ _ _ => jg_name (i := 7) sc_passings.nd rfl (by first | exact Or.inl rfl | exact Or.inr rfl)) (fun _ _ _ _ _ => jts_one (jb_gt (je_ix (jv 1) (jv 6) (fun _ _ => rfl)) (je_ix (jv 1) (jv 7) (fun _ _ => rfl)))) (fun _ _ _ _ _ => je_tup (ja_cons (je_sub (je_ix (jv 2) (jv 7) (fun _ _ => rfl)) (je_ix (jv 2) (jv 6) (fun _ _ => rfl))) (ja_cons (je_sub (je_ix (jv 3) (je_ix (jv 1) (jv 6) (fun _ _ => rfl)) (fun _ _ => rfl)) (je_ix (jv 3) (je_ix (jv 1) (jv 7) (fun _ _ => rfl)) (fun _ _ => rfl))) (ja_cons (jv 6) (ja_cons (jv 7) (ja_nil)))))))
    (jss_one (js_ret (je_cal C_told_order hr (by rfl) (ja_cons (je_fz (jv 1)) (ja_cons (je_fz (jv 5)) (ja_nil))))))))
abbrev s_is_done_by : Stmt := topS 21
abbrev N_is_done_by : List Str := ["moment", "beat", "upper", "lower"]
theorem sc_is_done_by : FnScope N_is_done_by ["moment", "beat"] (defScope s_is_done_by) := ⟨rfl, rfl, rfl, by decide +kernel, rfl, by decide +kernel, by decide +kernel⟩
theorem ok_is_done_by (F : FnP K "is_done_by" s_is_done_by f fd) (B : Bl mg)  : FnOk P w K mg base CX0 1 f fd ["moment", "beat"] (LSp K T psp_is_done_by) := by
  refine fn_ok (p := fun _ => p_is_done_by) F sc_is_done_by rfl rfl (by decide) (fun as Qp Ep h => by obtain ⟨_, _, _, rfl, _⟩ := h; rfl) (fun cdv A outer s H E Bh Bt Ep hr hx => JSs.nox ?_) hp_is_done_by
  exact jss_cons (js_asg (jv 0) (jg_tup rfl (jgs_cons (jg_name (i := 2) sc_is_done_by.nd rfl (by first | exact Or.inl rfl | exact Or.inr rfl)) (jgs_cons (jg_name (i := 3) sc_is_done_by.nd rfl (by first | exact Or.inl rfl | exact Or.inr rfl)) (jgs_nil)))))
    (jss_one (js_ret (je_le (jv 2) (je_mul (jv 1) (jv 3)))))
abbrev s_word_by : Stmt := topS 22
abbrev N_word_by : List Str := ["book", "kinds", "spots", "beat", "order", "word", "moment", "i", "j", "k"]
theorem sc_word_by : FnScope N_word_by ["book", "kinds", "spots", "beat"] (defScope s_word_by) := ⟨rfl, rfl, rfl, by decide +kernel, rfl, by decide +kernel, by decide +kernel⟩
theorem ok_word_by (F : FunD K "word_by" "word_by" (defArgs s_word_by) (defBody s_word_by) (defScope s_word_by) [] [] f fd) (B : Bl mg) (C_passings : Cal P w K mg base CX0 4 "passings" ["book", "kinds", "spots"] (LSp K T psp_passings)) (C_is_done_by : Cal P w K mg base CX0 1 "is_done_by" ["moment", "beat"] (LSp K T psp_is_done_by)) : FnOk P w K mg base CX0 5 f fd ["book", "kinds", "spots", "beat"] (LSp K T psp_word_by) := by
  refine fn_ok (p := fun _ => p_word_by) F sc_word_by rfl rfl (by decide) (fun as Qp Ep h => by obtain ⟨_, _, _, _, _, _, rfl, _⟩ := h; rfl) (fun cdv A outer s H E Bh Bt Ep hr hx => JSs.nox ?_) hp_word_by
  exact jss_cons (js_set (i := 4) sc_word_by.nd rfl (by first | exact Or.inl rfl | exact Or.inr rfl) (je_lstRg rfl (by rfl) B.b_list (jr_1 (by rfl) B.b_range (je_cb call_len lc_len (by rfl) B.b_len (by decide +kernel) (ja_cons (jv 1) (ja_nil))))))
    (jss_cons (js_set (i := 5) sc_word_by.nd rfl (by first | exact Or.inl rfl | exact Or.inr rfl) (je_lst (ja_nil)))
    (jss_cons (js_for PassesOwn.never rfl (ji_seq (je_cal C_passings hr (by rfl) (ja_cons (je_fz (jv 0)) (ja_cons (je_fz (jv 1)) (ja_cons (je_fz (jv 2)) (ja_nil)))))) (jg_tup rfl (jgs_cons (jg_name (i := 6) sc_word_by.nd rfl (by first | exact Or.inl rfl | exact Or.inr rfl)) (jgs_cons (jg_name (i := 7) sc_word_by.nd rfl (by first | exact Or.inl rfl | exact Or.inr rfl)) (jgs_cons (jg_name (i := 8) sc_word_by.nd rfl (by first | exact Or.inl rfl | exact Or.inr rfl)) (jgs_nil))))) (jss_one (js_if (jb_val (je_cal C_is_done_by hr (by rfl) (ja_cons (je_fz (jv 6)) (ja_cons (je_fz (jv 3)) (ja_nil))))) (jss_cons (js_set (i := 9) sc_word_by.nd rfl (by first | exact Or.inl rfl | exact Or.inr rfl) (je_mt PySem.F.plainAttrs_list PySem.F.slot_list_index PySem.F.type_list_index mt_index mv_index (jv 4) (ja_cons (jv 7) (ja_nil))))
    (jss_cons (js_asg (je_tup (ja_cons (jv 8) (ja_cons (jv 7) (ja_nil)))) (jg_tup rfl (jgs_cons (jg_sub (jv 4) (jv 9)) (jgs_cons (jg_sub (jv 4) (je_add (jv 9) (je_int))) (jgs_nil)))))
    (jss_one (js_expr (je_mt PySem.F.plainAttrs_list PySem.F.slot_list_append PySem.F.type_list_append mt_append mv_append (jv 5) (ja_cons (jv 9) (ja_nil))))))) (jss_nil))))
    (jss_one (js_ret (je_ct call_tuple_of lc_tupleOf (by rfl) B.b_tuple (by decide +kernel) (ja_cons (jv 5) (ja_nil)))))))
abbrev s_order_by : Stmt := topS 23
abbrev N_order_by : List Str := ["book", "kinds", "spots", "beat"]
theorem sc_order_by : FnScope N_order_by ["book", "kinds", "spots", "beat"] (defScope s_order_by) := ⟨rfl, rfl, rfl, by decide +kernel, rfl, by decide +kernel, by decide +kernel⟩
theorem ok_order_by (F : FunD K "order_by" "order_by" (defArgs s_order_by) (defBody s_order_by) (defScope s_order_by) [] [] f fd) (B : Bl mg) (C_order_behind : Cal P w K mg base (L2.CX P w) 5 "order_behind" ["kinds", "word"] (LSp K T (psp_order_behind cNoPassing))) (CK_word_by : CalK P w K mg base CX0 5 "word_by" ["book", "kinds", "spots", "beat"] 3 ["beat"] (LSp K T psp_word_by)) : FnOk P w K mg base CX0 6 f fd ["book", "kinds", "spots", "beat"] (LSp K T psp_order_by) := by
  refine fn_ok (p := fun _ => p_order_by cNoPassing) F sc_order_by rfl rfl (by decide) (fun as Qp Ep h => by obtain ⟨_, _, _, _, _, _, rfl, _⟩ := h; rfl) (fun cdv A outer s H E Bh Bt Ep hr hx => JSs.nox ?_) (hp_order_by cNoPassing)
  exact jss_one (js_ret (je_calX (Ep := noX) (E := E0) C_order_behind hr L2.takes0 (fun _ _ _ _ z => z) xok_no (by rfl) (ja_cons (je_fz (jv 1)) (ja_cons (je_fz (je_calK CK_word_by hr (by rfl) (ja_cons (je_fz (jv 0)) (ja_cons (je_fz (jv 1)) (ja_cons (je_fz (jv 2)) (ja_nil)))) (jk_cons (je_fz (jv 3)) (jk_nil)))) (ja_nil)))))
abbrev s_row_by : Stmt := topS 24
abbrev N_row_by : List Str := ["book", "row", "spots", "beat"]
theorem sc_row_by : FnScope N_row_by ["book", "row", "spots", "beat"] (defScope s_row_by) := ⟨rfl, rfl, rfl, by decide +kernel, rfl, by decide +kernel, by decide +kernel⟩
theorem ok_row_by (F : FunD K "row_by" "row_by" (defArgs s_row_by) (defBody s_row_by) (defScope s_row_by) [] [] f fd) (B : Bl mg) (C_led_by : Cal P w K mg base (L2.CX P w) 4 "led_by" ["book", "row", "word"] (LSp K T (psp_led_by cNoPassing))) (CK_word_by : CalK P w K mg base CX0 5 "word_by" ["book", "kinds", "spots", "beat"] 3 ["beat"] (LSp K T psp_word_by)) (C_kinds_of : Cal P w K mg base CX0 1 "kinds_of" ["row"] (LSp K T psp_kinds_of)) : FnOk P w K mg base CX0 6 f fd ["book", "row", "spots", "beat"] (LSp K T psp_row_by) := by
  refine fn_ok (p := fun _ => p_row_by cNoPassing) F sc_row_by rfl rfl (by decide) (fun as Qp Ep h => by obtain ⟨_, _, _, _, _, rfl, _⟩ := h; rfl) (fun cdv A outer s H E Bh Bt Ep hr hx => JSs.nox ?_) (hp_row_by cNoPassing)
  exact jss_one (js_ret (je_calX (Ep := noX) (E := E0) C_led_by hr L2.takes0 (fun _ _ _ _ z => z) xok_no (by rfl) (ja_cons (je_fz (jv 0)) (ja_cons (je_fz (jv 1)) (ja_cons (je_fz (je_calK CK_word_by hr (by rfl) (ja_cons (je_fz (jv 0)) (ja_cons (je_fz (je_cal C_kinds_of hr (by rfl) (ja_cons (je_fz (jv 1)) (ja_nil)))) (ja_cons (je_fz (jv 2)) (ja_nil)))) (jk_cons (je_fz (jv 3)) (jk_nil)))) (ja_nil))))))
abbrev s_settled_at : Stmt := topS 25
abbrev N_settled_at : List Str := ["book", "kinds", "spots", "found", "upper", "lower"]
theorem sc_settled_at : FnScope N_settled_at ["book", "kinds", "spots"] (defScope s_settled_at) := ⟨rfl, rfl, rfl, by decide +kernel, rfl, by decide +kernel, by decide +kernel⟩
theorem ok_settled_at (F : FnP K "settled_at" s_settled_at f fd) (B : Bl mg) (C_passings : Cal P w K mg base CX0 4 "passings" ["book", "kinds", "spots"] (LSp K T psp_passings)) : FnOk P w K mg base CX0 5 f fd ["book", "kinds", "spots"] (LSp K T psp_settled_at) := by
  refine fn_ok (p := fun _ => p_settled_at) F sc_settled_at rfl rfl (by decide) (fun as Qp Ep h => by obtain ⟨_, _, _, _, _, rfl, _⟩ := h; rfl) (fun cdv A outer s H E Bh Bt Ep hr hx => JSs.nox ?_) hp_settled_at
  exact jss_cons (js_set (i := 3) sc_settled_at.nd rfl (by first | exact Or.inl rfl | exact Or.inr rfl) (je_cal C_passings hr (by rfl) (ja_cons (je_fz (jv 0)) (ja_cons (je_fz (jv 1)) (ja_cons (je_fz (jv 2)) (ja_nil))))))
    (jss_cons (js_if (jb_not (jb_tru (jv 3))) (jss_one (js_ret (je_int))) (jss_nil))
    (jss_cons (js_asg (je_ix (je_ix (jv 3) (je_neg (je_int)) (fun _ _ => rfl)) (je_int) (fun _ _ => rfl)) (jg_tup rfl (jgs_cons (jg_name (i := 4) sc_settled_at.nd rfl (by first | exact Or.inl rfl | exact Or.inr rfl)) (jgs_cons (jg_name (i := 5) sc_settled_at.nd rfl (by first | exact Or.inl rfl | exact Or.inr rfl)) (jgs_nil)))))
    (jss_one (js_ret (je_neg (je_fdiv (je_neg (jv 4)) (jv 5)))))))
abbrev s_row_at_last : Stmt := topS 26
abbrev N_row_at_last : List Str := ["book", "row", "spots"]
theorem sc_row_at_last : FnScope N_row_at_last ["book", "row", "spots"] (defScope s_row_at_last) := ⟨rfl, rfl, rfl, by decide +kernel, rfl, by decide +kernel, by decide +kernel⟩
theorem ok_row_at_last (F : FnP K "row_at_last" s_row_at_last f fd) (B : Bl mg) (CK_row_by : CalK P w K mg base CX0 6 "row_by" ["book", "row", "spots", "beat"] 3 ["beat"] (LSp K T psp_row_by)) (C_settled_at : Cal P w K mg base CX0 5 "settled_at" ["book", "kinds", "spots"] (LSp K T psp_settled_at)) (C_kinds_of : Cal P w K mg base CX0 1 "kinds_of" ["row"] (LSp K T psp_kinds_of)) : FnOk P w K mg base CX0 7 f fd ["book", "row", "spots"] (LSp K T psp_row_at_last) := by
  refine fn_ok (p := fun _ => p_row_at_last) F sc_row_at_last rfl rfl (by decide) (fun as Qp Ep h => by obtain ⟨_, _, _, _, rfl, _⟩ := h; rfl) (fun cdv A outer s H E Bh Bt Ep hr hx => JSs.nox ?_) hp_row_at_last
  exact jss_one (js_ret (je_calK CK_row_by hr (by rfl) (ja_cons (je_fz (jv 0)) (ja_cons (je_fz (jv 1)) (ja_cons (je_fz (jv 2)) (ja_nil)))) (jk_cons (je_fz (je_cal C_settled_at hr (by rfl) (ja_cons (je_fz (jv 0)) (ja_cons (je_fz (je_cal C_kinds_of hr (by rfl) (ja_cons (je_fz (jv 1)) (ja_nil)))) (ja_cons (je_fz (jv 2)) (ja_nil)))))) (jk_nil))))
abbrev s_lpart : Stmt := topS 41
abbrev N_lpart : List Str := ["_law_one", "_law_other"]
theorem sc_lpart : FnScope N_lpart ["_law_one", "_law_other"] (defScope s_lpart) := ⟨rfl, rfl, rfl, by decide +kernel, rfl, by decide +kernel, by decide +kernel⟩
theorem ok_lpart (F : FnP K "_law_part" s_lpart f fd) (B : Bl mg)  : FnOk P w K mg base CX0 1 f fd ["_law_one", "_law_other"] (LSp K T psp_lpart) := by
  refine fn_ok (p := fun _ => p_lpart) F sc_lpart rfl rfl (by decide) (fun as Qp Ep h => by obtain ⟨_, _, rfl, _⟩ := h; rfl) (fun cdv A outer s H E Bh Bt Ep hr hx => JSs.nox ?_) hp_lpart
  exact jss_cons (js_while PassesOwn.never (jb_gt (jv 1) (je_int)) (jss_one (js_par2 rfl sc_lpart.nd rfl rfl (by decide) rfl rfl (ja_cons (jv 1) (ja_cons (je_mod (jv 0) (jv 1)) (ja_nil))) (by rfl))))
    (jss_one (js_ret (jv 0)))
abbrev s_lspots3 : Stmt := topS 42
abbrev N_lspots3 : List Str := ["_law_deal_here", "_law_many", "_law_begins", "_law_k", "_law_form", "_law_wide", "_law_spot", "_law_great", "_law_found", "_law_step", "_law_leap"]
theorem sc_lspots3 : FnScope N_lspots3 ["_law_deal_here", "_law_many"] (defScope s_lspots3) := ⟨rfl, rfl, rfl, by decide +kernel, rfl, by decide +kernel, by decide +kernel⟩
theorem ok_lspots3 (F : FnP K "_law_spots" s_lspots3 f fd) (B : Bl mg) (C_draw : Cal P w K mg base CX0 1 "_law_draw" ["_law_deal_here", "_law_many"] (LSp K T psp_draw)) : FnOk P w K mg base CX0 2 f fd ["_law_deal_here", "_law_many"] (LSp K T psp_lspots3) := by
  refine fn_ok (p := fun _ => p_lspots3) F sc_lspots3 rfl rfl (by decide) (fun as Qp Ep h => by obtain ⟨_, rfl, _⟩ := h; rfl) (fun cdv A outer s H E Bh Bt Ep hr hx => JSs.nox ?_) hp_lspots3
  exact jss_cons (js_par2 rfl sc_lspots3.nd rfl rfl (by decide) rfl rfl (ja_cons (je_cal C_draw hr (by rfl) (ja_cons (jv 0) (ja_cons (je_fz (je_int)) (ja_nil)))) (ja_cons (je_ix (je_lst (ja_cons (je_int) (ja_cons (je_int) (ja_cons (je_int) (ja_cons (je_pow (je_int) (je_int)) (ja_nil)))))) (je_cal C_draw hr (by rfl) (ja_cons (jv 0) (ja_cons (je_fz (je_int)) (ja_nil)))) (fun _ _ => rfl)) (ja_nil))) (by rfl))
    (jss_cons (js_set (i := 2) sc_lspots3.nd rfl (by first | exact Or.inl rfl | exact Or.inr rfl) (je_lst (ja_cons (je_int) (ja_cons (je_sub (je_cal C_draw hr (by rfl) (ja_cons (jv 0) (ja_cons (je_fz (je_int)) (ja_nil)))) (je_int)) (ja_cons (je_sub (je_cal C_draw hr (by rfl) (ja_cons (jv 0) (ja_cons (je_fz (je_pow (je_int) (je_int))) (ja_nil)))) (je_pow (je_int) (je_int))) (ja_cons (je_sub (je_int) (je_mul (je_int) (je_pow (je_int) (je_int)))) (ja_nil)))))))
    (jss_cons (js_par3 rfl sc_lspots3.nd rfl rfl rfl (by decide) (by decide) (by decide) rfl rfl rfl (ja_cons (je_ix (jv 2) (je_cal C_draw hr (by rfl) (ja_cons (jv 0) (ja_cons (je_fz (je_int)) (ja_nil)))) (fun _ _ => rfl)) (ja_cons (jv 1) (ja_cons (je_lst (ja_nil)) (ja_nil)))) (by rfl))
    (jss_cons (js_if (jb_lt (jv 4) (je_int)) (jss_one (js_set (i := 7) sc_lspots3.nd rfl (by first | exact Or.inl rfl | exact Or.inr rfl) (je_cal C_draw hr (by rfl) (ja_cons (jv 0) (ja_cons (je_fz (je_add (jv 1) (je_int))) (ja_nil)))))) (jss_nil))
    (jss_cons (js_for PassesOwn.never rfl (ji_rng1 (by rfl) B.b_range (ja_cons (jv 1) (ja_nil))) (jg_name (i := 3) sc_lspots3.nd rfl (by first | exact Or.inl rfl | exact Or.inr rfl)) (jss_cons (js_par2 rfl sc_lspots3.nd rfl rfl (by decide) rfl rfl (ja_cons (je_add (je_int) (je_cal C_draw hr (by rfl) (ja_cons (jv 0) (ja_cons (je_fz (jv 5)) (ja_nil))))) (ja_cons (je_cal C_draw hr (by rfl) (ja_cons (jv 0) (ja_cons (je_fz (je_pow (je_int) (je_int))) (ja_nil)))) (ja_nil))) (by rfl))
    (jss_cons (js_if (jb_eq hr (jv 3) (jv 7)) (jss_one (js_set (i := 6) sc_lspots3.nd rfl (by first | exact Or.inl rfl | exact Or.inr rfl) (je_ix (je_lst (ja_cons (je_add (jv 6) (jv 10)) (ja_cons (je_add (je_sub (je_mul (je_int) (je_pow (je_int) (je_int))) (je_pow (je_int) (je_int))) (je_mod (jv 10) (je_pow (je_int) (je_int)))) (ja_nil)))) (jv 4) (fun _ _ => rfl)))) (jss_nil))
    (jss_cons (js_expr (je_mt PySem.F.plainAttrs_list PySem.F.slot_list_append PySem.F.type_list_append mt_append mv_append (jv 8) (ja_cons (jv 6) (ja_nil))))
    (jss_one (js_set (i := 6) sc_lspots3.nd rfl (by first | exact Or.inl rfl | exact Or.inr rfl) (je_add (jv 6) (jv 9))))))))
    (jss_one (js_ret (je_ct call_tuple_of lc_tupleOf (by rfl) B.b_tuple (by decide +kernel) (ja_cons (jv 8) (ja_nil)))))))))
abbrev s_lkinds3 : Stmt := topS 43
abbrev N_lkinds3 : List Str := ["_law_deal_here", "_law_book_here", "_law_many", "_law_found", "_law_k"]
theorem sc_lkinds3 : FnScope N_lkinds3 ["_law_deal_here", "_law_book_here", "_law_many"] (defScope s_lkinds3) := ⟨rfl, rfl, rfl, by decide +kernel, rfl, by decide +kernel, by decide +kernel⟩
theorem ok_lkinds3 (F : FnP K "_law_kinds" s_lkinds3 f fd) (B : Bl mg) (C_draw : Cal P w K mg base CX0 1 "_law_draw" ["_law_deal_here", "_law_many"] (LSp K T psp_draw)) : FnOk P w K mg base CX0 2 f fd ["_law_deal_here", "_law_book_here", "_law_many"] (LSp K T psp_lkinds3) := by
  refine fn_ok (p := fun _ => p_lkinds3) F sc_lkinds3 rfl rfl (by decide) (fun as Qp Ep h => by obtain ⟨_, _, _, rfl, _⟩ := h; rfl) (fun cdv A outer s H E Bh Bt Ep hr hx => JSs.nox ?_) hp_lkinds3
  exact jss_cons (js_setLc (i := 3) (own := [("_law_k", 4)]) rfl sc_lkinds3.nd rfl rfl (sw_true rfl rfl rfl (by decide +kernel)) (ji_rng1 (by rfl) B.b_range (ja_cons (jv 2) (ja_nil))) (blkOk_by (N := N_lkinds3) (sc := defScope s_lkinds3) (by decide +kernel)) (fun _ _ _ _ _ => jg_name (i := 4) sc_lkinds3.nd rfl (by first | exact Or.inl rfl | exact Or.inr rfl)) (fun _ _ _ _ _ => jts_nil) (fun _ _ _ _ _ => je_cal C_draw hr (by rfl) (ja_cons (jv 0) (ja_cons (je_fz (je_cb call_len lc_len (by rfl) B.b_len (by decide +kernel) (ja_cons (je_ix (jv 1) (je_int) (fun _ _ => rfl)) (ja_nil)))) (ja_nil)))))
    (jss_cons (js_if (jb_eq hr (je_cal C_draw hr (by rfl) (ja_cons (jv 0) (ja_cons (je_fz (je_int)) (ja_nil)))) (je_int)) (jss_one (js_set (i := 3) sc_lkinds3.nd rfl (by first | exact Or.inl rfl | exact Or.inr rfl) (je_revL (je_cb cr_sortedI lc_sorted (by rfl) B.b_sorted (by decide +kernel) (ja_cons (jv 3) (ja_nil)))))) (jss_nil))
    (jss_one (js_ret (je_ct call_tuple_of lc_tupleOf (by rfl) B.b_tuple (by decide +kernel) (ja_cons (jv 3) (ja_nil))))))
abbrev s_lmeet : Stmt := topS 44
abbrev N_lmeet : List Str := ["_law_deal_here", "_law_book_here", "_law_many", "_law_pace", "_law_hour", "_law_swift", "_law_shared", "_law_at", "_law_who", "_law_stands", "_law_group", "_law_kind", "_law_lead"]
theorem sc_lmeet : FnScope N_lmeet ["_law_deal_here", "_law_book_here", "_law_many"] (defScope s_lmeet) := ⟨rfl, rfl, rfl, by decide +kernel, rfl, by decide +kernel, by decide +kernel⟩
theorem ok_lmeet (F : FnP K "_law_meeting" s_lmeet f fd) (B : Bl mg) (C_lpart : Cal P w K mg base CX0 1 "_law_part" ["_law_one", "_law_other"] (LSp K T psp_lpart)) (C_draw : Cal P w K mg base CX0 1 "_law_draw" ["_law_deal_here", "_law_many"] (LSp K T psp_draw)) : FnOk P w K mg base CX0 2 f fd ["_law_deal_here", "_law_book_here", "_law_many"] (LSp K T psp_lmeet) := by
  refine fn_ok (p := fun _ => p_lmeet) F sc_lmeet rfl rfl (by decide) (fun as Qp Ep h => by obtain ⟨_, _, _, _, rfl, _⟩ := h; rfl) (fun cdv A outer s H E Bh Bt Ep hr hx => JSs.nox ?_) hp_lmeet
  exact jss_cons (js_par2 rfl sc_lmeet.nd rfl rfl (by decide) rfl rfl (ja_cons (je_ix (jv 1) (je_int) (fun _ _ => rfl)) (ja_cons (je_int) (ja_nil))) (by rfl))
    (jss_cons (js_for PassesOwn.never rfl (ji_seq (jv 5)) (jg_name (i := 3) sc_lmeet.nd rfl (by first | exact Or.inl rfl | exact Or.inr rfl)) (jss_one (js_set (i := 6) sc_lmeet.nd rfl (by first | exact Or.inl rfl | exact Or.inr rfl) (je_cal C_lpart hr (by rfl) (ja_cons (je_fz (je_sub (jv 3) (je_ix (jv 5) (je_int) (fun _ _ => rfl)))) (ja_cons (je_fz (jv 6)) (ja_nil)))))))
    (jss_cons (js_set (i := 4) sc_lmeet.nd rfl (by first | exact Or.inl rfl | exact Or.inr rfl) (je_add (je_int) (je_cal C_draw hr (by rfl) (ja_cons (jv 0) (ja_cons (je_fz (je_ix (je_lst (ja_cons (je_int) (ja_cons (je_int) (ja_cons (je_pow (je_int) (je_int)) (ja_nil))))) (je_cal C_draw hr (by rfl) (ja_cons (jv 0) (ja_cons (je_fz (je_int)) (ja_nil)))) (fun _ _ => rfl))) (ja_nil))))))
    (jss_cons (js_par3 rfl sc_lmeet.nd rfl rfl rfl (by decide) (by decide) (by decide) rfl rfl rfl (ja_cons (je_int) (ja_cons (je_lst (ja_nil)) (ja_cons (je_lst (ja_nil)) (ja_nil)))) (by rfl))
    (jss_cons (js_while PassesOwn.never (jb_lt (je_cb call_len lc_len (by rfl) B.b_len (by decide +kernel) (ja_cons (jv 8) (ja_nil))) (jv 2)) (jss_cons (js_set (i := 10) sc_lmeet.nd rfl (by first | exact Or.inl rfl | exact Or.inr rfl) (je_orL (je_revL (je_lc (own := [("_law_kind", 11)]) rfl sc_lmeet.nd (ji_rng1 (by rfl) B.b_range (ja_cons (je_cb call_len lc_len (by rfl) B.b_len (by decide +kernel) (ja_cons (jv 5) (ja_nil))) (ja_nil))) (blkOk_by (N := N_lmeet) (sc := defScope s_lmeet) (by decide +kernel)) (fun _ _ _ _ _ => jg_name (i := 11) sc_lmeet.nd rfl (by first | exact Or.inl rfl | exact Or.inr rfl)) (fun _ _ _ _ _ => jts_one (jb_gt (je_cal C_draw hr (by rfl) (ja_cons (jv 0) (ja_cons (je_fz (je_int)) (ja_nil)))) (je_int))) (fun _ _ _ _ _ => jv 11))) (je_one (je_lst (ja_cons (je_int) (ja_nil))))))
    (jss_cons (js_for PassesOwn.never rfl (ji_seq (je_slice (jv 10) (jo_none) (jo_some (je_sub (jv 2) (je_cb call_len lc_len (by rfl) B.b_len (by decide +kernel) (ja_cons (jv 8) (ja_nil))))))) (jg_name (i := 11) sc_lmeet.nd rfl (by first | exact Or.inl rfl | exact Or.inr rfl)) (jss_cons (js_expr (je_mt PySem.F.plainAttrs_list PySem.F.slot_list_append PySem.F.type_list_append mt_append mv_append (jv 8) (ja_cons (jv 11) (ja_nil))))
    (jss_cons (js_set (i := 12) sc_lmeet.nd rfl (by first | exact Or.inl rfl | exact Or.inr rfl) (je_fdiv (je_sub (je_ix (jv 5) (jv 11) (fun _ _ => rfl)) (je_ix (jv 5) (je_int) (fun _ _ => rfl))) (je_cb (call_max2 rfl) lc_max2 (by rfl) B.b_max (by decide +kernel) (ja_cons (je_int) (ja_cons (jv 6) (ja_nil))))))
    (jss_one (js_expr (je_mt PySem.F.plainAttrs_list PySem.F.slot_list_append PySem.F.type_list_append mt_append mv_append (jv 9) (ja_cons (je_sub (jv 7) (je_mul (jv 12) (jv 4))) (ja_nil))))))))
    (jss_one (js_set (i := 7) sc_lmeet.nd rfl (by first | exact Or.inl rfl | exact Or.inr rfl) (je_add (je_add (jv 7) (je_mul (je_add (je_int) (je_cal C_draw hr (by rfl) (ja_cons (jv 0) (ja_cons (je_fz (je_int)) (ja_nil))))) (jv 4))) (je_int)))))))
    (jss_one (js_ret (je_tup (ja_cons (je_ct call_tuple_of lc_tupleOf (by rfl) B.b_tuple (by decide +kernel) (ja_cons (jv 8) (ja_nil))) (ja_cons (je_ct call_tuple_of lc_tupleOf (by rfl) B.b_tuple (by decide +kernel) (ja_cons (jv 9) (ja_nil))) (ja_nil))))))))))
abbrev s_lsetting : Stmt := topS 45
abbrev N_lsetting : List Str := ["_law_deal_here", "_law_book_here", "_law_many"]
theorem sc_lsetting : FnScope N_lsetting ["_law_deal_here", "_law_book_here"] (defScope s_lsetting) := ⟨rfl, rfl, rfl, by decide +kernel, rfl, by decide +kernel, by decide +kernel⟩
theorem ok_lsetting (F : FnP K "_law_setting" s_lsetting f fd) (B : Bl mg) (C_draw : Cal P w K mg base CX0 1 "_law_draw" ["_law_deal_here", "_law_many"] (LSp K T psp_draw)) (C_lmeet : Cal P w K mg base CX0 2 "_law_meeting" ["_law_deal_here", "_law_book_here", "_law_many"] (LSp K T psp_lmeet)) (C_lspots3 : Cal P w K mg base CX0 2 "_law_spots" ["_law_deal_here", "_law_many"] (LSp K T psp_lspots3)) (C_lkinds3 : Cal P w K mg base CX0 2 "_law_kinds" ["_law_deal_here", "_law_book_here", "_law_many"] (LSp K T psp_lkinds3)) : FnOk P w K mg base CX0 3 f fd ["_law_deal_here", "_law_book_here"] (LSp K T psp_lsetting) := by
  refine fn_ok (p := fun _ => p_lsetting) F sc_lsetting rfl rfl (by decide) (fun as Qp Ep h => by obtain ⟨_, _, _, rfl, _⟩ := h; rfl) (fun cdv A outer s H E Bh Bt Ep hr hx => JSs.nox ?_) hp_lsetting
  exact jss_cons (js_set (i := 2) sc_lsetting.nd rfl (by first | exact Or.inl rfl | exact Or.inr rfl) (je_ix (je_lst (ja_cons (je_cal C_draw hr (by rfl) (ja_cons (jv 0) (ja_cons (je_fz (je_int)) (ja_nil)))) (ja_cons (je_cal C_draw hr (by rfl) (ja_cons (jv 0) (ja_cons (je_fz (je_int)) (ja_nil)))) (ja_nil)))) (je_cal C_draw hr (by rfl) (ja_cons (jv 0) (ja_cons (je_fz (je_int)) (ja_nil)))) (fun _ _ => rfl)))
    (jss_cons (js_if (jb_eq hr (je_cal C_draw hr (by rfl) (ja_cons (jv 0) (ja_cons (je_fz (je_int)) (ja_nil)))) (je_int)) (jss_one (js_ret (je_cal C_lmeet hr (by rfl) (ja_cons (jv 0) (ja_cons (je_fz (jv 1)) (ja_cons (je_fz (jv 2)) (ja_nil))))))) (jss_nil))
    (jss_one (js_ret (je_tup (ja_cons (je_cal C_lkinds3 hr (by rfl) (ja_cons (jv 0) (ja_cons (je_fz (jv 1)) (ja_cons (je_fz (jv 2)) (ja_nil))))) (ja_cons (je_cal C_lspots3 hr (by rfl) (ja_cons (jv 0) (ja_cons (je_fz (jv 2)) (ja_nil)))) (ja_nil)))))))
abbrev s_lsooner : Stmt := topS 46
abbrev N_lsooner : List Str := ["_law_one", "_law_other", "_law_kinds_here", "_law_mine", "_law_i", "_law_j", "_law_a", "_law_b", "_law_upper", "_law_lower", "_law_high", "_law_low"]
theorem sc_lsooner : FnScope N_lsooner ["_law_one", "_law_other", "_law_kinds_here"] (defScope s_lsooner) := ⟨rfl, rfl, rfl, by decide +kernel, rfl, by decide +kernel, by decide +kernel⟩
theorem ok_lsooner (F : FnP K "_law_sooner" s_lsooner f fd) (B : Bl mg)  : FnOk P w K mg base CX0 1 f fd ["_law_one", "_law_other", "_law_kinds_here"] (LSp K T psp_lsooner) := by
  refine fn_ok (p := fun _ => p_lsooner) F sc_lsooner rfl rfl (by decide) (fun as Qp Ep h => by obtain ⟨_, _, _, rfl, _⟩ := h; rfl) (fun cdv A outer s H E Bh Bt Ep hr hx => JSs.nox ?_) hp_lsooner
  exact jss_cons (js_asg (jv 0) (jg_tup rfl (jgs_cons (jg_tup rfl (jgs_cons (jg_name (i := 8) sc_lsooner.nd rfl (by first | exact Or.inl rfl | exact Or.inr rfl)) (jgs_cons (jg_name (i := 9) sc_lsooner.nd rfl (by first | exact Or.inl rfl | exact Or.inr rfl)) (jgs_nil)))) (jgs_cons (jg_name (i := 4) sc_lsooner.nd rfl (by first | exact Or.inl rfl | exact Or.inr rfl)) (jgs_cons (jg_name (i := 5) sc_lsooner.nd rfl (by first | exact Or.inl rfl | exact Or.inr rfl)) (jgs_nil))))))
    (jss_cons (js_asg (jv 1) (jg_tup rfl (jgs_cons (jg_tup rfl (jgs_cons (jg_name (i := 10) sc_lsooner.nd rfl (by first | exact Or.inl rfl | exact Or.inr rfl)) (jgs_cons (jg_name (i := 11) sc_lsooner.nd rfl (by first | exact Or.inl rfl | exact Or.inr rfl)) (jgs_nil)))) (jgs_cons (jg_name (i := 6) sc_lsooner.nd rfl (by first | exact Or.inl rfl | exact Or.inr rfl)) (jgs_cons (jg_name (i := 7) sc_lsooner.nd rfl (by first | exact Or.inl rfl | exact Or.inr rfl)) (jgs_nil))))))
    (jss_cons (js_if (jb_ne hr (je_mul (jv 8) (jv 11)) (je_mul (jv 10) (jv 9))) (jss_one (js_ret (je_lt (je_mul (jv 8) (jv 11)) (je_mul (jv 10) (jv 9))))) (jss_nil))
    (jss_cons (js_set (i := 3) sc_lsooner.nd rfl (by first | exact Or.inl rfl | exact Or.inr rfl) (je_tup (ja_cons (je_ix (jv 2) (jv 4) (fun _ _ => rfl)) (ja_cons (je_ix (jv 2) (jv 5) (fun _ _ => rfl)) (ja_cons (je_sub (je_int) (jv 4)) (ja_cons (je_sub (je_int) (jv 5)) (ja_nil)))))))
    (jss_one (js_ret (je_gtT hr (jv 3) (je_tup (ja_cons (je_ix (jv 2) (jv 6) (fun _ _ => rfl)) (ja_cons (je_ix (jv 2) (jv 7) (fun _ _ => rfl)) (ja_cons (je_sub (je_int) (jv 6)) (ja_cons (je_sub (je_int) (jv 7)) (ja_nil))))))))))))
abbrev s_lpass30 : Stmt := topS 47
abbrev N_lpass30 : List Str := ["_law_book_here", "_law_kinds_here", "_law_spots_here", "_law_i", "_law_found", "_law_paces_here", "_law_j", "_law_way", "_law_gain", "_law_part_here", "_law_one", "_law_sooner_here", "_law_other"]
theorem sc_lpass30 : FnScope N_lpass30 ["_law_book_here", "_law_kinds_here", "_law_spots_here"] (defScope s_lpass30) := ⟨rfl, rfl, rfl, by decide +kernel, rfl, by decide +kernel, by decide +kernel⟩
theorem ok_lpass30 (F : FnP K "_law_passings" s_lpass30 f fd) (B : Bl mg) (C_lpart : Cal P w K mg base CX0 1 "_law_part" ["_law_one", "_law_other"] (LSp K T psp_lpart)) (C_lsooner : Cal P w K mg base CX0 1 "_law_sooner" ["_law_one", "_law_other", "_law_kinds_here"] (LSp K T psp_lsooner)) : FnOk P w K mg base CX0 2 f fd ["_law_book_here", "_law_kinds_here", "_law_spots_here"] (LSp K T psp_lpass30) := by
  refine fn_ok (p := fun _ => p_lpass30) F sc_lpass30 rfl rfl (by decide) (fun as Qp Ep h => by obtain ⟨_, _, _, _, _, rfl, _⟩ := h; rfl) (fun cdv A outer s H E Bh Bt Ep hr hx => JSs.nox ?_) hp_lpass30
  exact jss_cons (js_par2 rfl sc_lpass30.nd rfl rfl (by decide) rfl rfl (ja_cons (je_lst (ja_nil)) (ja_cons (je_ix (jv 0) (je_int) (fun _ _ => rfl)) (ja_nil))) (by rfl))
    (jss_cons (js_for PassesOwn.never rfl (ji_rng1 (by rfl) B.b_range (ja_cons (je_cb call_len lc_len (by rfl) B.b_len (by decide +kernel) (ja_cons (jv 2) (ja_nil))) (ja_nil))) (jg_name (i := 3) sc_lpass30.nd rfl (by first | exact Or.inl rfl | exact Or.inr rfl)) (jss_one (js_for PassesOwn.never rfl (ji_rng2 (by rfl) B.b_range (ja_cons (je_add (jv 3) (je_int)) (ja_cons (je_cb call_len lc_len (by rfl) B.b_len (by decide +kernel) (ja_cons (jv 2) (ja_nil))) (ja_nil)))) (jg_name (i := 6) sc_lpass30.nd rfl (by first | exact Or.inl rfl | exact Or.inr rfl)) (jss_one (js_if (jb_gt (je_ix (jv 1) (jv 3) (fun _ _ => rfl)) (je_ix (jv 1) (jv 6) (fun _ _ => rfl))) (jss_cons (js_set (i := 7) sc_lpass30.nd rfl (by first | exact Or.inl rfl | exact Or.inr rfl) (je_sub (je_ix (jv 2) (jv 6) (fun _ _ => rfl)) (je_ix (jv 2) (jv 3) (fun _ _ => rfl))))
    (jss_cons (js_set (i := 8) sc_lpass30.nd rfl (by first | exact Or.inl rfl | exact Or.inr rfl) (je_sub (je_ix (jv 5) (je_ix (jv 1) (jv 3) (fun _ _ => rfl)) (fun _ _ => rfl)) (je_ix (jv 5) (je_ix (jv 1) (jv 6) (fun _ _ => rfl)) (fun _ _ => rfl))))
    (jss_cons (js_set (i := 9) sc_lpass30.nd rfl (by first | exact Or.inl rfl | exact Or.inr rfl) (je_cal C_lpart hr (by rfl) (ja_cons (je_fz (jv 7)) (ja_cons (je_fz (jv 8)) (ja_nil)))))
    (jss_cons (js_set (i := 10) sc_lpass30.nd rfl (by first | exact Or.inl rfl | exact Or.inr rfl) (je_tup (ja_cons (je_tup (ja_cons (je_fdiv (jv 7) (jv 9)) (ja_cons (je_fdiv (jv 8) (jv 9)) (ja_nil)))) (ja_cons (jv 3) (ja_cons (jv 6) (ja_nil))))))
    (jss_cons (js_setLcB (i := 11) (b0 := 4) (own := [("_law_other", 12)]) rfl sc_lpass30.nd rfl rfl (sw_true rfl rfl rfl (by decide +kernel)) (pv 4) (blkOk_by (N := N_lpass30) (sc := defScope s_lpass30) (by decide +kernel)) (fun _ _ _ _ _ => jg_name (i := 12) sc_lpass30.nd rfl (by first | exact Or.inl rfl | exact Or.inr rfl)) (fun _ _ _ _ _ => jts_one (jb_val (je_cal C_lsooner hr (by rfl) (ja_cons (je_fz (jv 12)) (ja_cons (je_fz (jv 10)) (ja_cons (je_fz (jv 1)) (ja_nil))))))) (fun _ _ _ _ _ => jv 12))
    (jss_one (js_expr (je_mt PySem.F.plainAttrs_list PySem.F.slot_list_insert PySem.F.type_list_insert mt_insert mv_insert (jv 4) (ja_cons (je_cb call_len lc_len (by rfl) B.b_len (by decide +kernel) (ja_cons (jv 11) (ja_nil))) (ja_cons (jv 10) (ja_nil))))))))))) (jss_nil))))))
    (jss_one (js_ret (jv 4))))
abbrev s_ltpair : Stmt := topS 40
abbrev N_ltpair : List Str := ["_law_book_here", "_law_u", "_law_v", "_law_a", "_law_b"]
theorem sc_ltpair : FnScope N_ltpair ["_law_book_here", "_law_u", "_law_v", "_law_a", "_law_b"] (defScope s_ltpair) := ⟨rfl, rfl, rfl, by decide +kernel, rfl, by decide +kernel, by decide +kernel⟩
theorem ok_ltpair (F : FnP K "_law_told_pair" s_ltpair f fd) (B : Bl mg)  : FnOk P w K mg base CX0 1 f fd ["_law_book_here", "_law_u", "_law_v", "_law_a", "_law_b"] (LSp K T psp_ltpair) := by
  refine fn_ok (p := fun _ => p_ltpair) F sc_ltpair rfl rfl (by decide) (fun as Qp Ep h => by obtain ⟨_, _, _, _, _, _, rfl, _⟩ := h; rfl) (fun cdv A outer s H E Bh Bt Ep hr hx => JSs.nox ?_) hp_ltpair
  exact jss_one (js_ret (je_ix (je_ix (je_ix (jv 0) (je_int) (fun _ _ => rfl)) (je_add (je_fdiv (je_mul (jv 1) (je_sub (jv 1) (je_int))) (je_int)) (jv 2)) (fun _ _ => rfl)) (je_add (je_mul (jv 3) (je_ix (jv 0) (je_int) (fun _ _ => rfl))) (jv 4)) (fun _ _ => rfl)))
abbrev s_lword_by : Stmt := topS 48
abbrev N_lword_by : List Str := ["_law_found", "_law_hour", "_law_done", "_law_word", "_law_n", "_law_ahead", "_law_i", "_law_j", "_law_upper", "_law_lower", "_law_a", "_law_b"]
theorem sc_lword_by : FnScope N_lword_by ["_law_found", "_law_hour"] (defScope s_lword_by) := ⟨rfl, rfl, rfl, by decide +kernel, rfl, by decide +kernel, by decide +kernel⟩
theorem ok_lword_by (F : FnP K "_law_word_by" s_lword_by f fd) (B : Bl mg)  : FnOk P w K mg base CX0 1 f fd ["_law_found", "_law_hour"] (LSp K T psp_lword_by) := by
  refine fn_ok (p := fun _ => p_lword_by) F sc_lword_by rfl rfl (by decide) (fun as Qp Ep h => by obtain ⟨_, _, _, _, _, rfl, _⟩ := h; rfl) (fun cdv A outer s H E Bh Bt Ep hr hx => JSs.nox ?_) hp_lword_by
  exact jss_cons (js_setLc (i := 2) (own := [("_law_i", 6), ("_law_j", 7), ("_law_upper", 8), ("_law_lower", 9)]) rfl sc_lword_by.nd rfl rfl (sw_true rfl rfl rfl (by decide +kernel)) (ji_seq (jv 0)) (blkOk_by (N := N_lword_by) (sc := defScope s_lword_by) (by decide +kernel)) (fun _ _ _ _ _ => jg_tup rfl (jgs_cons (jg_tup rfl (jgs_cons (jg_name (i := 8) sc_lword_by.nd rfl (by first | exact Or.inl rfl | exact Or.inr rfl)) (jgs_cons (jg_name (i := 9) sc_lword_by.nd rfl (by first | exact Or.inl rfl | exact Or.inr rfl)) (jgs_nil)))) (jgs_cons (jg_name (i := 6) sc_lword_by.nd rfl (by first | exact Or.inl rfl | exact Or.inr rfl)) (jgs_cons (jg_name (i := 7) sc_lword_by.nd rfl (by first | exact Or.inl rfl | exact Or.inr rfl)) (jgs_nil))))) (fun _ _ _ _ _ => jts_one (jb_le (jv 8) (je_mul (jv 1) (jv 9)))) (fun _ _ _ _ _ => je_tup (ja_cons (jv 6) (ja_cons (jv 7) (ja_nil)))))
    (jss_cons (js_set (i := 3) sc_lword_by.nd rfl (by first | exact Or.inl rfl | exact Or.inr rfl) (je_lst (ja_nil)))
    (jss_cons (js_for PassesOwn.never rfl (ji_enum (by rfl) B.b_enumerate (ja_cons (jv 2) (ja_nil))) (jg_tup rfl (jgs_cons (jg_name (i := 4) sc_lword_by.nd rfl (by first | exact Or.inl rfl | exact Or.inr rfl)) (jgs_cons (jg_tup rfl (jgs_cons (jg_name (i := 6) sc_lword_by.nd rfl (by first | exact Or.inl rfl | exact Or.inr rfl)) (jgs_cons (jg_name (i := 7) sc_lword_by.nd rfl (by first | exact Or.inl rfl | exact Or.inr rfl)) (jgs_nil)))) (jgs_nil)))) (jss_cons (js_set (i := 5) sc_lword_by.nd rfl (by first | exact Or.inl rfl | exact Or.inr rfl) (je_cb call_len lc_len (by rfl) B.b_len (by decide +kernel) (ja_cons (je_lc (own := [("_law_a", 10), ("_law_b", 11)]) rfl sc_lword_by.nd (ji_seq (je_slice (jv 2) (jo_none) (jo_some (jv 4)))) (blkOk_by (N := N_lword_by) (sc := defScope s_lword_by) (by decide +kernel)) (fun _ _ _ _ _ => jg_tup rfl (jgs_cons (jg_name (i := 10) sc_lword_by.nd rfl (by first | exact Or.inl rfl | exact Or.inr rfl)) (jgs_cons (jg_name (i := 11) sc_lword_by.nd rfl (by first | exact Or.inl rfl | exact Or.inr rfl)) (jgs_nil)))) (fun _ _ _ _ _ => jts_one (jb_eq hr (jv 10) (jv 6))) (fun _ _ _ _ _ => je_int)) (ja_nil))))
    (jss_one (js_expr (je_mt PySem.F.plainAttrs_list PySem.F.slot_list_append PySem.F.type_list_append mt_append mv_append (jv 3) (ja_cons (je_sub (je_add (jv 6) (jv 5)) (je_cb call_len lc_len (by rfl) B.b_len (by decide +kernel) (ja_cons (je_lc (own := [("_law_a", 10), ("_law_b", 11)]) rfl sc_lword_by.nd (ji_seq (je_slice (jv 2) (jo_none) (jo_some (jv 4)))) (blkOk_by (N := N_lword_by) (sc := defScope s_lword_by) (by decide +kernel)) (fun _ _ _ _ _ => jg_tup rfl (jgs_cons (jg_name (i := 10) sc_lword_by.nd rfl (by first | exact Or.inl rfl | exact Or.inr rfl)) (jgs_cons (jg_name (i := 11) sc_lword_by.nd rfl (by first | exact Or.inl rfl | exact Or.inr rfl)) (jgs_nil)))) (fun _ _ _ _ _ => jts_one (jb_eq hr (jv 11) (jv 6))) (fun _ _ _ _ _ => je_int)) (ja_nil)))) (ja_nil)))))))
    (jss_one (js_ret (je_ct call_tuple_of lc_tupleOf (by rfl) B.b_tuple (by decide +kernel) (ja_cons (jv 3) (ja_nil)))))))
abbrev s_lled : Stmt := topS 49
abbrev N_lled : List Str := ["_law_book_here", "_law_row", "_law_word", "_law_walkers", "_law_k", "_law_u", "_law_a", "_law_v", "_law_b", "_law_c", "_law_d"]
theorem sc_lled : FnScope N_lled ["_law_book_here", "_law_row", "_law_word"] (defScope s_lled) := ⟨rfl, rfl, rfl, by decide +kernel, rfl, by decide +kernel, by decide +kernel⟩
theorem ok_lled (F : FnP K "_law_led" s_lled f fd) (B : Bl mg) (C_ltpair : Cal P w K mg base CX0 1 "_law_told_pair" ["_law_book_here", "_law_u", "_law_v", "_law_a", "_law_b"] (LSp K T psp_ltpair)) : FnOk P w K mg base CX0 2 f fd ["_law_book_here", "_law_row", "_law_word"] (LSp K T psp_lled) := by
  refine fn_ok (p := fun _ => p_lled) F sc_lled rfl rfl (by decide) (fun as Qp Ep h => by obtain ⟨_, _, _, _, _, rfl, _⟩ := h; rfl) (fun cdv A outer s H E Bh Bt Ep hr hx => JSs.nox ?_) hp_lled
  exact jss_cons (js_set (i := 3) sc_lled.nd rfl (by first | exact Or.inl rfl | exact Or.inr rfl) (je_ct call_list_of lc_listOf (by rfl) B.b_list (by decide +kernel) (ja_cons (jv 1) (ja_nil))))
    (jss_cons (js_for PassesOwn.never rfl (ji_seq (jv 2)) (jg_name (i := 4) sc_lled.nd rfl (by first | exact Or.inl rfl | exact Or.inr rfl)) (jss_cons (js_asg (je_ix (jv 3) (jv 4) (fun _ _ => rfl)) (jg_tup rfl (jgs_cons (jg_name (i := 5) sc_lled.nd rfl (by first | exact Or.inl rfl | exact Or.inr rfl)) (jgs_cons (jg_name (i := 6) sc_lled.nd rfl (by first | exact Or.inl rfl | exact Or.inr rfl)) (jgs_nil)))))
    (jss_cons (js_asg (je_ix (jv 3) (je_add (jv 4) (je_int)) (fun _ _ => rfl)) (jg_tup rfl (jgs_cons (jg_name (i := 7) sc_lled.nd rfl (by first | exact Or.inl rfl | exact Or.inr rfl)) (jgs_cons (jg_name (i := 8) sc_lled.nd rfl (by first | exact Or.inl rfl | exact Or.inr rfl)) (jgs_nil)))))
    (jss_cons (js_asg (je_cal C_ltpair hr (by rfl) (ja_cons (je_fz (jv 0)) (ja_cons (je_fz (jv 5)) (ja_cons (je_fz (jv 7)) (ja_cons (je_fz (jv 6)) (ja_cons (je_fz (jv 8)) (ja_nil))))))) (jg_tup rfl (jgs_cons (jg_name (i := 9) sc_lled.nd rfl (by first | exact Or.inl rfl | exact Or.inr rfl)) (jgs_cons (jg_name (i := 10) sc_lled.nd rfl (by first | exact Or.inl rfl | exact Or.inr rfl)) (jgs_nil)))))
    (jss_one (js_asg (je_tup (ja_cons (je_tup (ja_cons (jv 7) (ja_cons (jv 9) (ja_nil)))) (ja_cons (je_tup (ja_cons (jv 5) (ja_cons (jv 10) (ja_nil)))) (ja_nil)))) (jg_tup rfl (jgs_cons (jg_sub (jv 3) (jv 4)) (jgs_cons (jg_sub (jv 3) (je_add (jv 4) (je_int))) (jgs_nil))))))))))
    (jss_one (js_ret (je_ct call_tuple_of lc_tupleOf (by rfl) B.b_tuple (by decide +kernel) (ja_cons (jv 3) (ja_nil))))))
abbrev s_lsettled : Stmt := topS 50
abbrev N_lsettled : List Str := ["_law_found", "_law_least", "_law_i", "_law_j", "_law_upper", "_law_lower"]
theorem sc_lsettled : FnScope N_lsettled ["_law_found"] (defScope s_lsettled) := ⟨rfl, rfl, rfl, by decide +kernel, rfl, by decide +kernel, by decide +kernel⟩
theorem ok_lsettled (F : FnP K "_law_settled" s_lsettled f fd) (B : Bl mg)  : FnOk P w K mg base CX0 1 f fd ["_law_found"] (LSp K T psp_lsettled) := by
  refine fn_ok (p := fun _ => p_lsettled) F sc_lsettled rfl rfl (by decide) (fun as Qp Ep h => by obtain ⟨_, _, _, _, rfl, _⟩ := h; rfl) (fun cdv A outer s H E Bh Bt Ep hr hx => JSs.nox ?_) hp_lsettled
  exact jss_cons (js_set (i := 1) sc_lsettled.nd rfl (by first | exact Or.inl rfl | exact Or.inr rfl) (je_int))
    (jss_cons (js_for PassesOwn.never rfl (ji_seq (jv 0)) (jg_tup rfl (jgs_cons (jg_tup rfl (jgs_cons (jg_name (i := 4) sc_lsettled.nd rfl (by first | exact Or.inl rfl | exact Or.inr rfl)) (jgs_cons (jg_name (i := 5) sc_lsettled.nd rfl (by first | exact Or.inl rfl | exact Or.inr rfl)) (jgs_nil)))) (jgs_cons (jg_name (i := 2) sc_lsettled.nd rfl (by first | exact Or.inl rfl | exact Or.inr rfl)) (jgs_cons (jg_name (i := 3) sc_lsettled.nd rfl (by first | exact Or.inl rfl | exact Or.inr rfl)) (jgs_nil))))) (jss_one (js_set (i := 1) sc_lsettled.nd rfl (by first | exact Or.inl rfl | exact Or.inr rfl) (je_cb (call_max2 rfl) lc_max2 (by rfl) B.b_max (by decide +kernel) (ja_cons (jv 1) (ja_cons (je_add (je_fdiv (jv 4) (jv 5)) (je_ct call_int1 lc_int1 (by rfl) B.b_int (by decide +kernel) (ja_cons (je_lt (je_mul (je_fdiv (jv 4) (jv 5)) (jv 5)) (jv 4)) (ja_nil)))) (ja_nil)))))))
    (jss_one (js_ret (jv 1))))
abbrev s_lright33 : Stmt := topS 51
abbrev N_lright33 : List Str := ["_law_book_here", "_law_row", "_law_spots_here", "_law_kinds_here", "_law_found", "_law_ends", "_law_due", "_law_last", "_law_kind", "_law_burden", "_law_walker"]
theorem sc_lright33 : FnScope N_lright33 ["_law_book_here", "_law_row", "_law_spots_here"] (defScope s_lright33) := ⟨rfl, rfl, rfl, by decide +kernel, rfl, by decide +kernel, by decide +kernel⟩
theorem ok_lright33 (F : FnP K "_law_right" s_lright33 f fd) (B : Bl mg) (C_lpass30 : Cal P w K mg base CX0 2 "_law_passings" ["_law_book_here", "_law_kinds_here", "_law_spots_here"] (LSp K T psp_lpass30)) (C_lsettled : Cal P w K mg base CX0 1 "_law_settled" ["_law_found"] (LSp K T psp_lsettled)) (C_alike : Cal P w K mg base CX0 1 "_law_alike" ["_law_found", "_law_due"] (LSp K T psp_alike)) (C_settled_at : Cal P w K mg base CX0 5 "settled_at" ["book", "kinds", "spots"] (LSp K T psp_settled_at)) (C_lled : Cal P w K mg base CX0 2 "_law_led" ["_law_book_here", "_law_row", "_law_word"] (LSp K T psp_lled)) (C_lword_by : Cal P w K mg base CX0 1 "_law_word_by" ["_law_found", "_law_hour"] (LSp K T psp_lword_by)) (C_row_at_last : Cal P w K mg base CX0 7 "row_at_last" ["book", "row", "spots"] (LSp K T psp_row_at_last)) (CK_order_by : CalK P w K mg base CX0 6 "order_by" ["book", "kinds", "spots", "beat"] 3 ["beat"] (LSp K T psp_order_by)) (CK_row_by : CalK P w K mg base CX0 6 "row_by" ["book", "row", "spots", "beat"] 3 ["beat"] (LSp K T psp_row_by)) : FnOk P w K mg base CX0 8 f fd ["_law_book_here", "_law_row", "_law_spots_here"] (LSp K T psp_lright33) := by
  refine fn_ok (p := fun _ => p_lright33) F sc_lright33 rfl rfl (by decide) (fun as Qp Ep h => by obtain ⟨_, _, _, _, rfl, _⟩ := h; rfl) (fun cdv A outer s H E Bh Bt Ep hr hx => JSs.nox ?_) hp_lright33
  exact jss_cons (js_set (i := 3) sc_lright33.nd rfl (by first | exact Or.inl rfl | exact Or.inr rfl) (je_ct call_tuple_of lc_tupleOf (by rfl) B.b_tuple (by decide +kernel) (ja_cons (je_lc (own := [("_law_kind", 8), ("_law_burden", 9)]) rfl sc_lright33.nd (ji_seq (jv 1)) (blkOk_by (N := N_lright33) (sc := defScope s_lright33) (by decide +kernel)) (fun _ _ _ _ _ => jg_tup rfl (jgs_cons (jg_name (i := 8) sc_lright33.nd rfl (by first | exact Or.inl rfl | exact Or.inr rfl)) (jgs_cons (jg_name (i := 9) sc_lright33.nd rfl (by first | exact Or.inl rfl | exact Or.inr rfl)) (jgs_nil)))) (fun _ _ _ _ _ => jts_nil) (fun _ _ _ _ _ => jv 8)) (ja_nil))))
    (jss_cons (js_set (i := 4) sc_lright33.nd rfl (by first | exact Or.inl rfl | exact Or.inr rfl) (je_cal C_lpass30 hr (by rfl) (ja_cons (je_fz (jv 0)) (ja_cons (je_fz (jv 3)) (ja_cons (je_fz (jv 2)) (ja_nil))))))
    (jss_cons (js_par2 rfl sc_lright33.nd rfl rfl (by decide) rfl rfl (ja_cons (je_cal C_lsettled hr (by rfl) (ja_cons (je_fz (jv 4)) (ja_nil))) (ja_cons (je_ct call_tuple_of lc_tupleOf (by rfl) B.b_tuple (by decide +kernel) (ja_cons (je_lc (own := [("_law_kind", 8), ("_law_walker", 10)]) rfl sc_lright33.nd (ji_seq (je_cb cr_sortL lc_sortL (by rfl) B.b_sorted (by decide +kernel) (ja_cons (je_lstZR rfl (by rfl) B.b_list (by rfl) B.b_zip (jv 3) (jr_1 (by rfl) B.b_range (je_cb call_len lc_len (by rfl) B.b_len (by decide +kernel) (ja_cons (jv 3) (ja_nil))))) (ja_nil)))) (blkOk_by (N := N_lright33) (sc := defScope s_lright33) (by decide +kernel)) (fun _ _ _ _ _ => jg_tup rfl (jgs_cons (jg_name (i := 8) sc_lright33.nd rfl (by first | exact Or.inl rfl | exact Or.inr rfl)) (jgs_cons (jg_name (i := 10) sc_lright33.nd rfl (by first | exact Or.inl rfl | exact Or.inr rfl)) (jgs_nil)))) (fun _ _ _ _ _ => jts_nil) (fun _ _ _ _ _ => jv 10)) (ja_nil))) (ja_nil))) (by rfl))
    (jss_cons (js_if (jb_not (jb_val (je_cal C_alike hr (by rfl) (ja_cons (je_fz (je_cal C_settled_at hr (by rfl) (ja_cons (je_fz (jv 0)) (ja_cons (je_fz (jv 3)) (ja_cons (je_fz (jv 2)) (ja_nil)))))) (ja_cons (je_fz (jv 6)) (ja_nil)))))) (jss_one (js_ret (je_bl))) (jss_nil))
    (jss_cons (js_set (i := 5) sc_lright33.nd rfl (by first | exact Or.inl rfl | exact Or.inr rfl) (je_cal C_lled hr (by rfl) (ja_cons (je_fz (jv 0)) (ja_cons (je_fz (jv 1)) (ja_cons (je_fz (je_cal C_lword_by hr (by rfl) (ja_cons (je_fz (jv 4)) (ja_cons (je_fz (jv 6)) (ja_nil))))) (ja_nil))))))
    (jss_cons (js_if (jb_not (jb_val (je_cal C_alike hr (by rfl) (ja_cons (je_fz (je_cal C_row_at_last hr (by rfl) (ja_cons (je_fz (jv 0)) (ja_cons (je_fz (jv 1)) (ja_cons (je_fz (jv 2)) (ja_nil)))))) (ja_cons (je_fz (jv 5)) (ja_nil)))))) (jss_one (js_ret (je_bl))) (jss_nil))
    (jss_cons (js_if (jw_pt (jw_or (jb_ne hr (je_calK CK_order_by hr (by rfl) (ja_cons (je_fz (jv 0)) (ja_cons (je_fz (jv 3)) (ja_cons (je_fz (jv 2)) (ja_nil)))) (jk_cons (je_fz (jv 6)) (jk_nil))) (jv 7)) (jw_or1 (jb_ne hr (je_calK CK_row_by hr (by rfl) (ja_cons (je_fz (jv 0)) (ja_cons (je_fz (jv 1)) (ja_cons (je_fz (jv 2)) (ja_nil)))) (jk_cons (je_fz (jv 6)) (jk_nil))) (jv 5))))) (jss_one (js_ret (je_bl))) (jss_nil))
    (jss_cons (js_if (jw_pt (jw_or (jb_eq hr (jv 6) (je_int)) (jw_or1 (jb_gt (jv 6) (je_pow (je_int) (je_int)))))) (jss_one (js_ret (je_bl))) (jss_nil))
    (jss_one (js_ret (je_ne hr (je_calK CK_order_by hr (by rfl) (ja_cons (je_fz (jv 0)) (ja_cons (je_fz (jv 3)) (ja_cons (je_fz (jv 2)) (ja_nil)))) (jk_cons (je_fz (je_sub (jv 6) (je_int))) (jk_nil))) (jv 7)))))))))))
abbrev s_law33 : Stmt := topS 52
abbrev N_law33 : List Str := ["_law_script", "_law_book_here", "_law_turn", "_law_deal_here", "_law_asked", "_law_kinds_here", "_law_spots_here", "_law_row", "_law_kind"]
theorem sc_law33 : FnScope N_law33 ["_law_script"] (defScope s_law33) := ⟨rfl, rfl, rfl, by decide +kernel, rfl, by decide +kernel, by decide +kernel⟩
theorem ok_law33 (F : FnP K "law" s_law33 f fd) (B : Bl mg) (C_deal : Cal P w K mg base CX0 1 "_law_deal" ["_law_script", "_law_base"] (LSp K T psp_deal)) (C_book : Cal P w K mg base CX0 4 "_law_book" ["_law_deal_here", "_law_many", "_law_size", "_law_form"] (LSp K T psp_book)) (C_draw : Cal P w K mg base CX0 1 "_law_draw" ["_law_deal_here", "_law_many"] (LSp K T psp_draw)) (C_lsetting : Cal P w K mg base CX0 3 "_law_setting" ["_law_deal_here", "_law_book_here"] (LSp K T psp_lsetting)) (C_lright33 : Cal P w K mg base CX0 8 "_law_right" ["_law_book_here", "_law_row", "_law_spots_here"] (LSp K T psp_lright33)) : FnOk P w K mg base CX0 9 f fd ["_law_script"] (LSp K T psp_law) := by
  refine fn_ok (p := fun _ => p_law33) F sc_law33 rfl rfl (by decide) (fun as Qp Ep h => by obtain ⟨_, rfl, _⟩ := h; rfl) (fun cdv A outer s H E Bh Bt Ep hr hx => JSs.nox ?_) hp_law33
  exact jss_cons (js_parT (xs := []) (is := [3, 4]) (ja_cons (je_cal C_deal hr (by rfl) (ja_cons (jv 0) (ja_cons (je_fz (je_int)) (ja_nil)))) (ja_cons (je_lst (ja_nil)) (ja_nil))) (pg_tup rfl (pgs_cons (pg_name (i := 3) sc_law33.nd rfl (by first | exact Or.inl rfl | exact Or.inr rfl)) (pgs_cons (pg_name (i := 4) sc_law33.nd rfl (by first | exact Or.inl rfl | exact Or.inr rfl)) (pgs_nil)))) (par_goS (par_goS (par_go0))))
    (jss_cons (js_set (i := 1) sc_law33.nd rfl (by first | exact Or.inl rfl | exact Or.inr rfl) (je_cal C_book hr (by rfl) (ja_cons (jv 3) (ja_cons (je_fz (je_add (je_int) (je_cal C_draw hr (by rfl) (ja_cons (jv 3) (ja_cons (je_fz (je_int)) (ja_nil)))))) (ja_cons (je_fz (je_add (je_int) (je_cal C_draw hr (by rfl) (ja_cons (jv 3) (ja_cons (je_fz (je_int)) (ja_nil)))))) (ja_cons (je_fz (je_cal C_draw hr (by rfl) (ja_cons (jv 3) (ja_cons (je_fz (je_int)) (ja_nil))))) (ja_nil)))))))
    (jss_cons (js_for PassesOwn.never rfl (ji_rng1 (by rfl) B.b_range (ja_cons (je_int) (ja_nil))) (jg_name (i := 2) sc_law33.nd rfl (by first | exact Or.inl rfl | exact Or.inr rfl)) (jss_cons (js_asg (je_cal C_lsetting hr (by rfl) (ja_cons (jv 3) (ja_cons (je_fz (jv 1)) (ja_nil)))) (jg_tup rfl (jgs_cons (jg_name (i := 5) sc_law33.nd rfl (by first | exact Or.inl rfl | exact Or.inr rfl)) (jgs_cons (jg_name (i := 6) sc_law33.nd rfl (by first | exact Or.inl rfl | exact Or.inr rfl)) (jgs_nil)))))
    (jss_one (js_expr (je_mt PySem.F.plainAttrs_list PySem.F.slot_list_append PySem.F.type_list_append mt_append mv_append (jv 4) (ja_cons (je_tup (ja_cons (je_ct call_tuple_of lc_tupleOf (by rfl) B.b_tuple (by decide +kernel) (ja_cons (je_lc (own := [("_law_kind", 8)]) rfl sc_law33.nd (ji_seq (jv 5)) (blkOk_by (N := N_law33) (sc := defScope s_law33) (by decide +kernel)) (fun _ _ _ _ _ => jg_name (i := 8) sc_law33.nd rfl (by first | exact Or.inl rfl | exact Or.inr rfl)) (fun _ _ _ _ _ => jts_nil) (fun _ _ _ _ _ => je_tup (ja_cons (jv 8) (ja_cons (je_cal C_draw hr (by rfl) (ja_cons (jv 3) (ja_cons (je_fz (je_ix (jv 1) (je_int) (fun _ _ => rfl))) (ja_nil)))) (ja_nil))))) (ja_nil))) (ja_cons (jv 6) (ja_nil)))) (ja_nil)))))))
    (jss_one (js_ret (je_cb (cr_all rfl) lc_all (by rfl) B.b_all (by decide +kernel) (ja_cons (je_lc (own := [("_law_row", 7), ("_law_spots_here", 6)]) rfl sc_law33.nd (ji_seq (je_add (jv 4) (je_slice (jv 4) (jo_none) (jo_some (je_int))))) (blkOk_by (N := N_law33) (sc := defScope s_law33) (by decide +kernel)) (fun _ _ _ _ _ => jg_tup rfl (jgs_cons (jg_name (i := 7) sc_law33.nd rfl (by first | exact Or.inl rfl | exact Or.inr rfl)) (jgs_cons (jg_name (i := 6) sc_law33.nd rfl (by first | exact Or.inl rfl | exact Or.inr rfl)) (jgs_nil)))) (fun _ _ _ _ _ => jts_nil) (fun _ _ _ _ _ => je_cal C_lright33 hr (by rfl) (ja_cons (je_fz (jv 1)) (ja_cons (je_fz (jv 7)) (ja_cons (je_fz (jv 6)) (ja_nil)))))) (ja_nil)))))))
end
def dd_init_NoPassing : He.DefD := ⟨("NoPassing", some "__init__"), "__init__", "NoPassing.__init__", defArgs s_init_NoPassing, defBody s_init_NoPassing, defScope s_init_NoPassing, [], []⟩
def dd_draw : He.DefD := ⟨("_law_draw", none), "_law_draw", "_law_draw", defArgs s_draw, defBody s_draw, defScope s_draw, [], []⟩
def dd_deal : He.DefD := ⟨("_law_deal", none), "_law_deal", "_law_deal", defArgs s_deal, defBody s_deal, defScope s_deal, [], []⟩
def dd_alike : He.DefD := ⟨("_law_alike", none), "_law_alike", "_law_alike", defArgs s_alike, defBody s_alike, defScope s_alike, [], []⟩
def dd_paces : He.DefD := ⟨("_law_paces", none), "_law_paces", "_law_paces", defArgs s_paces, defBody s_paces, defScope s_paces, [], []⟩
def dd_pair : He.DefD := ⟨("_law_pair", none), "_law_pair", "_law_pair", defArgs s_pair, defBody s_pair, defScope s_pair, [], []⟩
def dd_plain : He.DefD := ⟨("_law_plain", none), "_law_plain", "_law_plain", defArgs s_plain, defBody s_plain, defScope s_plain, [], []⟩
def dd_side : He.DefD := ⟨("_law_side", none), "_law_side", "_law_side", defArgs s_side, defBody s_side, defScope s_side, [], []⟩
def dd_mixed : He.DefD := ⟨("_law_mixed", none), "_law_mixed", "_law_mixed", defArgs s_mixed, defBody s_mixed, defScope s_mixed, [], []⟩
def dd_names_put : He.DefD := ⟨("_law_names_put", none), "_law_names_put", "_law_names_put", defArgs s_names_put, defBody s_names_put, defScope s_names_put, [], []⟩
def dd_good : He.DefD := ⟨("_law_good", none), "_law_good", "_law_good", defArgs s_good, defBody s_good, defScope s_good, [], []⟩
def dd_any : He.DefD := ⟨("_law_any", none), "_law_any", "_law_any", defArgs s_any, defBody s_any, defScope s_any, [], []⟩
def dd_book : He.DefD := ⟨("_law_book", none), "_law_book", "_law_book", defArgs s_book, defBody s_book, defScope s_book, [], []⟩
def dd_is_number : He.DefD := ⟨("is_number", none), "is_number", "is_number", defArgs s_is_number, defBody s_is_number, defScope s_is_number, [], []⟩
def dd_is_whole : He.DefD := ⟨("is_whole", none), "is_whole", "is_whole", defArgs s_is_whole, defBody s_is_whole, defScope s_is_whole, [], []⟩
def dd_table_number : He.DefD := ⟨("table_number", none), "table_number", "table_number", defArgs s_table_number, defBody s_table_number, defScope s_table_number, [], []⟩
def dd_pair_at : He.DefD := ⟨("pair_at", none), "pair_at", "pair_at", defArgs s_pair_at, defBody s_pair_at, defScope s_pair_at, [], []⟩
def dd_kinds_of : He.DefD := ⟨("kinds_of", none), "kinds_of", "kinds_of", defArgs s_kinds_of, defBody s_kinds_of, defScope s_kinds_of, [], []⟩
def dd_is_letter : He.DefD := ⟨("is_letter", none), "is_letter", "is_letter", defArgs s_is_letter, defBody s_is_letter, defScope s_is_letter, [], []⟩
def dd_order_led : He.DefD := ⟨("order_led", none), "order_led", "order_led", defArgs s_order_led, defBody s_order_led, defScope s_order_led, [], []⟩
def dd_order_behind : He.DefD := ⟨("order_behind", none), "order_behind", "order_behind", defArgs s_order_behind, defBody s_order_behind, defScope s_order_behind, [], []⟩
def dd_led_by : He.DefD := ⟨("led_by", none), "led_by", "led_by", defArgs s_led_by, defBody s_led_by, defScope s_led_by, [], []⟩
def dd_cdiv : He.DefD := ⟨("common_divisor", none), "common_divisor", "common_divisor", defArgs s_cdiv, defBody s_cdiv, defScope s_cdiv, [], []⟩
def dd_cmul : He.DefD := ⟨("common_multiple", none), "common_multiple", "common_multiple", defArgs s_cmul, defBody s_cmul, defScope s_cmul, [], []⟩
def dd_moment_of : He.DefD := ⟨("moment_of", none), "moment_of", "moment_of", defArgs s_moment_of, defBody s_moment_of, defScope s_moment_of, [], []⟩
def dd_told_order : He.DefD := ⟨("in_told_order", none), "in_told_order", "in_told_order", defArgs s_told_order, defBody s_told_order, defScope s_told_order, [], []⟩
def dd_passings : He.DefD := ⟨("passings", none), "passings", "passings", defArgs s_passings, defBody s_passings, defScope s_passings, [], []⟩
def dd_is_done_by : He.DefD := ⟨("is_done_by", none), "is_done_by", "is_done_by", defArgs s_is_done_by, defBody s_is_done_by, defScope s_is_done_by, [], []⟩
def dd_word_by : He.DefD := ⟨("word_by", none), "word_by", "word_by", defArgs s_word_by, defBody s_word_by, defScope s_word_by, [], []⟩
def dd_order_by : He.DefD := ⟨("order_by", none), "order_by", "order_by", defArgs s_order_by, defBody s_order_by, defScope s_order_by, [], []⟩
def dd_row_by : He.DefD := ⟨("row_by", none), "row_by", "row_by", defArgs s_row_by, defBody s_row_by, defScope s_row_by, [], []⟩
def dd_settled_at : He.DefD := ⟨("settled_at", none), "settled_at", "settled_at", defArgs s_settled_at, defBody s_settled_at, defScope s_settled_at, [], []⟩
def dd_row_at_last : He.DefD := ⟨("row_at_last", none), "row_at_last", "row_at_last", defArgs s_row_at_last, defBody s_row_at_last, defScope s_row_at_last, [], []⟩
def dd_lpart : He.DefD := ⟨("_law_part", none), "_law_part", "_law_part", defArgs s_lpart, defBody s_lpart, defScope s_lpart, [], []⟩
def dd_lspots3 : He.DefD := ⟨("_law_spots", none), "_law_spots", "_law_spots", defArgs s_lspots3, defBody s_lspots3, defScope s_lspots3, [], []⟩
def dd_lkinds3 : He.DefD := ⟨("_law_kinds", none), "_law_kinds", "_law_kinds", defArgs s_lkinds3, defBody s_lkinds3, defScope s_lkinds3, [], []⟩
def dd_lmeet : He.DefD := ⟨("_law_meeting", none), "_law_meeting", "_law_meeting", defArgs s_lmeet, defBody s_lmeet, defScope s_lmeet, [], []⟩
def dd_lsetting : He.DefD := ⟨("_law_setting", none), "_law_setting", "_law_setting", defArgs s_lsetting, defBody s_lsetting, defScope s_lsetting, [], []⟩
def dd_lsooner : He.DefD := ⟨("_law_sooner", none), "_law_sooner", "_law_sooner", defArgs s_lsooner, defBody s_lsooner, defScope s_lsooner, [], []⟩
def dd_lpass30 : He.DefD := ⟨("_law_passings", none), "_law_passings", "_law_passings", defArgs s_lpass30, defBody s_lpass30, defScope s_lpass30, [], []⟩
def dd_ltpair : He.DefD := ⟨("_law_told_pair", none), "_law_told_pair", "_law_told_pair", defArgs s_ltpair, defBody s_ltpair, defScope s_ltpair, [], []⟩
def dd_lword_by : He.DefD := ⟨("_law_word_by", none), "_law_word_by", "_law_word_by", defArgs s_lword_by, defBody s_lword_by, defScope s_lword_by, [], []⟩
def dd_lled : He.DefD := ⟨("_law_led", none), "_law_led", "_law_led", defArgs s_lled, defBody s_lled, defScope s_lled, [], []⟩
def dd_lsettled : He.DefD := ⟨("_law_settled", none), "_law_settled", "_law_settled", defArgs s_lsettled, defBody s_lsettled, defScope s_lsettled, [], []⟩
def dd_lright33 : He.DefD := ⟨("_law_right", none), "_law_right", "_law_right", defArgs s_lright33, defBody s_lright33, defScope s_lright33, [], []⟩
def dd_law33 : He.DefD := ⟨("law", none), "law", "law", defArgs s_law33, defBody s_law33, defScope s_law33, [], []⟩
def fns : List He.DefD := [dd_init_NoPassing, dd_draw, dd_deal, dd_alike, dd_paces, dd_pair, dd_plain, dd_side, dd_mixed, dd_names_put, dd_good, dd_any, dd_book, dd_is_number, dd_is_whole, dd_table_number, dd_pair_at, dd_kinds_of, dd_is_letter, dd_order_led, dd_order_behind, dd_led_by, dd_cdiv, dd_cmul, dd_moment_of, dd_told_order, dd_passings, dd_is_done_by, dd_word_by, dd_order_by, dd_row_by, dd_settled_at, dd_row_at_last, dd_lpart, dd_lspots3, dd_lkinds3, dd_lmeet, dd_lsetting, dd_lsooner, dd_lpass30, dd_ltpair, dd_lword_by, dd_lled, dd_lsettled, dd_lright33, dd_law33]
def facs : List He.Fa := [.glo "_law_draw", .glo "_law_deal", .glo "_law_alike", .glo "_law_paces", .glo "_law_pair", .glo "_law_plain", .glo "_law_side", .glo "_law_mixed", .glo "_law_names_put", .glo "_law_good", .glo "_law_any", .glo "_law_book", .glo "is_number", .glo "is_whole", .glo "table_number", .glo "pair_at", .glo "kinds_of", .glo "is_letter", .glo "order_led", .glo "order_behind", .glo "led_by", .glo "common_divisor", .glo "common_multiple", .glo "moment_of", .glo "in_told_order", .glo "passings", .glo "is_done_by", .glo "word_by", .glo "order_by", .glo "row_by", .glo "settled_at", .glo "row_at_last", .glo "_law_part", .glo "_law_spots", .glo "_law_kinds", .glo "_law_meeting", .glo "_law_setting", .glo "_law_sooner", .glo "_law_passings", .glo "_law_told_pair", .glo "_law_word_by", .glo "_law_led", .glo "_law_settled", .glo "_law_right", .glo "law", .free "len", .free "list", .free "tuple", .free "reversed", .free "range", .free "max", .free "min", .free "sum", .free "all", .free "any", .free "zip", .free "enumerate", .free "isinstance", .free "int", .free "bool", .free "str", .free "repr", .free "divmod", .free "abs", .free "sorted", .free "set", .free "dict", .free "pow", .free "ValueError", .free "IndexError", .glo "RoadError", .glo "NoPassing"]
def exB (K : PySem.W.Frag) : Bool := errB K "NoPassing" ["at"] && baseB K "RoadError"
abbrev rowR : PySem.W.OpenRow := PySem.W.OpenLaw.row PySem.Challenge.rw_wherefrom_k33_settled_and_last
def tfs : List He.Defn := [("order_behind", none)]
abbrev hk : PySem.W.Hook := Wf.hookV 6 facs fns tfs exB
def obA (s : PySem.W.SharedT) : He.AlD × Bool := Wf.obsV 6 facs fns tfs exB (HandSHeadRun.getT s)
theorem ob_eq (s : PySem.W.SharedT) : obA s = hk.obs s.abs := Wf.obsV_eq (HandSHeadRun.getT_eq s)
abbrev loose0 : List Str := ["RoadError", "NoPassing", "is_number", "is_whole", "table_number", "pair_at", "kinds_of", "is_letter", "order_behind", "order_led", "led_by", "passings", "in_told_order", "common_multiple", "common_divisor", "moment_of", "is_done_by", "word_by", "order_by", "row_by", "settled_at", "row_at_last", "_law_deal", "_law_draw"]
abbrev loose1 : List Str := ["_law_alike", "_law_paces", "_law_pair", "_law_plain", "_law_side", "_law_mixed", "_law_names_put", "_law_good", "_law_any", "_law_book", "_law_told_pair", "_law_part", "_law_spots", "_law_kinds", "_law_meeting", "_law_setting", "_law_sooner", "_law_passings", "_law_word_by", "_law_led", "_law_settled", "_law_right"]
abbrev looseL : List Str := loose0 ++ loose1
theorem run_eq (w : World) : HandSHeadRun.RunEq rowR (PySem.W.view rowR.prog [52]) hk obA 4800 looseL w := by
  intro os
  kernel_rfl
theorem facts {P : Program} {w : World} {K : PySem.W.Frag} {h : Heap} {mg : Str → Option Value} {f : Addr} (X : K.In h) (G : h.Ns mainGlobals mg) (hfa : mg ("law" : Str) = some (.ref f)) (c : SaysV facs fns tfs exB h K) :
    ∃ fd : FuncData, (∀ (s : Shared) (v : Value), BindsTo s fd ⟨[v], []⟩ [("_law_script", v)]) ∧ ∀ base : Heap, K.In base → base.Ns mainGlobals mg → (∀ p ∈ tfs.map (He.cT K), TabB base mg p.1 p.2) → FnG P w K mg base CX0 9 f fd ["_law_script"] (LSp K (tabT K) psp_law) := by
  have cd := c.d
  have cm := c.more
  obtain ⟨fd_init_NoPassing, F_init_NoPassing⟩ := cd.def_ 0 (d := dd_init_NoPassing) rfl
  obtain ⟨fd_draw, F_draw⟩ := cd.def_ 1 (d := dd_draw) rfl
  have g_draw := He.glo_ok X G (cd.fact 0 (f := .glo "_law_draw") rfl)
  obtain ⟨fd_deal, F_deal⟩ := cd.def_ 2 (d := dd_deal) rfl
  have g_deal := He.glo_ok X G (cd.fact 1 (f := .glo "_law_deal") rfl)
  obtain ⟨fd_alike, F_alike⟩ := cd.def_ 3 (d := dd_alike) rfl
  have g_alike := He.glo_ok X G (cd.fact 2 (f := .glo "_law_alike") rfl)
  obtain ⟨fd_paces, F_paces⟩ := cd.def_ 4 (d := dd_paces) rfl
  have g_paces := He.glo_ok X G (cd.fact 3 (f := .glo "_law_paces") rfl)
  obtain ⟨fd_pair, F_pair⟩ := cd.def_ 5 (d := dd_pair) rfl
  have g_pair := He.glo_ok X G (cd.fact 4 (f := .glo "_law_pair") rfl)
  obtain ⟨fd_plain, F_plain⟩ := cd.def_ 6 (d := dd_plain) rfl
  have g_plain := He.glo_ok X G (cd.fact 5 (f := .glo "_law_plain") rfl)
  obtain ⟨fd_side, F_side⟩ := cd.def_ 7 (d := dd_side) rfl
  have g_side := He.glo_ok X G (cd.fact 6 (f := .glo "_law_side") rfl)
  obtain ⟨fd_mixed, F_mixed⟩ := cd.def_ 8 (d := dd_mixed) rfl
  have g_mixed := He.glo_ok X G (cd.fact 7 (f := .glo "_law_mixed") rfl)
  obtain ⟨fd_names_put, F_names_put⟩ := cd.def_ 9 (d := dd_names_put) rfl
  have g_names_put := He.glo_ok X G (cd.fact 8 (f := .glo "_law_names_put") rfl)
  obtain ⟨fd_good, F_good⟩ := cd.def_ 10 (d := dd_good) rfl
  have g_good := He.glo_ok X G (cd.fact 9 (f := .glo "_law_good") rfl)
  obtain ⟨fd_any, F_any⟩ := cd.def_ 11 (d := dd_any) rfl
  have g_any := He.glo_ok X G (cd.fact 10 (f := .glo "_law_any") rfl)
  obtain ⟨fd_book, F_book⟩ := cd.def_ 12 (d := dd_book) rfl
  have g_book := He.glo_ok X G (cd.fact 11 (f := .glo "_law_book") rfl)
  obtain ⟨fd_is_number, F_is_number⟩ := cd.def_ 13 (d := dd_is_number) rfl
  have g_is_number := He.glo_ok X G (cd.fact 12 (f := .glo "is_number") rfl)
  obtain ⟨fd_is_whole, F_is_whole⟩ := cd.def_ 14 (d := dd_is_whole) rfl
  have g_is_whole := He.glo_ok X G (cd.fact 13 (f := .glo "is_whole") rfl)
  obtain ⟨fd_table_number, F_table_number⟩ := cd.def_ 15 (d := dd_table_number) rfl
  have g_table_number := He.glo_ok X G (cd.fact 14 (f := .glo "table_number") rfl)
  obtain ⟨fd_pair_at, F_pair_at⟩ := cd.def_ 16 (d := dd_pair_at) rfl
  have g_pair_at := He.glo_ok X G (cd.fact 15 (f := .glo "pair_at") rfl)
  obtain ⟨fd_kinds_of, F_kinds_of⟩ := cd.def_ 17 (d := dd_kinds_of) rfl
  have g_kinds_of := He.glo_ok X G (cd.fact 16 (f := .glo "kinds_of") rfl)
  obtain ⟨fd_is_letter, F_is_letter⟩ := cd.def_ 18 (d := dd_is_letter) rfl
  have g_is_letter := He.glo_ok X G (cd.fact 17 (f := .glo "is_letter") rfl)
  obtain ⟨fd_order_led, F_order_led⟩ := cd.def_ 19 (d := dd_order_led) rfl
  have g_order_led := He.glo_ok X G (cd.fact 18 (f := .glo "order_led") rfl)
  obtain ⟨fd_order_behind, F_order_behind⟩ := cd.def_ 20 (d := dd_order_behind) rfl
  have g_order_behind := He.glo_ok X G (cd.fact 19 (f := .glo "order_behind") rfl)
  obtain ⟨fd_led_by, F_led_by⟩ := cd.def_ 21 (d := dd_led_by) rfl
  have g_led_by := He.glo_ok X G (cd.fact 20 (f := .glo "led_by") rfl)
  obtain ⟨fd_cdiv, F_cdiv⟩ := cd.def_ 22 (d := dd_cdiv) rfl
  have g_cdiv := He.glo_ok X G (cd.fact 21 (f := .glo "common_divisor") rfl)
  obtain ⟨fd_cmul, F_cmul⟩ := cd.def_ 23 (d := dd_cmul) rfl
  have g_cmul := He.glo_ok X G (cd.fact 22 (f := .glo "common_multiple") rfl)
  obtain ⟨fd_moment_of, F_moment_of⟩ := cd.def_ 24 (d := dd_moment_of) rfl
  have g_moment_of := He.glo_ok X G (cd.fact 23 (f := .glo "moment_of") rfl)
  obtain ⟨fd_told_order, F_told_order⟩ := cd.def_ 25 (d := dd_told_order) rfl
  have g_told_order := He.glo_ok X G (cd.fact 24 (f := .glo "in_told_order") rfl)
  obtain ⟨fd_passings, F_passings⟩ := cd.def_ 26 (d := dd_passings) rfl
  have g_passings := He.glo_ok X G (cd.fact 25 (f := .glo "passings") rfl)
  obtain ⟨fd_is_done_by, F_is_done_by⟩ := cd.def_ 27 (d := dd_is_done_by) rfl
  have g_is_done_by := He.glo_ok X G (cd.fact 26 (f := .glo "is_done_by") rfl)
  obtain ⟨fd_word_by, F_word_by⟩ := cd.def_ 28 (d := dd_word_by) rfl
  have g_word_by := He.glo_ok X G (cd.fact 27 (f := .glo "word_by") rfl)
  obtain ⟨fd_order_by, F_order_by⟩ := cd.def_ 29 (d := dd_order_by) rfl
  have g_order_by := He.glo_ok X G (cd.fact 28 (f := .glo "order_by") rfl)
  obtain ⟨fd_row_by, F_row_by⟩ := cd.def_ 30 (d := dd_row_by) rfl
  have g_row_by := He.glo_ok X G (cd.fact 29 (f := .glo "row_by") rfl)
  obtain ⟨fd_settled_at, F_settled_at⟩ := cd.def_ 31 (d := dd_settled_at) rfl
  have g_settled_at := He.glo_ok X G (cd.fact 30 (f := .glo "settled_at") rfl)
  obtain ⟨fd_row_at_last, F_row_at_last⟩ := cd.def_ 32 (d := dd_row_at_last) rfl
  have g_row_at_last := He.glo_ok X G (cd.fact 31 (f := .glo "row_at_last") rfl)
  obtain ⟨fd_lpart, F_lpart⟩ := cd.def_ 33 (d := dd_lpart) rfl
  have g_lpart := He.glo_ok X G (cd.fact 32 (f := .glo "_law_part") rfl)
  obtain ⟨fd_lspots3, F_lspots3⟩ := cd.def_ 34 (d := dd_lspots3) rfl
  have g_lspots3 := He.glo_ok X G (cd.fact 33 (f := .glo "_law_spots") rfl)
  obtain ⟨fd_lkinds3, F_lkinds3⟩ := cd.def_ 35 (d := dd_lkinds3) rfl
  have g_lkinds3 := He.glo_ok X G (cd.fact 34 (f := .glo "_law_kinds") rfl)
  obtain ⟨fd_lmeet, F_lmeet⟩ := cd.def_ 36 (d := dd_lmeet) rfl
  have g_lmeet := He.glo_ok X G (cd.fact 35 (f := .glo "_law_meeting") rfl)
  obtain ⟨fd_lsetting, F_lsetting⟩ := cd.def_ 37 (d := dd_lsetting) rfl
  have g_lsetting := He.glo_ok X G (cd.fact 36 (f := .glo "_law_setting") rfl)
  obtain ⟨fd_lsooner, F_lsooner⟩ := cd.def_ 38 (d := dd_lsooner) rfl
  have g_lsooner := He.glo_ok X G (cd.fact 37 (f := .glo "_law_sooner") rfl)
  obtain ⟨fd_lpass30, F_lpass30⟩ := cd.def_ 39 (d := dd_lpass30) rfl
  have g_lpass30 := He.glo_ok X G (cd.fact 38 (f := .glo "_law_passings") rfl)
  obtain ⟨fd_ltpair, F_ltpair⟩ := cd.def_ 40 (d := dd_ltpair) rfl
  have g_ltpair := He.glo_ok X G (cd.fact 39 (f := .glo "_law_told_pair") rfl)
  obtain ⟨fd_lword_by, F_lword_by⟩ := cd.def_ 41 (d := dd_lword_by) rfl
  have g_lword_by := He.glo_ok X G (cd.fact 40 (f := .glo "_law_word_by") rfl)
  obtain ⟨fd_lled, F_lled⟩ := cd.def_ 42 (d := dd_lled) rfl
  have g_lled := He.glo_ok X G (cd.fact 41 (f := .glo "_law_led") rfl)
  obtain ⟨fd_lsettled, F_lsettled⟩ := cd.def_ 43 (d := dd_lsettled) rfl
  have g_lsettled := He.glo_ok X G (cd.fact 42 (f := .glo "_law_settled") rfl)
  obtain ⟨fd_lright33, F_lright33⟩ := cd.def_ 44 (d := dd_lright33) rfl
  have g_lright33 := He.glo_ok X G (cd.fact 43 (f := .glo "_law_right") rfl)
  obtain ⟨fd_law33, F_law33⟩ := cd.def_ 45 (d := dd_law33) rfl
  have eq := hfa.symm.trans (He.glo_ok X G (cd.fact 44 (f := .glo "law") rfl))
  cases eq
  have B : Bl mg := ⟨He.free_ok X G (cd.fact 45 (f := .free "len") rfl), He.free_ok X G (cd.fact 46 (f := .free "list") rfl), He.free_ok X G (cd.fact 47 (f := .free "tuple") rfl), He.free_ok X G (cd.fact 48 (f := .free "reversed") rfl), He.free_ok X G (cd.fact 49 (f := .free "range") rfl), He.free_ok X G (cd.fact 50 (f := .free "max") rfl), He.free_ok X G (cd.fact 51 (f := .free "min") rfl), He.free_ok X G (cd.fact 52 (f := .free "sum") rfl), He.free_ok X G (cd.fact 53 (f := .free "all") rfl), He.free_ok X G (cd.fact 54 (f := .free "any") rfl), He.free_ok X G (cd.fact 55 (f := .free "zip") rfl), He.free_ok X G (cd.fact 56 (f := .free "enumerate") rfl), He.free_ok X G (cd.fact 57 (f := .free "isinstance") rfl), He.free_ok X G (cd.fact 58 (f := .free "int") rfl), He.free_ok X G (cd.fact 59 (f := .free "bool") rfl), He.free_ok X G (cd.fact 60 (f := .free "str") rfl), He.free_ok X G (cd.fact 61 (f := .free "repr") rfl), He.free_ok X G (cd.fact 62 (f := .free "divmod") rfl), He.free_ok X G (cd.fact 63 (f := .free "abs") rfl), He.free_ok X G (cd.fact 64 (f := .free "sorted") rfl), He.free_ok X G (cd.fact 65 (f := .free "set") rfl), He.free_ok X G (cd.fact 66 (f := .free "dict") rfl), He.free_ok X G (cd.fact 67 (f := .free "pow") rfl), He.free_ok X G (cd.fact 68 (f := .free "ValueError") rfl), He.free_ok X G (cd.fact 69 (f := .free "IndexError") rfl)⟩
  have K_RoadError := He.glo_ok X G (cd.fact 70 (f := .glo "RoadError") rfl)
  have K_NoPassing := He.glo_ok X G (cd.fact 71 (f := .glo "NoPassing") rfl)
  unfold exB at cm
  simp only [Bool.and_eq_true, decide_eq_true_eq] at cm
  obtain ⟨m0, mz⟩ := cm
  have EF_NoPassing := errB_ok m0
  have BC := baseB_ok mz K_RoadError
  have b := FunD.bindsA (ps := ["_law_script"]) F_law33 fun _ _ _ _ _ _ us hl => match us, hl with | [_], _ => rfl
  refine ⟨fd_law33, fun s v => b s [v] rfl, fun base _ _ TB => ?_⟩
  have T_NoPassing : Err1 P w K mg base "NoPassing" "at" (He.ga K "NoPassing") := ⟨K_NoPassing, EF_NoPassing.o, _, fd_init_NoPassing, EF_NoPassing.i, EF_NoPassing.ti, ok_init_NoPassing F_init_NoPassing BC EF_NoPassing.o (EF_NoPassing.no "at" (by decide)), F_init_NoPassing.bindsN fun _ _ _ _ _ _ us hl => match us, hl with | [_, _], _ => rfl⟩
  have C_draw : Cal P w K mg base CX0 1 "_law_draw" ["_law_deal_here", "_law_many"] sp_draw := ⟨_, fd_draw, ok_draw F_draw B , g_draw, F_draw.kp, F_draw.bindsN fun _ _ _ _ _ _ us hl => match us, hl with | [_, _], _ => rfl⟩
  have C_deal : Cal P w K mg base CX0 1 "_law_deal" ["_law_script", "_law_base"] (sp_deal K) := ⟨_, fd_deal, ok_deal F_deal B , g_deal, F_deal.kp, F_deal.bindsN fun _ _ _ _ _ _ us hl => match us, hl with | [_, _], _ => rfl⟩
  have C_alike : Cal P w K mg base CX0 1 "_law_alike" ["_law_found", "_law_due"] (sp_alike K) := ⟨_, fd_alike, ok_alike F_alike B , g_alike, F_alike.kp, F_alike.bindsN fun _ _ _ _ _ _ us hl => match us, hl with | [_, _], _ => rfl⟩
  have C_paces : Cal P w K mg base CX0 2 "_law_paces" ["_law_deal_here", "_law_many"] (sp_paces K) := ⟨_, fd_paces, ok_paces F_paces B C_draw, g_paces, F_paces.kp, F_paces.bindsN fun _ _ _ _ _ _ us hl => match us, hl with | [_, _], _ => rfl⟩
  have C_pair : Cal P w K mg base CX0 1 "_law_pair" ["_law_form", "_law_size", "_law_step", "_law_a", "_law_b"] (sp_pair K) := ⟨_, fd_pair, ok_pair F_pair B , g_pair, F_pair.kp, F_pair.bindsN fun _ _ _ _ _ _ us hl => match us, hl with | [_, _, _, _, _], _ => rfl⟩
  have C_plain : Cal P w K mg base CX0 2 "_law_plain" ["_law_deal_here", "_law_many", "_law_size"] (sp_plain K) := ⟨_, fd_plain, ok_plain F_plain B C_draw C_pair, g_plain, F_plain.kp, F_plain.bindsN fun _ _ _ _ _ _ us hl => match us, hl with | [_, _, _], _ => rfl⟩
  have C_side : Cal P w K mg base CX0 1 "_law_side" ["_law_one", "_law_other", "_law_wide", "_law_more"] (sp_side K) := ⟨_, fd_side, ok_side F_side B , g_side, F_side.kp, F_side.bindsN fun _ _ _ _ _ _ us hl => match us, hl with | [_, _, _, _], _ => rfl⟩
  have C_mixed : Cal P w K mg base CX0 2 "_law_mixed" ["_law_deal_here", "_law_many"] sp_mixed := ⟨_, fd_mixed, ok_mixed F_mixed B C_draw, g_mixed, F_mixed.kp, F_mixed.bindsN fun _ _ _ _ _ _ us hl => match us, hl with | [_, _], _ => rfl⟩
  have C_names_put : Cal P w K mg base CX0 1 "_law_names_put" ["_law_tables", "_law_size", "_law_names"] (sp_names K) := ⟨_, fd_names_put, ok_names_put F_names_put B , g_names_put, F_names_put.kp, F_names_put.bindsN fun _ _ _ _ _ _ us hl => match us, hl with | [_, _, _], _ => rfl⟩
  have C_good : Cal P w K mg base CX0 3 "_law_good" ["_law_deal_here", "_law_many", "_law_size"] (sp_good K) := ⟨_, fd_good, ok_good F_good B C_draw C_plain C_side C_names_put C_mixed, g_good, F_good.kp, F_good.bindsN fun _ _ _ _ _ _ us hl => match us, hl with | [_, _, _], _ => rfl⟩
  have C_any : Cal P w K mg base CX0 2 "_law_any" ["_law_deal_here", "_law_many", "_law_size"] (sp_any K) := ⟨_, fd_any, ok_any F_any B C_draw, g_any, F_any.kp, F_any.bindsN fun _ _ _ _ _ _ us hl => match us, hl with | [_, _, _], _ => rfl⟩
  have C_book : Cal P w K mg base CX0 4 "_law_book" ["_law_deal_here", "_law_many", "_law_size", "_law_form"] (sp_book K) := ⟨_, fd_book, ok_book F_book B C_paces C_any C_good C_draw, g_book, F_book.kp, F_book.bindsN fun _ _ _ _ _ _ us hl => match us, hl with | [_, _, _, _], _ => rfl⟩
  have C_is_number : Cal P w K mg base CX0 1 "is_number" ["thing"] (LSp K (tabT K) psp_is_number) := ⟨_, fd_is_number, ok_is_number F_is_number B , g_is_number, F_is_number.kp, F_is_number.bindsN fun _ _ _ _ _ _ us hl => match us, hl with | [_], _ => rfl⟩
  have C_is_whole : Cal P w K mg base CX0 2 "is_whole" ["thing", "least", "most"] (LSp K (tabT K) psp_is_whole) := ⟨_, fd_is_whole, ok_is_whole F_is_whole B C_is_number, g_is_whole, F_is_whole.kp, F_is_whole.bindsN fun _ _ _ _ _ _ us hl => match us, hl with | [_, _, _], _ => rfl⟩
  have C_table_number : Cal P w K mg base CX0 1 "table_number" ["u", "v"] (LSp K (tabT K) psp_table_number) := ⟨_, fd_table_number, ok_table_number F_table_number B , g_table_number, F_table_number.kp, F_table_number.bindsN fun _ _ _ _ _ _ us hl => match us, hl with | [_, _], _ => rfl⟩
  have C_pair_at : Cal P w K mg base CX0 2 "pair_at" ["book", "u", "v", "a", "b"] (LSp K (tabT K) psp_pair_at) := ⟨_, fd_pair_at, ok_pair_at F_pair_at B C_table_number, g_pair_at, F_pair_at.kp, F_pair_at.bindsN fun _ _ _ _ _ _ us hl => match us, hl with | [_, _, _, _, _], _ => rfl⟩
  have C_kinds_of : Cal P w K mg base CX0 1 "kinds_of" ["row"] (LSp K (tabT K) psp_kinds_of) := ⟨_, fd_kinds_of, ok_kinds_of F_kinds_of B , g_kinds_of, F_kinds_of.kp, F_kinds_of.bindsN fun _ _ _ _ _ _ us hl => match us, hl with | [_], _ => rfl⟩
  have C_is_letter : Cal P w K mg base CX0 3 "is_letter" ["k", "many"] (LSp K (tabT K) psp_is_letter) := ⟨_, fd_is_letter, ok_is_letter F_is_letter B C_is_whole, g_is_letter, F_is_letter.kp, F_is_letter.bindsN fun _ _ _ _ _ _ us hl => match us, hl with | [_, _], _ => rfl⟩
  have C_order_led : Cal P w K mg base (L2.CX P w) 4 "order_led" ["kinds", "word", "may_pass"] (LSp K (tabT K) (psp_order_led (He.ga K "NoPassing") (LamOk P w K mg))) := ⟨_, fd_order_led, ok_order_led F_order_led B C_is_letter T_NoPassing, g_order_led, F_order_led.kp, F_order_led.bindsN fun _ _ _ _ _ _ us hl => match us, hl with | [_, _, _], _ => rfl⟩
  have C_order_behind : Cal P w K mg base (L2.CX P w) 5 "order_behind" ["kinds", "word"] (LSp K (tabT K) (psp_order_behind (He.ga K "NoPassing"))) := ⟨_, fd_order_behind, ok_order_behind F_order_behind (code_of (p := ("order_behind", none)) F_order_behind) (TB _ (by first | exact List.mem_cons_self | exact List.mem_cons_of_mem _ List.mem_cons_self)) (by first | exact List.mem_cons_self | exact List.mem_cons_of_mem _ List.mem_cons_self) (un_tabT K _) C_order_led, g_order_behind, F_order_behind.kp, F_order_behind.bindsN fun _ _ _ _ _ _ us hl => match us, hl with | [_, _], _ => rfl⟩
  have C_led_by : Cal P w K mg base (L2.CX P w) 4 "led_by" ["book", "row", "word"] (LSp K (tabT K) (psp_led_by (He.ga K "NoPassing"))) := ⟨_, fd_led_by, ok_led_by F_led_by B C_is_letter C_pair_at T_NoPassing, g_led_by, F_led_by.kp, F_led_by.bindsN fun _ _ _ _ _ _ us hl => match us, hl with | [_, _, _], _ => rfl⟩
  have C_cdiv : Cal P w K mg base CX0 1 "common_divisor" ["one", "other"] (LSp K (tabT K) psp_cdiv) := ⟨_, fd_cdiv, ok_cdiv F_cdiv B , g_cdiv, F_cdiv.kp, F_cdiv.bindsN fun _ _ _ _ _ _ us hl => match us, hl with | [_, _], _ => rfl⟩
  have C_cmul : Cal P w K mg base CX0 2 "common_multiple" ["numbers"] (LSp K (tabT K) psp_cmul) := ⟨_, fd_cmul, ok_cmul F_cmul B C_cdiv, g_cmul, F_cmul.kp, F_cmul.bindsN fun _ _ _ _ _ _ us hl => match us, hl with | [_], _ => rfl⟩
  have C_moment_of : Cal P w K mg base CX0 2 "moment_of" ["upper", "lower"] (LSp K (tabT K) psp_moment_of) := ⟨_, fd_moment_of, ok_moment_of F_moment_of B C_cdiv, g_moment_of, F_moment_of.kp, F_moment_of.bindsN fun _ _ _ _ _ _ us hl => match us, hl with | [_, _], _ => rfl⟩
  have C_told_order : Cal P w K mg base CX0 3 "in_told_order" ["kinds", "meetings"] (LSp K (tabT K) psp_told_order) := ⟨_, fd_told_order, ok_told_order F_told_order B C_cmul C_moment_of, g_told_order, F_told_order.kp, F_told_order.bindsN fun _ _ _ _ _ _ us hl => match us, hl with | [_, _], _ => rfl⟩
  have C_passings : Cal P w K mg base CX0 4 "passings" ["book", "kinds", "spots"] (LSp K (tabT K) psp_passings) := ⟨_, fd_passings, ok_passings F_passings B C_told_order, g_passings, F_passings.kp, F_passings.bindsN fun _ _ _ _ _ _ us hl => match us, hl with | [_, _, _], _ => rfl⟩
  have C_is_done_by : Cal P w K mg base CX0 1 "is_done_by" ["moment", "beat"] (LSp K (tabT K) psp_is_done_by) := ⟨_, fd_is_done_by, ok_is_done_by F_is_done_by B , g_is_done_by, F_is_done_by.kp, F_is_done_by.bindsN fun _ _ _ _ _ _ us hl => match us, hl with | [_, _], _ => rfl⟩
  have CK_word_by : CalK P w K mg base CX0 5 "word_by" ["book", "kinds", "spots", "beat"] 3 ["beat"] (LSp K (tabT K) psp_word_by) := ⟨_, fd_word_by, ok_word_by F_word_by B C_passings C_is_done_by, g_word_by, F_word_by.kp, kb_of F_word_by fun _ _ _ _ _ _ us ws h1 h2 => match us, ws, h1, h2 with | [_, _, _], [_], _, _ => rfl⟩
  have CK_order_by : CalK P w K mg base CX0 6 "order_by" ["book", "kinds", "spots", "beat"] 3 ["beat"] (LSp K (tabT K) psp_order_by) := ⟨_, fd_order_by, ok_order_by F_order_by B (C_order_behind.imp (fun _ _ _ _ h => h)) CK_word_by, g_order_by, F_order_by.kp, kb_of F_order_by fun _ _ _ _ _ _ us ws h1 h2 => match us, ws, h1, h2 with | [_, _, _], [_], _, _ => rfl⟩
  have CK_row_by : CalK P w K mg base CX0 6 "row_by" ["book", "row", "spots", "beat"] 3 ["beat"] (LSp K (tabT K) psp_row_by) := ⟨_, fd_row_by, ok_row_by F_row_by B C_led_by CK_word_by C_kinds_of, g_row_by, F_row_by.kp, kb_of F_row_by fun _ _ _ _ _ _ us ws h1 h2 => match us, ws, h1, h2 with | [_, _, _], [_], _, _ => rfl⟩
  have C_settled_at : Cal P w K mg base CX0 5 "settled_at" ["book", "kinds", "spots"] (LSp K (tabT K) psp_settled_at) := ⟨_, fd_settled_at, ok_settled_at F_settled_at B C_passings, g_settled_at, F_settled_at.kp, F_settled_at.bindsN fun _ _ _ _ _ _ us hl => match us, hl with | [_, _, _], _ => rfl⟩
  have C_row_at_last : Cal P w K mg base CX0 7 "row_at_last" ["book", "row", "spots"] (LSp K (tabT K) psp_row_at_last) := ⟨_, fd_row_at_last, ok_row_at_last F_row_at_last B CK_row_by C_settled_at C_kinds_of, g_row_at_last, F_row_at_last.kp, F_row_at_last.bindsN fun _ _ _ _ _ _ us hl => match us, hl with | [_, _, _], _ => rfl⟩
  have C_lpart : Cal P w K mg base CX0 1 "_law_part" ["_law_one", "_law_other"] (LSp K (tabT K) psp_lpart) := ⟨_, fd_lpart, ok_lpart F_lpart B , g_lpart, F_lpart.kp, F_lpart.bindsN fun _ _ _ _ _ _ us hl => match us, hl with | [_, _], _ => rfl⟩
  have C_lspots3 : Cal P w K mg base CX0 2 "_law_spots" ["_law_deal_here", "_law_many"] (LSp K (tabT K) psp_lspots3) := ⟨_, fd_lspots3, ok_lspots3 F_lspots3 B (C_draw.imp conv_draw), g_lspots3, F_lspots3.kp, F_lspots3.bindsN fun _ _ _ _ _ _ us hl => match us, hl with | [_, _], _ => rfl⟩
  have C_lkinds3 : Cal P w K mg base CX0 2 "_law_kinds" ["_law_deal_here", "_law_book_here", "_law_many"] (LSp K (tabT K) psp_lkinds3) := ⟨_, fd_lkinds3, ok_lkinds3 F_lkinds3 B (C_draw.imp conv_draw), g_lkinds3, F_lkinds3.kp, F_lkinds3.bindsN fun _ _ _ _ _ _ us hl => match us, hl with | [_, _, _], _ => rfl⟩
  have C_lmeet : Cal P w K mg base CX0 2 "_law_meeting" ["_law_deal_here", "_law_book_here", "_law_many"] (LSp K (tabT K) psp_lmeet) := ⟨_, fd_lmeet, ok_lmeet F_lmeet B C_lpart (C_draw.imp conv_draw), g_lmeet, F_lmeet.kp, F_lmeet.bindsN fun _ _ _ _ _ _ us hl => match us, hl with | [_, _, _], _ => rfl⟩
  have C_lsetting : Cal P w K mg base CX0 3 "_law_setting" ["_law_deal_here", "_law_book_here"] (LSp K (tabT K) psp_lsetting) := ⟨_, fd_lsetting, ok_lsetting F_lsetting B (C_draw.imp conv_draw) C_lmeet C_lspots3 C_lkinds3, g_lsetting, F_lsetting.kp, F_lsetting.bindsN fun _ _ _ _ _ _ us hl => match us, hl with | [_, _], _ => rfl⟩
  have C_lsooner : Cal P w K mg base CX0 1 "_law_sooner" ["_law_one", "_law_other", "_law_kinds_here"] (LSp K (tabT K) psp_lsooner) := ⟨_, fd_lsooner, ok_lsooner F_lsooner B , g_lsooner, F_lsooner.kp, F_lsooner.bindsN fun _ _ _ _ _ _ us hl => match us, hl with | [_, _, _], _ => rfl⟩
  have C_lpass30 : Cal P w K mg base CX0 2 "_law_passings" ["_law_book_here", "_law_kinds_here", "_law_spots_here"] (LSp K (tabT K) psp_lpass30) := ⟨_, fd_lpass30, ok_lpass30 F_lpass30 B C_lpart C_lsooner, g_lpass30, F_lpass30.kp, F_lpass30.bindsN fun _ _ _ _ _ _ us hl => match us, hl with | [_, _, _], _ => rfl⟩
  have C_ltpair : Cal P w K mg base CX0 1 "_law_told_pair" ["_law_book_here", "_law_u", "_law_v", "_law_a", "_law_b"] (LSp K (tabT K) psp_ltpair) := ⟨_, fd_ltpair, ok_ltpair F_ltpair B , g_ltpair, F_ltpair.kp, F_ltpair.bindsN fun _ _ _ _ _ _ us hl => match us, hl with | [_, _, _, _, _], _ => rfl⟩
  have C_lword_by : Cal P w K mg base CX0 1 "_law_word_by" ["_law_found", "_law_hour"] (LSp K (tabT K) psp_lword_by) := ⟨_, fd_lword_by, ok_lword_by F_lword_by B , g_lword_by, F_lword_by.kp, F_lword_by.bindsN fun _ _ _ _ _ _ us hl => match us, hl with | [_, _], _ => rfl⟩
  have C_lled : Cal P w K mg base CX0 2 "_law_led" ["_law_book_here", "_law_row", "_law_word"] (LSp K (tabT K) psp_lled) := ⟨_, fd_lled, ok_lled F_lled B C_ltpair, g_lled, F_lled.kp, F_lled.bindsN fun _ _ _ _ _ _ us hl => match us, hl with | [_, _, _], _ => rfl⟩
  have C_lsettled : Cal P w K mg base CX0 1 "_law_settled" ["_law_found"] (LSp K (tabT K) psp_lsettled) := ⟨_, fd_lsettled, ok_lsettled F_lsettled B , g_lsettled, F_lsettled.kp, F_lsettled.bindsN fun _ _ _ _ _ _ us hl => match us, hl with | [_], _ => rfl⟩
  have C_lright33 : Cal P w K mg base CX0 8 "_law_right" ["_law_book_here", "_law_row", "_law_spots_here"] (LSp K (tabT K) psp_lright33) := ⟨_, fd_lright33, ok_lright33 F_lright33 B C_lpass30 C_lsettled (C_alike.imp conv_alike) C_settled_at C_lled C_lword_by C_row_at_last CK_order_by CK_row_by, g_lright33, F_lright33.kp, F_lright33.bindsN fun _ _ _ _ _ _ us hl => match us, hl with | [_, _, _], _ => rfl⟩
  exact FnG.of (ok_law33 F_law33 B (C_deal.imp conv_deal) (C_book.imp conv_book) (C_draw.imp conv_draw) C_lsetting C_lright33)
end Wf
open PySem PySem.W PySem.Calls PyProof.Rows
theorem PySem.Challenge.cw_wherefrom_k33_settled_and_last_holds : PySem.Challenge.rw_wherefrom_k33_settled_and_last.Holds := by
  w_on; o_law
  refine HandSHeadRun.head_any (r := OpenLaw.row PySem.Challenge.rw_wherefrom_k33_settled_and_last) (q := view (OpenLaw.row PySem.Challenge.rw_wherefrom_k33_settled_and_last).prog [52]) (H := Wf.hk) (ob := Wf.obA) (M := 4800) (loose := Wf.looseL) (d := HandSHeadRun.topDef (OpenLaw.row PySem.Challenge.rw_wherefrom_k33_settled_and_last).prog 52) (kwd := []) Wf.ob_eq
    (by kernel_rfl) (fun s => by kernel_rfl) Wf.run_eq (by kernel_rfl) (by kernel_rfl) (by kernel_rfl) (by rfl) (by first | assumption | decide +kernel) (by decide +kernel) ⟨rfl, rfl, rfl, rfl, rfl, by decide +kernel⟩ ?hw ?hc
  case hw => w_witness2
  case hc =>
    refine Wf.walkT2 (l := PySem.Challenge.rw_wherefrom_k33_settled_and_last) (n := 63) (k := 9) (x := "_law_script") rfl (by decide) (by kernel_rfl) ⟨rfl, by decide, by decide⟩ ?F
    intro w mg fa h Y G hmg0
    obtain ⟨K, KX, c⟩ := Y
    have hmg : mg ("law" : PySem.Str) = some (.ref fa) := by
      have e : (HandSHeadRun.topDef (OpenLaw.row PySem.Challenge.rw_wherefrom_k33_settled_and_last).prog 52).name = ("law" : PySem.Str) := by kernel_rfl
      rw [← e]
      exact hmg0
    obtain ⟨fd, hb, hF⟩ := Wf.facts (P := (PySem.Challenge.rw_wherefrom_k33_settled_and_last).prog) (w := w) KX G hmg c
    exact ⟨K, fd, Wf.tfs.map (He.cT K), Pv.LSp K (Wf.tabT K) Pv.psp_law, KX, fun p hp => by obtain ⟨q, hq, rfl⟩ := List.mem_map.mp hp; exact c.empty q hq, fun p hp => by obtain ⟨q, hq, rfl⟩ := List.mem_map.mp hp; exact c.out q hq, fun p hp => by obtain ⟨q, hq, rfl⟩ := List.mem_map.mp hp; exact PySem.W.codeHd_of_K KX (c.hd q hq), hb, fun H a ns hl hT hO hS => Pv.end_lawT (by omega) (Wf.tabs0 hT) hT hO hS, hF⟩
