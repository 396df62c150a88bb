import PyProof.Rows.All
import Wide.All
import OpenK.AllK
import Wide.FinOn
import PyProof.ListRange
import HandS.ForMost
import HandS.RevTup
import HandS.Rev
import HandS.Wide
import HandS.Defaults
import HandS.Conv
import HandS.IsInst
import HandS.Style
import HandS.Steps
import HandS.TupAny
import HandS.TupMul
import HandS.Zip
import HandS.HeadEnd
import KE.GoesMore
import HandS.ExcInit
import HandS.ExcField
import HandS.ExcIs
import KE.KExcIs
import HandS.ExcOwn
import HandS.ClsMeth
import HandS.ForExc
import PyProof.TupleKey
import PyProof.DictRoadsH
import KE.KDictSum
import HandS.Nested
import HandS.Lambda
import HandS.EndTab
import KE.KIndexOf
import HandS.Deep
import HandS.More
import HandS.SortInts
import HandS.TupSets
import HandS.Head0
import HandS.Head1
import HandS.Head2
import HandS.HeadHook1
import HandS.HeadHook2
import HandS.HeadHook4
import HandS.SortKw
import HandS.SortOrd
import HandS.SortRule
import HandS.Flow
import HandS.TupLe
import HandS.TupLen
import PySem.Challenge.RW_wherefrom_k55_whole_any_spots_of_a_round
set_option Elab.async false
set_option linter.all false
set_option maxRecDepth 100000
set_option maxHeartbeats 0
namespace Pv
/-! Roads: which passing is sooner, and that each is of neighbours. Numbers alone. -/
abbrev Ev := Nat × Nat
/-- kinds, paces, spots by walkers, of n walkers -/
structure Rod (n : Nat) (k : Nat → Nat) (p s : Nat → Int) : Prop where
  up : ∀ i j, i < j → j < n → s i < s j
  pk : ∀ i j, i < n → j < n → k i < k j → p i < p j
  pe : ∀ i j, i < n → j < n → k i = k j → p i = p j
def IsEv (n : Nat) (k : Nat → Nat) (i j : Nat) : Prop := i < j ∧ j < n ∧ k j < k i
def wy (s : Nat → Int) (e : Ev) : Int := s e.2 - s e.1
def gp (p : Nat → Int) (e : Ev) : Int := p e.1 - p e.2
/-- by kinds, then by numbers -/
def soonK (k : Nat → Nat) (e f : Ev) : Prop := k f.1 < k e.1 ∨ k e.1 = k f.1 ∧ (k f.2 < k e.2 ∨ k e.2 = k f.2 ∧ (e.1 < f.1 ∨ e.1 = f.1 ∧ e.2 < f.2))
def soon (k : Nat → Nat) (p s : Nat → Int) (e f : Ev) : Prop := wy s e * gp p f < wy s f * gp p e ∨ wy s e * gp p f = wy s f * gp p e ∧ soonK k e f
section
variable {n : Nat} {k : Nat → Nat} {p s : Nat → Int}
theorem soonK_asym {e f : Ev} (h : soonK k e f) : ¬ soonK k f e := by
  unfold soonK at *
  omega
theorem soonK_tri (e f : Ev) : soonK k e f ∨ e = f ∨ soonK k f e := by
  unfold soonK
  have : e = f ↔ e.1 = f.1 ∧ e.2 = f.2 := Prod.ext_iff
  rw [this]
  omega
theorem soon_asym {e f : Ev} (h : soon k p s e f) : ¬ soon k p s f e := by
  unfold soon at *
  intro z
  have := @soonK_asym k e f
  rcases h with h | ⟨h, h2⟩ <;> rcases z with z | ⟨z, z2⟩
  · omega
  · omega
  · omega
  · exact this h2 z2
theorem soon_irr (e : Ev) : ¬ soon k p s e e := fun h => soon_asym h h
theorem soon_tri (e f : Ev) : soon k p s e f ∨ e = f ∨ soon k p s f e := by
  unfold soon
  rcases Int.lt_trichotomy (wy s e * gp p f) (wy s f * gp p e) with h | h | h
  · exact .inl (.inl h)
  · rcases @soonK_tri k e f with z | z | z
    · exact .inl (.inr ⟨h, z⟩)
    · exact .inr (.inl z)
    · exact .inr (.inr (.inr ⟨h.symm, z⟩))
  · exact .inr (.inr (.inl h))
theorem cross_lt {w w' g g' : Int} (h0 : 0 < w) (h1 : w < w') (h2 : 0 < g) (h3 : g ≤ g') : w * g < w' * g' :=
  Int.lt_of_lt_of_le (Int.mul_lt_mul_of_pos_right h1 h2) (Int.mul_le_mul_of_nonneg_left h3 (by omega))
/-- three walkers, falling: one comparison tells all -/
theorem tri_soon {a b c : Nat} (h1 : k b < k a) (h2 : k c < k b) :
    let X := (s b - s a) * (p b - p c)
    let Y := (s c - s b) * (p a - p b)
    (soon k p s (a, b) (b, c) ↔ X ≤ Y) ∧ (soon k p s (a, b) (a, c) ↔ X ≤ Y) ∧ (soon k p s (a, c) (b, c) ↔ X ≤ Y) ∧ (soon k p s (b, c) (a, b) ↔ Y < X) ∧ (soon k p s (a, c) (a, b) ↔ Y < X) ∧ (soon k p s (b, c) (a, c) ↔ Y < X) := by
  intro X Y
  have e1 : (s b - s a) * (p a - p c) = (s b - s a) * (p a - p b) + X := by
    show _ = _ + (s b - s a) * (p b - p c)
    rw [← Int.mul_add]; congr 1; omega
  have e2 : (s c - s a) * (p a - p b) = (s b - s a) * (p a - p b) + Y := by
    show _ = _ + (s c - s b) * (p a - p b)
    rw [← Int.add_mul]; congr 1; omega
  have e3 : (s c - s a) * (p b - p c) = X + (s c - s b) * (p b - p c) := by
    show _ = (s b - s a) * (p b - p c) + _
    rw [← Int.add_mul]; congr 1; omega
  have e4 : (s c - s b) * (p a - p c) = Y + (s c - s b) * (p b - p c) := by
    show _ = (s c - s b) * (p a - p b) + _
    rw [← Int.mul_add]; congr 1; omega
  unfold soon soonK wy gp
  dsimp only
  rw [e1, e2, e3, e4]
  show _ ∧ _
  have eX : (s b - s a) * (p b - p c) = X := rfl
  have eY : (s c - s b) * (p a - p b) = Y := rfl
  rw [eX, eY]
  generalize (s b - s a) * (p a - p b) = U
  generalize (s c - s b) * (p b - p c) = W
  generalize X = X
  generalize Y = Y
  omega
/-! the walkers that stand by at a passing -/
variable (R : Rod n k p s)
include R
theorem loc_lo {i j x : Nat} (h : IsEv n k i j) (hx : x < i) : (IsEv n k x i ∧ soon k p s (x, i) (i, j)) ↔ (IsEv n k x j ∧ soon k p s (x, j) (i, j)) := by
  obtain ⟨hij, hj, hk⟩ := h
  have u1 := R.up x i hx (by omega)
  have u2 := R.up i j hij hj
  by_cases c : k i < k x
  · have t := tri_soon (p := p) (s := s) (a := x) c hk
    dsimp only at t
    unfold IsEv
    constructor
    · rintro ⟨_, z⟩
      exact ⟨⟨by omega, by omega, by omega⟩, t.2.2.1.mpr (t.1.mp z)⟩
    · rintro ⟨_, z⟩
      exact ⟨⟨by omega, by omega, by omega⟩, t.1.mpr (t.2.2.1.mp z)⟩
  · constructor
    · rintro ⟨⟨_, _, z⟩, _⟩
      omega
    · rintro ⟨⟨_, _, z⟩, y⟩
      exfalso
      have g1 : p j < p x := R.pk j x hj (by omega) z
      have g2 : p x ≤ p i := by
        rcases Nat.lt_or_eq_of_le (Nat.le_of_not_lt c) with q | q
        · exact Int.le_of_lt (R.pk x i (by omega) (by omega) q)
        · exact Int.le_of_eq (R.pe x i (by omega) (by omega) q)
      have := cross_lt (w := s j - s i) (w' := s j - s x) (g := p x - p j) (g' := p i - p j) (by omega) (by omega) (by omega) (by omega)
      unfold soon wy gp at y
      dsimp only at y
      omega
theorem loc_hi {i j x : Nat} (h : IsEv n k i j) (hx : j < x) (hn : x < n) : (IsEv n k i x ∧ soon k p s (i, x) (i, j)) ↔ (IsEv n k j x ∧ soon k p s (j, x) (i, j)) := by
  obtain ⟨hij, hj, hk⟩ := h
  have u1 := R.up j x hx hn
  have u2 := R.up i j hij hj
  by_cases c : k x < k j
  · have t := tri_soon (p := p) (s := s) hk c
    dsimp only at t
    unfold IsEv
    constructor
    · rintro ⟨_, z⟩
      exact ⟨⟨by omega, by omega, by omega⟩, t.2.2.2.1.mpr (t.2.2.2.2.1.mp z)⟩
    · rintro ⟨_, z⟩
      exact ⟨⟨by omega, by omega, by omega⟩, t.2.2.2.2.1.mpr (t.2.2.2.1.mp z)⟩
  · constructor
    · rintro ⟨⟨_, _, z⟩, y⟩
      exfalso
      have g1 : p x < p i := R.pk x i hn (by omega) z
      have g2 : p j ≤ p x := by
        rcases Nat.lt_or_eq_of_le (Nat.le_of_not_lt c) with q | q
        · exact Int.le_of_lt (R.pk j x (by omega) (by omega) q)
        · exact Int.le_of_eq (R.pe j x (by omega) (by omega) q)
      have := cross_lt (w := s j - s i) (w' := s x - s i) (g := p i - p x) (g' := p i - p j) (by omega) (by omega) (by omega) (by omega)
      unfold soon wy gp at y
      dsimp only at y
      omega
    · rintro ⟨⟨_, _, z⟩, _⟩
      omega
theorem loc_mid {i j x : Nat} (h : IsEv n k i j) (hx : i < x) (hn : x < j) : (IsEv n k i x ∧ soon k p s (i, x) (i, j)) ↔ ¬ (IsEv n k x j ∧ soon k p s (x, j) (i, j)) := by
  obtain ⟨hij, hj, hk⟩ := h
  have u1 := R.up i x hx (by omega)
  have u2 := R.up x j hn hj
  by_cases c : k x < k i
  · by_cases d : k j < k x
    · have t := tri_soon (p := p) (s := s) c d
      dsimp only at t
      unfold IsEv
      constructor
      · rintro ⟨_, z⟩ ⟨_, y⟩
        have := t.2.1.mp z
        have := t.2.2.2.2.2.mp y
        omega
      · intro z
        refine ⟨⟨by omega, by omega, by omega⟩, t.2.1.mpr (Int.not_lt.mp fun y => z ⟨⟨by omega, by omega, by omega⟩, t.2.2.2.2.2.mpr y⟩)⟩
    · constructor
      · rintro _ ⟨⟨_, _, z⟩, _⟩
        omega
      · intro _
        have g1 : p j < p i := R.pk j i hj (by omega) hk
        have g2 : p x ≤ p j := by
          rcases Nat.lt_or_eq_of_le (Nat.le_of_not_lt d) with q | q
          · exact Int.le_of_lt (R.pk x j (by omega) hj q)
          · exact Int.le_of_eq (R.pe x j (by omega) hj q)
        refine ⟨⟨hx, by omega, c⟩, .inl ?_⟩
        exact cross_lt (w := s x - s i) (w' := s j - s i) (g := p i - p j) (g' := p i - p x) (by omega) (by omega) (by omega) (by omega)
  · constructor
    · rintro ⟨⟨_, _, z⟩, _⟩
      omega
    · intro z
      refine absurd ⟨⟨hn, hj, by omega⟩, .inl ?_⟩ z
      have g1 : p j < p i := R.pk j i hj (by omega) hk
      have g2 : p i ≤ p x := by
        rcases Nat.lt_or_eq_of_le (Nat.le_of_not_lt c) with q | q
        · exact Int.le_of_lt (R.pk i x (by omega) (by omega) q)
        · exact Int.le_of_eq (R.pe i x (by omega) (by omega) q)
      exact cross_lt (w := s j - s x) (w' := s j - s i) (g := p i - p j) (g' := p x - p j) (by omega) (by omega) (by omega) (by omega)
end
end Pv
/-! list(reversed(xs)), xs a list -/
namespace Wf
open PySem PySem.Spec PyProof.Rows L2
section
variable {prog : Program} {w : World} {A : Around} {E : Value → Shared → Prop} {s : Shared}
theorem initRev {R : Result → Shared → Prop} {it l S : Addr} {its : Array Value} (hh : A.handled = none) (hi : s.heap.IsRevIter it l ((its.size : Int) - 1)) (hl : s.heap.IsList l its) (hne : l ≠ it) (hn : its.size ≤ sizeLine)
    (hS : s.heap.get? S = some { cls := .type "list", data := .seq #[] }) (hSi : S ≠ it) (hSl : S ≠ l)
    (hR : ∀ (h' : Heap) (tk : Nat) (acc : Array Value) (c : Nat), (∀ b o, b ≠ S → b ≠ it → s.heap.get? b = some o → h'.get? b = some o) → h'.get? S = some { cls := .type "list", dict := none, data := .seq acc c, slots := #[] } →
      ItemsOf (fun i v => its[its.size - 1 - i]? = some v) acc its.size → R (.ok (.ret .none)) { s with heap := h', toks := tk }) :
    wpAny (model prog w) A.in1 (Builtin.«list.__init__» ⟨[.ref S, .ref it], []⟩)
      (fun fin s' => match fin with | .done f => R (.ok f) s' | .again c' => c'.quiet = true ∧ codeAny (model prog w) A c' R s') (fun e s' => R (.error e) s') s := by
  have W := (Walks.listRev (prog := prog) (w := w) (A := A.in1) hh it l hne its).toS
  have hSf : S ∉ [it, l] := by simp only [List.mem_cons, List.not_mem_nil, or_false, not_or]; exact ⟨hSi, hSl⟩
  have e0 : ((its.size : Nat) : Int) - 1 - ((0 : Nat) : Int) = (its.size : Int) - 1 := by omega
  show wpAny _ A.in1 (Builtin.List.listItems (.ref S) >>= fun old => Builtin.List.listUpdate (.ref S) (fun _ => #[]) >>= fun _ => letGo old.toList.reverse >>= fun _ => Builtin.List.listExtendWith (.ref S) (.ref it) .none) _ _ s
  refine wpAny_bind ?_
  unfold Builtin.List.listItems
  refine wpAny_bind (wpAny_seqItems hS rfl (wpAny_pure ?_))
  show wpAny _ A.in1 (updateSeq S (fun _ => #[]) >>= fun _ => letGo (#[] : Array Value).toList.reverse >>= fun _ => Builtin.List.listExtendWith (.ref S) (.ref it) .none) _ _ s
  refine wpAny_bind (wpAny_updateSeq hS rfl ?_)
  have hS2 := Heap.get?_update_self (Obj.mapSeq (fun _ => (#[] : Array Value))) hS rfl
  have oth : ∀ b o, b ≠ S → s.heap.get? b = some o → (s.heap.update S (Obj.mapSeq (fun _ => (#[] : Array Value)))).get? b = some o := fun b o hb e => (Heap.get?_update_other _ _ (Ne.symm hb)).trans e
  refine wpAny_bind (wpAny_letGo ?_)
  have hi2 : (s.heap.update S (Obj.mapSeq (fun _ => (#[] : Array Value)))).IsRevIter it l ((its.size : Int) - 1) := hi.at fun o e => oth it o (Ne.symm hSi) e
  have hl2 : (s.heap.update S (Obj.mapSeq (fun _ => (#[] : Array Value)))).IsList l its := by
    obtain ⟨o, e, r⟩ := hl
    exact ⟨o, oth l o (Ne.symm hSl) e, r⟩
  have hT : ({ s with heap := s.heap.update S (Obj.mapSeq (fun _ => (#[] : Array Value))) } : Shared).TypeIs (.ref it) "list_reverseiterator" := Heap.IsRevIter.typeIs (s := { s with heap := s.heap.update S (Obj.mapSeq (fun _ => (#[] : Array Value))) }) hi2
  have h1 : Builtin.List.listSameRef (.ref S) (.ref it) = false := by simp [Builtin.List.listSameRef, hSi]
  unfold Builtin.List.listExtendWith
  refine wpAny_bind (wpAny_typeOf hT ?_)
  rw [if_neg (by rw [h1]; decide)]
  refine wpAny_bind (wpAny_pyIter_revIter (s := { s with heap := s.heap.update S (Obj.mapSeq (fun _ => (#[] : Array Value))) }) hi2 ?_)
  refine wpAny_bind (wpAny_holding ?_)
  unfold Builtin.List.listLengthHint
  refine wpAny_bind (wpAny_specialOf hT RT.nolen_lri ?_)
  show wpAny _ A.in1 (specialOf (Value.ref it) (Str.ofString "__length_hint__") >>= _) _ _ _
  refine wpAny_bind (wpAny_specialOf hT RT.hint_lri ?_)
  generalize hid : ("list_reverseiterator.__length_hint__" : String) = id0
  wp_delta
  rw [show splitId id0 = some ("list_reverseiterator", "__length_hint__") from by subst hid; decide +kernel]
  subst hid
  refine wpAny_bind (wpAny_isInstance (b := true) hT (by rw [isSubtype_type]; kernel_rfl) ?_)
  refine wpAny_pure ?_
  rw [if_neg (by decide)]
  refine wpAny_pure ⟨plainId_quiet F.plain_extend_loop _, codeAny_extend_loopS W hn _ hSf _ its.size 0 _ _ _ rfl (Nat.zero_le _) ⟨Nat.zero_le _, by rw [e0]; exact hi2, hl2⟩ hS2 (ItemsOf.nil _) fun s' acc' c' hm hS' hacc => ?_⟩
  rw [Moved.eq_with hm]
  refine hR s'.heap s'.toks acc' c' (fun b o hb hbi e => hm.heap b o (fun hmem => ?_) (oth b o hb e)) hS' hacc
  rcases List.mem_cons.mp hmem with e' | hmem
  · exact hb e'
  · exact hbi (List.mem_singleton.mp hmem)
theorem callRev {it l : Addr} {its : Array Value} {Q : Value → Shared → Prop} (hh : A.handled = none) (hi : s.heap.IsRevIter it l ((its.size : Int) - 1)) (hl : s.heap.IsList l its) (hne : l ≠ it) (hn : its.size ≤ sizeLine)
    (hQ : ∀ (h' : Heap) (tk : Nat) (acc : Array Value) (c : Nat), (∀ b o, b ≠ it → s.heap.get? b = some o → h'.get? b = some o) → h'.get? s.heap.objs.size = some { cls := .type "list", dict := none, data := .seq acc c, slots := #[] } →
      ItemsOf (fun i v => its[its.size - 1 - i]? = some v) acc its.size → Q (.ref s.heap.objs.size) { s with heap := h', toks := tk }) :
    wpAny (model prog w) A (call (.type "list") [.ref it]) Q E s := by
  refine callType_codes (Q₁ := fun obj s₁ => obj = .ref s.heap.objs.size ∧ s₁ = { s with heap := s.heap.push { cls := .type "list", data := .seq #[] } }) F.called_list (F.typeCall_list_1 _) F.entry_list_init (code_list_new _ ⟨rfl, rfl⟩) fun obj s₁ h₁ => ?_
  obtain ⟨rfl, rfl⟩ := h₁
  obtain ⟨oi, hoi, _⟩ := id hi
  obtain ⟨ol, hol, _⟩ := id hl
  have hS : (s.heap.push { cls := .type "list", data := .seq #[] }).get? s.heap.objs.size = some { cls := .type "list", data := .seq #[] } := Heap.get?_push_size _ rfl
  refine ⟨⟨_, hS, rfl⟩, F.args_list_init_2 _ _, initRev (s := { s with heap := s.heap.push { cls := .type "list", data := .seq #[] } }) (A := A.in1) hh (hi.at fun o e => Heap.get?_push_of_some _ e) (hl.push _) hne hn hS (Nat.ne_of_gt (Heap.lt_size hoi)) (Nat.ne_of_gt (Heap.lt_size hol)) fun h' tk acc c hk hS' hacc => ?_⟩
  exact ⟨rfl, hQ h' tk acc c (fun b o hb e => hk b o (Nat.ne_of_lt (Heap.lt_size e)) hb (Heap.get?_push_of_some _ e)) hS' hacc⟩
end
/-- list(reversed(x)), x a list: a new list -/
def tLstRev (K : PySem.W.Frag) (te : TE) : TE := fun σ H Q => te σ H fun v H1 => ∃ (a : Addr) (xs : List V), v = .ref a ∧ SqL K H1 a xs ∧ ∀ q, H1 q = none → Q (.ref q) (upd H1 q (.lst xs.reverse))
section
variable {X : Cx}
theorem pe_lstRev {e : Expr} {te : TE} {p p2 pos pos2 : Pos} (hc : X.calm = true) (hg : Gl X "list") (hm : X.mg "list" = none) (hg2 : Gl X "reversed") (hm2 : X.mg "reversed" = none) (he : PE X e te)
    (hs : starEach [e] X.env = (false, eval e X.env) :: starEach [] X.env := by rfl)
    (hs2 : starEach [.Call (.Name "reversed" p2) [e] [] pos2] X.env = (false, eval (.Call (.Name "reversed" p2) [e] [] pos2) X.env) :: starEach [] X.env := by rfl) :
    PE X (.Call (.Name "list" p) [.Call (.Name "reversed" p2) [e] [] pos2] [] pos) (tLstRev X.K te) := by
  refine ⟨fun pins s σ H Q I h => ?_⟩
  refine Call_ (ld_blt I hg hm boot_list (PyProof.Rows.callWith_type1 (args_cons (Call_ (ld_blt I hg2 hm2 PyProof.Rows.boot_reversed (PyProof.Rows.callWith_type1 (args_cons (thn (he.run pins s σ H _ I h) fun u s1 ⟨v, H1, I1, r1, q1⟩ => args_nil ?_) hs) hs rfl))) hs2) hs2 rfl))
  obtain ⟨a, xs, ev, hq, q⟩ := q1
  subst ev
  obtain rfl : u = Value.ref a := r1
  obtain ⟨its, rv, p', hz⟩ := I1.list hq
  refine call_reversed_list p'.isList (args_nil ?_)
  have k0 : ∀ b o, s1.heap.get? b = some o → (s1.heap.push (revObj a ((its.toArray.size : Int) - 1))).get? b = some o := fun b o e => Heap.get?_push_of_some _ e
  have I2 : Inv X pins σ H1 { s1 with heap := s1.heap.push (revObj a ((its.toArray.size : Int) - 1)) } := I1.kept (t' := s1.toks) k0
  obtain ⟨f0, f1, f2, f3, f4, f5⟩ := I1.fpOk (H' := H1) (b := s1.heap.objs.size) (Nat.le_refl _) (I1.hok.fresh (Nat.le_refl _))
  have hl := p'.isList
  obtain ⟨ol, hol, _⟩ := id hl
  have hne : a ≠ s1.heap.objs.size := Nat.ne_of_lt (Heap.lt_size hol)
  have hn : its.toArray.size ≤ sizeLine := by rw [List.size_toArray, ← rv.length]; exact hz
  refine callRev (s := { s1 with heap := s1.heap.push (revObj a ((its.toArray.size : Int) - 1)) }) (I1.ok.hd hc) ⟨_, Heap.get?_push_size _ rfl, rfl, rfl⟩ (hl.push _) hne hn fun h' tk acc c hk hS hi => ?_
  have old : ∀ b o, s1.heap.get? b = some o → h'.get? b = some o := fun b o e => hk b o (Nat.ne_of_lt (Heap.lt_size e)) (k0 b o e)
  have sz : s1.heap.objs.size ≤ (s1.heap.push (revObj a ((its.toArray.size : Int) - 1))).objs.size := by rw [Heap.size_push]; exact Nat.le_succ _
  refine ⟨.ref _, _, I1.laid (t' := tk) old sz (show ObjOk X.prog X.w _ _ _ (.lst xs.reverse) from ⟨by rw [List.length_reverse]; exact hz, acc.toList, c, RT.vals_rev rv hi, ?_⟩), rfl, q _ (I1.hok.fresh sz)⟩
  rw [Array.toArray_toList]
  exact hS
end
end Wf
namespace Wf
open PySem PySem.Spec L2
/-! ### short words for the operators' readings -/
abbrev qAdd : R2 := rI0 fun i j => .int (i + j)
abbrev qSub : R2 := rI0 fun i j => .int (i - j)
abbrev qMul : R2 := rI CMul fun i j => .int (i * j)
abbrev qFdiv : R2 := rI CDiv fun i j => .int (i / j)
abbrev qFdivW : R2 := rI CDivW fun i j => .int (i / j)
abbrev qMod : R2 := rI (fun _ j => 0 < j) fun i j => .int (i % j)
abbrev qPow : R2 := rI CPow fun i j => .int (i ^ j.toNat)
abbrev qNeg : V → Hp → VK → Prop := rU fun i => .int (-i)
abbrev qGt : R2 := rI0 fun i j => .bl (decide (j < i))
abbrev qGe : R2 := rI0 fun i j => .bl (decide (j ≤ i))
abbrev qMax2 : List V → Hp → VK → Prop := fun xs H Q => ∃ i j, xs = [.int i, .int j] ∧ Q (.int (if j > i then j else i)) H
abbrev qMin2 : List V → Hp → VK → Prop := fun xs H Q => ∃ i j, xs = [.int i, .int j] ∧ Q (.int (if j < i then j else i)) H
abbrev qLen (K : PySem.W.Frag) : List V → Hp → VK → Prop := fun xs H Q => ∃ x n, xs = [x] ∧ LenV K x H n ∧ Q (.int n) H
abbrev qInt1 : List V → Hp → VK → Prop := fun xs H Q => (∃ i, xs = [.int i] ∧ Q (.int i) H) ∨ ∃ k, xs = [.bl k] ∧ Q (.int (if k then 1 else 0)) H
abbrev qListOf (K : PySem.W.Frag) : List V → Hp → VK → Prop := fun xs H Q => ∃ p ys, xs = [.ref p] ∧ (SqL K H p ys ∨ SqT K H p ys) ∧ ∀ l, H l = none → Q (.ref l) (upd H l (.lst ys))
abbrev qTupleOf (K : PySem.W.Frag) : List V → Hp → VK → Prop := fun xs H Q => ∃ p ys, xs = [.ref p] ∧ ((SqL K H p ys ∧ ∀ l, H l = none → Q (.ref l) (upd H l (.tup ys))) ∨ (SqT K H p ys ∧ Q (.ref p) H))
/-! ### a def of the module that is called by its name -/
structure Cal (P : Program) (w : World) (K : PySem.W.Frag) (mg : Str → Option Value) (base : Heap) (CX : CXT) (k : Nat) (x : Str) (ps : List Str) (sp : Sp) : Prop where
  ex : ∃ f fd, FnOk P w K mg base CX k f fd ps sp ∧ mg x = some (.ref f) ∧ PySem.W.keepIn K (.ref f) = true ∧ Binds K fd ps []
theorem pe_cal {X : Cx} {k j : Nat} {x : Str} {ps : List Str} {sp : Sp} {e : Expr} {es : List Expr} {t : TA} {p pos : Pos} (C : Cal X.prog X.w X.K X.mg X.base CX0 k x ps sp) (hr : Room j X.A) (hg : Gl X x) (ha : PA X (e :: es) t) (hk : k ≤ j := by decide)
    (hdb : (x == ("__debug__" : Str)) = false := by decide) (he : starEach (e :: es) X.env = (false, eval e X.env) :: starEach es X.env := by rfl) (hpl : (backTo pos (starEach es X.env)).any (·.1) = false := by rfl) :
    PE X (.Call (.Name x p) (e :: es) [] pos) (tCall sp [] E0 t) := by
  obtain ⟨f, fd, G, m, kp, b⟩ := C.ex
  exact pe_call G (hr.mono hk) hg m kp b .nil pass0 ha hdb he hpl
/-- the built-in names that the module leaves alone -/
structure Bl (mg : Str → Option Value) : Prop where
  b_len : mg "len" = none
  b_list : mg "list" = none
  b_tuple : mg "tuple" = none
  b_reversed : mg "reversed" = none
  b_range : mg "range" = none
  b_max : mg "max" = none
  b_min : mg "min" = none
  b_sum : mg "sum" = none
  b_all : mg "all" = none
  b_any : mg "any" = none
  b_zip : mg "zip" = none
  b_enumerate : mg "enumerate" = none
  b_isinstance : mg "isinstance" = none
  b_int : mg "int" = none
  b_bool : mg "bool" = none
  b_str : mg "str" = none
  b_repr : mg "repr" = none
  b_divmod : mg "divmod" = none
  b_abs : mg "abs" = none
  b_sorted : mg "sorted" = none
  b_set : mg "set" = none
  b_dict : mg "dict" = none
  b_pow : mg "pow" = none
  b_ValueError : mg "ValueError" = none
  b_IndexError : mg "IndexError" = none
/-! ### heaps: all but some addresses as before -/
def But (ds : List Addr) (H H' : Hp) : Prop := ∀ a o, a ∉ ds → H a = some o → H' a = some o
theorem But.refl (ds : List Addr) (H : Hp) : But ds H H := fun _ _ _ h => h
theorem But.trans {ds : List Addr} {H H1 H2 : Hp} (a : But ds H H1) (b : But ds H1 H2) : But ds H H2 := fun c o n h => b c o n (a c o n h)
/-! ### the deal: a dict of three numbers and a list of great ones -/
def dealK (s m n : Int) (l : Addr) : List (Key × V) := [(Sum.inr "seed", .int s), (Sum.inr "many", .int m), (Sum.inr "now", .int n), (Sum.inr "left", .ref l)]
structure Deal (H : Hp) (d l : Addr) : Prop where
  ex : ∃ (s m n : Int) (ns : List Int), H d = some (.dK (dealK s m n l)) ∧ H l = some (.lst (ns.map V.int)) ∧ 0 ≤ n ∧ ∀ x ∈ ns, 0 ≤ x
theorem key_ne {x y : Str} (h : (x == y) = false) : ¬ (Sum.inr x : Key) = Sum.inr y := fun e => by
  have := Sum.inr.inj e
  rw [this, beq_self_eq_true] at h
  cases h
theorem dk_seed {s m n : Int} {l : Addr} : valV (dealK s m n l) (Sum.inr "seed") = some (.int s) := valV_pos rfl
theorem dk_many {s m n : Int} {l : Addr} : valV (dealK s m n l) (Sum.inr "many") = some (.int m) := (valV_neg (key_ne (by decide +kernel))).trans (valV_pos rfl)
theorem dk_now {s m n : Int} {l : Addr} : valV (dealK s m n l) (Sum.inr "now") = some (.int n) :=
  (valV_neg (key_ne (by decide +kernel))).trans ((valV_neg (key_ne (by decide +kernel))).trans (valV_pos rfl))
theorem dk_left {s m n : Int} {l : Addr} : valV (dealK s m n l) (Sum.inr "left") = some (.ref l) :=
  (valV_neg (key_ne (by decide +kernel))).trans ((valV_neg (key_ne (by decide +kernel))).trans ((valV_neg (key_ne (by decide +kernel))).trans (valV_pos rfl)))
theorem dk_putNow {s m n k : Int} {l : Addr} : putK (dealK s m n l) (Sum.inr "now") (.int k) = dealK s m k l := by
  unfold putK
  rw [valV_any, dk_now, if_pos (show (some (V.int n)).isSome = true from rfl)]
  show [_, _, _, _] = _
  dsimp only
  rw [if_neg (key_ne (by decide +kernel)), if_neg (key_ne (by decide +kernel)), if_pos rfl, if_neg (key_ne (by decide +kernel))]
  rfl
theorem dk_putMany {s m n k : Int} {l : Addr} : putK (dealK s m n l) (Sum.inr "many") (.int k) = dealK s k n l := by
  unfold putK
  rw [valV_any, dk_many, if_pos (show (some (V.int m)).isSome = true from rfl)]
  show [_, _, _, _] = _
  dsimp only
  rw [if_neg (key_ne (by decide +kernel)), if_pos rfl, if_neg (key_ne (by decide +kernel)), if_neg (key_ne (by decide +kernel))]
  rfl
/-- d["x"], d in a slot -/
theorem rd_dk {σ : St} {H : Hp} {Q : VK} {i : Nat} {d : Addr} {kvs : List (Key × V)} {x : Str} {v : V} (h : H d = some (.dK kvs)) (hi : σ[i]? = some (some (.ref d))) (hv : valV kvs (Sum.inr x) = some v) (q : Q v H) : tDGet (tVar i) (tC (.str x)) σ H Q :=
  ⟨.ref d, hi, d, v, rfl, by rw [← hv]; exact DGet.k (k := Sum.inr x) h, q⟩
/-- d["x"] = e, the reading of e done before -/
theorem wr_dk {σ : St} {H : Hp} {D : Ends} {i : Nat} {d : Addr} {kvs kvs' : List (Key × V)} {x : Str} {v : V} (h : H d = some (.dK kvs)) (hi : σ[i]? = some (some (.ref d))) (hl : kvs.length < sizeLine) (hp : putK kvs (Sum.inr x) v = kvs') (q : D.nx σ (upd H d (.dK kvs'))) :
    tVar i σ H fun y H2 => tC (.str x) σ H2 fun z H3 => ∃ a H4, y = .ref a ∧ DPut H3 a z v H4 ∧ D.nx σ H4 :=
  ⟨.ref d, hi, d, upd H d (.dK kvs'), rfl, by rw [← hp]; exact DPut.k (k := Sum.inr x) h hl, q⟩
/-- the slots at the entry of a def of n names -/
def sN (n : Nat) (vs : List V) : St := vs.map some ++ List.replicate (n - vs.length) none
abbrev EndsQ (Q : VK) : Ends := { nx := fun _ H' => Q .non H', rt := Q }
abbrev FnP (K : PySem.W.Frag) (x : Str) (st : Stmt) (f : Addr) (fd : FuncData) : Prop := FunD K x x (defArgs st) (defBody st) (defScope st) [] [] f fd
/-! ### _law_draw -/
/-- a draw by n: some number from 0 on below n; the deal goes on, all else stands -/
def sp_draw : Sp := fun vs H Q _ => ∃ (d l : Addr) (n : Int), vs = [.ref d, .int n] ∧ 0 < n ∧ n < 2 ^ 200 ∧ Deal H d l ∧
  ∀ (k : Int) (H' : Hp), 0 ≤ k → k < n → But [d, l] H H' → Deal H' d l → Q (.int k) H'
def t_draw (K : PySem.W.Frag) : TS :=
  tSeq (tWhile (tAnd (tTest (tOp rEq (tDGet (tVar 0) (tC (.str "now"))) (tC (.int 0)))) (tTest (tOp qGt (tCB (qLen K) (tCons (tDGet (tVar 0) (tC (.str "left"))) (tNil))) (tC (.int 0))))) (sDPut (tVar 0) (tC (.str "now")) (tBM0 K "list" rPop (tDGet (tVar 0) (tC (.str "left"))))))
    (tSeq (tIfS (tTest (tOp qGt (tDGet (tVar 0) (tC (.str "now"))) (tC (.int 0)))) (tSeq (tAsg (tOp qMod (tDGet (tVar 0) (tC (.str "now"))) (tVar 1)) (gName 4))
    (tSeq (sDPut (tVar 0) (tC (.str "now")) (tOp qFdivW (tDGet (tVar 0) (tC (.str "now"))) (tVar 1)))
    (tRet (tVar 4)))) (tNext))
    (tSeq (sDPut (tVar 0) (tC (.str "many")) (tOp qAdd (tDGet (tVar 0) (tC (.str "many"))) (tC (.int 1))))
    (tSeq (tAsg (tOp qMod (tOp qMul (tOp qAdd (tDGet (tVar 0) (tC (.str "seed"))) (tOp qMul (tC (.int 40692)) (tDGet (tVar 0) (tC (.str "many"))))) (tC (.int 48271))) (tC (.int 2147483629))) (gName 2))
    (tSeq (tAsg (tOp qMod (tOp qAdd (tOp qAdd (tOp qMul (tVar 2) (tVar 2)) (tOp qMul (tC (.int 7919)) (tDGet (tVar 0) (tC (.str "many"))))) (tDGet (tVar 0) (tC (.str "seed")))) (tC (.int 2147483563))) (gName 3))
    (tRet (tOp qMod (tOp qFdiv (tOp qAdd (tOp qMul (tOp qMod (tOp qMul (tVar 3) (tVar 3)) (tC (.int 2147483647))) (tC (.int 30103))) (tVar 2)) (tC (.int 4096))) (tVar 1)))))))
theorem ifd {p A B : Prop} [Decidable p] (h1 : p → A) (h2 : ¬ p → B) : if decide p = true then A else B := by
  by_cases c : p
  · rw [if_pos (decide_eq_true c)]
    exact h1 c
  · rw [if_neg (by simpa using c)]
    exact h2 c
theorem mp {j : Int} (h : decide (0 < j) = true) : 0 < j := of_decide_eq_true h
theorem cm_mod {a b j : Int} (h : decide (0 < b) = true) (h2 : decide (b ≤ 2 ^ 64) = true) : CMul (a % b) j := by
  have h1 := of_decide_eq_true h
  have h2 := of_decide_eq_true h2
  have h3 := Int.emod_nonneg a (show b ≠ 0 by omega)
  have h4 := Int.emod_lt_of_pos a h1
  exact .inl ⟨by omega, by omega⟩
theorem len4 {s m n : Int} {l : Addr} : (dealK s m n l).length < sizeLine := by show 4 < sizeLine; decide
theorem mod_lt {a b : Int} (h : 0 < b) : 0 ≤ a % b ∧ a % b < b := ⟨Int.emod_nonneg _ (by omega), Int.emod_lt_of_pos _ h⟩
theorem pure_draw {K : PySem.W.Frag} (vs : List V) (H : Hp) (Q : VK) (E : XK) (h : sp_draw vs H Q E) : t_draw K (EndsQ Q) (sN 5 vs) H := by
  obtain ⟨d, l, n, rfl, hn, hn2, hD, k⟩ := h
  show t_draw K _ [some (.ref d), some (.int n), none, none, none] H
  -- the loop: the deal stands, all else too
  refine ⟨fun m σ H1 => σ = [some (.ref d), some (.int n), none, none, none] ∧ But [d, l] H H1 ∧ ∃ (s t n1 : Int) (ns : List Int), H1 d = some (.dK (dealK s t n1 l)) ∧ H1 l = some (.lst (ns.map V.int)) ∧ 0 ≤ n1 ∧ (∀ x ∈ ns, 0 ≤ x) ∧ m = ns.length, ?_, ?_⟩
  · obtain ⟨s, t, n1, ns, h1, h2, h3, h4⟩ := hD.ex
    exact ⟨_, rfl, .refl _ _, s, t, n1, ns, h1, h2, h3, h4, rfl⟩
  rintro m σ H1 ⟨rfl, hB, s, t, n1, ns, h1, h2, h3, h4, rfl⟩
  have hne : d ≠ l := ne_of h1 h2 (by intro z; cases z)
  refine rd_dk h1 rfl dk_now ⟨rfl, _, rfl, ?_⟩
  have after : ∀ ns : List Int, H1 l = some (.lst (ns.map V.int)) → (∀ x ∈ ns, 0 ≤ x) → tSeq (tIfS (tTest (tOp qGt (tDGet (tVar 0) (tC (.str "now"))) (tC (.int 0)))) (tSeq (tAsg (tOp qMod (tDGet (tVar 0) (tC (.str "now"))) (tVar 1)) (gName 4))
    (tSeq (sDPut (tVar 0) (tC (.str "now")) (tOp qFdivW (tDGet (tVar 0) (tC (.str "now"))) (tVar 1)))
    (tRet (tVar 4)))) (tNext))
    (tSeq (sDPut (tVar 0) (tC (.str "many")) (tOp qAdd (tDGet (tVar 0) (tC (.str "many"))) (tC (.int 1))))
    (tSeq (tAsg (tOp qMod (tOp qMul (tOp qAdd (tDGet (tVar 0) (tC (.str "seed"))) (tOp qMul (tC (.int 40692)) (tDGet (tVar 0) (tC (.str "many"))))) (tC (.int 48271))) (tC (.int 2147483629))) (gName 2))
    (tSeq (tAsg (tOp qMod (tOp qAdd (tOp qAdd (tOp qMul (tVar 2) (tVar 2)) (tOp qMul (tC (.int 7919)) (tDGet (tVar 0) (tC (.str "many"))))) (tDGet (tVar 0) (tC (.str "seed")))) (tC (.int 2147483563))) (gName 3))
    (tRet (tOp qMod (tOp qFdiv (tOp qAdd (tOp qMul (tOp qMod (tOp qMul (tVar 3) (tVar 3)) (tC (.int 2147483647))) (tC (.int 30103))) (tVar 2)) (tC (.int 4096))) (tVar 1))))))
      { nx := fun _ H' => Q .non H', rt := Q } [some (.ref d), some (.int n), none, none, none] H1 := by
    intro ns h2 h4
    refine rd_dk h1 rfl dk_now ⟨_, _, rfl, rfl, _, rfl, ?_⟩
    refine ifd (fun c => ?_) (fun c => ?_)
    · refine rd_dk h1 rfl dk_now ⟨_, rfl, _, _, rfl, rfl, hn, ?_⟩
      refine rd_dk h1 rfl dk_now ⟨_, rfl, _, _, rfl, rfl, wide_div hn (b := 200) (by omega) (by decide) (by decide), ?_⟩
      refine wr_dk h1 rfl len4 dk_putNow ⟨_, rfl, ?_⟩
      obtain ⟨m1, m2⟩ := mod_lt (a := n1) hn
      refine k _ _ m1 m2 (hB.trans fun a o ha e => ?_) ⟨s, t, n1 / n, ns, upd_same, ?_, Int.ediv_nonneg h3 (by omega), h4⟩
      · rw [upd_ne (by intro z; subst z; exact ha List.mem_cons_self)]
        exact e
      · rw [upd_ne (Ne.symm hne)]
        exact h2
    · refine rd_dk h1 rfl dk_many ⟨_, _, rfl, rfl, ?_⟩
      refine wr_dk h1 rfl len4 dk_putMany ?_
      refine rd_dk upd_same rfl dk_seed ?_
      refine rd_dk upd_same rfl dk_many ⟨_, _, rfl, rfl, .inl ⟨by decide, by decide⟩, _, _, rfl, rfl, _, _, rfl, rfl, .inr ⟨by decide, by decide⟩, _, _, rfl, rfl, mp rfl, ?_⟩
      refine ⟨_, rfl, _, rfl, _, _, rfl, rfl, cm_mod rfl rfl, ?_⟩
      refine rd_dk upd_same rfl dk_many ⟨_, _, rfl, rfl, .inl ⟨by decide, by decide⟩, _, _, rfl, rfl, ?_⟩
      refine rd_dk upd_same rfl dk_seed ⟨_, _, rfl, rfl, _, _, rfl, rfl, mp rfl, ?_⟩
      refine ⟨_, rfl, _, rfl, _, _, rfl, rfl, cm_mod rfl rfl, _, _, rfl, rfl, mp rfl, _, _, rfl, rfl, cm_mod rfl rfl, _, rfl, _, _, rfl, rfl, _, _, rfl, rfl, ⟨by decide, by decide⟩, _, rfl, _, _, rfl, rfl, hn, ?_⟩
      refine k _ _ (mod_lt hn).1 (mod_lt hn).2 (hB.trans fun a o ha e => ?_) ⟨s, t + 1, n1, ns, upd_same, ?_, h3, h4⟩
      · rw [upd_ne (by intro z; subst z; exact ha List.mem_cons_self)]
        exact e
      · rw [upd_ne (Ne.symm hne)]
        exact h2
  refine ifd (fun c => ?_) (fun c => ?_)
  · refine rd_dk h1 rfl dk_left ⟨_, (ns.map V.int).length, rfl, .inl ⟨_, SqL.of h2, rfl⟩, _, _, rfl, rfl, _, rfl, ?_⟩
    refine ifd (fun c2 => ?_) (fun c2 => ?_)
    · refine ⟨fun σ' H' => ∃ m', m' < ns.length ∧ _, fun _ _ h => h, ?_⟩
      have hpos : ns ≠ [] := by
        rintro rfl
        exact absurd c2 (by decide)
      refine rd_dk h1 rfl dk_left ⟨.inl ⟨rfl, _, SqL.of h2⟩, l, ns.map V.int, .int (ns.getLast hpos), rfl, rfl, h2, ?_, ?_⟩
      · rw [List.getElem?_map, List.length_map, ← List.getLast?_eq_getElem?, List.getLast?_eq_some_getLast hpos] <;> rfl
      · refine wr_dk (by rw [upd_ne hne]; exact h1) rfl len4 dk_putNow ⟨ns.length - 1, ?_, rfl, ?_, s, t, ns.getLast hpos, ns.dropLast, upd_same, ?_, h4 _ (List.getLast_mem hpos), fun x hx => h4 x ((List.dropLast_sublist ns).subset hx), by rw [List.length_dropLast]⟩
        · have := List.length_pos_iff.mpr hpos
          omega
        · intro a o ha e
          have h1' := hB a o ha e
          rw [upd_ne (by intro z; subst z; exact ha List.mem_cons_self), upd_ne (by intro z; subst z; exact ha (by simp))]
          exact h1'
        · rw [upd_ne (Ne.symm hne), upd_same, List.map_dropLast]
    · exact after ns h2 h4
  · exact after ns h2 h4
end Wf
/-! list(zip(t, u)), t and u tuples -/
namespace Wf
open PySem PySem.Spec
end Wf
/-! Defs that are called where no repr is under way (guards are none): for the text that repr gives. -/
namespace Wf
open PySem PySem.Spec L2
section
variable {P : Program} {w : World} {K : PySem.W.Frag} {mg : Str → Option Value} {base : Heap} {CX : CXT} {k : Nat} {f : Addr} {fd : FuncData} {ps : List Str} {sp : Sp}
structure FnG (P : Program) (w : World) (K : PySem.W.Frag) (mg : Str → Option Value) (base : Heap) (CX : CXT) (k : Nat) (f : Addr) (fd : FuncData) (ps : List Str) (sp : Sp) : Prop where
  len : ∀ vs H Q E, sp vs H Q E → vs.length = ps.length
  run : ∀ (A : Around), A.guards = some [] → ∀ (outer : List Env) (s : Shared) (H : Hp) (args : Args) (us : List Value) (vs : List V) (Q : VK) (E : XK), Room k A → Env0 P w K mg base A outer s H →
    BindsTo s fd args (ps.zip us) → Vals vs us → sp vs H Q E → codeAny (model P w) A (.call (.ref f) args) (CR CX outer P w H s Q E) s
theorem FnG.of (F : FnOk P w K mg base CX k f fd ps sp) : FnG P w K mg base CX k f fd ps sp := ⟨F.len, fun A _ => F.run A⟩
end
/-! ### such a def called by its name -/
/-! ### repr of data -/
/-! ### the end of a law whose def wants that no guard is -/
theorem lawG {P : Program} {w : World} {K : PySem.W.Frag} {mg mb : Str → Option Value} {k : Nat} {fa a : Addr} {fd : FuncData} {x : Str} {sp : Sp} {s : Shared} {us : List Value} {ns : List Int}
    (KX : K.In s.heap) (hmg : s.heap.Ns mainGlobals mg) (hb : s.heap.Ns builtinsNs mb) (hbb : ∀ x : Str, x ≠ "__name__" → mb x = bootBuiltins x) (hlim : s.heap.NoLimit) (hg : s.gens = #[])
    (ha : s.heap.get? a = some { cls := .type "list", data := .seq us.toArray }) (hi : PyProof.Rows.IntsAre us ns) (hl : ns.length ≤ sizeLine) (hr : Room k callerA)
    (F : ∀ base : Heap, K.In base → base.Ns mainGlobals mg → FnG P w K mg base CX0 k fa fd [x] sp) (hbind : ∀ (s : Shared) (u : Value), BindsTo s fd ⟨[u], []⟩ [(x, u)])
    (hsp : ∀ H : Hp, Only H → SqL K H a (ns.map V.int) → sp [.ref a] H (fun v _ => v = .bl true) fun _ _ _ => False) :
    codeAny (model P w) callerA (.call (.ref fa) ⟨[.ref a], []⟩) (fun r s' => r = .ok (.ret (.bool true)) ∧ PySem.OldK s.heap s'.heap ∧ s'.os = s.os ∧ PyProof.Rows.AllBare s'.gens) s := by
  have rv := vals_ints hi
  -- over a heap that tracks the script at most
  have go : ∀ H : Hp, Only H → SqL K H a (ns.map V.int) → HOk P w H s.heap → (∀ b, H b ≠ none → b = a) → (H a ≠ none → K.lookup a = none) →
      codeAny (model P w) callerA (.call (.ref fa) ⟨[.ref a], []⟩) (fun r s' => r = .ok (.ret (.bool true)) ∧ PySem.OldK s.heap s'.heap ∧ s'.os = s.os ∧ PyProof.Rows.AllBare s'.gens) s := by
    intro H hO hS hok hA hK
    have notA : ∀ {b : Addr} {o : Obj} {es : Array DictEntry} {ep : Nat}, s.heap.get? b = some o → o.data = .dict es ep → H b = none := fun {b o es ep} e d => by
      by_cases hb : b = a
      · subst hb
        rw [ha] at e
        cases e
        cases d
      · cases q : H b with
        | none => rfl
        | some u => exact absurd (hA b (by rw [q]; exact fun z => nomatch z)) hb
    have nsK : ∀ {b : Addr} {m : Str → Option Value}, s.heap.Ns b m → (hidT s.heap H).Ns b m := fun {b m} n => by
      obtain ⟨o, es, ep, e, d, r⟩ := n
      exact ⟨o, es, ep, hidT_get e (notA e d), d, r⟩
    have hKb : K.In (hidT s.heap H) := fun b o e => by
      refine hidT_get (KX b o e) ?_
      by_cases hb : b = a
      · subst hb
        cases q : H b with
        | none => rfl
        | some u =>
          rw [hK (by rw [q]; exact fun z => nomatch z)] at e
          cases e
      · cases q : H b with
        | none => rfl
        | some u => exact absurd (hA b (by rw [q]; exact fun z => nomatch z)) hb
    obtain ⟨mc, l1, l2⟩ := hlim
    have e0 : Env0 P w K mg (hidT s.heap H) callerA [] s H :=
      ⟨rfl, ⟨hKb, nsK hmg, ⟨mb, nsK hb, hbb⟩, ⟨mc, nsK l1, l2⟩⟩, fun b o e => of_hidT e, Nat.le_of_eq (hidT_size _ _), trivial, fun b hb => (List.not_mem_nil hb).elim, hok, .of_eq hg⟩
    refine codeAny_mono ((F _ hKb (nsK hmg)).run callerA rfl [] s H ⟨[.ref a], []⟩ [.ref a] [.ref a] _ _ hr e0 (hbind s (.ref a)) (.cons rfl .nil) (hsp H hO hS)) fun r s' h => ?_
    cases r with
    | error e => exact False.elim h
    | ok fl =>
      cases fl with
      | next => exact False.elim h
      | brk => exact False.elim h
      | cont => exact False.elim h
      | ret u =>
        obtain ⟨v, H', os, bare, un, hok', r', q⟩ := h
        cases (show v = .bl true from q)
        cases (show u = Value.bool true from r')
        refine ⟨rfl, PySem.OldK.of_keep fun b o e => ?_, os, bare⟩
        rcases hO b with z | ⟨ob, xs, z⟩
        · exact un.keep b o e z (fun y => (List.not_mem_nil y).elim) (fun y => (List.not_mem_nil y).elim)
        · have e1 := (hok b _ z).1
          rw [e] at e1
          cases e1
          exact (hok' b _ (un.frzs b _ _ z)).1
  cases hk : K.lookup a with
  | some o =>
    have e := KX a o hk
    rw [ha] at e
    cases e
    refine go (fun _ => none) (fun _ => .inl rfl) (.inr ⟨_, us.toArray, _, hk, rfl, rfl, rfl, ?_, ?_⟩) (fun b u z => nomatch z) (fun b z => absurd rfl z) fun z => absurd rfl z
    · rw [List.size_toArray, hi.length]
      exact hl
    · simpa using rv
  | none =>
    let H : Hp := fun b => if b = a then some (.frz { cls := .type "list", data := .seq us.toArray } (.lst (ns.map V.int))) else none
    have h1 : H a = some (.frz { cls := .type "list", data := .seq us.toArray } (.lst (ns.map V.int))) := if_pos rfl
    have h0 : ∀ b, b ≠ a → H b = none := fun b hb => if_neg hb
    have hc : ∀ b, b = a ∨ H b = none := fun b => by
      by_cases hb : b = a
      · exact .inl hb
      · exact .inr (h0 b hb)
    refine go H (fun b => ?_) (.inl (.inr ⟨_, h1⟩)) (fun b u z => ?_) (fun b z => ?_) fun _ => hk
    · rcases hc b with rfl | z
      · exact .inr ⟨_, _, h1⟩
      · exact .inl z
    · rcases hc b with rfl | y
      · rw [h1] at z
        cases z
        exact ⟨ha, by rw [List.length_map]; exact hl, us, _, rv, ha⟩
      · rw [y] at z
        cases z
    · rcases hc b with y | y
      · exact y
      · exact absurd y z
theorem walkG {l : PySem.W.OpenLaw} {n k : Nat} {q : Program} {loose : List Str} {XP : (Str → Option Value) → Heap → Prop} {YP : World → Heap → Prop} {d : DefRec} {x : Str}
    (hn : l.most = some n) (hn2 : n ≤ sizeLine) (hdf : d.params.defaults = []) (hr : Room k callerA)
    (F : ∀ (w : World) (mg : Str → Option Value) (fa : Addr) (h : Heap), YP w h → h.Ns mainGlobals mg → mg d.name = some (.ref fa) →
      ∃ (K : PySem.W.Frag) (fd : FuncData) (sp : Sp), K.In h ∧ (∀ (s : Shared) (u : Value), BindsTo s fd ⟨[u], []⟩ [(x, u)]) ∧
        (∀ (H : Hp) (a : Addr) (ns : List Int), ns.length ≤ n → Only H → SqL K H a (ns.map V.int) → sp [.ref a] H (fun v _ => v = .bl true) fun _ _ _ => False) ∧
        ∀ base : Heap, K.In base → base.Ns mainGlobals mg → FnG l.prog w K mg base CX0 k fa fd [x] sp) :
    PySem.W.WalkO q loose XP YP l.row.toRowW d [] (fun f vs => PySem.call f vs) := by
  refine Att.attach_call hn hdf fun w s0 s1 mg mb fa o pm cd doc a vs ns G Y ho hd hcd hmg hobj hints hlen hg => ?_
  obtain ⟨K, fd, sp, KX, hb, hsp, hF⟩ := F w mg fa _ Y G.T.g hmg
  exact lawG KX G.T.g G.T.b G.T.builtins G.T.nolimit hg hobj hints (Nat.le_trans hlen hn2) hr hF hb fun H hO hS => hsp H a ns hlen hO hS
end Wf
/-! Data that never changes (None, truths, whole numbers, texts, tuples), and _law_alike. -/
namespace Wf
open PySem PySem.Spec L2
/-! ### what stands in tuples stays -/
def Tp (K : PySem.W.Frag) (H H' : Hp) : Prop := ∀ a xs, SqT K H a xs → SqT K H' a xs
theorem Tp.refl (K : PySem.W.Frag) (H : Hp) : Tp K H H := fun _ _ h => h
theorem Tp.trans {K : PySem.W.Frag} {H H1 H2 : Hp} (a : Tp K H H1) (b : Tp K H1 H2) : Tp K H H2 := fun x xs h => b x xs (a x xs h)
theorem Same.tp {K : PySem.W.Frag} {H H' : Hp} (s : Same H H') : Tp K H H' := fun a xs h => by
  rcases h with (h | ⟨o, h⟩) | h
  · exact .inl (.inl (s _ _ h))
  · exact .inl (.inr ⟨o, s _ _ h⟩)
  · exact .inr h
theorem same_new {H : Hp} {p : Addr} {o : HO} (h : H p = none) : Same H (upd H p o) := fun a u e => by
  rw [upd_ne (ne_of_none e h)]
  exact e
def NoT (H : Hp) (d : Addr) : Prop := ∀ xs, ¬ Rd H d (.tup xs)
theorem not_lst {H : Hp} {d : Addr} {ys : List V} (h : H d = some (.lst ys)) : NoT H d := fun xs r => by
  rcases r with r | ⟨o, r⟩ <;> rw [h] at r <;> cases r
theorem not_dK {H : Hp} {d : Addr} {ys : List (Key × V)} (h : H d = some (.dK ys)) : NoT H d := fun xs r => by
  rcases r with r | ⟨o, r⟩ <;> rw [h] at r <;> cases r
theorem But.tp {K : PySem.W.Frag} {ds : List Addr} {H H' : Hp} (b : But ds H H') (hd : ∀ d ∈ ds, NoT H d) : Tp K H H' := fun a xs h => by
  rcases h with h | h
  · have ha : a ∉ ds := fun z => hd a z xs h
    rcases h with h | ⟨o, h⟩
    · exact .inl (.inl (b _ _ ha h))
    · exact .inl (.inr ⟨o, b _ _ ha h⟩)
  · exact .inr h
theorem tp_upd {K : PySem.W.Frag} {H : Hp} {d : Addr} {o : HO} (h : NoT H d) : Tp K H (upd H d o) := But.tp (ds := [d]) (fun a u ha e => by
  rw [upd_ne (by intro z; subst z; exact ha List.mem_cons_self)]
  exact e) fun x hx => by
    rw [List.mem_singleton.mp hx]
    exact h
mutual
def noL : PyData → Bool
  | .none | .bool _ | .int _ => true
  | .str x => PyData.canLay0 (.str x)
  | .tuple ds => noLAll ds
  | .list _ | .dict _ => false
def noLAll : List PyData → Bool
  | [] => true
  | d :: ds => noL d && noLAll ds
end
section
variable {K : PySem.W.Frag} {H H' : Hp}
mutual
theorem Dp.tp (t : Tp K H H') : ∀ (d : PyData) (v : V), noL d = true → Dp K H v d → Dp K H' v d
  | .none, _, _, h => by cases h; exact .non
  | .bool b, _, _, h => by cases h; exact .bl b
  | .int i, _, _, h => by cases h; exact .int i
  | .str x, _, _, h => by cases h; exact .str x
  | .list _, _, n, _ => nomatch n
  | .dict _, _, _, h => by cases h
  | .tuple ds, _, n, h => by
    cases h with
    | tup hs ha => exact .tup (t _ _ hs) (DpAll.tp t ds _ n ha)
theorem DpAll.tp (t : Tp K H H') : ∀ (ds : List PyData) (vs : List V), noLAll ds = true → DpAll K H vs ds → DpAll K H' vs ds
  | [], _, _, h => by cases h; exact .nil
  | d :: ds, _, n, h => by
    have n2 : (noL d && noLAll ds) = true := n
    rw [Bool.and_eq_true] at n2
    cases h with
    | cons h1 h2 => exact .cons (Dp.tp t d _ n2.1 h1) (DpAll.tp t ds _ n2.2 h2)
end
theorem DpAll.len : ∀ {vs : List V} {ds : List PyData}, DpAll K H vs ds → vs.length = ds.length
  | _, _, .nil => rfl
  | _, _, .cons _ h => congrArg (· + 1) (DpAll.len h)
theorem DpAll.get : ∀ {vs : List V} {ds : List PyData} {i : Nat} {d : PyData}, DpAll K H vs ds → ds[i]? = some d → ∃ v, vs[i]? = some v ∧ Dp K H v d
  | _, _, _, _, .nil, e => by simp at e
  | _, _, 0, _, .cons h _, e => by simp at e; subst e; exact ⟨_, rfl, h⟩
  | _, _, i + 1, _, .cons _ h, e => by
    obtain ⟨v, e1, e2⟩ := DpAll.get (i := i) h (by simpa using e)
    exact ⟨v, by simpa using e1, e2⟩
theorem DpAll.getV : ∀ {vs : List V} {ds : List PyData} {i : Nat} {v : V}, DpAll K H vs ds → vs[i]? = some v → ∃ d, ds[i]? = some d ∧ Dp K H v d
  | _, _, _, _, .nil, e => by simp at e
  | _, _, 0, _, .cons h _, e => by simp at e; subst e; exact ⟨_, rfl, h⟩
  | _, _, i + 1, _, .cons _ h, e => by
    obtain ⟨d, e1, e2⟩ := DpAll.getV (i := i) h (by simpa using e)
    exact ⟨d, by simpa using e1, e2⟩
theorem DpAll.append : ∀ {vs ws : List V} {ds es : List PyData}, DpAll K H vs ds → DpAll K H ws es → DpAll K H (vs ++ ws) (ds ++ es)
  | _, _, _, _, .nil, h => h
  | _, _, _, _, .cons h1 h2, h => .cons h1 (DpAll.append h2 h)
/-! ### isinstance of data -/
def tyN : PyData → String
  | .none => "NoneType" | .bool _ => "bool" | .int _ => "int" | .str _ => "str" | .tuple _ => "tuple" | .list _ => "list" | .dict _ => "dict"
theorem Dp.ty {d : PyData} {v : V} (n : noL d = true) (h : Dp K H v d) : TyX K H v (.type (tyN d)) := by
  cases h with
  | non => exact .base .non
  | bl b => exact .base (.bl b)
  | int i => exact .base (.int i)
  | str x => exact .base (.str x)
  | lst hs ha => exact nomatch n
  | tup hs ha =>
    rcases hs with (h | ⟨o, h⟩) | ⟨o, its, m, hk, hc, _⟩
    · exact .base (.tup h)
    · exact .fTuple h
    · exact .kTuple hk hc
end
/-! ### _law_alike: the same data twice -/
/-- a pair that waits: where it stands, both, and what both are -/
structure Wt (K : PySem.W.Frag) (H : Hp) (p : Addr) (a b : V) (d : PyData) : Prop where
  at_ : H p = some (.tup [a, b])
  one : Dp K H a d
  two : Dp K H b d
  no : noL d = true
theorem Wt.tp {K : PySem.W.Frag} {H H' : Hp} {p : Addr} {a b : V} {d : PyData} (w : Wt K H p a b d) (t : Tp K H H') (h : H' p = some (.tup [a, b])) : Wt K H' p a b d := ⟨h, Dp.tp t d a w.no w.one, Dp.tp t d b w.no w.two, w.no⟩
end Wf
/-! The books that the draws make. -/
namespace Wf
open PySem PySem.Spec L2
def dP (p : Int × Int) : PyData := .tuple [.int p.1, .int p.2]
theorem noL_dP (p : Int × Int) : noL (dP p) = true := rfl
theorem dP_new {K : PySem.W.Frag} {H : Hp} {p : Addr} {x y : Int} (h : H p = some (.tup [.int x, .int y])) : Dp K H (.ref p) (dP (x, y)) := .tup (SqT.of h) (.cons (.int x) (.cons (.int y) .nil))
theorem dP_at {K : PySem.W.Frag} {H : Hp} {v : V} {p : Int × Int} (h : Dp K H v (dP p)) : ∃ a, v = .ref a ∧ SqT K H a [.int p.1, .int p.2] := by
  cases h with
  | tup hs ha =>
    cases ha with
    | cons h1 h2 =>
      cases h2 with
      | cons h3 h4 =>
        cases h4
        cases h1
        cases h3
        exact ⟨_, rfl, hs⟩
/-! ### _law_pair -/
def pairF (f s : Int) (st : Int × Int) (a b : Int) : Int × Int :=
  if f = 0 then (b, a) else if f = 1 then (a, b) else if f = 2 then ((if b < a then b else a), (if b > a then b else a)) else if f = 3 then (b, (2 * b - a) % s) else ((b + st.2) % s, (a + st.1) % s)
def sp_pair (K : PySem.W.Frag) : Sp := fun vs H Q _ => ∃ (f s a b : Int) (v : V) (st : Int × Int), vs = [.int f, .int s, v, .int a, .int b] ∧ Dp K H v (dP st) ∧ 0 ≤ f ∧ f ≤ 4 ∧ 0 < s ∧
  ∀ u H', Same H H' → Dp K H' u (dP (pairF f s st a b)) → Q u H'
def t_pair (K : PySem.W.Frag) : TS :=
  tSeq (tAsg (tVar 2) (gTup K 2 (gCons (gName 6) (gCons (gName 7) (gNil)))))
    (tSeq (tAsg (tLst (tCons (tTup (tCons (tVar 4) (tCons (tVar 3) (tNil)))) (tCons (tTup (tCons (tVar 3) (tCons (tVar 4) (tNil)))) (tCons (tTup (tCons (tCB (qMin2) (tCons (tVar 3) (tCons (tVar 4) (tNil)))) (tCons (tCB (qMax2) (tCons (tVar 3) (tCons (tVar 4) (tNil)))) (tNil)))) (tCons (tTup (tCons (tVar 4) (tCons (tOp qMod (tOp qSub (tOp qMul (tC (.int 2)) (tVar 4)) (tVar 3)) (tVar 1)) (tNil)))) (tCons (tTup (tCons (tOp qMod (tOp qAdd (tVar 4) (tVar 7)) (tVar 1)) (tCons (tOp qMod (tOp qAdd (tVar 3) (tVar 6)) (tVar 1)) (tNil)))) (tNil))))))) (gName 5))
    (tRet (tOp (rIxL K) (tVar 5) (tVar 0))))
theorem pure_pair {K : PySem.W.Frag} (vs : List V) (H : Hp) (Q : VK) (E : XK) (h : sp_pair K vs H Q E) : t_pair K (EndsQ Q) (sN 8 vs) H := by
  obtain ⟨f, s, a, b, v, st, rfl, hv, f0, f4, hs, k⟩ := h
  show t_pair K _ [some (.int f), some (.int s), some v, some (.int a), some (.int b), none, none, none] H
  obtain ⟨x, rfl, hx⟩ := dP_at hv
  refine ⟨_, rfl, x, _, rfl, hx, rfl, _, _, rfl, _, _, rfl, rfl, ?_⟩
  refine ⟨_, rfl, _, rfl, (by show 2 ≤ sizeLine; decide), fun p0 h0 => ?_⟩
  refine ⟨_, rfl, _, rfl, (by show 2 ≤ sizeLine; decide), fun p1 h1 => ?_⟩
  refine ⟨_, rfl, _, rfl, _, _, rfl, _, rfl, _, rfl, _, _, rfl, (by show 2 ≤ sizeLine; decide), fun p2 h2 => ?_⟩
  refine ⟨_, rfl, _, rfl, _, _, rfl, rfl, .inl ⟨by decide, by decide⟩, _, rfl, _, _, rfl, rfl, _, rfl, _, _, rfl, rfl, hs, (by show 2 ≤ sizeLine; decide), fun p3 h3 => ?_⟩
  refine ⟨_, rfl, _, rfl, _, _, rfl, rfl, _, rfl, _, _, rfl, rfl, hs, _, rfl, _, rfl, _, _, rfl, rfl, _, rfl, _, _, rfl, rfl, hs, (by show 2 ≤ sizeLine; decide), fun p4 h4 => ?_⟩
  refine ⟨(by show 5 ≤ sizeLine; decide), fun L hL => ?_⟩
  have s0 := same_new (o := .tup [.int b, .int a]) h0
  have s1 := same_new (o := .tup [.int a, .int b]) h1
  have s2 := same_new (o := .tup [.int (if b < a then b else a), .int (if b > a then b else a)]) h2
  have s3 := same_new (o := .tup [.int b, .int ((2 * b - a) % s)]) h3
  have s4 := same_new (o := .tup [.int ((b + st.2) % s), .int ((a + st.1) % s)]) h4
  have sL := same_new (o := .lst [.ref p0, .ref p1, .ref p2, .ref p3, .ref p4]) hL
  have all := s0.trans (s1.trans (s2.trans (s3.trans (s4.trans sL))))
  have hf : f = 0 ∨ f = 1 ∨ f = 2 ∨ f = 3 ∨ f = 4 := by omega
  rcases hf with rfl | rfl | rfl | rfl | rfl
  · exact ⟨_, rfl, _, rfl, L, _, 0, .ref p0, rfl, rfl, SqL.of upd_same, rfl, k _ _ all (dP_new ((s1.trans (s2.trans (s3.trans (s4.trans sL)))) _ _ upd_same))⟩
  · exact ⟨_, rfl, _, rfl, L, _, 1, .ref p1, rfl, rfl, SqL.of upd_same, rfl, k _ _ all (dP_new ((s2.trans (s3.trans (s4.trans sL))) _ _ upd_same))⟩
  · exact ⟨_, rfl, _, rfl, L, _, 2, .ref p2, rfl, rfl, SqL.of upd_same, rfl, k _ _ all (dP_new ((s3.trans (s4.trans sL)) _ _ upd_same))⟩
  · exact ⟨_, rfl, _, rfl, L, _, 3, .ref p3, rfl, rfl, SqL.of upd_same, rfl, k _ _ all (dP_new ((s4.trans sL) _ _ upd_same))⟩
  · exact ⟨_, rfl, _, rfl, L, _, 4, .ref p4, rfl, rfl, SqL.of upd_same, rfl, k _ _ all (dP_new (sL _ _ upd_same))⟩
theorem atI_neg1 {α : Type} {xs : List α} (h : 0 < xs.length) : atI xs (-1) = xs[xs.length - 1]? := by
  have e : ixN xs.length (-1) = some (xs.length - 1) := by
    unfold ixN
    rw [if_neg (by decide), if_pos (by omega)]
    congr 1
    omega
  unfold atI
  rw [e]
  rfl
/-! ### _law_paces -/
def scan (f : Int) : List Int → List Int
  | [] => [f]
  | n :: ns => f :: scan (f + n) ns
theorem scan_len : ∀ (f : Int) (ns : List Int), (scan f ns).length = ns.length + 1
  | _, [] => rfl
  | f, n :: ns => by simp [scan, scan_len (f + n) ns]
theorem scan_app : ∀ (f : Int) (ns : List Int) (n : Int), scan f (ns ++ [n]) = scan f ns ++ [f + ns.sum + n]
  | f, [], n => by simp [scan]
  | f, m :: ns, n => by
    rw [List.cons_append, scan, scan_app (f + m) ns n, scan, List.cons_append, List.sum_cons]
    congr 3
    omega
theorem scan_last : ∀ (f : Int) (ns : List Int), (scan f ns)[ns.length]? = some (f + ns.sum)
  | f, [] => by simp [scan]
  | f, m :: ns => by
    rw [scan, List.length_cons, List.getElem?_cons_succ, scan_last (f + m) ns, List.sum_cons]
    congr 1
    omega
theorem sum_bounds : ∀ {ns : List Int} {B : Int}, (∀ x ∈ ns, 1 ≤ x ∧ x ≤ B) → (ns.length : Int) ≤ ns.sum ∧ ns.sum ≤ ns.length * B
  | [], _, _ => by simp
  | n :: ns, B, h => by
    have h1 := h n List.mem_cons_self
    have h2 := sum_bounds (fun x hx => h x (List.mem_cons_of_mem _ hx))
    rw [List.sum_cons, List.length_cons]
    have e : ((ns.length + 1 : Nat) : Int) * B = ns.length * B + B := by rw [Int.natCast_add, Int.add_mul]; simp
    rw [e]
    constructor <;> omega
theorem scan_mem : ∀ {ns : List Int} {f x : Int}, (∀ y ∈ ns, 1 ≤ y) → x ∈ scan f ns → f ≤ x ∧ x ≤ f + ns.sum
  | [], f, x, _, h => by
    simp [scan] at h
    simp
    omega
  | n :: ns, f, x, hn, h => by
    have h1 := hn n List.mem_cons_self
    have hn' : ∀ y ∈ ns, 1 ≤ y := fun y hy => hn y (List.mem_cons_of_mem _ hy)
    have hs : 0 ≤ ns.sum := by
      clear h hn
      induction ns with
      | nil => simp
      | cons m ms ih =>
        have := hn' m List.mem_cons_self
        have := ih fun y hy => hn' y (List.mem_cons_of_mem _ hy)
        rw [List.sum_cons]
        omega
    rw [List.sum_cons]
    rcases List.mem_cons.mp h with rfl | h
    · constructor <;> omega
    · have := scan_mem hn' h
      constructor <;> omega
theorem scan_rise : ∀ {ns : List Int} {f : Int}, (∀ y ∈ ns, 1 ≤ y) → (scan f ns).Pairwise (· < ·)
  | [], f, _ => by simp [scan]
  | n :: ns, f, hn => by
    have h1 := hn n List.mem_cons_self
    have hn' : ∀ y ∈ ns, 1 ≤ y := fun y hy => hn y (List.mem_cons_of_mem _ hy)
    rw [scan, List.pairwise_cons]
    refine ⟨fun x hx => ?_, scan_rise hn'⟩
    have := scan_mem hn' hx
    omega
structure PacesOk (m : Int) (ps : List Int) : Prop where
  len : (ps.length : Int) = m
  rise : ps.Pairwise (· < ·)
  lo : ∀ p ∈ ps, -1000 ≤ p ∧ p ≤ 1000
def dI (ps : List Int) : PyData := .tuple (ps.map .int)
theorem dp_ints {K : PySem.W.Frag} {H : Hp} : ∀ ns : List Int, DpAll K H (ns.map V.int) (ns.map PyData.int)
  | [] => .nil
  | n :: ns => .cons (.int n) (dp_ints ns)
theorem noLAll_ints : ∀ ns : List Int, noLAll (ns.map PyData.int) = true
  | [] => rfl
  | n :: ns => by simp [noLAll, noL, noLAll_ints ns]
def sp_paces (K : PySem.W.Frag) : Sp := fun vs H Q _ => ∃ (d l : Addr) (m : Int), vs = [.ref d, .int m] ∧ 1 ≤ m ∧ m ≤ 5 ∧ Deal H d l ∧
  ∀ (v : V) (ps : List Int) (H' : Hp), But [d, l] H H' → Deal H' d l → Dp K H' v (dI ps) → PacesOk m ps → Q v H'
theorem Deal.ne {H : Hp} {d l p : Addr} (h : Deal H d l) (hp : H p = none) : p ≠ d ∧ p ≠ l := by
  obtain ⟨s, m, n, ns, h1, h2, _⟩ := h.ex
  exact ⟨fun e => (by rw [e, h1] at hp; cases hp), fun e => (by rw [e, h2] at hp; cases hp)⟩
theorem But.at {H H' : Hp} {d l p : Addr} {o : HO} (b : But [d, l] H H') (n : p ≠ d ∧ p ≠ l) (h : H p = some o) : H' p = some o := b p o (by simp [n.1, n.2]) h
theorem But.new {ds : List Addr} {H H' : Hp} {p : Addr} {o : HO} (b : But ds H H') (hp : H p = none) : But ds H (upd H' p o) := fun a u n e => by
  rw [upd_ne (ne_of_none e hp)]
  exact b a u n e
theorem Deal.upd {H : Hp} {d l p : Addr} {o : HO} (h : Deal H d l) (n : p ≠ d ∧ p ≠ l) : Deal (upd H p o) d l := by
  obtain ⟨s, m, k, ns, h1, h2, h3⟩ := h.ex
  exact ⟨s, m, k, ns, by rw [upd_ne (Ne.symm n.1)]; exact h1, by rw [upd_ne (Ne.symm n.2)]; exact h2, h3⟩
theorem Deal.noT {H : Hp} {d l : Addr} (h : Deal H d l) : ∀ x ∈ [d, l], NoT H x := by
  obtain ⟨s, m, k, ns, h1, h2, h3⟩ := h.ex
  intro x hx
  rcases List.mem_cons.mp hx with rfl | hx
  · exact not_dK h1
  · rw [List.mem_singleton.mp hx]
    exact not_lst h2
def t_paces (K : PySem.W.Frag) (sp_draw : Sp) : TS :=
  tSeq (tAsg (tLst (tCons (tC (.int 2)) (tCons (tC (.int 9)) (tCons (tC (.int 400)) (tCons (tOp qFdiv (tC (.int 2000)) (tCB (qMax2) (tCons (tC (.int 1)) (tCons (tOp qSub (tVar 1) (tC (.int 1))) (tNil))))) (tNil)))))) (gName 2))
    (tSeq (tAsg (tLc (iRng1 (tCons (tOp qSub (tVar 1) (tC (.int 1))) (tNil))) (gName 6) (tYes) (tOp qAdd (tC (.int 1)) (tCall sp_draw [] E0 (tCons (tVar 0) (tCons (tOp (rIxL K) (tVar 2) (tCall sp_draw [] E0 (tCons (tVar 0) (tCons (tC (.int 4)) (tNil))))) (tNil))))) [6]) (gName 3))
    (tSeq (tAsg (tLst (tCons (tOp qSub (tCall sp_draw [] E0 (tCons (tVar 0) (tCons (tOp qSub (tC (.int 2001)) (tCB (rSum K) (tCons (tVar 3) (tNil)))) (tNil)))) (tC (.int 1000))) (tNil))) (gName 4))
    (tSeq (tFor (iList K (tVar 3)) (gName 5) (tDrop (tBM K "list" rAppend (tVar 4) (tCons (tOp qAdd (tOp (rIxL K) (tVar 4) (tUn qNeg (tC (.int 1)))) (tVar 5)) (tNil)))))
    (tRet (tCB (qTupleOf K) (tCons (tVar 4) (tNil)))))))
theorem pure_paces {K : PySem.W.Frag} (vs : List V) (H : Hp) (Q : VK) (E : XK) (h : sp_paces K vs H Q E) : t_paces K sp_draw (EndsQ Q) (sN 7 vs) H := by
  obtain ⟨d, l, m, rfl, m1, m5, hD, k⟩ := h
  show t_paces K sp_draw _ [some (.ref d), some (.int m), none, none, none, none, none] H
  have hM : 1 ≤ (if m - 1 > 1 then m - 1 else 1) ∧ (if m - 1 > 1 then m - 1 else 1) ≤ 4 := by split <;> omega
  generalize hMe : (if m - 1 > 1 then m - 1 else 1) = M at hM
  refine ⟨_, rfl, _, _, rfl, rfl, _, _, rfl, ?_⟩
  rw [hMe]
  refine ⟨_, _, rfl, rfl, ⟨by omega, by omega⟩, (by show 4 ≤ sizeLine; decide), fun W hW => ?_⟩
  have nW := hD.ne hW
  refine ⟨_, rfl, _, _, rfl, rfl, m - 1, rfl, by omega, by omega, fun D hDn => ?_⟩
  have hDW : W ≠ D := ne_of_none upd_same hDn
  have hD0 : H D = none := by rw [upd_ne (Ne.symm hDW)] at hDn; exact hDn
  have nD := hD.ne hD0
  have hB : 500 ≤ 2000 / M ∧ (m - 1) * (2000 / M) ≤ 2000 ∧ 2000 / M ≤ 2000 := by
    have hm : m = 1 ∨ m = 2 ∨ m = 3 ∨ m = 4 ∨ m = 5 := by omega
    rcases hm with rfl | rfl | rfl | rfl | rfl <;> (simp at hMe; subst hMe; decide)
  obtain ⟨B, hBe⟩ : ∃ B, B = 2000 / M := ⟨_, rfl⟩
  rw [← hBe] at hB
  refine lc_range (lo := 0) (n := (m - 1).toNat) (fun i H1 => But [d, l] H H1 ∧ Deal H1 d l ∧ H1 W = some (.lst [.int 2, .int 9, .int 400, .int B]) ∧ ∃ ns : List Int, H1 D = some (.lst (ns.map V.int)) ∧ ns.length = i ∧ ∀ x ∈ ns, 1 ≤ x ∧ x ≤ B) ?_ ?_ ?_
  · exact ⟨((But.refl _ _).new hW).new hD0, (hD.upd nW).upd nD, by rw [upd_ne hDW, hBe]; exact upd_same, [], upd_same, rfl, fun x hx => (List.not_mem_nil hx).elim⟩
  · rintro i H1 hi ⟨b1, d1, w1, ns, l1, ln, hns⟩
    refine ⟨rfl, ?_⟩
    simp only [tYes, ↓reduceIte]
    refine ⟨_, rfl, _, rfl, _, rfl, d, l, 4, rfl, by decide, by decide, d1, fun q H2 q0 q4 b2 d2 => ?_⟩
    have w2 := b2.at nW w1
    have l2 := b2.at nD l1
    have hq : ∃ z, atI [V.int 2, .int 9, .int 400, .int B] q = some (.int z) ∧ 1 ≤ z ∧ z ≤ B := by
      have hq : q = 0 ∨ q = 1 ∨ q = 2 ∨ q = 3 := by omega
      rcases hq with rfl | rfl | rfl | rfl
      · exact ⟨2, rfl, by omega, by omega⟩
      · exact ⟨9, rfl, by omega, by omega⟩
      · exact ⟨400, rfl, by omega, by omega⟩
      · exact ⟨B, rfl, by omega, by omega⟩
    obtain ⟨z, hz, z1, zB⟩ := hq
    refine ⟨W, _, q, .int z, rfl, rfl, SqL.of w2, hz, d, l, z, rfl, by omega, ?_, d2, fun r H3 r0 r1 b3 d3 => ?_⟩
    · omega
    have w3 := b3.at nW w2
    have l3 := b3.at nD l2
    refine ⟨_, _, rfl, rfl, _, l3, ?_, ?_⟩
    · rw [List.length_map, ln]
      exact Nat.lt_of_le_of_lt (show i ≤ 4 by omega) (by decide)
    · refine ⟨((b1.trans b2).trans b3).new hD0, d3.upd nD, by rw [upd_ne hDW]; exact w3, ns ++ [1 + r], ?_, by simp [ln], fun x hx => ?_⟩
      · rw [upd_same, List.map_append]
        rfl
      · rcases List.mem_append.mp hx with hx | hx
        · exact hns x hx
        · rw [List.mem_singleton.mp hx]
          omega
  · rintro H1 ⟨b1, d1, w1, ns, l1, ln, hns⟩
    have hsum := sum_bounds hns
    have hln : (ns.length : Int) = m - 1 := by omega
    rw [hln] at hsum
    refine ⟨_, rfl, _, rfl, D, ns, rfl, SqL.of l1, _, _, rfl, rfl, d, l, _, rfl, by omega, by omega, d1, fun r H2 r0 r1 b2 d2 => ?_⟩
    refine ⟨_, _, rfl, rfl, (by show 1 ≤ sizeLine; decide), fun F hF => ?_⟩
    have l2 := b2.at nD l1
    have hFD : F ≠ D := fun z => by rw [z, l2] at hF; cases hF
    have nF := d2.ne hF
    have hF0 : H F = none := by
      cases e : H F with
      | none => rfl
      | some o => rw [b2.at nF (b1.at nF e)] at hF; cases hF
    have hne1 : ∀ x ∈ ns, 1 ≤ x := fun x hx => (hns x hx).1
    refine ⟨_, rfl, D, rfl, ⟨_, SqL.of (by rw [upd_ne (Ne.symm hFD)]; exact l2)⟩, for_list (K := K) (a := D) (xs := ns.map V.int) (fun i σ H3 => ∃ s5 : Option V, σ = [some (.ref d), some (.int m), some (.ref W), some (.ref D), some (.ref F), s5, none] ∧ But [d, l] H H3 ∧ Deal H3 d l ∧ H3 D = some (.lst (ns.map V.int)) ∧ H3 F = some (.lst ((scan (r - 1000) (ns.take i)).map V.int))) ?_ ?_ ?_ ?_⟩
    · exact ⟨_, rfl, (b1.trans b2).new hF0, d2.upd nF, by rw [upd_ne (Ne.symm hFD)]; exact l2, upd_same⟩
    · rintro i σ H3 _ ⟨_, _, _, _, h3, _⟩
      exact SqL.of h3
    · rintro i x σ H3 hx ⟨s5, rfl, b3, d3, l3, f3⟩
      rw [List.getElem?_map] at hx
      obtain ⟨z, hz, rfl⟩ := Option.map_eq_some_iff.mp hx
      have hlt : i < ns.length := (List.getElem?_eq_some_iff.mp hz).1
      have etk : ns.take (i + 1) = ns.take i ++ [z] := by rw [List.take_add_one, hz]; rfl
      have elen : (ns.take i).length = i := by rw [List.length_take]; omega
      have eat : atI ((scan (r - 1000) (ns.take i)).map V.int) (-1) = some (.int (r - 1000 + (ns.take i).sum)) := by
        rw [atI_neg1 (by rw [List.length_map, scan_len]; exact Nat.succ_pos _), List.getElem?_map, List.length_map, scan_len, Nat.add_sub_cancel, scan_last]
        rfl
      refine ⟨_, rfl, .inl ⟨rfl, _, SqL.of f3⟩, _, rfl, _, rfl, F, _, -1, _, rfl, rfl, SqL.of f3, eat, _, rfl, _, _, rfl, rfl, F, _, _, rfl, rfl, f3, ?_, ?_⟩
      · rw [List.length_map, scan_len, elen]
        exact Nat.lt_of_le_of_lt (show i + 1 ≤ 5 by omega) (by decide)
      · refine ⟨some (.int z), rfl, b3.new hF0, d3.upd nF, by rw [upd_ne (Ne.symm hFD)]; exact l3, ?_⟩
        rw [upd_same, etk, scan_app, List.map_append]
        rfl
    · rintro σ H3 ⟨s5, rfl, b3, d3, l3, f3⟩
      rw [List.length_map, List.take_length] at f3
      refine ⟨_, rfl, F, _, rfl, .inl ⟨SqL.of f3, fun T hT => ?_⟩⟩
      have nT := d3.ne hT
      have hT0 : H T = none := by
        cases e : H T with
        | none => rfl
        | some o => rw [b3.at nT e] at hT; cases hT
      refine k _ (scan (r - 1000) ns) _ (b3.new hT0) (d3.upd nT) (.tup (SqT.of upd_same) (dp_ints _)) ⟨by rw [scan_len]; omega, scan_rise hne1, fun p hp => ?_⟩
      have := scan_mem hne1 hp
      omega
theorem erase_map {α β : Type} (f : α → β) : ∀ (l : List α) (k : Nat), (l.eraseIdx k).map f = (l.map f).eraseIdx k
  | [], _ => rfl
  | _ :: _, 0 => rfl
  | x :: l, k + 1 => by simp [erase_map f l k]
theorem erase_perm {α : Type} : ∀ {l : List α} {k : Nat} (h : k < l.length), (l[k] :: l.eraseIdx k).Perm l
  | [], _, h => absurd h (Nat.not_lt_zero _)
  | x :: l, 0, _ => .refl _
  | x :: l, k + 1, h => by
    have ih := erase_perm (l := l) (k := k) (by simpa using h)
    simp only [List.getElem_cons_succ, List.eraseIdx_cons_succ]
    exact (List.Perm.swap x _ _).trans (ih.cons x)
/-! ### _law_mixed -/
def iota (n : Int) : List Int := (List.range n.toNat).map fun (i : Nat) => (i : Int)
theorem rgV_iota (n : Int) : rgV 0 n = (iota n).map V.int := by
  unfold rgV iota
  rw [List.map_map, Int.sub_zero]
  apply List.map_congr_left
  intro a _
  show V.int (0 + (a : Int)) = V.int (a : Int)
  rw [Int.zero_add]
def sp_mixed : Sp := fun vs H Q _ => ∃ (d l : Addr) (n : Int), vs = [.ref d, .int n] ∧ 0 ≤ n ∧ n ≤ 1000 ∧ Deal H d l ∧
  ∀ (F : Addr) (ns : List Int) (H' : Hp), But [d, l] H H' → Deal H' d l → H F = none → H' F = some (.lst (ns.map V.int)) → ns.Perm (iota n) → Q (.ref F) H'
theorem But.none_of {H H' : Hp} {d l p : Addr} (b : But [d, l] H H') (n : p ≠ d ∧ p ≠ l) (h : H' p = none) : H p = none := by
  cases e : H p with
  | none => rfl
  | some o => rw [b.at n e] at h; cases h
theorem seqIx {k : Int} {n : Nat} (h0 : 0 ≤ k) (h1 : k < n) : seqIndex? k n = some k.toNat := by
  unfold seqIndex?
  have e : (if k < 0 then k + (n : Int) else k) = k := if_neg (by omega)
  simp only [e]
  rw [if_pos (by simp; omega)]
def t_mixed (K : PySem.W.Frag) (sp_draw : Sp) : TS :=
  tSeq (tPar 3 4 (tCons (tLstRg (tRg1 (tVar 1))) (tCons (tLst (tNil)) (tNil))))
    (tSeq (tFor (iRng1 (tCons (tVar 1) (tNil))) (gName 2) (tDrop (tBM K "list" rAppend (tVar 4) (tCons (tBM K "list" rPopAt (tVar 3) (tCons (tCall sp_draw [] E0 (tCons (tVar 0) (tCons (tCB (qLen K) (tCons (tVar 3) (tNil))) (tNil)))) (tNil))) (tNil)))))
    (tRet (tVar 4)))
theorem pure_mixed {K : PySem.W.Frag} (vs : List V) (H : Hp) (Q : VK) (E : XK) (h : sp_mixed vs H Q E) : t_mixed K sp_draw (EndsQ Q) (sN 5 vs) H := by
  obtain ⟨d, l, n, rfl, n0, n1, hD, k⟩ := h
  show t_mixed K sp_draw _ [some (.ref d), some (.int n), none, none, none] H
  refine ⟨_, rfl, n, rfl, ⟨by decide, by decide, by omega, by omega, by omega⟩, fun L hL => ?_⟩
  rw [rgV_iota]
  refine ⟨(by show 0 ≤ sizeLine; decide), fun F hF => ⟨_, _, rfl, ?_⟩⟩
  have nL := hD.ne hL
  have hLF : L ≠ F := ne_of_none upd_same hF
  have hF0 : H F = none := by rw [upd_ne (Ne.symm hLF)] at hF; exact hF
  have nF := hD.ne hF0
  have li : (iota n).length = n.toNat := by unfold iota; rw [List.length_map, List.length_range]
  refine ⟨_, rfl, n, rfl, by omega, by omega, for_range (lo := 0) (n := n.toNat) (fun i σ H1 => ∃ (s2 : Option V) (ls fs : List Int), σ = [some (.ref d), some (.int n), s2, some (.ref L), some (.ref F)] ∧ But [d, l] H H1 ∧ Deal H1 d l ∧ H1 L = some (.lst (ls.map V.int)) ∧ H1 F = some (.lst (fs.map V.int)) ∧ fs.length = i ∧ (fs ++ ls).Perm (iota n)) ?_ ?_ ?_⟩
  · exact ⟨none, iota n, [], rfl, ((But.refl _ _).new hL).new hF0, (hD.upd nL).upd nF, by rw [upd_ne hLF]; exact upd_same, upd_same, rfl, .refl _⟩
  · rintro i σ H1 hi ⟨s2, ls, fs, rfl, b1, d1, l1, f1, fl, hp⟩
    have hlen : fs.length + ls.length = n.toNat := by rw [← li, ← hp.length_eq, List.length_append]
    refine ⟨_, rfl, .inl ⟨rfl, _, SqL.of f1⟩, _, rfl, .inl ⟨rfl, _, SqL.of l1⟩, _, rfl, _, rfl, _, (ls.map V.int).length, rfl, .inl ⟨_, SqL.of l1, rfl⟩, d, l, _, rfl, by rw [List.length_map]; omega, by rw [List.length_map]; omega, d1, fun q H2 q0 q1 b2 d2 => ?_⟩
    have l2 := b2.at nL l1
    have f2 := b2.at nF f1
    rw [List.length_map] at q1
    have hq : q.toNat < ls.length := by omega
    refine ⟨L, _, q, q.toNat, .int ls[q.toNat], rfl, rfl, l2, by omega, by omega, by rw [List.length_map]; exact seqIx q0 q1, by rw [List.getElem?_map, List.getElem?_eq_getElem hq]; rfl, F, _, _, rfl, rfl, by rw [upd_ne (Ne.symm hLF)]; exact f2, ?_, ?_⟩
    · rw [List.length_map, fl]
      exact Nat.lt_of_le_of_lt (show i ≤ 1000 by omega) (by decide)
    · refine ⟨some (.int (0 + i)), ls.eraseIdx q.toNat, fs ++ [ls[q.toNat]], rfl, ((b1.trans b2).new hL).new hF0, (d2.upd nL).upd nF, ?_, ?_, by simp [fl], ?_⟩
      · rw [upd_ne hLF, upd_same, erase_map]
      · rw [upd_same, List.map_append]
        rfl
      · refine List.Perm.trans ?_ hp
        rw [List.append_assoc]
        exact List.Perm.append_left fs (erase_perm hq)
  · rintro σ H1 ⟨s2, ls, fs, rfl, b1, d1, l1, f1, fl, hp⟩
    have hlen : fs.length + ls.length = n.toNat := by rw [← li, ← hp.length_eq, List.length_append]
    have : ls = [] := List.length_eq_zero_iff.mp (by omega)
    subst this
    rw [List.append_nil] at hp
    exact ⟨_, rfl, k F fs H1 b1 d1 hF0 f1 hp⟩
end Wf
/-! Tables: lists of lists of pairs. -/
namespace Wf
open PySem PySem.Spec L2
abbrev Tab : Type := List (Int × Int)
def InP (s : Int) (p : Int × Int) : Prop := 0 ≤ p.1 ∧ p.1 < s ∧ 0 ≤ p.2 ∧ p.2 < s
structure TabOk (s : Int) (t : Tab) : Prop where
  len : (t.length : Int) = s * s
  inn : ∀ p ∈ t, InP s p
structure TabAt (K : PySem.W.Frag) (H : Hp) (l : Addr) (t : Tab) : Prop where
  ex : ∃ vs, H l = some (.lst vs) ∧ DpAll K H vs (t.map dP)
theorem noLAll_dP : ∀ t : Tab, noLAll (t.map dP) = true
  | [] => rfl
  | p :: t => by simp [noLAll, noL_dP, noLAll_dP t]
theorem TabAt.keep {K : PySem.W.Frag} {H H' : Hp} {l : Addr} {t : Tab} (h : TabAt K H l t) (hl : ∀ o, H l = some o → H' l = some o) (tp : Tp K H H') : TabAt K H' l t := by
  obtain ⟨vs, h1, h2⟩ := h.ex
  exact ⟨vs, hl _ h1, DpAll.tp tp _ _ (noLAll_dP t) h2⟩
theorem pr_mono {α β : Type} {F G : α → β → Prop} : ∀ {as : List α} {bs : List β}, Paired F as bs → (∀ a b, a ∈ as → F a b → G a b) → Paired G as bs
  | _, _, .nil, _ => .nil
  | _, _, .cons h t, k => .cons (k _ _ List.mem_cons_self h) (pr_mono t fun a b ha => k a b (List.mem_cons_of_mem _ ha))
theorem pr_app {α β : Type} {F : α → β → Prop} : ∀ {as cs : List α} {bs ds : List β}, Paired F as bs → Paired F cs ds → Paired F (as ++ cs) (bs ++ ds)
  | _, _, _, _, .nil, h => h
  | _, _, _, _, .cons h t, k => .cons h (pr_app t k)
theorem pr_get {α β : Type} {F : α → β → Prop} : ∀ {as : List α} {bs : List β} {i : Nat} {a : α}, Paired F as bs → as[i]? = some a → ∃ b, bs[i]? = some b ∧ F a b
  | _, _, _, _, .nil, e => by simp at e
  | _, _, 0, _, .cons h _, e => by simp at e; subst e; exact ⟨_, rfl, h⟩
  | _, _, i + 1, _, .cons _ t, e => by
    obtain ⟨b, h1, h2⟩ := pr_get (i := i) t (by simpa using e)
    exact ⟨b, by simpa using h1, h2⟩
theorem pr_len {α β : Type} {F : α → β → Prop} : ∀ {as : List α} {bs : List β}, Paired F as bs → as.length = bs.length
  | _, _, .nil => rfl
  | _, _, .cons _ t => congrArg (· + 1) (pr_len t)
/-- tables that were made since H: the list of them at F, they themselves at ls -/
structure Tabs (K : PySem.W.Frag) (H H1 : Hp) (F : Addr) (ls : List Addr) (ts : List Tab) : Prop where
  lst : H1 F = some (.lst (ls.map V.ref))
  tab : Paired (TabAt K H1) ls ts
  nd : (F :: ls).Nodup
  newF : H F = none
  newL : ∀ x ∈ ls, H x = none
section
variable {K : PySem.W.Frag} {H H1 H2 : Hp} {F d l : Addr} {ls : List Addr} {ts : List Tab}
theorem Tabs.keep (t : Tabs K H H1 F ls ts) (hk : ∀ x o, x ∈ F :: ls → H1 x = some o → H2 x = some o) (tp : Tp K H1 H2) : Tabs K H H2 F ls ts :=
  ⟨hk _ _ List.mem_cons_self t.lst, pr_mono t.tab fun a b ha h => h.keep (fun o e => hk a o (List.mem_cons_of_mem _ ha) e) tp, t.nd, t.newF, t.newL⟩
theorem Tabs.but (t : Tabs K H H1 F ls ts) (hD : Deal H d l) (d1 : Deal H1 d l) (b : But [d, l] H1 H2) : Tabs K H H2 F ls ts :=
  t.keep (fun x o hx e => b.at (hD.ne (by
    rcases List.mem_cons.mp hx with rfl | hx
    · exact t.newF
    · exact t.newL x hx)) e) (b.tp d1.noT)
theorem Tabs.same (t : Tabs K H H1 F ls ts) (s : Same H1 H2) : Tabs K H H2 F ls ts := t.keep (fun x o _ e => s x o e) (Same.tp s)
theorem Tabs.notIn {D : Addr} (ht : Tabs K H H1 F ls ts) (hDn : H1 D = none) : D ∉ F :: ls := fun z => by
  rcases List.mem_cons.mp z with rfl | z
  · rw [ht.lst] at hDn
    cases hDn
  · obtain ⟨i, hi⟩ := List.mem_iff_getElem?.mp z
    obtain ⟨_, _, h2⟩ := pr_get ht.tab hi
    obtain ⟨_, h3, _⟩ := h2.ex
    rw [h3] at hDn
    cases hDn
theorem Tabs.len (t : Tabs K H H1 F ls ts) : ls.length = ts.length := pr_len t.tab
/-- one more table -/
theorem Tabs.push {D : Addr} {t : Tab} (ht : Tabs K H H1 F ls ts) (h : TabAt K H1 D t) (hD : D ∉ F :: ls) (hn : H D = none) : Tabs K H (upd H1 F (.lst (ls.map V.ref ++ [.ref D]))) F (ls ++ [D]) (ts ++ [t]) := by
  have tp : Tp K H1 (upd H1 F (.lst (ls.map V.ref ++ [.ref D]))) := tp_upd (not_lst ht.lst)
  have hF := (List.nodup_cons.mp ht.nd).1
  refine ⟨by rw [upd_same, List.map_append]; rfl, pr_app (pr_mono ht.tab fun a b ha k => k.keep (fun o e => ?_) tp) (.cons (h.keep (fun o e => ?_) tp) .nil), ?_, ht.newF, fun x hx => ?_⟩
  · rw [upd_ne (show a ≠ F from fun z => hF (z ▸ ha))]
    exact e
  · rw [upd_ne (show D ≠ F from fun z => hD (by rw [z]; exact List.mem_cons_self))]
    exact e
  · have e : (F :: (ls ++ [D])) = (F :: ls) ++ [D] := rfl
    rw [e, List.nodup_append]
    exact ⟨ht.nd, by simp, fun a ha b hb => by rw [List.mem_singleton.mp hb]; exact fun z => hD (z ▸ ha)⟩
  · rcases List.mem_append.mp hx with hx | hx
    · exact ht.newL x hx
    · rw [List.mem_singleton.mp hx]
      exact hn
theorem nodup_set {α : Type} {x : α} : ∀ {l : List α} {i : Nat}, l.Nodup → x ∉ l → (l.set i x).Nodup
  | [], _, h, _ => h
  | a :: l, 0, h, hx => List.nodup_cons.mpr ⟨fun z => hx (List.mem_cons_of_mem _ z), (List.nodup_cons.mp h).2⟩
  | a :: l, i + 1, h, hx => by
    have h1 := List.nodup_cons.mp h
    refine List.nodup_cons.mpr ⟨fun z => ?_, nodup_set h1.2 fun z => hx (List.mem_cons_of_mem _ z)⟩
    rcases List.mem_or_eq_of_mem_set z with z | z
    · exact h1.1 z
    · exact hx (z ▸ List.mem_cons_self)
theorem pr_set {α β : Type} {F : α → β → Prop} {a : α} {b : β} (h : F a b) : ∀ {as : List α} {bs : List β} (i : Nat), Paired F as bs → Paired F (as.set i a) (bs.set i b)
  | _, _, _, .nil => .nil
  | _, _, 0, .cons _ t => .cons h t
  | _, _, i + 1, .cons k t => .cons k (pr_set h i t)
/-- one table for another -/
theorem Tabs.put {D : Addr} {t : Tab} {j : Nat} (ht : Tabs K H H1 F ls ts) (h : TabAt K H1 D t) (hD : D ∉ F :: ls) (hn : H D = none) : Tabs K H (upd H1 F (.lst ((ls.map V.ref).set j (.ref D)))) F (ls.set j D) (ts.set j t) := by
  have tp : Tp K H1 (upd H1 F (.lst ((ls.map V.ref).set j (.ref D)))) := tp_upd (not_lst ht.lst)
  have hF := (List.nodup_cons.mp ht.nd)
  have hDF : D ≠ F := fun z => hD (by rw [z]; exact List.mem_cons_self)
  have hDl : D ∉ ls := fun z => hD (List.mem_cons_of_mem _ z)
  refine ⟨by rw [upd_same, List.map_set], pr_set (h.keep (fun o e => by rw [upd_ne hDF]; exact e) tp) j (pr_mono ht.tab fun a b ha k => k.keep (fun o e => ?_) tp), ?_, ht.newF, fun x hx => ?_⟩
  · rw [upd_ne (show a ≠ F from fun z => hF.1 (z ▸ ha))]
    exact e
  · refine List.nodup_cons.mpr ⟨fun z => ?_, nodup_set hF.2 hDl⟩
    rcases List.mem_or_eq_of_mem_set z with z | z
    · exact hF.1 z
    · exact hDF z.symm
  · rcases List.mem_or_eq_of_mem_set hx with hx | hx
    · exact ht.newL x hx
    · rw [hx]
      exact hn
def dTs (ts : List Tab) : PyData := .list (ts.map fun t => .list (t.map dP))
theorem Tabs.dp (ht : Tabs K H H1 F ls ts) : Dp K H1 (.ref F) (dTs ts) := by
  refine .lst (SqL.of ht.lst) ?_
  have := ht.tab
  clear ht
  induction this with
  | nil => exact .nil
  | cons h _ ih =>
    obtain ⟨vs, e1, e2⟩ := h.ex
    exact .cons (.lst (SqL.of e1) e2) ih
end
/-! ### [(draw(size), draw(size)) for n in range(size * size)] -/
theorem lc_drawn {K : PySem.W.Frag} {σ : St} {H : Hp} {d l : Addr} {s : Int} {v : Nat} {Q : VK} (h0 : ∀ x, ((wipe σ [v]).set v x)[0]? = some (some (.ref d))) (h2 : ∀ x, ((wipe σ [v]).set v x)[2]? = some (some (.int s))) (h2' : σ[2]? = some (some (.int s)))
    (hw : ∀ x, wipe ((wipe σ [v]).set v x) [v] = wipe σ [v]) (s1 : 1 ≤ s) (s6 : s ≤ 6) (hD : Deal H d l)
    (q : ∀ (D : Addr) (H' : Hp) (t : Tab), H D = none → But [d, l] H H' → Deal H' d l → TabAt K H' D t → TabOk s t → Q (.ref D) H') :
    tLc (iRng1 (tCons (tOp qMul (tVar 2) (tVar 2)) (tNil))) (gName v) (tYes) (tTup (tCons (tCall sp_draw [] E0 (tCons (tVar 0) (tCons (tVar 2) (tNil)))) (tCons (tCall sp_draw [] E0 (tCons (tVar 0) (tCons (tVar 2) (tNil)))) (tNil)))) [v] σ H Q := by
  have hss : 1 ≤ s * s ∧ s * s ≤ 36 := by
    have : s = 1 ∨ s = 2 ∨ s = 3 ∨ s = 4 ∨ s = 5 ∨ s = 6 := by omega
    rcases this with rfl | rfl | rfl | rfl | rfl | rfl <;> decide
  refine ⟨_, h2', _, h2', _, _, rfl, rfl, .inl ⟨by omega, by omega⟩, s * s, rfl, by omega, by omega, fun D hDn => ?_⟩
  have nD := hD.ne hDn
  refine lc_range (lo := 0) (n := (s * s).toNat) (fun i H1 => But [d, l] H H1 ∧ Deal H1 d l ∧ ∃ t : Tab, TabAt K H1 D t ∧ t.length = i ∧ ∀ p ∈ t, InP s p) ?_ ?_ ?_
  · exact ⟨(But.refl _ _).new hDn, hD.upd nD, [], ⟨[], upd_same, .nil⟩, rfl, fun p hp => (List.not_mem_nil hp).elim⟩
  · rintro i H1 hi ⟨b1, d1, t, ht, hl, hin⟩
    refine ⟨hw _, ?_⟩
    simp only [tYes, ↓reduceIte]
    refine ⟨_, h0 _, _, h2 _, d, l, s, rfl, by omega, by omega, d1, fun a H2 a0 a1 b2 d2 => ?_⟩
    refine ⟨_, h0 _, _, h2 _, d, l, s, rfl, by omega, by omega, d2, fun b H3 c0 c1 b3 d3 => ?_⟩
    refine ⟨(by show 2 ≤ sizeLine; decide), fun p hp => ?_⟩
    have b13 := b2.trans b3
    obtain ⟨vs, e1, e2⟩ := (ht.keep (fun o e => b13.at nD e) (b13.tp d1.noT)).ex
    have np := d3.ne hp
    have hpD : D ≠ p := ne_of_none e1 hp
    have e1' : upd H3 p (.tup [.int a, .int b]) D = some (.lst vs) := by rw [upd_ne hpD]; exact e1
    refine ⟨vs, e1', ?_, ?_⟩
    · rw [DpAll.len e2, List.length_map, hl]
      exact Nat.lt_of_le_of_lt (show i ≤ 36 by omega) (by decide)
    · have hp0 : H p = none := (b1.trans b13).none_of np hp
      refine ⟨((b1.trans b13).new hp0).new hDn, (d3.upd np).upd nD, t ++ [(a, b)], ⟨vs ++ [.ref p], upd_same, ?_⟩, by simp [hl], fun x hx => ?_⟩
      · rw [List.map_append]
        have tp1 : Tp K H3 (upd H3 p (.tup [.int a, .int b])) := Same.tp (same_new hp)
        have tp2 : Tp K (upd H3 p (.tup [.int a, .int b])) (upd (upd H3 p (.tup [.int a, .int b])) D (.lst (vs ++ [.ref p]))) := tp_upd (not_lst e1')
        refine DpAll.append (DpAll.tp (tp1.trans tp2) _ _ (noLAll_dP t) e2) (.cons (dP_new ?_) .nil)
        rw [upd_ne (Ne.symm hpD)]
        exact upd_same
      · rcases List.mem_append.mp hx with hx | hx
        · exact hin x hx
        · rw [List.mem_singleton.mp hx]
          exact ⟨a0, a1, c0, c1⟩
  · rintro H1 ⟨b1, d1, t, ht, hl, hin⟩
    exact q D H1 t hDn b1 d1 ht ⟨by omega, hin⟩
theorem st_asg {te : TE} {g : TG} {D : Ends} {σ : St} {H : Hp} (h : te σ H fun x H1 => g x σ H1 D.nx) : tAsg te g D σ H := h
/-! ### _law_any -/
def nT (m : Int) : Int := m * (m - 1) / 2
/-- tables are told, new ones, by what R says of them -/
def GiveT (K : PySem.W.Frag) (d l : Addr) (H : Hp) (Q : VK) (R : List Tab → Prop) : Prop := ∀ (F : Addr) (ls : List Addr) (ts : List Tab) (H' : Hp), But [d, l] H H' → Deal H' d l → Tabs K H H' F ls ts → R ts → Q (.ref F) H'
structure AllOk (m s : Int) (ts : List Tab) : Prop where
  len : (ts.length : Int) = nT m
  ok : ∀ t ∈ ts, TabOk s t
def sp_any (K : PySem.W.Frag) : Sp := fun vs H Q _ => ∃ (d l : Addr) (m s : Int), vs = [.ref d, .int m, .int s] ∧ 1 ≤ m ∧ m ≤ 5 ∧ 1 ≤ s ∧ s ≤ 6 ∧ Deal H d l ∧ GiveT K d l H Q (AllOk m s)
theorem nT_le {m : Int} (h1 : 1 ≤ m) (h5 : m ≤ 5) : 0 ≤ nT m ∧ nT m ≤ 10 := by
  have : m = 1 ∨ m = 2 ∨ m = 3 ∨ m = 4 ∨ m = 5 := by omega
  rcases this with rfl | rfl | rfl | rfl | rfl <;> decide
def t_any (K : PySem.W.Frag) (sp_draw : Sp) : TS :=
  tSeq (tAsg (tLst (tNil)) (gName 3))
    (tSeq (tFor (iRng1 (tCons (tOp qFdiv (tOp qMul (tVar 1) (tOp qSub (tVar 1) (tC (.int 1)))) (tC (.int 2))) (tNil))) (gName 4) (tDrop (tBM K "list" rAppend (tVar 3) (tCons (tLc (iRng1 (tCons (tOp qMul (tVar 2) (tVar 2)) (tNil))) (gName 5) (tYes) (tTup (tCons (tCall sp_draw [] E0 (tCons (tVar 0) (tCons (tVar 2) (tNil)))) (tCons (tCall sp_draw [] E0 (tCons (tVar 0) (tCons (tVar 2) (tNil)))) (tNil)))) [5]) (tNil)))))
    (tRet (tVar 3)))
theorem pure_any {K : PySem.W.Frag} (vs : List V) (H : Hp) (Q : VK) (E : XK) (h : sp_any K vs H Q E) : t_any K sp_draw (EndsQ Q) (sN 6 vs) H := by
  obtain ⟨d, l, m, s, rfl, m1, m5, s1, s6, hD, k⟩ := h
  show t_any K sp_draw _ [some (.ref d), some (.int m), some (.int s), none, none, none] H
  refine ⟨(by show 0 ≤ sizeLine; decide), fun F hF => ?_⟩
  have nF := hD.ne hF
  have hn := nT_le m1 m5
  refine ⟨_, rfl, _, rfl, _, _, rfl, rfl, _, _, rfl, rfl, .inl ⟨by omega, by omega⟩, _, _, rfl, rfl, ⟨by decide, by decide⟩, nT m, rfl, by omega, by omega,
    for_range (lo := 0) (n := (nT m).toNat) (fun i σ H1 => ∃ (s4 : Option V) (ls : List Addr) (ts : List Tab), σ = [some (.ref d), some (.int m), some (.int s), some (.ref F), s4, none] ∧ But [d, l] H H1 ∧ Deal H1 d l ∧ Tabs K H H1 F ls ts ∧ ts.length = i ∧ ∀ t ∈ ts, TabOk s t) ?_ ?_ ?_⟩
  · exact ⟨none, [], [], rfl, (But.refl _ _).new hF, hD.upd nF, ⟨upd_same, .nil, by simp, hF, fun x hx => (List.not_mem_nil hx).elim⟩, rfl, fun t ht => (List.not_mem_nil ht).elim⟩
  · rintro i σ H1 hi ⟨s4, ls, ts, rfl, b1, d1, ht, hl, hok⟩
    refine ⟨_, rfl, .inl ⟨rfl, _, SqL.of ht.lst⟩, ?_⟩
    refine lc_drawn (K := K) (d := d) (l := l) (s := s) (fun _ => rfl) (fun _ => rfl) rfl (fun _ => rfl) s1 s6 d1 fun D H2 t hDn b2 d2 tt tok => ?_
    have t2 := ht.but hD d1 b2
    have nD := d1.ne hDn
    have hD0 : H D = none := b1.none_of nD hDn
    have hm : D ∉ F :: ls := ht.notIn hDn
    refine ⟨F, _, _, rfl, rfl, t2.lst, ?_, ?_⟩
    · rw [List.length_map, ht.len, hl]
      exact Nat.lt_of_le_of_lt (show i ≤ 10 by omega) (by decide)
    · refine ⟨some (.int (0 + i)), ls ++ [D], ts ++ [t], rfl, (b1.trans b2).new hF, d2.upd nF, t2.push tt hm hD0, by simp [hl], fun x hx => ?_⟩
      rcases List.mem_append.mp hx with hx | hx
      · exact hok x hx
      · rw [List.mem_singleton.mp hx]
        exact tok
  · rintro σ H1 ⟨s4, ls, ts, rfl, b1, d1, ht, hl, hok⟩
    exact ⟨_, rfl, k F ls ts H1 b1 d1 ht ⟨by omega, hok⟩⟩
/-! ### _law_plain -/
def tabF (f s : Int) (st : Int × Int) : Tab := (iota (s * s)).map fun n => pairF f s st (n / s) (n % s)
/-- by plain rules: one form for all tables; or keeping ones, and one any -/
inductive PlainT (m s : Int) : List Tab → Prop
  | all (f : Int) (sts : List (Int × Int)) : 0 ≤ f → f ≤ 4 → (sts.length : Int) = nT m → (∀ x ∈ sts, InP s x) → PlainT m s (sts.map (tabF f s))
  | one (sts : List (Int × Int)) (i : Nat) (t : Tab) : (sts.length : Int) = nT m → i < sts.length → TabOk s t → PlainT m s ((sts.map (tabF 0 s)).set i t)
def sp_plain (K : PySem.W.Frag) : Sp := fun vs H Q _ => ∃ (d l : Addr) (m s : Int), vs = [.ref d, .int m, .int s] ∧ 1 ≤ m ∧ m ≤ 5 ∧ 1 ≤ s ∧ s ≤ 6 ∧ Deal H d l ∧ GiveT K d l H Q (PlainT m s)
theorem ss_le {s : Int} (s1 : 1 ≤ s) (s6 : s ≤ 6) : 1 ≤ s * s ∧ s * s ≤ 36 := by
  have : s = 1 ∨ s = 2 ∨ s = 3 ∨ s = 4 ∨ s = 5 ∨ s = 6 := by omega
  rcases this with rfl | rfl | rfl | rfl | rfl | rfl <;> decide
theorem iota_succ (i : Nat) : (List.range (i + 1)).map (fun (j : Nat) => (j : Int)) = (List.range i).map (fun (j : Nat) => (j : Int)) ++ [(i : Int)] := by rw [List.range_succ, List.map_append]; rfl
/-- [_law_pair(form % 5, size, step, n // size, n % size) for n in range(size * size)] -/
theorem lc_pairs {K : PySem.W.Frag} {σ : St} {H : Hp} {s f : Int} {u : V} {st : Int × Int} {v : Nat} {Q : VK} (h4 : ∀ x, ((wipe σ [v]).set v x)[4]? = some (some (.int f))) (h2 : ∀ x, ((wipe σ [v]).set v x)[2]? = some (some (.int s))) (h6 : ∀ x, ((wipe σ [v]).set v x)[6]? = some (some u)) (hv : ∀ x, ((wipe σ [v]).set v (some x))[v]? = some (some x)) (h2' : σ[2]? = some (some (.int s)))
    (hw : ∀ x, wipe ((wipe σ [v]).set v x) [v] = wipe σ [v]) (s1 : 1 ≤ s) (s6 : s ≤ 6) (hst : Dp K H u (dP st))
    (q : ∀ (D : Addr) (H' : Hp), H D = none → Same H H' → TabAt K H' D (tabF (f % 5) s st) → Q (.ref D) H') :
    tLc (iRng1 (tCons (tOp qMul (tVar 2) (tVar 2)) (tNil))) (gName v) (tYes) (tCall (sp_pair K) [] E0 (tCons (tOp qMod (tVar 4) (tC (.int 5))) (tCons (tVar 2) (tCons (tVar 6) (tCons (tOp qFdiv (tVar v) (tVar 2)) (tCons (tOp qMod (tVar v) (tVar 2)) (tNil))))))) [v] σ H Q := by
  have hss := ss_le s1 s6
  refine ⟨_, h2', _, h2', _, _, rfl, rfl, .inl ⟨by omega, by omega⟩, s * s, rfl, by omega, by omega, fun D hDn => ?_⟩
  refine lc_range (lo := 0) (n := (s * s).toNat) (fun i H1 => Same H H1 ∧ TabAt K H1 D (((List.range i).map fun (j : Nat) => (j : Int)).map fun n => pairF (f % 5) s st (n / s) (n % s))) ?_ ?_ ?_
  · exact ⟨same_new hDn, ⟨[], upd_same, .nil⟩⟩
  · rintro i H1 hi ⟨b1, ht⟩
    refine ⟨hw _, ?_⟩
    simp only [tYes, ↓reduceIte]
    refine ⟨_, h4 _, _, _, rfl, rfl, mp rfl, _, h2 _, _, h6 _, _, hv _, _, h2 _, _, _, rfl, rfl, ⟨by omega, by omega⟩, _, hv _, _, h2 _, _, _, rfl, rfl, (by show 0 < s; omega), f % 5, s, _, _, u, st, rfl, Dp.tp (Same.tp b1) _ _ (noL_dP st) hst, by omega, by omega, by omega, fun w H2 s2 hw2 => ?_⟩
    obtain ⟨vs, e1, e2⟩ := ht.ex
    have e1' := s2 _ _ e1
    have ln : vs.length = i := by rw [DpAll.len e2, List.length_map, List.length_map, List.length_map, List.length_range]
    refine ⟨vs, e1', ?_, ?_⟩
    · rw [ln]
      exact Nat.lt_of_le_of_lt (show i ≤ 36 by omega) (by decide)
    · refine ⟨fun a o e => ?_, ⟨vs ++ [w], upd_same, ?_⟩⟩
      · rw [upd_ne (ne_of_none e hDn)]
        exact s2 _ _ (b1 _ _ e)
      · rw [iota_succ, List.map_append, List.map_append]
        have tp2 : Tp K H2 (upd H2 D (.lst (vs ++ [w]))) := tp_upd (not_lst e1')
        refine DpAll.append (DpAll.tp ((Same.tp s2).trans tp2) _ _ (noLAll_dP _) e2) (.cons ?_ .nil)
        have hw3 := Dp.tp tp2 _ _ (noL_dP _) hw2
        rw [Int.zero_add] at hw3
        exact hw3
  · rintro H1 ⟨b1, ht⟩
    exact q D H1 hDn b1 ht
def t_plain (K : PySem.W.Frag) (sp_draw : Sp) (sp_pair : Sp) : TS :=
  tSeq (tAsg (tTup (tCons (tCall sp_draw [] E0 (tCons (tVar 0) (tCons (tC (.int 6)) (tNil)))) (tCons (tLst (tNil)) (tNil)))) (gTup K 2 (gCons (gName 4) (gCons (gName 5) (gNil)))))
    (tSeq (tFor (iRng1 (tCons (tOp qFdiv (tOp qMul (tVar 1) (tOp qSub (tVar 1) (tC (.int 1)))) (tC (.int 2))) (tNil))) (gName 3) (tSeq (tAsg (tTup (tCons (tCall sp_draw [] E0 (tCons (tVar 0) (tCons (tVar 2) (tNil)))) (tCons (tCall sp_draw [] E0 (tCons (tVar 0) (tCons (tVar 2) (tNil)))) (tNil)))) (gName 6))
    (tDrop (tBM K "list" rAppend (tVar 5) (tCons (tLc (iRng1 (tCons (tOp qMul (tVar 2) (tVar 2)) (tNil))) (gName 8) (tYes) (tCall sp_pair [] E0 (tCons (tOp qMod (tVar 4) (tC (.int 5))) (tCons (tVar 2) (tCons (tVar 6) (tCons (tOp qFdiv (tVar 8) (tVar 2)) (tCons (tOp qMod (tVar 8) (tVar 2)) (tNil))))))) [8]) (tNil))))))
    (tSeq (tIfS (tAnd (tTest (tOp rEq (tVar 4) (tC (.int 5)))) (tTest (tOp (rNeD K) (tVar 5) (tLst (tNil))))) (tSeq (tAsg (tLc (iRng1 (tCons (tOp qMul (tVar 2) (tVar 2)) (tNil))) (gName 8) (tYes) (tTup (tCons (tCall sp_draw [] E0 (tCons (tVar 0) (tCons (tVar 2) (tNil)))) (tCons (tCall sp_draw [] E0 (tCons (tVar 0) (tCons (tVar 2) (tNil)))) (tNil)))) [8]) (gName 7))
    (tAsg (tVar 7) (gSub (tVar 5) (tCall sp_draw [] E0 (tCons (tVar 0) (tCons (tCB (qLen K) (tCons (tVar 5) (tNil))) (tNil)))) rSetL))) (tNext))
    (tRet (tVar 5))))
/-- data whose shape == may be asked of: lists and tuples of such, to a depth -/
theorem lay_map {α : Type} (f : α → PyData) (n : Nat) : ∀ l : List α, (∀ a ∈ l, (f a).canLay0 = true ∧ (f a).depth ≤ n) → PyData.canLayAll0 (l.map f) = true ∧ PyData.depthAll (l.map f) ≤ n
  | [], _ => ⟨rfl, Nat.zero_le _⟩
  | a :: l, h => by
    have h1 := h a List.mem_cons_self
    have h2 := lay_map f n l fun b hb => h b (List.mem_cons_of_mem _ hb)
    rw [List.map_cons]
    constructor
    · show ((f a).canLay0 && PyData.canLayAll0 (l.map f)) = true
      rw [h1.1, h2.1]
      rfl
    · show max (f a).depth (PyData.depthAll (l.map f)) ≤ n
      exact Nat.max_le.mpr ⟨h1.2, h2.2⟩
theorem lay_dP (p : Int × Int) : (dP p).canLay0 = true ∧ (dP p).depth ≤ 1 := ⟨rfl, by show max 0 (max 0 0) + 1 ≤ 1; decide⟩
theorem lay_tab (t : Tab) : (PyData.list (t.map dP)).canLay0 = true ∧ (PyData.list (t.map dP)).depth ≤ 2 := by
  have h := lay_map dP 1 t fun p _ => lay_dP p
  exact ⟨h.1, Nat.succ_le_succ h.2⟩
theorem shaped_ts (ts : List Tab) : SeqAt.shaped (dTs ts) = true := by
  have h := lay_map (fun t => PyData.list (t.map dP)) 2 ts fun t _ => lay_tab t
  have h2 : (dTs ts).depth ≤ 3 := Nat.succ_le_succ h.2
  unfold SeqAt.shaped
  rw [show (dTs ts).canLay0 = true from h.1]
  simp
  omega
theorem pure_plain {K : PySem.W.Frag} (vs : List V) (H : Hp) (Q : VK) (E : XK) (h : sp_plain K vs H Q E) : t_plain K sp_draw (sp_pair K) (EndsQ Q) (sN 9 vs) H := by
  obtain ⟨d, l, m, s, rfl, m1, m5, s1, s6, hD, k⟩ := h
  show t_plain K sp_draw (sp_pair K) _ [some (.ref d), some (.int m), some (.int s), none, none, none, none, none, none] H
  refine ⟨_, rfl, d, l, 6, rfl, by decide, by decide, hD, fun f H0 f0 f6 b0 d0 => ?_⟩
  refine ⟨(by show 0 ≤ sizeLine; decide), fun F hF => ⟨(by show 2 ≤ sizeLine; decide), fun p hp => ?_⟩⟩
  have nF := d0.ne hF
  have hF0 : H F = none := b0.none_of nF hF
  have hpF : F ≠ p := ne_of_none upd_same hp
  have hp0 : H0 p = none := by rw [upd_ne (Ne.symm hpF)] at hp; exact hp
  have np := d0.ne hp0
  have hp00 : H p = none := b0.none_of np hp0
  have hn := nT_le m1 m5
  refine ⟨p, [.int f, .ref F], rfl, SqT.of upd_same, rfl, _, _, rfl, _, _, rfl, rfl, ?_⟩
  refine ⟨_, rfl, _, rfl, _, _, rfl, rfl, _, _, rfl, rfl, .inl ⟨by omega, by omega⟩, _, _, rfl, rfl, ⟨by decide, by decide⟩, nT m, rfl, by omega, by omega,
    for_range (lo := 0) (n := (nT m).toNat) (fun i σ H1 => ∃ (s3 s6 : Option V) (ls : List Addr) (sts : List (Int × Int)), σ = [some (.ref d), some (.int m), some (.int s), s3, some (.int f), some (.ref F), s6, none, none] ∧ But [d, l] H H1 ∧ Deal H1 d l ∧ Tabs K H H1 F ls (sts.map (tabF (f % 5) s)) ∧ sts.length = i ∧ ∀ x ∈ sts, InP s x) ?_ ?_ ?_⟩
  · refine ⟨none, none, [], [], rfl, (b0.new hF0).new hp00, (d0.upd nF).upd np, ⟨?_, .nil, by simp, hF0, fun x hx => (List.not_mem_nil hx).elim⟩, rfl, fun t ht => (List.not_mem_nil ht).elim⟩
    rw [upd_ne hpF]
    exact upd_same
  · rintro i σ H1 hi ⟨s3, s6', ls, sts, rfl, b1, d1, ht, hl, hok⟩
    refine ⟨_, rfl, _, rfl, d, l, s, rfl, by omega, by omega, d1, fun a H2 a0 a1 b2 d2 => ?_⟩
    refine ⟨_, rfl, _, rfl, d, l, s, rfl, by omega, by omega, d2, fun b H3 c0 c1 b3 d3 => ?_⟩
    refine ⟨(by show 2 ≤ sizeLine; decide), fun q hq => ?_⟩
    have t3 := (ht.but hD d1 (b2.trans b3)).same (same_new (o := .tup [.int a, .int b]) hq)
    have nq := d3.ne hq
    have b4 := (b1.trans (b2.trans b3))
    have hq0 : H q = none := b4.none_of nq hq
    refine ⟨_, rfl, .inl ⟨rfl, _, SqL.of t3.lst⟩, ?_⟩
    refine lc_pairs (K := K) (s := s) (f := f) (u := .ref q) (st := (a, b)) (fun _ => rfl) (fun _ => rfl) (fun _ => rfl) (fun _ => rfl) rfl (fun _ => rfl) s1 s6 (dP_new upd_same) fun D H4 hDn s4 td => ?_
    have t4 := t3.same s4
    have hDn3 : H3 D = none := by
      cases e : H3 D with
      | none => rfl
      | some o => rw [same_new hq _ _ e] at hDn; cases hDn
    have nD := d3.ne hDn3
    have hD0 : H D = none := b4.none_of nD hDn3
    have hm : D ∉ F :: ls := t3.notIn hDn
    refine ⟨F, _, _, rfl, rfl, t4.lst, ?_, ?_⟩
    · rw [List.length_map, ht.len, List.length_map, hl]
      exact Nat.lt_of_le_of_lt (show i ≤ 10 by omega) (by decide)
    · refine ⟨some (.int (0 + i)), some (.ref q), ls ++ [D], sts ++ [(a, b)], rfl, But.new (fun x o n e => s4 _ _ (b4.new hq0 x o n e)) hF0, ?_, ?_, by simp [hl], fun x hx => ?_⟩
      · obtain ⟨z1, z2, z3, z4, z5, z6, z7⟩ := (d3.upd nq (o := .tup [.int a, .int b])).ex
        exact Deal.upd ⟨z1, z2, z3, z4, s4 _ _ z5, s4 _ _ z6, z7⟩ nF
      · rw [List.map_append]
        exact t4.push td hm hD0
      · rcases List.mem_append.mp hx with hx | hx
        · exact hok x hx
        · rw [List.mem_singleton.mp hx]
          exact ⟨a0, a1, c0, c1⟩
  · rintro σ H1 ⟨s3, s6', ls, sts, rfl, b1, d1, ht, hl, hok⟩
    have fin : PlainT m s (sts.map (tabF (f % 5) s)) := .all (f % 5) sts (by omega) (by omega) (by omega) hok
    refine ⟨_, rfl, rfl, _, rfl, ?_⟩
    by_cases hf : f = 5
    · subst hf
      simp only [decide_true, ↓reduceIte]
      refine ⟨_, rfl, (by show 0 ≤ sizeLine; decide), fun e he => ?_⟩
      have t2 := ht.same (same_new (o := .lst []) he)
      refine ⟨_, _, t2.dp, .lst (SqL.of upd_same) .nil, shaped_ts _, rfl, _, rfl, ?_⟩
      have ne := d1.ne he
      have he0 : H e = none := b1.none_of ne he
      have b2 : But [d, l] H (upd H1 e (.lst [])) := b1.new he0
      have d2 : Deal (upd H1 e (.lst [])) d l := d1.upd ne
      generalize upd H1 e (.lst []) = H2 at t2 b2 d2
      cases sts with
      | nil => exact ⟨_, rfl, k F ls _ H2 b2 d2 t2 fin⟩
      | cons st0 sts =>
        have hb : (!PyData.eqv (dTs ((st0 :: sts).map (tabF (5 % 5) s))) (PyData.list [])) = true := rfl
        rw [hb]
        simp only [↓reduceIte]
        refine st_seq (st_asg ?_)
        refine lc_drawn (K := K) (d := d) (l := l) (s := s) (fun _ => rfl) (fun _ => rfl) rfl (fun _ => rfl) s1 s6 d2 fun D H3 t hDn b3 d3 tt tok => ?_
        have t3 := t2.but hD d2 b3
        have nD := d2.ne hDn
        have hD0 : H D = none := b2.none_of nD hDn
        have hm : D ∉ F :: ls := t2.notIn hDn
        have hll := ht.len
        rw [List.length_map] at hll
        refine ⟨_, rfl, _, rfl, _, rfl, _, rfl, _, (ls.map V.ref).length, rfl, .inl ⟨_, SqL.of t3.lst, rfl⟩, d, l, _, rfl, ?_, ?_, d3, fun q H4 q0 q1 b4 d4 => ?_⟩
        · rw [List.length_map, hll, List.length_cons]
          omega
        · rw [List.length_map, hll]
          omega
        · rw [List.length_map, hll] at q1
          have t4 := t3.but hD d3 b4
          have tt4 := tt.keep (fun o e => b4.at nD e) (b4.tp d3.noT)
          refine ⟨F, _, q, q.toNat, rfl, rfl, t4.lst, ?_, ?_⟩
          · unfold ixN
            rw [if_pos q0, if_pos (by rw [List.length_map, hll]; exact q1)]
          · refine ⟨_, rfl, k F _ _ _ ((b2.trans (b3.trans b4)).new hF0) (d4.upd nF) (t4.put (j := q.toNat) tt4 hm hD0) ?_⟩
            exact .one (st0 :: sts) q.toNat t (by omega) (by omega) tok
    · have : decide (V.int f = V.int 5) = false := decide_eq_false fun z => hf (V.int.inj z)
      rw [this]
      exact ⟨_, rfl, k F ls _ H1 b1 d1 ht fin⟩
end Wf
/-! Tables side by side, tables with other names. -/
namespace Wf
open PySem PySem.Spec L2
/-- tables to be read -/
structure TL (K : PySem.W.Frag) (H : Hp) (A : Addr) (ls : List Addr) (ts : List Tab) : Prop where
  lst : H A = some (.lst (ls.map V.ref))
  tab : Paired (TabAt K H) ls ts
theorem Tabs.tl {K : PySem.W.Frag} {H H1 : Hp} {F : Addr} {ls : List Addr} {ts : List Tab} (t : Tabs K H H1 F ls ts) : TL K H1 F ls ts := ⟨t.lst, t.tab⟩
theorem TL.same {K : PySem.W.Frag} {H H1 : Hp} {A : Addr} {ls : List Addr} {ts : List Tab} (t : TL K H A ls ts) (s : Same H H1) : TL K H1 A ls ts := ⟨s _ _ t.lst, pr_mono t.tab fun a b _ h => h.keep (fun o e => s _ _ e) (Same.tp s)⟩
theorem ix_lt {x y w : Int} (x0 : 0 ≤ x) (x1 : x < w) (y0 : 0 ≤ y) (y1 : y < w) : 0 ≤ x * w + y ∧ x * w + y < w * w := by
  have h1 : 0 ≤ x * w := Int.mul_nonneg x0 (by omega)
  have h2 : (x + 1) * w ≤ w * w := Int.mul_le_mul_of_nonneg_right (by omega) (by omega)
  have h3 : (x + 1) * w = x * w + w := by rw [Int.add_mul, Int.one_mul]
  constructor <;> omega
/-- the pair at a place of a table that is read -/
theorem tab_ix {K : PySem.W.Frag} {H : Hp} {l : Addr} {t : Tab} {i : Int} (h : TabAt K H l t) (h0 : 0 ≤ i) (h1 : i < t.length) : ∃ vs v p, H l = some (.lst vs) ∧ atI vs i = some v ∧ t[i.toNat]? = some p ∧ Dp K H v (dP p) := by
  obtain ⟨vs, e1, e2⟩ := h.ex
  have hl : vs.length = t.length := by rw [DpAll.len e2, List.length_map]
  have hp : t[i.toNat]? = some (t[i.toNat]'(by omega)) := List.getElem?_eq_getElem (by omega)
  obtain ⟨v, f1, f2⟩ := DpAll.get (d := dP (t[i.toNat]'(by omega))) e2 (by rw [List.getElem?_map, hp]; rfl)
  refine ⟨vs, v, _, e1, ?_, hp, f2⟩
  unfold atI ixN
  rw [if_pos h0, if_pos (by rw [hl]; exact h1)]
  exact f1
def sideP (t1 t2 : Tab) (w r : Int) (n : Int) : Int × Int :=
  let c := t1.getD (n / (w * r) / r * w + n % (w * r) / r).toNat (0, 0)
  let g := t2.getD (n / (w * r) % r * r + n % (w * r) % r).toNat (0, 0)
  (c.1 * r + g.1, c.2 * r + g.2)
def sideT (w r : Int) (t1 t2 : Tab) : Tab := (iota (w * r * (w * r))).map (sideP t1 t2 w r)
def sp_side (K : PySem.W.Frag) : Sp := fun vs H Q _ => ∃ (A B : Addr) (la lb : List Addr) (ta tb : List Tab) (w r : Int), vs = [.ref A, .ref B, .int w, .int r] ∧ TL K H A la ta ∧ TL K H B lb tb ∧ ta.length = tb.length ∧ ta.length ≤ 10 ∧ 1 ≤ w ∧ 1 ≤ r ∧ w ≤ 6 ∧ r ≤ 6 ∧ w * r ≤ 6 ∧
  (∀ t ∈ ta, TabOk w t) ∧ (∀ t ∈ tb, TabOk r t) ∧ ∀ (F : Addr) (ls : List Addr) (H' : Hp), Same H H' → Tabs K H H' F ls (List.zipWith (sideT w r) ta tb) → Q (.ref F) H'
def t_side (K : PySem.W.Frag) : TS :=
  tSeq (tPar 4 5 (tCons (tLst (tNil)) (tCons (tOp qMul (tVar 2) (tVar 3)) (tNil))))
    (tSeq (tFor (RZ.iZipA K (tCons (tVar 0) (tCons (tVar 1) (tNil)))) (gTup K 2 (gCons (gName 6) (gCons (gName 7) (gNil)))) (tSeq (tAsg (tLst (tNil)) (gName 8))
    (tSeq (tFor (iRng1 (tCons (tOp qMul (tVar 5) (tVar 5)) (tNil))) (gName 9) (tSeq (tPar 10 11 (tCons (tOp qFdiv (tVar 9) (tVar 5)) (tCons (tOp qMod (tVar 9) (tVar 5)) (tNil))))
    (tSeq (tAsg (tOp (rIxL K) (tVar 6) (tOp qAdd (tOp qMul (tOp qFdiv (tVar 10) (tVar 3)) (tVar 2)) (tOp qFdiv (tVar 11) (tVar 3)))) (gTup K 2 (gCons (gName 12) (gCons (gName 13) (gNil)))))
    (tSeq (tAsg (tOp (rIxL K) (tVar 7) (tOp qAdd (tOp qMul (tOp qMod (tVar 10) (tVar 3)) (tVar 3)) (tOp qMod (tVar 11) (tVar 3)))) (gTup K 2 (gCons (gName 14) (gCons (gName 15) (gNil)))))
    (tDrop (tBM K "list" rAppend (tVar 8) (tCons (tTup (tCons (tOp qAdd (tOp qMul (tVar 12) (tVar 3)) (tVar 14)) (tCons (tOp qAdd (tOp qMul (tVar 13) (tVar 3)) (tVar 15)) (tNil)))) (tNil))))))))
    (tDrop (tBM K "list" rAppend (tVar 4) (tCons (tVar 8) (tNil)))))))
    (tRet (tVar 4)))
theorem pure_side {K : PySem.W.Frag} (vs : List V) (H : Hp) (Q : VK) (E : XK) (h : sp_side K vs H Q E) : t_side K (EndsQ Q) (sN 16 vs) H := by
  obtain ⟨A, B, la, lb, ta, tb, w, r, rfl, hA, hB, hlen, h10, w1, r1, w6, r6, wr6, oka, okb, k⟩ := h
  show t_side K _ [some (.ref A), some (.ref B), some (.int w), some (.int r), none, none, none, none, none, none, none, none, none, none, none, none] H
  have wr1 : 1 ≤ w * r := by
    have := Int.mul_le_mul w1 r1 (by decide) (by omega)
    simpa using this
  refine ⟨(by show 0 ≤ sizeLine; decide), fun F hF => ⟨_, rfl, _, rfl, _, _, rfl, rfl, .inl ⟨by omega, by omega⟩, _, _, rfl, ?_⟩⟩
  have sF := same_new (o := .lst []) hF
  have hab : (la.map V.ref).length = (lb.map V.ref).length := by rw [List.length_map, List.length_map, pr_len hA.tab, pr_len hB.tab, hlen]
  refine ⟨_, rfl, _, rfl, A, B, _, _, rfl, .inl ⟨SqL.of (hA.same sF).lst, SqL.of (hB.same sF).lst, RZ.for_zipL (K := K) hab
    (fun i σ H1 => ∃ (c6 c7 c8 c9 c10 c11 c12 c13 c14 c15 : Option V) (ls : List Addr), σ = [some (.ref A), some (.ref B), some (.int w), some (.int r), some (.ref F), some (.int (w * r)), c6, c7, c8, c9, c10, c11, c12, c13, c14, c15] ∧ Same H H1 ∧ Tabs K H H1 F ls ((List.zipWith (sideT w r) ta tb).take i)) ?_ ?_ ?_ ?_⟩⟩
  · exact ⟨none, none, none, none, none, none, none, none, none, none, [], rfl, sF, ⟨upd_same, .nil, by simp, hF, fun x hx => (List.not_mem_nil hx).elim⟩⟩
  · rintro i σ H1 ⟨c6, c7, c8, c9, c10, c11, c12, c13, c14, c15, ls, rfl, s1, _⟩
    exact ⟨SqL.of (s1 _ _ hA.lst), SqL.of (s1 _ _ hB.lst)⟩
  · rintro i x y T σ H1 hx hy ⟨c6, c7, c8, c9, c10, c11, c12, c13, c14, c15, ls, rfl, s1, ht⟩ hT
    rw [List.getElem?_map] at hx hy
    obtain ⟨a, ha, rfl⟩ := Option.map_eq_some_iff.mp hx
    obtain ⟨b, hb, rfl⟩ := Option.map_eq_some_iff.mp hy
    obtain ⟨t1, ht1, ta1⟩ := pr_get (hA.same s1).tab ha
    obtain ⟨t2, ht2, tb1⟩ := pr_get (hB.same s1).tab hb
    have ok1 := oka t1 (List.mem_of_getElem? ht1)
    have ok2 := okb t2 (List.mem_of_getElem? ht2)
    have sT := same_new (o := .tup [.ref a, .ref b]) hT
    have s2 := s1.trans sT
    have tA := ta1.keep (fun o e => sT _ _ e) (Same.tp sT)
    have tB := tb1.keep (fun o e => sT _ _ e) (Same.tp sT)
    have tF := ht.same sT
    have hTT : upd H1 T (.tup [.ref a, .ref b]) T = some (.tup [.ref a, .ref b]) := upd_same
    generalize upd H1 T (.tup [.ref a, .ref b]) = H2 at s2 tA tB tF hTT
    refine ⟨T, _, rfl, SqT.of hTT, rfl, _, _, rfl, _, _, rfl, rfl, ?_⟩
    refine ⟨(by show 0 ≤ sizeLine; decide), fun P hP => ?_⟩
    have hP0 : H P = none := s2.free hP
    have sP := same_new (o := .lst []) hP
    have hmP : P ∉ F :: ls := tF.notIn hP
    have hSS := ss_le wr1 wr6
    refine ⟨_, rfl, _, rfl, _, _, rfl, rfl, .inl ⟨by omega, by omega⟩, w * r * (w * r), rfl, by omega, by omega,
      for_range (lo := 0) (n := (w * r * (w * r)).toNat) (fun j σ H3 => ∃ (c9 c10 c11 c12 c13 c14 c15 : Option V), σ = [some (.ref A), some (.ref B), some (.int w), some (.int r), some (.ref F), some (.int (w * r)), some (.ref a), some (.ref b), some (.ref P), c9, c10, c11, c12, c13, c14, c15] ∧ Same H2 H3 ∧ TabAt K H3 P (((List.range j).map fun (j : Nat) => (j : Int)).map (sideP t1 t2 w r))) ?_ ?_ ?_⟩
    · exact ⟨_, _, _, _, _, _, _, rfl, sP, ⟨[], upd_same, .nil⟩⟩
    · rintro j σ H3 hj ⟨c9, c10, c11, c12, c13, c14, c15, rfl, s3, tP⟩
      have tA3 := tA.keep (fun o e => s3 _ _ e) (Same.tp s3)
      have tB3 := tB.keep (fun o e => s3 _ _ e) (Same.tp s3)
      have hz : (0 : Int) + (j : Nat) = j := Int.zero_add _
      rw [hz]
      have j0 : (0 : Int) ≤ (j : Int) := Int.natCast_nonneg _
      have jS : (j : Int) < w * r * (w * r) := by omega
      have q1 : 0 ≤ (j : Int) / (w * r) ∧ (j : Int) / (w * r) < w * r := ⟨Int.ediv_nonneg j0 (by omega), Int.ediv_lt_of_lt_mul (by omega) jS⟩
      have q2 := mod_lt (a := (j : Int)) (b := w * r) (by omega)
      have q3 : 0 ≤ (j : Int) / (w * r) / r ∧ (j : Int) / (w * r) / r < w := ⟨Int.ediv_nonneg q1.1 (by omega), Int.ediv_lt_of_lt_mul (by omega) q1.2⟩
      have q4 : 0 ≤ (j : Int) % (w * r) / r ∧ (j : Int) % (w * r) / r < w := ⟨Int.ediv_nonneg q2.1 (by omega), Int.ediv_lt_of_lt_mul (by omega) q2.2⟩
      have q5 := mod_lt (a := (j : Int) / (w * r)) (b := r) (by omega)
      have q6 := mod_lt (a := (j : Int) % (w * r)) (b := r) (by omega)
      have i1 := ix_lt q3.1 q3.2 q4.1 q4.2
      have i2 := ix_lt q5.1 q5.2 q6.1 q6.2
      obtain ⟨vs1, v1, p1, f1, f2, f3, f4⟩ := tab_ix tA3 i1.1 (by rw [ok1.len]; exact i1.2)
      obtain ⟨vs2, v2, p2, g1, g2, g3, g4⟩ := tab_ix tB3 i2.1 (by rw [ok2.len]; exact i2.2)
      obtain ⟨x1, rfl, y1⟩ := dP_at f4
      obtain ⟨x2, rfl, y2⟩ := dP_at g4
      have in1 := ok1.inn p1 (List.mem_of_getElem? f3)
      have in2 := ok2.inn p2 (List.mem_of_getElem? g3)
      unfold InP at in1 in2
      refine ⟨_, rfl, _, rfl, _, _, rfl, rfl, ⟨by omega, by omega⟩, _, rfl, _, rfl, _, _, rfl, rfl, (by show 0 < w * r; omega), _, _, rfl, ?_⟩
      refine ⟨_, rfl, _, rfl, _, rfl, _, _, rfl, rfl, ⟨by omega, by omega⟩, _, rfl, _, _, rfl, rfl, .inr ⟨by omega, by omega⟩, _, rfl, _, rfl, _, _, rfl, rfl, ⟨by omega, by omega⟩, _, _, rfl, rfl, a, vs1, _, _, rfl, rfl, SqL.of f1, f2, x1, _, rfl, y1, rfl, _, _, rfl, _, _, rfl, rfl, ?_⟩
      refine ⟨_, rfl, _, rfl, _, rfl, _, _, rfl, rfl, (by show 0 < r; omega), _, rfl, _, _, rfl, rfl, .inr ⟨by omega, by omega⟩, _, rfl, _, rfl, _, _, rfl, rfl, (by show 0 < r; omega), _, _, rfl, rfl, b, vs2, _, _, rfl, rfl, SqL.of g1, g2, x2, _, rfl, y2, rfl, _, _, rfl, _, _, rfl, rfl, ?_⟩
      obtain ⟨vp, e1, e2⟩ := tP.ex
      refine ⟨_, rfl, .inl ⟨rfl, _, SqL.of e1⟩, _, rfl, _, rfl, _, _, rfl, rfl, .inr ⟨by omega, by omega⟩, _, rfl, _, _, rfl, rfl, _, rfl, _, rfl, _, _, rfl, rfl, .inr ⟨by omega, by omega⟩, _, rfl, _, _, rfl, rfl, (by show 2 ≤ sizeLine; decide), fun z hzn => ?_⟩
      have hPz : P ≠ z := ne_of_none e1 hzn
      have sz := same_new (o := .tup [.int (p1.1 * r + p2.1), .int (p1.2 * r + p2.2)]) hzn
      have hzz : upd H3 z (.tup [.int (p1.1 * r + p2.1), .int (p1.2 * r + p2.2)]) z = some _ := upd_same
      generalize upd H3 z (.tup [.int (p1.1 * r + p2.1), .int (p1.2 * r + p2.2)]) = H4 at sz hzz
      have e1' := sz _ _ e1
      have ln : vp.length = j := by rw [DpAll.len e2, List.length_map, List.length_map, List.length_map, List.length_range]
      refine ⟨P, vp, _, rfl, rfl, e1', ?_, ?_⟩
      · rw [ln]
        exact Nat.lt_of_le_of_lt (show j ≤ 36 by omega) (by decide)
      · refine ⟨_, _, _, _, _, _, _, rfl, fun c o e => ?_, ⟨vp ++ [.ref z], upd_same, ?_⟩⟩
        · rw [upd_ne (ne_of_none e hP)]
          exact sz _ _ (s3 _ _ e)
        · rw [iota_succ, List.map_append, List.map_append]
          have tp2 : Tp K H4 (upd H4 P (.lst (vp ++ [.ref z]))) := tp_upd (not_lst e1')
          refine DpAll.append (DpAll.tp ((Same.tp sz).trans tp2) _ _ (noLAll_dP _) e2) (.cons ?_ .nil)
          have ez : sideP t1 t2 w r (j : Int) = (p1.1 * r + p2.1, p1.2 * r + p2.2) := by
            unfold sideP
            simp only [List.getD, f3, g3, Option.getD_some]
          rw [ez]
          refine dP_new ?_
          rw [upd_ne (Ne.symm hPz)]
          exact hzz
    · rintro σ H3 ⟨c9, c10, c11, c12, c13, c14, c15, rfl, s3, tP⟩
      have tF3 := tF.same s3
      refine ⟨_, rfl, .inl ⟨rfl, _, SqL.of tF3.lst⟩, _, rfl, F, _, _, rfl, rfl, tF3.lst, ?_, ?_⟩
      · rw [List.length_map, ht.len, List.length_take]
        exact Nat.lt_of_le_of_lt (Nat.le_trans (Nat.min_le_right _ _) (show (List.zipWith (sideT w r) ta tb).length ≤ 10 by rw [List.length_zipWith]; omega)) (by decide)
      · refine ⟨_, _, _, _, _, _, _, _, _, _, ls ++ [P], rfl, fun c o e => ?_, ?_⟩
        · rw [upd_ne (ne_of_none e hF)]
          exact s3 _ _ (s2 _ _ e)
        · have ez : (List.zipWith (sideT w r) ta tb)[i]? = some (sideT w r t1 t2) := by
            rw [List.getElem?_zipWith, ht1, ht2]
          rw [List.take_add_one, ez]
          exact tF3.push tP hmP hP0
  · rintro σ H1 ⟨c6, c7, c8, c9, c10, c11, c12, c13, c14, c15, ls, rfl, s1, ht⟩
    have : (List.zipWith (sideT w r) ta tb).take (la.map V.ref).length = List.zipWith (sideT w r) ta tb := List.take_of_length_le (by rw [List.length_zipWith, List.length_map, pr_len hA.tab]; omega)
    rw [this] at ht
    exact ⟨_, rfl, k F ls H1 s1 ht⟩
end Wf
/-! Tables with other names, good tables, books. -/
namespace Wf
open PySem PySem.Spec L2
theorem for_enumL {K : PySem.W.Frag} {a : Addr} {xs : List V} {g : TG} {tb : TS} {D : Ends} {σ : St} {H : Hp} (Pv : Nat → St → Hp → Prop) (h0 : Pv 0 σ H) (hq : ∀ i σ H, Pv i σ H → SqL K H a xs)
    (hs : ∀ (i : Nat) (x : V) (T : Addr) (σ : St) (H : Hp), xs[i]? = some x → Pv i σ H → H T = none → g (.ref T) σ (upd H T (.tup [.int (i : Nat), x])) fun σ2 H2 => tb { D with nx := Pv (i + 1), ct := Pv (i + 1), bk := D.nx } σ2 H2) (hd : ∀ σ H, Pv xs.length σ H → D.nx σ H) :
    ∃ W : Nat → Nat → St → Hp → Prop, (∃ m, W 0 m σ H) ∧ ∀ i m σ H, W i m σ H →
      ((Ite K a).stop i H ∧ D.nx σ H) ∨ ((Ite K a).go i H ∧ ∃ N : St → Hp → Prop, (∀ σ' H', N σ' H' → ∃ m', m' < m ∧ W (i + 1) m' σ' H') ∧ ∀ v H', (Ite K a).yld i H v H' → g v σ H' fun σ2 H2 => tb { D with nx := N, ct := N, bk := D.nx } σ2 H2) := by
  refine ⟨fun i m σ H => m = xs.length - i ∧ i ≤ xs.length ∧ Pv i σ H, ⟨xs.length, rfl, Nat.zero_le _, h0⟩, ?_⟩
  rintro i m σ H ⟨rfl, hi, p⟩
  have q := hq i σ H p
  by_cases hlt : i < xs.length
  · have hx : xs[i]? = some xs[i] := List.getElem?_eq_getElem hlt
    refine .inr ⟨⟨xs, _, q, hx⟩, Pv (i + 1), fun σ' H' p' => ⟨xs.length - (i + 1), by omega, rfl, hlt, p'⟩, fun v H' y => ?_⟩
    obtain ⟨T, x, rfl, hT, rfl, hall⟩ := y
    exact hs i x T σ H (hall xs q) p hT
  · have e : i = xs.length := by omega
    subst e
    exact .inl ⟨⟨xs, q, Nat.le_refl _⟩, hd σ H p⟩
theorem DpAll.set {K : PySem.W.Frag} {H : Hp} {v : V} {d : PyData} (h : Dp K H v d) : ∀ {vs : List V} {ds : List PyData} (i : Nat), DpAll K H vs ds → DpAll K H (vs.set i v) (ds.set i d)
  | _, _, _, .nil => .nil
  | _, _, 0, .cons _ t => .cons h t
  | _, _, i + 1, .cons k t => .cons k (DpAll.set h i t)
/-! ### _law_names_put -/
def nmStep (ns : List Int) (s : Int) (t acc : Tab) (n : Nat) : Tab :=
  acc.set (ns.getD ((n : Int) / s).toNat 0 * s + ns.getD ((n : Int) % s).toNat 0).toNat (ns.getD (t.getD n (0, 0)).1.toNat 0, ns.getD (t.getD n (0, 0)).2.toNat 0)
def nmF (ns : List Int) (s : Int) (t : Tab) (k : Nat) : Tab := (List.range k).foldl (nmStep ns s t) (List.replicate (s * s).toNat (0, 0))
def nameT (s : Int) (ns : List Int) (t : Tab) : Tab := nmF ns s t t.length
theorem nmF_succ (ns : List Int) (s : Int) (t : Tab) (k : Nat) : nmF ns s t (k + 1) = nmStep ns s t (nmF ns s t k) k := by
  unfold nmF
  rw [List.range_succ, List.foldl_append]
  rfl
theorem nmF_len (ns : List Int) (s : Int) (t : Tab) : ∀ k, (nmF ns s t k).length = (s * s).toNat
  | 0 => by unfold nmF; rw [List.range_zero, List.foldl_nil, List.length_replicate]
  | k + 1 => by rw [nmF_succ, nmStep, List.length_set, nmF_len ns s t k]
def sp_names (K : PySem.W.Frag) : Sp := fun vs H Q _ => ∃ (A N : Addr) (la : List Addr) (ta : List Tab) (s : Int) (ns : List Int), vs = [.ref A, .int s, .ref N] ∧ TL K H A la ta ∧ H N = some (.lst (ns.map V.int)) ∧ ta.length ≤ 10 ∧ 1 ≤ s ∧ s ≤ 6 ∧ ns.Perm (iota s) ∧
  (∀ t ∈ ta, TabOk s t) ∧ ∀ (F : Addr) (ls : List Addr) (H' : Hp), Same H H' → Tabs K H H' F ls (ta.map (nameT s ns)) → Q (.ref F) H'
theorem iota_mem {n x : Int} : x ∈ iota n ↔ 0 ≤ x ∧ x < n := by
  unfold iota
  rw [List.mem_map]
  constructor
  · rintro ⟨i, hi, rfl⟩
    rw [List.mem_range] at hi
    constructor <;> omega
  · rintro ⟨h1, h2⟩
    exact ⟨x.toNat, by rw [List.mem_range]; omega, by omega⟩
theorem perm_at {s : Int} {ns : List Int} (hp : ns.Perm (iota s)) {i : Int} (h0 : 0 ≤ i) (h1 : i < s) : atI (ns.map V.int) i = some (.int (ns.getD i.toNat 0)) ∧ 0 ≤ ns.getD i.toNat 0 ∧ ns.getD i.toNat 0 < s := by
  have hl : ns.length = s.toNat := by rw [hp.length_eq]; unfold iota; rw [List.length_map, List.length_range]
  have hi : i.toNat < ns.length := by omega
  have e : ns[i.toNat]? = some ns[i.toNat] := List.getElem?_eq_getElem hi
  have m : ns[i.toNat] ∈ iota s := hp.mem_iff.mp (List.getElem_mem hi)
  have g : ns.getD i.toNat 0 = ns[i.toNat] := by simp [List.getD, e]
  rw [g]
  refine ⟨?_, (iota_mem.mp m).1, (iota_mem.mp m).2⟩
  unfold atI ixN
  rw [if_pos h0, if_pos (by rw [List.length_map]; omega)]
  show (ns.map V.int)[i.toNat]? = _
  rw [List.getElem?_map, e]
  rfl
theorem dp_rep {K : PySem.W.Frag} {H : Hp} {v : V} {d : PyData} (h : Dp K H v d) : ∀ n, DpAll K H (List.replicate n v) (List.replicate n d)
  | 0 => .nil
  | n + 1 => .cons h (dp_rep h n)
theorem rep_flat {α : Type} (v : α) : ∀ n, (List.replicate n [v]).flatten = List.replicate n v
  | 0 => rfl
  | n + 1 => by rw [List.replicate_succ, List.flatten_cons, rep_flat v n]; rfl
def t_names_put (K : PySem.W.Frag) : TS :=
  tSeq (tAsg (tLst (tNil)) (gName 3))
    (tSeq (tFor (iList K (tVar 0)) (gName 4) (tSeq (tAsg (tOp rRep (tLst (tCons (tTup (tCons (tC (.int 0)) (tCons (tC (.int 0)) (tNil)))) (tNil))) (tOp qMul (tVar 1) (tVar 1))) (gName 5))
    (tSeq (tFor (iEnum K (tCons (tVar 4) (tNil))) (gTup K 2 (gCons (gName 6) (gCons (gName 7) (gNil)))) (tSeq (tPar 8 9 (tCons (tOp (rIxL K) (tVar 2) (tOp qFdiv (tVar 6) (tVar 1))) (tCons (tOp (rIxL K) (tVar 2) (tOp qMod (tVar 6) (tVar 1))) (tNil))))
    (tAsg (tTup (tCons (tOp (rIxL K) (tVar 2) (tOp (rIxT K) (tVar 7) (tC (.int 0)))) (tCons (tOp (rIxL K) (tVar 2) (tOp (rIxT K) (tVar 7) (tC (.int 1)))) (tNil)))) (gSub (tVar 5) (tOp qAdd (tOp qMul (tVar 8) (tVar 1)) (tVar 9)) rSetL))))
    (tDrop (tBM K "list" rAppend (tVar 3) (tCons (tVar 5) (tNil)))))))
    (tRet (tVar 3)))
theorem pure_names {K : PySem.W.Frag} (vs : List V) (H : Hp) (Q : VK) (E : XK) (h : sp_names K vs H Q E) : t_names_put K (EndsQ Q) (sN 10 vs) H := by
  obtain ⟨A, N, la, ta, s, ns, rfl, hA, hN, h10, s1, s6, hp, oka, k⟩ := h
  show t_names_put K _ [some (.ref A), some (.int s), some (.ref N), none, none, none, none, none, none, none] H
  have hss := ss_le s1 s6
  refine ⟨(by show 0 ≤ sizeLine; decide), fun F hF => ?_⟩
  have sF := same_new (o := .lst []) hF
  refine ⟨_, rfl, A, rfl, ⟨_, SqL.of (sF _ _ hA.lst)⟩, for_list (K := K) (a := A) (xs := la.map V.ref)
    (fun i σ H1 => ∃ (c4 c5 c6 c7 c8 c9 : Option V) (ls : List Addr), σ = [some (.ref A), some (.int s), some (.ref N), some (.ref F), c4, c5, c6, c7, c8, c9] ∧ Same H H1 ∧ Tabs K H H1 F ls ((ta.map (nameT s ns)).take i)) ?_ ?_ ?_ ?_⟩
  · exact ⟨none, none, none, none, none, none, [], rfl, sF, ⟨upd_same, .nil, by simp, hF, fun x hx => (List.not_mem_nil hx).elim⟩⟩
  · rintro i σ H1 _ ⟨c4, c5, c6, c7, c8, c9, ls, rfl, s1, _⟩
    exact SqL.of (s1 _ _ hA.lst)
  · rintro i x σ H1 hx ⟨c4, c5, c6, c7, c8, c9, ls, rfl, sH1, ht⟩
    rw [List.getElem?_map] at hx
    obtain ⟨a, ha, rfl⟩ := Option.map_eq_some_iff.mp hx
    obtain ⟨t, ht1, ta1⟩ := pr_get (hA.same sH1).tab ha
    have ok1 := oka t (List.mem_of_getElem? ht1)
    refine ⟨(by show 2 ≤ sizeLine; decide), fun p hp0 => ⟨(by show 1 ≤ sizeLine; decide), fun q hq0 => ?_⟩⟩
    have sp := same_new (o := .tup [.int 0, .int 0]) hp0
    have sq := same_new (o := .lst [.ref p]) hq0
    refine ⟨_, rfl, _, rfl, _, _, rfl, rfl, .inl ⟨by omega, by omega⟩, q, s * s, [.ref p], rfl, rfl, upd_same, by omega, by omega, ?_, fun P hP => ?_⟩
    · show 1 * (s * s).toNat ≤ sizeLine
      exact Nat.le_trans (show 1 * (s * s).toNat ≤ 36 by omega) (by decide)
    rw [rep_flat]
    have sP := same_new (o := .lst (List.replicate (s * s).toNat (.ref p))) hP
    have s12 := sp.trans sq
    have s13 := s12.trans sP
    have hpp : upd (upd (upd H1 p (.tup [.int 0, .int 0])) q (.lst [.ref p])) P (.lst (List.replicate (s * s).toNat (.ref p))) p = some (.tup [.int 0, .int 0]) := (sq.trans sP) _ _ upd_same
    have hPP : upd (upd (upd H1 p (.tup [.int 0, .int 0])) q (.lst [.ref p])) P (.lst (List.replicate (s * s).toNat (.ref p))) P = some (.lst (List.replicate (s * s).toNat (.ref p))) := upd_same
    have hP1 : H1 P = none := s12.free hP
    have hP0 : H P = none := sH1.free hP1
    have hmP : P ∉ F :: ls := ht.notIn hP1
    generalize upd (upd (upd H1 p (.tup [.int 0, .int 0])) q (.lst [.ref p])) P (.lst (List.replicate (s * s).toNat (.ref p))) = H2 at s13 hpp hPP
    have s2 := sH1.trans s13
    have tA := ta1.keep (fun o e => s13 _ _ e) (Same.tp s13)
    have tF := ht.same s13
    obtain ⟨va, ea, fa⟩ := tA.ex
    have lva : va.length = t.length := by rw [DpAll.len fa, List.length_map]
    have sBut : ∀ {H3 : Hp}, (∀ c o, c ≠ P → H2 c = some o → H3 c = some o) → H2 P = some (.lst (List.replicate (s * s).toNat (.ref p))) → Tp K H2 H3 := fun {H3} hk h => But.tp (ds := [P]) (fun c o hc e => hk c o (fun z => hc (by rw [z]; exact List.mem_cons_self)) e) fun x hx => by
      rw [List.mem_singleton.mp hx]
      exact not_lst h
    have haP : a ≠ P := by
      obtain ⟨vv, e, _⟩ := ta1.ex
      exact ne_of_none e hP1
    have hNP : N ≠ P := ne_of_none hN hP0
    have hN2 := s2 _ _ hN
    refine ⟨_, rfl, a, va, rfl, SqL.of ea, for_enumL (K := K) (a := a) (xs := va)
      (fun j σ H3 => ∃ (c6 c7 c8 c9 : Option V), σ = [some (.ref A), some (.int s), some (.ref N), some (.ref F), some (.ref a), some (.ref P), c6, c7, c8, c9] ∧ (∀ c o, c ≠ P → H2 c = some o → H3 c = some o) ∧ TabAt K H3 P (nmF ns s t j)) ?_ ?_ ?_ ?_⟩
    · refine ⟨_, _, _, _, rfl, fun c o _ e => e, ⟨_, hPP, ?_⟩⟩
      unfold nmF
      rw [List.range_zero, List.foldl_nil, List.map_replicate]
      exact dp_rep (dP_new hpp) _
    · rintro j σ H3 ⟨c6, c7, c8, c9, rfl, k3, _⟩
      exact SqL.of (k3 _ _ haP ea)
    · rintro j x T σ H3 hx ⟨c6, c7, c8, c9, rfl, k3, tP⟩ hT
      have hjt : j < t.length := by rw [← lva]; exact (List.getElem?_eq_some_iff.mp hx).1
      have et : t[j]? = some t[j] := List.getElem?_eq_getElem hjt
      have jss : (j : Int) < s * s := by rw [← ok1.len]; omega
      have j0 : (0 : Int) ≤ (j : Int) := Int.natCast_nonneg _
      obtain ⟨dx, f1, f2⟩ := DpAll.getV fa hx
      rw [List.getElem?_map, et] at f1
      cases f1
      have in1 := ok1.inn t[j] (List.getElem_mem hjt)
      unfold InP at in1
      have tp3 := sBut k3 hPP
      have sT := same_new (o := .tup [.int (j : Nat), x]) hT
      have f3 := Dp.tp (tp3.trans (Same.tp sT)) _ _ (noL_dP _) f2
      obtain ⟨xa, rfl, hxa⟩ := dP_at f3
      have hTT : upd H3 T (.tup [.int (j : Nat), .ref xa]) T = some (.tup [.int (j : Nat), .ref xa]) := upd_same
      have tP4 := tP.keep (fun o e => sT _ _ e) (Same.tp sT)
      have k4 : ∀ c o, c ≠ P → H2 c = some o → upd H3 T (.tup [.int (j : Nat), .ref xa]) c = some o := fun c o hc e => sT _ _ (k3 c o hc e)
      have hTP : T ≠ P := by
        obtain ⟨vv, e, _⟩ := tP.ex
        exact (ne_of_none e hT).symm
      generalize upd H3 T (.tup [.int (j : Nat), .ref xa]) = H4 at hxa hTT tP4 k4
      have hN4 := k4 _ _ hNP hN2
      have q1 : 0 ≤ (j : Int) / s ∧ (j : Int) / s < s := ⟨Int.ediv_nonneg j0 (by omega), Int.ediv_lt_of_lt_mul (by omega) jss⟩
      have q2 := mod_lt (a := (j : Int)) (b := s) (by omega)
      obtain ⟨g1, g2, g3⟩ := perm_at hp q1.1 q1.2
      obtain ⟨g4, g5, g6⟩ := perm_at hp q2.1 q2.2
      obtain ⟨g7, g8, g9⟩ := perm_at hp in1.1 in1.2.1
      obtain ⟨g10, g11, g12⟩ := perm_at hp in1.2.2.1 in1.2.2.2
      refine ⟨T, _, rfl, SqT.of hTT, rfl, _, _, rfl, _, _, rfl, rfl, ?_⟩
      refine ⟨_, rfl, _, rfl, _, rfl, _, _, rfl, rfl, ⟨by omega, by omega⟩, N, _, _, _, rfl, rfl, SqL.of hN4, g1, _, rfl, _, rfl, _, rfl, _, _, rfl, rfl, (by show 0 < s; omega), N, _, _, _, rfl, rfl, SqL.of hN4, g4, _, _, rfl, ?_⟩
      refine ⟨_, rfl, _, rfl, xa, _, _, _, rfl, rfl, hxa, rfl, N, _, _, _, rfl, rfl, SqL.of hN4, g7, _, rfl, _, rfl, xa, _, _, _, rfl, rfl, hxa, rfl, N, _, _, _, rfl, rfl, SqL.of hN4, g10, (by show 2 ≤ sizeLine; decide), fun z hz => ?_⟩
      have sz := same_new (o := .tup [.int (ns.getD t[j].1.toNat 0), .int (ns.getD t[j].2.toNat 0)]) hz
      have hzz : upd H4 z (.tup [.int (ns.getD t[j].1.toNat 0), .int (ns.getD t[j].2.toNat 0)]) z = some _ := upd_same
      have tP5 := tP4.keep (fun o e => sz _ _ e) (Same.tp sz)
      have k5 : ∀ c o, c ≠ P → H2 c = some o → upd H4 z (.tup [.int (ns.getD t[j].1.toNat 0), .int (ns.getD t[j].2.toNat 0)]) c = some o := fun c o hc e => sz _ _ (k4 c o hc e)
      have hPz : P ≠ z := by
        obtain ⟨vv, e, _⟩ := tP4.ex
        exact ne_of_none e hz
      generalize upd H4 z (.tup [.int (ns.getD t[j].1.toNat 0), .int (ns.getD t[j].2.toNat 0)]) = H5 at hzz tP5 k5
      have ix := ix_lt g2 g3 g5 g6
      obtain ⟨vp, e1, e2⟩ := tP5.ex
      have lvp : vp.length = (s * s).toNat := by rw [DpAll.len e2, List.length_map, nmF_len]
      refine ⟨_, rfl, _, rfl, _, rfl, _, _, rfl, rfl, .inr ⟨by omega, by omega⟩, _, rfl, _, _, rfl, rfl, P, vp, _, (ns.getD ((j : Int) / s).toNat 0 * s + ns.getD ((j : Int) % s).toNat 0).toNat, rfl, rfl, e1, ?_, ?_⟩
      · unfold ixN
        rw [if_pos ix.1, if_pos (by rw [lvp]; omega)]
      · refine ⟨_, _, _, _, rfl, fun c o hc e => ?_, ⟨_, upd_same, ?_⟩⟩
        · rw [upd_ne hc]
          exact k5 c o hc e
        · have tp6 : Tp K H5 (upd H5 P (.lst (vp.set (ns.getD ((j : Int) / s).toNat 0 * s + ns.getD ((j : Int) % s).toNat 0).toNat (.ref z)))) := tp_upd (not_lst e1)
          rw [nmF_succ, nmStep, List.map_set]
          refine DpAll.set ?_ _ (DpAll.tp tp6 _ _ (noLAll_dP _) e2)
          have ez : t.getD j (0, 0) = t[j] := by simp [List.getD, et]
          rw [ez]
          refine dP_new ?_
          rw [upd_ne (Ne.symm hPz)]
          exact hzz
    · rintro σ H3 ⟨c6, c7, c8, c9, rfl, k3, tP⟩
      have tF3 : Tabs K H H3 F ls _ := tF.keep (fun x o hx e => k3 x o (fun z => hmP (z ▸ hx)) e) (sBut k3 hPP)
      rw [lva] at tP
      refine ⟨_, rfl, .inl ⟨rfl, _, SqL.of tF3.lst⟩, _, rfl, F, _, _, rfl, rfl, tF3.lst, ?_, ?_⟩
      · rw [List.length_map, ht.len, List.length_take, List.length_map]
        exact Nat.lt_of_le_of_lt (Nat.le_trans (Nat.min_le_right _ _) h10) (by decide)
      · refine ⟨_, _, _, _, _, _, ls ++ [P], rfl, fun c o e => ?_, ?_⟩
        · rw [upd_ne (ne_of_none e hF)]
          exact k3 _ _ (ne_of_none e hP0) (s2 _ _ e)
        · have ez : (ta.map (nameT s ns))[i]? = some (nameT s ns t) := by rw [List.getElem?_map, ht1]; rfl
          rw [List.take_add_one, ez]
          exact tF3.push tP hmP hP0
  · rintro σ H1 ⟨c4, c5, c6, c7, c8, c9, ls, rfl, s1, ht⟩
    have : (ta.map (nameT s ns)).take (la.map V.ref).length = ta.map (nameT s ns) := List.take_of_length_le (by rw [List.length_map, List.length_map, pr_len hA.tab]; omega)
    rw [this] at ht
    exact ⟨_, rfl, k F ls H1 s1 ht⟩
end Wf
/-! Good tables and books. -/
namespace Wf
open PySem PySem.Spec L2
theorem pairF_in {f s : Int} {st : Int × Int} {a b : Int} (hs : 1 ≤ s) (a0 : 0 ≤ a) (a1 : a < s) (b0 : 0 ≤ b) (b1 : b < s) : InP s (pairF f s st a b) := by
  unfold pairF InP
  have h1 := mod_lt (a := 2 * b - a) (b := s) (by omega)
  have h2 := mod_lt (a := b + st.2) (b := s) (by omega)
  have h3 := mod_lt (a := a + st.1) (b := s) (by omega)
  split
  · exact ⟨b0, b1, a0, a1⟩
  · split
    · exact ⟨a0, a1, b0, b1⟩
    · split
      · dsimp only
        split <;> split <;> exact ⟨by omega, by omega, by omega, by omega⟩
      · split
        · exact ⟨b0, b1, h1.1, h1.2⟩
        · exact ⟨h2.1, h2.2, h3.1, h3.2⟩
theorem iota_len (n : Int) : (iota n).length = n.toNat := by unfold iota; rw [List.length_map, List.length_range]
theorem div_in {s n : Int} (hs : 1 ≤ s) (h0 : 0 ≤ n) (h1 : n < s * s) : (0 ≤ n / s ∧ n / s < s) ∧ (0 ≤ n % s ∧ n % s < s) := ⟨⟨Int.ediv_nonneg h0 (by omega), Int.ediv_lt_of_lt_mul (by omega) h1⟩, mod_lt (by omega)⟩
theorem tabF_ok {f s : Int} {st : Int × Int} (hs : 1 ≤ s) : TabOk s (tabF f s st) := by
  have hss : 0 ≤ s * s := Int.mul_nonneg (by omega) (by omega)
  refine ⟨by unfold tabF; rw [List.length_map, iota_len]; omega, fun p hp => ?_⟩
  obtain ⟨n, hn, rfl⟩ := List.mem_map.mp hp
  obtain ⟨h0, h1⟩ := iota_mem.mp hn
  obtain ⟨⟨x1, x2⟩, x3, x4⟩ := div_in hs h0 h1
  exact pairF_in hs x1 x2 x3 x4
theorem PlainT.ok {m s : Int} {ts : List Tab} (hs : 1 ≤ s) (h : PlainT m s ts) : AllOk m s ts := by
  cases h with
  | all f sts f0 f4 hl hin =>
    refine ⟨by rw [List.length_map]; exact hl, fun t ht => ?_⟩
    obtain ⟨st, _, rfl⟩ := List.mem_map.mp ht
    exact tabF_ok hs
  | one sts i t hl hi ht =>
    refine ⟨by rw [List.length_set, List.length_map]; exact hl, fun x hx => ?_⟩
    rcases List.mem_or_eq_of_mem_set hx with hx | hx
    · obtain ⟨st, _, rfl⟩ := List.mem_map.mp hx
      exact tabF_ok hs
    · rw [hx]
      exact ht
theorem getD_in {s : Int} {t : Tab} (h : TabOk s t) {i : Int} (h0 : 0 ≤ i) (h1 : i < s * s) : InP s (t.getD i.toNat (0, 0)) := by
  have hl := h.len
  have hi : i.toNat < t.length := by omega
  have e : t.getD i.toNat (0, 0) = t[i.toNat] := by simp [List.getD, List.getElem?_eq_getElem hi]
  rw [e]
  exact h.inn _ (List.getElem_mem hi)
theorem sideT_ok {w r : Int} {t1 t2 : Tab} (w1 : 1 ≤ w) (r1 : 1 ≤ r) (h1 : TabOk w t1) (h2 : TabOk r t2) : TabOk (w * r) (sideT w r t1 t2) := by
  have wr1 : 1 ≤ w * r := by
    have := Int.mul_le_mul w1 r1 (by decide) (by omega)
    simpa using this
  have hss : 0 ≤ w * r * (w * r) := Int.mul_nonneg (by omega) (by omega)
  refine ⟨by unfold sideT; rw [List.length_map, iota_len]; omega, fun p hp => ?_⟩
  obtain ⟨n, hn, rfl⟩ := List.mem_map.mp hp
  obtain ⟨n0, n1⟩ := iota_mem.mp hn
  obtain ⟨⟨x1, x2⟩, x3, x4⟩ := div_in wr1 n0 n1
  have q3 : 0 ≤ n / (w * r) / r ∧ n / (w * r) / r < w := ⟨Int.ediv_nonneg x1 (by omega), Int.ediv_lt_of_lt_mul (by omega) x2⟩
  have q4 : 0 ≤ n % (w * r) / r ∧ n % (w * r) / r < w := ⟨Int.ediv_nonneg x3 (by omega), Int.ediv_lt_of_lt_mul (by omega) x4⟩
  have q5 := mod_lt (a := n / (w * r)) (b := r) (by omega)
  have q6 := mod_lt (a := n % (w * r)) (b := r) (by omega)
  have i1 := ix_lt q3.1 q3.2 q4.1 q4.2
  have i2 := ix_lt q5.1 q5.2 q6.1 q6.2
  have g1 := getD_in h1 i1.1 i1.2
  have g2 := getD_in h2 i2.1 i2.2
  unfold sideP
  dsimp only
  generalize t1.getD _ (0, 0) = c at g1
  generalize t2.getD _ (0, 0) = g at g2
  unfold InP at g1 g2 ⊢
  have e : ∀ x y : Int, 0 ≤ x → x < w → 0 ≤ y → y < r → 0 ≤ x * r + y ∧ x * r + y < w * r := fun x y a1 a2 b1 b2 => by
    have e1 : 0 ≤ x * r := Int.mul_nonneg a1 (by omega)
    have e2 : (x + 1) * r ≤ w * r := Int.mul_le_mul_of_nonneg_right (by omega) (by omega)
    have e3 : (x + 1) * r = x * r + r := by rw [Int.add_mul, Int.one_mul]
    constructor <;> omega
  have a := e c.1 g.1 g1.1 g1.2.1 g2.1 g2.2.1
  have b := e c.2 g.2 g1.2.2.1 g1.2.2.2 g2.2.2.1 g2.2.2.2
  exact ⟨a.1, a.2, b.1, b.2⟩
theorem nmF_ok {s : Int} {ns : List Int} {t : Tab} (hs : 1 ≤ s) (hp : ns.Perm (iota s)) (ht : TabOk s t) : ∀ k, k ≤ t.length → ∀ p ∈ nmF ns s t k, InP s p
  | 0, _ => fun p hp => by
    unfold nmF at hp
    rw [List.range_zero, List.foldl_nil] at hp
    rw [(List.mem_replicate.mp hp).2]
    exact ⟨by decide, by omega, by decide, by omega⟩
  | k + 1, hk => fun p hq => by
    rw [nmF_succ, nmStep] at hq
    rcases List.mem_or_eq_of_mem_set hq with hq | hq
    · exact nmF_ok hs hp ht k (by omega) p hq
    · have hkl : (k : Int) < s * s := by rw [← ht.len]; omega
      have g := getD_in ht (Int.natCast_nonneg k) hkl
      rw [Int.toNat_natCast] at g
      have g1 := perm_at hp g.1 g.2.1
      have g2 := perm_at hp g.2.2.1 g.2.2.2
      rw [hq]
      exact ⟨g1.2.1, g1.2.2, g2.2.1, g2.2.2⟩
theorem nameT_ok {s : Int} {ns : List Int} {t : Tab} (hs : 1 ≤ s) (hp : ns.Perm (iota s)) (ht : TabOk s t) : TabOk s (nameT s ns t) := by
  have hss : 0 ≤ s * s := Int.mul_nonneg (by omega) (by omega)
  exact ⟨by unfold nameT; rw [nmF_len]; omega, nmF_ok hs hp ht _ (Nat.le_refl _)⟩
/-- tables that are good by making -/
inductive GoodT (m s : Int) : List Tab → Prop
  | plain {ts : List Tab} : PlainT m s ts → GoodT m s ts
  | side {w r : Int} {ta tb : List Tab} : 1 ≤ w → 1 ≤ r → w * r = s → PlainT m w ta → PlainT m r tb → GoodT m s (List.zipWith (sideT w r) ta tb)
  | name {ts : List Tab} {ns : List Int} : GoodT m s ts → ns.Perm (iota s) → GoodT m s (ts.map (nameT s ns))
theorem GoodT.ok {m s : Int} {ts : List Tab} (hs : 1 ≤ s) (h : GoodT m s ts) : AllOk m s ts := by
  induction h with
  | plain h => exact h.ok hs
  | side w1 r1 e ha hb =>
    have oa := ha.ok w1
    have ob := hb.ok r1
    have la := oa.len
    have lb := ob.len
    refine ⟨by rw [List.length_zipWith]; omega, fun t ht => ?_⟩
    obtain ⟨i, hi⟩ := List.mem_iff_getElem?.mp ht
    rw [List.getElem?_zipWith] at hi
    revert hi
    split
    · rename_i x y hx hy
      intro hi
      cases hi
      rw [← e]
      exact sideT_ok w1 r1 (oa.ok _ (List.mem_of_getElem? hx)) (ob.ok _ (List.mem_of_getElem? hy))
    · intro hi
      cases hi
  | name h hp ih =>
    refine ⟨by rw [List.length_map]; exact ih.len, fun t ht => ?_⟩
    obtain ⟨u, hu, rfl⟩ := List.mem_map.mp ht
    exact nameT_ok hs hp (ih.ok u hu)
def sp_good (K : PySem.W.Frag) : Sp := fun vs H Q _ => ∃ (d l : Addr) (m s : Int), vs = [.ref d, .int m, .int s] ∧ 1 ≤ m ∧ m ≤ 5 ∧ 1 ≤ s ∧ s ≤ 6 ∧ Deal H d l ∧ GiveT K d l H Q (GoodT m s)
def t_good_a (K : PySem.W.Frag) (sp_draw : Sp) : TS := (tAsg (tIf (tTest (tOp rEq (tCall sp_draw [] E0 (tCons (tVar 0) (tCons (tC (.int 2)) (tNil)))) (tC (.int 0)))) (tOp (rIxL K) (tLst (tCons (tC (.int 1)) (tCons (tC (.int 1)) (tCons (tC (.int 1)) (tCons (tC (.int 1)) (tCons (tC (.int 2)) (tCons (tC (.int 1)) (tCons (tOp (rIxL K) (tLst (tCons (tC (.int 2)) (tCons (tC (.int 3)) (tNil)))) (tCall sp_draw [] E0 (tCons (tVar 0) (tCons (tC (.int 2)) (tNil))))) (tNil))))))))) (tVar 2)) (tC (.int 1))) (gName 3))
def t_good_c (K : PySem.W.Frag) (sp_draw : Sp) (sp_mixed : Sp) (sp_names_put : Sp) : TS := (tSeq (tIfS (tTest (tOp rEq (tCall sp_draw [] E0 (tCons (tVar 0) (tCons (tC (.int 2)) (tNil)))) (tC (.int 0)))) (tAsg (tCall sp_names_put [] E0 (tCons (tVar 4) (tCons (tVar 2) (tCons (tCall sp_mixed [] E0 (tCons (tVar 0) (tCons (tVar 2) (tNil)))) (tNil))))) (gName 4)) (tNext))
    (tRet (tVar 4)))
def t_good_b (K : PySem.W.Frag) (sp_draw : Sp) (sp_plain : Sp) (sp_side : Sp) (sp_mixed : Sp) (sp_names_put : Sp) : TS := tSeq (tAsg (tCall sp_plain [] E0 (tCons (tVar 0) (tCons (tVar 1) (tCons (tOp qFdiv (tVar 2) (tVar 3)) (tNil))))) (gName 4))
    (tSeq (tIfS (tTest (tOp qGt (tVar 3) (tC (.int 1)))) (tAsg (tCall sp_side [] E0 (tCons (tCall sp_plain [] E0 (tCons (tVar 0) (tCons (tVar 1) (tCons (tVar 3) (tNil))))) (tCons (tVar 4) (tCons (tVar 3) (tCons (tOp qFdiv (tVar 2) (tVar 3)) (tNil)))))) (gName 4)) (tNext))
    (t_good_c K sp_draw sp_mixed sp_names_put))
def t_good (K : PySem.W.Frag) (sp_draw : Sp) (sp_plain : Sp) (sp_side : Sp) (sp_mixed : Sp) (sp_names_put : Sp) : TS := tSeq (t_good_a K sp_draw) (t_good_b K sp_draw sp_plain sp_side sp_mixed sp_names_put)
theorem GiveT.mono {K : PySem.W.Frag} {d l : Addr} {H H1 : Hp} {Q : VK} {R : List Tab → Prop} (k : GiveT K d l H Q R) (b : But [d, l] H H1) (hD : Deal H d l) (F : Addr) (ls : List Addr) (ts : List Tab) (H' : Hp) (b1 : But [d, l] H1 H') (d1 : Deal H' d l) (t : Tabs K H1 H' F ls ts) (r : R ts) (nd : ∀ x ∈ F :: ls, x ≠ d ∧ x ≠ l) : Q (.ref F) H' :=
  k F ls ts H' (b.trans b1) d1 ⟨t.lst, t.tab, t.nd, b.none_of (nd F List.mem_cons_self) t.newF, fun x hx => b.none_of (nd x (List.mem_cons_of_mem _ hx)) (t.newL x hx)⟩ r
theorem Tabs.apart {K : PySem.W.Frag} {H1 H' : Hp} {F d l : Addr} {ls : List Addr} {ts : List Tab} (t : Tabs K H1 H' F ls ts) (hD : Deal H1 d l) : ∀ x ∈ F :: ls, x ≠ d ∧ x ≠ l := fun x hx => hD.ne (by
  rcases List.mem_cons.mp hx with rfl | hx
  · exact t.newF
  · exact t.newL x hx)
theorem Tabs.back {K : PySem.W.Frag} {H H1 H' : Hp} {F d l : Addr} {ls : List Addr} {ts : List Tab} (t : Tabs K H1 H' F ls ts) (b : But [d, l] H H1) (hD : Deal H1 d l) : Tabs K H H' F ls ts :=
  ⟨t.lst, t.tab, t.nd, b.none_of (t.apart hD F List.mem_cons_self) t.newF, fun x hx => b.none_of (t.apart hD x (List.mem_cons_of_mem _ hx)) (t.newL x hx)⟩
theorem Same.but {ds : List Addr} {H H' : Hp} (s : Same H H') : But ds H H' := fun a o _ e => s a o e
theorem Same.deal {H H' : Hp} {d l : Addr} (s : Same H H') (h : Deal H d l) : Deal H' d l := by
  obtain ⟨z1, z2, z3, z4, z5, z6, z7⟩ := h.ex
  exact ⟨z1, z2, z3, z4, s _ _ z5, s _ _ z6, z7⟩
theorem pure_good {K : PySem.W.Frag} (vs : List V) (H : Hp) (Q : VK) (E : XK) (h : sp_good K vs H Q E) : t_good K sp_draw (sp_plain K) (sp_side K) sp_mixed (sp_names K) (EndsQ Q) (sN 5 vs) H := by
  obtain ⟨d, l, m, s, rfl, m1, m5, s1, s6, hD, k⟩ := h
  show t_good K sp_draw (sp_plain K) (sp_side K) sp_mixed (sp_names K) _ [some (.ref d), some (.int m), some (.int s), none, none] H
  have hn := nT_le m1 m5
  have last : ∀ (z : V) (F : Addr) (ls : List Addr) (ts : List Tab) (H3 : Hp), But [d, l] H H3 → Deal H3 d l → Tabs K H H3 F ls ts → GoodT m s ts → t_good_c K sp_draw sp_mixed (sp_names K) (EndsQ Q) [some (.ref d), some (.int m), some (.int s), some z, some (.ref F)] H3 := by
    intro z F ls ts H3 b3 d3 t3 g3
    have ok3 := g3.ok s1
    have l3 := ok3.len
    refine ⟨_, rfl, d, l, 2, rfl, by decide, by decide, d3, fun c H4 c0 c1 b4 d4 => ⟨rfl, _, rfl, ?_⟩⟩
    have t4 := t3.but hD d3 b4
    by_cases hc : c = 0
    · subst hc
      simp only [decide_true, ↓reduceIte]
      refine ⟨_, rfl, _, rfl, _, rfl, _, rfl, d, l, s, rfl, by omega, by omega, d4, fun N ns H5 b5 d5 hNn hN hp => ?_⟩
      have t5 := t4.but hD d4 b5
      refine ⟨F, N, ls, ts, s, ns, rfl, t5.tl, hN, by omega, s1, s6, hp, ok3.ok, fun F2 ls2 H6 s6' t6 => ?_⟩
      have b6 := b3.trans (b4.trans b5)
      exact ⟨_, rfl, k F2 ls2 _ H6 (b6.trans (Same.but s6')) (Same.deal s6' d5) (t6.back b6 d5) (.name g3 hp)⟩
    · have : decide (V.int c = V.int 0) = false := decide_eq_false fun z => hc (V.int.inj z)
      rw [this]
      exact ⟨_, rfl, k F ls ts H4 (b3.trans b4) d4 t4 g3⟩
  have rest : ∀ (z r : Int) (H1 : Hp), 1 ≤ z → 1 ≤ r → z * r = s → s / z = r → z ≤ 6 → r ≤ 6 → But [d, l] H H1 → Deal H1 d l → t_good_b K sp_draw (sp_plain K) (sp_side K) sp_mixed (sp_names K) (EndsQ Q) [some (.ref d), some (.int m), some (.int s), some (.int z), none] H1 := by
    intro z r H1 z1 r1 zr sz z6 r6 b1 d1
    refine ⟨_, rfl, _, rfl, _, rfl, _, rfl, _, _, rfl, rfl, ⟨by omega, by omega⟩, d, l, m, r, by rw [← sz]; rfl, m1, m5, r1, r6, d1, fun F ls tb H2 b2 d2 t2 pb => ?_⟩
    have t2' := t2.back b1 d1
    have okb := pb.ok r1
    have lb := okb.len
    refine ⟨_, rfl, _, _, rfl, rfl, _, rfl, ?_⟩
    refine ifd (fun c => ?_) (fun c => ?_)
    · refine ⟨_, rfl, _, rfl, _, rfl, d, l, m, z, rfl, m1, m5, z1, z6, d2, fun F2 ls2 ta H3 b3 d3 t3 pa => ?_⟩
      have t3' := t2'.but hD d2 b3
      have oka := pa.ok z1
      have la := oka.len
      refine ⟨_, rfl, _, rfl, _, rfl, _, rfl, _, _, rfl, rfl, ⟨by omega, by omega⟩, F2, F, ls2, ls, ta, tb, z, r, by rw [← sz]; rfl, t3.tl, t3'.tl, by omega, by omega, z1, r1, z6, r6, by omega, oka.ok, okb.ok, fun F4 ls4 H4 s4 t4 => ?_⟩
      have b4 := b1.trans (b2.trans b3)
      exact last (.int z) F4 ls4 _ H4 (b4.trans (Same.but s4)) (Same.deal s4 d3) (t4.back b4 d3) (.side z1 r1 zr pa pb)
    · have hz : z = 1 := by omega
      have hr : r = s := by rw [← zr, hz, Int.one_mul]
      subst hr
      exact last (.int z) F ls tb H2 (b1.trans b2) d2 t2' (.plain pb)
  refine ⟨_, rfl, d, l, 2, rfl, by decide, by decide, hD, fun c H1 c0 c1 b1 d1 => ⟨rfl, _, rfl, ?_⟩⟩
  by_cases hc : c = 0
  · subst hc
    simp only [decide_true, ↓reduceIte]
    refine ⟨(by show 2 ≤ sizeLine; decide), fun L hL => ?_⟩
    have nL := d1.ne hL
    have hL0 : H L = none := b1.none_of nL hL
    refine ⟨_, rfl, d, l, 2, rfl, by decide, by decide, d1.upd nL, fun e H2 e0 e1 b2 d2 => ?_⟩
    have l2 := b2.at nL upd_same
    have b12 : But [d, l] H H2 := (b1.new hL0).trans b2
    have he : ∃ z, atI [V.int 2, .int 3] e = some (.int z) ∧ (z = 2 ∨ z = 3) := by
      have : e = 0 ∨ e = 1 := by omega
      rcases this with rfl | rfl
      · exact ⟨2, rfl, .inl rfl⟩
      · exact ⟨3, rfl, .inr rfl⟩
    obtain ⟨z, hz, hz2⟩ := he
    refine ⟨L, _, e, .int z, rfl, rfl, SqL.of l2, hz, (by show 7 ≤ sizeLine; decide), fun M hM => ?_⟩
    have nM := d2.ne hM
    have hM0 : H M = none := b12.none_of nM hM
    have hs : s = 1 ∨ s = 2 ∨ s = 3 ∨ s = 4 ∨ s = 5 ∨ s = 6 := by omega
    have b3 : But [d, l] H (upd H2 M (.lst [.int 1, .int 1, .int 1, .int 1, .int 2, .int 1, .int z])) := b12.new hM0
    have d3 : Deal (upd H2 M (.lst [.int 1, .int 1, .int 1, .int 1, .int 2, .int 1, .int z])) d l := d2.upd nM
    rcases hs with rfl | rfl | rfl | rfl | rfl | rfl
    · exact ⟨_, rfl, M, _, 1, .int 1, rfl, rfl, SqL.of upd_same, rfl, rest 1 1 _ (by decide) (by decide) rfl rfl (by decide) (by decide) b3 d3⟩
    · exact ⟨_, rfl, M, _, 2, .int 1, rfl, rfl, SqL.of upd_same, rfl, rest 1 2 _ (by decide) (by decide) rfl rfl (by decide) (by decide) b3 d3⟩
    · exact ⟨_, rfl, M, _, 3, .int 1, rfl, rfl, SqL.of upd_same, rfl, rest 1 3 _ (by decide) (by decide) rfl rfl (by decide) (by decide) b3 d3⟩
    · exact ⟨_, rfl, M, _, 4, .int 2, rfl, rfl, SqL.of upd_same, rfl, rest 2 2 _ (by decide) (by decide) rfl rfl (by decide) (by decide) b3 d3⟩
    · exact ⟨_, rfl, M, _, 5, .int 1, rfl, rfl, SqL.of upd_same, rfl, rest 1 5 _ (by decide) (by decide) rfl rfl (by decide) (by decide) b3 d3⟩
    · rcases hz2 with rfl | rfl
      · exact ⟨_, rfl, M, _, 6, .int 2, rfl, rfl, SqL.of upd_same, rfl, rest 2 3 _ (by decide) (by decide) rfl rfl (by decide) (by decide) b3 d3⟩
      · exact ⟨_, rfl, M, _, 6, .int 3, rfl, rfl, SqL.of upd_same, rfl, rest 3 2 _ (by decide) (by decide) rfl rfl (by decide) (by decide) b3 d3⟩
  · have : decide (V.int c = V.int 0) = false := decide_eq_false fun z => hc (V.int.inj z)
    rw [this]
    exact rest 1 s H1 (by decide) s1 (Int.one_mul s) (Int.ediv_one s) (by decide) s6 b1 d1
end Wf
/-! Books. -/
namespace Wf
open PySem PySem.Spec L2
/-- one place of a row that is paired changes -/
theorem pr_chg {α β : Type} {F G : α → β → Prop} {a : α} {b : β} : ∀ {as : List α} {bs : List β} {i : Nat}, Paired F as bs → as.Nodup → as[i]? = some a → G a b → (∀ x y, x ≠ a → F x y → G x y) → Paired G as (bs.set i b)
  | _, _, _, .nil, _, e, _, _ => by simp at e
  | _, _, 0, .cons h t, nd, e, k, f => by
    simp at e
    subst e
    exact .cons k (pr_mono t fun x y hx hy => f x y (fun z => (List.nodup_cons.mp nd).1 (z ▸ hx)) hy)
  | _, _, i + 1, .cons h t, nd, e, k, f => by
    have e' := (by simpa using e : _ = some a)
    exact .cons (f _ _ (fun z => (List.nodup_cons.mp nd).1 (z ▸ List.mem_of_getElem? e')) h) (pr_chg t (List.nodup_cons.mp nd).2 e' k f)
structure Book where
  ps : List Int
  s : Int
  ts : List Tab
def dT (t : Tab) : PyData := .tuple (t.map dP)
def dB (b : Book) : PyData := .tuple [dI b.ps, .int b.s, .tuple (b.ts.map dT)]
theorem noL_dT (t : Tab) : noL (dT t) = true := noLAll_dP t
theorem noLAll_dT : ∀ ts : List Tab, noLAll (ts.map dT) = true
  | [] => rfl
  | t :: ts => by simp [noLAll, noL_dT, noLAll_dT ts]
theorem noL_dI (ps : List Int) : noL (dI ps) = true := noLAll_ints ps
theorem noL_dB (b : Book) : noL (dB b) = true := by
  show (noL (dI b.ps) && (true && (noLAll (b.ts.map dT) && true))) = true
  rw [noL_dI, noLAll_dT]
  rfl
structure BookOk (m : Int) (b : Book) : Prop where
  pac : PacesOk m b.ps
  m1 : 1 ≤ m
  m5 : m ≤ 5
  s1 : 1 ≤ b.s
  s6 : b.s ≤ 6
  tab : AllOk m b.s b.ts
structure BookT (m s form : Int) (ts : List Tab) : Prop where
  ok : AllOk m s ts
  good : form = 1 → GoodT m s ts
  near : form = 2 → ∃ ts0, GoodT m s ts0 ∧ (ts = ts0 ∨ ∃ (i j : Nat) (p : Int × Int) (t : Tab), ts0[i]? = some t ∧ j < t.length ∧ InP s p ∧ ts = ts0.set i (t.set j p))
def sp_book (K : PySem.W.Frag) : Sp := fun vs H Q _ => ∃ (d l : Addr) (m s f : Int), vs = [.ref d, .int m, .int s, .int f] ∧ 1 ≤ m ∧ m ≤ 5 ∧ 1 ≤ s ∧ s ≤ 6 ∧ Deal H d l ∧
  ∀ (v : V) (ps : List Int) (ts : List Tab) (H' : Hp), But [d, l] H H' → Deal H' d l → Dp K H' v (dB ⟨ps, s, ts⟩) → PacesOk m ps → BookT m s f ts → Q v H'
def t_book_c (K : PySem.W.Frag) : TS := tRet (tTup (tCons (tVar 4) (tCons (tVar 2) (tCons (tCB (qTupleOf K) (tCons (tLc (iList K (tVar 5)) (gName 6) (tYes) (tCB (qTupleOf K) (tCons (tVar 6) (tNil))) [6]) (tNil))) (tNil)))))
def t_book_b (K : PySem.W.Frag) (sp_draw : Sp) : TS := (tIfS (tAnd (tTest (tOp rEq (tVar 3) (tC (.int 2)))) (tTest (tOp qGt (tCB (qLen K) (tCons (tVar 5) (tNil))) (tC (.int 0))))) (tSeq (tAsg (tOp (rIxL K) (tVar 5) (tCall sp_draw [] E0 (tCons (tVar 0) (tCons (tCB (qLen K) (tCons (tVar 5) (tNil))) (tNil))))) (gName 6))
    (tAsg (tTup (tCons (tCall sp_draw [] E0 (tCons (tVar 0) (tCons (tVar 2) (tNil)))) (tCons (tCall sp_draw [] E0 (tCons (tVar 0) (tCons (tVar 2) (tNil)))) (tNil)))) (gSub (tVar 6) (tCall sp_draw [] E0 (tCons (tVar 0) (tCons (tCB (qLen K) (tCons (tVar 6) (tNil))) (tNil)))) rSetL))) (tNext))
def t_book (K : PySem.W.Frag) (sp_paces : Sp) (sp_any : Sp) (sp_good : Sp) (sp_draw : Sp) : TS := tSeq (tAsg (tCall sp_paces [] E0 (tCons (tVar 0) (tCons (tVar 1) (tNil)))) (gName 4))
    (tSeq (tAsg (tIf (tTest (tOp rEq (tVar 3) (tC (.int 0)))) (tCall sp_any [] E0 (tCons (tVar 0) (tCons (tVar 1) (tCons (tVar 2) (tNil))))) (tCall sp_good [] E0 (tCons (tVar 0) (tCons (tVar 1) (tCons (tVar 2) (tNil)))))) (gName 5))
    (tSeq (t_book_b K sp_draw)
    (t_book_c K)))
theorem pure_book {K : PySem.W.Frag} (vs : List V) (H : Hp) (Q : VK) (E : XK) (h : sp_book K vs H Q E) : t_book K (sp_paces K) (sp_any K) (sp_good K) sp_draw (EndsQ Q) (sN 7 vs) H := by
  obtain ⟨d, l, m, s, f, rfl, m1, m5, s1, s6, hD, k⟩ := h
  show t_book K (sp_paces K) (sp_any K) (sp_good K) sp_draw _ [some (.ref d), some (.int m), some (.int s), some (.int f), none, none, none] H
  have hn := nT_le m1 m5
  refine ⟨_, rfl, _, rfl, d, l, m, rfl, m1, m5, hD, fun v ps H1 b1 d1 hv pok => ?_⟩
  -- the end: paces and tables as a book
  have last : ∀ (c6 : Option V) (F : Addr) (ls : List Addr) (ts : List Tab) (H3 : Hp), But [d, l] H H3 → Deal H3 d l → Tabs K H1 H3 F ls ts → Dp K H3 v (dI ps) → BookT m s f ts → t_book_c K (EndsQ Q) [some (.ref d), some (.int m), some (.int s), some (.int f), some v, some (.ref F), c6] H3 := by
    intro c6 F ls ts H3 b3 d3 t3 hv3 bt
    have lt := bt.ok.len
    refine ⟨_, rfl, _, rfl, _, rfl, F, rfl, ⟨_, SqL.of t3.lst⟩, fun D hDn => ?_⟩
    refine lc_list (K := K) (a := F) (xs := ls.map V.ref) (fun i H4 => Same H3 H4 ∧ ∃ vs, H4 D = some (.lst vs) ∧ DpAll K H4 vs ((ts.take i).map dT)) ?_ ?_ ?_ ?_
    · exact ⟨same_new hDn, [], upd_same, .nil⟩
    · rintro i H4 _ ⟨s4, _⟩
      exact SqL.of (s4 _ _ t3.lst)
    · rintro i x H4 hx ⟨s4, us, e1, e2⟩
      rw [List.getElem?_map] at hx
      obtain ⟨a, ha, rfl⟩ := Option.map_eq_some_iff.mp hx
      obtain ⟨t, ht1, ta1⟩ := pr_get (t3.same s4).tab ha
      obtain ⟨ws, g1, g2⟩ := ta1.ex
      refine ⟨rfl, ?_⟩
      simp only [tYes, ↓reduceIte]
      refine ⟨_, rfl, a, ws, rfl, .inl ⟨SqL.of g1, fun q hq => ?_⟩⟩
      have sq := same_new (o := .tup ws) hq
      have hqq : upd H4 q (.tup ws) q = some (.tup ws) := upd_same
      have hDq : D ≠ q := ne_of_none e1 hq
      generalize upd H4 q (.tup ws) = H5 at sq hqq
      have e1' := sq _ _ e1
      have lu : us.length = i := by
        rw [DpAll.len e2, List.length_map, List.length_take]
        have := (List.getElem?_eq_some_iff.mp ht1).1
        omega
      refine ⟨us, e1', ?_, ?_⟩
      · rw [lu]
        have := (List.getElem?_eq_some_iff.mp ht1).1
        exact Nat.lt_of_le_of_lt (show i ≤ 10 by omega) (by decide)
      · refine ⟨fun c o e => ?_, us ++ [.ref q], upd_same, ?_⟩
        · rw [upd_ne (ne_of_none e hDn)]
          exact sq _ _ (s4 _ _ e)
        · have tp6 : Tp K H5 (upd H5 D (.lst (us ++ [.ref q]))) := tp_upd (not_lst e1')
          have tp46 := (Same.tp sq).trans tp6
          rw [List.take_add_one, ht1, List.map_append]
          refine DpAll.append (DpAll.tp tp46 _ _ (noLAll_dT _) e2) (.cons (.tup (SqT.of ?_) (DpAll.tp tp46 _ _ (noLAll_dP t) g2)) .nil)
          rw [upd_ne (Ne.symm hDq)]
          exact hqq
    · rintro H4 ⟨s4, us, e1, e2⟩
      have el : ts.take (ls.map V.ref).length = ts := List.take_of_length_le (by rw [List.length_map, t3.len]; exact Nat.le_refl _)
      rw [el] at e2
      refine ⟨D, us, rfl, .inl ⟨SqL.of e1, fun q hq => ?_⟩⟩
      have sq := same_new (o := .tup us) hq
      have hqq : upd H4 q (.tup us) q = some (.tup us) := upd_same
      generalize upd H4 q (.tup us) = H5 at sq hqq
      refine ⟨(by show 3 ≤ sizeLine; decide), fun r hr => ?_⟩
      have sr := same_new (o := .tup [v, .int s, .ref q]) hr
      have s35 := s4.trans (sq.trans sr)
      refine k _ ps ts _ (b3.trans (Same.but s35)) (Same.deal s35 d3) (.tup (SqT.of upd_same) (.cons (Dp.tp (Same.tp s35) _ _ (noL_dI ps) hv3) (.cons (.int s) (.cons (.tup (SqT.of (sr _ _ hqq)) (DpAll.tp (Same.tp (sq.trans sr)) _ _ (noLAll_dT ts) e2)) .nil)))) pok bt
  have mid : ∀ (F : Addr) (ls : List Addr) (ts : List Tab) (H2 : Hp), But [d, l] H H2 → Deal H2 d l → Tabs K H1 H2 F ls ts → Dp K H2 v (dI ps) → AllOk m s ts → (f ≠ 0 → GoodT m s ts) → tSeq (t_book_b K sp_draw) (t_book_c K) (EndsQ Q) [some (.ref d), some (.int m), some (.int s), some (.int f), some v, some (.ref F), none] H2 := by
    intro F ls ts H2 b2 d2 t2 hv2 ok g
    have lt := ok.len
    have plain : BookT m s f ts := ⟨ok, fun e => g (by omega), fun e => ⟨ts, g (by omega), .inl rfl⟩⟩
    refine ⟨_, rfl, rfl, _, rfl, ?_⟩
    by_cases hf : f = 2
    · subst hf
      simp only [decide_true, ↓reduceIte]
      refine ⟨_, rfl, _, (ls.map V.ref).length, rfl, .inl ⟨_, SqL.of t2.lst, rfl⟩, _, _, rfl, rfl, _, rfl, ?_⟩
      refine ifd (fun c => ?_) (fun c => ?_)
      · have cl : 0 < ls.length := by
          rw [List.length_map] at c
          omega
        refine ⟨_, rfl, _, rfl, _, rfl, _, (ls.map V.ref).length, rfl, .inl ⟨_, SqL.of t2.lst, rfl⟩, d, l, _, rfl, by rw [List.length_map]; omega, by rw [List.length_map, t2.len]; omega, d2, fun q H3 q0 q1 b3 d3 => ?_⟩
        rw [List.length_map] at q1
        have t3 := t2.but d1 d2 b3
        have hq : q.toNat < ls.length := by omega
        have ea : ls[q.toNat]? = some ls[q.toNat] := List.getElem?_eq_getElem hq
        generalize ls[q.toNat] = a at ea
        obtain ⟨t, ht1, ta3⟩ := pr_get t3.tab ea
        have okt := ok.ok t (List.mem_of_getElem? ht1)
        have hss := ss_le s1 s6
        have ltt := okt.len
        refine ⟨F, _, q, .ref a, rfl, rfl, SqL.of t3.lst, ?_, ?_⟩
        · unfold atI ixN
          rw [if_pos q0, if_pos (by rw [List.length_map]; exact q1)]
          show (ls.map V.ref)[q.toNat]? = _
          rw [List.getElem?_map, ea]
          rfl
        · refine ⟨_, rfl, _, rfl, d, l, s, rfl, by omega, by omega, d3, fun x H4 x0 x1 b4 d4 => ?_⟩
          refine ⟨_, rfl, _, rfl, d, l, s, rfl, by omega, by omega, d4, fun y H5 y0 y1 b5 d5 => ?_⟩
          refine ⟨(by show 2 ≤ sizeLine; decide), fun p hp => ?_⟩
          have t5 := t3.but d1 d3 (b4.trans b5)
          have sp := same_new (o := .tup [.int x, .int y]) hp
          have hpp : upd H5 p (.tup [.int x, .int y]) p = some (.tup [.int x, .int y]) := upd_same
          have b6 : But [d, l] H (upd H5 p (.tup [.int x, .int y])) := (b2.trans (b3.trans (b4.trans b5))).trans (Same.but sp)
          have d6 : Deal (upd H5 p (.tup [.int x, .int y])) d l := Same.deal sp d5
          have hv6 : Dp K (upd H5 p (.tup [.int x, .int y])) v (dI ps) := Dp.tp (((b3.trans (b4.trans b5)).tp d2.noT).trans (Same.tp sp)) _ _ (noL_dI ps) hv2
          have t6 := t5.same sp
          generalize upd H5 p (.tup [.int x, .int y]) = H6 at hpp b6 d6 hv6 t6
          obtain ⟨t', ht1', ta6⟩ := pr_get t6.tab ea
          rw [ht1] at ht1'
          cases ht1'
          obtain ⟨va, e1, e2⟩ := ta6.ex
          have lva : va.length = t.length := by rw [DpAll.len e2, List.length_map]
          refine ⟨_, rfl, _, rfl, _, rfl, _, va.length, rfl, .inl ⟨_, SqL.of e1, rfl⟩, d, l, _, rfl, by omega, by omega, d6, fun z H7 z0 z1 b7 d7 => ?_⟩
          have t7 := t6.but d1 d6 b7
          have na := t6.apart d1 a (List.mem_cons_of_mem _ (List.mem_of_getElem? ea))
          have e1' := b7.at na e1
          have tp7 : Tp K H6 H7 := b7.tp d6.noT
          have np := d6
          have hp7 : H7 p = some (.tup [.int x, .int y]) := by
            have : SqT K H7 p [.int x, .int y] := tp7 _ _ (SqT.of hpp)
            refine b7.at ⟨fun w => ?_, fun w => ?_⟩ hpp
            · exact (d6.noT d (by simp)) _ (.inl (w ▸ hpp))
            · exact (d6.noT l (by simp)) _ (.inl (w ▸ hpp))
          have e27 := DpAll.tp tp7 _ _ (noLAll_dP t) e2
          refine ⟨a, va, z, z.toNat, rfl, rfl, e1', ?_, ?_⟩
          · unfold ixN
            rw [if_pos z0, if_pos z1]
          · have tp8 : Tp K H7 (upd H7 a (.lst (va.set z.toNat (.ref p)))) := tp_upd (not_lst e1')
            have hF := List.nodup_cons.mp t7.nd
            have hFa : F ≠ a := fun w => hF.1 (w ▸ List.mem_of_getElem? ea)
            have ta8 : TabAt K (upd H7 a (.lst (va.set z.toNat (.ref p)))) a (t.set z.toNat (x, y)) := by
              refine ⟨_, upd_same, ?_⟩
              rw [List.map_set]
              refine DpAll.set (dP_new ?_) _ (DpAll.tp tp8 _ _ (noLAll_dP t) e27)
              rw [upd_ne (show p ≠ a from ne_of hp7 e1' (by intro w; cases w))]
              exact hp7
            have t8 : Tabs K H1 (upd H7 a (.lst (va.set z.toNat (.ref p)))) F ls (ts.set q.toNat (t.set z.toNat (x, y))) := by
              refine ⟨by rw [upd_ne hFa]; exact t7.lst, ?_, t7.nd, t7.newF, t7.newL⟩
              refine pr_chg t7.tab hF.2 ea ta8 fun c b hc hb => hb.keep (fun o e => ?_) tp8
              rw [upd_ne hc]
              exact e
            have okz : TabOk s (t.set z.toNat (x, y)) := ⟨by rw [List.length_set]; exact okt.len, fun w hw => by
              rcases List.mem_or_eq_of_mem_set hw with hw | hw
              · exact okt.inn w hw
              · rw [hw]
                exact ⟨x0, x1, y0, y1⟩⟩
            have na7 := d7.noT
            refine last _ F ls _ _ (fun c o hc e => ?_) (d7.upd na) t8 (Dp.tp (tp7.trans tp8) _ _ (noL_dI ps) hv6) ⟨⟨by rw [List.length_set]; exact lt, fun w hw => ?_⟩, fun e => absurd e (by decide), fun _ => ⟨ts, g (by decide), .inr ⟨q.toNat, z.toNat, (x, y), t, ht1, by omega, ⟨x0, x1, y0, y1⟩, rfl⟩⟩⟩
            · have := t6.newL a (List.mem_of_getElem? ea)
              rw [upd_ne (show c ≠ a from fun w => by rw [w] at e; rw [b1.at na e] at this; cases this)]
              exact (b6.trans b7) c o hc e
            · rcases List.mem_or_eq_of_mem_set hw with hw | hw
              · exact ok.ok w hw
              · rw [hw]
                exact okz
      · exact last none F ls ts H2 b2 d2 t2 hv2 plain
    · have : decide (V.int f = V.int 2) = false := decide_eq_false fun z => hf (V.int.inj z)
      rw [this]
      exact last none F ls ts H2 b2 d2 t2 hv2 plain
  refine ⟨_, rfl, rfl, _, rfl, ?_⟩
  by_cases hf : f = 0
  · subst hf
    simp only [decide_true, ↓reduceIte]
    refine ⟨_, rfl, _, rfl, _, rfl, d, l, m, s, rfl, m1, m5, s1, s6, d1, fun F ls ts H2 b2 d2 t2 ok => ?_⟩
    exact mid F ls ts H2 (b1.trans b2) d2 t2 (Dp.tp (b2.tp d1.noT) _ _ (noL_dI ps) hv) ok fun z => absurd rfl z
  · have : decide (V.int f = V.int 0) = false := decide_eq_false fun z => hf (V.int.inj z)
    rw [this]
    refine ⟨_, rfl, _, rfl, _, rfl, d, l, m, s, rfl, m1, m5, s1, s6, d1, fun F ls ts H2 b2 d2 t2 gt => ?_⟩
    exact mid F ls ts H2 (b1.trans b2) d2 t2 (Dp.tp (b2.tp d1.noT) _ _ (noL_dI ps) hv) (gt.ok s1) fun _ => gt
end Wf
/-! The deal made. -/
namespace Wf
open PySem PySem.Spec L2
def sp_deal (K : PySem.W.Frag) : Sp := fun vs H Q _ => ∃ (a : Addr) (b : Int) (ns : List Int), vs = [.ref a, .int b] ∧ SqL K H a (ns.map V.int) ∧ 0 ≤ b ∧ b ≤ 63 ∧ ns.length ≤ 1000 ∧
  ∀ (d l : Addr) (H' : Hp), Same H H' → H d = none → H l = none → Deal H' d l → Q (.ref d) H'
theorem cut_ints (ns : List Int) (lo hi : Option Int) : ∃ ms : List Int, cutV (ns.map V.int) lo hi = ms.map V.int ∧ ms.length ≤ ns.length := by
  refine ⟨(ns.drop (HT.sIx (ns.map V.int).length 0 lo)).take (HT.sIx (ns.map V.int).length (ns.map V.int).length hi - HT.sIx (ns.map V.int).length 0 lo), ?_, ?_⟩
  · unfold cutV
    rw [List.map_take, List.map_drop]
  · rw [List.length_take, List.length_drop]
    omega
theorem putK_new {kvs : List (Key × V)} {k : Key} {v : V} (h : valV kvs k = none) : putK kvs k v = kvs ++ [(k, v)] := by
  unfold putK
  rw [valV_any, h]
  rfl
def four (s m n l : V) : List (Key × V) := [(Sum.inr "seed", s), (Sum.inr "many", m), (Sum.inr "now", n), (Sum.inr "left", l)]
theorem merge4 (s m n l : V) : mergeK [] (four s m n l) = four s m n l := by
  unfold four
  unfold mergeK
  simp only [List.foldl]
  rw [putK_new (kvs := []) valV_nil]
  simp only [List.nil_append]
  rw [putK_new (kvs := [(Sum.inr (Str.ofString "seed"), s)]) ((valV_neg (key_ne (by decide +kernel))).trans valV_nil)]
  simp only [List.cons_append, List.nil_append]
  rw [putK_new (kvs := [(Sum.inr (Str.ofString "seed"), s), (Sum.inr (Str.ofString "many"), m)]) ((valV_neg (key_ne (by decide +kernel))).trans ((valV_neg (key_ne (by decide +kernel))).trans valV_nil))]
  simp only [List.cons_append, List.nil_append]
  rw [putK_new (kvs := [(Sum.inr (Str.ofString "seed"), s), (Sum.inr (Str.ofString "many"), m), (Sum.inr (Str.ofString "now"), n)]) ((valV_neg (key_ne (by decide +kernel))).trans ((valV_neg (key_ne (by decide +kernel))).trans ((valV_neg (key_ne (by decide +kernel))).trans valV_nil)))]
  rfl
def t_deal (K : PySem.W.Frag) : TS :=
  tSeq (tAsg (tLc (iList K (tSl (rSlL K) (tVar 0) (tPart (tVar 1)) (tPart (tC (.int 63))))) (gName 4) (tYes) (tCB (qMax2) (tCons (tVar 4) (tCons (tOp qSub (tC (.int 0)) (tVar 4)) (tNil)))) [4]) (gName 2))
    (tSeq (tAsg (tOp qAdd (tC (.int 104729)) (tOp qMul (tC (.int 31)) (tVar 1))) (gName 3))
    (tSeq (tFor (iList K (tVar 2)) (gName 4) (tAsg (tOp qMod (tOp qAdd (tOp qAdd (tOp qMul (tVar 3) (tC (.int 69623))) (tOp qMod (tVar 4) (tC (.int 2147483629)))) (tC (.int 1))) (tC (.int 2147483647))) (gName 3)))
    (tRet (tDisp ((tC (.str "seed"), tOp qAdd (tVar 3) (tC (.int 1))) :: ((tC (.str "many"), tC (.int 0)) :: ((tC (.str "now"), tC (.int 0)) :: ((tC (.str "left"), Wf.tLstRev K (tLc (iList K (tVar 2)) (gName 4) (tTest (tOp qGe (tVar 4) (tOp qPow (tC (.int 10)) (tC (.int 18))))) (tVar 4) [4])) :: ([])))))))))
theorem pure_deal {K : PySem.W.Frag} (vs : List V) (H : Hp) (Q : VK) (E : XK) (h : sp_deal K vs H Q E) : t_deal K (EndsQ Q) (sN 5 vs) H := by
  obtain ⟨a, b, ns, rfl, hS, b0, b1, hns, k⟩ := h
  show t_deal K _ [some (.ref a), some (.int b), none, none, none] H
  refine ⟨_, rfl, _, rfl, _, rfl, 63, rfl, a, _, rfl, hS, fun p hp => ?_⟩
  obtain ⟨ms, e, hms⟩ := cut_ints ns (some b) (some 63)
  rw [e]
  have sp := same_new (o := .lst (ms.map V.int)) hp
  have hpp : upd H p (.lst (ms.map V.int)) p = some (.lst (ms.map V.int)) := upd_same
  generalize upd H p (.lst (ms.map V.int)) = H1 at sp hpp
  refine ⟨p, rfl, ⟨_, SqL.of hpp⟩, fun D hD => ?_⟩
  have hDp : p ≠ D := ne_of_none hpp hD
  have hD0 : H D = none := sp.free hD
  refine lc_list (K := K) (a := p) (xs := ms.map V.int) (fun i H2 => Same H1 H2 ∧ ∃ zs : List Int, H2 D = some (.lst (zs.map V.int)) ∧ zs.length = i ∧ ∀ z ∈ zs, 0 ≤ z) ?_ ?_ ?_ ?_
  · exact ⟨same_new hD, [], upd_same, rfl, fun z hz => (List.not_mem_nil hz).elim⟩
  · rintro i H2 _ ⟨s2, _⟩
    exact SqL.of (s2 _ _ hpp)
  · rintro i x H2 hx ⟨s2, zs, e1, hl, hz⟩
    rw [List.getElem?_map] at hx
    obtain ⟨y, hy, rfl⟩ := Option.map_eq_some_iff.mp hx
    refine ⟨rfl, ?_⟩
    simp only [tYes, ↓reduceIte]
    refine ⟨_, rfl, _, rfl, _, _, rfl, rfl, _, _, rfl, _, e1, ?_, ?_⟩
    · rw [List.length_map, hl]
      have := (List.getElem?_eq_some_iff.mp hy).1
      exact Nat.lt_of_le_of_lt (show i ≤ 1000 by omega) (by decide)
    · refine ⟨fun c o e => ?_, zs ++ [if 0 - y > y then 0 - y else y], ?_, by simp [hl], fun z hq => ?_⟩
      · rw [upd_ne (ne_of_none e hD)]
        exact s2 _ _ e
      · rw [upd_same, List.map_append]
        rfl
      · rcases List.mem_append.mp hq with hq | hq
        · exact hz z hq
        · rw [List.mem_singleton.mp hq]
          split <;> omega
  · rintro H2 ⟨s2, zs, e1, hl, hz⟩
    refine ⟨_, rfl, _, _, rfl, rfl, .inl ⟨by decide, by decide⟩, _, _, rfl, rfl, ?_⟩
    refine ⟨_, rfl, D, rfl, ⟨_, SqL.of e1⟩, for_list (K := K) (a := D) (xs := zs.map V.int) (fun i σ H3 => ∃ (w : Int) (c4 : Option V), σ = [some (.ref a), some (.int b), some (.ref D), some (.int w), c4] ∧ H3 = H2) ?_ ?_ ?_ ?_⟩
    · exact ⟨_, none, rfl, rfl⟩
    · rintro i σ H3 _ ⟨w, c4, rfl, rfl⟩
      exact SqL.of e1
    · rintro i x σ H3 hx ⟨w, c4, rfl, rfl⟩
      rw [List.getElem?_map] at hx
      obtain ⟨y, hy, rfl⟩ := Option.map_eq_some_iff.mp hx
      exact ⟨_, rfl, _, _, rfl, rfl, .inr ⟨by decide, by decide⟩, _, rfl, _, _, rfl, rfl, mp rfl, _, _, rfl, rfl, _, _, rfl, rfl, _, _, rfl, rfl, mp rfl, _, _, rfl, rfl⟩
    · rintro σ H3 ⟨w, c4, rfl, rfl⟩
      intro d hd
      refine ⟨_, rfl, _, _, rfl, rfl, ?_⟩
      have sd := same_new (o := .dK []) hd
      have hdd : upd H3 d (.dK []) d = some (.dK []) := upd_same
      generalize upd H3 d (.dK []) = H4 at sd hdd
      have e4 := sd _ _ e1
      refine ⟨_, rfl, D, rfl, ⟨_, SqL.of e4⟩, fun G hG => ?_⟩
      refine lc_list (K := K) (a := D) (xs := zs.map V.int) (fun i H5 => Same H4 H5 ∧ ∃ gs : List Int, H5 G = some (.lst (gs.map V.int)) ∧ gs.length ≤ i ∧ ∀ z ∈ gs, 0 ≤ z) ?_ ?_ ?_ ?_
      · exact ⟨same_new hG, [], upd_same, Nat.le_refl _, fun z hz => (List.not_mem_nil hz).elim⟩
      · rintro i H5 _ ⟨s5, _⟩
        exact SqL.of (s5 _ _ e4)
      · rintro i x H5 hx ⟨s5, gs, g1, gl, gz⟩
        rw [List.getElem?_map] at hx
        obtain ⟨y, hy, rfl⟩ := Option.map_eq_some_iff.mp hx
        refine ⟨rfl, _, rfl, _, _, rfl, rfl, ⟨by decide, by decide, by decide⟩, _, _, rfl, rfl, _, rfl, ?_⟩
        refine ifd (fun c => ?_) (fun c => ?_)
        · refine ⟨_, rfl, _, g1, ?_, ?_⟩
          · rw [List.length_map]
            have := (List.getElem?_eq_some_iff.mp hy).1
            rw [List.length_map] at hl
            exact Nat.lt_of_le_of_lt (show gs.length ≤ 1000 by omega) (by decide)
          · refine ⟨fun c o e => ?_, gs ++ [y], ?_, by simp; omega, fun z hq => ?_⟩
            · rw [upd_ne (ne_of_none e hG)]
              exact s5 _ _ e
            · rw [upd_same, List.map_append]
              rfl
            · rcases List.mem_append.mp hq with hq | hq
              · exact gz z hq
              · rw [List.mem_singleton.mp hq]
                exact hz y (List.mem_of_getElem? hy)
        · exact ⟨s5, gs, g1, by omega, gz⟩
      · rintro H5 ⟨s5, gs, g1, gl, gz⟩
        refine ⟨G, _, rfl, SqL.of g1, fun L hL => ?_⟩
        have sL := same_new (o := .lst (gs.map V.int).reverse) hL
        have hdL := s5 _ _ hdd
        have hLd : d ≠ L := ne_of_none hdL hL
        refine ⟨by rw [upd_ne hLd]; exact hdL, four (.int (w + 1)) (.int 0) (.int 0) (.ref L), rfl, (by show 4 ≤ 15; decide), ?_⟩
        rw [merge4]
        have hL0 : H L = none := (sp.trans (s2.trans (sd.trans s5))).free hL
        have hd0 : H d = none := (sp.trans s2).free hd
        refine k d L _ (fun c o e => ?_) hd0 hL0 ⟨w + 1, 0, 0, gs.reverse, upd_same, ?_, by decide, fun z hq => gz z (List.mem_reverse.mp hq)⟩
        · rw [upd_ne (ne_of_none e hd0), upd_ne (ne_of_none e hL0)]
          exact (sp.trans (s2.trans (sd.trans s5))) _ _ e
        · rw [upd_ne (Ne.symm hLd), upd_same, List.map_reverse]
end Wf
/-! Tuples as data: places, slices, sums; the program's pair_at and with_pair. -/
namespace Wf
open PySem PySem.Spec L2
section
variable {K : PySem.W.Frag} {H : Hp} {Q : VK} {t x y : V} {ds es : List PyData} {d : PyData}
theorem DpAll.drop : ∀ {vs : List V} {ds : List PyData} (n : Nat), DpAll K H vs ds → DpAll K H (vs.drop n) (ds.drop n)
  | _, _, 0, h => h
  | _, _, _ + 1, .nil => .nil
  | _, _, n + 1, .cons _ h => DpAll.drop n h
theorem DpAll.take : ∀ {vs : List V} {ds : List PyData} (n : Nat), DpAll K H vs ds → DpAll K H (vs.take n) (ds.take n)
  | _, _, 0, _ => .nil
  | _, _, _ + 1, .nil => .nil
  | _, _, n + 1, .cons h t => .cons h (DpAll.take n t)
def cutD (ds : List PyData) (lo hi : Option Int) : List PyData := (ds.drop (HT.sIx ds.length 0 lo)).take (HT.sIx ds.length ds.length hi - HT.sIx ds.length 0 lo)
end
/-! ### put_in -/
end Wf
/-! pair_at, with_pair; what the law says of them. -/
namespace Wf
open PySem PySem.Spec L2
def tnum (u v : Int) : Int := u * (u - 1) / 2 + v
/-- a place of a book -/
structure Pl (m s u v a b : Int) : Prop where
  u0 : 1 ≤ u
  u1 : u < m
  v0 : 0 ≤ v
  v1 : v < u
  a0 : 0 ≤ a
  a1 : a < s
  b0 : 0 ≤ b
  b1 : b < s
theorem tnum_lt {m u v : Int} (m5 : m ≤ 5) (u0 : 1 ≤ u) (u1 : u < m) (v0 : 0 ≤ v) (v1 : v < u) : 0 ≤ tnum u v ∧ tnum u v < nT m := by
  unfold tnum nT
  have hm : m = 2 ∨ m = 3 ∨ m = 4 ∨ m = 5 := by omega
  have hu : u = 1 ∨ u = 2 ∨ u = 3 ∨ u = 4 := by omega
  rcases hu with rfl | rfl | rfl | rfl <;> rcases hm with rfl | rfl | rfl | rfl <;> simp <;> omega
def Book.tab (B : Book) (u v : Int) : Tab := B.ts.getD (tnum u v).toNat []
def Book.at (B : Book) (u v a b : Int) : Int × Int := (B.tab u v).getD (a * B.s + b).toNat (0, 0)
def Book.put (B : Book) (u v a b : Int) (p : Int × Int) : Book := { B with ts := B.ts.set (tnum u v).toNat ((B.tab u v).set (a * B.s + b).toNat p) }
section
variable {K : PySem.W.Frag} {H : Hp} {t : V} {B : Book} {m u v a b : Int}
theorem Book.row (ok : BookOk m B) (pl : Pl m B.s u v a b) : B.ts[(tnum u v).toNat]? = some (B.tab u v) ∧ TabOk B.s (B.tab u v) := by
  have h := tnum_lt ok.m5 pl.u0 pl.u1 pl.v0 pl.v1
  have hl := ok.tab.len
  have hi : (tnum u v).toNat < B.ts.length := by omega
  have e : B.ts[(tnum u v).toNat]? = some B.ts[(tnum u v).toNat] := List.getElem?_eq_getElem hi
  have g : B.tab u v = B.ts[(tnum u v).toNat] := by unfold Book.tab; simp [List.getD, e]
  rw [g]
  exact ⟨e, ok.tab.ok _ (List.getElem_mem hi)⟩
theorem Book.cell (ok : BookOk m B) (pl : Pl m B.s u v a b) : (B.tab u v)[(a * B.s + b).toNat]? = some (B.at u v a b) ∧ InP B.s (B.at u v a b) := by
  have ht := (Book.row ok pl).2
  have hl := ht.len
  have hx := ix_lt pl.a0 pl.a1 pl.b0 pl.b1
  have hi : (a * B.s + b).toNat < (B.tab u v).length := by omega
  have e : (B.tab u v)[(a * B.s + b).toNat]? = some (B.tab u v)[(a * B.s + b).toNat] := List.getElem?_eq_getElem hi
  have g : B.at u v a b = (B.tab u v)[(a * B.s + b).toNat] := by unfold Book.at; simp [List.getD, e]
  rw [g]
  exact ⟨e, ht.inn _ (List.getElem_mem hi)⟩
theorem atI_map {α β : Type} {xs : List α} {f : α → β} {i : Int} {x : α} (h0 : 0 ≤ i) (h : xs[i.toNat]? = some x) : atI (xs.map f) i = some (f x) := by
  have hi := (List.getElem?_eq_some_iff.mp h).1
  unfold atI ixN
  rw [if_pos h0, if_pos (by rw [List.length_map]; omega)]
  show (xs.map f)[i.toNat]? = _
  rw [List.getElem?_map, h]
  rfl
end
end Wf
/-! law k03: what is due, right, the law. -/
namespace Wf
open PySem PySem.Spec L2
structure Rows (K : PySem.W.Frag) (H : Hp) (F : Addr) (ts : List Tab) : Prop where
  ex : ∃ vs, H F = some (.lst vs) ∧ DpAll K H vs (ts.map dT)
theorem Rows.same {K : PySem.W.Frag} {H H' : Hp} {F : Addr} {ts : List Tab} (h : Rows K H F ts) (s : Same H H') : Rows K H' F ts := by
  obtain ⟨vs, e1, e2⟩ := h.ex
  exact ⟨vs, s _ _ e1, DpAll.tp (Same.tp s) _ _ (noLAll_dT _) e2⟩
end Wf
/-! Data of small numbers and tuples: shown, short, of small weight and depth. -/
namespace Wf
open PySem PySem.Spec L2
end Wf
/-! for k, x in enumerate(t), t a tuple -/
namespace Wf
open PySem PySem.Spec
open AutoSeq1 (wpAny_loadPart')
theorem meets_enumT (l : Addr) (ws : Array Value) (n : Nat) (dd : Option Addr) (sl : Array (Option Value)) :
    Meets (Builtin.«enumerate.__new__» ⟨[.type "enumerate", .ref l], []⟩) (fun _ R s => s.heap.get? l = some { cls := .type "tuple", dict := dd, data := .seq ws n, slots := sl } ∧
      R (.ok (.ret (.ref (s.heap.push { cls := .type "tuple_iterator", data := .fields #[.ref l, .int 0 0] }).objs.size)))
        { s with heap := (s.heap.push { cls := .type "tuple_iterator", data := .fields #[.ref l, .int 0 0] }).push { cls := .type "enumerate", data := .fields #[.none, .bool false, .ref s.heap.objs.size, rawInt 0, .none, .none] } }) :=
  .of_wp fun prog w A R s hq => by
    obtain ⟨hp, gn, dr, tk, os⟩ := s; obtain ⟨hl, hq⟩ := hq
    have hsubE := sub_enumerate
    have hL : Heap.IsTuple (Shared.heap ⟨hp, gn, dr, tk, os⟩) l ws := ⟨_, hl, rfl, n, rfl⟩
    wp_walk using wpAny_loadPart' hl
    refine wpAny_stack_any fun stk => wpAny_pure ?_
    split
    · rename_i cc _ _ _ _ _
      cases (cc == Value.type "enumerate") <;> (wp_walk using wpAny_loadPart' hl, wpAny_pyIter_tuple hL; exact ⟨_, rfl, hq⟩)
    · wp_walk using wpAny_loadPart' hl, wpAny_pyIter_tuple hL
      exact ⟨_, rfl, hq⟩
section
variable {prog : Program} {w : World} {A : Around} {E : Value → Shared → Prop} {s : Shared}
theorem call_enumT {l : Addr} {ws : Array Value} {Q : Value → Shared → Prop} (hL : s.heap.IsTuple l ws)
    (k : ∀ h', IsEnum h' (s.heap.objs.size + 1) s.heap.objs.size 0 .none → h'.IsTupleIter s.heap.objs.size l 0 → h'.objs.size = s.heap.objs.size + 2 →
      (∀ b o, s.heap.get? b = some o → h'.get? b = some o) → Q (.ref (s.heap.objs.size + 1)) { s with heap := h' }) :
    wpAny (model prog w) A (call (.type "enumerate") [.ref l]) Q E s := by
  obtain ⟨⟨c, dd, dt, sl⟩, hl, hc, n, hd⟩ := hL
  replace hc : c = .type "tuple" := hc
  replace hd : dt = .seq ws n := hd
  subst hc hd
  refine callType_new F.called_enumerate (by decide) (F.typeCall_enumerate_1 _) (F.newCall_enumerate_1 _) (fun ob => F.args_object_init_2 ob _) F.entry_enumerate_new
    (meets_enumT l ws n dd sl) ⟨hl, ?_⟩
  have z1 : (s.heap.push { cls := .type "tuple_iterator", data := .fields #[.ref l, .int 0 0] }).objs.size = s.heap.objs.size + 1 := Heap.size_push ..
  show _ ∧ _
  rw [z1]
  have en : IsEnum ((s.heap.push { cls := .type "tuple_iterator", data := .fields #[.ref l, .int 0 0] }).push
      { cls := .type "enumerate", data := .fields #[.none, .bool false, .ref s.heap.objs.size, rawInt 0, .none, .none] }) (s.heap.objs.size + 1) s.heap.objs.size 0 .none := by
    have g := Heap.get?_push_size (s.heap.push { cls := .type "tuple_iterator", data := .fields #[.ref l, .int 0 0] })
      (o := { cls := .type "enumerate", data := .fields #[.none, .bool false, .ref s.heap.objs.size, rawInt 0, .none, .none] }) rfl
    rw [z1] at g
    exact g
  exact ⟨⟨_, en, rfl⟩, k _ en ⟨_, Heap.get?_push_of_some _ (Heap.get?_push_size _ rfl), rfl, rfl⟩ (by rw [Heap.size_push, z1]) fun b o e => Heap.get?_push_of_some _ (Heap.get?_push_of_some _ e)⟩
theorem enumT_end {e it l : Addr} {i : Nat} {ws : Array Value} {c : Int} {old : Value} {Q : Option Value → Shared → Prop} (hh : A.handled = none)
    (en : IsEnum s.heap e it c old) (hit : s.heap.IsTupleIter it l i) (hl : s.heap.IsTuple l ws) (hx : ws[i]? = none)
    (k : ∀ h', Heap.ExtBut it s.heap h' → Q none { s with heap := h' }) : wpAny (model prog w) A (pyNext (.ref e)) Q E s := by
  have ty : s.TypeIs (.ref e) "enumerate" := ⟨_, en, rfl⟩
  unfold pyNext
  refine wpAny_bind (wpAny_attempt (wpAny_callSpecial?_slot (name := Str.ofString "__next__") ty F.slot_enumerate_next (wpAny_call_entry F.slot_enumerate_next ty F.entry_enumerate_next ?_ (F.args_enumerate_next_1 _))))
  show wpAny _ _ (field (.ref e) 2 >>= _) _ _ _
  refine wpAny_bind (wpAny_field en rfl (x := .ref it) rfl (wpAny_bind (wpAny_nextOf_tuple_end hh hit hl hx fun h' x eb hx' => ?_)))
  obtain ⟨o, ho, hc⟩ := hx'
  exact wpAny_bind (wpAny_isInstance (T := "StopIteration") (b := true) ⟨o, ho, hc⟩ isSubtype_stop (wpAny_pure (k _ eb)))
end
end Wf
namespace Wf
open PySem PySem.Spec PyProof.Rows L2
/-- what is walked: the tuple at a, each thing in a new pair with its number -/
def ItT (K : PySem.W.Frag) (a : Addr) : It :=
  ⟨fun i H => ∃ (xs : List V) (x : V), SqT K H a xs ∧ xs[i]? = some x, fun i H v H' => ∃ T x, v = .ref T ∧ H T = none ∧ H' = upd H T (.tup [.int (i : Nat), x]) ∧ ∀ xs, SqT K H a xs → xs[i]? = some x, fun i H => ∃ xs : List V, SqT K H a xs ∧ xs.length ≤ i⟩
theorem apart_cls {h : Heap} {a b : Addr} {o u : Obj} {m n : String} (ha : h.get? a = some o) (hb : h.get? b = some u) (ho : o.cls = .type m) (hu : u.cls = .type n) (d : m ≠ n) : a ≠ b := fun e => by
  subst e
  rw [ha] at hb
  cases hb
  rw [ho] at hu
  exact d (by injection hu)
theorem turn_enumT {P : Program} {w : World} {K : PySem.W.Frag} {elts : List Expr} {kk : Nat} {tpos : Pos} (a e it : Addr) :
    Turn P w K (.Tuple elts kk tpos) (ItT K a) [e, it] e (fun i h => (∃ old, IsEnum h e it ((i : Nat) : Int) old) ∧ h.IsTupleIter it a i ∧ e ≠ it) where
  mem := by simp
  obj := fun i h st b hb => by
    obtain ⟨⟨old, en⟩, ⟨o, ho, hc, hd⟩, _⟩ := st
    have eb : b = e ∨ b = it := by simpa using hb
    rcases eb with rfl | rfl
    · exact ⟨_, en, fun v q => nomatch q⟩
    · exact ⟨o, ho, fun v q => by rw [hd] at q; cases q⟩
  keep := fun i h h' st kp => let ⟨⟨old, en⟩, hi, ne⟩ := st; ⟨⟨old, kp e (by simp) _ en⟩, hi.at fun o q => kp it (by simp) o q, ne⟩
  item := by
    intro X hP hw hK hc i pins s σ H E I hf st hg
    subst hP hw hK
    obtain ⟨⟨old, en⟩, hit, ne⟩ := st
    obtain ⟨xs, x, hq, hx⟩ := hg
    obtain ⟨its, rv, p, hz⟩ := I.tuple hq
    have pT : s.heap.IsTuple a its.toArray := p
    obtain ⟨u, hu, ru⟩ := rv.get hx
    have lx : i < xs.length := (List.getElem?_eq_some_iff.mp hx).1
    have lr := rv.length
    have hel : e < s.heap.objs.size := Heap.lt_size en
    have hil : it < s.heap.objs.size := by obtain ⟨_, q, _⟩ := hit; exact Heap.lt_size q
    have ae : e ≠ a := by
      obtain ⟨o, ho, hoc, _⟩ := pT
      exact apart_cls en ho rfl hoc (by decide)
    have ai : a ≠ it := by
      obtain ⟨o, ho, hoc, _⟩ := pT
      obtain ⟨o2, ho2, hoc2, _⟩ := hit
      exact apart_cls ho ho2 hoc hoc2 (by decide)
    refine wpAny_pyNext_enum_itemD (Draws.tuple (show X.A.in1.handled = none from I.ok.hd hc) it a ai its.toArray) en ⟨hit, pT⟩ (by simp; omega) ne (by simp [ne, ae]) fun y h' tk hy ho hst hT hsz hk => ?_
    have yu : y = u := by
      have : its[i]? = some y := by simpa using hy
      rw [hu] at this
      exact (Option.some.inj this).symm
    subst yu
    refine ⟨_, rfl, wpAny_letOwnedTupleGo_enum (s := { s with heap := h', toks := tk + 1 }) ho fun h2 en2 sb => ?_⟩
    have hT2 : h2.get? s.heap.objs.size = some { cls := .type "tuple", data := .seq #[.int i tk, y] } := (sb.2 _ (Nat.ne_of_gt hel)).trans hT
    have ok2 : ObjOk X.prog X.w (upd H s.heap.objs.size (.tup [.int (i : Nat), x])) h2 s.heap.objs.size (.tup [.int (i : Nat), x]) :=
      ⟨by show 2 ≤ sizeLine; decide, [.int i tk, y], .cons ⟨_, rfl⟩ (.cons ru .nil), ⟨_, hT2, rfl, _, rfl⟩⟩
    have I2 : Inv X pins σ (upd H s.heap.objs.size (.tup [.int (i : Nat), x])) { s with heap := h2, toks := tk + 1 } :=
      I.turnedNew (ch := [e, it]) (fun b ob hb q => (sb.2 b (fun z => hb (by simp [z]))).trans (hk b ob (fun z => hb (by simp [z])) (fun z => hb (by simp [z])) q)) hf (Nat.le_refl _) ok2
    refine ⟨.ref s.heap.objs.size, _, I2, rfl, ⟨_, x, rfl, I.hok.fresh (Nat.le_refl _), rfl, fun ys hy2 => by rw [I.tuple_inj hy2 hq]; exact hx⟩, ⟨⟨y, ?_⟩, hst.1.at fun o q => (sb.2 it (Ne.symm ne)).trans q, ne⟩, fun b hb => ?_⟩
    · rw [show ((i + 1 : Nat) : Int) = (i : Int) + 1 by omega]
      exact en2
    · have lb : b < s.heap.objs.size := by
        have eb : b = e ∨ b = it := by simpa using hb
        rcases eb with rfl | rfl
        · exact hel
        · exact hil
      rw [upd_ne (Nat.ne_of_lt lb)]
      exact (hf b hb).1
  done := by
    intro X hP hw hK hc i pins s σ H E I hf st hg
    subst hP hw hK
    obtain ⟨⟨old, en⟩, hit, ne⟩ := st
    obtain ⟨xs, hq, hx⟩ := hg
    obtain ⟨its, rv, p, hz⟩ := I.tuple hq
    have pT : s.heap.IsTuple a its.toArray := p
    obtain ⟨f0, f1, f2, f3, f4, f5⟩ := hf it (by simp)
    have lr := rv.length
    have ai : a ≠ it := by
      obtain ⟨o, ho, hoc, _⟩ := pT
      obtain ⟨o2, ho2, hoc2, _⟩ := hit
      exact apart_cls ho ho2 hoc hoc2 (by decide)
    refine enumT_end (I.ok.hd hc) en hit pT (by simp; omega) fun h' eb => ⟨rfl, I.turned (t' := s.toks) (fun b o hb q => eb b o hb q) f0 f1 f3 f4 f5⟩
  self := fun A i s Q E st h => let ⟨⟨_, en⟩, _⟩ := st; wpAny_pyIter_enum en h
end Wf
/-! Own errors over an own base over ValueError: their __init__, raised, caught. -/
namespace Wf
open PySem PySem.Spec PyProof.Rows L2
/-! ### readings may be widened -/
def up (ta : TA) : TA := fun σ H Q => ∃ Q' : List V → Hp → Prop, ta σ H Q' ∧ ∀ vs H1, Q' vs H1 → Q vs H1
/-! ### __init__(self, f1, f2): the base's, then both fields -/
/-! ### calls of defs that may raise -/
/-! ### isinstance of the caught error, its fields told -/
end Wf
/-! Keys that are tuples of tuples of numbers; dicts told by their one object. -/
namespace Wf
open PySem PySem.Spec L2
section
variable (P : Program) (w : World)
inductive ItR (h : Heap) : List (List Int) → List Value → Prop
  | nil : ItR h [] []
  | cons {l : List Int} {b : Addr} {ks : List (List Int)} {vs : List Value} : IsTupleKey (intKind P w) h l b → ItR h ks vs → ItR h (l :: ks) (.ref b :: vs)
def IsRow (h : Heap) (ks : List (List Int)) (a : Addr) : Prop := ∃ o items n, h.get? a = some o ∧ o.cls = .type "tuple" ∧ o.data = .seq items n ∧ ItR P w h ks items.toList
end
def numHash (l : List Int) : Int := reduceHash (Builtin.Tuple.tupleHashOf (l.map hashInt))
def rowHash (ks : List (List Int)) : Int := reduceHash (Builtin.Tuple.tupleHashOf (ks.map numHash))
def rowDraws (ks : List (List Int)) : Nat := (ks.map fun l => l.length + 1).sum + 1
section
variable {P : Program} {w : World} {A : Around} {E : Value → Shared → Prop} {s : Shared}
theorem ItR.inj {h : Heap} {x y : List (List Int)} {vs : List Value} (hx : ItR P w h x vs) (hy : ItR P w h y vs) : x = y := by
  induction hx generalizing y with
  | nil => cases hy; rfl
  | cons h1 _ ih =>
    cases hy with
    | cons h2 t2 => rw [h1.inj h2, ih t2]
theorem IsRow.typeIs {ks : List (List Int)} {a : Addr} (x : IsRow P w s.heap ks a) : s.TypeIs (.ref a) "tuple" := let ⟨o, _, _, ho, hc, _⟩ := x; ⟨o, ho, hc⟩
theorem IsRow.inj {h : Heap} {a : Addr} {x y : List (List Int)} (hx : IsRow P w h x a) (hy : IsRow P w h y a) : x = y := by
  obtain ⟨o, items, n, ho, _, hd, hi⟩ := hx
  obtain ⟨o', items', n', ho', _, hd', hi'⟩ := hy
  obtain rfl : o = o' := Option.some.inj (ho.symm.trans ho')
  rw [hd] at hd'
  injection hd' with h1 _
  subst h1
  exact hi.inj hi'
theorem ItR.keeps {h h' : Heap} {d : Addr} {o : Obj} {es ep} (ho : h.get? d = some o) (hd : o.data = .dict es ep) (hs : Heap.SameBut d h h') {ks : List (List Int)} {vs : List Value} (x : ItR P w h ks vs) : ItR P w h' ks vs := by
  induction x with
  | nil => exact .nil
  | cons h1 _ ih => exact .cons (h1.keeps ho hd hs) ih
theorem IsRow.keeps {h h' : Heap} {ks : List (List Int)} {a d : Addr} {o : Obj} {es ep} (x : IsRow P w h ks a) (ho : h.get? d = some o) (hd : o.data = .dict es ep) (hs : Heap.SameBut d h h') : IsRow P w h' ks a := by
  obtain ⟨o', items, n, ho', hc, hd', hi⟩ := x
  have hne : a ≠ d := by
    rintro rfl
    obtain rfl : o' = o := Option.some.inj (ho'.symm.trans ho)
    rw [hd] at hd'; exact nomatch hd'
  exact ⟨o', items, n, (hs.2 a hne).trans ho', hc, hd', hi.keeps ho hd hs⟩
theorem hash_row {ks : List (List Int)} {a : Addr} {Q : Int → Shared → Prop} (hu : A.units + 2 < cLine) (hk : IsRow P w s.heap ks a) (h : Q (rowHash ks) { s with toks := s.toks + rowDraws ks }) :
    wpAny (model P w) A (pyHash (.ref a)) Q E s := by
  have hT := hk.typeIs
  obtain ⟨o, items, n, ho, _, hd, hi⟩ := hk
  unfold pyHash
  first | unfold pyHashByItsType | skip
  first | refine wpAny_bind (wpAny_cRoomFor_or (.inr (by omega)) ?_) | skip
  refine wpAny_bind (wpAny_specialOf hT F.slot_tuple_hash.lookup ?_)
  show wpAny _ _ (if (some (Value.builtin "tuple.__hash__") == some Value.none) = true then _ else _) Q E s
  rw [if_neg (by rw [beq_builtin_none]; exact Bool.false_ne_true)]
  refine wpAny_bind (wpAny_specialOf hT F.slot_tuple_hash.lookup ?_)
  show wpAny _ _ (callSpecialIfBoundUnlessNone? (.ref a) "__hash__" _ >>= _) Q E s
  refine wpAny_bind (wpAny_callSpecialIfBoundUnlessNone?_slot hT F.slot_tuple_hash (wpAny_call_entry F.slot_tuple_hash hT F.entry_tuple_hash ?_ (F.args_tuple_hash_1 _)))
  show wpAny _ _ (Builtin.Tuple.tupleItemsOf (.ref a) >>= _) _ _ s
  refine wpAny_bind (wpAny_tupleItemsOf ho hd ?_)
  refine wpAny_bind ?_
  rw [← Array.forIn_toList]
  refine wpAny_forIn_list _
    (fun rest (b : Array Int) s' => ∃ done left, ks = done ++ left ∧ ItR P w s.heap left rest ∧ b.toList = done.map numHash ∧ s' = { s with toks := s.toks + (done.map fun l => l.length + 1).sum })
    _ ?_ ?_ _ _ ⟨[], ks, rfl, hi, rfl, rfl⟩
  · rintro x rest b s' ⟨done, left, rfl, hl, hb, rfl⟩
    cases hl with
    | @cons k c ks' _ h1 hl' =>
      refine wpAny_bind (wpAny_pyHash_tuple (by show A.units + 1 < cLine; omega) h1 ?_)
      first
        | exact wpAny_pure ⟨done ++ [k], ks', by simp, hl', by simp [hb, numHash, tupleKeyHash, intKind], by simp [Nat.add_assoc]⟩
        | exact wpAny_bind (wpAny_pure (wpAny_pure ⟨done ++ [k], ks', by simp, hl', by simp [hb, numHash, tupleKeyHash, intKind], by simp [Nat.add_assoc]⟩))
  · rintro b s' ⟨done, left, rfl, hl, hb, rfl⟩
    cases hl
    rw [List.append_nil] at h
    show wpAny _ _ (retInt (Builtin.Tuple.tupleHashOf b.toList)) _ _ _
    rw [hb]
    refine wpAny_ret_mkInt ?_
    show wpAny _ _ (if (decide (-(2 : Int) ^ 63 ≤ Builtin.Tuple.tupleHashOf (done.map numHash)) && decide (Builtin.Tuple.tupleHashOf (done.map numHash) < 2 ^ 63)) = true then _ else _) Q E _
    unfold rowHash reduceHash rowDraws at h
    by_cases hr : (decide (-(2 : Int) ^ 63 ≤ Builtin.Tuple.tupleHashOf (done.map numHash)) && decide (Builtin.Tuple.tupleHashOf (done.map numHash) < 2 ^ 63)) = true
    · rw [if_pos hr]
      rw [if_pos hr] at h
      exact wpAny_pure (by simpa [Nat.add_assoc] using h)
    · rw [if_neg hr]
      rw [if_neg hr] at h
      exact wpAny_bind (wpAny_rule (wpAny_pure (by simpa [Nat.add_assoc] using h)))
theorem row_eq_tree {x y : List (List Int)} {a b : Addr} {R : Fin → Shared → Prop} (hu : A.units < cLine) (hx : IsRow P w s.heap x a) (hy : IsRow P w s.heap y b) (h : R (.done (.ret (.bool (decide (x = y))))) s) :
    wpAny (model P w) A (Builtin.«tuple.__eq__» ⟨[.ref a, .ref b], []⟩) R E s := by
  have hTb := hy.typeIs
  obtain ⟨oa, xs, na, hoa, _, hda, hia⟩ := hx
  obtain ⟨ob, ys, nb, hob, _, hdb, hib⟩ := hy
  show wpAny _ _ (isInstance (.ref b) (.type "tuple") >>= _) _ _ s
  refine wpAny_bind (wpAny_isInstance hTb isSubtype_tuple_tuple ?_)
  simp only [Bool.not_true, Bool.false_eq_true, if_false]
  refine wpAny_bind (wpAny_tupleItemsOf hoa hda ?_)
  refine wpAny_bind (wpAny_tupleItemsOf hob hdb ?_)
  refine wpAny_bind ?_
  refine wpAny_forIn_list _
    (fun rest r s' => r.1 = none ∧ s' = s ∧ ∃ x' y' xs' ys', rest = List.zip xs' ys' ∧ ItR P w s.heap x' xs' ∧ ItR P w s.heap y' ys' ∧ decide (x' = y') = decide (x = y) ∧ (xs'.length == ys'.length) = (xs.size == ys.size))
    _ ?_ ?_ _ _ ⟨rfl, rfl, x, y, xs.toList, ys.toList, rfl, hia, hib, rfl, by simp⟩
  · rintro ⟨u, v⟩ rest r s' ⟨hr, rfl, x', y', xs', ys', hz, hx', hy', hdec, hlen⟩
    cases hx' with
    | nil => simp at hz
    | @cons k1 u' x'' xs'' h1 hx'' =>
      cases hy' with
      | nil => simp at hz
      | @cons k2 v' y'' ys'' h2 hy'' =>
        simp only [List.zip_cons_cons, List.cons.injEq, Prod.mk.injEq] at hz
        obtain ⟨⟨rfl, rfl⟩, rfl⟩ := hz
        refine wpAny_bind (wpAny_eqBool_tuple hu h1 h2 ?_)
        by_cases hk : k1 = k2
        · subst hk
          rw [decide_eq_true rfl]
          simp only [Bool.not_true, Bool.false_eq_true, if_false]
          refine wpAny_pure ⟨rfl, rfl, x'', y'', xs'', ys'', rfl, hx'', hy'', ?_, by simpa using hlen⟩
          rw [← hdec]
          by_cases hxy : x'' = y''
          · simp [hxy]
          · simp [hxy]
        · rw [decide_eq_false hk]
          simp only [Bool.not_false, if_true]
          have hf : decide (x = y) = false := by rw [← hdec]; simp [hk]
          rw [hf] at h
          exact wpAny_bind (wpAny_pure (wpAny_pure (wpAny_pure h)))
  · rintro ⟨r1, r2⟩ s' ⟨hr, rfl, x', y', xs', ys', hz, hx', hy', hdec, hlen⟩
    simp only at hr
    subst hr
    refine wpAny_pure ?_
    have hfin : (xs.size == ys.size) = decide (x = y) := by
      rw [← hdec, ← hlen]
      cases hx' with
      | nil =>
        cases hy' with
        | nil => simp
        | cons _ _ => simp
      | cons _ _ =>
        cases hy' with
        | nil => simp
        | cons _ _ => simp at hz
    show R (.done (.ret (.bool (xs.size == ys.size)))) s'
    rw [hfin]; exact h
theorem eq_row {x y : List (List Int)} {a b : Addr} {Q : Bool → Shared → Prop} (hu : A.units + 2 < cLine) (hx : IsRow P w s.heap x a) (hy : IsRow P w s.heap y b) (h : Q (decide (x = y)) s) :
    wpAny (model P w) A (eqBool (.ref a) (.ref b)) Q E s := by
  unfold eqBool
  try with_reducible refine wpAny_holding ?_
  show wpAny _ _ (if (Value.ref a == Value.ref b) = true then _ else _) Q E s
  by_cases hab : (Value.ref a == Value.ref b) = true
  · rw [if_pos hab]
    have e : a = b := by have := eq_of_beq hab; injection this
    subst e
    obtain rfl := hx.inj hy
    exact wpAny_bind (wpAny_rule (wpAny_pure (by simpa using h)))
  · rw [if_neg hab]
    exact wpAny_bind (wpAny_richCompare_same_room (op := .Eq) hx.typeIs hy.typeIs F.slot_tuple_eq
      (wpAny_call_entry F.slot_tuple_eq hx.typeIs F.entry_tuple_eq (row_eq_tree (by show A.units + 1 < cLine; omega) hx hy ⟨_, rfl, (fun e => nomatch e), wpAny_truthy_bool h⟩) (F.args_tuple_eq_2 _ _)) (by omega))
theorem quiet_num {ks : List Int} {a : Addr} {n : Nat} {Q : Bool → Shared → Prop} (hk : IsTupleKey (intKind P w) s.heap ks a) (h : Q true s) : wpAny (model P w) A (eqIsQuiet (n + 1) (.ref a)) Q E s := by
  have hT := hk.typeIs
  obtain ⟨o, items, n, ho, _, hd, hi⟩ := hk
  unfold eqIsQuiet
  refine wpAny_bind (wpAny_specialOf hT F.slot_tuple_eq.lookup ?_)
  show wpAny _ _ (isInstance (.ref a) (.type "tuple") >>= _) _ _ s
  refine wpAny_bind (wpAny_isInstance hT isSubtype_tuple_tuple ?_)
  simp only [Bool.not_true, Bool.false_eq_true, if_false]
  refine wpAny_bind (wpAny_seqItems ho hd ?_)
  refine wpAny_bind ?_
  show wpAny _ _ (forIn items _ _) _ _ s
  rw [← Array.forIn_toList]
  refine wpAny_forIn_list _ (fun rest r s' => r.1 = none ∧ s' = s ∧ ∀ v ∈ rest, carriedByValue v = true) _ ?_ ?_ _ _ ⟨rfl, rfl, hi.byValue⟩
  · rintro v rest r s' ⟨hr, rfl, hall⟩
    rw [eqIsQuiet_byValue _ (hall v List.mem_cons_self)]
    refine wpAny_bind (wpAny_pure ?_)
    simp only [Bool.not_true, Bool.false_eq_true, if_false]
    exact wpAny_pure ⟨rfl, rfl, fun u hu' => hall u (List.mem_cons_of_mem _ hu')⟩
  · rintro ⟨r1, r2⟩ s' ⟨hr, rfl, _⟩
    simp only at hr
    subst hr
    exact wpAny_pure h
theorem quiet_row {ks : List (List Int)} {a : Addr} {Q : Bool → Shared → Prop} (hk : IsRow P w s.heap ks a) (h : Q true s) : wpAny (model P w) A (eqIsQuiet 8 (.ref a)) Q E s := by
  have hT := hk.typeIs
  obtain ⟨o, items, n, ho, _, hd, hi⟩ := hk
  unfold eqIsQuiet
  refine wpAny_bind (wpAny_specialOf hT F.slot_tuple_eq.lookup ?_)
  show wpAny _ _ (isInstance (.ref a) (.type "tuple") >>= _) _ _ s
  refine wpAny_bind (wpAny_isInstance hT isSubtype_tuple_tuple ?_)
  simp only [Bool.not_true, Bool.false_eq_true, if_false]
  refine wpAny_bind (wpAny_seqItems ho hd ?_)
  refine wpAny_bind ?_
  show wpAny _ _ (forIn items _ _) _ _ s
  rw [← Array.forIn_toList]
  refine wpAny_forIn_list _ (fun rest r s' => r.1 = none ∧ s' = s ∧ ∃ ks', ItR P w s.heap ks' rest) _ ?_ ?_ _ _ ⟨rfl, rfl, ks, hi⟩
  · rintro v rest r s' ⟨hr, rfl, ks', hall⟩
    cases hall with
    | cons h1 h2 =>
      refine wpAny_bind (quiet_num h1 ?_)
      simp only [Bool.not_true, Bool.false_eq_true, if_false]
      exact wpAny_pure ⟨rfl, rfl, _, h2⟩
  · rintro ⟨r1, r2⟩ s' ⟨hr, rfl, _⟩
    simp only at hr
    subst hr
    exact wpAny_pure h
end
def rowKind (P : Program) (w : World) : HeapKind P w (List (List Int)) where
  is := IsRow P w
  hash := rowHash
  draws := rowDraws
  room := fun A => A.units + 2 < cLine
  inj := fun hx hy => hx.inj hy
  keeps := fun x ho hd hs => x.keeps ho hd hs
  pyHash := fun hu hk h => hash_row hu hk h
  eqBool := fun hu hx hy h => eq_row hu hx hy h
  quiet := fun hk h => quiet_row hk h
/-- the keys: tuples of numbers, rows -/
abbrev KyT : Bool → Type
  | false => List Int
  | true => List (List Int)
instance kyDec : (r : Bool) → DecidableEq (KyT r)
  | false => inferInstanceAs (DecidableEq (List Int))
  | true => inferInstanceAs (DecidableEq (List (List Int)))
def kyHash : (r : Bool) → KyT r → Int
  | false => numHash
  | true => rowHash
def kyKind (P : Program) (w : World) : (r : Bool) → HeapKind P w (KyT r)
  | false => tupleKind (intKind P w)
  | true => rowKind P w
theorem kyKind_hash {P : Program} {w : World} : ∀ {r : Bool} (k : KyT r), (kyKind P w r).hash k = kyHash r k
  | false, _ => rfl
  | true, _ => rfl
theorem ky_room {P : Program} {w : World} {A : Around} (hu : A.units + 2 < cLine) : ∀ {r : Bool}, (kyKind P w r).room A
  | false => show A.units < cLine by omega
  | true => hu
/-- the datum of a key -/
def kyD : (r : Bool) → KyT r → PyData
  | false, l => .tuple (l.map .int)
  | true, ks => .tuple (ks.map fun l => .tuple (l.map .int))
def entD (r : Bool) (x : KyT r × Addr × Value) : DictEntry := ⟨kyHash r x.1, .ref x.2.1, x.2.2⟩
theorem entD_eq {P : Program} {w : World} {r : Bool} : entryOfKey (kyKind P w r) = entD r := by
  funext x
  unfold entryOfKey entD
  rw [kyKind_hash]
/-- the object of a dict -/
def DctO (a : Addr) (r : Bool) (ks : List (KyT r)) (bs : List Addr) (us : List V) : HO := .ext fun h =>
  ∃ ws : List Value, Vals us ws ∧ ∃ o es ep, h.get? a = some o ∧ o.ExactDict ∧ o.data = .dict es ep ∧ es.toList = (ks.zip (bs.zip ws)).map (entD r)
/-- some heap has a dict there -/
def OwnD (φ : Heap → Prop) (a : Addr) : Prop := ∃ h : Heap, φ h ∧ ∃ o es ep, h.get? a = some o ∧ o.data = .dict es ep
end Wf
/-! By value: what a def does, told of data alone. Things that never change are data; a list of one's own is told by its items, by the slot that holds it. -/
namespace Pv
open PySem PySem.Spec L2 Wf
/-- what stands and stays below a def, and the tables of code -/
structure Bas where
  hp : Hp
  ht : Hp
  T : List NdefX.NTab
/-- tables of code grow -/
structure TbG (T : List NdefX.NTab) (H H' : Hp) : Prop where
  ts : NdefX.TabsN T H → NdefX.TabsN T H'
  st : ∀ a ps, H a = some (.tbl ps) → ∃ qs, H' a = some (.tbl qs)
theorem TbG.refl {T : List NdefX.NTab} {H : Hp} : TbG T H H := ⟨fun h => h, fun _ ps h => ⟨ps, h⟩⟩
theorem TbG.trans {T : List NdefX.NTab} {H H1 H2 : Hp} (a : TbG T H H1) (b : TbG T H1 H2) : TbG T H H2 := ⟨fun h => b.ts (a.ts h), fun x ps h => by
  obtain ⟨qs, h1⟩ := a.st x ps h
  exact b.st x qs h1⟩
theorem TbG.same {T : List NdefX.NTab} {H H' : Hp} (s : Same H H') : TbG T H H' := ⟨fun t => t.ext s, fun _ ps h => ⟨ps, s _ _ h⟩⟩
instance : CoeFun Bas fun _ => Hp := ⟨Bas.hp⟩
variable {B : Bas} {T : List NdefX.NTab}
/-! ### data: None, truths, numbers, texts, tuples, lists that change no more -/
mutual
inductive Dq (K : PySem.W.Frag) (G : Hp) : V → PyData → Prop
  | non : Dq K G .non .none
  | bl (b : Bool) : Dq K G (.bl b) (.bool b)
  | int (i : Int) : Dq K G (.int i) (.int i)
  | str (x : Str) : Dq K G (.str x) (.str x)
  | lst {a : Addr} {xs : List V} {ds : List PyData} : G a = some (.lst xs) → DqAll K G xs ds → Dq K G (.ref a) (.list ds)
  | tup {a : Addr} {xs : List V} {ds : List PyData} : SqT K G a xs → DqAll K G xs ds → Dq K G (.ref a) (.tuple ds)
inductive DqAll (K : PySem.W.Frag) (G : Hp) : List V → List PyData → Prop
  | nil : DqAll K G [] []
  | cons {v : V} {vs : List V} {d : PyData} {ds : List PyData} : Dq K G v d → DqAll K G vs ds → DqAll K G (v :: vs) (d :: ds)
end
/-- an error's fields -/
inductive Fl (K : PySem.W.Frag) (G : Hp) : List (Str × V) → List (Str × PyData) → Prop
  | nil : Fl K G [] []
  | cons {x : Str} {v : V} {d : PyData} {us : List (Str × V)} {fs : List (Str × PyData)} : Dq K G v d → Fl K G us fs → Fl K G ((x, v) :: us) ((x, d) :: fs)
/-- a lambda that holds nothing: its name, parameters, body, scope, where its code object stands -/
structure LF where
  qual : Str
  params : Arguments
  body : Expr
  scope : Scope
  c : Addr
def LamO (f : Addr) (F : LF) : HO := .ext fun h => ∃ pm ctv : Value, h.get? f = some (PySem.W.kla_obj "<lambda>" F.qual F.params F.body F.scope [] pm F.c ctv)
/-- a thing of one's own: a list of data, the dict of draws, the script; a tuple whose object is known; a lambda; a dict by tuples of numbers -/
inductive O where
  | lst (ds : List PyData)
  | deal
  | scr (ns : List Int)
  | ptl (ds : List PyData)
  | lam (F : LF)
  | dic (ks : List (List Int)) (ds : List PyData)
  | dct (r : Bool) (ks : List (KyT r)) (ds : List PyData)
def dicK (ks : List (List Int)) (us : List V) : List (List Key × V) := (ks.map fun k => k.map Sum.inl).zip us
/-- what a slot holds: not known; data; a thing of one's own (pin: a parameter's, the slot is not stored to); a caught error -/
inductive Sl where
  | un
  | im (d : PyData)
  | ow (pin : Bool) (o : O)
  | ex (a dd C : Addr) (fs : List (Str × PyData))
/-- what an expression gives: data; a new thing of one's own; what slot i holds -/
inductive R where
  | im (d : PyData)
  | ow (o : O)
  | at (i : Nat)
mutual
/-- data; where it is a tuple its object is known, and so within -/
inductive Kn (K : PySem.W.Frag) (G : Hp) : V → PyData → Prop
  | any {v : V} {d : PyData} : Dq K G v d → (∀ es, d ≠ .tuple es) → Kn K G v d
  | tup {p : Addr} {o : Obj} {us : List V} {ds : List PyData} : G p = some (.frz o (.tup us)) → o.cls = .type "tuple" → o.dict = none → KnAll K G us ds → Kn K G (.ref p) (.tuple ds)
inductive KnAll (K : PySem.W.Frag) (G : Hp) : List V → List PyData → Prop
  | nil : KnAll K G [] []
  | cons {v : V} {d : PyData} {vs : List V} {ds : List PyData} : Kn K G v d → KnAll K G vs ds → KnAll K G (v :: vs) (d :: ds)
end
section
variable (K : PySem.W.Frag)
def RO (G H : Hp) (m : Addr → Prop) (v : V) : O → Prop
  | .lst ds => ∃ a us, v = .ref a ∧ m a ∧ H a = some (.lst us) ∧ DqAll K G us ds
  | .deal => ∃ d l, v = .ref d ∧ m d ∧ m l ∧ Deal H d l
  | .scr ns => ∃ a, v = .ref a ∧ ((∃ o, m a ∧ H a = some (.frz o (.lst (ns.map V.int)))) ∨ ∀ H1, SqL K H1 a (ns.map V.int))
  | .ptl ds => ∃ p o us, v = .ref p ∧ G p = some (.frz o (.tup us)) ∧ o.cls = .type "tuple" ∧ o.dict = none ∧ DqAll K G us ds ∧ KnAll K G us ds
  | .lam F => ∃ f, v = .ref f ∧ G f = some (LamO f F) ∧ G F.c = some (LamX.CodeO F.c F.qual)
  | .dic ks ds => ∃ a us, v = .ref a ∧ m a ∧ H a = some (.dT (dicK ks us)) ∧ us.length = ks.length ∧ DqAll K G us ds
  | .dct r ks ds => ∃ a bs us, v = .ref a ∧ m a ∧ H a = some (DctO a r ks bs us) ∧ ((a == sysModules) = false ∧ ks.length ≤ sizeLine ∧ ks.Nodup ∧ us.length = ks.length ∧ bs.length = ks.length) ∧ DqAll K G (bs.map V.ref) (ks.map (kyD r)) ∧ DqAll K G us ds
def SlR (G H : Hp) (m : Addr → Prop) (o : Option (Option V)) : Sl → Prop
  | .un => True
  | .im d => ∃ v, o = some (some v) ∧ Dq K G v d
  | .ow _ ob => ∃ v, o = some (some v) ∧ RO K G H m v ob
  | .ex a dd _ fs => o = some (some (.ref a)) ∧ ∃ us, G dd = some (.xd us) ∧ Fl K G us fs
def RR (G H : Hp) (σ : St) (m : Addr → Prop) (v : V) : R → Prop
  | .im d => Dq K G v d
  | .ow o => RO K G H m v o
  | .at i => σ[i]? = some (some v)
/-- no table of code -/
def NT (o : HO) : Prop := ∀ ps, o ≠ .tbl ps
/-- a thing that nobody owns: a tuple, a code object, a lambda -/
def RdX (H : Hp) (a : Addr) : Option (List V) → Prop
  | some xs => Rd H a (.tup xs)
  | none => ∃ φ, H a = some (.ext φ) ∧ ¬ OwnD φ a
def NoX (H : Hp) (a : Addr) : Prop := ∀ xs, ¬ RdX H a xs
theorem NoX.t {H : Hp} {a : Addr} (n : NoX H a) : NoT H a := fun xs => n (some xs)
theorem RdX.same {H H' : Hp} {a : Addr} {o : HO} (e : H a = some o) (e2 : H' a = some o) : ∀ {xs : Option (List V)}, RdX H' a xs → RdX H a xs
  | some xs, z => by
    rcases z with z | ⟨ob, z⟩
    · rw [e2] at z; cases z; exact .inl e
    · rw [e2] at z; cases z; exact .inr ⟨ob, e⟩
  | none, ⟨φ, z, n⟩ => ⟨φ, by rw [e2] at z; rw [e, z], n⟩
theorem NoX.same {H H' : Hp} {a : Addr} {o : HO} (e : H a = some o) (e2 : H' a = some o) (n : NoX H a) : NoX H' a := fun xs z => n xs (RdX.same e e2 z)
theorem NoX.of {H : Hp} {a : Addr} {o : HO} (e : H a = some o) (n1 : ∀ xs, o ≠ .tup xs) (n2 : ∀ ob xs, o ≠ .frz ob (.tup xs)) (n3 : ∀ φ, o ≠ .ext φ) : NoX H a
  | some xs, z => by
    rcases z with z | ⟨ob, z⟩
    · rw [e] at z; cases z; exact n1 _ rfl
    · rw [e] at z; cases z; exact n2 _ _ rfl
  | none, ⟨φ, z, _⟩ => by rw [e] at z; cases z; exact n3 _ rfl
theorem NoX.own {H : Hp} {a : Addr} {φ : Heap → Prop} (e : H a = some (.ext φ)) (n : OwnD φ a) : NoX H a
  | some xs, z => by
    rcases z with z | ⟨ob, z⟩ <;> · rw [e] at z; cases z
  | none, ⟨ψ, z, n2⟩ => by rw [e] at z; cases z; exact n2 n
theorem NoX.tbl {H : Hp} {a : Addr} {ps : Array Value} (e : H a = some (.tbl ps)) : NoX H a := NoX.of e (fun _ z => by cases z) (fun _ _ z => by cases z) fun _ z => by cases z
theorem NoX.lst {H : Hp} {a : Addr} {ps : List V} (e : H a = some (.lst ps)) : NoX H a := NoX.of e (fun _ z => by cases z) (fun _ _ z => by cases z) fun _ z => by cases z
theorem RdX.upd {H : Hp} {a p : Addr} {o : HO} (h : a ≠ p) : ∀ {xs : Option (List V)}, RdX (upd H p o) a xs → RdX H a xs
  | some xs, z => by
    rcases z with z | ⟨ob, z⟩
    · rw [upd_ne h] at z; exact .inl z
    · rw [upd_ne h] at z; exact .inr ⟨ob, z⟩
  | none, ⟨φ, z, n⟩ => ⟨φ, by rw [upd_ne h] at z; exact z, n⟩
theorem RdX.ne {H : Hp} {a : Addr} : ∀ {xs : Option (List V)}, RdX H a xs → H a ≠ none
  | some xs, z, e => by
    rcases z with z | ⟨ob, z⟩ <;> · rw [e] at z; cases z
  | none, ⟨φ, z, _⟩, e => by rw [e] at z; cases z
structure BsOk (B : Bas) (G H : Hp) (w : Addr → Option Nat) : Prop where
  to : ∀ a o, B a = some o → H a = some o ∧ w a = none ∧ NT o
  tt : TbG B.T B.ht H
  ta : NdefX.TabsN B.T B.ht
  gt : ∀ a ps, G a ≠ some (.tbl ps)
/-- G: what never changes any more; w: whose an address is (2 i: slot i's, 2 j + 1: value j's) -/
structure Rep (B : Bas) (G H : Hp) (σ : St) (δ : List Sl) (vs : List V) (rs : List R) (w : Addr → Option Nat) : Prop where
  sub : Same G H
  out : ∀ a i, w a = some i → G a = none ∧ H a ≠ none ∧ NoX H a
  len : σ.length = δ.length
  sl : ∀ i s, δ[i]? = some s → SlR K G H (fun a => w a = some (2 * i)) σ[i]? s
  tlen : vs.length = rs.length
  tm : ∀ j v r, vs[j]? = some v → rs[j]? = some r → RR K G H σ (fun a => w a = some (2 * j + 1)) v r
  bs : BsOk B G H w
end
def Pn (δ δ' : List Sl) : Prop := ∀ (i : Nat) (o : O), δ[i]? = some (Sl.ow true o) → ∃ o', δ'[i]? = some (Sl.ow true o')
/-- a step: what is public stays so, what is not ours stays as it is, but tables of code -/
structure Stp (T : List NdefX.NTab) (G H : Hp) (w : Addr → Option Nat) (δ : List Sl) (G' H' : Hp) (w' : Addr → Option Nat) (δ' : List Sl) : Prop where
  g : Same G G'
  b : ∀ a o, w a = none → H a = some o → H' a = some o ∨ ∃ ps qs, o = .tbl ps ∧ H' a = some (.tbl qs)
  n : ∀ a i, w' a = some i → w a ≠ none ∨ H a = none
  p : ∀ a o, G' a = some o → G a = some o ∨ H a = none ∨ w a ≠ none ∨ ∃ xs, RdX H a xs
  pn : Pn δ δ'
  t : TbG T H H'
  q : ∀ a ps, G' a = some (.tbl ps) → G a = some (.tbl ps)
/-- a step that leaves the tables as they are -/
structure StpO (G H : Hp) (w : Addr → Option Nat) (δ : List Sl) (G' H' : Hp) (w' : Addr → Option Nat) (δ' : List Sl) : Prop where
  g : Same G G'
  b : ∀ a o, w a = none → H a = some o → H' a = some o
  n : ∀ a i, w' a = some i → w a ≠ none ∨ H a = none
  p : ∀ a o, G' a = some o → G a = some o ∨ H a = none ∨ w a ≠ none ∨ ∃ xs, RdX H a xs
  pn : Pn δ δ'
theorem w_stay {H : Hp} {w w' : Addr → Option Nat} (n : ∀ a i, w' a = some i → w a ≠ none ∨ H a = none) {a : Addr} {o : HO} (h1 : w a = none) (h2 : H a = some o) : w' a = none := by
  cases e : w' a with
  | none => rfl
  | some i =>
    rcases n a i e with z | z
    · exact absurd h1 z
    · rw [h2] at z; cases z
theorem Stp.of {G H G' H' : Hp} {w w' : Addr → Option Nat} {δ δ' : List Sl} (s : StpO G H w δ G' H' w' δ') (t : TbG T H H' := by exact TbG.refl) (q : ∀ a ps, G' a = some (.tbl ps) → G a = some (.tbl ps) := by exact fun _ _ h => h) : Stp T G H w δ G' H' w' δ' :=
  ⟨s.g, fun a o h1 h2 => .inl (s.b a o h1 h2), s.n, s.p, s.pn, t, q⟩
theorem q_new {G : Hp} {p : Addr} {o : HO} (n : NT o) : ∀ a ps, upd G p o a = some (.tbl ps) → G a = some (.tbl ps) := fun a ps h => by
  by_cases e : a = p
  · subst e; rw [upd_same] at h; cases h; exact absurd rfl (n ps)
  · rwa [upd_ne e] at h
theorem tabs_new {H : Hp} {p : Addr} {o : HO} (h : H p = none) : TbG T H (upd H p o) := .same (same_new h)
theorem tabs_put {H : Hp} {D : Addr} {xs ys : List V} (h : H D = some (.lst xs)) : TbG T H (upd H D (.lst ys)) := ⟨fun t p hp => by
  obtain ⟨ps, h1, h2, h3⟩ := t p hp
  refine ⟨ps, by rw [upd_ne (fun z => by rw [z, h] at h1; cases h1)]; exact h1, h2, fun pos cv hc => ?_⟩
  obtain ⟨c, e1, e2⟩ := h3 pos cv hc
  exact ⟨c, e1, by rw [upd_ne (fun z => by rw [z, h] at e2; cases e2)]; exact e2⟩, fun a ps e => ⟨ps, by rw [upd_ne (fun z => by rw [z, h] at e; cases e)]; exact e⟩⟩
theorem Stp.bN {G H G' H' : Hp} {w w' : Addr → Option Nat} {δ δ' : List Sl} (s : Stp T G H w δ G' H' w' δ') (a : Addr) (o : HO) (hn : NT o) (hw : w a = none) (h : H a = some o) : H' a = some o := by
  rcases s.b a o hw h with z | ⟨ps, _, z, _⟩
  · exact z
  · exact absurd z (hn ps)
theorem Stp.nn {G H G' H' : Hp} {w w' : Addr → Option Nat} {δ δ' : List Sl} (s : Stp T G H w δ G' H' w' δ') (a : Addr) (hw : w a = none) (h : H a ≠ none) (t : NoX H a) : H' a ≠ none ∧ NoX H' a := by
  cases e : H a with
  | none => exact absurd e h
  | some o =>
    rcases s.b a o hw e with z | ⟨ps, qs, _, z⟩
    · exact ⟨by rw [z]; exact Option.some_ne_none _, t.same e z⟩
    · exact ⟨by rw [z]; exact Option.some_ne_none _, NoX.tbl z⟩
theorem Pn.refl (δ : List Sl) : Pn δ δ := fun _ o h => ⟨o, h⟩
theorem Pn.trans {a b c : List Sl} (x : Pn a b) (y : Pn b c) : Pn a c := fun i o h => by
  obtain ⟨o1, h1⟩ := x i o h
  exact y i o1 h1
theorem Stp.refl {G H : Hp} {w : Addr → Option Nat} {δ : List Sl} : Stp T G H w δ G H w δ :=
  .of ⟨fun _ _ h => h, fun _ _ _ h => h, fun a i h => .inl (by rw [h]; exact Option.some_ne_none _), fun _ _ h => .inl h, .refl _⟩
theorem Stp.bs {G H G' H' : Hp} {w w' : Addr → Option Nat} {δ δ' : List Sl} (s : Stp B.T G H w δ G' H' w' δ') (h : BsOk B G H w) : BsOk B G' H' w' :=
  ⟨fun a o hb => by
    obtain ⟨h1, h2, h3⟩ := h.to a o hb
    exact ⟨s.bN a o h3 h2 h1, w_stay s.n h2 h1, h3⟩, h.tt.trans s.t, h.ta, fun a ps e => h.gt a ps (s.q a ps e)⟩
theorem Stp.trans {G H G1 H1 G2 H2 : Hp} {w w1 w2 : Addr → Option Nat} {δ δ1 δ2 : List Sl} (a : Stp T G H w δ G1 H1 w1 δ1) (b : Stp T G1 H1 w1 δ1 G2 H2 w2 δ2) : Stp T G H w δ G2 H2 w2 δ2 := by
  have no : ∀ x o, w x = none → H x = some o → w1 x = none := fun x o h1 h2 => by
    cases e : w1 x with
    | none => rfl
    | some i =>
      rcases a.n x i e with z | z
      · exact absurd h1 z
      · rw [h2] at z; cases z
  have none1 : ∀ x, H1 x = none → w x ≠ none ∨ H x = none := fun x h => by
    cases e : w x with
    | some i => exact .inl (Option.some_ne_none _)
    | none =>
      cases e2 : H x with
      | none => exact .inr rfl
      | some o =>
        rcases a.b x o e e2 with z | ⟨_, _, _, z⟩ <;> · rw [z] at h; cases h
  have w1n : ∀ x, w1 x ≠ none → w x ≠ none ∨ H x = none := fun x h => by
    cases e : w1 x with
    | none => exact absurd e h
    | some i => exact a.n x i e
  refine ⟨fun x o h => b.g x o (a.g x o h), fun x o h1 h2 => ?_, fun x i h => ?_, fun x o h => ?_, a.pn.trans b.pn, a.t.trans b.t, fun x ps h => a.q x ps (b.q x ps h)⟩
  · rcases a.b x o h1 h2 with z | ⟨ps, qs, z1, z2⟩
    · exact b.b x o (no x o h1 h2) z
    · rcases b.b x _ (no x o h1 h2) z2 with y | ⟨_, rs, _, y⟩
      · exact .inr ⟨ps, qs, z1, y⟩
      · exact .inr ⟨ps, rs, z1, y⟩
  · rcases b.n x i h with z | z
    · exact w1n x z
    · exact none1 x z
  · rcases b.p x o h with z | z | z | ⟨xs, z⟩
    · exact a.p x o z
    · rcases none1 x z with q | q
      · exact .inr (.inr (.inl q))
      · exact .inr (.inl q)
    · rcases w1n x z with q | q
      · exact .inr (.inr (.inl q))
      · exact .inr (.inl q)
    · cases e : w x with
      | some i => exact .inr (.inr (.inl (Option.some_ne_none _)))
      | none =>
        cases e2 : H x with
        | none => exact .inr (.inl rfl)
        | some u =>
          refine .inr (.inr (.inr ⟨xs, ?_⟩))
          rcases a.b x u e e2 with e3 | ⟨_, _, _, e3⟩
          · exact RdX.same e2 e3 z
          · exact absurd z (NoX.tbl e3 xs)
/-! ### data stays -/
mutual
theorem dp_mono {K : PySem.W.Frag} {G G' : Hp} (s : Same G G') : ∀ (d : PyData) (v : V), Dq K G v d → Dq K G' v d
  | .none, _, h => by cases h; exact .non
  | .bool b, _, h => by cases h; exact .bl b
  | .int i, _, h => by cases h; exact .int i
  | .str x, _, h => by cases h; exact .str x
  | .dict _, _, h => by cases h
  | .list ds, _, h => by
    cases h with
    | lst hs ha =>
      exact .lst (s _ _ hs) (dpAll_mono s ds _ ha)
  | .tuple ds, _, h => by
    cases h with
    | tup hs ha => exact .tup (Same.tp s _ _ hs) (dpAll_mono s ds _ ha)
theorem dpAll_mono {K : PySem.W.Frag} {G G' : Hp} (s : Same G G') : ∀ (ds : List PyData) (vs : List V), DqAll K G vs ds → DqAll K G' vs ds
  | [], _, h => by cases h; exact .nil
  | d :: ds, _, h => by
    cases h with
    | cons h1 h2 => exact .cons (dp_mono s d _ h1) (dpAll_mono s ds _ h2)
end
mutual
theorem pl_mono {K : PySem.W.Frag} {G G' : Hp} (s : Same G G') : ∀ (v : V) (d : PyData), Kn K G v d → Kn K G' v d
  | _, _, .any h n => .any (dp_mono s _ _ h) n
  | _, _, .tup h1 h2 h3 h4 => .tup (s _ _ h1) h2 h3 (plAll_mono s _ _ h4)
theorem plAll_mono {K : PySem.W.Frag} {G G' : Hp} (s : Same G G') : ∀ (vs : List V) (ds : List PyData), KnAll K G vs ds → KnAll K G' vs ds
  | _, _, .nil => .nil
  | _, _, .cons h1 h2 => .cons (pl_mono s _ _ h1) (plAll_mono s _ _ h2)
end
theorem Fl.mono {K : PySem.W.Frag} {G G' : Hp} (s : Same G G') : ∀ {us : List (Str × V)} {fs : List (Str × PyData)}, Fl K G us fs → Fl K G' us fs
  | _, _, .nil => .nil
  | _, _, .cons h1 h2 => .cons (dp_mono s _ _ h1) (Fl.mono s h2)
theorem RO.monoN {K : PySem.W.Frag} {G G' H H' : Hp} {m m' : Addr → Prop} {v : V} {o : O} (s : Same G G') (hh : ∀ a u, NT u → m a → H a = some u → H' a = some u) (hm : ∀ a u, m a → H a = some u → m' a) (h : RO K G H m v o) : RO K G' H' m' v o := by
  cases o with
  | lst ds =>
    obtain ⟨a, us, e, ma, ha, hd⟩ := h
    exact ⟨a, us, e, hm a _ ma ha, hh a _ nofun ma ha, dpAll_mono s _ _ hd⟩
  | deal =>
    obtain ⟨d, l, e, md, ml, hd⟩ := h
    obtain ⟨z1, z2, z3, z4, h1, h2, h3⟩ := hd.ex
    exact ⟨d, l, e, hm d _ md h1, hm l _ ml h2, z1, z2, z3, z4, hh d _ nofun md h1, hh l _ nofun ml h2, h3⟩
  | scr ns =>
    obtain ⟨a, e, ⟨o, ma, h⟩ | h⟩ := h
    · exact ⟨a, e, .inl ⟨o, hm a _ ma h, hh a _ nofun ma h⟩⟩
    · exact ⟨a, e, .inr h⟩
  | ptl ds =>
    obtain ⟨p, o, us, e, hp, h1, h2, hd, hl⟩ := h
    exact ⟨p, o, us, e, s _ _ hp, h1, h2, dpAll_mono s _ _ hd, plAll_mono s _ _ hl⟩
  | lam F =>
    obtain ⟨f, e, h1, h2⟩ := h
    exact ⟨f, e, s _ _ h1, s _ _ h2⟩
  | dic ks ds =>
    obtain ⟨a, us, e, ma, ha, hl, hd⟩ := h
    exact ⟨a, us, e, hm a _ ma ha, hh a _ nofun ma ha, hl, dpAll_mono s _ _ hd⟩
  | dct r ks ds =>
    obtain ⟨a, bs, us, e, ma, ha, hl, hk, hd⟩ := h
    exact ⟨a, bs, us, e, hm a _ ma ha, hh a _ (fun ps z => by unfold DctO at z; cases z) ma ha, hl, dpAll_mono s _ _ hk, dpAll_mono s _ _ hd⟩
theorem RO.mono {K : PySem.W.Frag} {G G' H H' : Hp} {m m' : Addr → Prop} {v : V} {o : O} (s : Same G G') (hh : ∀ a u, m a → H a = some u → H' a = some u) (hm : ∀ a u, m a → H a = some u → m' a) (h : RO K G H m v o) : RO K G' H' m' v o := h.monoN s (fun a u _ => hh a u) hm
theorem SlR.mono {K : PySem.W.Frag} {G G' H H' : Hp} {m m' : Addr → Prop} {o : Option (Option V)} {s : Sl} (g : Same G G') (hh : ∀ a u, m a → H a = some u → H' a = some u) (hm : ∀ a u, m a → H a = some u → m' a) (h : SlR K G H m o s) : SlR K G' H' m' o s := by
  cases s with
  | un => trivial
  | im d =>
    obtain ⟨v, e, h⟩ := h
    exact ⟨v, e, dp_mono g d v h⟩
  | ow p ob =>
    obtain ⟨v, e, h⟩ := h
    exact ⟨v, e, h.mono g hh hm⟩
  | ex a dd C fs =>
    obtain ⟨e, us, h1, h2⟩ := h
    exact ⟨e, us, g _ _ h1, h2.mono g⟩
theorem RR.mono {K : PySem.W.Frag} {G G' H H' : Hp} {σ : St} {m m' : Addr → Prop} {v : V} {r : R} (g : Same G G') (hh : ∀ a u, m a → H a = some u → H' a = some u) (hm : ∀ a u, m a → H a = some u → m' a) (h : RR K G H σ m v r) : RR K G' H' σ m' v r := by
  cases r with
  | im d => exact dp_mono g d v h
  | ow ob => exact RO.mono g hh hm h
  | «at» i => exact h
theorem RR.monoN {K : PySem.W.Frag} {G G' H H' : Hp} {σ : St} {m m' : Addr → Prop} {v : V} {r : R} (g : Same G G') (hh : ∀ a u, NT u → m a → H a = some u → H' a = some u) (hm : ∀ a u, m a → H a = some u → m' a) (h : RR K G H σ m v r) : RR K G' H' σ m' v r := by
  cases r with
  | im d => exact dp_mono g d v h
  | ow ob => exact RO.monoN g hh hm h
  | «at» i => exact h
theorem SlR.monoN {K : PySem.W.Frag} {G G' H H' : Hp} {m m' : Addr → Prop} {o : Option (Option V)} {s : Sl} (g : Same G G') (hh : ∀ a u, NT u → m a → H a = some u → H' a = some u) (hm : ∀ a u, m a → H a = some u → m' a) (h : SlR K G H m o s) : SlR K G' H' m' o s := by
  cases s with
  | un => trivial
  | im d =>
    obtain ⟨v, e, h⟩ := h
    exact ⟨v, e, dp_mono g d v h⟩
  | ow p ob =>
    obtain ⟨v, e, h⟩ := h
    exact ⟨v, e, h.monoN g hh hm⟩
  | ex a dd C fs =>
    obtain ⟨e, us, h1, h2⟩ := h
    exact ⟨e, us, g _ _ h1, h2.mono g⟩
/-! ### the frame: values that wait -/
def evn : Option Nat → Option Nat
  | some n => if n % 2 = 0 then some n else none
  | none => none
theorem evn_some {o : Option Nat} {n : Nat} : evn o = some n ↔ o = some n ∧ n % 2 = 0 := by
  cases o with
  | none => simp [evn]
  | some m =>
    unfold evn
    dsimp only
    split
    · constructor
      · intro h; cases h; exact ⟨rfl, by assumption⟩
      · rintro ⟨h, _⟩; exact h
    · constructor
      · intro h; cases h
      · rintro ⟨h, h2⟩; cases h; exact absurd h2 (by assumption)
theorem evn_ne {o : Option Nat} (h : evn o ≠ none) : o ≠ none := by
  intro e; subst e; exact h rfl
theorem Stp.drop {G H : Hp} {w : Addr → Option Nat} {δ : List Sl} : Stp T G H w δ G H (fun a => evn (w a)) δ :=
  .of ⟨fun _ _ h => h, fun _ _ _ h => h, fun a i h => .inl (by rw [(evn_some.mp h).1]; exact Option.some_ne_none _), fun _ _ h => .inl h, .refl _⟩
theorem Rep.drop {K : PySem.W.Frag} {G H : Hp} {σ : St} {δ : List Sl} {vs : List V} {rs : List R} {w : Addr → Option Nat} (r : Rep K B G H σ δ vs rs w) : Rep K B G H σ δ [] [] fun a => evn (w a) where
  sub := r.sub
  out := fun a i h => r.out a i (evn_some.mp h).1
  len := r.len
  sl := fun i s h => (r.sl i s h).mono (fun _ _ h => h) (fun _ _ _ h => h) fun a u ma _ => evn_some.mpr ⟨ma, by omega⟩
  tlen := rfl
  tm := fun j v r h => by simp at h
  bs := (Stp.drop (T := B.T) (δ := δ)).bs (G := G) r.bs
def shf (k : Nat) : Option Nat → Option Nat
  | some n => if n % 2 = 0 then some n else some (n + 2 * k)
  | none => none
def both (k : Nat) (w w' : Addr → Option Nat) (a : Addr) : Option Nat := match w a with
  | some n => if n % 2 = 0 then shf k (w' a) else some n
  | none => shf k (w' a)
theorem both_odd {k : Nat} {w w' : Addr → Option Nat} {a : Addr} {n : Nat} (h : w a = some n) (ho : n % 2 = 1) : both k w w' a = some n := by
  unfold both; rw [h]; dsimp only; rw [if_neg (by omega)]
theorem both_evn {k : Nat} {w w' : Addr → Option Nat} {a : Addr} (h : ∀ n, w a = some n → n % 2 = 0) : both k w w' a = shf k (w' a) := by
  unfold both
  cases e : w a with
  | none => rfl
  | some n => dsimp only; rw [if_pos (h n e)]
theorem shf_some {k n : Nat} {o : Option Nat} (h : shf k o = some n) : ∃ m, o = some m ∧ n = if m % 2 = 0 then m else m + 2 * k := by
  cases o with
  | none => cases h
  | some m =>
    refine ⟨m, rfl, ?_⟩
    unfold shf at h
    dsimp only at h
    split at h <;> cases h <;> simp [*]
theorem Rep.frame {K : PySem.W.Frag} {G H G' H' : Hp} {σ : St} {δ δ' : List Sl} {vs vs1 : List V} {rs rs1 : List R} {w w' : Addr → Option Nat} (r : Rep K B G H σ δ vs rs w) (s : Stp B.T G H (fun a => evn (w a)) δ G' H' w' δ') (r' : Rep K B G' H' σ δ' vs1 rs1 w') :
    ∃ w2, Stp B.T G H w δ G' H' w2 δ' ∧ Rep K B G' H' σ δ' (vs ++ vs1) (rs ++ rs1) w2 := by
  have odd : ∀ a n, w a = some n → n % 2 = 1 → w' a = none ∧ G' a = none ∧ (H' a ≠ none ∧ NoX H' a) ∧ ∀ u, NT u → H a = some u → H' a = some u := fun a n h ho => by
    have e0 : evn (w a) = none := by
      cases e : evn (w a) with
      | none => rfl
      | some m =>
        have := evn_some.mp e
        rw [h] at this
        have z := this.1
        cases z
        omega
    obtain ⟨g0, h0, n0⟩ := r.out a n h
    refine ⟨?_, ?_, s.nn a e0 h0 n0, fun u hn hu => s.bN a u hn e0 hu⟩
    · cases e : w' a with
      | none => rfl
      | some i =>
        rcases s.n a i e with z | z
        · exact absurd e0 z
        · exact absurd z h0
    · cases e : G' a with
      | none => rfl
      | some o =>
        rcases s.p a o e with z | z | z | ⟨xs, z⟩
        · rw [g0] at z; cases z
        · exact absurd z h0
        · exact absurd e0 z
        · exact absurd z (n0 xs)
  have evw : ∀ a i, w' a = some i → ∀ n, w a = some n → n % 2 = 0 := fun a i h n hn => by
    by_cases ho : n % 2 = 1
    · rw [(odd a n hn ho).1] at h; cases h
    · omega
  have st : Stp B.T G H w δ G' H' (both rs.length w w') δ' := by
    refine ⟨s.g, fun a o hw ha => s.b a o (by show evn (w a) = none; rw [hw]; rfl) ha, fun a i h => ?_, fun a o h => ?_, s.pn, s.t, s.q⟩
    · cases e : w a with
      | some n => exact .inl (Option.some_ne_none _)
      | none =>
        have e1 : both rs.length w w' a = shf rs.length (w' a) := both_evn fun n hn => by rw [e] at hn; cases hn
        rw [e1] at h
        obtain ⟨m, hm, _⟩ := shf_some h
        rcases s.n a m hm with z | z
        · have z' := evn_ne z
          rw [e] at z'
          exact .inl z'
        · exact .inr z
    · rcases s.p a o h with z | z | z | z
      · exact .inl z
      · exact .inr (.inl z)
      · exact .inr (.inr (.inl (evn_ne z)))
      · exact .inr (.inr (.inr z))
  refine ⟨both rs.length w w', st, r'.sub, fun a i h => ?_, r'.len, fun i sl h => ?_, by rw [List.length_append, List.length_append, r.tlen, r'.tlen], fun j v q hv hr => ?_, st.bs r.bs⟩
  · by_cases ho : ∃ n, w a = some n ∧ n % 2 = 1
    · obtain ⟨n, hn, ho⟩ := ho
      obtain ⟨_, g, hh, _⟩ := odd a n hn ho
      exact ⟨g, hh⟩
    · have e1 : both rs.length w w' a = shf rs.length (w' a) := both_evn fun n hn => by
        by_cases z : n % 2 = 1
        · exact absurd ⟨n, hn, z⟩ ho
        · omega
      rw [e1] at h
      obtain ⟨m, hm, _⟩ := shf_some h
      exact r'.out a m hm
  · refine (r'.sl i sl h).mono (fun _ _ h => h) (fun _ _ _ h => h) fun a u ma _ => ?_
    rw [both_evn (evw a _ ma)]
    unfold shf
    rw [ma]
    dsimp only
    rw [if_pos (by omega)]
  · by_cases hj : j < vs.length
    · rw [List.getElem?_append_left hj] at hv
      rw [List.getElem?_append_left (by rw [← r.tlen]; exact hj)] at hr
      exact (r.tm j v q hv hr).monoN s.g (fun a u hn ma hu => (odd a _ ma (by omega)).2.2.2 u hn hu) fun a u ma _ => both_odd ma (by omega)
    · have hj : vs.length ≤ j := by omega
      rw [List.getElem?_append_right hj] at hv
      rw [List.getElem?_append_right (by rw [← r.tlen]; exact hj), ← r.tlen] at hr
      refine (r'.tm (j - vs.length) v q hv hr).mono (fun _ _ h => h) (fun _ _ _ h => h) fun a u ma _ => ?_
      rw [both_evn (evw a _ ma)]
      unfold shf
      rw [ma]
      dsimp only
      rw [if_neg (by omega), r.tlen.symm]
      congr 1
      omega
end Pv
namespace Pv
open PySem PySem.Spec L2 Wf
variable {B : Bas}
/-! ### judgements told of data -/
abbrev QE := R → List Sl → Prop
abbrev PX := List Sl → QE → Prop
abbrev PL := List Sl → (List R → List Sl → Prop) → Prop
abbrev PB := List Sl → (Bool → List Sl → Prop) → Prop
section
variable (K : PySem.W.Frag) (B : Bas)
def LE (p : PX) : TE := fun σ H Q => ∃ G w δ Qp, Rep K B G H σ δ [] [] w ∧ p δ Qp ∧ ∀ r δ' v H' G' w', Qp r δ' → Stp B.T G H w δ G' H' w' δ' → Rep K B G' H' σ δ' [v] [r] w' → Q v H'
def LA (n : Nat) (p : PL) : TA := fun σ H Q => ∃ G w δ Qp, Rep K B G H σ δ [] [] w ∧ p δ Qp ∧ ∀ rs δ' vs H' G' w', Qp rs δ' → rs.length = n → Stp B.T G H w δ G' H' w' δ' → Rep K B G' H' σ δ' vs rs w' → Q vs H'
def LB (p : PB) : TT := fun σ H Q => ∃ G w δ Qp, Rep K B G H σ δ [] [] w ∧ p δ Qp ∧ ∀ b δ' H' G' w', Qp b δ' → Stp B.T G H w δ G' H' w' δ' → Rep K B G' H' σ δ' [] [] w' → Q b H'
end
/-- an operation by values -/
def LC (K : PySem.W.Frag) (q : List R → PX) (r : List V → Hp → VK → Prop) : Prop := ∀ {B : Bas} (G H : Hp) (σ : St) (δ : List Sl) (vs : List V) (rs : List R) (w : Addr → Option Nat) (Qp : QE) (Q : VK), Rep K B G H σ δ vs rs w → q rs δ Qp →
  (∀ r δ' v H' G' w', Qp r δ' → Stp B.T G H w δ G' H' w' δ' → Rep K B G' H' σ δ' [v] [r] w' → Q v H') → r vs H Q
def JE (X : Cx) (B : Bas) (e : Expr) (p : PX) : Prop := PE X e (LE X.K B p)
def JA (X : Cx) (B : Bas) (es : List Expr) (p : PL) : Prop := PA X es (LA X.K B es.length p)
def JB (X : Cx) (B : Bas) (e : Expr) (p : PB) : Prop := PT X e (LB X.K B p)
section
variable {X : Cx}
theorem PE_wk {e : Expr} {t t' : TE} (h : PE X e t) (k : ∀ σ H Q, t' σ H Q → t σ H Q) : PE X e t' := ⟨fun pins s σ H Q I q => h.run pins s σ H Q I (k σ H Q q)⟩
theorem PT_wk {e : Expr} {t t' : TT} (h : PT X e t) (k : ∀ σ H Q, t' σ H Q → t σ H Q) : PT X e t' := ⟨fun pins s σ H Q I q => h.run pins s σ H Q I (k σ H Q q)⟩
theorem PW_wk {e : Expr} {t t' : TT} (h : PW X e t) (k : ∀ σ H Q, t' σ H Q → t σ H Q) : PW X e t' := ⟨fun wh pins s σ H Q I q => h.run wh pins s σ H Q I (k σ H Q q)⟩
theorem PA_wk {es : List Expr} {t t' : TA} (h : PA X es t) (k : ∀ σ H Q, t' σ H Q → t σ H Q) : PA X es t' := ⟨fun pos pins s σ H Q I q => h.run pos pins s σ H Q I (k σ H Q q)⟩
theorem PS_wk {st : Stmt} {t t' : TS} (h : PS X st t) (k : ∀ D σ H, t' D σ H → t D σ H) : PS X st t' := ⟨fun pins s σ H D I q => h.run pins s σ H D I (k D σ H q)⟩
theorem PSs_wk {st : List Stmt} {t t' : TS} (h : PSs X st t) (k : ∀ D σ H, t' D σ H → t D σ H) : PSs X st t' := ⟨fun pins s σ H D I q => h.run pins s σ H D I (k D σ H q)⟩
end
/-! ### results -/
theorem noT_upd {H : Hp} {a p : Addr} {o : HO} (h : a ≠ p) (n : NoX H a) : NoX (upd H p o) a := fun xs z => n xs (RdX.upd h z)
section
variable {K : PySem.W.Frag} {G H : Hp} {σ : St} {δ : List Sl} {vs : List V} {rs : List R} {w : Addr → Option Nat}
/-- data is given, nothing is changed -/
theorem Rep.ret (r : Rep K B G H σ δ vs rs w) {v : V} {d : PyData} (h : Dq K G v d) : Rep K B G H σ δ [v] [.im d] fun a => evn (w a) := by
  have r0 := r.drop
  refine ⟨r0.sub, r0.out, r0.len, r0.sl, rfl, fun j u q hu hq => ?_, r0.bs⟩
  match j with
  | 0 =>
    simp only [List.getElem?_cons_zero, Option.some.injEq] at hu hq
    subst hu hq
    exact h
  | j + 1 => simp at hu
theorem Rep.at_ (r : Rep K B G H σ δ vs rs w) {i : Nat} {v : V} (h : σ[i]? = some (some v)) : Rep K B G H σ δ [v] [.at i] fun a => evn (w a) := by
  have r0 := r.drop
  refine ⟨r0.sub, r0.out, r0.len, r0.sl, rfl, fun j u q hu hq => ?_, r0.bs⟩
  match j with
  | 0 =>
    simp only [List.getElem?_cons_zero, Option.some.injEq] at hu hq
    subst hu hq
    exact h
  | j + 1 => simp at hu
/-- a new thing that never changes -/
theorem Rep.retNew (r : Rep K B G H σ δ vs rs w) {p : Addr} {o : HO} {d : PyData} (hp : H p = none) (h : Dq K (upd G p o) (.ref p) d) (hn : NT o := by exact nofun) :
    Stp B.T G H w δ (upd G p o) (upd H p o) (fun a => evn (w a)) δ ∧ Rep K B (upd G p o) (upd H p o) σ δ [.ref p] [.im d] fun a => evn (w a) := by
  have gp : G p = none := by
    cases e : G p with
    | none => rfl
    | some u => rw [r.sub p u e] at hp; cases hp
  have np : ∀ a i, w a = some i → a ≠ p := fun a i hw z => (r.out a i hw).2.1 (by rw [z]; exact hp)
  have sg : Same G (upd G p o) := same_new gp
  have r0 := r.drop
  have st : Stp B.T G H w δ (upd G p o) (upd H p o) (fun a => evn (w a)) δ := by
    refine .of ⟨sg, fun a u _ ha => by rw [upd_ne (ne_of_none ha hp)]; exact ha, fun a i h => .inl (by rw [(evn_some.mp h).1]; exact Option.some_ne_none _), fun a u ha => ?_, .refl _⟩ (tabs_new hp) (q_new hn)
    by_cases e : a = p
    · subst e; exact .inr (.inl hp)
    · rw [upd_ne e] at ha; exact .inl ha
  refine ⟨st, fun a u ha => ?_, fun a i h => ?_, r0.len, fun i s h => ?_, rfl, fun j u q hu hq => ?_, st.bs r.bs⟩
  · by_cases e : a = p
    · subst e; rw [upd_same] at ha ⊢; exact ha
    · rw [upd_ne e] at ha ⊢; exact r.sub a u ha
  · have h' := (evn_some.mp h).1
    have hne := np a i h'
    have ho := r.out a i h'
    rw [upd_ne hne, upd_ne hne]
    exact ⟨ho.1, ho.2.1, noT_upd hne ho.2.2⟩
  · exact (r0.sl i s h).mono sg (fun a u ma hu => by rw [upd_ne (ne_of_none hu hp)]; exact hu) fun a u ma _ => ma
  · match j with
    | 0 =>
      simp only [List.getElem?_cons_zero, Option.some.injEq] at hu hq
      subst hu hq
      exact h
    | j + 1 => simp at hu
/-- a new list of one's own -/
theorem Rep.retLst (r : Rep K B G H σ δ vs rs w) {p : Addr} {us : List V} {ds : List PyData} (hp : H p = none) (h : DqAll K G us ds) :
    ∃ w', Stp B.T G H w δ G (upd H p (.lst us)) w' δ ∧ Rep K B G (upd H p (.lst us)) σ δ [.ref p] [.ow (.lst ds)] w' := by
  have gp : G p = none := by
    cases e : G p with
    | none => rfl
    | some u => rw [r.sub p u e] at hp; cases hp
  have r0 := r.drop
  have st : Stp B.T G H w δ G (upd H p (.lst us)) (fun a => if a = p then some 1 else evn (w a)) δ := by
    refine .of ⟨fun _ _ h => h, fun a u _ ha => by rw [upd_ne (ne_of_none ha hp)]; exact ha, fun a i h => ?_, fun a u ha => .inl ha, .refl _⟩ (tabs_new hp)
    by_cases e : a = p
    · subst e; exact .inr hp
    · simp only [e, if_false] at h
      exact .inl (by rw [(evn_some.mp h).1]; exact Option.some_ne_none _)
  refine ⟨_, st, fun a u ha => ?_, fun a i h => ?_, r0.len, fun i s h => ?_, rfl, fun j u q hu hq => ?_, st.bs r.bs⟩
  · by_cases e : a = p
    · subst e; rw [gp] at ha; cases ha
    · rw [upd_ne e]; exact r.sub a u ha
  · by_cases e : a = p
    · subst e; rw [upd_same]; exact ⟨gp, Option.some_ne_none _, NoX.lst upd_same⟩
    · simp only [e, if_false] at h
      have ho := r0.out a i h
      rw [upd_ne e]
      exact ⟨ho.1, ho.2.1, noT_upd e ho.2.2⟩
  · refine (r0.sl i s h).mono (fun _ _ h => h) (fun a u ma hu => by rw [upd_ne (ne_of_none hu hp)]; exact hu) fun a u ma hu => ?_
    rw [if_neg (ne_of_none hu hp)]
    exact ma
  · match j with
    | 0 =>
      simp only [List.getElem?_cons_zero, Option.some.injEq] at hu hq
      subst hu hq
      exact ⟨p, us, rfl, by simp, upd_same, h⟩
    | j + 1 => simp at hu
end
/-! ### what is read -/
def dat (δ : List Sl) : R → Option PyData
  | .im d => some d
  | .ow (.lst ds) => some (.list ds)
  | .ow (.ptl ds) => some (.tuple ds)
  | .ow _ => none
  | .at i => match δ[i]? with
    | some (.im d) => some d
    | some (.ow _ (.lst ds)) => some (.list ds)
    | some (.ow _ (.ptl ds)) => some (.tuple ds)
    | _ => none
section
variable {K : PySem.W.Frag} {G H : Hp} {σ : St} {δ : List Sl} {vs : List V} {rs : List R} {w : Addr → Option Nat}
mutual
theorem dq_dp (s : Same G H) : ∀ (d : PyData) (v : V), Dq K G v d → Dp K H v d
  | .none, _, h => by cases h; exact .non
  | .bool b, _, h => by cases h; exact .bl b
  | .int i, _, h => by cases h; exact .int i
  | .str x, _, h => by cases h; exact .str x
  | .dict _, _, h => by cases h
  | .list ds, _, h => by
    cases h with
    | lst hs ha => exact .lst (SqL.of (s _ _ hs)) (dqAll_dp s ds _ ha)
  | .tuple ds, _, h => by
    cases h with
    | tup hs ha => exact .tup (Same.tp s _ _ hs) (dqAll_dp s ds _ ha)
theorem dqAll_dp (s : Same G H) : ∀ (ds : List PyData) (vs : List V), DqAll K G vs ds → DpAll K H vs ds
  | [], _, h => by cases h; exact .nil
  | d :: ds, _, h => by
    cases h with
    | cons h1 h2 => exact .cons (dq_dp s d _ h1) (dqAll_dp s ds _ h2)
end
/-- what is to be read of a value -/
def Vw (K : PySem.W.Frag) (G H : Hp) (v : V) (d : PyData) : Prop := Dq K G v d ∨ ∃ a us ds, v = .ref a ∧ H a = some (.lst us) ∧ DqAll K G us ds ∧ d = .list ds
theorem ptl_dq {K : PySem.W.Frag} {G : Hp} {v : V} {ds : List PyData} (h : ∃ p o us, v = .ref p ∧ G p = some (.frz o (.tup us)) ∧ o.cls = .type "tuple" ∧ o.dict = none ∧ DqAll K G us ds ∧ KnAll K G us ds) : Dq K G v (.tuple ds) := by
  obtain ⟨p, o, us, rfl, hp, _, _, hd, _⟩ := h
  exact .tup (.inl (.inr ⟨o, hp⟩)) hd
/-- what a value is: data, public; or a list, its items public -/
theorem Rep.dat (r : Rep K B G H σ δ vs rs w) {j : Nat} {v : V} {q : R} {d : PyData} (hv : vs[j]? = some v) (hq : rs[j]? = some q) (hd : dat δ q = some d) :
    Dq K G v d ∨ ∃ a us ds, v = .ref a ∧ H a = some (.lst us) ∧ DqAll K G us ds ∧ d = .list ds := by
  have t := r.tm j v q hv hq
  cases q with
  | im d' => cases hd; exact .inl t
  | ow o =>
    cases o with
    | lst ds =>
      cases hd
      obtain ⟨a, us, e, _, ha, hds⟩ := t
      exact .inr ⟨a, us, ds, e, ha, hds, rfl⟩
    | deal => cases hd
    | scr ns => cases hd
    | ptl ds => cases hd; exact .inl (ptl_dq t)
    | lam F => cases hd
    | dic ks ds => cases hd
    | dct r ks ds => cases hd
  | «at» i =>
    have t' : σ[i]? = some (some v) := t
    simp only [Pv.dat] at hd
    revert hd
    split
    · rename_i d' e
      intro hd; cases hd
      obtain ⟨u, hu, hd'⟩ := r.sl i _ e
      rw [t'] at hu
      cases hu
      exact .inl hd'
    · rename_i b ds e
      intro hd; cases hd
      obtain ⟨u, hu, a, us, e1, _, ha, hds⟩ := r.sl i _ e
      rw [t'] at hu
      cases hu
      exact .inr ⟨a, us, ds, e1, ha, hds, rfl⟩
    · rename_i b ds e
      intro hd; cases hd
      obtain ⟨u, hu, t2⟩ := r.sl i _ e
      rw [t'] at hu
      cases hu
      exact .inl (ptl_dq t2)
    · intro hd; cases hd
theorem Vw.dp {v : V} {d : PyData} (s : Same G H) (h : Vw K G H v d) : Dp K H v d := by
  rcases h with h | ⟨a, us, ds, rfl, ha, hds, rfl⟩
  · exact dq_dp s _ _ h
  · exact .lst (SqL.of ha) (dqAll_dp s _ _ hds)
theorem Vw.seqL {v : V} {ds : List PyData} (s : Same G H) (h : Vw K G H v (.list ds)) : ∃ a us, v = .ref a ∧ H a = some (.lst us) ∧ DqAll K G us ds := by
  rcases h with h | ⟨a, us, ds', rfl, ha, hds, e⟩
  · cases h with
    | lst hs ha => exact ⟨_, _, rfl, s _ _ hs, ha⟩
  · cases e
    exact ⟨a, us, rfl, ha, hds⟩
theorem Vw.seqT {v : V} {ds : List PyData} (s : Same G H) (h : Vw K G H v (.tuple ds)) : ∃ a us, v = .ref a ∧ SqT K H a us ∧ DqAll K G us ds ∧ Dq K G v (.tuple ds) := by
  rcases h with h | ⟨a, us, ds', rfl, ha, hds, e⟩
  · cases h with
    | tup hs ha => exact ⟨_, _, rfl, Same.tp s _ _ hs, ha, .tup hs ha⟩
  · cases e
theorem Vw.int {v : V} {i : Int} (h : Vw K G H v (.int i)) : v = .int i := by
  rcases h with h | ⟨a, us, ds', rfl, ha, hds, e⟩
  · cases h; rfl
  · cases e
theorem Vw.bool {v : V} {i : Bool} (h : Vw K G H v (.bool i)) : v = .bl i := by
  rcases h with h | ⟨a, us, ds', rfl, ha, hds, e⟩
  · cases h; rfl
  · cases e
theorem Vw.str {v : V} {i : Str} (h : Vw K G H v (.str i)) : v = .str i := by
  rcases h with h | ⟨a, us, ds', rfl, ha, hds, e⟩
  · cases h; rfl
  · cases e
theorem Rep.dpH (r : Rep K B G H σ δ vs rs w) {j : Nat} {v : V} {q : R} {d : PyData} (hv : vs[j]? = some v) (hq : rs[j]? = some q) (hd : Pv.dat δ q = some d) : Dp K H v d := Vw.dp r.sub (r.dat hv hq hd)
end
/-! ### names, constants, arguments -/
def pVar (i : Nat) : PX := fun δ Q => match δ[i]? with
  | some (.im d) => Q (.im d) δ
  | some (.ow _ _) => Q (.at i) δ
  | _ => False
def pK (d : PyData) : PX := fun δ Q => Q (.im d) δ
def pNil : PL := fun δ Q => Q [] δ
def pCons (p : PX) (ps : PL) : PL := fun δ Q => p δ fun r δ1 => ps δ1 fun rs δ2 => Q (r :: rs) δ2
/-- an operation over values that are there -/
def pC (q : List R → PX) (ps : PL) : PX := fun δ Q => ps δ fun rs δ1 => q rs δ1 Q
section
variable {X : Cx}
theorem je_var {i : Nat} {x : Str} {pos : Pos} (hN : X.N[i]? = some x) (hv : Vis X.env.scope x) (hd : (x == ("__debug__" : Str)) = false := by decide) (hcd : (x == ("__classdict__" : Str)) = false := by decide) : JE X B (.Name x pos) (pVar i) := by
  refine PE_wk (pe_var (i := i) hN hv hd hcd) fun σ H Q ⟨G, w, δ, Qp, rep, h, k⟩ => ?_
  unfold pVar at h
  revert h
  split
  · rename_i d e
    intro h
    obtain ⟨v, hv, hd⟩ := rep.sl i _ e
    exact ⟨v, hv, k _ _ v H G _ h .drop (rep.ret hd)⟩
  · rename_i b o e
    intro h
    obtain ⟨v, hv, hd⟩ := rep.sl i _ e
    exact ⟨v, hv, k _ _ v H G _ h .drop (rep.at_ hv)⟩
  · intro h; exact h.elim
theorem je_c {e : Expr} {v : V} {d : PyData} (h : PE X e (tC v)) (hd : ∀ G, Dq X.K G v d) : JE X B e (pK d) :=
  PE_wk h fun σ H Q ⟨G, w, δ, Qp, rep, q, k⟩ => k _ _ v H G _ q .drop (rep.ret (hd G))
theorem je_int {i j pos} : JE X B (.Constant (.int i) j pos) (pK (.int i)) := je_c pe_int fun _ => .int i
theorem je_bl {b j pos} : JE X B (.Constant (.bool b) j pos) (pK (.bool b)) := je_c pe_bl fun _ => .bl b
theorem ja_nil : JA X B [] pNil := PA_wk pa_nil fun σ H Q ⟨G, w, δ, Qp, rep, q, k⟩ => k [] δ [] H G _ q rfl .drop rep.drop
theorem ja_cons {e : Expr} {es : List Expr} {p : PX} {ps : PL} (h : JE X B e p) (hs : JA X B es ps) (he : starEach (e :: es) X.env = (false, eval e X.env) :: starEach es X.env := by rfl) : JA X B (e :: es) (pCons p ps) := by
  refine PA_wk (pa_cons h hs he) fun σ H Q ⟨G, w, δ, Qp, rep, q, k⟩ => ?_
  refine ⟨G, w, δ, _, rep, q, fun r δ1 v H1 G1 w1 q1 s1 rep1 => ?_⟩
  refine ⟨G1, _, δ1, _, rep1.drop, q1, fun rs δ2 vs H2 G2 w2 q2 l2 s2 rep2 => ?_⟩
  obtain ⟨w3, s3, rep3⟩ := rep1.frame s2 rep2
  exact k _ δ2 _ H2 G2 w3 q2 (congrArg (· + 1) l2) (s1.trans s3) rep3
/-- a binary operator -/
def ap2 (r : R2) : List V → Hp → VK → Prop
  | [x, y], H, Q => r x y H Q
  | _, _, _ => False
def ap1 (r : V → Hp → VK → Prop) : List V → Hp → VK → Prop
  | [x], H, Q => r x H Q
  | _, _, _ => False
theorem lc_two {a b : PX} {q : List R → PX} {r : R2} {σ : St} {H : Hp} {Q : VK} (hl : LC X.K q (ap2 r)) (h : LE X.K B (pC q (pCons a (pCons b pNil))) σ H Q) : LE X.K B a σ H fun x H1 => LE X.K B b σ H1 fun y H2 => r x y H2 Q := by
  obtain ⟨G, w, δ, Qp, rep, q, k⟩ := h
  refine ⟨G, w, δ, _, rep, q, fun ra δ1 x H1 G1 w1 q1 s1 rep1 => ?_⟩
  refine ⟨G1, _, δ1, _, rep1.drop, q1, fun rb δ2 y H2 G2 w2 q2 s2 rep2 => ?_⟩
  obtain ⟨w3, s3, rep3⟩ := rep1.frame s2 rep2
  exact hl G2 H2 σ δ2 [x, y] [ra, rb] w3 Qp Q rep3 q2 fun r δ' v H' G' w' hq hs hr => k r δ' v H' G' w' hq ((s1.trans s3).trans hs) hr
theorem je_op {a b : Expr} {op : Operator} {pos : Pos} {pa pb : PX} {q : List R → PX} {r : R2} (ho : OpR X (binaryOp op) r) (hl : LC X.K q (ap2 r)) (ha : JE X B a pa) (hb : JE X B b pb) : JE X B (.BinOp a op b pos) (pC q (pCons pa (pCons pb pNil))) :=
  PE_wk (pe_op ho ha hb) fun σ H Q h => lc_two hl h
theorem je_cmp {a b : Expr} {op : CmpOp} {pos : Pos} {pa pb : PX} {q : List R → PX} {r : R2} (ho : OpR X (compareOp op) r) (hl : LC X.K q (ap2 r)) (ha : JE X B a pa) (hb : JE X B b pb) (hm : behindInMarks op b = false) : JE X B (.Compare a [op] [b] pos) (pC q (pCons pa (pCons pb pNil))) :=
  PE_wk (pe_cmpR ho ha hb hm) fun σ H Q h => lc_two hl h
theorem je_un {a : Expr} {op : UnaryOp} {pos : Pos} {pa : PX} {q : List R → PX} {r : V → Hp → VK → Prop} (ho : UnR X (unaryOp op) r) (hl : LC X.K q (ap1 r)) (ha : JE X B a pa) : JE X B (.UnaryOp op a pos) (pC q (pCons pa pNil)) :=
  PE_wk (pe_un ho ha) fun σ H Q ⟨G, w, δ, Qp, rep, q, k⟩ => ⟨G, w, δ, _, rep, q, fun ra δ1 x H1 G1 w1 q1 s1 rep1 =>
    hl G1 H1 σ δ1 [x] [ra] w1 Qp Q rep1 q1 fun r δ' v H' G' w' hq hs hr => k r δ' v H' G' w' hq (s1.trans hs) hr⟩
theorem lc_args {n : Nat} {ps : PL} {q : List R → PX} {r : List V → Hp → VK → Prop} {σ : St} {H : Hp} {Q : VK} (hl : LC X.K q r) (h : LE X.K B (pC q ps) σ H Q) : tCB r (LA X.K B n ps) σ H Q := by
  obtain ⟨G, w, δ, Qp, rep, q, k⟩ := h
  exact ⟨G, w, δ, _, rep, q, fun rs δ1 vs H1 G1 w1 q1 _ s1 rep1 => hl G1 H1 σ δ1 vs rs w1 Qp Q rep1 q1 fun r δ' v H' G' w' hq hs hr => k r δ' v H' G' w' hq (s1.trans hs) hr⟩
/-! ### tests -/
def pT (p : PX) : PB := fun δ Q => p δ fun r δ1 => ∃ b, dat δ1 r = some (.bool b) ∧ Q b δ1
theorem dp_bool {K : PySem.W.Frag} {H : Hp} {v : V} {b : Bool} (h : Dp K H v (.bool b)) : v = .bl b := by cases h; rfl
theorem jb_val {e : Expr} {p : PX} (h : JE X B e p) (he : ∀ whole, isTrue e X.env whole = (do let v ← whole; standAt e.pos; holding [v] (truthy v)) := by intro _; rfl) : JB X B e (pT p) := by
  refine PT_wk (pt_val h he) fun σ H Q ⟨G, w, δ, Qp, rep, q, k⟩ => ?_
  refine ⟨G, w, δ, _, rep, q, fun r δ1 v H1 G1 w1 q1 s1 rep1 => ?_⟩
  obtain ⟨b, hd, q1⟩ := q1
  exact ⟨b, dp_bool (rep1.dpH (j := 0) rfl rfl hd), k b δ1 H1 G1 _ q1 (s1.trans .drop) rep1.drop⟩
theorem jb_cmp {a b : Expr} {op : CmpOp} {pos : Pos} {pa pb : PX} {q : List R → PX} {r : R2} (ho : OpR X (compareOp op) r) (hl : LC X.K q (ap2 r)) (ha : JE X B a pa) (hb : JE X B b pb) (hm : behindInMarks op b = false) : JB X B (.Compare a [op] [b] pos) (pT (pC q (pCons pa (pCons pb pNil)))) := by
  refine PT_wk (pt_cmpR ho ha hb hm) fun σ H Q ⟨G, w, δ, Qp, rep, q, k⟩ => ?_
  refine lc_two hl ⟨G, w, δ, _, rep, q, fun r δ1 v H1 G1 w1 q1 s1 rep1 => ?_⟩
  obtain ⟨b, hd, q1⟩ := q1
  exact ⟨b, dp_bool (rep1.dpH (j := 0) rfl rfl hd), k b δ1 H1 G1 _ q1 (s1.trans .drop) rep1.drop⟩
def pAnd (p q : PB) : PB := fun δ Q => p δ fun b δ1 => if b = true then q δ1 Q else Q false δ1
def JW (X : Cx) (B : Bas) (e : Expr) (p : PB) : Prop := PW X e (LB X.K B p)
theorem jw_pt {e : Expr} {p : PB} (h : JW X B e p) : JB X B e p := PW.pt h
theorem jw_and1 {a : Expr} {pos : Pos} {p : PB} (h : JB X B a p) : JW X B (.BoolOp .And [a] pos) p := pw_and1 h
theorem jw_and {a b : Expr} {rest : List Expr} {pos : Pos} {p q : PB} (ha : JB X B a p) (hb : JW X B (.BoolOp .And (b :: rest) pos) q) : JW X B (.BoolOp .And (a :: b :: rest) pos) (pAnd p q) := by
  refine PW_wk (pw_and ha hb) fun σ H Q ⟨G, w, δ, Qp, rep, h, k⟩ => ?_
  refine ⟨G, w, δ, _, rep, h, fun b δ1 H1 G1 w1 q1 s1 rep1 => ?_⟩
  cases b with
  | true => exact ⟨G1, w1, δ1, Qp, rep1, q1, fun b δ2 H2 G2 w2 q2 s2 rep2 => k b δ2 H2 G2 w2 q2 (s1.trans s2) rep2⟩
  | false => exact k false δ1 H1 G1 w1 q1 s1 rep1
theorem LE.go {K : PySem.W.Frag} {q : PX} {σ : St} {G H G1 H1 : Hp} {w w1 : Addr → Option Nat} {δ δ1 : List Sl} {vs : List V} {rs : List R} {Qp : QE} {Q : VK} (s1 : Stp B.T G H w δ G1 H1 w1 δ1) (rep1 : Rep K B G1 H1 σ δ1 vs rs w1) (h : q δ1 Qp)
    (k : ∀ r δ' v H' G' w', Qp r δ' → Stp B.T G H w δ G' H' w' δ' → Rep K B G' H' σ δ' [v] [r] w' → Q v H') : LE K B q σ H1 Q :=
  ⟨G1, _, δ1, Qp, rep1.drop, h, fun r δ2 v H2 G2 w2 q2 s2 rep2 => k r δ2 v H2 G2 w2 q2 ((s1.trans .drop).trans s2) rep2⟩
end
end Pv
/-! Books looked at: what is amiss, first of all. -/
namespace Wf
open PySem PySem.Spec L2
/-! ### what is asked -/
def isWh (lo hi : Int) : PyData → Bool
  | .int i => decide (lo ≤ i) && decide (i ≤ hi)
  | _ => false
def isPr (s : Int) : PyData → Bool
  | .tuple [a, b] => isWh 0 (s - 1) a && isWh 0 (s - 1) b
  | _ => false
/-- the first pace that is amiss -/
def amissP : Int → Nat → List PyData → Option Nat
  | _, _, [] => none
  | lo, k, .int i :: ds => if (decide (lo ≤ i) && decide (i ≤ 1000)) = true then amissP (i + 1) (k + 1) ds else some k
  | _, k, _ :: _ => some k
def paceA : PyData → Option Nat
  | .tuple ds => if 1 ≤ ds.length ∧ ds.length ≤ 5 then amissP (-1000) 0 ds else some 0
  | _ => some 0
/-- the first pair that is amiss -/
def amissT (s : Int) : Nat → List PyData → Option Nat
  | _, [] => none
  | n, d :: ds => if isPr s d = true then amissT s (n + 1) ds else some n
def tableA (s : Int) (k : Nat) : PyData → Option (Str × Int)
  | .tuple ds => if (ds.length : Int) = s * s then (amissT s 0 ds).map fun n => (("pair" : Str), (k : Int) * (s * s) + n) else some ("table", (k : Int))
  | _ => some ("table", (k : Int))
def amissB (s : Int) : Nat → List PyData → Option (Str × Int)
  | _, [] => none
  | k, d :: ds => match tableA s k d with
    | some a => some a
    | none => amissB s (k + 1) ds
def tabsA (m s : Int) : PyData → Option (Str × Int)
  | .tuple ts => if (ts.length : Int) = nT m then amissB s 0 ts else some ("tables", 0)
  | _ => some ("tables", 0)
def lenD : PyData → Int
  | .tuple ds => ds.length
  | _ => 0
def bookA : PyData → Option (Str × Int)
  | .tuple [p, s, t] => match paceA p with
    | some k => some ("paces", (k : Int))
    | none => match s with
      | .int s' => if (decide (1 ≤ s') && decide (s' ≤ 6)) = true then tabsA (lenD p) s' t else some ("sorts", 0)
      | _ => some ("sorts", 0)
  | _ => some ("form", 0)
end Wf
/-! look_table, look_paces, look_book. -/
namespace Wf
open PySem PySem.Spec L2
/-- an error of the class at C with these fields leaves -/
def RzE (C : Addr) (H : Hp) (E : XK) (w : Str) (n : Int) : Prop := ∀ (dd : Addr) (H' : Hp), Same H H' → H dd = none → H' dd = some (.xd [("at", .int n), ("word", .str w)]) → E (.ref C) (some dd) H'
theorem RzE.go {C : Addr} {H H1 : Hp} {E : XK} {w : Str} {n : Int} (r : RzE C H E w n) (s : Same H H1) : ∀ dd, H1 dd = none → E (.ref C) (some dd) (upd H1 dd (.xd [("at", .int n), ("word", .str w)])) := fun dd hd =>
  r dd _ (s.trans (same_new hd)) (s.free hd) upd_same
theorem RzE.same {C : Addr} {H H1 : Hp} {E : XK} {w : Str} {n : Int} (r : RzE C H E w n) (s : Same H H1) : RzE C H1 E w n := fun dd H' s' hd he => r dd H' (s.trans s') (s.free hd) he
end Wf
/-! A def within a def that is handed on: its captured cells stand still while another def calls it. -/
namespace Wf
open PySem PySem.Spec PyProof.Rows L2 LamX NdefX
/-! ### a call of what a slot holds -/
/-! ### tuple.index of numbers -/
/-! ### heaps: all but tables of code -/
theorem ExtN.tp {K : PySem.W.Frag} {H H' : Hp} (e : ExtN H H') : Tp K H H' := fun a xs h => by
  rcases h with (h | ⟨o, h⟩) | h
  · exact .inl (.inl (e _ _ h fun ps z => nomatch z))
  · exact .inl (.inr ⟨o, e _ _ h fun ps z => nomatch z⟩)
  · exact .inr h
/-! ### made_table -/
/-! ### made_table(n, f), f a def made here -/
/-! ### tuples whose object is known -/
/-- x is a tuple of these numbers, its object known -/
structure NmT (H : Hp) (x : V) (ns : List Int) : Prop where
  ex : ∃ (p : Addr) (o : Obj), x = .ref p ∧ H p = some (.frz o (.tup (ns.map V.int))) ∧ o.cls = .type "tuple" ∧ o.dict = none
theorem NmT.ext {H H' : Hp} {x : V} {ns : List Int} (h : NmT H x ns) (e : ExtN H H') : NmT H' x ns := by
  obtain ⟨p, o, rfl, h1, h2, h3⟩ := h.ex
  exact ⟨p, o, rfl, e _ _ h1 (fun ps z => nomatch z), h2, h3⟩
theorem NmT.sq {K : PySem.W.Frag} {H : Hp} {x : V} {ns : List Int} (h : NmT H x ns) : ∃ p, x = .ref p ∧ SqT K H p (ns.map V.int) := by
  obtain ⟨p, o, rfl, h1, _, _⟩ := h.ex
  exact ⟨p, rfl, .inl (.inr ⟨o, h1⟩)⟩
theorem NmT.dp {K : PySem.W.Frag} {H : Hp} {x : V} {ns : List Int} (h : NmT H x ns) : Dp K H x (dI ns) := by
  obtain ⟨p, rfl, hs⟩ := h.sq (K := K)
  exact .tup hs (dp_ints ns)
end Wf
/-! t * n, t a tuple that is not empty, n from 0 on. -/
namespace Wf
open PySem PySem.Spec PyProof.Rows L2
theorem mul_one (l : Addr) (ws : Array Value) (n : Nat) (dd : Option Addr) (sl : Array (Option Value)) (u : Tok) :
    Meets (Builtin.«tuple.__mul__» ⟨[.ref l, .int 1 u], []⟩) (fun _ R s => s.heap.get? l = some { cls := .type "tuple", dict := dd, data := .seq ws n, slots := sl } ∧ R (.ok (.ret (Value.ref l))) s) :=
  .of_wp fun prog w A R s q => by
    obtain ⟨hp, gn, dr, tk, os⟩ := s
    obtain ⟨hl, q⟩ := q
    have ix := AutoSeq1.idx_int
    have c1 : (ws.isEmpty || (1 : Int) == 1) = true := by rw [Bool.or_comm]; rfl
    wp_walk using wpAny_loadPart' hl
    repeat (first
      | (refine wpAny_ite_true (decide_eq_true c1) ?_; wp_walk using wpAny_loadPart' hl)
      | (refine wpAny_ite_true c1 ?_; wp_walk using wpAny_loadPart' hl))
    exact ⟨_, rfl, q⟩
theorem mul_none (l : Addr) (ws : Array Value) (n : Nat) (dd : Option Addr) (sl : Array (Option Value)) (u : Tok) (he : ws.isEmpty = false) :
    Meets (Builtin.«tuple.__mul__» ⟨[.ref l, .int 0 u], []⟩) (fun _ R s => s.heap.get? l = some { cls := .type "tuple", dict := dd, data := .seq ws n, slots := sl } ∧
      R (.ok (.ret (Value.ref s.heap.objs.size))) { s with heap := s.heap.push { cls := Value.type "tuple", data := Data.seq #[] }, toks := s.toks }) :=
  .of_wp fun prog w A R s q => by
    obtain ⟨hp, gn, dr, tk, os⟩ := s
    obtain ⟨hl, q⟩ := q
    have ix := AutoSeq1.idx_int
    have c1 : (ws.isEmpty || (0 : Int) == 1) = false := by rw [he]; rfl
    wp_walk using wpAny_loadPart' hl
    repeat (first
      | (refine wpAny_ite_false (decide_eq_false (by rw [c1]; exact Bool.false_ne_true)) ?_; wp_walk using wpAny_loadPart' hl)
      | (refine wpAny_ite_true (decide_eq_true rfl) ?_; wp_walk using wpAny_loadPart' hl))
    exact ⟨_, rfl, q⟩
def rRepA (K : PySem.W.Frag) : R2 := fun x y H Q => ∃ l k xs, x = .ref l ∧ y = .int k ∧ SqT K H l xs ∧ xs ≠ [] ∧ 0 ≤ k ∧ k ≤ 1000 ∧ xs.length ≤ 1000 ∧ (k = 1 → Q (.ref l) H) ∧ (k ≠ 1 → ∀ p, H p = none → Q (.ref p) (upd H p (.tup (List.replicate k.toNat xs).flatten)))
theorem op_repA {X : Cx} : OpR X (binaryOp .Mult) (rRepA X.K) := by
  intro pins s σ H x y v u Q I rx ry q
  obtain ⟨l, k, xs, rfl, rfl, hT, hne, k0, k1, hz, q1, q2⟩ := q
  by_cases c2 : 2 ≤ k
  · exact op_repT pins s σ H _ _ v u Q I rx ry ⟨l, k, xs, rfl, rfl, hT, hne, c2, k1, hz, q2 (by omega)⟩
  · cases rx
    obtain ⟨t, rfl⟩ := ry
    obtain ⟨its, r, ⟨⟨cls, dd, dt, sl⟩, ho, hc, n, hd⟩, hs⟩ := I.tuple hT
    simp only at hc hd
    subst hc hd
    have hk : k = 0 ∨ k = 1 := by omega
    have hle : its.length = xs.length := r.length.symm
    rcases hk with rfl | rfl
    · have he : its.toArray.isEmpty = false := by
        cases its with
        | nil => exact absurd (List.eq_nil_of_length_eq_zero hle.symm) hne
        | cons a b => rfl
      refine wpAny_binaryOp_repeat_ref (T := "tuple") (U := "int") (by decide) ⟨_, ho, rfl⟩ (fun s' => typeIs_int s' 0 t) noFill_tuple_mul F.fills_int_mul F.slot_int_rmul repeat_tuple F.slot_int_index.lookup
        (call_meets F.slot_int_rmul (typeIs_int s 0 t) F.entry_int_rmul (F.args_int_rmul_2 _ _) (int_rmul_tuple 0 t l its.toArray n dd sl) ⟨ho, rfl, ⟨_, ho, rfl⟩, call_meets F.slot_tuple_mul ⟨_, ho, rfl⟩ F.entry_tuple_mul (F.args_tuple_mul_2 _ _) (mul_none l its.toArray n dd sl t he) ⟨ho, ?_⟩⟩)
      refine ⟨.ref s.heap.objs.size, _, I.laid (t' := s.toks) (o := .tup []) (fun b ob e => Heap.get?_push_of_some _ e) (Nat.le_refl _) ?_, rfl, q2 (by decide) _ (I.hok.fresh (Nat.le_refl _))⟩
      exact ⟨Nat.zero_le _, [], .nil, IsTup.new _ _⟩
    · refine wpAny_binaryOp_repeat_ref (T := "tuple") (U := "int") (by decide) ⟨_, ho, rfl⟩ (fun s' => typeIs_int s' 1 t) noFill_tuple_mul F.fills_int_mul F.slot_int_rmul repeat_tuple F.slot_int_index.lookup
        (call_meets F.slot_int_rmul (typeIs_int s 1 t) F.entry_int_rmul (F.args_int_rmul_2 _ _) (int_rmul_tuple 1 t l its.toArray n dd sl) ⟨ho, rfl, ⟨_, ho, rfl⟩, call_meets F.slot_tuple_mul ⟨_, ho, rfl⟩ F.entry_tuple_mul (F.args_tuple_mul_2 _ _) (mul_one l its.toArray n dd sl t) ⟨ho, ?_⟩⟩)
      exact ⟨.ref l, H, I, rfl, q1 rfl⟩
end Wf
namespace Pv
open PySem PySem.Spec L2 Wf
variable {B : Bas}
/-! ### operations that read data and give data -/
def dats (δ : List Sl) : List R → Option (List PyData)
  | [] => some []
  | r :: rs => match dat δ r with
    | none => none
    | some d => match dats δ rs with
      | none => none
      | some ds => some (d :: ds)
inductive Vws (K : PySem.W.Frag) (G H : Hp) : List V → List PyData → Prop
  | nil : Vws K G H [] []
  | cons {v : V} {vs : List V} {d : PyData} {ds : List PyData} : Vw K G H v d → Vws K G H vs ds → Vws K G H (v :: vs) (d :: ds)
section
variable {K : PySem.W.Frag} {G H : Hp} {σ : St} {δ : List Sl} {w : Addr → Option Nat}
theorem vws_of : ∀ (rs : List R) (vs : List V) (ds : List PyData), vs.length = rs.length → (∀ (j : Nat) v q d, vs[j]? = some v → rs[j]? = some q → Pv.dat δ q = some d → Vw K G H v d) → dats δ rs = some ds → Vws K G H vs ds
  | [], [], ds, _, _, h => by
    cases h; exact .nil
  | [], v :: vs, ds, hl, _, _ => by simp at hl
  | r :: rs, [], ds, hl, _, _ => by simp at hl
  | r :: rs, v :: vs, ds, hl, hv, h => by
    unfold dats at h
    revert h
    split
    · intro h; cases h
    · rename_i d e
      split
      · intro h; cases h
      · rename_i ds' e'
        intro h; cases h
        exact .cons (hv 0 v r d rfl rfl e) (vws_of rs vs ds' (by simpa using hl) (fun j v' q d' h1 h2 h3 => hv (j + 1) v' q d' (by simpa using h1) (by simpa using h2) h3) e')
theorem Rep.vws {vs : List V} {rs : List R} {ds : List PyData} (r : Rep K B G H σ δ vs rs w) (h : dats δ rs = some ds) : Vws K G H vs ds :=
  vws_of rs vs ds r.tlen (fun _ _ _ _ hv hq hd => r.dat hv hq hd) h
end
/-- the value v of the data d: one that is there, or a new tuple -/
def Res (K : PySem.W.Frag) (G H : Hp) (v : V) (H' : Hp) (d : PyData) : Prop := (H' = H ∧ Dq K G v d) ∨ ∃ p us l, v = .ref p ∧ H p = none ∧ H' = upd H p (.tup us) ∧ DqAll K G us l ∧ d = .tuple l
theorem Res.old {K : PySem.W.Frag} {G H : Hp} {v : V} {d : PyData} (h : Dq K G v d) : Res K G H v H d := .inl ⟨rfl, h⟩
theorem Res.int {K : PySem.W.Frag} {G H : Hp} {i : Int} : Res K G H (.int i) H (.int i) := .inl ⟨rfl, .int i⟩
theorem Res.bool {K : PySem.W.Frag} {G H : Hp} {i : Bool} : Res K G H (.bl i) H (.bool i) := .inl ⟨rfl, .bl i⟩
theorem Res.str {K : PySem.W.Frag} {G H : Hp} {i : Str} : Res K G H (.str i) H (.str i) := .inl ⟨rfl, .str i⟩
def qD (f : List PyData → (PyData → Prop) → Prop) : List R → PX := fun rs δ Q => match dats δ rs with
  | some ds => f ds fun d => Q (.im d) δ
  | none => False
def qL (f : List PyData → (List PyData → Prop) → Prop) : List R → PX := fun rs δ Q => match dats δ rs with
  | some ds => f ds fun l => Q (.ow (.lst l)) δ
  | none => False
theorem dq_newTup {K : PySem.W.Frag} {G H : Hp} {p : Addr} {us : List V} {l : List PyData} (s : Same G H) (hp : H p = none) (h : DqAll K G us l) : Dq K (upd G p (.tup us)) (.ref p) (.tuple l) := by
  have gp : G p = none := by
    cases e : G p with
    | none => rfl
    | some u => rw [s p u e] at hp; cases hp
  exact .tup (SqT.of upd_same) (dpAll_mono (same_new gp) _ _ h)
theorem lc_im {K : PySem.W.Frag} {f : List PyData → (PyData → Prop) → Prop} {r : List V → Hp → VK → Prop}
    (h : ∀ G H vs ds Q, Same G H → Vws K G H vs ds → f ds (fun d => ∀ v H', Res K G H v H' d → Q v H') → (∀ k k' : PyData → Prop, (∀ d, k d → k' d) → f ds k → f ds k') → r vs H Q) (mono : ∀ ds (k k' : PyData → Prop), (∀ d, k d → k' d) → f ds k → f ds k') : LC K (qD f) r := by
  intro B G H σ δ vs rs w Qp Q rep q k
  unfold qD at q
  revert q
  split
  · rename_i ds e
    intro q
    refine h G H vs ds Q rep.sub (rep.vws e) (mono ds _ _ (fun d hd v H' res => ?_) q) (mono ds)
    rcases res with ⟨rfl, hq⟩ | ⟨p, us, l, rfl, hp, rfl, hus, rfl⟩
    · exact k _ δ v _ G _ hd .drop (rep.ret hq)
    · obtain ⟨s1, r1⟩ := rep.retNew hp (dq_newTup rep.sub hp hus)
      exact k _ δ _ _ _ _ hd s1 r1
  · intro q; exact q.elim
theorem lc_own {K : PySem.W.Frag} {f : List PyData → (List PyData → Prop) → Prop} {r : List V → Hp → VK → Prop}
    (h : ∀ G H vs ds Q, Same G H → Vws K G H vs ds → f ds (fun l => ∀ us p, DqAll K G us l → H p = none → Q (.ref p) (upd H p (.lst us))) → r vs H Q) (mono : ∀ ds (k k' : List PyData → Prop), (∀ d, k d → k' d) → f ds k → f ds k') : LC K (qL f) r := by
  intro B G H σ δ vs rs w Qp Q rep q k
  unfold qL at q
  revert q
  split
  · rename_i ds e
    intro q
    refine h G H vs ds Q rep.sub (rep.vws e) (mono ds _ _ (fun l hd us p hus hp => ?_) q)
    obtain ⟨w', s1, r1⟩ := rep.retLst hp hus
    exact k _ δ _ _ _ _ hd s1 r1
  · intro q; exact q.elim
/-- one of two readings -/
def qOr (q q' : List R → PX) : List R → PX := fun rs δ Q => q rs δ Q ∨ q' rs δ Q
theorem lc_or {K : PySem.W.Frag} {q q' : List R → PX} {r r' : R2} (h : LC K q (ap2 r)) (h' : LC K q' (ap2 r')) : LC K (qOr q q') (ap2 fun x y H Q => r x y H Q ∨ r' x y H Q) := by
  intro B G H σ δ vs rs w Qp Q rep hq k
  match vs, hq with
  | [x, y], .inl hq => exact .inl (h G H σ δ [x, y] rs w Qp Q rep hq k)
  | [x, y], .inr hq => exact .inr (h' G H σ δ [x, y] rs w Qp Q rep hq k)
  | [], .inl hq => exact h G H σ δ [] rs w Qp Q rep hq k
  | [], .inr hq => exact h' G H σ δ [] rs w Qp Q rep hq k
  | [x], .inl hq => exact h G H σ δ [x] rs w Qp Q rep hq k
  | [x], .inr hq => exact h' G H σ δ [x] rs w Qp Q rep hq k
  | x :: y :: z :: vs, .inl hq => exact h G H σ δ (x :: y :: z :: vs) rs w Qp Q rep hq k
  | x :: y :: z :: vs, .inr hq => exact h' G H σ δ (x :: y :: z :: vs) rs w Qp Q rep hq k
theorem op_or {X : Cx} {f : Value → Value → Sem Value} {r r' : R2} (h : OpR X f r) (h' : OpR X f r') : OpR X f (fun x y H Q => r x y H Q ∨ r' x y H Q) := by
  intro pins s σ H x y v u Q I rx ry q
  rcases q with q | q
  · exact h pins s σ H x y v u Q I rx ry q
  · exact h' pins s σ H x y v u Q I rx ry q
/-! ### arithmetic -/
def fI2 (C : Int → Int → Prop) (g : Int → Int → PyData) : List PyData → (PyData → Prop) → Prop
  | [.int a, .int b], k => C a b ∧ k (g a b)
  | _, _ => False
theorem fI2_mono {C : Int → Int → Prop} {g : Int → Int → PyData} : ∀ ds (k k' : PyData → Prop), (∀ d, k d → k' d) → fI2 C g ds k → fI2 C g ds k' := by
  intro ds k k' h q
  unfold fI2 at q ⊢
  split at q
  · exact ⟨q.1, h _ q.2⟩
  · exact q.elim
theorem lc_I2 {K : PySem.W.Frag} {C : Int → Int → Prop} {g : Int → Int → PyData} {gv : Int → Int → V} (hg : ∀ a b G, Dq K G (gv a b) (g a b)) : LC K (qD (fI2 C g)) (ap2 (rI C gv)) := by
  refine lc_im (fun G H vs ds Q s hv q _ => ?_) fI2_mono
  unfold fI2 at q
  split at q
  · cases hv with
    | cons h1 hv =>
      cases hv with
      | cons h2 hv =>
        cases hv
        exact ⟨_, _, h1.int, h2.int, q.1, q.2 _ _ (.old (hg _ _ G))⟩
  · exact q.elim
def T2 (_ _ : Int) : Prop := True
theorem rI_0 {g : Int → Int → V} {x y : V} {H : Hp} {Q : VK} (h : rI T2 g x y H Q) : rI0 g x y H Q := by
  obtain ⟨i, j, h1, h2, _, q⟩ := h
  exact ⟨i, j, h1, h2, q⟩
theorem lc_wk {K : PySem.W.Frag} {q : List R → PX} {r r' : R2} (h : LC K q (ap2 r)) (k : ∀ x y H Q, r x y H Q → r' x y H Q) : LC K q (ap2 r') := by
  intro B G H σ δ vs rs w Qp Q rep hq kk
  match vs with
  | [x, y] => exact k x y H Q (h G H σ δ [x, y] rs w Qp Q rep hq kk)
  | [] => exact h G H σ δ [] rs w Qp Q rep hq kk
  | [x] => exact h G H σ δ [x] rs w Qp Q rep hq kk
  | x :: y :: z :: vs => exact h G H σ δ (x :: y :: z :: vs) rs w Qp Q rep hq kk
theorem lc_I0 {K : PySem.W.Frag} {g : Int → Int → PyData} {gv : Int → Int → V} (hg : ∀ a b G, Dq K G (gv a b) (g a b)) : LC K (qD (fI2 T2 g)) (ap2 (rI0 gv)) := lc_wk (lc_I2 hg) fun _ _ _ _ h => rI_0 h
/-- sums: numbers, tuples, texts, lists -/
def fCat : List PyData → (PyData → Prop) → Prop
  | [.tuple a, .tuple b], k => a.length + b.length ≤ sizeLine ∧ k (.tuple (a ++ b))
  | _, _ => False
def fCatL : List PyData → (List PyData → Prop) → Prop
  | [.list a, .list b], k => a.length + b.length ≤ sizeLine ∧ k (a ++ b)
  | _, _ => False
def fCatS : List PyData → (PyData → Prop) → Prop
  | [.str a, .str b], k => a.length + b.length ≤ sizeLine ∧ k (.str (a ++ b))
  | _, _ => False
theorem dqAll_len {K : PySem.W.Frag} {G : Hp} : ∀ {us : List V} {ds : List PyData}, DqAll K G us ds → us.length = ds.length
  | _, _, .nil => rfl
  | _, _, .cons _ h => congrArg (· + 1) (dqAll_len h)
theorem dqAll_append {K : PySem.W.Frag} {G : Hp} : ∀ {us us' : List V} {ds ds' : List PyData}, DqAll K G us ds → DqAll K G us' ds' → DqAll K G (us ++ us') (ds ++ ds')
  | _, _, _, _, .nil, h => h
  | _, _, _, _, .cons h1 h2, h => .cons h1 (dqAll_append h2 h)
theorem dqAll_nil {K : PySem.W.Frag} {G : Hp} {us : List V} (h : DqAll K G us []) : us = [] := by cases h; rfl
theorem dqAll_nil' {K : PySem.W.Frag} {G : Hp} {ds : List PyData} (h : DqAll K G [] ds) : ds = [] := by cases h; rfl
theorem lc_cat {K : PySem.W.Frag} : LC K (qD fCat) (ap2 (rCatA K)) := by
  refine lc_im (fun G H vs ds Q s hv q _ => ?_) (fun ds k k' h q => ?_)
  · unfold fCat at q
    split at q
    · cases hv with
      | cons h1 hv =>
        cases hv with
        | cons h2 hv =>
          cases hv
          obtain ⟨p1, u1, rfl, t1, d1, e1⟩ := h1.seqT s
          obtain ⟨p2, u2, rfl, t2, d2, e2⟩ := h2.seqT s
          have l1 := dqAll_len d1
          have l2 := dqAll_len d2
          refine ⟨p1, p2, u1, u2, rfl, rfl, t1, t2, by omega, fun z => ?_, fun z1 z2 => ?_, fun z1 z2 p hp => ?_⟩
          · subst z
            rw [dqAll_nil' d1, List.nil_append] at q
            exact q.2 _ _ (.old e2)
          · subst z2
            rw [dqAll_nil' d2, List.append_nil] at q
            exact q.2 _ _ (.old e1)
          · exact q.2 _ _ (.inr ⟨p, _, _, rfl, hp, rfl, dqAll_append d1 d2, rfl⟩)
    · exact q.elim
  · unfold fCat at q ⊢
    split at q
    · exact ⟨q.1, h _ q.2⟩
    · exact q.elim
theorem lc_catS {K : PySem.W.Frag} : LC K (qD fCatS) (ap2 fun x y H Q => ∃ i j, x = .str i ∧ y = .str j ∧ i.length + j.length ≤ sizeLine ∧ Q (.str (i ++ j)) H) := by
  refine lc_im (fun G H vs ds Q s hv q _ => ?_) (fun ds k k' h q => ?_)
  · unfold fCatS at q
    split at q
    · cases hv with
      | cons h1 hv =>
        cases hv with
        | cons h2 hv =>
          cases hv
          exact ⟨_, _, h1.str, h2.str, q.1, q.2 _ _ .str⟩
    · exact q.elim
  · unfold fCatS at q ⊢
    split at q
    · exact ⟨q.1, h _ q.2⟩
    · exact q.elim
theorem lc_catL {K : PySem.W.Frag} : LC K (qL fCatL) (ap2 rCat) := by
  refine lc_own (fun G H vs ds Q s hv q => ?_) (fun ds k k' h q => ?_)
  · unfold fCatL at q
    split at q
    · cases hv with
      | cons h1 hv =>
        cases hv with
        | cons h2 hv =>
          cases hv
          obtain ⟨p1, u1, rfl, t1, d1⟩ := h1.seqL s
          obtain ⟨p2, u2, rfl, t2, d2⟩ := h2.seqL s
          have l1 := dqAll_len d1
          have l2 := dqAll_len d2
          exact ⟨p1, p2, u1, u2, rfl, rfl, t1, t2, by omega, fun p hp => q.2 _ p (dqAll_append d1 d2) hp⟩
    · exact q.elim
  · unfold fCatL at q ⊢
    split at q
    · exact ⟨q.1, h _ q.2⟩
    · exact q.elim
/-- the plus of any two -/
def qAddU : List R → PX := fun rs δ Q => match dats δ rs with
  | some [.int a, .int b] => Q (.im (.int (a + b))) δ
  | some [.tuple a, .tuple b] => a.length + b.length ≤ sizeLine ∧ Q (.im (.tuple (a ++ b))) δ
  | some [.list a, .list b] => a.length + b.length ≤ sizeLine ∧ Q (.ow (.lst (a ++ b))) δ
  | some [.str a, .str b] => a.length + b.length ≤ sizeLine ∧ Q (.im (.str (a ++ b))) δ
  | _ => False
theorem LC.wq {K : PySem.W.Frag} {q q' : List R → PX} {r : List V → Hp → VK → Prop} (h : LC K q r) (k : ∀ rs δ Q, q' rs δ Q → q rs δ Q) : LC K q' r := fun {B} G H σ δ vs rs w Qp Q rep hq kk => h G H σ δ vs rs w Qp Q rep (k rs δ Qp hq) kk
def rAddU (K : PySem.W.Frag) : R2 := fun x y H Q => qAdd x y H Q ∨ (rCatA K x y H Q ∨ (rCat x y H Q ∨ ∃ i j, x = .str i ∧ y = .str j ∧ i.length + j.length ≤ sizeLine ∧ Q (.str (i ++ j)) H))
theorem op_addU {X : Cx} : OpR X (binaryOp .Add) (rAddU X.K) := op_or op_add (op_or op_catA (op_or op_cat op_add_str))
theorem lc_addU {K : PySem.W.Frag} : LC K qAddU (ap2 (rAddU K)) := by
  refine LC.wq (lc_or (lc_I0 (g := fun a b => .int (a + b)) fun a b G => .int _) (lc_or lc_cat (lc_or lc_catL lc_catS))) fun rs δ Q h => ?_
  unfold qAddU at h
  split at h
  · rename_i a b e
    exact .inl (by unfold qD; rw [e]; exact ⟨trivial, h⟩)
  · rename_i a b e
    exact .inr (.inl (by unfold qD; rw [e]; exact h))
  · rename_i a b e
    exact .inr (.inr (.inl (by unfold qL; rw [e]; exact h)))
  · rename_i a b e
    exact .inr (.inr (.inr (by unfold qD; rw [e]; exact h)))
  · exact h.elim
section
variable {X : Cx} {a b : Expr} {pos : Pos} {pa pb : PX}
def pAdd (pa pb : PX) : PX := pC qAddU (pCons pa (pCons pb pNil))
theorem je_add (ha : JE X B a pa) (hb : JE X B b pb) : JE X B (.BinOp a .Add b pos) (pAdd pa pb) := je_op op_addU lc_addU ha hb
def pSub (pa pb : PX) : PX := pC (qD (fI2 T2 fun a b => .int (a - b))) (pCons pa (pCons pb pNil))
theorem je_sub (ha : JE X B a pa) (hb : JE X B b pb) : JE X B (.BinOp a .Sub b pos) (pSub pa pb) := je_op op_sub (lc_I0 fun a b G => .int _) ha hb
/-- one factor below 2 ^ 64, or both together below a million bits -/
def CMu (i j : Int) : Prop := CMul i j ∨ CMulW i j
def fRepL : List PyData → (List PyData → Prop) → Prop
  | [.list a, .int n], k => -(2 ^ 63) ≤ n ∧ n < 2 ^ 63 ∧ a.length * n.toNat ≤ sizeLine ∧ k (List.replicate n.toNat a).flatten
  | _, _ => False
def fRepT : List PyData → (PyData → Prop) → Prop
  | [.tuple a, .int n], k => a ≠ [] ∧ 0 ≤ n ∧ n ≤ 1000 ∧ a.length ≤ 1000 ∧ k (.tuple (List.replicate n.toNat a).flatten)
  | _, _ => False
theorem dqAll_rep {K : PySem.W.Frag} {G : Hp} {us : List V} {ds : List PyData} (h : DqAll K G us ds) : ∀ n : Nat, DqAll K G (List.replicate n us).flatten (List.replicate n ds).flatten
  | 0 => .nil
  | n + 1 => by
    rw [List.replicate_succ, List.replicate_succ, List.flatten_cons, List.flatten_cons]
    exact dqAll_append h (dqAll_rep h n)
theorem lc_repL {K : PySem.W.Frag} : LC K (qL fRepL) (ap2 rRep) := by
  refine lc_own (fun G H vs ds Q s hv q => ?_) (fun ds k k' h q => ?_)
  · unfold fRepL at q
    split at q
    · cases hv with
      | cons h1 hv =>
        cases hv with
        | cons h2 hv =>
          cases hv
          obtain ⟨p1, u1, rfl, t1, d1⟩ := h1.seqL s
          have l1 := dqAll_len d1
          exact ⟨p1, _, u1, rfl, h2.int, t1, q.1, q.2.1, by rw [l1]; exact q.2.2.1, fun p hp => q.2.2.2 _ p (dqAll_rep d1 _) hp⟩
    · exact q.elim
  · unfold fRepL at q ⊢
    split at q
    · exact ⟨q.1, q.2.1, q.2.2.1, h _ q.2.2.2⟩
    · exact q.elim
theorem lc_repT {K : PySem.W.Frag} : LC K (qD fRepT) (ap2 (rRepA K)) := by
  refine lc_im (fun G H vs ds Q s hv q _ => ?_) (fun ds k k' h q => ?_)
  · unfold fRepT at q
    split at q
    · rename_i a n k
      cases hv with
      | cons h1 hv =>
        cases hv with
        | cons h2 hv =>
          cases hv
          obtain ⟨p1, u1, rfl, t1, d1, e1⟩ := h1.seqT s
          have l1 := dqAll_len d1
          obtain ⟨q1, q2, q3, q4, q5⟩ := q
          refine ⟨p1, _, u1, rfl, h2.int, t1, fun z => ?_, q2, q3, by omega, fun z => ?_, fun z p hp => ?_⟩
          · subst z; exact q1 (dqAll_nil' d1)
          · subst z
            refine q5 _ _ (.old ?_)
            show Dq K G _ (.tuple (List.replicate 1 a).flatten)
            rw [List.replicate_one, List.flatten_cons, List.flatten_nil, List.append_nil]
            exact e1
          · exact q5 _ _ (.inr ⟨p, _, _, rfl, hp, rfl, dqAll_rep d1 _, rfl⟩)
    · exact q.elim
  · unfold fRepT at q ⊢
    split at q
    · exact ⟨q.1, q.2.1, q.2.2.1, q.2.2.2.1, h _ q.2.2.2.2⟩
    · exact q.elim
def qMulU : List R → PX := fun rs δ Q => match dats δ rs with
  | some [.int a, .int b] => CMu a b ∧ Q (.im (.int (a * b))) δ
  | some [.list a, .int n] => -(2 ^ 63) ≤ n ∧ n < 2 ^ 63 ∧ a.length * n.toNat ≤ sizeLine ∧ Q (.ow (.lst (List.replicate n.toNat a).flatten)) δ
  | some [.tuple a, .int n] => a ≠ [] ∧ 0 ≤ n ∧ n ≤ 1000 ∧ a.length ≤ 1000 ∧ Q (.im (.tuple (List.replicate n.toNat a).flatten)) δ
  | _ => False
def rMulU (K : PySem.W.Frag) : R2 := fun x y H Q => (qMul x y H Q ∨ rI CMulW (fun i j => .int (i * j)) x y H Q) ∨ (rRep x y H Q ∨ rRepA K x y H Q)
theorem op_mulU : OpR X (binaryOp .Mult) (rMulU X.K) := op_or (op_or op_mul op_mulW) (op_or op_rep op_repA)
theorem lc_mulU {K : PySem.W.Frag} : LC K qMulU (ap2 (rMulU K)) := by
  refine LC.wq (lc_or (lc_or (lc_I2 (C := CMul) (g := fun a b => .int (a * b)) fun a b G => .int _) (lc_I2 (C := CMulW) (g := fun a b => .int (a * b)) fun a b G => .int _)) (lc_or lc_repL lc_repT)) fun rs δ Q h => ?_
  unfold qMulU at h
  split at h
  · rename_i a b e
    rcases h with ⟨h1 | h1, h⟩
    · exact .inl (.inl (by unfold qD; rw [e]; exact ⟨h1, h⟩))
    · exact .inl (.inr (by unfold qD; rw [e]; exact ⟨h1, h⟩))
  · rename_i a b e
    exact .inr (.inl (by unfold qL; rw [e]; exact h))
  · rename_i a b e
    exact .inr (.inr (by unfold qD; rw [e]; exact h))
  · exact h.elim
def pMul (pa pb : PX) : PX := pC qMulU (pCons pa (pCons pb pNil))
theorem je_mul (ha : JE X B a pa) (hb : JE X B b pb) : JE X B (.BinOp a .Mult b pos) (pMul pa pb) := je_op op_mulU lc_mulU ha hb
def pFdiv (pa pb : PX) : PX := pC (qD (fI2 CDivW fun a b => .int (a / b))) (pCons pa (pCons pb pNil))
theorem je_fdiv (ha : JE X B a pa) (hb : JE X B b pb) : JE X B (.BinOp a .FloorDiv b pos) (pFdiv pa pb) := je_op op_fdivW (lc_I2 fun a b G => .int _) ha hb
def CMod (_ j : Int) : Prop := 0 < j
def pMod (pa pb : PX) : PX := pC (qD (fI2 CMod fun a b => .int (a % b))) (pCons pa (pCons pb pNil))
theorem je_mod (ha : JE X B a pa) (hb : JE X B b pb) : JE X B (.BinOp a .Mod b pos) (pMod pa pb) := je_op op_mod (lc_I2 fun a b G => .int _) ha hb
def pPow (pa pb : PX) : PX := pC (qD (fI2 CPow fun a b => .int (a ^ b.toNat))) (pCons pa (pCons pb pNil))
theorem je_pow (ha : JE X B a pa) (hb : JE X B b pb) : JE X B (.BinOp a .Pow b pos) (pPow pa pb) := je_op op_pow (lc_I2 fun a b G => .int _) ha hb
def fNeg : List PyData → (PyData → Prop) → Prop
  | [.int a], k => k (.int (-a))
  | _, _ => False
theorem lc_neg {K : PySem.W.Frag} : LC K (qD fNeg) (ap1 qNeg) := by
  refine lc_im (fun G H vs ds Q s hv q _ => ?_) (fun ds k k' h q => ?_)
  · unfold fNeg at q
    split at q
    · cases hv with
      | cons h1 hv =>
        cases hv
        exact ⟨_, h1.int, q _ _ .int⟩
    · exact q.elim
  · unfold fNeg at q ⊢
    split at q
    · exact h _ q
    · exact q.elim
def pNeg (pa : PX) : PX := pC (qD fNeg) (pCons pa pNil)
theorem je_neg (ha : JE X B a pa) : JE X B (.UnaryOp .USub a pos) (pNeg pa) := je_un un_neg lc_neg ha
/-! ### comparisons -/
def pCmp (f : Int → Int → Bool) (pa pb : PX) : PX := pC (qD (fI2 T2 fun a b => .bool (f a b))) (pCons pa (pCons pb pNil))
abbrev pLt := pCmp fun a b => decide (a < b)
abbrev pLe := pCmp fun a b => decide (a ≤ b)
abbrev pGt := pCmp fun a b => decide (b < a)
abbrev pGe := pCmp fun a b => decide (b ≤ a)
theorem je_le (ha : JE X B a pa) (hb : JE X B b pb) : JE X B (.Compare a [.LtE] [b] pos) (pLe pa pb) := je_cmp op_le (lc_I0 fun a b G => .bl _) ha hb (nomark _)
theorem jb_lt (ha : JE X B a pa) (hb : JE X B b pb) : JB X B (.Compare a [.Lt] [b] pos) (pT (pLt pa pb)) := jb_cmp op_lt (lc_I0 fun a b G => .bl _) ha hb (nomark _)
theorem jb_gt (ha : JE X B a pa) (hb : JE X B b pb) : JB X B (.Compare a [.Gt] [b] pos) (pT (pGt pa pb)) := jb_cmp op_gt (lc_I0 fun a b G => .bl _) ha hb (nomark _)
theorem jb_ge (ha : JE X B a pa) (hb : JE X B b pb) : JB X B (.Compare a [.GtE] [b] pos) (pT (pGe pa pb)) := jb_cmp op_ge (lc_I0 fun a b G => .bl _) ha hb (nomark _)
/-- equal: of any data -/
def eqd (x y : PyData) : Bool := PyData.eqv x y
def fEq (neg : Bool) : List PyData → (PyData → Prop) → Prop
  | [.int a, .int b], k => k (.bool (if neg then !decide (a = b) else decide (a = b)))
  | [.str a, .str b], k => k (.bool (if neg then !decide (a = b) else decide (a = b)))
  | [a, b], k => SeqAt.shaped a = true ∧ SeqAt.shaped b = true ∧ k (.bool (if neg then !eqd a b else eqd a b))
  | _, _ => False
theorem fEq_mono {neg : Bool} : ∀ ds (k k' : PyData → Prop), (∀ d, k d → k' d) → fEq neg ds k → fEq neg ds k' := by
  intro ds k k' h q
  unfold fEq at q ⊢
  split at q
  · exact h _ q
  · exact h _ q
  · exact ⟨q.1, q.2.1, h _ q.2.2⟩
  · exact q.elim
def rEqU (K : PySem.W.Frag) : R2 := fun x y H Q => rEq x y H Q ∨ rEqD K x y H Q
def rNeU (K : PySem.W.Frag) : R2 := fun x y H Q => rNe x y H Q ∨ rNeD K x y H Q
theorem dec_int {a b : Int} : decide (V.int a = V.int b) = decide (a = b) := by
  by_cases h : a = b
  · subst h; simp
  · rw [decide_eq_false h, decide_eq_false fun z => h (V.int.inj z)]
theorem dec_str {a b : Str} : decide (V.str a = V.str b) = decide (a = b) := by
  by_cases h : a = b
  · subst h; simp
  · rw [decide_eq_false h, decide_eq_false fun z => h (V.str.inj z)]
theorem lc_eqU {K : PySem.W.Frag} : LC K (qD (fEq false)) (ap2 (rEqU K)) := by
  refine lc_im (fun G H vs ds Q s hv q _ => ?_) fEq_mono
  unfold fEq at q
  split at q
  · cases hv with
    | cons h1 hv =>
      cases hv with
      | cons h2 hv =>
        cases hv
        refine .inl ⟨by rw [h1.int, h2.int]; rfl, ?_⟩
        rw [h1.int, h2.int, dec_int]
        exact q _ _ .bool
  · cases hv with
    | cons h1 hv =>
      cases hv with
      | cons h2 hv =>
        cases hv
        refine .inl ⟨by rw [h1.str, h2.str]; rfl, ?_⟩
        rw [h1.str, h2.str, dec_str]
        exact q _ _ .bool
  · cases hv with
    | cons h1 hv =>
      cases hv with
      | cons h2 hv =>
        cases hv
        exact .inr ⟨_, _, h1.dp s, h2.dp s, q.1, q.2.1, q.2.2 _ _ .bool⟩
  · exact q.elim
theorem lc_neU {K : PySem.W.Frag} : LC K (qD (fEq true)) (ap2 (rNeU K)) := by
  refine lc_im (fun G H vs ds Q s hv q _ => ?_) fEq_mono
  unfold fEq at q
  split at q
  · cases hv with
    | cons h1 hv =>
      cases hv with
      | cons h2 hv =>
        cases hv
        refine .inl ⟨by rw [h1.int, h2.int]; rfl, ?_⟩
        rw [h1.int, h2.int, dec_int]
        exact q _ _ .bool
  · cases hv with
    | cons h1 hv =>
      cases hv with
      | cons h2 hv =>
        cases hv
        refine .inl ⟨by rw [h1.str, h2.str]; rfl, ?_⟩
        rw [h1.str, h2.str, dec_str]
        exact q _ _ .bool
  · cases hv with
    | cons h1 hv =>
      cases hv with
      | cons h2 hv =>
        cases hv
        exact .inr ⟨_, _, h1.dp s, h2.dp s, q.1, q.2.1, q.2.2 _ _ .bool⟩
  · exact q.elim
theorem op_eqU (hu : X.A.units + 64 < cLine) : OpR X (compareOp .Eq) (rEqU X.K) := op_or op_eq (op_eqD hu)
theorem op_neU (hu : X.A.units + 64 < cLine) : OpR X (compareOp .NotEq) (rNeU X.K) := op_or op_ne (op_neD hu)
def pEq (neg : Bool) (pa pb : PX) : PX := pC (qD (fEq neg)) (pCons pa (pCons pb pNil))
theorem je_eq {j : Nat} (hr : Room j X.A) (ha : JE X B a pa) (hb : JE X B b pb) : JE X B (.Compare a [.Eq] [b] pos) (pEq false pa pb) := je_cmp (op_eqU hr.units) lc_eqU ha hb (nomark _)
theorem jb_eq {j : Nat} (hr : Room j X.A) (ha : JE X B a pa) (hb : JE X B b pb) : JB X B (.Compare a [.Eq] [b] pos) (pT (pEq false pa pb)) := jb_cmp (op_eqU hr.units) lc_eqU ha hb (nomark _)
theorem jb_ne {j : Nat} (hr : Room j X.A) (ha : JE X B a pa) (hb : JE X B b pb) : JB X B (.Compare a [.NotEq] [b] pos) (pT (pEq true pa pb)) := jb_cmp (op_neU hr.units) lc_neU ha hb (nomark _)
/-! ### items -/
def fIx : List PyData → (PyData → Prop) → Prop
  | [.list ds, .int i], k => ∃ d, atI ds i = some d ∧ k d
  | [.tuple ds, .int i], k => ∃ d, atI ds i = some d ∧ k d
  | _, _ => False
theorem dqAll_get {K : PySem.W.Frag} {G : Hp} : ∀ {us : List V} {ds : List PyData} {i : Nat} {d : PyData}, DqAll K G us ds → ds[i]? = some d → ∃ v, us[i]? = some v ∧ Dq K G v d
  | _, _, _, _, .nil, e => by simp at e
  | _, _, 0, _, .cons h _, e => by simp at e; subst e; exact ⟨_, rfl, h⟩
  | _, _, i + 1, _, .cons _ h, e => by
    obtain ⟨v, e1, e2⟩ := dqAll_get (i := i) h (by simpa using e)
    exact ⟨v, by simpa using e1, e2⟩
theorem dqAll_at {K : PySem.W.Frag} {G : Hp} {us : List V} {ds : List PyData} {i : Int} {d : PyData} (h : DqAll K G us ds) (e : atI ds i = some d) : ∃ v, atI us i = some v ∧ Dq K G v d := by
  unfold atI at e ⊢
  rw [dqAll_len h]
  cases q : ixN ds.length i with
  | none => rw [q] at e; cases e
  | some j =>
    rw [q] at e
    exact dqAll_get h e
theorem lc_ix {K : PySem.W.Frag} : LC K (qD fIx) (ap2 (rIx K)) := by
  refine lc_im (fun G H vs ds Q s hv q _ => ?_) (fun ds k k' h q => ?_)
  · unfold fIx at q
    split at q
    · cases hv with
      | cons h1 hv =>
        cases hv with
        | cons h2 hv =>
          cases hv
          obtain ⟨d, e, q⟩ := q
          obtain ⟨p1, u1, rfl, t1, d1⟩ := h1.seqL s
          obtain ⟨v, e2, hd⟩ := dqAll_at d1 e
          exact .inl ⟨p1, u1, _, v, rfl, h2.int, SqL.of t1, e2, q _ _ (.old hd)⟩
    · cases hv with
      | cons h1 hv =>
        cases hv with
        | cons h2 hv =>
          cases hv
          obtain ⟨d, e, q⟩ := q
          obtain ⟨p1, u1, rfl, t1, d1, _⟩ := h1.seqT s
          obtain ⟨v, e2, hd⟩ := dqAll_at d1 e
          exact .inr (.inl ⟨p1, u1, _, v, rfl, h2.int, t1, e2, q _ _ (.old hd)⟩)
    · exact q.elim
  · unfold fIx at q ⊢
    split at q
    · obtain ⟨d, e, q⟩ := q; exact ⟨d, e, h _ q⟩
    · obtain ⟨d, e, q⟩ := q; exact ⟨d, e, h _ q⟩
    · exact q.elim
def pIx (pa pb : PX) : PX := pC (qD fIx) (pCons pa (pCons pb pNil))
theorem je_ix (ha : JE X B a pa) (hb : JE X B b pb) (hs : PlainIx b) : JE X B (.Subscript a b pos) (pIx pa pb) := PE_wk (pe_ix ix_seq ha hb hs) fun σ H Q h => lc_two lc_ix h
end
/-! ### is -/
end Pv
namespace Pv
open PySem PySem.Spec L2 Wf
variable {B : Bas}
/-! ### a list of one's own that changes no more -/
def fz (δ : List Sl) : R → Option (PyData × List Sl)
  | .im d => some (d, δ)
  | .ow (.lst ds) => some (.list ds, δ)
  | .ow (.ptl ds) => some (.tuple ds, δ)
  | .ow _ => none
  | .at i => match δ[i]? with
    | some (.im d) => some (d, δ)
    | some (.ow false (.lst ds)) => some (.list ds, δ.set i (.im (.list ds)))
    | some (.ow _ (.ptl ds)) => some (.tuple ds, δ)
    | _ => none
def fzAll : List Sl → List R → Option (List PyData × List Sl)
  | δ, [] => some ([], δ)
  | δ, r :: rs => match fz δ r with
    | none => none
    | some (d, δ1) => match fzAll δ1 rs with
      | none => none
      | some (ds, δ2) => some (d :: ds, δ2)
section
variable {K : PySem.W.Frag} {G H : Hp} {σ : St} {δ : List Sl} {vs : List V} {rs : List R} {w : Addr → Option Nat}
/-- what was n's, now nobody's, its list public -/
def freed (w : Addr → Option Nat) (n : Nat) (a : Addr) : Option Nat := if w a = some n then none else w a
theorem freed_ne {w : Addr → Option Nat} {n m : Nat} {a : Addr} (h : w a = some m) (hn : m ≠ n) : freed w n a = some m := by
  unfold freed
  rw [if_neg (by rw [h]; intro z; cases z; exact hn rfl)]
  exact h
theorem of_freed {w : Addr → Option Nat} {n m : Nat} {a : Addr} (h : freed w n a = some m) : w a = some m ∧ m ≠ n := by
  unfold freed at h
  split at h
  · cases h
  · rename_i z
    exact ⟨h, fun e => z (by rw [h, e])⟩
theorem Rep.frees (r : Rep K B G H σ δ vs rs w) {n : Nat} {a : Addr} {us : List V} {δ' : List Sl} (ha : H a = some (.lst us)) (hw : w a = some n) (pn : Pn δ δ') :
    Same G (upd G a (.lst us)) ∧ Stp B.T G H w δ (upd G a (.lst us)) H (freed w n) δ' ∧ Same (upd G a (.lst us)) H ∧ (∀ x i, freed w n x = some i → upd G a (.lst us) x = none ∧ H x ≠ none ∧ NoX H x) := by
  have g0 := (r.out a n hw).1
  have sg : Same G (upd G a (.lst us)) := same_new g0
  refine ⟨sg, .of ⟨sg, fun _ _ _ h => h, fun x i h => .inl (by rw [(of_freed h).1]; exact Option.some_ne_none _), fun x o h => ?_, pn⟩ .refl (q_new nofun), fun x o h => ?_, fun x i h => ?_⟩
  · by_cases e : x = a
    · subst e; exact .inr (.inr (.inl (by rw [hw]; exact Option.some_ne_none _)))
    · rw [upd_ne e] at h; exact .inl h
  · by_cases e : x = a
    · subst e; rw [upd_same] at h; cases h; exact ha
    · rw [upd_ne e] at h; exact r.sub x o h
  · obtain ⟨h1, h2⟩ := of_freed h
    have e : x ≠ a := fun z => by subst z; rw [hw] at h1; cases h1; exact h2 rfl
    rw [upd_ne e]
    exact r.out x i h1
theorem pn_set {δ : List Sl} {i : Nat} {s : Sl} (h : ∀ o, δ[i]? ≠ some (.ow true o)) : Pn δ (δ.set i s) := fun j o hj => by
  by_cases e : i = j
  · subst e; exact absurd hj (h o)
  · exact ⟨o, by rw [List.getElem?_set_ne e]; exact hj⟩
theorem Rep.fz1 (r : Rep K B G H σ δ vs rs w) {j : Nat} {v : V} {q : R} {d : PyData} {δ' : List Sl} (hv : vs[j]? = some v) (hq : rs[j]? = some q) (h : fz δ q = some (d, δ')) :
    ∃ G' w', Stp B.T G H w δ G' H w' δ' ∧ Rep K B G' H σ δ' vs (rs.set j (.im d)) w' := by
  have hj : j < rs.length := (List.getElem?_eq_some_iff.mp hq).1
  have t := r.tm j v q hv hq
  have others : ∀ {G' : Hp} {w' : Addr → Option Nat}, Same G G' → (∀ a k, w a = some k → k ≠ 2 * j + 1 → k % 2 = 1 → w' a = some k) → Dq K G' v d → ∀ (k : Nat) u p, vs[k]? = some u → (rs.set j (.im d))[k]? = some p → RR K G' H σ (fun a => w' a = some (2 * k + 1)) u p := by
    intro G' w' sg hw' hd k u p hu hp
    by_cases e : j = k
    · subst e
      rw [List.getElem?_set_self hj] at hp
      cases hp
      rw [hv] at hu
      cases hu
      exact hd
    · rw [List.getElem?_set_ne e] at hp
      exact (r.tm k u p hu hp).mono sg (fun _ _ _ h => h) fun a o ma _ => hw' a _ ma (by omega) (by omega)
  cases q with
  | im d' =>
    cases h
    exact ⟨G, w, .refl, r.sub, r.out, r.len, r.sl, by rw [List.length_set]; exact r.tlen, others (fun _ _ h => h) (fun a k h _ _ => h) t, r.bs⟩
  | ow o =>
    cases o with
    | lst ds =>
      cases h
      obtain ⟨a, us, rfl, ma, ha, hds⟩ := t
      obtain ⟨sg, st, sh, ho⟩ := r.frees (δ' := δ) ha ma (.refl _)
      refine ⟨_, _, st, sh, ho, r.len, fun i s hs => ?_, by rw [List.length_set]; exact r.tlen, others sg (fun a k h1 h2 _ => freed_ne h1 h2) (.lst upd_same (dpAll_mono sg _ _ hds)), st.bs r.bs⟩
      exact (r.sl i s hs).mono sg (fun _ _ _ h => h) fun a o mb _ => freed_ne mb (by omega)
    | deal => cases h
    | scr ns => cases h
    | lam F => cases h
    | dic ks ds => cases h
    | dct r ks ds => cases h
    | ptl ds =>
      cases h
      exact ⟨G, w, .refl, r.sub, r.out, r.len, r.sl, by rw [List.length_set]; exact r.tlen, others (fun _ _ h => h) (fun a k h _ _ => h) (ptl_dq t), r.bs⟩
  | «at» i =>
    have t' : σ[i]? = some (some v) := t
    simp only [fz] at h
    revert h
    split
    · rename_i d' e
      intro h
      cases h
      obtain ⟨u, hu, hd⟩ := r.sl i _ e
      rw [t'] at hu
      cases hu
      exact ⟨G, w, .refl, r.sub, r.out, r.len, r.sl, by rw [List.length_set]; exact r.tlen, others (fun _ _ h => h) (fun a k h _ _ => h) hd, r.bs⟩
    · rename_i ds e
      intro h
      cases h
      obtain ⟨u, hu, a, us, rfl, ma, ha, hds⟩ := r.sl i _ e
      rw [t'] at hu
      cases hu
      obtain ⟨sg, st, sh, ho⟩ := r.frees (δ' := δ.set i (.im (.list ds))) ha ma (pn_set fun o z => by rw [e] at z; cases z)
      have hd : Dq K (upd G a (.lst us)) (.ref a) (.list ds) := .lst upd_same (dpAll_mono sg _ _ hds)
      refine ⟨_, _, st, sh, ho, by rw [List.length_set]; exact r.len, fun k s hs => ?_, by rw [List.length_set]; exact r.tlen, others sg (fun a k h1 h2 h3 => freed_ne h1 (by omega)) hd, st.bs r.bs⟩
      by_cases ek : i = k
      · subst ek
        rw [List.getElem?_set_self (List.getElem?_eq_some_iff.mp e).1] at hs
        cases hs
        exact ⟨_, t', hd⟩
      · rw [List.getElem?_set_ne ek] at hs
        exact (r.sl k s hs).mono sg (fun _ _ _ h => h) fun a o mb _ => freed_ne mb (by omega)
    · rename_i b ds e
      intro h
      cases h
      obtain ⟨u, hu, hd⟩ := r.sl i _ e
      rw [t'] at hu
      cases hu
      exact ⟨G, w, .refl, r.sub, r.out, r.len, r.sl, by rw [List.length_set]; exact r.tlen, others (fun _ _ h => h) (fun a k h _ _ => h) (ptl_dq hd), r.bs⟩
    · intro h; cases h
theorem Rep.fzGo : ∀ (rs2 : List R) (rs1 : List R) {G : Hp} {δ δ' : List Sl} {w : Addr → Option Nat} {ds : List PyData}, Rep K B G H σ δ vs (rs1 ++ rs2) w → fzAll δ rs2 = some (ds, δ') → ∃ G' w', Stp B.T G H w δ G' H w' δ' ∧ Rep K B G' H σ δ' vs (rs1 ++ ds.map .im) w'
  | [], rs1, G, δ, δ', w, ds, r, h => by
    cases h
    exact ⟨G, w, .refl, r⟩
  | q :: rs2, rs1, G, δ, δ', w, ds, r, h => by
    unfold fzAll at h
    revert h
    split
    · intro h; cases h
    · rename_i d δ1 e
      split
      · intro h; cases h
      · rename_i ds' δ2 e2
        intro h
        cases h
        have hq : (rs1 ++ q :: rs2)[rs1.length]? = some q := by simp
        have hl : rs1.length < vs.length := by rw [r.tlen, List.length_append, List.length_cons]; omega
        obtain ⟨G1, w1, s1, r1⟩ := r.fz1 (v := vs[rs1.length]) (List.getElem?_eq_getElem hl) hq e
        have e3 : (rs1 ++ q :: rs2).set rs1.length (.im d) = (rs1 ++ [.im d]) ++ rs2 := by
          rw [List.set_append_right _ _ (Nat.le_refl _), Nat.sub_self, List.set_cons_zero, List.append_assoc]
          rfl
        rw [e3] at r1
        obtain ⟨G2, w2, s2, r2⟩ := Rep.fzGo rs2 (rs1 ++ [.im d]) r1 e2
        refine ⟨G2, w2, s1.trans s2, ?_⟩
        rw [List.append_assoc] at r2
        exact r2
theorem Rep.fzs (r : Rep K B G H σ δ vs rs w) {ds : List PyData} {δ' : List Sl} (h : fzAll δ rs = some (ds, δ')) : ∃ G' w', Stp B.T G H w δ G' H w' δ' ∧ Rep K B G' H σ δ' vs (ds.map .im) w' := by
  have := Rep.fzGo rs [] (by simpa using r) h
  simpa using this
theorem Rep.ims {ds : List PyData} (r : Rep K B G H σ δ vs (ds.map .im) w) : DqAll K G vs ds := by
  have hl : vs.length = ds.length := by have := r.tlen; rwa [List.length_map] at this
  have go : ∀ (vs : List V) (ds : List PyData), vs.length = ds.length → (∀ (j : Nat) v d, vs[j]? = some v → ds[j]? = some d → Dq K G v d) → DqAll K G vs ds := by
    intro vs
    induction vs with
    | nil =>
      intro ds hl _
      cases ds with
      | nil => exact .nil
      | cons => simp at hl
    | cons v vs ih =>
      intro ds hl h
      cases ds with
      | nil => simp at hl
      | cons d ds => exact .cons (h 0 v d rfl rfl) (ih ds (by simpa using hl) fun j v' d' h1 h2 => h (j + 1) v' d' (by simpa using h1) (by simpa using h2))
  refine go vs ds hl fun j v d hv hd => ?_
  exact r.tm j v (.im d) hv (by rw [List.getElem?_map, hd]; rfl)
end
/-! ### displays -/
def qTup : List R → PX := fun rs δ Q => match fzAll δ rs with
  | some (ds, δ') => Q (.im (.tuple ds)) δ'
  | none => False
def qLst : List R → PX := fun rs δ Q => match fzAll δ rs with
  | some (ds, δ') => Q (.ow (.lst ds)) δ'
  | none => False
section
variable {X : Cx}
def pTup (ps : PL) : PX := pC qTup ps
def pLst (ps : PL) : PX := pC qLst ps
theorem je_tup {es : List Expr} {ps : PL} {x1} {pos : Pos} (h : JA X B es ps) (hl : es.length ≤ sizeLine := by decide) : JE X B (.Tuple es x1 pos) (pTup ps) := by
  refine PE_wk (pe_tup h) fun σ H Q ⟨G, w, δ, Qp, rep, q, k⟩ => ?_
  refine ⟨G, w, δ, _, rep, q, fun rs δ1 vs H1 G1 w1 q1 l1 s1 rep1 => ?_⟩
  unfold qTup at q1
  revert q1
  split
  · rename_i ds δ2 e
    intro q1
    obtain ⟨G2, w2, s2, r2⟩ := rep1.fzs e
    refine ⟨by rw [rep1.tlen, l1]; exact hl, fun p hp => ?_⟩
    obtain ⟨s3, r3⟩ := r2.retNew hp (dq_newTup r2.sub hp r2.ims)
    exact k _ _ _ _ _ _ q1 ((s1.trans s2).trans s3) r3
  · intro q1; exact q1.elim
theorem je_lst {es : List Expr} {ps : PL} {pos : Pos} (h : JA X B es ps) (hl : es.length ≤ sizeLine := by decide) : JE X B (.List es pos) (pLst ps) := by
  refine PE_wk (pe_lst h) fun σ H Q ⟨G, w, δ, Qp, rep, q, k⟩ => ?_
  refine ⟨G, w, δ, _, rep, q, fun rs δ1 vs H1 G1 w1 q1 l1 s1 rep1 => ?_⟩
  unfold qLst at q1
  revert q1
  split
  · rename_i ds δ2 e
    intro q1
    obtain ⟨G2, w2, s2, r2⟩ := rep1.fzs e
    refine ⟨by rw [rep1.tlen, l1]; exact hl, fun p hp => ?_⟩
    obtain ⟨w3, s3, r3⟩ := r2.retLst hp r2.ims
    exact k _ _ _ _ _ _ q1 ((s1.trans s2).trans s3) r3
  · intro q1; exact q1.elim
/-! ### built-ins -/
theorem lc_im1 {K : PySem.W.Frag} {f : PyData → (PyData → Prop) → Prop} {r : List V → Hp → VK → Prop} (h : ∀ G H v d Q, Same G H → Vw K G H v d → f d (fun e => ∀ u H', Res K G H u H' e → Q u H') → r [v] H Q) (mono : ∀ d (k k' : PyData → Prop), (∀ e, k e → k' e) → f d k → f d k') :
    LC K (qD fun ds k => match ds with | [d] => f d k | _ => False) r := by
  refine lc_im (fun G H vs ds Q s hv q _ => ?_) (fun ds k k' hk q => ?_)
  · match ds, hv, q with
    | [d], .cons h1 .nil, q => exact h G H _ d Q s h1 q
    | [], _, q => exact q.elim
    | _ :: _ :: _, _, q => exact q.elim
  · match ds, q with
    | [d], q => exact mono d k k' hk q
    | [], q => exact q.elim
    | _ :: _ :: _, q => exact q.elim
theorem lc_im2 {K : PySem.W.Frag} {f : PyData → PyData → (PyData → Prop) → Prop} {r : List V → Hp → VK → Prop} (h : ∀ G H v u d e Q, Same G H → Vw K G H v d → Vw K G H u e → f d e (fun e => ∀ u H', Res K G H u H' e → Q u H') → r [v, u] H Q) (mono : ∀ d e (k k' : PyData → Prop), (∀ e, k e → k' e) → f d e k → f d e k') :
    LC K (qD fun ds k => match ds with | [d, e] => f d e k | _ => False) r := by
  refine lc_im (fun G H vs ds Q s hv q _ => ?_) (fun ds k k' hk q => ?_)
  · match ds, hv, q with
    | [d, e], .cons h1 (.cons h2 .nil), q => exact h G H _ _ d e Q s h1 h2 q
    | [], _, q => exact q.elim
    | [_], _, q => exact q.elim
    | _ :: _ :: _ :: _, _, q => exact q.elim
  · match ds, q with
    | [d, e], q => exact mono d e k k' hk q
    | [], q => exact q.elim
    | [_], q => exact q.elim
    | _ :: _ :: _ :: _, q => exact q.elim
theorem lc_own1 {K : PySem.W.Frag} {f : PyData → (List PyData → Prop) → Prop} {r : List V → Hp → VK → Prop} (h : ∀ G H v d Q, Same G H → Vw K G H v d → f d (fun l => ∀ us p, DqAll K G us l → H p = none → Q (.ref p) (upd H p (.lst us))) → r [v] H Q) (mono : ∀ d (k k' : List PyData → Prop), (∀ e, k e → k' e) → f d k → f d k') :
    LC K (qL fun ds k => match ds with | [d] => f d k | _ => False) r := by
  refine lc_own (fun G H vs ds Q s hv q => ?_) (fun ds k k' hk q => ?_)
  · match ds, hv, q with
    | [d], .cons h1 .nil, q => exact h G H _ d Q s h1 q
    | [], _, q => exact q.elim
    | _ :: _ :: _, _, q => exact q.elim
  · match ds, q with
    | [d], q => exact mono d k k' hk q
    | [], q => exact q.elim
    | _ :: _ :: _, q => exact q.elim
abbrev q1 (f : PyData → (PyData → Prop) → Prop) : List R → PX := qD fun ds k => match ds with | [d] => f d k | _ => False
abbrev q2 (f : PyData → PyData → (PyData → Prop) → Prop) : List R → PX := qD fun ds k => match ds with | [d, e] => f d e k | _ => False
abbrev q1L (f : PyData → (List PyData → Prop) → Prop) : List R → PX := qL fun ds k => match ds with | [d] => f d k | _ => False
def fLen : PyData → (PyData → Prop) → Prop
  | .list ds, k => k (.int ds.length)
  | .tuple ds, k => k (.int ds.length)
  | .str x, k => x.length ≤ sizeLine ∧ k (.int x.length)
  | _, _ => False
theorem lc_len {K : PySem.W.Frag} : LC K (q1 fLen) (qLen K) := by
  refine lc_im1 (fun G H v d Q s hv q => ?_) (fun d k k' hk q => ?_)
  · cases d with
    | list ds =>
      obtain ⟨a, us, rfl, ha, hds⟩ := hv.seqL s
      exact ⟨_, ds.length, rfl, .inl ⟨us, SqL.of ha, (dqAll_len hds).symm⟩, q _ _ .int⟩
    | tuple ds =>
      obtain ⟨a, us, rfl, ha, hds, _⟩ := hv.seqT s
      exact ⟨_, ds.length, rfl, .inr ⟨us, ha, (dqAll_len hds).symm⟩, q _ _ .int⟩
    | str x => exact ⟨v, x.length, rfl, by rw [hv.str]; exact ⟨q.1, rfl⟩, q.2 _ _ .int⟩
    | none => exact q.elim
    | bool b => exact q.elim
    | int i => exact q.elim
    | dict kvs => exact q.elim
  · cases d with
    | list ds => exact hk _ q
    | tuple ds => exact hk _ q
    | str x => exact ⟨q.1, hk _ q.2⟩
    | none => exact q.elim
    | bool b => exact q.elim
    | int i => exact q.elim
    | dict kvs => exact q.elim
variable {e : Expr} {es : List Expr} {p pos : Pos}
/-- a built-in by its name -/
theorem je_cb {x : Str} {id : String} {ps : PL} {q : List R → PX} {r : List V → Hp → VK → Prop} (hc : CallR X (.builtin id) r) (hl : LC X.K q r) (hg : Gl X x) (hm : X.mg x = none) (hv : bootBuiltins x = some (.builtin id)) (ha : JA X B (e :: es) ps) (hn : x ≠ "__name__" := by decide) (hdb : (x == ("__debug__" : Str)) = false := by decide)
    (he : starEach (e :: es) X.env = (false, eval e X.env) :: starEach es X.env := by rfl) (hpl : (backTo pos (starEach es X.env)).any (·.1) = false := by rfl) : JE X B (.Call (.Name x p) (e :: es) [] pos) (pC q ps) :=
  PE_wk (pe_callB hc hg hm hv ha hn hdb he hpl) fun σ H Q h => lc_args hl h
theorem je_ct {x : Str} {T : String} {ps : PL} {q : List R → PX} {r : List V → Hp → VK → Prop} (hc : CallR X (.type T) r) (hl : LC X.K q r) (hg : Gl X x) (hm : X.mg x = none) (hv : bootBuiltins x = some (.type T)) (ha : JA X B (e :: es) ps) (hn : x ≠ "__name__" := by decide) (hdb : (x == ("__debug__" : Str)) = false := by decide)
    (he : starEach (e :: es) X.env = (false, eval e X.env) :: starEach es X.env := by rfl) (hpl : (backTo pos (starEach es X.env)).any (·.1) = false := by rfl) : JE X B (.Call (.Name x p) (e :: es) [] pos) (pC q ps) :=
  PE_wk (pe_callTy hc hg hm hv ha hn hdb he hpl) fun σ H Q h => lc_args hl h
def fMax2 : PyData → PyData → (PyData → Prop) → Prop
  | .int i, .int j, k => k (.int (if j > i then j else i))
  | _, _, _ => False
theorem lc_max2 {K : PySem.W.Frag} : LC K (q2 fMax2) qMax2 := by
  refine lc_im2 (fun G H v u d e Q s hv hu q => ?_) (fun d e k k' hk q => ?_)
  · unfold fMax2 at q
    split at q
    · exact ⟨_, _, by rw [hv.int, hu.int], q _ _ .int⟩
    · exact q.elim
  · unfold fMax2 at q ⊢
    split at q
    · exact hk _ q
    · exact q.elim
def fInt1 : PyData → (PyData → Prop) → Prop
  | .int i, k => k (.int i)
  | .bool b, k => k (.int (if b then 1 else 0))
  | _, _ => False
theorem lc_int1 {K : PySem.W.Frag} : LC K (q1 fInt1) qInt1 := by
  refine lc_im1 (fun G H v d Q s hv q => ?_) (fun d k k' hk q => ?_)
  · unfold fInt1 at q
    split at q
    · exact .inl ⟨_, by rw [hv.int], q _ _ .int⟩
    · exact .inr ⟨_, by rw [hv.bool], q _ _ .int⟩
    · exact q.elim
  · unfold fInt1 at q ⊢
    split at q
    · exact hk _ q
    · exact hk _ q
    · exact q.elim
def fListOf : PyData → (List PyData → Prop) → Prop
  | .list ds, k => k ds
  | .tuple ds, k => k ds
  | _, _ => False
theorem lc_listOf {K : PySem.W.Frag} : LC K (q1L fListOf) (qListOf K) := by
  refine lc_own1 (fun G H v d Q s hv q => ?_) (fun d k k' hk q => ?_)
  · unfold fListOf at q
    split at q
    · obtain ⟨a, us, rfl, ha, hds⟩ := hv.seqL s
      exact ⟨a, us, rfl, .inl (SqL.of ha), fun l hl => q us l hds hl⟩
    · obtain ⟨a, us, rfl, ha, hds, _⟩ := hv.seqT s
      exact ⟨a, us, rfl, .inr ha, fun l hl => q us l hds hl⟩
    · exact q.elim
  · unfold fListOf at q ⊢
    split at q
    · exact hk _ q
    · exact hk _ q
    · exact q.elim
def fTupleOf : PyData → (PyData → Prop) → Prop
  | .list ds, k => k (.tuple ds)
  | .tuple ds, k => k (.tuple ds)
  | _, _ => False
theorem lc_tupleOf {K : PySem.W.Frag} : LC K (q1 fTupleOf) (qTupleOf K) := by
  refine lc_im1 (fun G H v d Q s hv q => ?_) (fun d k k' hk q => ?_)
  · unfold fTupleOf at q
    split at q
    · obtain ⟨a, us, rfl, ha, hds⟩ := hv.seqL s
      exact ⟨a, us, rfl, .inl ⟨SqL.of ha, fun l hl => q _ _ (.inr ⟨l, us, _, rfl, hl, rfl, hds, rfl⟩)⟩⟩
    · obtain ⟨a, us, rfl, ha, hds, e1⟩ := hv.seqT s
      exact ⟨a, us, rfl, .inr ⟨ha, q _ _ (.old e1)⟩⟩
    · exact q.elim
  · unfold fTupleOf at q ⊢
    split at q
    · exact hk _ q
    · exact hk _ q
    · exact q.elim
def intsOf : List PyData → Option (List Int)
  | [] => some []
  | .int i :: ds => (intsOf ds).map (i :: ·)
  | _ :: _ => none
/-! ### isinstance(e, T) -/
end
end Pv
namespace Pv
open PySem PySem.Spec L2 Wf
variable {B : Bas}
/-- a new thing beside, that never changes -/
theorem Rep.lay {K : PySem.W.Frag} {G H : Hp} {σ : St} {δ : List Sl} {vs : List V} {rs : List R} {w : Addr → Option Nat} (r : Rep K B G H σ δ vs rs w) {p : Addr} {o : HO} (hp : H p = none) (hn : NT o := by exact nofun) :
    Stp B.T G H w δ (upd G p o) (upd H p o) w δ ∧ Rep K B (upd G p o) (upd H p o) σ δ vs rs w := by
  have gp : G p = none := by
    cases e : G p with
    | none => rfl
    | some u => rw [r.sub p u e] at hp; cases hp
  have sg : Same G (upd G p o) := same_new gp
  have kp : ∀ a u, H a = some u → upd H p o a = some u := fun a u ha => by rw [upd_ne (ne_of_none ha hp)]; exact ha
  have st : Stp B.T G H w δ (upd G p o) (upd H p o) w δ := by
    refine .of ⟨sg, fun a u _ ha => kp a u ha, fun a i h => .inl (by rw [h]; exact Option.some_ne_none _), fun a u ha => ?_, .refl _⟩ (tabs_new hp) (q_new hn)
    by_cases e : a = p
    · subst e; exact .inr (.inl hp)
    · rw [upd_ne e] at ha; exact .inl ha
  refine ⟨st, fun a u ha => ?_, fun a i h => ?_, r.len, fun i s h => ?_, r.tlen, fun j v q hv hq => ?_, st.bs r.bs⟩
  · by_cases e : a = p
    · subst e; rw [upd_same] at ha ⊢; exact ha
    · rw [upd_ne e] at ha ⊢; exact r.sub a u ha
  · have ho := r.out a i h
    have hne : a ≠ p := fun z => ho.2.1 (by rw [z]; exact hp)
    rw [upd_ne hne, upd_ne hne]
    exact ⟨ho.1, ho.2.1, noT_upd hne ho.2.2⟩
  · exact (r.sl i s h).mono sg (fun a u _ hu => kp a u hu) fun a u ma _ => ma
  · exact (r.tm j v q hv hq).mono sg (fun a u _ hu => kp a u hu) fun a u ma _ => ma
section
variable {X : Cx} {a b e : Expr} {es : List Expr} {p pos p2 : Pos} {pa pb : PX}
/-! ### isinstance -/
/-! ### is -/
/-! ### a < b < c -/
/-! ### slices -/
def POx := List Sl → (Option Int → List Sl → Prop) → Prop
def oNone : POx := fun δ Q => Q none δ
def oSome (p : PX) : POx := fun δ Q => p δ fun r δ1 => ∃ i, dat δ1 r = some (.int i) ∧ Q (some i) δ1
def LO (K : PySem.W.Frag) (B : Bas) (p : POx) : TO := fun σ H Q => ∃ G w δ Qp, Rep K B G H σ δ [] [] w ∧ p δ Qp ∧ ∀ b δ' H' G' w', Qp b δ' → Stp B.T G H w δ G' H' w' δ' → Rep K B G' H' σ δ' [] [] w' → Q b H'
def JO (X : Cx) (B : Bas) (e : Option Expr) (p : POx) : Prop := PO X e (LO X.K B p)
theorem PO_wk {e : Option Expr} {t t' : TO} (h : PO X e t) (k : ∀ σ H Q, t' σ H Q → t σ H Q) : PO X e t' := ⟨fun pins s σ H Q I q => h.run pins s σ H Q I (k σ H Q q)⟩
theorem jo_none : JO X B none oNone := PO_wk po_none fun σ H Q ⟨G, w, δ, Qp, rep, q, k⟩ => k none δ H G w q .refl rep
theorem dp_int {K : PySem.W.Frag} {H : Hp} {v : V} {i : Int} (h : Dp K H v (.int i)) : v = .int i := by cases h; rfl
theorem jo_some (ha : JE X B a pa) : JO X B (some a) (oSome pa) := PO_wk (po_some ha) fun σ H Q ⟨G, w, δ, Qp, rep, q, k⟩ => ⟨G, w, δ, _, rep, q, fun r δ1 v H1 G1 w1 q1 s1 rep1 => by
  obtain ⟨i, hi, q1⟩ := q1
  exact ⟨i, dp_int (rep1.dpH (j := 0) rfl rfl hi), k _ δ1 H1 G1 _ q1 (s1.trans .drop) rep1.drop⟩⟩
def cutD {α : Type} (xs : List α) (lo hi : Option Int) : List α := (xs.drop (HT.sIx xs.length 0 lo)).take (HT.sIx xs.length xs.length hi - HT.sIx xs.length 0 lo)
theorem dqAll_drop {K : PySem.W.Frag} {G : Hp} : ∀ (n : Nat) {us : List V} {ds : List PyData}, DqAll K G us ds → DqAll K G (us.drop n) (ds.drop n)
  | 0, _, _, h => h
  | _ + 1, _, _, .nil => .nil
  | n + 1, _, _, .cons _ h => dqAll_drop n h
theorem dqAll_take {K : PySem.W.Frag} {G : Hp} : ∀ (n : Nat) {us : List V} {ds : List PyData}, DqAll K G us ds → DqAll K G (us.take n) (ds.take n)
  | 0, _, _, _ => .nil
  | _ + 1, _, _, .nil => .nil
  | n + 1, _, _, .cons h1 h => .cons h1 (dqAll_take n h)
theorem dqAll_cut {K : PySem.W.Frag} {G : Hp} {us : List V} {ds : List PyData} {lo hi : Option Int} (h : DqAll K G us ds) : DqAll K G (cutV us lo hi) (cutD ds lo hi) := by
  unfold cutV cutD
  rw [dqAll_len h]
  exact dqAll_take _ (dqAll_drop _ h)
def pSlice (pa : PX) (lo hi : POx) : PX := fun δ Q => pa δ fun ra δ1 => lo δ1 fun l δ2 => hi δ2 fun u δ3 => match dat δ3 ra with
  | some (.tuple ds) => Q (.im (.tuple (cutD ds l u))) δ3
  | some (.list ds) => Q (.ow (.lst (cutD ds l u))) δ3
  | _ => False
def rSlU (K : PySem.W.Frag) : V → Option Int → Option Int → Hp → VK → Prop := fun x lo hi H Q => rSlA K x lo hi H Q ∨ rSlL K x lo hi H Q
theorem sl_u : L2.SlR X (rSlU X.K) := by
  intro pins s σ H x v vl vu lo hi sl Q I rx hs pl pu h
  rcases h with h | h
  · exact sl_tupA pins s σ H x v vl vu lo hi sl Q I rx hs pl pu h
  · exact sl_list pins s σ H x v vl vu lo hi sl Q I rx hs pl pu h
theorem cut_whole {α : Type} {xs : List α} {lo hi : Option Int} (h : HT.sIx xs.length 0 lo = 0 ∧ HT.sIx xs.length xs.length hi = xs.length) : cutD xs lo hi = xs := by
  unfold cutD
  rw [h.1, h.2, Nat.sub_zero, List.drop_zero, List.take_length]
theorem je_slice {lo hi : Option Expr} {pl ph : POx} (ha : JE X B a pa) (hl : JO X B lo pl) (hh : JO X B hi ph) : JE X B (.Subscript a (.Slice lo hi none p2) pos) (pSlice pa pl ph) := by
  refine PE_wk (pe_slice sl_u ha hl hh) fun σ H Q ⟨G, w, δ, Qp, rep, h, k⟩ => ?_
  refine ⟨G, w, δ, _, rep, h, fun ra δ1 x H1 G1 w1 q1 s1 rep1 => ?_⟩
  refine ⟨G1, _, δ1, _, rep1.drop, q1, fun l δ2 H2 G2 w2 q2 s2 rep2 => ?_⟩
  obtain ⟨w3, s3, rep3⟩ := rep1.frame s2 rep2
  refine ⟨G2, _, δ2, _, rep3.drop, q2, fun u δ3 H3 G3 w4 q3 s4 rep4 => ?_⟩
  obtain ⟨w5, s5, rep5⟩ := rep3.frame s4 rep4
  have s6 := (s1.trans s3).trans s5
  revert q3
  split
  · rename_i ds e
    intro q3
    obtain ⟨p1, u1, rfl, t1, d1, e1⟩ := Vw.seqT rep5.sub (rep5.dat (j := 0) rfl rfl e)
    refine .inl ⟨p1, u1, rfl, t1, fun hw => ?_, fun hw p hp => ?_⟩
    · rw [dqAll_len d1] at hw
      rw [cut_whole hw] at q3
      exact k _ δ3 _ H3 G3 _ q3 (s6.trans .drop) (rep5.ret e1)
    · obtain ⟨s7, r7⟩ := rep5.retNew hp (dq_newTup rep5.sub hp (dqAll_cut (lo := l) (hi := u) d1))
      exact k _ δ3 _ _ _ _ q3 (s6.trans s7) r7
  · rename_i ds e
    intro q3
    obtain ⟨p1, u1, rfl, t1, d1⟩ := Vw.seqL rep5.sub (rep5.dat (j := 0) rfl rfl e)
    refine .inr ⟨p1, u1, rfl, SqL.of t1, fun p hp => ?_⟩
    obtain ⟨w7, s7, r7⟩ := rep5.retLst hp (dqAll_cut (lo := l) (hi := u) d1)
    exact k _ δ3 _ _ _ _ q3 (s6.trans s7) r7
  · intro q3; exact q3.elim
/-! ### in, not in: lists of data -/
/-! ### list(range(..)), tuple(range(..)) -/
def rgD (a b : Int) : List PyData := (List.range (b - a).toNat).map fun (i : Nat) => PyData.int (a + (i : Nat))
theorem dq_rg {K : PySem.W.Frag} {G : Hp} (a b : Int) : DqAll K G (rgV a b) (rgD a b) := by
  unfold rgV rgD
  induction (List.range (b - a).toNat) with
  | nil => exact .nil
  | cons n ns ih => exact .cons (.int _) ih
def PRx := List Sl → (Int → Int → List Sl → Prop) → Prop
def pRg1 (p : PX) : PRx := fun δ Q => p δ fun r δ1 => ∃ n, dat δ1 r = some (.int n) ∧ Q 0 n δ1
def pTupRg (p : PRx) : PX := fun δ Q => p δ fun a b δ1 => RgOk a b ∧ Q (.im (.tuple (rgD a b))) δ1
def LR (K : PySem.W.Frag) (B : Bas) (p : PRx) : St → Hp → (Int → Int → Hp → Prop) → Prop := fun σ H Q => ∃ G w δ Qp, Rep K B G H σ δ [] [] w ∧ p δ Qp ∧ ∀ a b δ' H' G' w', Qp a b δ' → Stp B.T G H w δ G' H' w' δ' → Rep K B G' H' σ δ' [] [] w' → Q a b H'
def JR (X : Cx) (B : Bas) (e : Expr) (p : PRx) : Prop := PRg X e (LR X.K B p)
theorem PRg_wk {e : Expr} {t t' : St → Hp → (Int → Int → Hp → Prop) → Prop} (h : PRg X e t) (k : ∀ σ H Q, t' σ H Q → t σ H Q) : PRg X e t' := fun pins s σ H Q I q => h pins s σ H Q I (k σ H Q q)
theorem jr_1 (hg : Gl X "range") (hm : X.mg "range" = none) (ha : JE X B a pa) (na : starEach [a] X.env = (false, eval a X.env) :: starEach [] X.env := by rfl) : JR X B (.Call (.Name "range" p) [a] [] pos) (pRg1 pa) :=
  PRg_wk (prg_1 hg hm ha na) fun σ H Q ⟨G, w, δ, Qp, rep, q, k⟩ => ⟨G, w, δ, _, rep, q, fun r δ1 v H1 G1 w1 q1 s1 rep1 => by
    obtain ⟨i, hi, q1⟩ := q1
    exact ⟨i, dp_int (rep1.dpH (j := 0) rfl rfl hi), k _ _ δ1 H1 G1 _ q1 (s1.trans .drop) rep1.drop⟩⟩
theorem je_tupRg {pr : PRx} (hc : X.calm = true) (hg : Gl X "tuple") (hm : X.mg "tuple" = none) (he : JR X B e pr) (na : starEach [e] X.env = (false, eval e X.env) :: starEach [] X.env := by rfl) : JE X B (.Call (.Name "tuple" p) [e] [] pos) (pTupRg pr) :=
  PE_wk (pe_tupRg hc hg hm he na) fun σ H Q ⟨G, w, δ, Qp, rep, q, k⟩ => ⟨G, w, δ, _, rep, q, fun i j δ1 H1 G1 w1 q1 s1 rep1 => ⟨q1.1, fun p hp => by
    obtain ⟨s7, r7⟩ := rep1.retNew hp (dq_newTup rep1.sub hp (dq_rg i j))
    exact k _ δ1 _ _ _ _ q1.2 (s1.trans s7) r7⟩⟩
end
end Pv
namespace Pv
open PySem PySem.Spec L2 Wf
variable {B : Bas}
/-! ### storing -/
def slOf : R → Sl
  | .im d => .im d
  | .ow o => .ow false o
  | .at _ => .un
def isAt : R → Bool
  | .at _ => true
  | _ => false
/-- what a slot holds, as data for good -/
def rz (δ : List Sl) : R → Option (R × List Sl)
  | .at i => match δ[i]? with
    | some (.im d) => some (.im d, δ)
    | some (.ow false (.lst ds)) => some (.im (.list ds), δ.set i (.im (.list ds)))
    | some (.ow _ (.ptl ds)) => some (.ow (.ptl ds), δ)
    | _ => none
  | r => some (r, δ)
def rzAll : List Sl → List R → Option (List R × List Sl)
  | δ, [] => some ([], δ)
  | δ, r :: rs => match rz δ r with
    | none => none
    | some (q, δ1) => match rzAll δ1 rs with
      | none => none
      | some (qs, δ2) => some (q :: qs, δ2)
/-- slot i gets r -/
def setS (i : Nat) (r : R) (δ : List Sl) (Q : List Sl → Prop) : Prop := match δ[i]? with
  | none => False
  | some (.ow true _) => False
  | some _ => Q (δ.set i (slOf r))
def setAll : List Nat → List R → List Sl → (List Sl → Prop) → Prop
  | [], [], δ, Q => Q δ
  | i :: is, r :: rs, δ, Q => setS i r δ fun δ' => setAll is rs δ' Q
  | _, _, _, _ => False
def Pin (σ : St) (δ : List Sl) (σ' : St) : Prop := ∀ (i : Nat) (o : O), δ[i]? = some (Sl.ow true o) → σ'[i]? = σ[i]?
theorem Pin.refl {σ : St} {δ : List Sl} : Pin σ δ σ := fun _ _ _ => rfl
theorem Pin.trans {σ σ1 σ2 : St} {δ δ1 : List Sl} (a : Pin σ δ σ1) (n : Pn δ δ1) (b : Pin σ1 δ1 σ2) : Pin σ δ σ2 := fun i o h => by
  obtain ⟨o', h'⟩ := n i o h
  exact (b i o' h').trans (a i o h)
section
variable {K : PySem.W.Frag} {G H : Hp} {σ : St} {δ : List Sl} {vs : List V} {rs : List R} {w : Addr → Option Nat}
theorem Rep.rz1 (r : Rep K B G H σ δ vs rs w) {j : Nat} {q q' : R} {δ' : List Sl} (hq : rs[j]? = some q) (h : rz δ q = some (q', δ')) :
    ∃ G' w', Stp B.T G H w δ G' H w' δ' ∧ Rep K B G' H σ δ' vs (rs.set j q') w' := by
  have hj : j < rs.length := (List.getElem?_eq_some_iff.mp hq).1
  have hjv : j < vs.length := by rw [r.tlen]; exact hj
  have same : rs.set j q = rs := by
    apply List.ext_getElem?
    intro k
    by_cases e : j = k
    · subst e; rw [List.getElem?_set_self hj]; exact hq.symm
    · rw [List.getElem?_set_ne e]
  cases q with
  | im d => cases h; exact ⟨G, w, .refl, by rw [same]; exact r⟩
  | ow o => cases h; exact ⟨G, w, .refl, by rw [same]; exact r⟩
  | «at» i =>
    simp only [rz] at h
    revert h
    split
    · rename_i d e
      intro h
      cases h
      exact r.fz1 (List.getElem?_eq_getElem hjv) hq (by simp only [fz, e])
    · rename_i ds e
      intro h
      cases h
      exact r.fz1 (List.getElem?_eq_getElem hjv) hq (by simp only [fz, e])
    · rename_i b ds e
      intro h
      cases h
      obtain ⟨u, hu, hd⟩ := r.sl i _ e
      have t' : σ[i]? = some (some vs[j]) := r.tm j _ _ (List.getElem?_eq_getElem hjv) hq
      rw [t'] at hu
      cases hu
      refine ⟨G, w, .refl, r.sub, r.out, r.len, r.sl, by rw [List.length_set]; exact r.tlen, fun k x p hx hp => ?_, r.bs⟩
      by_cases ek : j = k
      · subst ek
        rw [List.getElem?_set_self hj] at hp
        cases hp
        rw [List.getElem?_eq_getElem hjv] at hx
        cases hx
        exact hd
      · rw [List.getElem?_set_ne ek] at hp
        exact r.tm k x p hx hp
    · intro h; cases h
theorem Rep.rzGo : ∀ (rs2 : List R) (rs1 : List R) {G : Hp} {δ δ' : List Sl} {w : Addr → Option Nat} {qs : List R}, Rep K B G H σ δ vs (rs1 ++ rs2) w → rzAll δ rs2 = some (qs, δ') → ∃ G' w', Stp B.T G H w δ G' H w' δ' ∧ Rep K B G' H σ δ' vs (rs1 ++ qs) w'
  | [], rs1, G, δ, δ', w, qs, r, h => by
    cases h
    exact ⟨G, w, .refl, r⟩
  | q :: rs2, rs1, G, δ, δ', w, qs, r, h => by
    unfold rzAll at h
    revert h
    split
    · intro h; cases h
    · rename_i q' δ1 e
      split
      · intro h; cases h
      · rename_i qs' δ2 e2
        intro h
        cases h
        have hq : (rs1 ++ q :: rs2)[rs1.length]? = some q := by simp
        obtain ⟨G1, w1, s1, r1⟩ := r.rz1 hq e
        have e3 : (rs1 ++ q :: rs2).set rs1.length q' = (rs1 ++ [q']) ++ rs2 := by
          rw [List.set_append_right _ _ (Nat.le_refl _), Nat.sub_self, List.set_cons_zero, List.append_assoc]
          rfl
        rw [e3] at r1
        obtain ⟨G2, w2, s2, r2⟩ := Rep.rzGo rs2 (rs1 ++ [q']) r1 e2
        refine ⟨G2, w2, s1.trans s2, ?_⟩
        rw [List.append_assoc] at r2
        exact r2
theorem rz_noAt {δ δ' : List Sl} {q q' : R} (h : rz δ q = some (q', δ')) : isAt q' = false := by
  cases q with
  | im d => cases h; rfl
  | ow o => cases h; rfl
  | «at» i =>
    simp only [rz] at h
    revert h
    split
    · intro h; cases h; rfl
    · intro h; cases h; rfl
    · intro h; cases h; rfl
    · intro h; cases h
theorem rzAll_noAt : ∀ {rs qs : List R} {δ δ' : List Sl}, rzAll δ rs = some (qs, δ') → ∀ q ∈ qs, isAt q = false
  | [], _, _, _, h => by cases h; intro q hq; cases hq
  | r :: rs, qs, δ, δ', h => by
    unfold rzAll at h
    revert h
    split
    · intro h; cases h
    · rename_i q' δ1 e
      split
      · intro h; cases h
      · rename_i qs' δ2 e2
        intro h
        cases h
        intro q hq
        rcases List.mem_cons.mp hq with rfl | hq
        · exact rz_noAt e
        · exact rzAll_noAt e2 q hq
theorem Rep.rzs (r : Rep K B G H σ δ vs rs w) {qs : List R} {δ' : List Sl} (h : rzAll δ rs = some (qs, δ')) : ∃ G' w', Stp B.T G H w δ G' H w' δ' ∧ Rep K B G' H σ δ' vs qs w' := by
  have := Rep.rzGo rs [] (by simpa using r) h
  simpa using this
def moved (i : Nat) (w : Addr → Option Nat) (a : Addr) : Option Nat := match w a with
  | none => none
  | some n => if n = 1 then some (2 * i) else if n % 2 = 1 then some (n - 2) else if n = 2 * i then none else some n
theorem of_moved {i : Nat} {w : Addr → Option Nat} {a : Addr} {m : Nat} (h : moved i w a = some m) : ∃ n, w a = some n := by
  unfold moved at h
  cases e : w a with
  | none => rw [e] at h; cases h
  | some n => exact ⟨n, rfl⟩
/-- the first value goes to slot i -/
theorem Rep.sto {v : V} {q : R} (r : Rep K B G H σ δ (v :: vs) (q :: rs) w) {i : Nat} {Q : List Sl → Prop} (h : setS i q δ Q) (hq : isAt q = false) (hrs : ∀ p ∈ rs, isAt p = false) :
    ∃ w', Q (δ.set i (slOf q)) ∧ Stp B.T G H w δ G H w' (δ.set i (slOf q)) ∧ Rep K B G H (σ.set i (some v)) (δ.set i (slOf q)) vs rs w' ∧ Pin σ δ (σ.set i (some v)) := by
  have hd : ∃ s, δ[i]? = some s ∧ (∀ o, s ≠ .ow true o) ∧ Q (δ.set i (slOf q)) := by
    unfold setS at h
    revert h
    split
    · intro h; exact h.elim
    · intro h; exact h.elim
    · rename_i s hn e
      intro h
      exact ⟨s, e, fun o z => hn o z, h⟩
  obtain ⟨s, hs, hp, hQ⟩ := hd
  have hi : i < δ.length := (List.getElem?_eq_some_iff.mp hs).1
  have hiσ : i < σ.length := by rw [r.len]; exact hi
  have np : ∀ o, δ[i]? ≠ some (.ow true o) := fun o z => by rw [hs] at z; cases z; exact hp o rfl
  have st : Stp B.T G H w δ G H (moved i w) (δ.set i (slOf q)) := .of ⟨fun _ _ h => h, fun _ _ _ h => h, fun a m h => by
    obtain ⟨n, hn⟩ := of_moved h
    exact .inl (by rw [hn]; exact Option.some_ne_none _), fun a o h => .inl h, pn_set np⟩
  refine ⟨moved i w, hQ, st, ⟨r.sub, fun a m h => ?_, by rw [List.length_set, List.length_set]; exact r.len, fun k s' hk => ?_, by have := r.tlen; simpa using this, fun j u p hu hp' => ?_, st.bs r.bs⟩, fun k o hk => ?_⟩
  · obtain ⟨n, hn⟩ := of_moved h
    exact r.out a n hn
  · by_cases e : i = k
    · subst e
      rw [List.getElem?_set_self hi] at hk
      cases hk
      have t := r.tm 0 v q rfl rfl
      cases q with
      | im d => exact ⟨v, List.getElem?_set_self hiσ, t⟩
      | ow o =>
        refine ⟨v, List.getElem?_set_self hiσ, RO.mono (fun _ _ h => h) (fun _ _ _ h => h) (fun a u ma _ => ?_) t⟩
        show moved i w a = _
        unfold moved
        rw [ma]
        rfl
      | «at» _ => cases hq
    · rw [List.getElem?_set_ne e] at hk
      rw [List.getElem?_set_ne e]
      refine (r.sl k s' hk).mono (fun _ _ h => h) (fun _ _ _ h => h) fun a u ma _ => ?_
      show moved i w a = _
      unfold moved
      rw [ma]
      dsimp only
      rw [if_neg (by omega), if_neg (by omega), if_neg (by omega)]
  · have t := r.tm (j + 1) u p (by simpa using hu) (by simpa using hp')
    have hno : isAt p = false := hrs p (List.mem_of_getElem? hp')
    cases p with
    | im d => exact t
    | ow o =>
      refine RO.mono (fun _ _ h => h) (fun _ _ _ h => h) (fun a u ma _ => ?_) t
      show moved i w a = _
      unfold moved
      rw [ma]
      dsimp only
      rw [if_neg (by omega), if_pos (by omega)]
      congr 1
    | «at» _ => cases hno
  · by_cases e : i = k
    · subst e; exact absurd hk (np o)
    · rw [List.getElem?_set_ne e]
/-- several slots get several values -/
theorem Rep.stos : ∀ (is : List Nat) {σ : St} {δ : List Sl} {vs : List V} {qs : List R} {w : Addr → Option Nat} {Q : List Sl → Prop}, Rep K B G H σ δ vs qs w → setAll is qs δ Q → (∀ q ∈ qs, isAt q = false) →
    ∃ δ' w', Q δ' ∧ Stp B.T G H w δ G H w' δ' ∧ Rep K B G H ((is.zip vs).foldl (fun σ p => σ.set p.1 (some p.2)) σ) δ' [] [] w' ∧ Pin σ δ ((is.zip vs).foldl (fun σ p => σ.set p.1 (some p.2)) σ) ∧ is.length = vs.length
  | [], σ, δ, vs, qs, w, Q, r, h, hq => by
    cases qs with
    | nil =>
      have hv : vs = [] := List.eq_nil_of_length_eq_zero (by have := r.tlen; simpa using this)
      subst hv
      exact ⟨δ, w, h, .refl, r, .refl, rfl⟩
    | cons => exact h.elim
  | i :: is, σ, δ, vs, qs, w, Q, r, h, hq => by
    cases qs with
    | nil => exact h.elim
    | cons q qs =>
      cases vs with
      | nil => have := r.tlen; simp at this
      | cons v vs =>
        obtain ⟨w1, h1, s1, r1, p1⟩ := r.sto (show setS i q δ _ from h) (hq q List.mem_cons_self) fun p hp => hq p (List.mem_cons_of_mem _ hp)
        obtain ⟨δ2, w2, h2, s2, r2, p2, hl⟩ := Rep.stos is r1 h1 fun p hp => hq p (List.mem_cons_of_mem _ hp)
        exact ⟨δ2, w2, h2, s1.trans s2, r2, p1.trans s1.pn p2, congrArg (· + 1) hl⟩
/-- what slot i holds is handed on -/
def taken (i : Nat) (w : Addr → Option Nat) (a : Addr) : Option Nat := match w a with
  | none => none
  | some n => if n = 2 * i then some 1 else if n % 2 = 1 then none else some n
def mv (δ : List Sl) : R → Option (R × List Sl)
  | .at i => match δ[i]? with
    | some (.im d) => some (.im d, δ)
    | some (.ow false o) => some (.ow o, δ.set i .un)
    | _ => none
  | r => some (r, δ)
theorem Rep.mv1 {v : V} {q q' : R} {δ' : List Sl} (r : Rep K B G H σ δ [v] [q] w) (h : mv δ q = some (q', δ')) : ∃ w', Stp B.T G H w δ G H w' δ' ∧ Rep K B G H σ δ' [v] [q'] w' ∧ isAt q' = false := by
  cases q with
  | im d => cases h; exact ⟨w, .refl, r, rfl⟩
  | ow o => cases h; exact ⟨w, .refl, r, rfl⟩
  | «at» i =>
    have t : σ[i]? = some (some v) := r.tm 0 v (.at i) rfl rfl
    simp only [mv] at h
    revert h
    split
    · rename_i d e
      intro h
      cases h
      obtain ⟨u, hu, hd⟩ := r.sl i _ e
      rw [t] at hu
      cases hu
      exact ⟨_, .drop, r.ret hd, rfl⟩
    · rename_i o e
      intro h
      cases h
      obtain ⟨u, hu, hd⟩ := r.sl i _ e
      rw [t] at hu
      cases hu
      have ot : ∀ a m, taken i w a = some m → ∃ n, w a = some n := fun a m h => by
        unfold taken at h
        cases e : w a with
        | none => rw [e] at h; cases h
        | some n => exact ⟨n, rfl⟩
      have st : Stp B.T G H w δ G H (taken i w) (δ.set i .un) := .of ⟨fun _ _ h => h, fun _ _ _ h => h, fun a m h => by
        obtain ⟨n, hn⟩ := ot a m h
        exact .inl (by rw [hn]; exact Option.some_ne_none _), fun a o h => .inl h, pn_set fun o z => by rw [e] at z; cases z⟩
      refine ⟨taken i w, st, ⟨r.sub, fun a m h => ?_, by rw [List.length_set]; exact r.len, fun k s' hk => ?_, rfl, fun j u p hu hp' => ?_, st.bs r.bs⟩, rfl⟩
      · obtain ⟨n, hn⟩ := ot a m h
        exact r.out a n hn
      · by_cases ek : i = k
        · subst ek
          rw [List.getElem?_set_self (List.getElem?_eq_some_iff.mp e).1] at hk
          cases hk
          trivial
        · rw [List.getElem?_set_ne ek] at hk
          refine (r.sl k s' hk).mono (fun _ _ h => h) (fun _ _ _ h => h) fun a u ma _ => ?_
          show taken i w a = _
          unfold taken
          rw [ma]
          dsimp only
          rw [if_neg (by omega), if_neg (by omega)]
      · match j with
        | 0 =>
          simp only [List.getElem?_cons_zero, Option.some.injEq] at hu hp'
          subst hu hp'
          refine RO.mono (fun _ _ h => h) (fun _ _ _ h => h) (fun a u ma _ => ?_) hd
          show taken i w a = _
          unfold taken
          rw [ma]
          dsimp only
          rw [if_pos rfl]
        | j + 1 => simp at hu
    · intro h; cases h
end
/-! ### statements -/
structure PEn where
  nx : List Sl → Prop
  rt : R → List Sl → Prop
  bk : List Sl → Prop := fun _ => False
  ct : List Sl → Prop := fun _ => False
abbrev PSx := PEn → List Sl → Prop
structure EOk (K : PySem.W.Frag) (B : Bas) (G H : Hp) (w : Addr → Option Nat) (σ : St) (δ : List Sl) (E : PEn) (D : Ends) : Prop where
  nx : ∀ δ' σ' H' G' w', E.nx δ' → Stp B.T G H w δ G' H' w' δ' → Rep K B G' H' σ' δ' [] [] w' → Pin σ δ σ' → D.nx σ' H'
  rt : ∀ r δ' v σ' H' G' w', E.rt r δ' → isAt r = false → Stp B.T G H w δ G' H' w' δ' → Rep K B G' H' σ' δ' [v] [r] w' → Pin σ δ σ' → D.rt v H'
  bk : ∀ δ' σ' H' G' w', E.bk δ' → Stp B.T G H w δ G' H' w' δ' → Rep K B G' H' σ' δ' [] [] w' → Pin σ δ σ' → D.bk σ' H'
  ct : ∀ δ' σ' H' G' w', E.ct δ' → Stp B.T G H w δ G' H' w' δ' → Rep K B G' H' σ' δ' [] [] w' → Pin σ δ σ' → D.ct σ' H'
theorem EOk.later {K : PySem.W.Frag} {G H G1 H1 : Hp} {w w1 : Addr → Option Nat} {σ σ1 : St} {δ δ1 : List Sl} {E : PEn} {D : Ends} (e : EOk K B G H w σ δ E D) (s : Stp B.T G H w δ G1 H1 w1 δ1) (p : Pin σ δ σ1) : EOk K B G1 H1 w1 σ1 δ1 E D :=
  ⟨fun δ' σ' H' G' w' h s' r p' => e.nx δ' σ' H' G' w' h (s.trans s') r (p.trans s.pn p'), fun q δ' v σ' H' G' w' h ha s' r p' => e.rt q δ' v σ' H' G' w' h ha (s.trans s') r (p.trans s.pn p'),
    fun δ' σ' H' G' w' h s' r p' => e.bk δ' σ' H' G' w' h (s.trans s') r (p.trans s.pn p'), fun δ' σ' H' G' w' h s' r p' => e.ct δ' σ' H' G' w' h (s.trans s') r (p.trans s.pn p')⟩
def LS (K : PySem.W.Frag) (B : Bas) (p : PSx) : TS := fun D σ H => ∃ G w δ E, Rep K B G H σ δ [] [] w ∧ p E δ ∧ EOk K B G H w σ δ E D
def JS (X : Cx) (B : Bas) (st : Stmt) (p : PSx) : Prop := PS X st (LS X.K B p)
def JSs (X : Cx) (B : Bas) (st : List Stmt) (p : PSx) : Prop := PSs X st (LS X.K B p)
def pNext : PSx := fun E δ => E.nx δ
def pSeq (a b : PSx) : PSx := fun E δ => a { E with nx := fun δ' => b E δ' } δ
def pExpr (p : PX) : PSx := fun E δ => p δ fun _ δ1 => E.nx δ1
def pRet (p : PX) : PSx := fun E δ => p δ fun r δ1 => ∃ q δ2, mv δ1 r = some (q, δ2) ∧ E.rt q δ2
def pIf (c : PB) (a b : PSx) : PSx := fun E δ => c δ fun t δ1 => if t = true then a E δ1 else b E δ1
def pSet (i : Nat) (p : PX) : PSx := fun E δ => p δ fun r δ1 => ∃ q δ2, rz δ1 r = some (q, δ2) ∧ setS i q δ2 E.nx
def pPar (is : List Nat) (ps : PL) : PSx := fun E δ => ps δ fun rs δ1 => ∃ qs δ2, rzAll δ1 rs = some (qs, δ2) ∧ setAll is qs δ2 E.nx
section
variable {X : Cx} {st : Stmt} {sts : List Stmt} {a b : PSx} {e : Expr} {pa : PX} {pos : Pos}
theorem jss_nil : JSs X B [] pNext := PSs_wk pss_nil fun D σ H ⟨G, w, δ, E, rep, h, ek⟩ => ek.nx δ σ H G w h .refl rep .refl
theorem jss_cons (h1 : JS X B st a) (h2 : JSs X B sts b) : JSs X B (st :: sts) (pSeq a b) := PSs_wk (pss_cons h1 h2) fun D σ H ⟨G, w, δ, E, rep, h, ek⟩ =>
  ⟨G, w, δ, _, rep, h, ⟨fun δ' σ' H' G' w' hb s r p => ⟨G', w', δ', E, r, hb, ek.later s p⟩, ek.rt, ek.bk, ek.ct⟩⟩
theorem jss_one (h1 : JS X B st a) : JSs X B [st] a := pss_one h1
theorem js_expr (he : JE X B e pa) (hs : swapsWith e none pos.line X.env = pure false := by rfl) : JS X B (.Expr e pos) (pExpr pa) := PS_wk (ps_expr he hs) fun D σ H ⟨G, w, δ, E, rep, h, ek⟩ =>
  ⟨G, w, δ, _, rep, h, fun r δ1 v H1 G1 w1 q1 s1 rep1 => ek.nx δ1 σ H1 G1 _ q1 (s1.trans .drop) rep1.drop .refl⟩
theorem js_ret (he : JE X B e pa) : JS X B (.Return (some e) pos) (pRet pa) := PS_wk (ps_ret he) fun D σ H ⟨G, w, δ, E, rep, h, ek⟩ =>
  ⟨G, w, δ, _, rep, h, fun r δ1 v H1 G1 w1 q1 s1 rep1 => by
    obtain ⟨q, δ2, hm, q1⟩ := q1
    obtain ⟨w2, s2, r2, ha⟩ := rep1.mv1 hm
    exact ek.rt q δ2 v σ H1 G1 w2 q1 ha (s1.trans s2) r2 .refl⟩
theorem js_if {c : Expr} {x y : List Stmt} {pc : PB} (hc : JB X B c pc) (ha : JSs X B x a) (hb : JSs X B y b) : JS X B (.If c x y pos) (pIf pc a b) := PS_wk (ps_if hc ha hb) fun D σ H ⟨G, w, δ, E, rep, h, ek⟩ =>
  ⟨G, w, δ, _, rep, h, fun t δ1 H1 G1 w1 q1 s1 rep1 => by
    cases t with
    | true => exact ⟨G1, w1, δ1, E, rep1, q1, ek.later s1 .refl⟩
    | false => exact ⟨G1, w1, δ1, E, rep1, q1, ek.later s1 .refl⟩⟩
theorem set_lift {i : Nat} {p : PX} {D : Ends} {σ : St} {H : Hp} (h : LS X.K B (pSet i p) D σ H) : tAsg (LE X.K B p) (gName i) D σ H := by
  obtain ⟨G, w, δ, E, rep, h, ek⟩ := h
  refine ⟨G, w, δ, _, rep, h, fun r δ1 v H1 G1 w1 q1 s1 rep1 => ?_⟩
  obtain ⟨q, δ2, hz, q1⟩ := q1
  obtain ⟨G2, w2, s2, r2⟩ := rep1.rz1 (j := 0) rfl hz
  obtain ⟨w3, q3, s3, r3, p3⟩ := r2.sto q1 (rz_noAt hz) (fun p hp => by cases hp)
  exact ek.nx _ _ H1 G2 w3 q3 ((s1.trans s2).trans s3) r3 ((Pin.refl (σ := σ)).trans (s1.trans s2).pn p3)
theorem js_set {i : Nat} {x : Str} {pos' : Pos} (hN : X.N.Nodup) (hi : X.N[i]? = some x) (hx : Loc X.env.scope x) (he : JE X B e pa) (hs : swapsWith e (some (.Name x pos')) pos.line X.env = pure false := by rfl) (hf : X.fn x = true ∨ X.env.scope.names.lookup x = some .local := by first | exact .inl rfl | exact .inr rfl | assumption) :
    JS X B (.Assign [.Name x pos'] e pos) (pSet i pa) := PS_wk (ps_set hN hi hx he hs hf) fun D σ H ⟨G, w, δ, E, rep, h, ek⟩ =>
  ⟨G, w, δ, _, rep, h, fun r δ1 v H1 G1 w1 q1 s1 rep1 => by
    obtain ⟨q, δ2, hz, q1⟩ := q1
    obtain ⟨G2, w2, s2, r2⟩ := rep1.rz1 (j := 0) rfl hz
    obtain ⟨w3, q3, s3, r3, p3⟩ := r2.sto q1 (rz_noAt hz) (fun p hp => by cases hp)
    exact ek.nx _ _ H1 G2 w3 q3 ((s1.trans s2).trans s3) r3 ((Pin.refl (σ := σ)).trans (s1.trans s2).pn p3)⟩
theorem js_par2 {i j : Nat} {x y : Str} {e1 e2 : Expr} {ps : PL} {px py pt : Pos} {kt k2 pt2} (hc : X.calm = true) (hN : X.N.Nodup) (hi : X.N[i]? = some x) (hj : X.N[j]? = some y) (hij : i ≠ j)
    (hx : X.env.scope.names.lookup x = some .local) (hy : X.env.scope.names.lookup y = some .local) (ha : JA X B [e1, e2] ps)
    (hw : swappedStores [.Tuple [.Name x px, .Name y py] kt pt] (.Tuple [e1, e2] k2 pt2) X.env = pure (some [x, y]))
    (hs : swapsWithSole [.Tuple [.Name x px, .Name y py] kt pt] (.Tuple [e1, e2] k2 pt2) pos.line X.env = pure false := by rfl) :
    JS X B (.Assign [.Tuple [.Name x px, .Name y py] kt pt] (.Tuple [e1, e2] k2 pt2) pos) (pPar [i, j] ps) := PS_wk (ps_par hc hN hi hj hij hx hy ha hw hs) fun D σ H ⟨G, w, δ, E, rep, h, ek⟩ =>
  ⟨G, w, δ, _, rep, h, fun rs δ1 vs H1 G1 w1 q1 l1 s1 rep1 => by
    obtain ⟨qs, δ2, hz, q1⟩ := q1
    obtain ⟨G2, w2, s2, r2⟩ := rep1.rzs hz
    obtain ⟨δ3, w3, q3, s3, r3, p3, hl⟩ := Rep.stos [i, j] r2 q1 (rzAll_noAt hz)
    match vs, hl with
    | [v, u], _ => exact ⟨v, u, rfl, ek.nx _ _ H1 G2 w3 q3 ((s1.trans s2).trans s3) r3 ((Pin.refl (σ := σ)).trans (s1.trans s2).pn p3)⟩⟩
end
/-! ### targets of data -/
abbrev PGx := PyData → List Sl → (List Sl → Prop) → Prop
abbrev PGxs := List PyData → List Sl → (List Sl → Prop) → Prop
def gN (i : Nat) : PGx := fun d δ Q => setS i (.im d) δ Q
def gsN : PGxs := fun ds δ Q => ds = [] ∧ Q δ
def gsC (g : PGx) (gs : PGxs) : PGxs := fun ds δ Q => match ds with
  | d :: ds => g d δ fun δ' => gs ds δ' Q
  | [] => False
def gT (n : Nat) (gs : PGxs) : PGx := fun d δ Q => match d with
  | .tuple ds => ds.length = n ∧ gs ds δ Q
  | _ => False
/-- only the slots ts are stored to -/
def Tch (ts : List Nat) (σ σ' : St) : Prop := σ'.length = σ.length ∧ ∀ k, k ∉ ts → σ'[k]? = σ[k]?
theorem Tch.refl {ts : List Nat} {σ : St} : Tch ts σ σ := ⟨rfl, fun _ _ => rfl⟩
theorem Tch.trans {ts us : List Nat} {σ σ1 σ2 : St} (a : Tch ts σ σ1) (b : Tch us σ1 σ2) : Tch (ts ++ us) σ σ2 := ⟨b.1.trans a.1, fun k hk => (b.2 k fun z => hk (List.mem_append_right _ z)).trans (a.2 k fun z => hk (List.mem_append_left _ z))⟩
def LG (K : PySem.W.Frag) (B : Bas) (ts : List Nat) (g : PGx) : TG := fun v σ H Q => ∃ G w δ d Qp, Rep K B G H σ δ [] [] w ∧ Dq K G v d ∧ g d δ Qp ∧ ∀ δ' σ' H' G' w', Qp δ' → Stp B.T G H w δ G' H' w' δ' → Rep K B G' H' σ' δ' [] [] w' → Pin σ δ σ' → Tch ts σ σ' → Q σ' H'
def LGs (K : PySem.W.Frag) (B : Bas) (ts : List Nat) (g : PGxs) : TGs := fun vs σ H Q => ∃ G w δ ds Qp, Rep K B G H σ δ [] [] w ∧ DqAll K G vs ds ∧ g ds δ Qp ∧ ∀ δ' σ' H' G' w', Qp δ' → Stp B.T G H w δ G' H' w' δ' → Rep K B G' H' σ' δ' [] [] w' → Pin σ δ σ' → Tch ts σ σ' → Q σ' H'
section
variable {X : Cx} {pos : Pos}
theorem PG_wk {e : Expr} {t t' : TG} (h : PG X e t) (k : ∀ v σ H Q, t' v σ H Q → t v σ H Q) : PG X e t' := ⟨fun pins s σ H v u Q I r q => h.run pins s σ H v u Q I r (k v σ H Q q)⟩
theorem PGs_wk {es : List Expr} {t t' : TGs} (h : PGs X es t) (k : ∀ v σ H Q, t' v σ H Q → t v σ H Q) : PGs X es t' := ⟨fun pins s σ H v u Q I r q => h.run pins s σ H v u Q I r (k v σ H Q q)⟩
def JG (X : Cx) (B : Bas) (e : Expr) (ts : List Nat) (g : PGx) : Prop := PG X e (LG X.K B ts g)
def JGs (X : Cx) (B : Bas) (es : List Expr) (ts : List Nat) (g : PGxs) : Prop := PGs X es (LGs X.K B ts g)
theorem jg_name {i : Nat} {x : Str} (hN : X.N.Nodup) (hi : X.N[i]? = some x) (hx : Loc X.env.scope x) (hf : X.fn x = true ∨ X.env.scope.names.lookup x = some .local := by first | exact .inl rfl | exact .inr rfl | assumption) : JG X B (.Name x pos) [i] (gN i) :=
  PG_wk (pg_name hN hi hx hf) fun v σ H Q ⟨G, w, δ, d, Qp, rep, hd, h, k⟩ => by
    obtain ⟨w3, q3, s3, r3, p3⟩ := (rep.ret hd).sto (show setS i (.im d) δ Qp from h) rfl (fun p hp => by cases hp)
    exact k _ _ H G w3 q3 (Stp.drop.trans s3) r3 p3 ⟨List.length_set, fun k hk => List.getElem?_set_ne fun z => hk (by rw [z]; exact List.mem_singleton.mpr rfl)⟩
theorem jgs_nil : JGs X B [] [] gsN := PGs_wk pgs_nil fun vs σ H Q ⟨G, w, δ, ds, Qp, rep, hd, h, k⟩ => by
  obtain ⟨rfl, h⟩ := h
  exact ⟨dqAll_nil hd, k δ σ H G w h .refl rep .refl .refl⟩
theorem jgs_cons {e : Expr} {es : List Expr} {ts us : List Nat} {g : PGx} {gs : PGxs} (h1 : JG X B e ts g) (h2 : JGs X B es us gs)
    (hs : (assignEach (e :: es) X.env).map (·.2) = assign e X.env :: (assignEach es X.env).map (·.2) := by rfl) : JGs X B (e :: es) (ts ++ us) (gsC g gs) := PGs_wk (pgs_cons h1 h2 hs) fun vs σ H Q ⟨G, w, δ, ds, Qp, rep, hd, h, k⟩ => by
  cases hd with
  | nil => exact h.elim
  | cons h1 h2 =>
    exact ⟨_, _, rfl, G, w, δ, _, _, rep, h1, h, fun δ' σ' H' G' w' hq s r p t => ⟨G', w', δ', _, Qp, r, dpAll_mono s.g _ _ h2, hq, fun δ2 σ2 H2 G2 w2 hq2 s2 r2 p2 t2 => k δ2 σ2 H2 G2 w2 hq2 (s.trans s2) r2 (p.trans s.pn p2) (t.trans t2)⟩⟩
theorem jg_tup {es : List Expr} {k : Nat} {ts : List Nat} {g : PGxs} {n : Nat} (hc : X.calm = true) (h : JGs X B es ts g)
    (hn : (assignEach es X.env).length = n := by rfl) (hst : (assignEach es X.env).findIdx? (·.1) = none := by rfl) : JG X B (.Tuple es k pos) ts (gT n g) := PG_wk (pg_tup hc h hn hst) fun v σ H Q ⟨G, w, δ, d, Qp, rep, hd, h, k⟩ => by
  unfold gT at h
  revert h
  split
  · intro h
    cases hd with
    | tup hs ha => exact ⟨_, _, rfl, Same.tp rep.sub _ _ hs, (dqAll_len ha).trans h.1, G, w, δ, _, Qp, rep, ha, h.2, k⟩
  · intro h; exact h.elim
/-- target = data -/
def pAsg (p : PX) (g : PGx) : PSx := fun E δ => p δ fun r δ1 => ∃ d δ2, fz δ1 r = some (d, δ2) ∧ g d δ2 E.nx
theorem js_asg {tg e : Expr} {p : PX} {ts : List Nat} {g : PGx} (he : JE X B e p) (hg : JG X B tg ts g) (hs : swapsWithSole [tg] e pos.line X.env = pure false := by rfl) (hw : swappedStores [tg] e X.env = pure none := by rfl)
    (h1 : (assignEach [tg] X.env).map (·.2) = [assign tg X.env] := by rfl) : JS X B (.Assign [tg] e pos) (pAsg p g) := PS_wk (ps_asg he hg hs hw h1) fun D σ H ⟨G, w, δ, E, rep, h, ek⟩ =>
  ⟨G, w, δ, _, rep, h, fun r δ1 v H1 G1 w1 q1 s1 rep1 => by
    obtain ⟨d, δ2, hz, q1⟩ := q1
    obtain ⟨G2, w2, s2, r2⟩ := rep1.fz1 (j := 0) rfl rfl hz
    have hd : Dq X.K G2 v d := r2.tm 0 v (.im d) rfl rfl
    exact ⟨G2, _, δ2, d, _, r2.drop, hd, q1, fun δ' σ' H' G' w' hq s r p _ => ek.nx δ' σ' H' G' w' hq (((s1.trans s2).trans .drop).trans s) r ((Pin.refl (σ := σ)).trans ((s1.trans s2).trans .drop).pn p)⟩⟩
/-- a, b, .. = x, y, .. by a tuple -/
theorem js_parT {is : List Nat} {xs : List Str} {tgs es : List Expr} {ps : PL} {pt : Pos} {kt k2 pt2} {gs : TGs} (ha : JA X B es ps) (hg : PG X (.Tuple tgs kt pt) (gTup X.K is.length gs)) (hgs : ∀ vs σ H Q, is.length = vs.length → Q ((is.zip vs).foldl (fun σ p => σ.set p.1 (some p.2)) σ) H → gs vs σ H Q) (hl : es.length ≤ sizeLine := by decide)
    (hs : swapsWithSole [.Tuple tgs kt pt] (.Tuple es k2 pt2) pos.line X.env = pure false := by rfl) (hw : swappedStores [.Tuple tgs kt pt] (.Tuple es k2 pt2) X.env = pure none := by rfl) (h1 : (assignEach [.Tuple tgs kt pt] X.env).map (·.2) = [assign (.Tuple tgs kt pt) X.env] := by rfl) :
    JS X B (.Assign [.Tuple tgs kt pt] (.Tuple es k2 pt2) pos) (pPar is ps) := PS_wk (ps_asg (pe_tup ha) hg hs hw h1) fun D σ H ⟨G, w, δ, E, rep, h, ek⟩ =>
  ⟨G, w, δ, _, rep, h, fun rs δ1 vs H1 G1 w1 q1 l1 s1 rep1 => ⟨by rw [rep1.tlen, l1]; exact hl, fun p hp => by
    obtain ⟨qs, δ2, hz, q1⟩ := q1
    obtain ⟨G2, w2, s2, r2⟩ := rep1.rzs hz
    obtain ⟨s3, r3⟩ := r2.lay (o := .tup vs) hp
    obtain ⟨δ4, w4, q4, s4, r4, p4, hl⟩ := Rep.stos is r3 q1 (rzAll_noAt hz)
    refine ⟨p, vs, rfl, SqT.of upd_same, hl.symm, hgs vs σ _ _ hl ?_⟩
    exact ek.nx _ _ _ _ w4 q4 (((s1.trans s2).trans s3).trans s4) r4 ((Pin.refl (σ := σ)).trans ((s1.trans s2).trans s3).pn p4)⟩⟩
end
end Pv
namespace Pv
open PySem PySem.Spec L2 Wf
variable {B : Bas}
/-! ### a list of one's own is changed -/
section
variable {K : PySem.W.Frag} {G H : Hp} {σ : St} {δ : List Sl} {vs : List V} {rs : List R} {w : Addr → Option Nat}
theorem Rep.own (r : Rep K B G H σ δ vs rs w) {i : Nat} {b : Bool} {ds : List PyData} (h : δ[i]? = some (.ow b (.lst ds))) : ∃ a us, σ[i]? = some (some (.ref a)) ∧ w a = some (2 * i) ∧ H a = some (.lst us) ∧ DqAll K G us ds := by
  obtain ⟨v, hv, a, us, rfl, ma, ha, hd⟩ := r.sl i _ h
  exact ⟨a, us, hv, ma, ha, hd⟩
theorem Rep.wr (r : Rep K B G H σ δ vs rs w) {i : Nat} {b : Bool} {ds ds' : List PyData} {a : Addr} {us us' : List V} (h : δ[i]? = some (.ow b (.lst ds))) (hσ : σ[i]? = some (some (.ref a))) (hw : w a = some (2 * i)) (ha : H a = some (.lst us)) (hd : DqAll K G us' ds') :
    Stp B.T G H w δ G (upd H a (.lst us')) w (δ.set i (.ow b (.lst ds'))) ∧ Rep K B G (upd H a (.lst us')) σ (δ.set i (.ow b (.lst ds'))) vs rs w := by
  have hi : i < δ.length := (List.getElem?_eq_some_iff.mp h).1
  have ne : ∀ x n, w x = some n → n ≠ 2 * i → x ≠ a := fun x n hx hn z => by subst z; rw [hw] at hx; cases hx; exact hn rfl
  have g0 := (r.out a _ hw).1
  have st : Stp B.T G H w δ G (upd H a (.lst us')) w (δ.set i (.ow b (.lst ds'))) := by
    refine .of ⟨fun _ _ h => h, fun x o hx ho => ?_, fun x n hx => .inl (by rw [hx]; exact Option.some_ne_none _), fun _ _ h => .inl h, fun k o hk => ?_⟩ (tabs_put ha)
    · rw [upd_ne (fun z => by subst z; rw [hw] at hx; cases hx)]
      exact ho
    · by_cases e : i = k
      · subst e
        rw [h] at hk
        cases hk
        exact ⟨_, List.getElem?_set_self hi⟩
      · exact ⟨o, by rw [List.getElem?_set_ne e]; exact hk⟩
  refine ⟨st, fun x o hx => ?_, fun x n hx => ?_, by rw [List.length_set]; exact r.len, fun k s hk => ?_, r.tlen, fun j v q hv hq => ?_, st.bs r.bs⟩
  · have : x ≠ a := fun z => by subst z; rw [g0] at hx; cases hx
    rw [upd_ne this]
    exact r.sub x o hx
  · obtain ⟨h1, h2, h3⟩ := r.out x n hx
    by_cases e : x = a
    · subst e
      rw [upd_same]
      exact ⟨h1, Option.some_ne_none _, NoX.lst upd_same⟩
    · rw [upd_ne e]
      exact ⟨h1, h2, noT_upd e h3⟩
  · by_cases e : i = k
    · subst e
      rw [List.getElem?_set_self hi] at hk
      cases hk
      exact ⟨_, hσ, a, us', rfl, hw, upd_same, hd⟩
    · rw [List.getElem?_set_ne e] at hk
      refine (r.sl k s hk).mono (fun _ _ h => h) (fun x u mx hu => ?_) fun x u mx _ => mx
      rw [upd_ne (ne x _ mx (by omega))]
      exact hu
  · refine (r.tm j v q hv hq).mono (fun _ _ h => h) (fun x u mx hu => ?_) fun x u mx _ => mx
    rw [upd_ne (ne x _ mx (by omega))]
    exact hu
end
/-- a method of one's own list: its items, the arguments; what is told, the items then -/
def pMt (f : List PyData → List PyData → (PyData → List PyData → Prop) → Prop) (po : PX) (ps : PL) : PX := fun δ Q => po δ fun ro δ1 => ∃ i b0 ds0, ro = .at i ∧ δ1[i]? = some (.ow b0 (.lst ds0)) ∧ ps δ1 fun rs δ2 => ∃ as δ3 b ds, fzAll δ2 rs = some (as, δ3) ∧ δ3[i]? = some (.ow b (.lst ds)) ∧
  f ds as fun d ds' => Q (.im d) (δ3.set i (.ow b (.lst ds')))
def MtV (K : PySem.W.Frag) (f : List PyData → List PyData → (PyData → List PyData → Prop) → Prop) (r : V → List V → Hp → VK → Prop) : Prop :=
  ∀ (G H : Hp) (a : Addr) (us vs : List V) (ds as : List PyData) (Qp : PyData → List PyData → Prop) (Q : VK), H a = some (.lst us) → DqAll K G us ds → DqAll K G vs as → f ds as Qp → (∀ d ds' v us', Qp d ds' → Dq K G v d → DqAll K G us' ds' → Q v (upd H a (.lst us'))) → r (.ref a) vs H Q
section
variable {X : Cx} {o e : Expr} {es : List Expr} {po : PX} {ps : PL} {name : Str} {apos cpos pos : Pos} {id : String} {r : V → List V → Hp → VK → Prop} {f : List PyData → List PyData → (PyData → List PyData → Prop) → Prop}
theorem mt_go {Q : VK} {σ : St} {G H G1 H1 : Hp} {w w1 : Addr → Option Nat} {δ δ1 : List Sl} {Qp : QE} {x : V} {i : Nat} (hm : MtV X.K f r)
    (k : ∀ r δ' v H' G' w', Qp r δ' → Stp B.T G H w δ G' H' w' δ' → Rep X.K B G' H' σ δ' [v] [r] w' → Q v H') (s1 : Stp B.T G H w δ G1 H1 w1 δ1) {vs : List V} {rs : List R} (rep1 : Rep X.K B G1 H1 σ δ1 vs rs w1) (hx : σ[i]? = some (some x))
    {as : List PyData} {δ3 : List Sl} {b : Bool} {ds : List PyData} (e1 : fzAll δ1 rs = some (as, δ3)) (e2 : δ3[i]? = some (.ow b (.lst ds))) (q : f ds as fun d ds' => Qp (.im d) (δ3.set i (.ow b (.lst ds')))) : r x vs H1 Q := by
  obtain ⟨G2, w2, s2, r2⟩ := rep1.fzs e1
  obtain ⟨a, us, hσ, hw, ha, hd⟩ := r2.own e2
  rw [hx] at hσ
  cases hσ
  refine hm G2 H1 a us vs ds as _ Q ha hd r2.ims q fun d ds' v us' hq hv hu => ?_
  obtain ⟨s3, r3⟩ := r2.wr e2 hx hw ha hu
  exact k _ _ v _ G2 _ hq (((s1.trans s2).trans s3).trans .drop) (r3.ret hv)
theorem je_mt (pa : PlainAttrs "list") (slot : Slot "list" name id) (hty : typeOf (.builtin id) = pure (.type "method_descriptor")) (hm : MtR X id r) (hv : MtV X.K f r) (ho : JE X B o po) (ha : JA X B (e :: es) ps)
    (hbase : attributeBase o name X.env (eval o X.env) = eval o X.env := by rfl)
    (hfew : ((backTo cpos (starEach (e :: es) X.env)).all (fun x => !x.1) && (backToKw cpos (keywordEach [] X.env)).all (fun x => x.1.isSome)
      && decide ((e :: es).length + ([] : List Keyword).length + (if ([] : List Keyword).isEmpty then 0 else 1) < 30)) = true := by rfl)
    (hline : (apos.endLine == cpos.line) = true := by rfl) (hs : starEach (e :: es) X.env = (false, eval e X.env) :: starEach es X.env := by rfl) (hplain : (backTo cpos (starEach es X.env)).any (·.1) = false := by rfl) :
    JE X B (.Call (.Attribute o name apos) (e :: es) [] cpos) (pMt f po ps) := by
  refine PE_wk (pe_bm pa slot hty hm ho ha hbase hfew hline hs hplain) fun σ H Q ⟨G, w, δ, Qp, rep, q, k⟩ => ?_
  refine ⟨G, w, δ, _, rep, q, fun ro δ1 x H1 G1 w1 q1 s1 rep1 => ?_⟩
  obtain ⟨i, b0, ds0, rfl, e0, q1⟩ := q1
  have hx : σ[i]? = some (some x) := rep1.tm 0 x (.at i) rfl rfl
  obtain ⟨a0, us0, hσ0, _, ha0, _⟩ := rep1.own e0
  rw [hx] at hσ0
  cases hσ0
  refine ⟨.inl ⟨rfl, us0, SqL.of ha0⟩, G1, _, δ1, _, rep1.drop, q1, fun rs δ2 vs H2 G2 w2 q2 _ s2 rep2 => ?_⟩
  obtain ⟨as, δ3, b, ds, e1, e2, q2⟩ := q2
  exact mt_go hv k ((s1.trans .drop).trans s2) rep2 hx e1 e2 q2
def mAppend : List PyData → List PyData → (PyData → List PyData → Prop) → Prop
  | ds, [d], k => ds.length < sizeLine ∧ k .none (ds ++ [d])
  | _, _, _ => False
theorem mv_append {K : PySem.W.Frag} : MtV K mAppend rAppend := by
  intro G H a us vs ds as Qp Q ha hu hv q k
  match as, hv, q with
  | [d], .cons h1 .nil, q => exact ⟨a, us, _, rfl, rfl, ha, by rw [dqAll_len hu]; exact q.1, k _ _ _ _ q.2 .non (dqAll_append hu (.cons h1 .nil))⟩
  | [], _, q => exact q.elim
  | _ :: _ :: _, _, q => exact q.elim
/-! ### x[i] = .. -/
def gSx (po pi : PX) : PGx := fun d δ Q => po δ fun ro δ1 => pi δ1 fun ri δ2 => ∃ i n b ds j, ro = .at i ∧ dat δ2 ri = some (.int n) ∧ δ2[i]? = some (.ow b (.lst ds)) ∧ ixN ds.length n = some j ∧ Q (δ2.set i (.ow b (.lst (ds.set j d))))
theorem dqAll_set {K : PySem.W.Frag} {G : Hp} {v : V} {d : PyData} (h : Dq K G v d) : ∀ (n : Nat) {us : List V} {ds : List PyData}, DqAll K G us ds → DqAll K G (us.set n v) (ds.set n d)
  | _, _, _, .nil => .nil
  | 0, _, _, .cons _ h2 => .cons h h2
  | n + 1, _, _, .cons h1 h2 => .cons h1 (dqAll_set h n h2)
theorem jg_sub {i : Expr} {pi : PX} (ho : JE X B o po) (hi : JE X B i pi)
    (ha : ∀ v, assign (.Subscript o i pos) X.env v = (do
      let ov ← holding [v] (eval o X.env)
      let iv ← holding [v, ov] (eval i X.env)
      standAt pos
      holding [v, ov, iv] (setItem ov iv v)
      release [v, ov, iv] []) := by intro _; rfl) : JG X B (.Subscript o i pos) [] (gSx po pi) := by
  refine PG_wk (pg_sub ho hi set_list ha) fun v σ H Q ⟨G, w, δ, d, Qp, rep, hd, h, k⟩ => ?_
  refine ⟨G, w, δ, _, rep, h, fun ro δ1 x H1 G1 w1 q1 s1 rep1 => ?_⟩
  refine ⟨G1, _, δ1, _, rep1.drop, q1, fun ri δ2 y H2 G2 w2 q2 s2 rep2 => ?_⟩
  obtain ⟨i, n, b, ds, j, rfl, hn, e2, hj, q2⟩ := q2
  have hx : σ[i]? = some (some x) := rep1.tm 0 x (.at i) rfl rfl
  obtain ⟨a, us, hσ, hw, ha, hds⟩ := rep2.own e2
  rw [hx] at hσ
  cases hσ
  have hv := dp_mono (s1.g) _ _ hd
  have hv2 := dp_mono s2.g _ _ hv
  refine ⟨a, us, n, j, rfl, dp_int (rep2.dpH (j := 0) rfl rfl hn), ha, by rw [dqAll_len hds]; exact hj, ?_⟩
  obtain ⟨s4, r4⟩ := rep2.wr e2 hx hw ha (dqAll_set hv2 j hds)
  exact k _ σ _ G2 _ q2 ((((s1.trans .drop).trans s2).trans s4).trans .drop) r4.drop .refl .refl
end
/-! ### what is walked -/
structure ItD (K : PySem.W.Frag) (G : Hp) (J : It) (ds : List PyData) : Prop where
  go : ∀ G' H' (i : Nat), Same G G' → Same G' H' → i < ds.length → J.go i H'
  yld : ∀ G' H' (i : Nat) x H2, Same G G' → Same G' H' → i < ds.length → J.yld i H' x H2 → ∃ d, ds[i]? = some d ∧ Res K G' H' x H2 d
  stop : ∀ G' H', Same G G' → Same G' H' → J.stop ds.length H'
abbrev PIx := List Sl → (List PyData → List Sl → Prop) → Prop
def LI (K : PySem.W.Frag) (B : Bas) (p : PIx) : TI := fun σ H R => ∃ G w δ Qp, Rep K B G H σ δ [] [] w ∧ p δ Qp ∧ ∀ ds δ' J H' G' w', Qp ds δ' → Stp B.T G H w δ G' H' w' δ' → Rep K B G' H' σ δ' [] [] w' → ItD K G' J ds → R J H'
def JI (X : Cx) (B : Bas) (tg iter : Expr) (p : PIx) : Prop := PI X tg iter (LI X.K B p)
theorem PI_wk {X : Cx} {tg iter : Expr} {t t' : TI} (h : PI X tg iter t) (k : ∀ σ H R, t' σ H R → t σ H R) : PI X tg iter t' := ⟨fun pins s σ H R I q => h.run pins s σ H R I (k σ H R q)⟩
theorem itd_list {K : PySem.W.Frag} {G : Hp} {a : Addr} {us : List V} {ds : List PyData} (ha : G a = some (.lst us)) (hd : DqAll K G us ds) : ItD K G (Itl K a) ds where
  go := fun G' H' i sg sh hi => by
    have hl := dqAll_len hd
    exact ⟨us, us[i]'(by omega), SqL.of (sh _ _ (sg _ _ ha)), by simp⟩
  yld := fun G' H' i x H2 sg sh hi y => by
    obtain ⟨rfl, y⟩ := y
    obtain ⟨v, hv, hq⟩ := dqAll_get hd (List.getElem?_eq_getElem hi)
    have e := y us (SqL.of (sh _ _ (sg _ _ ha)))
    rw [hv] at e
    cases e
    exact ⟨_, List.getElem?_eq_getElem hi, .old (dp_mono sg _ _ hq)⟩
  stop := fun G' H' sg sh => ⟨us, SqL.of (sh _ _ (sg _ _ ha)), by rw [dqAll_len hd]; exact Nat.le_refl _⟩
theorem itd_tup {K : PySem.W.Frag} {G : Hp} {a : Addr} {us : List V} {ds : List PyData} (ha : SqT K G a us) (hd : DqAll K G us ds) : ItD K G (Itt K a) ds where
  go := fun G' H' i sg sh hi => by
    have hl := dqAll_len hd
    exact ⟨us, us[i]'(by omega), Same.tp sh _ _ (Same.tp sg _ _ ha), by simp⟩
  yld := fun G' H' i x H2 sg sh hi y => by
    obtain ⟨rfl, y⟩ := y
    obtain ⟨v, hv, hq⟩ := dqAll_get hd (List.getElem?_eq_getElem hi)
    have e := y us (Same.tp sh _ _ (Same.tp sg _ _ ha))
    rw [hv] at e
    cases e
    exact ⟨_, List.getElem?_eq_getElem hi, .old (dp_mono sg _ _ hq)⟩
  stop := fun G' H' sg sh => ⟨us, Same.tp sh _ _ (Same.tp sg _ _ ha), by rw [dqAll_len hd]; exact Nat.le_refl _⟩
theorem itd_rng {K : PySem.W.Frag} {G : Hp} {a b : Int} : ItD K G (Itr a (b - a).toNat) (rgD a b) where
  go := fun G' H' i _ _ hi => by
    unfold rgD at hi
    rw [List.length_map, List.length_range] at hi
    exact hi
  yld := fun G' H' i x H2 _ _ hi y => by
    obtain ⟨rfl, rfl⟩ := y
    unfold rgD at hi ⊢
    rw [List.length_map, List.length_range] at hi
    exact ⟨.int (a + (i : Nat)), by rw [List.getElem?_map, List.getElem?_range hi]; rfl, .int⟩
  stop := fun G' H' _ _ => by
    unfold rgD
    rw [List.length_map, List.length_range]
    exact Nat.le_refl _
section
variable {X : Cx} {tg l a b : Expr} {pl pa pb : PX} {p pos : Pos}
/-- a list or a tuple -/
def iSeqU (K : PySem.W.Frag) (tl : TE) : TI := fun σ H R => tl σ H fun x H1 => ∃ a, x = .ref a ∧ (((∃ xs, SqL K H1 a xs) ∧ R (Itl K a) H1) ∨ ((∃ xs, SqT K H1 a xs) ∧ R (Itt K a) H1))
theorem pi_seqU {tl : TE} (hl : PE X l tl) : PI X tg l (iSeqU X.K tl) := by
  refine ⟨fun pins s σ H R I h => ?_⟩
  refine thn (hl.run pins s σ H _ I h) fun v s1 ⟨x, H1, I1, r1, q1⟩ => ?_
  obtain ⟨a, e, ⟨⟨xs, hq⟩, q⟩ | ⟨⟨xs, hq⟩, q⟩⟩ := q1
  · subst e
    cases r1
    obtain ⟨its, rv, p, hz⟩ := I1.list hq
    refine wpAny_pyIter_list p.isList ?_
    refine ⟨s1.heap.objs.size, [s1.heap.objs.size], _, _, H1, rfl, I1.kept (t' := s1.toks) fun b o e => Heap.get?_push_of_some _ e, turn_list a _, ⟨_, Heap.get?_push_size _ rfl, rfl, rfl⟩, fun b hb => ?_, q⟩
    have e : b = s1.heap.objs.size := by simpa using hb
    subst e
    exact I1.fpOk (Nat.le_refl _) (I1.hok.fresh (Nat.le_refl _))
  · subst e
    cases r1
    obtain ⟨its, rv, p, hz⟩ := I1.tuple hq
    refine wpAny_pyIter_tuple (show s1.heap.IsTuple a its.toArray from p) ?_
    refine ⟨s1.heap.objs.size, [s1.heap.objs.size], _, _, H1, rfl, I1.kept (t' := s1.toks) fun b o e => Heap.get?_push_of_some _ e, turn_tuple a _, ⟨_, Heap.get?_push_size _ rfl, rfl, rfl⟩, fun b hb => ?_, q⟩
    have e : b = s1.heap.objs.size := by simpa using hb
    subst e
    exact I1.fpOk (Nat.le_refl _) (I1.hok.fresh (Nat.le_refl _))
def seqD : PyData → Option (List PyData)
  | .list ds => some ds
  | .tuple ds => some ds
  | _ => none
def iSeq (p : PX) : PIx := fun δ Q => p δ fun r δ1 => ∃ d δ2 ds, fz δ1 r = some (d, δ2) ∧ seqD d = some ds ∧ Q ds δ2
theorem ji_seq (hl : JE X B l pl) : JI X B tg l (iSeq pl) := PI_wk (pi_seqU hl) fun σ H R ⟨G, w, δ, Qp, rep, q, k⟩ =>
  ⟨G, w, δ, _, rep, q, fun r δ1 v H1 G1 w1 q1 s1 rep1 => by
    obtain ⟨d, δ2, ds, hz, hs, q1⟩ := q1
    obtain ⟨G2, w2, s2, r2⟩ := rep1.fz1 (j := 0) rfl rfl hz
    have hd : Dq X.K G2 v d := r2.tm 0 v (.im d) rfl rfl
    cases d with
    | list es =>
      cases hs
      cases hd with
      | lst ha hds => exact ⟨_, rfl, .inl ⟨⟨_, SqL.of (r2.sub _ _ ha)⟩, k ds δ2 _ H1 G2 _ q1 ((s1.trans s2).trans .drop) r2.drop (itd_list ha hds)⟩⟩
    | tuple es =>
      cases hs
      cases hd with
      | tup ha hds => exact ⟨_, rfl, .inr ⟨⟨_, Same.tp r2.sub _ _ ha⟩, k ds δ2 _ H1 G2 _ q1 ((s1.trans s2).trans .drop) r2.drop (itd_tup ha hds)⟩⟩
    | none => cases hs
    | bool _ => cases hs
    | int _ => cases hs
    | str _ => cases hs
    | dict _ => cases hs⟩
def iRg (ps : PL) : PIx := fun δ Q => ps δ fun rs δ1 => match dats δ1 rs with
  | some [.int n] => -(2 ^ 62) ≤ n ∧ n < 2 ^ 62 ∧ Q (rgD 0 n) δ1
  | some [.int i, .int j] => (-(2 ^ 62) ≤ i ∧ i < 2 ^ 62 ∧ -(2 ^ 62) ≤ j ∧ j < 2 ^ 62) ∧ Q (rgD i j) δ1
  | _ => False
theorem vws1 {K : PySem.W.Frag} {G H : Hp} {vs : List V} {i : Int} (h : Vws K G H vs [.int i]) : vs = [.int i] := by
  cases h with
  | cons h1 h => cases h; rw [h1.int]
theorem vws_len {K : PySem.W.Frag} {G H : Hp} : ∀ {vs : List V} {ds : List PyData}, Vws K G H vs ds → vs.length = ds.length
  | _, _, .nil => rfl
  | _, _, .cons _ h => congrArg (· + 1) (vws_len h)
theorem ji_rng1 {ps : PL} (hg : Gl X "range") (hm : X.mg "range" = none) (ha : JA X B [a] ps) (hs : starEach [a] X.env = [(false, eval a X.env)] := by rfl) : JI X B tg (.Call (.Name "range" p) [a] [] pos) (iRg ps) := by
  refine PI_wk (pi_range1 hg hm ha hs) fun σ H R ⟨G, w, δ, Qp, rep, q, k⟩ => ?_
  refine ⟨G, w, δ, _, rep, q, fun rs δ1 vs H1 G1 w1 q1 l1 s1 rep1 => ?_⟩
  revert q1
  split
  · rename_i n e
    rintro ⟨b1, b2, q1⟩
    refine ⟨n, vws1 (rep1.vws e), b1, b2, k _ δ1 _ H1 G1 _ q1 (s1.trans .drop) rep1.drop ?_⟩
    have := itd_rng (K := X.K) (G := G1) (a := 0) (b := n)
    rwa [Int.sub_zero] at this
  · rename_i i j e
    intro q1
    have := vws_len (rep1.vws e)
    rw [rep1.tlen, l1] at this
    simp at this
  · intro q1; exact q1.elim
/-! ### for, while -/
/-- the slots ts are forgotten -/
def wp1 : Bool → Sl → Sl
  | true, .ow true o => .ow true o
  | true, _ => .un
  | false, s => s
def wpG (ts : List Nat) : Nat → List Sl → List Sl
  | _, [] => []
  | n, s :: δ => wp1 (ts.elem n) s :: wpG ts (n + 1) δ
def wipeT (δ : List Sl) (ts : List Nat) : List Sl := wpG ts 0 δ
theorem wpG_get (ts : List Nat) : ∀ (δ : List Sl) (n i : Nat), (wpG ts n δ)[i]? = (δ[i]?).map fun s => wp1 (ts.elem (n + i)) s
  | [], n, i => by simp [wpG]
  | s :: δ, n, 0 => by simp [wpG]
  | s :: δ, n, i + 1 => by
    simp only [wpG, List.getElem?_cons_succ, wpG_get ts δ (n + 1) i]
    have : n + 1 + i = n + (i + 1) := by omega
    rw [this]
theorem wpG_len (ts : List Nat) : ∀ (δ : List Sl) (n : Nat), (wpG ts n δ).length = δ.length
  | [], _ => rfl
  | s :: δ, n => by simp only [wpG, List.length_cons, wpG_len ts δ (n + 1)]
theorem wipeT_len (δ : List Sl) (ts : List Nat) : (wipeT δ ts).length = δ.length := wpG_len ts δ 0
theorem wipeT_get {δ : List Sl} {i : Nat} {s : Sl} {ts : List Nat} (h : (wipeT δ ts)[i]? = some s) : s = .un ∨ δ[i]? = some s := by
  unfold wipeT at h
  rw [wpG_get] at h
  obtain ⟨s', h1, rfl⟩ := Option.map_eq_some_iff.mp h
  cases hb : ts.elem (0 + i) with
  | false => exact .inr h1
  | true =>
    cases s' with
    | un => exact .inl rfl
    | im d => exact .inl rfl
    | ex a dd C fs => exact .inl rfl
    | ow b o =>
      cases b with
      | true => exact .inr h1
      | false => exact .inl rfl
theorem wipeT_pin {δ : List Sl} {i : Nat} {o : O} (h : δ[i]? = some (Sl.ow true o)) (ts : List Nat) : (wipeT δ ts)[i]? = some (Sl.ow true o) := by
  unfold wipeT
  rw [wpG_get, h]
  cases hb : ts.elem (0 + i) with
  | false => rfl
  | true => rfl
theorem Rep.wipe {K : PySem.W.Frag} {G H : Hp} {σ : St} {δ : List Sl} {w : Addr → Option Nat} (r : Rep K B G H σ δ [] [] w) (ts : List Nat) : Rep K B G H σ (wipeT δ ts) [] [] w := ⟨r.sub, r.out, by rw [wipeT_len]; exact r.len, fun i s h => by
  rcases wipeT_get h with rfl | h
  · trivial
  · exact r.sl i s h, rfl, fun j v q hv => by simp at hv, r.bs⟩
theorem Stp.wipe {G H G' H' : Hp} {w w' : Addr → Option Nat} {δ δ' : List Sl} (s : Stp B.T G H w δ G' H' w' δ') (ts : List Nat) : Stp B.T G H w δ G' H' w' (wipeT δ' ts) := ⟨s.g, s.b, s.n, s.p, fun i o h => by
  obtain ⟨o', h'⟩ := s.pn i o h
  exact ⟨o', wipeT_pin h' ts⟩, s.t, s.q⟩
/-- turn by turn, by a word I; ts: the slots that no later turn reads -/
def loopI (step : PyData → PSx) (ts : List Nat) (E : PEn) (ds : List PyData) (δ : List Sl) : Prop := ∃ I : Nat → List Sl → Prop, I 0 δ ∧
  (∀ (i : Nat) d δ, ds[i]? = some d → I i δ → step d ⟨fun δ' => I (i + 1) (wipeT δ' ts), E.rt, fun δ' => E.nx (wipeT δ' ts), fun δ' => I (i + 1) (wipeT δ' ts)⟩ δ) ∧ ∀ δ, I ds.length δ → E.nx δ
def pFor (ts : List Nat) (it : PIx) (g : PGx) (body : PSx) : PSx := fun E δ => it δ fun ds δ1 => loopI (fun d E δ => g d δ fun δ' => body E δ') ts E ds (wipeT δ1 ts)
theorem Rep.res {K : PySem.W.Frag} {G H H2 : Hp} {σ : St} {δ : List Sl} {vs : List V} {rs : List R} {w : Addr → Option Nat} {x : V} {d : PyData} (r : Rep K B G H σ δ vs rs w) (h : Res K G H x H2 d) : ∃ G2, Stp B.T G H w δ G2 H2 w δ ∧ Rep K B G2 H2 σ δ vs rs w ∧ Dq K G2 x d := by
  rcases h with ⟨rfl, h⟩ | ⟨p, us, l, rfl, hp, rfl, hd, rfl⟩
  · exact ⟨G, .refl, r, h⟩
  · obtain ⟨s1, r1⟩ := r.lay (o := .tup us) hp
    exact ⟨_, s1, r1, dq_newTup r.sub hp hd⟩
theorem js_for {iter : Expr} {body : List Stmt} {pi : PIx} {ts ts' : List Nat} {g : PGx} {pb : PSx} (hp : PassesOwn (model X.prog X.w) X.A X.env X.xe) (hc : X.calm = true) (hi : JI X B tg iter pi) (hg : JG X B tg ts' g) (hb : JSs X B body pb)
    (hs : ∀ x, foldedSetIterable iter X.env x = pure x := by intro _; rfl) : JS X B (.For tg iter body [] pos) (pFor ts pi g pb) := by
  refine PS_wk (ps_for hp hc hi hg hb (by assumption)) fun D σ H ⟨G, w, δ, E, rep, h, ek⟩ => ?_
  refine ⟨G, w, δ, _, rep, h, fun ds δ1 J H1 G1 w1 q1 s1 rep1 itd => ?_⟩
  obtain ⟨I, i0, is, ie⟩ := q1
  refine ⟨fun i m σ' H' => m = ds.length - i ∧ i ≤ ds.length ∧ ∃ G' w' δ', Stp B.T G H w δ G' H' w' δ' ∧ Same G1 G' ∧ Rep X.K B G' H' σ' δ' [] [] w' ∧ Pin σ δ σ' ∧ I i δ', ⟨ds.length, rfl, Nat.zero_le _, G1, w1, _, s1.wipe ts, fun _ _ h => h, rep1.wipe ts, .refl, i0⟩, ?_⟩
  rintro i m σ' H' ⟨rfl, hi, G', w', δ', st, sg, rp, pn, q⟩
  by_cases hlt : i < ds.length
  · have q := is i _ δ' (List.getElem?_eq_getElem hlt) q
    refine .inr ⟨itd.go G' H' i sg rp.sub hlt, fun σ2 H2 => i + 1 ≤ ds.length ∧ ∃ G' w' δ', Stp B.T G H w δ G' H2 w' δ' ∧ Same G1 G' ∧ Rep X.K B G' H2 σ2 δ' [] [] w' ∧ Pin σ δ σ2 ∧ I (i + 1) δ', fun σ2 H2 z => ⟨ds.length - (i + 1), by omega, rfl, z⟩, fun x H2 y => ?_⟩
    obtain ⟨d, hd, res⟩ := itd.yld G' H' i x H2 sg rp.sub hlt y
    rw [List.getElem?_eq_getElem hlt] at hd
    cases hd
    obtain ⟨G2, s2, r2, hq⟩ := rp.res res
    refine ⟨G2, w', δ', _, _, r2, hq, q, fun δ3 σ3 H3 G3 w3 q3 s3 r3 p3 _ => ⟨G3, w3, δ3, _, r3, q3, ?_⟩⟩
    have st3 := (st.trans s2).trans s3
    have pn3 : Pin σ δ σ3 := pn.trans (st.trans s2).pn p3
    have nx : ∀ δ4 σ4 H4 G4 w4, I (i + 1) (wipeT δ4 ts) → Stp B.T G3 H3 w3 δ3 G4 H4 w4 δ4 → Rep X.K B G4 H4 σ4 δ4 [] [] w4 → Pin σ3 δ3 σ4 → i + 1 ≤ ds.length ∧ ∃ G' w' δ', Stp B.T G H w δ G' H4 w' δ' ∧ Same G1 G' ∧ Rep X.K B G' H4 σ4 δ' [] [] w' ∧ Pin σ δ σ4 ∧ I (i + 1) δ' :=
      fun δ4 σ4 H4 G4 w4 hl s4 r4 p4 => ⟨hlt, G4, w4, _, (st3.trans s4).wipe ts, fun a o ha => s4.g a o (s3.g a o (s2.g a o (sg a o ha))), r4.wipe ts, pn3.trans st3.pn p4, hl⟩
    exact ⟨nx, (ek.later st3 pn3).rt, fun δ4 σ4 H4 G4 w4 hl s4 r4 p4 => ek.nx _ σ4 H4 G4 w4 hl ((st3.trans s4).wipe ts) (r4.wipe ts) (pn3.trans st3.pn p4), nx⟩
  · have ei : i = ds.length := by omega
    subst ei
    exact .inl ⟨itd.stop G' H' sg rp.sub, ek.nx δ' σ' H' G' w' (ie δ' q) st rp pn⟩
/-- while: by a word and a number that falls -/
def pWhile (ts : List Nat) (c : PB) (body : PSx) : PSx := fun E δ => ∃ I : Nat → List Sl → Prop, (∃ m, I m (wipeT δ ts)) ∧ ∀ m δ, I m δ → c δ fun t δ1 => if t = true then body ⟨fun δ' => ∃ m', m' < m ∧ I m' (wipeT δ' ts), E.rt, fun δ' => E.nx (wipeT δ' ts), fun δ' => ∃ m', m' < m ∧ I m' (wipeT δ' ts)⟩ δ1 else E.nx δ1
theorem js_while {c : Expr} {body : List Stmt} {ts : List Nat} {pc : PB} {pb : PSx} (hp : PassesOwn (model X.prog X.w) X.A X.env X.xe) (hc : JB X B c pc) (hb : JSs X B body pb) : JS X B (.While c body [] pos) (pWhile ts pc pb) := by
  refine PS_wk (ps_while hp hc hb) fun D σ H ⟨G, w, δ, E, rep, ⟨I, ⟨n, h⟩, is⟩, ek⟩ => ?_
  refine ⟨fun m σ' H' => ∃ G' w' δ', Stp B.T G H w δ G' H' w' δ' ∧ Rep X.K B G' H' σ' δ' [] [] w' ∧ Pin σ δ σ' ∧ I m δ', ⟨n, G, w, _, (Stp.refl (δ := δ)).wipe ts, rep.wipe ts, .refl, h⟩, ?_⟩
  rintro m σ' H' ⟨G', w', δ', st, rp, pn, q⟩
  refine ⟨G', w', δ', _, rp, is m δ' q, fun t δ1 H1 G1 w1 q1 s1 rep1 => ?_⟩
  cases t with
  | false => exact ek.nx δ1 σ' H1 G1 w1 q1 (st.trans s1) rep1 pn
  | true =>
    refine ⟨fun σ2 H2 => ∃ m', m' < m ∧ ∃ G' w' δ', Stp B.T G H w δ G' H2 w' δ' ∧ Rep X.K B G' H2 σ2 δ' [] [] w' ∧ Pin σ δ σ2 ∧ I m' δ', fun σ2 H2 z => z, G1, w1, δ1, _, rep1, q1, ?_⟩
    have st3 := st.trans s1
    have nx : ∀ δ4 σ4 H4 G4 w4, (∃ m', m' < m ∧ I m' (wipeT δ4 ts)) → Stp B.T G1 H1 w1 δ1 G4 H4 w4 δ4 → Rep X.K B G4 H4 σ4 δ4 [] [] w4 → Pin σ' δ1 σ4 → ∃ m', m' < m ∧ ∃ G' w' δ', Stp B.T G H w δ G' H4 w' δ' ∧ Rep X.K B G' H4 σ4 δ' [] [] w' ∧ Pin σ δ σ4 ∧ I m' δ' :=
      fun δ4 σ4 H4 G4 w4 ⟨m', hm, hl⟩ s4 r4 p4 => ⟨m', hm, G4, w4, _, (st3.trans s4).wipe ts, r4.wipe ts, pn.trans st3.pn p4, hl⟩
    exact ⟨nx, (ek.later st3 pn).rt, fun δ4 σ4 H4 G4 w4 hl s4 r4 p4 => ek.nx _ σ4 H4 G4 w4 hl ((st3.trans s4).wipe ts) (r4.wipe ts) (pn.trans st3.pn p4), nx⟩
end
end Pv
namespace Pv
open PySem PySem.Spec L2 Wf
variable {B : Bas}
theorem RR.noAt {K : PySem.W.Frag} {G H : Hp} {σ σ' : St} {m : Addr → Prop} {v : V} {r : R} (h : RR K G H σ m v r) (n : isAt r = false) : RR K G H σ' m v r := by
  cases r with
  | im d => exact h
  | ow o => exact h
  | «at» i => cases n
theorem Rep.reσ {K : PySem.W.Frag} {G H : Hp} {σ σ' : St} {δ δ' : List Sl} {vs : List V} {rs : List R} {w : Addr → Option Nat} (r : Rep K B G H σ δ vs rs w) (hl : σ'.length = δ'.length) (hs : ∀ (i : Nat) s, δ'[i]? = some s → s = .un ∨ (δ[i]? = some s ∧ σ'[i]? = σ[i]?)) (hn : ∀ q ∈ rs, isAt q = false) : Rep K B G H σ' δ' vs rs w where
  sub := r.sub
  out := r.out
  len := hl
  sl := fun i s h => by
    rcases hs i s h with rfl | ⟨h1, h2⟩
    · trivial
    · rw [h2]; exact r.sl i s h1
  tlen := r.tlen
  tm := fun j v q hv hq => (r.tm j v q hv hq).noAt (hn q (List.mem_of_getElem? hq))
  bs := r.bs
/-- the frame where slots were stored to -/
theorem Rep.frameS {K : PySem.W.Frag} {G H G' H' : Hp} {σ σ' : St} {δ δ' : List Sl} {vs vs1 : List V} {rs rs1 : List R} {w w' : Addr → Option Nat} (r : Rep K B G H σ δ vs rs w) (hn : ∀ q ∈ rs, isAt q = false) (s : Stp B.T G H (fun a => evn (w a)) δ G' H' w' δ') (r' : Rep K B G' H' σ' δ' vs1 rs1 w') :
    ∃ w2, Stp B.T G H w δ G' H' w2 δ' ∧ Rep K B G' H' σ' δ' (vs ++ vs1) (rs ++ rs1) w2 := by
  -- the same addresses
  have odd : ∀ a n, w a = some n → n % 2 = 1 → w' a = none := fun a n h ho => by
    have e0 : evn (w a) = none := by
      cases e : evn (w a) with
      | none => rfl
      | some m =>
        have := evn_some.mp e
        rw [h] at this
        have z := this.1
        cases z
        omega
    obtain ⟨g0, h0, n0⟩ := r.out a n h
    cases e : w' a with
    | none => rfl
    | some i =>
      rcases s.n a i e with z | z
      · exact absurd e0 z
      · exact absurd z h0
  have evw : ∀ a i, w' a = some i → ∀ n, w a = some n → n % 2 = 0 := fun a i h n hn => by
    by_cases ho : n % 2 = 1
    · rw [odd a n hn ho] at h; cases h
    · omega
  have st : Stp B.T G H w δ G' H' (both rs.length w w') δ' := by
    refine ⟨s.g, fun a o hw ha => s.b a o (by show evn (w a) = none; rw [hw]; rfl) ha, fun a i h => ?_, fun a o h => ?_, s.pn, s.t, s.q⟩
    · cases e : w a with
      | some n => exact .inl (Option.some_ne_none _)
      | none =>
        have e1 : both rs.length w w' a = shf rs.length (w' a) := both_evn fun n hn => by rw [e] at hn; cases hn
        rw [e1] at h
        obtain ⟨m, hm, _⟩ := shf_some h
        rcases s.n a m hm with z | z
        · have z' := evn_ne z
          rw [e] at z'
          exact .inl z'
        · exact .inr z
    · rcases s.p a o h with z | z | z | z
      · exact .inl z
      · exact .inr (.inl z)
      · exact .inr (.inr (.inl (evn_ne z)))
      · exact .inr (.inr (.inr z))
  refine ⟨both rs.length w w', st, r'.sub, fun a i h => ?_, r'.len, fun i sl h => ?_, by rw [List.length_append, List.length_append, r.tlen, r'.tlen], fun j v q hv hr => ?_, st.bs r.bs⟩
  · by_cases ho : ∃ n, w a = some n ∧ n % 2 = 1
    · obtain ⟨n, hn', ho⟩ := ho
      have e0 : evn (w a) = none := by
        rw [hn']
        unfold evn
        dsimp only
        rw [if_neg (by omega)]
      obtain ⟨g0, h0, n0⟩ := r.out a n hn'
      refine ⟨?_, s.nn a e0 h0 n0⟩
      cases e3 : G' a with
      | none => rfl
      | some o =>
        rcases s.p a o e3 with z | z | z | ⟨xs, z⟩
        · rw [g0] at z; cases z
        · exact absurd z h0
        · exact absurd e0 z
        · exact absurd z (n0 xs)
    · have e1 : both rs.length w w' a = shf rs.length (w' a) := both_evn fun n hn => by
        by_cases z : n % 2 = 1
        · exact absurd ⟨n, hn, z⟩ ho
        · omega
      rw [e1] at h
      obtain ⟨m, hm, _⟩ := shf_some h
      exact r'.out a m hm
  · refine (r'.sl i sl h).mono (fun _ _ h => h) (fun _ _ _ h => h) fun a u ma _ => ?_
    rw [both_evn (evw a _ ma)]
    unfold shf
    rw [ma]
    dsimp only
    rw [if_pos (by omega)]
  · by_cases hj : j < vs.length
    · rw [List.getElem?_append_left hj] at hv
      rw [List.getElem?_append_left (by rw [← r.tlen]; exact hj)] at hr
      refine ((r.tm j v q hv hr).noAt (σ' := σ') (hn q (List.mem_of_getElem? hr))).monoN s.g (fun a u hnt ma hu => ?_) fun a u ma _ => both_odd ma (by omega)
      refine s.bN a u hnt ?_ hu
      show evn (w a) = none
      rw [ma]
      unfold evn
      dsimp only
      rw [if_neg (by omega)]
    · have hj : vs.length ≤ j := by omega
      rw [List.getElem?_append_right hj] at hv
      rw [List.getElem?_append_right (by rw [← r.tlen]; exact hj), ← r.tlen] at hr
      refine (r'.tm (j - vs.length) v q hv hr).mono (fun _ _ h => h) (fun _ _ _ h => h) fun a u ma _ => ?_
      rw [both_evn (evw a _ ma)]
      unfold shf
      rw [ma]
      dsimp only
      rw [if_neg (by omega), r.tlen.symm]
      congr 1
      omega
/-! ### comprehensions -/
def wipeS (δ : List Sl) : List Nat → List Sl
  | [] => δ
  | v :: vs => (wipeS δ vs).set v .un
def noPin (δ : List Sl) (vs : List Nat) : Prop := ∀ v ∈ vs, ∀ o, δ[v]? ≠ some (.ow true o)
def restS (δ0 δ : List Sl) : List Nat → List Sl
  | [] => δ
  | v :: vs => match δ0[v]? with
    | some (.im d) => (restS δ0 δ vs).set v (.im d)
    | _ => (restS δ0 δ vs).set v .un
theorem wipeS_len (δ : List Sl) : ∀ vs, (wipeS δ vs).length = δ.length
  | [] => rfl
  | v :: vs => by unfold wipeS; rw [List.length_set, wipeS_len δ vs]
theorem wipeS_get {δ : List Sl} {i : Nat} {s : Sl} : ∀ {vs : List Nat}, (wipeS δ vs)[i]? = some s → s = .un ∨ (δ[i]? = some s ∧ i ∉ vs)
  | [], h => .inr ⟨h, by simp⟩
  | v :: vs, h => by
    unfold wipeS at h
    by_cases hi : v = i
    · subst hi
      by_cases hv : v < (wipeS δ vs).length
      · rw [List.getElem?_set_self hv] at h; cases h; exact .inl rfl
      · rw [List.getElem?_eq_none (by simpa using hv)] at h; cases h
    · rw [List.getElem?_set_ne hi] at h
      rcases wipeS_get h with e | ⟨h1, h2⟩
      · exact .inl e
      · exact .inr ⟨h1, by simp only [List.mem_cons, not_or]; exact ⟨fun e => hi e.symm, h2⟩⟩
theorem wipeS_ne {δ : List Sl} {i : Nat} : ∀ {vs : List Nat}, i ∉ vs → (wipeS δ vs)[i]? = δ[i]?
  | [], _ => rfl
  | v :: vs, h => by
    simp only [List.mem_cons, not_or] at h
    unfold wipeS
    rw [List.getElem?_set_ne (Ne.symm h.1)]
    exact wipeS_ne h.2
theorem wipe_ne {σ : St} {i : Nat} : ∀ {vs : List Nat}, i ∉ vs → (wipe σ vs)[i]? = σ[i]?
  | [], _ => rfl
  | v :: vs, h => by
    simp only [List.mem_cons, not_or] at h
    unfold wipe
    rw [List.getElem?_set_ne (Ne.symm h.1)]
    exact wipe_ne h.2
theorem wipe_in {σ : St} {i : Nat} : ∀ {vs : List Nat}, i ∈ vs → i < σ.length → (wipe σ vs)[i]? = some none
  | [], h, _ => by cases h
  | v :: vs, h, hl => by
    unfold wipe
    by_cases e : v = i
    · subst e
      rw [List.getElem?_set_self (by rw [wipe_length]; exact hl)]
    · rw [List.getElem?_set_ne e]
      rcases List.mem_cons.mp h with z | z
      · exact absurd z.symm e
      · exact wipe_in z hl
theorem wipe_eq {σ σ' : St} {vs ts : List Nat} (t : Tch ts (wipe σ vs) σ') (h : ∀ i ∈ ts, i ∈ vs) : wipe σ' vs = wipe σ vs := by
  have hl : σ'.length = σ.length := by rw [t.1, wipe_length]
  apply List.ext_getElem?
  intro i
  by_cases hi : i ∈ vs
  · by_cases hb : i < σ.length
    · rw [wipe_in hi hb, wipe_in hi (by omega)]
    · rw [List.getElem?_eq_none (by rw [wipe_length]; omega), List.getElem?_eq_none (by rw [wipe_length]; omega)]
  · rw [wipe_ne hi, wipe_ne hi, t.2 i fun z => hi (h i z), wipe_ne hi]
theorem restS_ne {δ0 δ : List Sl} {i : Nat} : ∀ {vs : List Nat}, i ∉ vs → (restS δ0 δ vs)[i]? = δ[i]?
  | [], _ => rfl
  | v :: vs, h => by
    simp only [List.mem_cons, not_or] at h
    unfold restS
    split
    · rw [List.getElem?_set_ne (Ne.symm h.1)]; exact restS_ne h.2
    · rw [List.getElem?_set_ne (Ne.symm h.1)]; exact restS_ne h.2
theorem restS_len {δ0 δ : List Sl} : ∀ vs, (restS δ0 δ vs).length = δ.length
  | [] => rfl
  | v :: vs => by
    unfold restS
    split
    · rw [List.length_set, restS_len vs]
    · rw [List.length_set, restS_len vs]
theorem restS_in {δ0 δ : List Sl} {i : Nat} {s : Sl} : ∀ {vs : List Nat}, i ∈ vs → (restS δ0 δ vs)[i]? = some s → s = .un ∨ ∃ d, s = .im d ∧ δ0[i]? = some (.im d)
  | [], h, _ => by cases h
  | v :: vs, h, hs => by
    unfold restS at hs
    by_cases e : v = i
    · subst e
      revert hs
      split
      · rename_i d e0
        intro hs
        by_cases hb : v < (restS δ0 δ vs).length
        · rw [List.getElem?_set_self hb] at hs; cases hs; exact .inr ⟨d, rfl, e0⟩
        · rw [List.getElem?_eq_none (by simpa using hb)] at hs; cases hs
      · intro hs
        by_cases hb : v < (restS δ0 δ vs).length
        · rw [List.getElem?_set_self hb] at hs; cases hs; exact .inl rfl
        · rw [List.getElem?_eq_none (by simpa using hb)] at hs; cases hs
    · have hm : i ∈ vs := by
        rcases List.mem_cons.mp h with z | z
        · exact absurd z.symm e
        · exact z
      revert hs
      split
      · intro hs; rw [List.getElem?_set_ne e] at hs; exact restS_in hm hs
      · intro hs; rw [List.getElem?_set_ne e] at hs; exact restS_in hm hs
/-- turn by turn, by a word I over what is made so far -/
def compI (g : PGx) (tt : PB) (elt : PX) (vs : List Nat) (Kk : List PyData → List Sl → Prop) (ds : List PyData) (δ : List Sl) : Prop := ∃ I : Nat → List PyData → List Sl → Prop, I 0 [] δ ∧
  (∀ (i : Nat) d acc δ, ds[i]? = some d → I i acc δ → g d δ fun δ2 => tt δ2 fun b δ3 => if b = true then elt δ3 fun r δ4 => ∃ e δ5, fz δ4 r = some (e, δ5) ∧ acc.length < sizeLine ∧ I (i + 1) (acc ++ [e]) (wipeS δ5 vs) else I (i + 1) acc (wipeS δ3 vs)) ∧ ∀ acc δ, I ds.length acc δ → Kk acc δ
def pComp (it : PIx) (g : PGx) (tt : PB) (elt : PX) (vs : List Nat) : PX := fun δ Q => it δ fun ds δ1 => noPin δ1 vs ∧ compI g tt elt vs (fun acc δ2 => Q (.ow (.lst acc)) (restS δ1 δ2 vs)) ds (wipeS δ1 vs)
def pYes : PB := fun δ Q => Q true δ
theorem Stp.reδ {G H G' H' : Hp} {w w' : Addr → Option Nat} {δ δ' δ2 : List Sl} (s : Stp B.T G H w δ G' H' w' δ') (p : Pn δ δ2) : Stp B.T G H w δ G' H' w' δ2 := ⟨s.g, s.b, s.n, s.p, p, s.t, s.q⟩
section
variable {K : PySem.W.Frag} {G H : Hp} {σ : St} {δ : List Sl} {vs : List V} {rs : List R} {w : Addr → Option Nat}
theorem Rep.wrT {D : Addr} {ds ds' : List PyData} {us' : List V} (r : Rep K B G H σ δ (.ref D :: vs) (.ow (.lst ds) :: rs) w) (hd : DqAll K G us' ds') :
    ∃ us, H D = some (.lst us) ∧ DqAll K G us ds ∧ Stp B.T G H w δ G (upd H D (.lst us')) w δ ∧ Rep K B G (upd H D (.lst us')) σ δ (.ref D :: vs) (.ow (.lst ds') :: rs) w := by
  obtain ⟨a, us, e, ma, ha, hus⟩ := r.tm 0 _ _ rfl rfl
  cases e
  have hw : w D = some 1 := ma
  have ne : ∀ x n, w x = some n → n ≠ 1 → x ≠ D := fun x n hx hn z => by subst z; rw [hw] at hx; cases hx; exact hn rfl
  have g0 := (r.out D _ hw).1
  have st : Stp B.T G H w δ G (upd H D (.lst us')) w δ := by
    refine .of ⟨fun _ _ h => h, fun x o hx ho => ?_, fun x n hx => .inl (by rw [hx]; exact Option.some_ne_none _), fun _ _ h => .inl h, .refl _⟩ (tabs_put ha)
    rw [upd_ne (fun z => by subst z; rw [hw] at hx; cases hx)]
    exact ho
  refine ⟨us, ha, hus, st, fun x o hx => ?_, fun x n hx => ?_, r.len, fun k s hk => ?_, r.tlen, fun j v q hv hq => ?_, st.bs r.bs⟩
  · have : x ≠ D := fun z => by subst z; rw [g0] at hx; cases hx
    rw [upd_ne this]
    exact r.sub x o hx
  · obtain ⟨h1, h2, h3⟩ := r.out x n hx
    by_cases e : x = D
    · subst e
      rw [upd_same]
      exact ⟨h1, Option.some_ne_none _, NoX.lst upd_same⟩
    · rw [upd_ne e]
      exact ⟨h1, h2, noT_upd e h3⟩
  · refine (r.sl k s hk).mono (fun _ _ h => h) (fun x u mx hu => ?_) fun x u mx _ => mx
    rw [upd_ne (ne x _ mx (by omega))]
    exact hu
  · match j with
    | 0 =>
      simp only [List.getElem?_cons_zero, Option.some.injEq] at hv hq
      subst hv hq
      exact ⟨D, us', rfl, hw, upd_same, hd⟩
    | j + 1 =>
      refine (r.tm (j + 1) v q (by simpa using hv) (by simpa using hq)).mono (fun _ _ h => h) (fun x u mx hu => ?_) fun x u mx _ => mx
      rw [upd_ne (ne x _ mx (by omega))]
      exact hu
theorem Rep.first {v : V} {q : R} (r : Rep K B G H σ δ (v :: vs) (q :: rs) w) : Rep K B G H σ δ [v] [q] w := ⟨r.sub, r.out, r.len, r.sl, rfl, fun j u p hu hp => by
  match j with
  | 0 => exact r.tm 0 u p (by simpa using hu) (by simpa using hp)
  | j + 1 => simp at hu, r.bs⟩
end
def JTs (X : Cx) (B : Bas) (ifs : List Expr) (p : PB) : Prop := PTs X ifs (LB X.K B p)
theorem PTs_wk {X : Cx} {ifs : List Expr} {t t' : TT} (h : PTs X ifs t) (k : ∀ σ H Q, t' σ H Q → t σ H Q) : PTs X ifs t' := ⟨fun pins s σ H Q I q => h.run pins s σ H Q I (k σ H Q q)⟩
theorem jts_nil {X : Cx} : JTs X B [] pYes := PTs_wk pts_nil fun σ H Q ⟨G, w, δ, Qp, rep, q, k⟩ => k true δ H G w q .refl rep
theorem jts_one {X : Cx} {c : Expr} {p : PB} (h : JB X B c p) : JTs X B [c] p := pts_one h
theorem lc_lift {K : PySem.W.Frag} {pi : PIx} {ts vs : List Nat} {g : PGx} {tt : PB} {elt : PX} {σ : St} {H : Hp} {Q : VK} (hts : ∀ i ∈ ts, i ∈ vs) (h : LE K B (pComp pi g tt elt vs) σ H Q) : tLc (LI K B pi) (LG K B ts g) (LB K B tt) (LE K B elt) vs σ H Q := by
  obtain ⟨G, w, δ, Qp, rep, q, k⟩ := h
  refine ⟨G, w, δ, _, rep, q, fun ds δ1 J H1 G1 w1 q1 s1 rep1 itd D hD => ?_⟩
  obtain ⟨np, I, i0, is, ie⟩ := q1
  obtain ⟨w2, s2, r2⟩ := rep1.retLst (us := []) (ds := []) hD .nil
  have noA : ∀ acc : List PyData, ∀ p ∈ [R.ow (.lst acc)], isAt p = false := fun acc p hp => by rw [List.mem_singleton.mp hp]; rfl
  have ni : ∀ (i : Nat) o, δ[i]? = some (Sl.ow true o) → i ∉ vs := fun i o hi => by
    obtain ⟨o1, h1⟩ := s1.pn i o hi
    exact fun z => np i z o1 h1
  have pnw : ∀ {G' H' : Hp} {w' : Addr → Option Nat} {δ' : List Sl}, Stp B.T G H w δ G' H' w' δ' → Stp B.T G H w δ G' H' w' (wipeS δ' vs) := fun s => s.reδ fun i o hi => by
    obtain ⟨o1, h1⟩ := s.pn i o hi
    exact ⟨o1, by rw [wipeS_ne (ni i o hi)]; exact h1⟩
  refine ⟨fun i m H' => m = ds.length - i ∧ i ≤ ds.length ∧ ∃ G' w' δ' acc, Stp B.T G H w δ G' H' w' δ' ∧ Same G1 G' ∧ Rep K B G' H' (wipe σ vs) δ' [.ref D] [.ow (.lst acc)] w' ∧ I i acc δ', ⟨ds.length, rfl, Nat.zero_le _, G1, w2, wipeS δ1 vs, [], pnw (s1.trans s2), fun _ _ h => h, r2.reσ (by rw [wipe_length, wipeS_len]; exact r2.len) (fun i s hi => ?_) (noA _), i0⟩, ?_⟩
  · rcases wipeS_get hi with e | ⟨e1, e2⟩
    · exact .inl e
    · exact .inr ⟨e1, wipe_ne e2⟩
  rintro i m H' ⟨rfl, hi, G', w', δ', acc, st, sg, rp, q⟩
  by_cases hlt : i < ds.length
  · have q := is i _ acc δ' (List.getElem?_eq_getElem hlt) q
    refine .inr ⟨itd.go G' H' i sg rp.sub hlt, fun H2 => i + 1 ≤ ds.length ∧ ∃ G' w' δ' acc, Stp B.T G H w δ G' H2 w' δ' ∧ Same G1 G' ∧ Rep K B G' H2 (wipe σ vs) δ' [.ref D] [.ow (.lst acc)] w' ∧ I (i + 1) acc δ', fun H2 z => ⟨ds.length - (i + 1), by omega, rfl, z⟩, fun x H2 y => ?_⟩
    obtain ⟨d, hd, res⟩ := itd.yld G' H' i x H2 sg rp.sub hlt y
    rw [List.getElem?_eq_getElem hlt] at hd
    cases hd
    obtain ⟨G2, s2, r2, hq⟩ := rp.res res
    refine ⟨G2, _, δ', _, _, r2.drop, hq, q, fun δ3 σ3 H3 G3 w3 q3 s3 r3 p3 t3 => ⟨wipe_eq t3 hts, ?_⟩⟩
    obtain ⟨w4, s4, r4⟩ := r2.frameS (noA _) s3 r3
    have back : ∀ {G9 H9 : Hp} {w9 : Addr → Option Nat} {δ9 : List Sl} {acc9 : List PyData}, Rep K B G9 H9 σ3 δ9 [.ref D] [.ow (.lst acc9)] w9 → Rep K B G9 H9 (wipe σ vs) (wipeS δ9 vs) [.ref D] [.ow (.lst acc9)] w9 := fun {G9 H9 w9 δ9 acc9} r9 => by
      refine r9.reσ ?_ (fun k s hk => ?_) (noA _)
      · rw [wipe_length, wipeS_len, ← r9.len, t3.1, wipe_length]
      · rcases wipeS_get hk with e | ⟨e1, e2⟩
        · exact .inl e
        · exact .inr ⟨e1, (t3.2 k fun z => e2 (hts k z)).symm⟩
    refine ⟨G3, _, δ3, _, r4.drop, q3, fun b δ5 H5 G5 w5 q5 s5 r5 => ?_⟩
    obtain ⟨w6, s6, r6⟩ := r4.frame s5 r5
    have st6 := ((st.trans s2).trans s4).trans s6
    have sg6 : Same G1 G5 := fun a o ha => s6.g a o (s4.g a o (s2.g a o (sg a o ha)))
    cases b with
    | false => exact ⟨hlt, G5, w6, _, acc, pnw st6, sg6, back r6, q5⟩
    | true =>
      refine ⟨G5, _, δ5, _, r6.drop, q5, fun r δ7 y H7 G7 w7 q7 s7 r7 => ?_⟩
      obtain ⟨w8, s8, r8⟩ := r6.frame s7 r7
      obtain ⟨e, δ9, hz, hl, q7⟩ := q7
      obtain ⟨G9, w9, s9, r9⟩ := r8.fz1 (j := 1) rfl rfl hz
      have r9' : Rep K B G9 H7 σ3 δ9 [.ref D, y] [.ow (.lst acc), .im e] w9 := r9
      have hy : Dq K G9 y e := r9'.tm 1 y (.im e) rfl rfl
      obtain ⟨a, us, ea, ma, ha, hus⟩ := r9'.tm 0 (.ref D) (.ow (.lst acc)) rfl rfl
      cases ea
      obtain ⟨us2, h2, h3, s10, r10⟩ := r9'.wrT (dqAll_append hus (.cons hy .nil))
      refine ⟨us, ha, by rw [dqAll_len hus]; exact hl, hlt, G9, w9, _, acc ++ [e], pnw (((st6.trans s8).trans s9).trans s10), fun a o h => s9.g a o (s8.g a o (sg6 a o h)), back r10.first, q7⟩
  · have ei : i = ds.length := by omega
    subst ei
    refine .inl ⟨itd.stop G' H' sg rp.sub, k _ _ _ H' G' w' (ie acc δ' q) (st.reδ fun j o hj => ?_) ⟨rp.sub, rp.out, by rw [restS_len, ← rp.len, wipe_length], fun j s hj => ?_, rp.tlen, fun j v p hv hp => (rp.tm j v p hv hp).noAt (noA _ p (List.mem_of_getElem? hp)), rp.bs⟩⟩
    · obtain ⟨o1, h1⟩ := st.pn j o hj
      exact ⟨o1, by rw [restS_ne (ni j o hj)]; exact h1⟩
    · by_cases hm : j ∈ vs
      · rcases restS_in hm hj with rfl | ⟨d, rfl, e0⟩
        · trivial
        · obtain ⟨v, hv, hd⟩ := rep1.sl j _ e0
          exact ⟨v, hv, dp_mono sg _ _ hd⟩
      · rw [restS_ne hm] at hj
        have := rp.sl j s hj
        rwa [wipe_ne hm] at this
section
variable {X : Cx}
theorem je_lc {elt tg iter : Expr} {ifs : List Expr} {scope : Scope} {own : List (Str × Nat)} {pos : Pos} {pi : PIx} {ts : List Nat} {g : PGx} {tt : PB} {pe : PX} (hc : X.calm = true) (hN : X.N.Nodup) (hi : JI X B tg iter pi) (ok : BlkOk X.N X.env.scope scope own)
    (hg : ∀ (s : Shared) (H : Hp) (C : Addr) (cl : List (Str × Addr)) (fp : List Addr), JG (X.blk s H scope (compEnvC scope cl C X.env) fp) B tg ts g) (ht : ∀ (s : Shared) (H : Hp) (C : Addr) (cl : List (Str × Addr)) (fp : List Addr), JTs (X.blk s H scope (compEnvC scope cl C X.env) fp) B ifs tt)
    (he : ∀ (s : Shared) (H : Hp) (C : Addr) (cl : List (Str × Addr)) (fp : List Addr), JE (X.blk s H scope (compEnvC scope cl C X.env) fp) B elt pe) (hts : ∀ i ∈ ts, i ∈ own.map (·.2) := by decide) (hs : ∀ x, foldedSetIterable iter X.env x = pure x := by intro _; rfl) :
    JE X B (.ListComp elt [⟨tg, iter, ifs, 0⟩] scope pos) (pComp pi g tt pe (own.map (·.2))) := PE_wk (pe_lc (g := LG X.K B ts g) (tt := LB X.K B tt) (te := LE X.K B pe) hc hN hi ok hg ht he hs) fun σ H Q h => lc_lift hts h
theorem js_setLc {i : Nat} {y : Str} {py : Pos} {elt tg iter : Expr} {ifs : List Expr} {scope : Scope} {own : List (Str × Nat)} {pos spos : Pos} {pi : PIx} {ts : List Nat} {g : PGx} {tt : PB} {pe : PX} (hc : X.calm = true) (hN : X.N.Nodup) (hy : X.N[i]? = some y) (hyl : X.env.scope.names.lookup y = some .local)
    (hsw : swapsWith (.ListComp elt [⟨tg, iter, ifs, 0⟩] scope pos) (some (.Name y py)) spos.line X.env = pure true) (hi : JI X B tg iter pi) (ok : BlkOk X.N X.env.scope scope own)
    (hg : ∀ (s : Shared) (H : Hp) (C : Addr) (cl : List (Str × Addr)) (fp : List Addr), JG (X.blk s H scope (compEnvC scope cl C X.env) fp) B tg ts g) (ht : ∀ (s : Shared) (H : Hp) (C : Addr) (cl : List (Str × Addr)) (fp : List Addr), JTs (X.blk s H scope (compEnvC scope cl C X.env) fp) B ifs tt)
    (he : ∀ (s : Shared) (H : Hp) (C : Addr) (cl : List (Str × Addr)) (fp : List Addr), JE (X.blk s H scope (compEnvC scope cl C X.env) fp) B elt pe) (hts : ∀ i ∈ ts, i ∈ own.map (·.2) := by decide) (hs : ∀ x, foldedSetIterable iter X.env x = pure x := by intro _; rfl) :
    JS X B (.Assign [.Name y py] (.ListComp elt [⟨tg, iter, ifs, 0⟩] scope pos) spos) (pSet i (pComp pi g tt pe (own.map (·.2)))) := PS_wk (ps_setLc (g := LG X.K B ts g) (tt := LB X.K B tt) (te := LE X.K B pe) hc hN hy hyl hsw hi ok hg ht he hs) fun D σ H h => lc_lift hts (set_lift h)
end
end Pv
namespace Pv
open PySem PySem.Spec L2 Wf
variable {B : Bas}
/-! ### defs -/
abbrev EX := Addr → List (Str × PyData) → Prop
/-- what a def does: its arguments (data, or a thing of the caller's), what is told and how these things stand then; what is raised -/
abbrev PSp := List Sl → QE → EX → Prop
/-- no tables -/
def nTb : Option HO → Option HO
  | some (.tbl _) => none
  | o => o
theorem nTb_some {x : Option HO} {o : HO} (h : nTb x = some o) : x = some o ∧ NT o := by
  cases x with
  | none => cases h
  | some u => cases u <;> first | (cases h; done) | exact ⟨h, fun ps z => by subst z; cases h⟩
theorem nTb_of {x : Option HO} {o : HO} (h : x = some o) (n : NT o) : nTb x = some o := by
  subst h
  cases o <;> first | rfl | exact absurd rfl (n _)
def B0h (H : Hp) (w : Addr → Option Nat) : Hp := fun a => match w a with
  | none => nTb (H a)
  | some _ => none
def B0 (T : List NdefX.NTab) (H : Hp) (w : Addr → Option Nat) : Bas := ⟨B0h H w, H, T⟩
theorem B0_some {T : List NdefX.NTab} {H : Hp} {w : Addr → Option Nat} {a : Addr} {o : HO} (h : B0 T H w a = some o) : H a = some o ∧ w a = none ∧ NT o := by
  have h : B0h H w a = some o := h
  unfold B0h at h
  split at h
  · rename_i e
    obtain ⟨h1, h2⟩ := nTb_some h
    exact ⟨h1, e, h2⟩
  · cases h
/-- an error's fields, as they stand -/
inductive FlP (K : PySem.W.Frag) (H : Hp) : List (Str × V) → List (Str × PyData) → Prop
  | nil : FlP K H [] []
  | cons {x : Str} {v : V} {d : PyData} {us : List (Str × V)} {fs : List (Str × PyData)} : Dp K H v d → noL d = true → FlP K H us fs → FlP K H ((x, v) :: us) ((x, d) :: fs)
/-- what is wanted of an error that leaves -/
def XOk (K : PySem.W.Frag) (B : Bas) (Ep : EX) (E : XK) : Prop := ∀ C fs us d H', Ep C fs → Same B.hp H' → TbG B.T B.ht H' → B d = none → H' d = some (.xd us) → FlP K H' us fs → E (.ref C) (some d) H'
def LSp (K : PySem.W.Frag) (T : List NdefX.NTab) (ps : PSp) : Sp := fun vs H Q E => ∃ G w as Qp Ep, Rep K (B0 T H w) G H (vs.map some) as [] [] w ∧ (∀ s ∈ as, s = .un ∨ (∃ d, s = .im d) ∨ ∃ o, s = .ow true o) ∧ ps as Qp Ep ∧
  (∀ r δ' v H' G' w', Qp r δ' → isAt r = false → Stp T G H w as G' H' w' δ' → Rep K (B0 T H w) G' H' (vs.map some) δ' [v] [r] w' → Q v H') ∧ XOk K (B0 T H w) Ep E
def outs : List Sl → List Sl → List Sl
  | [], _ => []
  | .ow true _ :: as, d :: ds => d :: outs as ds
  | _ :: as, _ :: ds => .un :: outs as ds
  | _ :: as, [] => .un :: outs as []
theorem outs_len : ∀ (as ds : List Sl), (outs as ds).length = as.length
  | [], _ => rfl
  | .ow true _ :: as, d :: ds => by simp only [outs, List.length_cons, outs_len as ds]
  | .ow false _ :: as, d :: ds => by simp only [outs, List.length_cons, outs_len as ds]
  | .un :: as, d :: ds => by simp only [outs, List.length_cons, outs_len as ds]
  | .im _ :: as, d :: ds => by simp only [outs, List.length_cons, outs_len as ds]
  | .ex _ _ _ _ :: as, d :: ds => by simp only [outs, List.length_cons, outs_len as ds]
  | a :: as, [] => by
    have e : outs (a :: as) [] = .un :: outs as [] := by
      cases a with
      | un => rfl
      | im d => rfl
      | ex _ _ _ _ => rfl
      | ow b o => cases b <;> rfl
    rw [e, List.length_cons, List.length_cons, outs_len as []]
theorem outs_get : ∀ (as ds : List Sl) (i : Nat) {s : Sl}, (outs as ds)[i]? = some s → s = .un ∨ ((∃ o, as[i]? = some (.ow true o)) ∧ ds[i]? = some s)
  | [], _, _, s, h => by simp [outs] at h
  | .ow true o :: as, d :: ds, 0, s, h => by
    simp only [outs, List.getElem?_cons_zero, Option.some.injEq] at h
    exact .inr ⟨⟨o, rfl⟩, by simp [h]⟩
  | .ow true o :: as, d :: ds, i + 1, s, h => by
    rcases outs_get as ds i (by simpa [outs] using h) with e | ⟨⟨o', e1⟩, e2⟩
    · exact .inl e
    · exact .inr ⟨⟨o', by simpa using e1⟩, by simpa using e2⟩
  | .ow false o :: as, d :: ds, 0, s, h => by simp only [outs, List.getElem?_cons_zero, Option.some.injEq] at h; exact .inl h.symm
  | .un :: as, d :: ds, 0, s, h => by simp only [outs, List.getElem?_cons_zero, Option.some.injEq] at h; exact .inl h.symm
  | .im _ :: as, d :: ds, 0, s, h => by simp only [outs, List.getElem?_cons_zero, Option.some.injEq] at h; exact .inl h.symm
  | .ex _ _ _ _ :: as, d :: ds, 0, s, h => by simp only [outs, List.getElem?_cons_zero, Option.some.injEq] at h; exact .inl h.symm
  | .ow false o :: as, d :: ds, i + 1, s, h => by
    rcases outs_get as ds i (by simpa [outs] using h) with e | ⟨⟨o', e1⟩, e2⟩
    · exact .inl e
    · exact .inr ⟨⟨o', by simpa using e1⟩, by simpa using e2⟩
  | .un :: as, d :: ds, i + 1, s, h => by
    rcases outs_get as ds i (by simpa [outs] using h) with e | ⟨⟨o', e1⟩, e2⟩
    · exact .inl e
    · exact .inr ⟨⟨o', by simpa using e1⟩, by simpa using e2⟩
  | .im _ :: as, d :: ds, i + 1, s, h => by
    rcases outs_get as ds i (by simpa [outs] using h) with e | ⟨⟨o', e1⟩, e2⟩
    · exact .inl e
    · exact .inr ⟨⟨o', by simpa using e1⟩, by simpa using e2⟩
  | .ex _ _ _ _ :: as, d :: ds, i + 1, s, h => by
    rcases outs_get as ds i (by simpa [outs] using h) with e | ⟨⟨o', e1⟩, e2⟩
    · exact .inl e
    · exact .inr ⟨⟨o', by simpa using e1⟩, by simpa using e2⟩
  | a :: as, [], i, s, h => by
    have e : outs (a :: as) [] = .un :: outs as [] := by
      cases a with
      | un => rfl
      | im d => rfl
      | ex _ _ _ _ => rfl
      | ow b o => cases b <;> rfl
    rw [e] at h
    match i with
    | 0 => simp only [List.getElem?_cons_zero, Option.some.injEq] at h; exact .inl h.symm
    | i + 1 =>
      rcases outs_get as [] i (by simpa using h) with e | ⟨_, e2⟩
      · exact .inl e
      · simp at e2
theorem outs_own : ∀ (as ds : List Sl) (i : Nat) {o : O} {s : Sl}, as[i]? = some (.ow true o) → ds[i]? = some s → (outs as ds)[i]? = some s
  | [], _, _, _, _, h, _ => by simp at h
  | _ :: _, [], _, _, _, _, h => by simp at h
  | a :: as, d :: ds, 0, o, s, h, h2 => by
    simp only [List.getElem?_cons_zero, Option.some.injEq] at h h2
    subst h h2
    rfl
  | a :: as, d :: ds, i + 1, o, s, h, h2 => by
    have ih := outs_own as ds i (o := o) (s := s) (by simpa using h) (by simpa using h2)
    cases a with
    | un => simpa [outs] using ih
    | im d => simpa [outs] using ih
    | ex _ _ _ _ => simpa [outs] using ih
    | ow b o => cases b <;> simpa [outs] using ih
def endsP (as : List Sl) (Qp : QE) : PEn := { nx := fun δ => Qp (.im .none) (outs as δ), rt := fun r δ => Qp r (outs as δ) }
/-- a def's body keeps its promise -/
theorem fn_lift {K : PySem.W.Frag} {N : List Str} {ps : PSp} {p : EX → PSx} {vs : List V} {H : Hp} {Q : VK} {E : XK} {m : Nat} (hN : N.length = m) (hp : ∀ as Qp Ep, ps as Qp Ep → p Ep (endsP as Qp) (as ++ List.replicate (m - as.length) .un)) {T : List NdefX.NTab} (h : LSp K T ps vs H Q E) (hl : vs.length ≤ m) :
    ∃ (Bh Bt : Hp) (Ep : EX), XOk K ⟨Bh, Bt, T⟩ Ep E ∧ LS K ⟨Bh, Bt, T⟩ (p Ep) { nx := fun _ H' => Q .non H', rt := Q } (L2.start N vs) H := by
  obtain ⟨G, w, as, Qp, Ep, rep, hk, hps, k, x⟩ := h
  have la : vs.length = as.length := by have := rep.len; rwa [List.length_map] at this
  refine ⟨B0h H w, H, Ep, x, G, w, as ++ List.replicate (m - as.length) .un, endsP as Qp, ?_, hp as Qp Ep hps, ?_⟩
  · refine ⟨rep.sub, rep.out, ?_, fun i s hi => ?_, rfl, fun j v r hv => by simp at hv, rep.bs⟩
    · unfold L2.start
      rw [List.length_append, List.length_append, List.length_map, List.length_replicate, List.length_replicate, la, hN]
    · by_cases hi2 : i < as.length
      · rw [List.getElem?_append_left hi2] at hi
        have := rep.sl i s hi
        unfold L2.start
        rw [List.getElem?_append_left (by rw [List.length_map, la]; exact hi2)]
        exact this
      · rw [List.getElem?_append_right (by omega)] at hi
        have e : s = .un := by
          have := List.getElem?_eq_some_iff.mp hi
          obtain ⟨h1, h2⟩ := this
          simpa using h2.symm
        subst e
        trivial
  · have fin : ∀ (r : R) δ' v σ' H' G' w', isAt r = false → Stp T G H w (as ++ List.replicate (m - as.length) .un) G' H' w' δ' → Rep K (B0 T H w) G' H' σ' δ' [v] [r] w' → Pin (L2.start N vs) (as ++ List.replicate (m - as.length) .un) σ' →
        Stp T G H w as G' H' w' (outs as δ') ∧ Rep K (B0 T H w) G' H' (vs.map some) (outs as δ') [v] [r] w' := by
      intro r δ' v σ' H' G' w' hr st rp pn
      have inA : ∀ (i : Nat) o, as[i]? = some (Sl.ow true o) → (as ++ List.replicate (m - as.length) .un)[i]? = some (Sl.ow true o) := fun i o h => by
        rw [List.getElem?_append_left (List.getElem?_eq_some_iff.mp h).1]
        exact h
      refine ⟨⟨st.g, st.b, st.n, st.p, fun i o hi => ?_, st.t, st.q⟩, rp.sub, rp.out, by rw [outs_len, List.length_map, la], fun i s hi => ?_, rfl, fun j u q hu hq => ?_, rp.bs⟩
      · obtain ⟨o', ho'⟩ := st.pn i o (inA i o hi)
        exact ⟨o', outs_own as δ' i hi ho'⟩
      · rcases outs_get as δ' i hi with rfl | ⟨⟨o, e1⟩, e2⟩
        · trivial
        · have e3 := rp.sl i s e2
          have e4 := pn i o (inA i o e1)
          have hi2 : i < as.length := (List.getElem?_eq_some_iff.mp e1).1
          unfold L2.start at e4
          rw [List.getElem?_append_left (by rw [List.length_map, la]; exact hi2)] at e4
          rwa [e4] at e3
      · exact (rp.tm j u q hu hq).noAt (by
          match j with
          | 0 => simp only [List.getElem?_cons_zero, Option.some.injEq] at hq; rw [← hq]; exact hr
          | j + 1 => simp at hq)
    refine ⟨fun δ' σ' H' G' w' h st rp pn => ?_, fun r δ' v σ' H' G' w' h hr st rp pn => ?_, fun δ' σ' H' G' w' h => h.elim, fun δ' σ' H' G' w' h => h.elim⟩
    · obtain ⟨s1, r1⟩ := fin (.im .none) δ' .non σ' H' G' _ rfl (st.trans .drop) (rp.ret .non) pn
      exact k _ _ _ H' G' _ h rfl s1 r1
    · obtain ⟨s1, r1⟩ := fin r δ' v σ' H' G' w' hr st rp pn
      exact k _ _ _ H' G' w' h hr s1 r1
/-! ### calls -/
def argOf (δ : List Sl) : R → Option Sl
  | .im d => some (.im d)
  | .ow o => some (.ow true o)
  | .at i => match δ[i]? with
    | some (.im d) => some (.im d)
    | some (.ow _ o) => some (.ow true o)
    | _ => none
def argsOf (δ : List Sl) : List R → Option (List Sl)
  | [] => some []
  | r :: rs => match argOf δ r with
    | none => none
    | some a => match argsOf δ rs with
      | none => none
      | some as => some (a :: as)
/-- which slots are handed on -/
def atIx (δ : List Sl) : List R → List Nat
  | [] => []
  | .at i :: rs => match δ[i]? with
    | some (.ow _ _) => i :: atIx δ rs
    | _ => atIx δ rs
  | _ :: rs => atIx δ rs
def put1 (δ : List Sl) : R → Sl → List Sl
  | .at i, .ow true o => match δ[i]? with
    | some (.ow b _) => δ.set i (.ow b o)
    | _ => δ
  | _, _ => δ
def putB (δ : List Sl) : List R → List Sl → List Sl
  | [], _ => δ
  | _ :: _, [] => δ
  | r :: rs, s :: ss => putB (put1 δ r s) rs ss
def pCall (ps : PSp) (pa : PL) (Ep : EX) : PX := fun δ Q => pa δ fun rs δ1 => ∃ as, argsOf δ1 rs = some as ∧ (atIx δ1 rs).Nodup ∧ ps as (fun r os => Q r (putB δ1 rs os)) Ep
theorem argsOf_len : ∀ {δ : List Sl} {rs : List R} {as : List Sl}, argsOf δ rs = some as → as.length = rs.length
  | _, [], _, h => by cases h; rfl
  | δ, r :: rs, as, h => by
    unfold argsOf at h
    revert h
    split
    · intro h; cases h
    · split
      · intro h; cases h
      · rename_i as' e'
        intro h
        cases h
        rw [List.length_cons, List.length_cons, argsOf_len e']
theorem argsOf_get : ∀ {δ : List Sl} {rs : List R} {as : List Sl} {j : Nat} {s : Sl}, argsOf δ rs = some as → as[j]? = some s → ∃ r, rs[j]? = some r ∧ argOf δ r = some s
  | _, [], _, _, _, h, hs => by cases h; simp at hs
  | δ, r :: rs, as, j, s, h, hs => by
    unfold argsOf at h
    revert h
    split
    · intro h; cases h
    · rename_i a e
      split
      · intro h; cases h
      · rename_i as' e'
        intro h
        cases h
        match j with
        | 0 => simp only [List.getElem?_cons_zero, Option.some.injEq] at hs; subst hs; exact ⟨r, rfl, e⟩
        | j + 1 =>
          obtain ⟨r', h1, h2⟩ := argsOf_get (j := j) e' (by simpa using hs)
          exact ⟨r', by simpa using h1, h2⟩
def isOw (δ : List Sl) (i : Nat) : Prop := ∃ b o, δ[i]? = some (.ow b o)
theorem put1_len (δ : List Sl) (r : R) (s : Sl) : (put1 δ r s).length = δ.length := by
  unfold put1
  split
  · split
    · rw [List.length_set]
    · rfl
  · rfl
theorem put1_at {δ : List Sl} {i : Nat} {b : Bool} {o o' : O} (h : δ[i]? = some (.ow b o)) : put1 δ (.at i) (.ow true o') = δ.set i (.ow b o') := by
  unfold put1
  dsimp only
  rw [h]
theorem put1_ow {δ : List Sl} {r : R} {s : Sl} {i : Nat} {b : Bool} {o : O} (h : δ[i]? = some (.ow b o)) : ∃ o', (put1 δ r s)[i]? = some (.ow b o') := by
  unfold put1
  split
  · rename_i k o'
    split
    · rename_i b' o'' e
      by_cases ei : k = i
      · subst ei
        rw [h] at e
        cases e
        exact ⟨o', List.getElem?_set_self (List.getElem?_eq_some_iff.mp h).1⟩
      · exact ⟨o, by rw [List.getElem?_set_ne ei]; exact h⟩
    · exact ⟨o, h⟩
  · exact ⟨o, h⟩
theorem put1_ne {δ : List Sl} {r : R} {s : Sl} {i : Nat} (h : r ≠ .at i) : (put1 δ r s)[i]? = δ[i]? := by
  unfold put1
  split
  · rename_i k o'
    split
    · exact List.getElem?_set_ne fun z => h (by rw [z])
    · rfl
  · rfl
theorem put1_nw {δ : List Sl} {r : R} {s : Sl} {i : Nat} (h : ¬ isOw δ i) : (put1 δ r s)[i]? = δ[i]? := by
  unfold put1
  split
  · rename_i k o'
    split
    · rename_i b o e
      exact List.getElem?_set_ne fun z => h ⟨b, o, by rw [← z]; exact e⟩
    · rfl
  · rfl
theorem isOw_put {δ : List Sl} {r : R} {s : Sl} {i : Nat} : isOw (put1 δ r s) i ↔ isOw δ i := by
  constructor
  · intro h
    by_cases hw : isOw δ i
    · exact hw
    · obtain ⟨b, o, e⟩ := h
      rw [put1_nw hw] at e
      exact ⟨b, o, e⟩
  · rintro ⟨b, o, e⟩
    obtain ⟨o', e'⟩ := put1_ow (r := r) (s := s) e
    exact ⟨b, o', e'⟩
theorem mem_atIx : ∀ {δ : List Sl} {rs : List R} {i : Nat}, i ∈ atIx δ rs ↔ isOw δ i ∧ R.at i ∈ rs
  | δ, [], i => by simp [atIx]
  | δ, .im d :: rs, i => by simp [atIx, mem_atIx (δ := δ) (rs := rs) (i := i)]
  | δ, .ow o :: rs, i => by simp [atIx, mem_atIx (δ := δ) (rs := rs) (i := i)]
  | δ, .at k :: rs, i => by
    unfold atIx
    split
    · rename_i b o e
      rw [List.mem_cons, mem_atIx (δ := δ) (rs := rs) (i := i), List.mem_cons]
      constructor
      · rintro (rfl | ⟨h1, h2⟩)
        · exact ⟨⟨b, o, e⟩, .inl rfl⟩
        · exact ⟨h1, .inr h2⟩
      · rintro ⟨h1, h2 | h2⟩
        · cases h2; exact .inl rfl
        · exact .inr ⟨h1, h2⟩
    · rename_i hn
      rw [mem_atIx (δ := δ) (rs := rs) (i := i), List.mem_cons]
      constructor
      · rintro ⟨h1, h2⟩; exact ⟨h1, .inr h2⟩
      · rintro ⟨h1, h2 | h2⟩
        · cases h2
          obtain ⟨b, o, e⟩ := h1
          exact absurd e (hn b o)
        · exact ⟨h1, h2⟩
theorem putB_len : ∀ {rs : List R} {δ : List Sl} {ss : List Sl}, (putB δ rs ss).length = δ.length
  | [], _, _ => by simp [putB]
  | _ :: _, _, [] => by simp [putB]
  | r :: rs, δ, s :: ss => by
    show (putB (put1 δ r s) rs ss).length = _
    rw [putB_len, put1_len]
theorem putB_ne : ∀ {rs : List R} {δ ss : List Sl} {k : Nat}, (¬ isOw δ k ∨ R.at k ∉ rs) → (putB δ rs ss)[k]? = δ[k]?
  | [], _, _, _, _ => by simp [putB]
  | _ :: _, _, [], _, _ => by simp [putB]
  | r :: rs, δ, s :: ss, k, h => by
    show (putB (put1 δ r s) rs ss)[k]? = _
    rcases h with h | h
    · rw [putB_ne (.inl fun z => h (isOw_put.mp z)), put1_nw h]
    · simp only [List.mem_cons, not_or] at h
      rw [putB_ne (.inr h.2), put1_ne (Ne.symm h.1)]
theorem putB_at : ∀ {rs : List R} {δ ss : List Sl} {j k : Nat} {b : Bool} {o o' : O}, (∀ (i j : Nat) k, isOw δ k → rs[i]? = some (.at k) → rs[j]? = some (.at k) → i = j) → rs[j]? = some (.at k) → δ[k]? = some (.ow b o) → ss[j]? = some (.ow true o') → (putB δ rs ss)[k]? = some (.ow b o')
  | [], _, _, _, _, _, _, _, _, h, _, _ => by simp at h
  | _ :: _, _, [], _, _, _, _, _, _, _, _, h => by simp at h
  | r :: rs, δ, s :: ss, 0, k, b, o, o', hu, h, hk, hs => by
    simp only [List.getElem?_cons_zero, Option.some.injEq] at h hs
    subst h hs
    show (putB (put1 δ (.at k) (.ow true o')) rs ss)[k]? = _
    have hn : R.at k ∉ rs := fun z => by
      obtain ⟨j, hj⟩ := List.mem_iff_getElem?.mp z
      have := hu 0 (j + 1) k ⟨b, o, hk⟩ rfl (by simpa using hj)
      omega
    rw [putB_ne (.inr hn), put1_at hk, List.getElem?_set_self (List.getElem?_eq_some_iff.mp hk).1]
  | r :: rs, δ, s :: ss, j + 1, k, b, o, o', hu, h, hk, hs => by
    show (putB (put1 δ r s) rs ss)[k]? = _
    have hr : r ≠ .at k := fun z => by
      have := hu 0 (j + 1) k ⟨b, o, hk⟩ (by simp [z]) h
      omega
    exact putB_at (j := j) (fun i j' k' hw h1 h2 => by
      have := hu (i + 1) (j' + 1) k' (isOw_put.mp hw) (by simpa using h1) (by simpa using h2)
      omega) (by simpa using h) (by rw [put1_ne hr]; exact hk) (by simpa using hs)
theorem uniq_of_nodup : ∀ {δ : List Sl} {rs : List R}, (atIx δ rs).Nodup → ∀ (i j : Nat) k, isOw δ k → rs[i]? = some (.at k) → rs[j]? = some (.at k) → i = j
  | δ, [], _, i, j, k, _, h, _ => by simp at h
  | δ, r :: rs, hn, i, j, k, hw, h1, h2 => by
    have tail : (atIx δ rs).Nodup := by
      cases r with
      | im d => exact hn
      | ow o => exact hn
      | «at» m =>
        unfold atIx at hn
        revert hn
        split
        · intro hn; exact (List.nodup_cons.mp hn).2
        · intro hn; exact hn
    have noHead : r = .at k → R.at k ∉ rs := fun e z => by
      subst e
      obtain ⟨b, o, e⟩ := hw
      have e2 : atIx δ (.at k :: rs) = k :: atIx δ rs := by simp only [atIx, e]
      rw [e2] at hn
      exact (List.nodup_cons.mp hn).1 (mem_atIx.mpr ⟨⟨b, o, e⟩, z⟩)
    match i, j with
    | 0, 0 => rfl
    | 0, j + 1 => exact absurd (List.mem_of_getElem? (show rs[j]? = some (.at k) by simpa using h2)) (noHead (by simpa using h1))
    | i + 1, 0 => exact absurd (List.mem_of_getElem? (show rs[i]? = some (.at k) by simpa using h1)) (noHead (by simpa using h2))
    | i + 1, j + 1 => rw [uniq_of_nodup tail i j k hw (by simpa using h1) (by simpa using h2)]
/-- where slot i is handed on -/
def idxAt (i : Nat) : List R → Option Nat
  | [] => none
  | .at k :: rs => if k = i then some 0 else (idxAt i rs).map (· + 1)
  | _ :: rs => (idxAt i rs).map (· + 1)
theorem idxAt_some : ∀ {rs : List R} {i j : Nat}, idxAt i rs = some j → rs[j]? = some (.at i)
  | [], _, _, h => by cases h
  | .at k :: rs, i, j, h => by
    unfold idxAt at h
    split at h
    · rename_i e; cases h; subst e; rfl
    · obtain ⟨m, h1, rfl⟩ := Option.map_eq_some_iff.mp h
      simpa using idxAt_some h1
  | .im d :: rs, i, j, h => by
    obtain ⟨m, h1, rfl⟩ := Option.map_eq_some_iff.mp (show (idxAt i rs).map (· + 1) = some j from h)
    simpa using idxAt_some h1
  | .ow o :: rs, i, j, h => by
    obtain ⟨m, h1, rfl⟩ := Option.map_eq_some_iff.mp (show (idxAt i rs).map (· + 1) = some j from h)
    simpa using idxAt_some h1
theorem idxAt_mem : ∀ {rs : List R} {i : Nat}, R.at i ∈ rs → ∃ j, idxAt i rs = some j
  | [], _, h => by cases h
  | .at k :: rs, i, h => by
    unfold idxAt
    split
    · exact ⟨0, rfl⟩
    · rename_i hk
      have : R.at i ∈ rs := by
        rcases List.mem_cons.mp h with z | z
        · cases z; exact absurd rfl hk
        · exact z
      obtain ⟨j, e⟩ := idxAt_mem this
      exact ⟨j + 1, by rw [e]; rfl⟩
  | .im d :: rs, i, h => by
    have : R.at i ∈ rs := by
      rcases List.mem_cons.mp h with z | z
      · cases z
      · exact z
    obtain ⟨j, e⟩ := idxAt_mem this
    exact ⟨j + 1, by show (idxAt i rs).map (· + 1) = _; rw [e]; rfl⟩
  | .ow o :: rs, i, h => by
    have : R.at i ∈ rs := by
      rcases List.mem_cons.mp h with z | z
      · cases z
      · exact z
    obtain ⟨j, e⟩ := idxAt_mem this
    exact ⟨j + 1, by show (idxAt i rs).map (· + 1) = _; rw [e]; rfl⟩
def wcOf (rs : List R) (w : Addr → Option Nat) (a : Addr) : Option Nat := match w a with
  | none => none
  | some n => if n % 2 = 1 then some (n - 1) else (idxAt (n / 2) rs).map (2 * ·)
def wbOf (rs : List R) (w w' : Addr → Option Nat) (a : Addr) : Option Nat := match w' a with
  | some m => if m % 2 = 1 then some m else match rs[m / 2]? with
    | some (.at i) => some (2 * i)
    | _ => none
  | none => match wcOf rs w a with
    | none => evn (w a)
    | some _ => none
theorem call_lift {K : PySem.W.Frag} {ps : PSp} {pa : PL} {Ep : EX} {E : XK} {n : Nat} {σ : St} {H : Hp} {Q : VK} (hx : XOk K B Ep E) (h : LE K B (pCall ps pa Ep) σ H Q) : tCall (LSp K B.T ps) [] E (LA K B n pa) σ H Q := by
  obtain ⟨G, w, δ, Qp, rep, q, k⟩ := h
  refine ⟨G, w, δ, _, rep, q, fun rs δ1 vs H1 G1 w1 q1 _ s1 rep1 => ?_⟩
  obtain ⟨as, ha, hnd, q1⟩ := q1
  have uq := uniq_of_nodup hnd
  have la : vs.length = as.length := rep1.tlen.trans (argsOf_len ha).symm
  have wc_some : ∀ a m, wcOf rs w1 a = some m → ∃ n, w1 a = some n := fun a m hm => by
    unfold wcOf at hm
    cases e : w1 a with
    | none => rw [e] at hm; cases hm
    | some n => exact ⟨n, rfl⟩
  have wc_odd : ∀ a (j : Nat), w1 a = some (2 * j + 1) → wcOf rs w1 a = some (2 * j) := fun a j h => by
    unfold wcOf
    rw [h]
    dsimp only
    rw [if_pos (by omega)]
    congr 1
  have wc_at : ∀ a (i j : Nat), isOw δ1 i → rs[j]? = some (.at i) → w1 a = some (2 * i) → wcOf rs w1 a = some (2 * j) := fun a i j hw hj h => by
    obtain ⟨j', e⟩ := idxAt_mem (List.mem_of_getElem? hj)
    have := uq j j' i hw hj (idxAt_some e)
    subst this
    unfold wcOf
    rw [h]
    dsimp only
    rw [if_neg (by omega), show 2 * i / 2 = i by omega, e]
    rfl
  have toB : ∀ a o, B a = some o → B0 B.T H1 (wcOf rs w1) a = some o := fun a o ho => by
    have := rep1.bs.to a o ho
    show B0h H1 (wcOf rs w1) a = some o
    unfold B0h
    have e : wcOf rs w1 a = none := by unfold wcOf; rw [this.2.1]
    rw [e]
    exact nTb_of this.1 this.2.2
  have noB : ∀ d, B0 B.T H1 (wcOf rs w1) d = none → B d = none := fun d h => by
    cases e : B d with
    | none => rfl
    | some o => rw [toB d o e] at h; cases h
  rw [List.append_nil]
  refine ⟨G1, wcOf rs w1, as, _, Ep, ⟨rep1.sub, fun a m hm => ?_, by rw [List.length_map]; exact la, fun j s hs => ?_, rfl, fun j v r hv => by simp at hv, ⟨fun a o ho => B0_some ho, .refl, rep1.bs.tt.ts rep1.bs.ta, rep1.bs.gt⟩⟩, fun s hs => ?_, q1, fun r os v H2 G2 w2 hq hr st rp => ?_, fun C fs us d H2 he hs htb hbd hd hf => hx C fs us d H2 he (fun a o ho => hs a o (toB a o ho)) (rep1.bs.tt.trans htb) (noB d hbd) hd hf⟩
  · obtain ⟨n, hn⟩ := wc_some a m hm
    exact rep1.out a n hn
  · obtain ⟨r, hr, he⟩ := argsOf_get ha hs
    have hj : j < vs.length := by rw [la]; exact (List.getElem?_eq_some_iff.mp hs).1
    have hv : vs[j]? = some vs[j] := List.getElem?_eq_getElem hj
    have hm : (vs.map some)[j]? = some (some vs[j]) := by rw [List.getElem?_map, hv]; rfl
    have t := rep1.tm j _ r hv hr
    cases r with
    | im d => cases he; exact ⟨_, hm, t⟩
    | ow o => cases he; exact ⟨_, hm, RO.mono (fun _ _ h => h) (fun _ _ _ h => h) (fun a u ma _ => wc_odd a j ma) t⟩
    | «at» i =>
      have t' : σ[i]? = some (some vs[j]) := t
      simp only [argOf] at he
      revert he
      split
      · rename_i d e
        intro he
        cases he
        obtain ⟨v, hv', hd⟩ := rep1.sl i _ e
        rw [t'] at hv'
        cases hv'
        exact ⟨_, hm, hd⟩
      · rename_i b o e
        intro he
        cases he
        obtain ⟨v, hv', hd⟩ := rep1.sl i _ e
        rw [t'] at hv'
        cases hv'
        exact ⟨_, hm, RO.mono (fun _ _ h => h) (fun _ _ _ h => h) (fun a u ma _ => wc_at a i j ⟨b, o, e⟩ hr ma) hd⟩
      · intro he; cases he
  · obtain ⟨j, hj⟩ := List.mem_iff_getElem?.mp hs
    obtain ⟨r, hr, he⟩ := argsOf_get ha hj
    cases r with
    | im d => cases he; exact .inr (.inl ⟨d, rfl⟩)
    | ow o => cases he; exact .inr (.inr ⟨o, rfl⟩)
    | «at» i =>
      simp only [argOf] at he
      revert he
      split
      · intro he; cases he; exact .inr (.inl ⟨_, rfl⟩)
      · intro he; cases he; exact .inr (.inr ⟨_, rfl⟩)
      · intro he; cases he
  · -- behind the call
    have nw : ∀ a m n, w2 a = some m → wcOf rs w1 a = none → w1 a = some n → False := fun a m n h1 h2 h3 => by
      rcases st.n a m h1 with z | z
      · exact z h2
      · exact (rep1.out a n h3).2.1 z
    have st' : Stp B.T G1 H1 w1 δ1 G2 H2 (wbOf rs w1 w2) (putB δ1 rs os) := by
      refine ⟨st.g, fun a o hw ho => st.b a o (by unfold wcOf; rw [hw]) ho, fun a m hm => ?_, fun a o ho => ?_, fun i o hi => ?_, st.t, st.q⟩
      · cases e : w1 a with
        | some n => exact .inl (Option.some_ne_none _)
        | none =>
          cases e2 : w2 a with
          | none =>
            unfold wbOf at hm
            have e3 : wcOf rs w1 a = none := by unfold wcOf; rw [e]
            rw [e2, e3, e] at hm
            cases hm
          | some m2 =>
            rcases st.n a m2 e2 with z | z
            · exact absurd (by unfold wcOf; rw [e]) z
            · exact .inr z
      · rcases st.p a o ho with z | z | z | z
        · exact .inl z
        · exact .inr (.inl z)
        · refine .inr (.inr (.inl fun e => z ?_))
          unfold wcOf
          rw [e]
        · exact .inr (.inr (.inr z))
      · by_cases hm : R.at i ∈ rs
        · obtain ⟨j, hj⟩ := List.mem_iff_getElem?.mp hm
          have hja : j < as.length := by rw [argsOf_len ha]; exact (List.getElem?_eq_some_iff.mp hj).1
          obtain ⟨r, hr', he⟩ := argsOf_get ha (List.getElem?_eq_getElem hja)
          rw [hj] at hr'
          cases hr'
          simp only [argOf, hi, Option.some.injEq] at he
          obtain ⟨o', ho'⟩ := st.pn j o (by rw [List.getElem?_eq_getElem hja, he])
          exact ⟨o', putB_at uq hj hi ho'⟩
        · exact ⟨o, by rw [putB_ne (.inr hm)]; exact hi⟩
    refine k r _ v H2 G2 _ hq (s1.trans st') ⟨rp.sub, fun a m hm => ?_, by rw [putB_len]; exact rep1.len, fun i s hs => ?_, rfl, fun j u p hu hp => ?_, st'.bs rep1.bs⟩
    · cases e2 : w2 a with
      | some m2 => exact rp.out a m2 e2
      | none =>
        unfold wbOf at hm
        rw [e2] at hm
        dsimp only at hm
        revert hm
        split
        · rename_i e3
          intro hm
          have hn := (evn_some.mp hm).1
          obtain ⟨g0, h0, n0⟩ := rep1.out a m hn
          refine ⟨?_, st.nn a e3 h0 n0⟩
          cases e6 : G2 a with
          | none => rfl
          | some o =>
            rcases st.p a o e6 with z | z | z | ⟨xs, z⟩
            · rw [g0] at z; cases z
            · exact absurd z h0
            · exact absurd e3 z
            · exact absurd z (n0 xs)
        · intro hm; cases hm
    · by_cases hm : isOw δ1 i ∧ R.at i ∈ rs
      · obtain ⟨⟨b, o, e⟩, hm⟩ := hm
        obtain ⟨j, hj⟩ := List.mem_iff_getElem?.mp hm
        have hja : j < as.length := by rw [argsOf_len ha]; exact (List.getElem?_eq_some_iff.mp hj).1
        obtain ⟨r', hr', he⟩ := argsOf_get ha (List.getElem?_eq_getElem hja)
        rw [hj] at hr'
        cases hr'
        simp only [argOf, e, Option.some.injEq] at he
        obtain ⟨o', ho'⟩ := st.pn j o (by rw [List.getElem?_eq_getElem hja, he])
        rw [putB_at uq hj e ho'] at hs
        cases hs
        obtain ⟨v', hv', hd⟩ := rp.sl j _ ho'
        have hjv : j < vs.length := by rw [la]; exact hja
        rw [List.getElem?_map, List.getElem?_eq_getElem hjv] at hv'
        cases hv'
        have t : σ[i]? = some (some vs[j]) := rep1.tm j _ (.at i) (List.getElem?_eq_getElem hjv) hj
        refine ⟨_, t, RO.mono (fun _ _ h => h) (fun _ _ _ h => h) (fun a u ma _ => ?_) hd⟩
        show wbOf rs w1 w2 a = _
        unfold wbOf
        rw [ma]
        dsimp only
        rw [if_neg (by omega), show 2 * j / 2 = j by omega, hj]
      · have hne : ¬ isOw δ1 i ∨ R.at i ∉ rs := by
          by_cases z : isOw δ1 i
          · exact .inr fun z2 => hm ⟨z, z2⟩
          · exact .inl z
        rw [putB_ne hne] at hs
        have sl := rep1.sl i s hs
        cases s with
        | un => trivial
        | im d =>
          obtain ⟨v', hv', hd⟩ := sl
          exact ⟨v', hv', dp_mono st.g _ _ hd⟩
        | ex a dd C fs =>
          obtain ⟨h1, us, h2, h3⟩ := sl
          exact ⟨h1, us, st.g _ _ h2, h3.mono st.g⟩
        | ow b o =>
          have hni : R.at i ∉ rs := hne.elim (fun z => absurd ⟨b, o, hs⟩ z) id
          have wcn : ∀ a, w1 a = some (2 * i) → wcOf rs w1 a = none := fun a h => by
            unfold wcOf
            rw [h]
            dsimp only
            rw [if_neg (by omega), show 2 * i / 2 = i by omega]
            cases e : idxAt i rs with
            | none => rfl
            | some j => exact absurd (List.mem_of_getElem? (idxAt_some e)) hni
          obtain ⟨v', hv', hd⟩ := sl
          refine ⟨v', hv', RO.monoN st.g (fun a u hnt ma hu => st.bN a u hnt (wcn a ma) hu) (fun a u ma hu => ?_) hd⟩
          show wbOf rs w1 w2 a = _
          unfold wbOf
          cases e2 : w2 a with
          | some m => exact (nw a m _ e2 (wcn a ma) ma).elim
          | none =>
            dsimp only
            rw [wcn a ma]
            exact evn_some.mpr ⟨ma, by omega⟩
    · match j with
      | 0 =>
        simp only [List.getElem?_cons_zero, Option.some.injEq] at hu hp
        subst hu hp
        have t := rp.tm 0 v r rfl rfl
        cases r with
        | im d => exact t
        | ow o =>
          refine RO.mono (fun _ _ h => h) (fun _ _ _ h => h) (fun a u ma _ => ?_) t
          show wbOf rs w1 w2 a = _
          unfold wbOf
          rw [ma]
          rfl
        | «at» i => cases hr
      | j + 1 => simp at hu
end Pv
namespace Pv
open PySem PySem.Spec L2 Wf
variable {B : Bas}
section
variable {X : Cx} {tg l a b e e2 : Expr} {es : List Expr} {pl pa pb : PX} {p pos : Pos}
/-! ### words -/
theorem jv (i : Nat) {x : Str} {pos : Pos} (hN : X.N[i]? = some x := by rfl) (hv : Vis X.env.scope x := by first | exact Or.inl rfl | exact Or.inr (Or.inl rfl) | exact Or.inr (Or.inr rfl)) (hd : (x == ("__debug__" : Str)) = false := by decide)
    (hcd : (x == ("__classdict__" : Str)) = false := by decide) : JE X B (.Name x pos) (pVar i) := je_var hN hv hd hcd
/-- as data for good -/
def pFz (p : PX) : PX := fun δ Q => p δ fun r δ1 => ∃ d δ2, fz δ1 r = some (d, δ2) ∧ Q (.im d) δ2
theorem je_fz (h : JE X B e pa) : JE X B e (pFz pa) := PE_wk h fun σ H Q ⟨G, w, δ, Qp, rep, q, k⟩ => ⟨G, w, δ, _, rep, q, fun r δ1 v H1 G1 w1 q1 s1 rep1 => by
  obtain ⟨d, δ2, hz, q1⟩ := q1
  obtain ⟨G2, w2, s2, r2⟩ := rep1.fz1 (j := 0) rfl rfl hz
  exact k _ _ v H1 G2 w2 q1 (s1.trans s2) r2⟩
/-! ### enumerate -/
def enD (n : Nat) : List PyData → List PyData
  | [] => []
  | d :: ds => .tuple [.int (n : Int), d] :: enD (n + 1) ds
theorem enD_len : ∀ (n : Nat) (ds : List PyData), (enD n ds).length = ds.length
  | _, [] => rfl
  | n, d :: ds => by simp only [enD, List.length_cons, enD_len (n + 1) ds]
theorem enD_get : ∀ (n : Nat) (ds : List PyData) (i : Nat), (enD n ds)[i]? = (ds[i]?).map fun d => .tuple [.int ((n + i : Nat) : Int), d]
  | n, [], i => by simp [enD]
  | n, d :: ds, 0 => by simp [enD]
  | n, d :: ds, i + 1 => by
    simp only [enD, List.getElem?_cons_succ, enD_get (n + 1) ds i]
    have : n + 1 + i = n + (i + 1) := by omega
    rw [this]
theorem itd_enumL {K : PySem.W.Frag} {G : Hp} {a : Addr} {us : List V} {ds : List PyData} (ha : G a = some (.lst us)) (hd : DqAll K G us ds) : ItD K G (Ite K a) (enD 0 ds) where
  go := fun G' H' i sg sh hi => by
    rw [enD_len] at hi
    have hl := dqAll_len hd
    exact ⟨us, us[i]'(by omega), SqL.of (sh _ _ (sg _ _ ha)), by simp⟩
  yld := fun G' H' i x H2 sg sh hi y => by
    rw [enD_len] at hi
    obtain ⟨T, z, rfl, hT, rfl, y⟩ := y
    obtain ⟨v, hv, hq⟩ := dqAll_get hd (List.getElem?_eq_getElem hi)
    have e := y us (SqL.of (sh _ _ (sg _ _ ha)))
    rw [hv] at e
    cases e
    refine ⟨_, by rw [enD_get, List.getElem?_eq_getElem hi]; rfl, .inr ⟨T, _, _, rfl, hT, rfl, .cons ?_ (.cons (dp_mono sg _ _ hq) .nil), rfl⟩⟩
    rw [Nat.zero_add]
    exact .int _
  stop := fun G' H' sg sh => ⟨us, SqL.of (sh _ _ (sg _ _ ha)), by rw [enD_len, dqAll_len hd]; exact Nat.le_refl _⟩
theorem itd_enumT {K : PySem.W.Frag} {G : Hp} {a : Addr} {us : List V} {ds : List PyData} (ha : SqT K G a us) (hd : DqAll K G us ds) : ItD K G (ItT K a) (enD 0 ds) where
  go := fun G' H' i sg sh hi => by
    rw [enD_len] at hi
    have hl := dqAll_len hd
    exact ⟨us, us[i]'(by omega), Same.tp sh _ _ (Same.tp sg _ _ ha), by simp⟩
  yld := fun G' H' i x H2 sg sh hi y => by
    rw [enD_len] at hi
    obtain ⟨T, z, rfl, hT, rfl, y⟩ := y
    obtain ⟨v, hv, hq⟩ := dqAll_get hd (List.getElem?_eq_getElem hi)
    have e := y us (Same.tp sh _ _ (Same.tp sg _ _ ha))
    rw [hv] at e
    cases e
    refine ⟨_, by rw [enD_get, List.getElem?_eq_getElem hi]; rfl, .inr ⟨T, _, _, rfl, hT, rfl, .cons ?_ (.cons (dp_mono sg _ _ hq) .nil), rfl⟩⟩
    rw [Nat.zero_add]
    exact .int _
  stop := fun G' H' sg sh => ⟨us, Same.tp sh _ _ (Same.tp sg _ _ ha), by rw [enD_len, dqAll_len hd]; exact Nat.le_refl _⟩
def iEnumU (K : PySem.W.Frag) (ta : TA) : TI := fun σ H R => ta σ H fun vs H1 => ∃ a xs, vs = [.ref a] ∧ ((SqL K H1 a xs ∧ R (Ite K a) H1) ∨ (SqT K H1 a xs ∧ R (ItT K a) H1))
open PyProof.Rows in
theorem pi_enumU {ta : TA} {tpos : Pos} {elts : List Expr} {kk : Nat} (hg : Gl X "enumerate") (hm : X.mg "enumerate" = none) (ha : PA X [e] ta) (hs : starEach [e] X.env = [(false, eval e X.env)] := by rfl) :
    PI X (.Tuple elts kk tpos) (.Call (.Name "enumerate" p) [e] [] pos) (iEnumU X.K ta) := by
  refine ⟨fun pins s σ H R I h => ?_⟩
  refine Call_ (ld_blt I hg hm boot_enumerate (PyProof.Rows.callWith_type1 (thn (ha.run pos pins s σ H _ I h) fun us s1 ⟨vs, H1, I1, r1, q1⟩ => ?_) hs rfl))
  obtain ⟨a, xs, ex, ⟨hq, q⟩ | ⟨hq, q⟩⟩ := q1
  · subst ex
    cases r1 with
    | cons r rr =>
      cases rr
      cases r
      obtain ⟨its, rv, p', hz⟩ := I1.list hq
      refine call_enumerate_list p'.isList fun h' he hit hsz hk => wpAny_pyIter_enum he ?_
      have I2 : Inv X pins σ H1 { s1 with heap := h' } := I1.kept (t' := s1.toks) hk
      refine ⟨s1.heap.objs.size + 1, [s1.heap.objs.size + 1, s1.heap.objs.size], _, _, H1, rfl, I2, turn_enum a (s1.heap.objs.size + 1) s1.heap.objs.size, ⟨⟨.none, he⟩, hit, Nat.succ_ne_self _⟩, fun b hb => ?_, q⟩
      have e' : b = s1.heap.objs.size + 1 ∨ b = s1.heap.objs.size := by simpa using hb
      have hle : s1.heap.objs.size ≤ b := by
        rcases e' with z | z
        · rw [z]; exact Nat.le_add_right _ _
        · rw [z]; exact Nat.le_refl _
      exact I1.fpOk hle (I1.hok.fresh hle)
  · subst ex
    cases r1 with
    | cons r rr =>
      cases rr
      cases r
      obtain ⟨its, rv, pt, hz⟩ := I1.tuple hq
      refine call_enumT (show s1.heap.IsTuple a its.toArray from pt) fun h' en hit hsz hk => wpAny_pyIter_enum en ?_
      have I2 : Inv X pins σ H1 { s1 with heap := h' } := I1.kept (t' := s1.toks) hk
      refine ⟨s1.heap.objs.size + 1, [s1.heap.objs.size + 1, s1.heap.objs.size], _, _, H1, rfl, I2, turn_enumT a (s1.heap.objs.size + 1) s1.heap.objs.size, ⟨⟨.none, en⟩, hit, Nat.succ_ne_self _⟩, fun b hb => ?_, q⟩
      have le : s1.heap.objs.size ≤ b := by
        have eb : b = s1.heap.objs.size + 1 ∨ b = s1.heap.objs.size := by simpa using hb
        rcases eb with rfl | rfl
        · exact Nat.le_add_right _ _
        · exact Nat.le_refl _
      exact I1.fpOk le (I1.hok.fresh le)
def iEn (ps : PL) : PIx := fun δ Q => ps δ fun rs δ1 => ∃ d δ2 ds, fzAll δ1 rs = some ([d], δ2) ∧ seqD d = some ds ∧ Q (enD 0 ds) δ2
theorem vals1 {K : PySem.W.Frag} {G : Hp} {vs : List V} {d : PyData} (h : DqAll K G vs [d]) : ∃ v, vs = [v] ∧ Dq K G v d := by
  cases h with
  | cons h1 h2 => cases h2; exact ⟨_, rfl, h1⟩
theorem ji_enum {ps : PL} {tpos : Pos} {elts : List Expr} {kk : Nat} (hg : Gl X "enumerate") (hm : X.mg "enumerate" = none) (ha : JA X B [e] ps) (hs : starEach [e] X.env = [(false, eval e X.env)] := by rfl) :
    JI X B (.Tuple elts kk tpos) (.Call (.Name "enumerate" p) [e] [] pos) (iEn ps) := PI_wk (pi_enumU hg hm ha hs) fun σ H R ⟨G, w, δ, Qp, rep, q, k⟩ =>
  ⟨G, w, δ, _, rep, q, fun rs δ1 vs H1 G1 w1 q1 _ s1 rep1 => by
    obtain ⟨d, δ2, ds, hz, hs, q1⟩ := q1
    obtain ⟨G2, w2, s2, r2⟩ := rep1.fzs hz
    obtain ⟨v, rfl, hd⟩ := vals1 (r2.ims)
    cases d with
    | list es =>
      cases hs
      cases hd with
      | lst ha hds => exact ⟨_, _, rfl, .inl ⟨SqL.of (r2.sub _ _ ha), k _ δ2 _ H1 G2 _ q1 ((s1.trans s2).trans .drop) r2.drop (itd_enumL ha hds)⟩⟩
    | tuple es =>
      cases hs
      cases hd with
      | tup ha hds => exact ⟨_, _, rfl, .inr ⟨Same.tp r2.sub _ _ ha, k _ δ2 _ H1 G2 _ q1 ((s1.trans s2).trans .drop) r2.drop (itd_enumT ha hds)⟩⟩
    | none => cases hs
    | bool _ => cases hs
    | int _ => cases hs
    | str _ => cases hs
    | dict _ => cases hs⟩
/-! ### zip -/
/-! ### defs of the module -/
def noX : EX := fun _ _ => False
theorem xok_no {K : PySem.W.Frag} {E : XK} : XOk K B noX E := fun _ _ _ _ _ h => h.elim
theorem je_cal {k j : Nat} {x : Str} {pn : List Str} {psp : PSp} {ps : PL} (C : Cal X.prog X.w X.K X.mg X.base CX0 k x pn (LSp X.K B.T psp)) (hr : Room j X.A) (hg : Gl X x) (ha : JA X B (e :: es) ps) (hk : k ≤ j := by decide)
    (hdb : (x == ("__debug__" : Str)) = false := by decide) (he : starEach (e :: es) X.env = (false, eval e X.env) :: starEach es X.env := by rfl) (hpl : (backTo pos (starEach es X.env)).any (·.1) = false := by rfl) :
    JE X B (.Call (.Name x p) (e :: es) [] pos) (pCall psp ps noX) := PE_wk (pe_cal C hr hg ha hk hdb he hpl) fun σ H Q h => call_lift xok_no h
/-! ### repr -/
end
/-! ### a def keeps its promise -/
theorem fn_ok {T : List NdefX.NTab} {P : Program} {w : World} {K : PySem.W.Frag} {mg : Str → Option Value} {base : Heap} {CX : CXT} {k : Nat} {f : Addr} {fd : FuncData} {x qual : Str} {params : Arguments} {body : List Stmt} {scope : Scope} {dvs : List V} {kws : List (Str × V)} {N prm : List Str} {psp : PSp} {p : EX → PSx} {m n : Nat}
    (F : FunD K x qual params body scope dvs kws f fd) (S : FnScope N prm scope) (hN : N.length = m) (hn : prm.length = n) (hnm : n ≤ m) (hlen : ∀ as Qp Ep, psp as Qp Ep → as.length = n)
    (hb : ∀ (cdv : Value) (A : Around) (outer : List Env) (s : Shared) (H : Hp) (E : XK) (Bh Bt : Hp) (Ep : EX), Room k (A.deeper (PyProof.Rows.envOfC qual scope s.heap.objs.size f cdv)) → XOk K ⟨Bh, Bt, T⟩ Ep E → JSs (cxOf CX P w K mg base N qual scope f cdv A outer s H E) ⟨Bh, Bt, T⟩ body (p Ep))
    (hp : ∀ as Qp Ep, psp as Qp Ep → p Ep (endsP as Qp) (as ++ List.replicate (m - n) .un)) : FnOk P w K mg base CX (k + 1) f fd prm (LSp K T psp) := by
  have ln : ∀ vs H Q E, LSp K T psp vs H Q E → vs.length = n := fun vs H Q E ⟨G, w, as, Qp, Ep, rep, _, h, _⟩ => by
    have := rep.len
    rw [List.length_map, hlen as Qp Ep h] at this
    exact this
  refine F.ok S (fun vs H Q E h => by rw [hn]; exact ln vs H Q E h) fun cdv A outer s H vs Q E hr h => ?_
  obtain ⟨Bh, Bt, Ep, hx, hl⟩ := fn_lift (N := N) (p := p) hN (fun as Qp Ep h => by rw [hlen as Qp Ep h]; exact hp as Qp Ep h) h (by rw [ln vs H Q E h]; exact hnm)
  exact ⟨_, hb cdv A outer s H E Bh Bt Ep hr hx, hl⟩
theorem JSs.nox {X : Cx} {st : List Stmt} {p : PSx} (h : JSs X.nox B st p) : JSs X B st p := PSs.nox h
end Pv
/-! errors of one field -/
namespace Wf
open PySem PySem.Spec PyProof.Rows L2
end Wf
namespace Pv
open PySem PySem.Spec L2 Wf
variable {B : Bas}
/-! ### raise -/
/-! ### all tuples are public -/
open Classical in
noncomputable def pubT (G H : Hp) (x : Option (Addr × HO)) : Hp := fun a => match x with
  | some (d, o) => if a = d then some o else match G a with
    | some u => some u
    | none => if ∃ xs, RdX H a xs then H a else none
  | none => match G a with
    | some u => some u
    | none => if ∃ xs, RdX H a xs then H a else none
open Classical in
theorem pubT_some {G H : Hp} {x : Option (Addr × HO)} {a : Addr} {o : HO} (h : pubT G H x a = some o) : (∃ u, x = some (a, u) ∧ o = u) ∨ G a = some o ∨ (H a = some o ∧ ∃ xs, RdX H a xs) := by
  unfold pubT at h
  have go : (match G a with
    | some u => some u
    | none => if ∃ xs, RdX H a xs then H a else none) = some o → G a = some o ∨ (H a = some o ∧ ∃ xs, RdX H a xs) := fun h => by
    cases e : G a with
    | some u => rw [e] at h; exact .inl h
    | none =>
      rw [e] at h
      dsimp only at h
      split at h
      · rename_i z; exact .inr ⟨h, z⟩
      · cases h
  cases x with
  | none => exact .inr (go h)
  | some p =>
    obtain ⟨d, u⟩ := p
    dsimp only at h
    split at h
    · rename_i e; subst e; cases h; exact .inl ⟨_, rfl, rfl⟩
    · exact .inr (go h)
open Classical in
theorem pubT_g {G H : Hp} {x : Option (Addr × HO)} (hx : ∀ d u, x = some (d, u) → G d = none) : Same G (pubT G H x) := fun a o h => by
  unfold pubT
  cases x with
  | none => rw [h]
  | some p =>
    obtain ⟨d, u⟩ := p
    dsimp only
    rw [if_neg (fun e => by subst e; rw [hx a u rfl] at h; cases h), h]
open Classical in
theorem pubT_tup {K : PySem.W.Frag} {G H : Hp} {x : Option (Addr × HO)} (s : Same G H) (hx : ∀ d u, x = some (d, u) → NoT H d) {a : Addr} {xs : List V} (h : SqT K H a xs) : SqT K (pubT G H x) a xs := by
  rcases h with h | h
  · refine .inl ?_
    have e : pubT G H x a = H a := by
      have body : (match G a with
        | some u => some u
        | none => if ∃ xs, RdX H a xs then H a else none) = H a := by
        cases e : G a with
        | some u => exact (s a u e).symm
        | none => dsimp only; rw [if_pos ⟨some xs, h⟩]
      unfold pubT
      cases x with
      | none => exact body
      | some p =>
        obtain ⟨d, u⟩ := p
        dsimp only
        rw [if_neg (fun e => by subst e; exact hx a u rfl xs h)]
        exact body
    rcases h with h | ⟨o, h⟩
    · exact .inl (by rw [e]; exact h)
    · exact .inr ⟨o, by rw [e]; exact h⟩
  · exact .inr h
mutual
theorem dp_pub {K : PySem.W.Frag} {G H : Hp} {x : Option (Addr × HO)} (s : Same G H) (hx : ∀ d u, x = some (d, u) → NoT H d) : ∀ (d : PyData) (v : V), noL d = true → Dp K H v d → Dq K (pubT G H x) v d
  | .none, _, _, h => by cases h; exact .non
  | .bool b, _, _, h => by cases h; exact .bl b
  | .int i, _, _, h => by cases h; exact .int i
  | .str x, _, _, h => by cases h; exact .str x
  | .list _, _, n, _ => nomatch n
  | .dict _, _, _, h => by cases h
  | .tuple ds, _, n, h => by
    cases h with
    | tup hs ha => exact .tup (pubT_tup s hx hs) (dpAll_pub s hx ds _ n ha)
theorem dpAll_pub {K : PySem.W.Frag} {G H : Hp} {x : Option (Addr × HO)} (s : Same G H) (hx : ∀ d u, x = some (d, u) → NoT H d) : ∀ (ds : List PyData) (vs : List V), noLAll ds = true → DpAll K H vs ds → DqAll K (pubT G H x) vs ds
  | [], _, _, h => by cases h; exact .nil
  | d :: ds, _, n, h => by
    have n2 : (noL d && noLAll ds) = true := n
    rw [Bool.and_eq_true] at n2
    cases h with
    | cons h1 h2 => exact .cons (dp_pub s hx d _ n2.1 h1) (dpAll_pub s hx ds _ n2.2 h2)
end
/-- all that stood stands; new things beside, the tuples public now -/
theorem Rep.pub {K : PySem.W.Frag} {G H H2 : Hp} {σ : St} {δ : List Sl} {w : Addr → Option Nat} (r : Rep K B G H σ δ [] [] w) {x : Option (Addr × HO)} (s : ∀ a o, NT o → H a = some o → H2 a = some o) (tg : TbG B.T H H2) (hx : ∀ d u, x = some (d, u) → H d = none ∧ H2 d = some u ∧ NT u) :
    Stp B.T G H w δ (pubT G H2 x) H2 w δ ∧ Rep K B (pubT G H2 x) H2 σ δ [] [] w := by
  have gx : ∀ d u, x = some (d, u) → G d = none := fun d u e => by
    cases e2 : G d with
    | none => rfl
    | some o => have := r.sub d o e2; rw [(hx d u e).1] at this; cases this
  have sg := pubT_g (H := H2) gx
  have both : ∀ a o, H a = some o → H2 a = some o ∨ ∃ ps qs, o = .tbl ps ∧ H2 a = some (.tbl qs) := fun a o h => by
    by_cases hn : NT o
    · exact .inl (s a o hn h)
    · have : ∃ ps, o = .tbl ps := Classical.byContradiction fun z => hn fun ps e => z ⟨ps, e⟩
      obtain ⟨ps, rfl⟩ := this
      obtain ⟨qs, h2⟩ := tg.st a ps h
      exact .inr ⟨ps, qs, rfl, h2⟩
  have ngt : ∀ {a : Addr} {o : HO}, G a = some o → NT o := fun {a o} h ps e => r.bs.gt a ps (by rw [h, e])
  have st : Stp B.T G H w δ (pubT G H2 x) H2 w δ := by
    refine ⟨sg, fun a o _ h => both a o h, fun a i h => .inl (by rw [h]; exact Option.some_ne_none _), fun a o h => ?_, .refl _, tg, fun a ps h => ?_⟩
    rotate_left
    · rcases pubT_some h with ⟨u, e, z⟩ | h | ⟨h, xs, hr⟩
      · exact absurd z.symm ((hx a u e).2.2 ps)
      · exact h
      · exact absurd hr (NoX.tbl h xs)
    rcases pubT_some h with ⟨u, e, _⟩ | h | ⟨h, xs, hr⟩
    · exact .inr (.inl (hx a u e).1)
    · exact .inl h
    · cases e : H a with
      | none => exact .inr (.inl rfl)
      | some u =>
        refine .inr (.inr (.inr ⟨xs, ?_⟩))
        rcases both a u e with e2 | ⟨_, _, _, e2⟩
        · exact RdX.same e e2 hr
        · exact absurd hr (NoX.tbl e2 xs)
  refine ⟨st, fun a o h => ?_, fun a i h => ?_, r.len, fun i sl h => ((r.sl i sl h).monoN sg (fun a u hn _ hu => s a u hn hu) fun a u ma _ => ma), rfl, fun j v q hv => by simp at hv, st.bs r.bs⟩
  · rcases pubT_some h with ⟨u, e, rfl⟩ | h | ⟨h, _⟩
    · exact (hx a _ e).2.1
    · exact s a o (ngt h) (r.sub a o h)
    · exact h
  · obtain ⟨g0, h0, n0⟩ := r.out a i h
    cases e : H a with
    | none => exact absurd e h0
    | some u =>
      have n2 : H2 a ≠ none ∧ NoX H2 a := by
        rcases both a u e with e2 | ⟨_, _, _, e2⟩
        · exact ⟨by rw [e2]; exact Option.some_ne_none _, n0.same e e2⟩
        · exact ⟨by rw [e2]; exact Option.some_ne_none _, NoX.tbl e2⟩
      refine ⟨?_, n2⟩
      cases e3 : pubT G H2 x a with
      | none => rfl
      | some o =>
        rcases pubT_some e3 with ⟨u', e', _⟩ | h' | ⟨_, xs, hr⟩
        · have := (hx a u' e').1; rw [e] at this; cases this
        · rw [g0] at h'; cases h'
        · exact absurd hr (n2.2 xs)
/-! ### try: name = an expression with one call that may raise -/
end Pv
namespace Pv
open PySem PySem.Spec L2 Wf
/-! ### what is asked of the caught error -/
end Pv
namespace Pv
open PySem PySem.Spec L2 Wf
variable {B : Bas}
theorem _root_.Wf.Cal.imp {P : Program} {w : World} {K : PySem.W.Frag} {mg : Str → Option Value} {base : Heap} {CX : CXT} {k : Nat} {x : Str} {ps : List Str} {sp sp' : Sp} (C : Wf.Cal P w K mg base CX k x ps sp) (h : ∀ vs H Q E, sp' vs H Q E → sp vs H Q E) : Wf.Cal P w K mg base CX k x ps sp' := by
  obtain ⟨f, fd, F, r⟩ := C.ex
  exact ⟨f, fd, F.imp h, r⟩
section
variable {K : PySem.W.Frag} {G H H' : Hp} {σ : St} {δ : List Sl} {vs : List V} {rs : List R} {w : Addr → Option Nat}
theorem noT_same {H H' : Hp} {a : Addr} {u : HO} (e : H a = some u) (e2 : H' a = some u) (n : NoX H a) : NoX H' a := n.same e e2
theorem noT_deal {H : Hp} {d l : Addr} (h : Deal H d l) : NoX H d ∧ NoX H l ∧ H d ≠ none ∧ H l ≠ none := by
  obtain ⟨s, m, n, ns, h1, h2, _⟩ := h.ex
  exact ⟨NoX.of h1 (fun _ z => by cases z) (fun _ _ z => by cases z) (fun _ z => by cases z), NoX.lst h2, by rw [h1]; exact Option.some_ne_none _, by rw [h2]; exact Option.some_ne_none _⟩
theorem tabs_deal {T : List NdefX.NTab} {H H' : Hp} {d l : Addr} (but : But [d, l] H H') (dl : Deal H d l) : TbG T H H' := by
  obtain ⟨s, m, n, ns, h1, h2, _⟩ := dl.ex
  have ne : ∀ x o, (∀ xs, o ≠ .lst xs) → (∀ xs, o ≠ .dK xs) → H x = some o → H' x = some o := fun x o n1 n2 hx => but x o (fun z => by
    simp only [List.mem_cons, List.not_mem_nil, or_false] at z
    rcases z with rfl | rfl
    · rw [h1] at hx; cases hx; exact n2 _ rfl
    · rw [h2] at hx; cases hx; exact n1 _ rfl) hx
  refine ⟨fun t p hp => ?_, fun a ps h => ⟨ps, ne _ _ nofun nofun h⟩⟩
  obtain ⟨ps, e1, e2, e3⟩ := t p hp
  refine ⟨ps, ne _ _ nofun nofun e1, e2, fun pos cv hc => ?_⟩
  obtain ⟨c, f1, f2⟩ := e3 pos cv hc
  exact ⟨c, f1, ne _ _ (fun xs z => by unfold LamX.CodeO at z; cases z) (fun xs z => by unfold LamX.CodeO at z; cases z) f2⟩
/-- the deal goes on -/
theorem Rep.deal (r : Rep K B G H σ δ vs rs w) {i : Nat} {b : Bool} {d l : Addr} (h : δ[i]? = some (.ow b .deal)) (hσ : σ[i]? = some (some (.ref d))) (wd : w d = some (2 * i)) (wl : w l = some (2 * i)) (dl0 : Deal H d l) (but : But [d, l] H H') (dl : Deal H' d l) :
    Stp B.T G H w δ G H' w δ ∧ Rep K B G H' σ δ vs rs w := by
  have nin : ∀ x, w x ≠ some (2 * i) → x ∉ [d, l] := fun x hx z => by
    simp only [List.mem_cons, List.not_mem_nil, or_false] at z
    rcases z with rfl | rfl
    · exact hx wd
    · exact hx wl
  obtain ⟨nd, nl, ed, el⟩ := noT_deal dl
  have st : Stp B.T G H w δ G H' w δ := .of ⟨fun _ _ h => h, fun x o hx ho => but x o (nin x (by rw [hx]; exact nofun)) ho, fun x n hx => .inl (by rw [hx]; exact Option.some_ne_none _), fun _ _ h => .inl h, .refl _⟩ (tabs_deal but dl0)
  refine ⟨st, fun x o hx => ?_, fun x n hx => ?_, r.len, fun k s hk => ?_, r.tlen, fun j v q hv hq => ?_, st.bs r.bs⟩
  · refine but x o (nin x fun z => ?_) (r.sub x o hx)
    rw [(r.out x _ z).1] at hx
    cases hx
  · obtain ⟨h1, h2, h3⟩ := r.out x n hx
    by_cases e : x ∈ [d, l]
    · simp only [List.mem_cons, List.not_mem_nil, or_false] at e
      rcases e with rfl | rfl
      · exact ⟨h1, ed, nd⟩
      · exact ⟨h1, el, nl⟩
    · cases e2 : H x with
      | none => exact absurd e2 h2
      | some u => exact ⟨h1, by rw [but x u e e2]; exact Option.some_ne_none _, noT_same e2 (but x u e e2) h3⟩
  · by_cases e : i = k
    · subst e
      rw [h] at hk
      cases hk
      exact ⟨_, hσ, d, l, rfl, wd, wl, dl⟩
    · refine (r.sl k s hk).mono (fun _ _ h => h) (fun x u mx hu => but x u (nin x ?_) hu) fun x u mx _ => mx
      rw [mx]
      exact fun z => e (by have := Option.some.inj z; omega)
  · refine (r.tm j v q hv hq).mono (fun _ _ h => h) (fun x u mx hu => but x u (nin x ?_) hu) fun x u mx _ => mx
    rw [mx]
    exact fun z => by have := Option.some.inj z; omega
/-- a new deal is told -/
theorem Rep.newDeal (r : Rep K B G H σ δ [] [] w) {d l : Addr} (s : Same H H') (hd : H d = none) (hl : H l = none) (dl : Deal H' d l) :
    ∃ w', Stp B.T G H w δ G H' w' δ ∧ Rep K B G H' σ δ [.ref d] [.ow .deal] w' := by
  obtain ⟨nd, nl, ed, el⟩ := noT_deal dl
  have g0 : ∀ x, H x = none → G x = none := fun x hx => by
    cases e : G x with
    | none => rfl
    | some o => have := r.sub x o e; rw [hx] at this; cases this
  have st : Stp B.T G H w δ G H' (fun a => if a = d ∨ a = l then some 1 else w a) δ := by
    refine .of ⟨fun _ _ h => h, fun x o hx ho => s x o ho, fun x n hx => ?_, fun _ _ h => .inl h, .refl _⟩ (.same s)
    split at hx
    · rename_i e
      rcases e with rfl | rfl
      · exact .inr hd
      · exact .inr hl
    · exact .inl (by rw [hx]; exact Option.some_ne_none _)
  have wn : ∀ x n, w x = some n → ¬ (x = d ∨ x = l) := fun x n hx z => by
    rcases z with rfl | rfl
    · exact (r.out _ n hx).2.1 hd
    · exact (r.out _ n hx).2.1 hl
  refine ⟨_, st, fun x o hx => s x o (r.sub x o hx), fun x n hx => ?_, r.len, fun k sl hk => ?_, rfl, fun j v q hv hq => ?_, st.bs r.bs⟩
  · split at hx
    · rename_i e
      rcases e with rfl | rfl
      · exact ⟨g0 _ hd, ed, nd⟩
      · exact ⟨g0 _ hl, el, nl⟩
    · obtain ⟨h1, h2, h3⟩ := r.out x n hx
      cases e2 : H x with
      | none => exact absurd e2 h2
      | some u => exact ⟨h1, by rw [s x u e2]; exact Option.some_ne_none _, noT_same e2 (s x u e2) h3⟩
  · refine (r.sl k sl hk).mono (fun _ _ h => h) (fun x u mx hu => s x u hu) fun x u mx _ => ?_
    show (if x = d ∨ x = l then some 1 else w x) = _
    rw [if_neg (wn x _ mx)]
    exact mx
  · cases j with
    | succ j => simp at hv
    | zero =>
      cases hv
      cases hq
      exact ⟨d, l, rfl, if_pos (.inl rfl), if_pos (.inr rfl), dl⟩
end
/-! ### what a draw does, by value -/
def psp_draw : PSp := fun as Q _ => ∃ n : Int, as = [.ow true .deal, .im (.int n)] ∧ 0 < n ∧ n < 2 ^ 200 ∧ ∀ k : Nat, (k : Int) < n → Q (.im (.int k)) as
theorem two_of {vs : List V} {as : List Sl} {a b : Sl} (hl : (vs.map some).length = as.length) (ha : as = [a, b]) : ∃ x y, vs = [x, y] := by
  subst ha
  match vs, hl with
  | [x, y], _ => exact ⟨x, y, rfl⟩
theorem conv_draw {K : PySem.W.Frag} {T : List NdefX.NTab} (vs : List V) (H : Hp) (Q : VK) (E : XK) (h : LSp K T psp_draw vs H Q E) : sp_draw vs H Q E := by
  obtain ⟨G, w, as, Qp, Ep, rep, _, ⟨n, rfl, h0, h1, hq⟩, k, _⟩ := h
  obtain ⟨x, y, rfl⟩ := two_of rep.len rfl
  obtain ⟨v, hv, d, l, rfl, wd, wl, dl⟩ := rep.sl 0 _ rfl
  obtain ⟨u, hu, dq⟩ := rep.sl 1 _ rfl
  cases hv
  cases hu
  cases dq
  refine ⟨d, l, n, rfl, h0, h1, dl, fun j H' j0 j1 but dl' => ?_⟩
  obtain ⟨st, r2⟩ := rep.deal (i := 0) rfl rfl wd wl dl but dl'
  obtain ⟨m, rfl⟩ := Int.eq_ofNat_of_zero_le j0
  exact k _ _ _ _ _ _ (hq m j1) rfl (st.trans .drop) (r2.ret (.int _))
def psp_deal : PSp := fun as Q _ => ∃ (b : Int) (ns : List Int), as = [.ow true (.scr ns), .im (.int b)] ∧ 0 ≤ b ∧ b ≤ 63 ∧ ns.length ≤ 1000 ∧ Q (.ow .deal) as
theorem conv_deal {K : PySem.W.Frag} {T : List NdefX.NTab} (vs : List V) (H : Hp) (Q : VK) (E : XK) (h : LSp K T psp_deal vs H Q E) : sp_deal K vs H Q E := by
  obtain ⟨G, w, as, Qp, Ep, rep, _, ⟨b, ns, rfl, h0, h1, hn, hq⟩, k, _⟩ := h
  obtain ⟨x, y, rfl⟩ := two_of rep.len rfl
  obtain ⟨v, hv, a, rfl, hs⟩ := rep.sl 0 _ rfl
  obtain ⟨u, hu, dq⟩ := rep.sl 1 _ rfl
  cases hv
  cases hu
  cases dq
  have sq : SqL K H a (ns.map V.int) := by
    rcases hs with ⟨o, _, ho⟩ | hs
    · exact .inl (.inr ⟨o, ho⟩)
    · exact hs H
  refine ⟨a, b, ns, rfl, sq, h0, h1, hn, fun d l H' s hd hl dl => ?_⟩
  obtain ⟨w', st, r2⟩ := rep.newDeal s hd hl dl
  exact k _ _ _ _ _ _ hq rfl st r2
/-! ### loops over range(n) -/
theorem rgD_get {a b : Int} {i : Nat} {d : PyData} (h : (rgD a b)[i]? = some d) : d = .int (a + (i : Nat)) ∧ i < (b - a).toNat := by
  unfold rgD at h
  rw [List.getElem?_map] at h
  obtain ⟨j, h1, h2⟩ := Option.map_eq_some_iff.mp h
  obtain ⟨h3, h4⟩ := List.getElem?_eq_some_iff.mp h1
  rw [List.getElem_range] at h4
  rw [List.length_range] at h3
  subst h4
  exact ⟨h2.symm, h3⟩
theorem rgD_len (a b : Int) : (rgD a b).length = (b - a).toNat := by unfold rgD; rw [List.length_map, List.length_range]
/-- for i in range(a, n): I at each turn -/
theorem for_rg2 {step : PyData → PSx} {ts : List Nat} {E : PEn} {n : Int} (a m : Nat) {δ : List Sl} (hn : n = m) (ham : a ≤ m) (I : Nat → List Sl → Prop) (h0 : I a δ) (hs : ∀ (i : Nat) δ, a ≤ i → i < m → I i δ → step (.int (i : Int)) ⟨fun δ' => I (i + 1) (wipeT δ' ts), E.rt, fun δ' => E.nx (wipeT δ' ts), fun δ' => I (i + 1) (wipeT δ' ts)⟩ δ) (he : ∀ δ, I m δ → E.nx δ) : loopI step ts E (rgD a n) δ := by
  subst hn
  refine ⟨fun i δ => I (a + i) δ, h0, fun i d δ hd hi => ?_, fun δ h => he δ ?_⟩
  · obtain ⟨rfl, hl⟩ := rgD_get hd
    have := hs (a + i) δ (by omega) (by omega) hi
    rw [Int.natCast_add] at this
    exact this
  · rw [rgD_len] at h
    have e : a + ((m : Int) - a).toNat = m := by omega
    rw [e] at h
    exact h
theorem for_rg {step : PyData → PSx} {ts : List Nat} {E : PEn} {n : Int} (m : Nat) {δ : List Sl} (hn : n = m) (I : Nat → List Sl → Prop) (h0 : I 0 δ) (hs : ∀ (i : Nat) δ, i < m → I i δ → step (.int (i : Int)) ⟨fun δ' => I (i + 1) (wipeT δ' ts), E.rt, fun δ' => E.nx (wipeT δ' ts), fun δ' => I (i + 1) (wipeT δ' ts)⟩ δ) (he : ∀ δ, I m δ → E.nx δ) : loopI step ts E (rgD 0 n) δ :=
  for_rg2 0 m hn (Nat.zero_le m) I h0 (fun i δ _ => hs i δ) he
theorem atI_of {α : Type} {xs : List α} {i : Int} {j : Nat} {v : α} (hi : i = (j : Int)) (h : xs[j]? = some v) : atI xs i = some v := by rw [hi]; exact atI_nat h
end Pv
namespace Pv
open PySem PySem.Spec L2 Wf
variable {B : Bas}
/-! ### plain tuples: tuple(list) whose object is known; .index of them -/
theorem dqAll_ints2 {K : PySem.W.Frag} {G : Hp} : ∀ {ns : List Int} {us : List V}, DqAll K G us (ns.map PyData.int) → us = ns.map V.int
  | [], _, h => by cases h; rfl
  | n :: ns, _, h => by
    cases h with
    | cons h1 h2 =>
      cases h1
      rw [dqAll_ints2 h2]
      rfl
/-! ### list.index of numbers -/
end Pv
namespace Pv
open PySem PySem.Spec L2 Wf
/-- whole numbers from 0 on, as data -/
abbrev nD (k : Nat) : PyData := .int (k : Int)
abbrev dN (ns : List Nat) : List PyData := ns.map nD
theorem dN_len (ns : List Nat) : (dN ns).length = ns.length := List.length_map _
theorem dN_get {ns : List Nat} {i k : Nat} (h : ns[i]? = some k) : (dN ns)[i]? = some (nD k) := by rw [dN, List.getElem?_map, h]; rfl
theorem dN_app (a b : List Nat) : dN (a ++ b) = dN a ++ dN b := List.map_append
theorem szN {n m : Nat} (h : n ≤ m) (hm : m < sizeLine) : n < sizeLine := Nat.lt_of_le_of_lt h hm
theorem nd1 (i : Nat) : [i].Nodup := by simp
/-! ### _law_mixed -/
def psp_mixed : PSp := fun as Q _ => ∃ n : Nat, as = [.ow true .deal, .im (.int n)] ∧ n ≤ 1000 ∧ ∀ ns : List Nat, ns.Perm (List.range n) → Q (.ow (.lst (dN ns))) [.ow true .deal, .un]
theorem ixN_nat {n i : Nat} (h : i < n) : ixN n (i : Int) = some i := by
  unfold ixN
  rw [if_pos (by omega), if_pos (by omega)]
  rfl
/-- for k in a row of numbers -/
theorem for_dN {step : PyData → PSx} {ts : List Nat} {E : PEn} {δ : List Sl} (ws : List Nat) (I : Nat → List Sl → Prop) (h0 : I 0 δ) (hs : ∀ (i k : Nat) δ, ws[i]? = some k → I i δ → step (nD k) ⟨fun δ' => I (i + 1) (wipeT δ' ts), E.rt, fun δ' => E.nx (wipeT δ' ts), fun δ' => I (i + 1) (wipeT δ' ts)⟩ δ) (he : ∀ δ, I ws.length δ → E.nx δ) : loopI step ts E (dN ws) δ := by
  refine ⟨I, h0, fun i d δ hd hi => ?_, fun δ h => he δ (by rw [dN_len] at h; exact h)⟩
  rw [dN, List.getElem?_map] at hd
  obtain ⟨k, hk, rfl⟩ := Option.map_eq_some_iff.mp hd
  exact hs i k δ hk hi
/-! ### _law_order -/
def swp (xs : List Nat) (k : Nat) : List Nat := (xs.set k (xs.getD (k + 1) 0)).set (k + 1) (xs.getD k 0)
theorem swp_len (xs : List Nat) (k : Nat) : (swp xs k).length = xs.length := by simp [swp]
def goW (xs : List Nat) (ws : List Nat) : List Nat := ws.foldl swp xs
theorem getD_of {xs : List Nat} {i : Nat} (h : i < xs.length) : xs[i]? = some (xs.getD i 0) := by
  rw [List.getD_eq_getElem?_getD, List.getElem?_eq_getElem h]
  rfl
end Pv
namespace Pv
open PySem PySem.Spec L2 Wf
/-! ### _law_pairs -/
/-- those j from i + 1 on, below m, that stand before i -/
def passI (os : List Nat) (i m : Nat) : List (Nat × Nat) := ((List.range m).filter fun j => decide (i < j) && decide (os.idxOf j < os.idxOf i)).map fun j => (i, j)
def passD (os : List Nat) (n : Nat) : List (Nat × Nat) := (List.range n).flatMap fun i => passI os i os.length
def passP (os : List Nat) : List (Nat × Nat) := passD os os.length
end Pv
namespace Pv
open PySem PySem.Spec L2 Wf
/-! ### _law_last -/
theorem noPin1 {δ : List Sl} {v : Nat} (h : ∀ o, δ[v]? ≠ some (.ow true o)) : noPin δ [v] := fun u hu o => by
  rw [List.mem_singleton] at hu
  subst hu
  exact h o
/-! ### _law_word -/
/-- the letter k may be done: the two are unlike, the one behind of the greater kind, or any (free) -/
def letOk (f : Bool) (st : List Nat) (k : Nat) : Prop := k + 1 < st.length ∧ (st.getD (k + 1) 0 < st.getD k 0 ∨ f = true ∧ st.getD k 0 ≠ st.getD (k + 1) 0)
def wordOk (f : Bool) : List Nat → List Nat → Prop
  | _, [] => True
  | st, k :: ws => letOk f st k ∧ wordOk f (swp st k) ws
theorem wordOk_snoc {f : Bool} : ∀ {ws st : List Nat} {k : Nat}, wordOk f st ws → letOk f (goW st ws) k → wordOk f st (ws ++ [k])
  | [], st, k, _, h => ⟨h, trivial⟩
  | w :: ws, st, k, h1, h => ⟨h1.1, wordOk_snoc h1.2 h⟩
theorem wordOk_lt {f : Bool} : ∀ {ws st : List Nat}, wordOk f st ws → ∀ w ∈ ws, w + 1 < st.length
  | [], _, _, w, hw => by cases hw
  | k :: ws, st, h, w, hw => by
    cases hw with
    | head => exact h.1.1
    | tail _ hw => have := wordOk_lt h.2 w hw; rw [swp_len] at this; exact this
end Pv
namespace Pv
open PySem PySem.Spec L2 Wf
/-! ### orders -/
theorem swp_perm {xs : List Nat} {k : Nat} (h : k + 1 < xs.length) : (swp xs k).Perm xs := by
  unfold swp
  have e1 : xs.getD (k + 1) 0 = xs[k + 1] := by rw [List.getD_eq_getElem?_getD, List.getElem?_eq_getElem h]; rfl
  have e2 : xs.getD k 0 = xs[k] := by rw [List.getD_eq_getElem?_getD, List.getElem?_eq_getElem (show k < xs.length by omega)]; rfl
  rw [e1, e2]
  exact List.set_set_perm (by omega) h
theorem goW_perm : ∀ {ws xs : List Nat}, (∀ w ∈ ws, w + 1 < xs.length) → (goW xs ws).Perm xs
  | [], xs, _ => .refl _
  | w :: ws, xs, h => by
    have h1 := swp_perm (h w (List.mem_cons_self))
    exact (goW_perm (ws := ws) (xs := swp xs w) fun v hv => by rw [swp_len]; exact h v (List.mem_cons_of_mem _ hv)).trans h1
theorem idx_pair {R : Nat → Nat → Prop} {os : List Nat} (h : os.Pairwise R) {a b : Nat} (ha : a ∈ os) (hb : b ∈ os) (hi : os.idxOf a < os.idxOf b) : R a b := by
  have la := List.idxOf_lt_length_iff.mpr ha
  have lb := List.idxOf_lt_length_iff.mpr hb
  have := List.pairwise_iff_getElem.mp h _ _ la lb hi
  rwa [List.getElem_idxOf, List.getElem_idxOf] at this
theorem mem_passP {os : List Nat} {p : Nat × Nat} (h : p ∈ passP os) : p.1 < p.2 ∧ p.2 < os.length ∧ os.idxOf p.2 < os.idxOf p.1 := by
  unfold passP passD at h
  obtain ⟨i, hi, h⟩ := List.mem_flatMap.mp h
  unfold passI at h
  obtain ⟨j, hj, rfl⟩ := List.mem_map.mp h
  rw [List.mem_filter, List.mem_range, Bool.and_eq_true] at hj
  exact ⟨of_decide_eq_true hj.2.1, hj.1, of_decide_eq_true hj.2.2⟩
/-- forward: whoever has passed one is of a greater kind -/
def fwdB (ks os : List Nat) : Bool := (passP os).all fun p => decide (ks.getD p.2 0 < ks.getD p.1 0)
theorem mem_of_perm {os : List Nat} {n k : Nat} (h : os.Perm (List.range n)) : k ∈ os ↔ k < n := by rw [h.mem_iff, List.mem_range]
theorem perm_len {os : List Nat} {n : Nat} (h : os.Perm (List.range n)) : os.length = n := by rw [h.length_eq, List.length_range]
/-! ### sizes -/
end Pv
namespace Pv
open PySem PySem.Spec L2 Wf
/-! ### a law, by value: of each script it tells True -/
/-- no tables -/
abbrev TB0 : List NdefX.NTab := []
def psp_law : PSp := fun as Q _ => ∃ ns : List Int, as = [.ow true (.scr ns)] ∧ ns.length ≤ 1000 ∧ Q (.im (.bool true)) [.ow true (.scr ns)]
theorem end_law {K : PySem.W.Frag} {H : Hp} {a : Addr} {ns : List Int} (hl : ns.length ≤ 1000) (hO : Only H) (hS : SqL K H a (ns.map V.int)) : LSp K [] psp_law [.ref a] H (fun v _ => v = .bl true) fun _ _ _ => False := by
  have fin : ∀ (G : Hp) (w : Addr → Option Nat), Rep K (B0 [] H w) G H [some (.ref a)] [.ow true (.scr ns)] [] [] w → LSp K [] psp_law [.ref a] H (fun v _ => v = .bl true) fun _ _ _ => False := fun G w r => by
    refine ⟨G, w, [.ow true (.scr ns)], fun r _ => r = .im (.bool true), noX, r, fun s hs => ?_, ⟨ns, rfl, hl, rfl⟩, fun r δ' v H' G' w' hr _ _ rep => ?_, xok_no⟩
    · rw [List.mem_singleton] at hs
      exact .inr (.inr ⟨_, hs⟩)
    · subst hr
      have : Dq K G' v (.bool true) := rep.tm 0 v _ rfl rfl
      cases this
      rfl
  rcases hS with h | h
  · have ho : ∃ o, H a = some (.frz o (.lst (ns.map V.int))) := by
      rcases hO a with z | ⟨o, xs, z⟩
      · rcases h with h | ⟨o, h⟩ <;> rw [z] at h <;> cases h
      · rcases h with h | ⟨o', h⟩
        · rw [z] at h; cases h
        · rw [z] at h; cases h; exact ⟨_, z⟩
    obtain ⟨o, ho⟩ := ho
    refine fin (fun _ => none) (fun b => if b = a then some 0 else none) ⟨(fun _ _ z => by cases z), fun b i hb => ?_, rfl, fun i s hs => ?_, rfl, fun j v q hv => by simp at hv, ⟨fun b u hb => ?_, .refl, fun p hp => by simp [B0] at hp, nofun⟩⟩
    · split at hb
      · rename_i e
        subst e
        exact ⟨rfl, by rw [ho]; exact Option.some_ne_none _, NoX.of ho (fun _ z => by cases z) (fun _ _ z => by cases z) (fun _ z => by cases z)⟩
      · cases hb
    · match i, hs with
      | 0, hs =>
        cases hs
        exact ⟨.ref a, rfl, a, rfl, .inl ⟨o, if_pos rfl, ho⟩⟩
      | i + 1, hs => simp at hs
    · exact B0_some hb
  · refine fin (fun _ => none) (fun _ => none) ⟨(fun _ _ z => by cases z), (fun _ _ z => by cases z), rfl, fun i s hs => ?_, rfl, fun j v q hv => by simp at hv, ⟨fun b u hb => B0_some hb, .refl, fun p hp => by simp [B0] at hp, nofun⟩⟩
    match i, hs with
    | 0, hs =>
      cases hs
      exact ⟨.ref a, rfl, a, rfl, .inr fun H1 => .inr h⟩
    | i + 1, hs => simp at hs
/-! ### a, b = e, f with names that comprehensions read -/
theorem par_go0 : ∀ (vs : List V) (σ : St) (H : Hp) (Q : St → Hp → Prop), ([] : List Nat).length = vs.length → Q ((([] : List Nat).zip vs).foldl (fun σ p => σ.set p.1 (some p.2)) σ) H → gNil vs σ H Q
  | [], _, _, _, _, q => ⟨rfl, q⟩
theorem par_goS {i : Nat} {is : List Nat} {gs : TGs} (h : ∀ (vs : List V) (σ : St) (H : Hp) (Q : St → Hp → Prop), is.length = vs.length → Q ((is.zip vs).foldl (fun σ p => σ.set p.1 (some p.2)) σ) H → gs vs σ H Q) :
    ∀ (vs : List V) (σ : St) (H : Hp) (Q : St → Hp → Prop), (i :: is).length = vs.length → Q (((i :: is).zip vs).foldl (fun σ p => σ.set p.1 (some p.2)) σ) H → gCons (gName i) gs vs σ H Q
  | v :: vs, σ, H, Q, hl, q => ⟨v, vs, rfl, h vs _ H Q (by simpa using hl) q⟩
end Pv
namespace Pv
open PySem PySem.Spec L2 Wf
/-! ### what the program's three defs are to do -/
end Pv
namespace Pv
open PySem PySem.Spec L2 Wf
/-! ### what is caught: errors of one class C, by the name of C0; they are none of os -/
theorem _root_.L2.Room.units1 {k : Nat} {A : Around} (r : Room k A) : A.units + 65 < cLine := by have := r.un; omega
end Pv
namespace Pv
open PySem PySem.Spec L2 Wf
variable {B : Bas}
/-! ### abs, all, any, sorted -/
theorem dqAll_ofInts {K : PySem.W.Frag} {G : Hp} : ∀ ns : List Int, DqAll K G (ns.map V.int) (ns.map PyData.int)
  | [] => .nil
  | n :: ns => .cons (.int n) (dqAll_ofInts ns)
end Pv
/-! Good books are let by. -/
namespace Wf
open PySem PySem.Spec L2
end Wf
/-! Books by value; rows; is_whole, table_number, pair_at. -/
namespace Pv
open PySem PySem.Spec L2 Wf
variable {B : Bas}
/-! ### books -/
theorem four_of {vs : List V} {as : List Sl} {a b c d : Sl} (hl : (vs.map some).length = as.length) (ha : as = [a, b, c, d]) : ∃ x y z u, vs = [x, y, z, u] := by
  subst ha
  match vs, hl with
  | [x, y, z, u], _ => exact ⟨x, y, z, u, rfl⟩
def psp_book : PSp := fun as Q _ => ∃ m s f : Int, as = [.ow true .deal, .im (.int m), .im (.int s), .im (.int f)] ∧ 1 ≤ m ∧ m ≤ 5 ∧ 1 ≤ s ∧ s ≤ 6 ∧
  ∀ (ps : List Int) (ts : List Tab), PacesOk m ps → BookT m s f ts → BookOk m ⟨ps, s, ts⟩ → Q (.im (dB ⟨ps, s, ts⟩)) as
theorem conv_book {K : PySem.W.Frag} {T : List NdefX.NTab} (vs : List V) (H : Hp) (Q : VK) (E : XK) (h : LSp K T psp_book vs H Q E) : sp_book K vs H Q E := by
  obtain ⟨G, w, as, Qp, Ep, rep, _, ⟨m, s, f, rfl, m1, m5, s1, s6, hq⟩, k, _⟩ := h
  obtain ⟨x, y, z, u, rfl⟩ := four_of rep.len rfl
  obtain ⟨v, hv, d, l, rfl, wd, wl, dl⟩ := rep.sl 0 _ rfl
  obtain ⟨_, hu, dq⟩ := rep.sl 1 _ rfl
  cases hv
  cases hu
  cases dq
  obtain ⟨_, hu, dq⟩ := rep.sl 2 _ rfl
  cases hu
  cases dq
  obtain ⟨_, hu, dq⟩ := rep.sl 3 _ rfl
  cases hu
  cases dq
  refine ⟨d, l, m, s, f, rfl, m1, m5, s1, s6, dl, fun v ps ts H' but dl' hv pok bt => ?_⟩
  obtain ⟨st, r2⟩ := rep.deal (i := 0) rfl rfl wd wl dl but dl'
  obtain ⟨st3, r3⟩ := r2.pub (x := none) (fun _ _ _ h => h) .refl nofun
  have dq : Dq K (pubT G H' none) v (dB ⟨ps, s, ts⟩) := dp_pub (x := none) r2.sub (fun _ _ h => by cases h) _ _ (noL_dB _) hv
  exact k _ _ _ _ _ _ (hq ps ts pok bt ⟨pok, m1, m5, s1, s6, bt.ok⟩) rfl ((st.trans st3).trans .drop) (r3.ret dq)
/-- a new list of one's own, beside what the deal did -/
theorem Rep.newLst {K : PySem.W.Frag} {G H : Hp} {σ : St} {δ : List Sl} {w : Addr → Option Nat} (r : Rep K B G H σ δ [] [] w) {p : Addr} {us : List V} {ds : List PyData} (hp : G p = none) (hw : w p = none) (hb : B p = none) (hh : H p = some (.lst us)) (h : DqAll K G us ds) :
    ∃ w', (∀ a i, w' a = some i → w a ≠ none ∨ a = p) ∧ Rep K B G H σ δ [.ref p] [.ow (.lst ds)] w' := by
  refine ⟨fun a => if a = p then some 1 else w a, fun a i ha => ?_, r.sub, fun a i ha => ?_, r.len, fun i s hs => ?_, rfl, fun j u q hu hq => ?_, ⟨fun a o ho => ?_, r.bs.tt, r.bs.ta, r.bs.gt⟩⟩
  · by_cases e : a = p
    · exact .inr e
    · simp only [e, if_false] at ha
      exact .inl (by rw [ha]; exact Option.some_ne_none _)
  · by_cases e : a = p
    · subst e
      exact ⟨hp, by rw [hh]; exact Option.some_ne_none _, NoX.lst hh⟩
    · simp only [e, if_false] at ha
      exact r.out a i ha
  · refine (r.sl i s hs).mono (fun _ _ h => h) (fun _ _ _ h => h) fun a u ma _ => ?_
    by_cases e : a = p
    · subst e; rw [hw] at ma; cases ma
    · simp only [e, if_false]; exact ma
  · match j with
    | 0 =>
      simp only [List.getElem?_cons_zero, Option.some.injEq] at hu hq
      subst hu hq
      exact ⟨p, us, rfl, if_pos rfl, hh, h⟩
    | j + 1 => simp at hu
  · have := r.bs.to a o ho
    refine ⟨this.1, ?_, this.2.2⟩
    by_cases e : a = p
    · subst e; rw [hb] at ho; cases ho
    · simp only [e, if_false]; exact this.2.1
theorem nat_of_perm {n : Nat} {ns : List Int} (h : ns.Perm (iota (n : Int))) : ∃ ks : List Nat, ns = ks.map (fun k : Nat => (k : Int)) ∧ ks.Perm (List.range n) := by
  refine ⟨ns.map Int.toNat, ?_, ?_⟩
  · rw [List.map_map]
    have : ∀ x ∈ ns, ((fun k : Nat => (k : Int)) ∘ Int.toNat) x = x := fun x hx => by
      have := h.mem_iff.mp hx
      unfold iota at this
      obtain ⟨j, _, rfl⟩ := List.mem_map.mp this
      simp
    rw [List.map_congr_left this]
    simp
  · have := h.map Int.toNat
    unfold iota at this
    rw [List.map_map] at this
    have e : (Int.toNat ∘ fun i : Nat => (i : Int)) = id := by funext i; simp
    rw [e, List.map_id] at this
    simpa using this
theorem conv_mixed {K : PySem.W.Frag} {T : List NdefX.NTab} (vs : List V) (H : Hp) (Q : VK) (E : XK) (h : LSp K T psp_mixed vs H Q E) : sp_mixed vs H Q E := by
  obtain ⟨G, w, as, Qp, Ep, rep, _, ⟨n, rfl, n1, hq⟩, k, _⟩ := h
  obtain ⟨x, y, rfl⟩ := two_of rep.len rfl
  obtain ⟨v, hv, d, l, rfl, wd, wl, dl⟩ := rep.sl 0 _ rfl
  obtain ⟨u, hu, dq⟩ := rep.sl 1 _ rfl
  cases hv
  cases hu
  cases dq
  refine ⟨d, l, n, rfl, by omega, by omega, dl, fun F ns H' but dl' hF hF' pm => ?_⟩
  obtain ⟨st, r2⟩ := rep.deal (i := 0) rfl rfl wd wl dl but dl'
  obtain ⟨ks, rfl, pk⟩ := nat_of_perm pm
  have gF : G F = none := by
    cases e : G F with
    | none => rfl
    | some o => rw [rep.sub F o e] at hF; cases hF
  have wF : w F = none := by
    cases e : w F with
    | none => rfl
    | some i => exact absurd hF (rep.out F i e).2.1
  have bF : B0 T H w F = none := by
    cases e : B0 T H w F with
    | none => rfl
    | some o => rw [(B0_some e).1] at hF; cases hF
  have hd : DqAll K G ((ks.map fun k : Nat => (k : Int)).map V.int) (dN ks) := by
    have := dqAll_ofInts (K := K) (G := G) (ks.map fun k : Nat => (k : Int))
    rw [show dN ks = (ks.map fun k : Nat => (k : Int)).map PyData.int by rw [List.map_map]; rfl]
    exact this
  obtain ⟨w', hn, r3⟩ := r2.newLst gF wF bF hF' hd
  have st2 : Stp T G H w [.ow true .deal, .im (.int (n : Int))] G H' w' [.ow true .deal, .im (.int (n : Int))] := ⟨st.g, st.b, fun a i ha => by
    rcases hn a i ha with z | rfl
    · exact .inl z
    · exact .inr hF, st.p, .refl _, st.t, st.q⟩
  have r4 : Rep K (B0 T H w) G H' ([V.ref d, V.int (n : Int)].map some) [.ow true .deal, .un] [.ref F] [.ow (.lst (dN ks))] w' := ⟨r3.sub, r3.out, rfl, fun i s hs => by
    match i, hs with
    | 0, hs => exact r3.sl 0 s hs
    | 1, hs => cases hs; trivial
    | i + 2, hs => simp at hs, r3.tlen, r3.tm, r3.bs⟩
  exact k _ _ _ _ _ _ (hq ks pk) rfl ⟨st2.g, st2.b, st2.n, st2.p, fun i o hi => by
    match i, hi with
    | 0, hi => cases hi; exact ⟨_, rfl⟩
    | 1, hi => cases hi
    | i + 2, hi => simp at hi, st2.t, st2.q⟩ r4
end Pv
namespace Pv
open PySem PySem.Spec L2 Wf
/-! ### is_whole, is_letter -/
/-! ### table_number, pair_at -/
def p_table_number : PSx :=
    pRet (pAdd (pFdiv (pMul (pVar 0) (pSub (pVar 0) (pK (.int 1)))) (pK (.int 2))) (pVar 1))
def psp_table_number : PSp := fun as Q _ => ∃ u v : Int, as = [.im (.int u), .im (.int v)] ∧ 0 ≤ u ∧ u ≤ 1000 ∧ Q (.im (.int (tnum u v))) [.un, .un]
theorem cdiv2 (a : Int) : CDivW a 2 := wide_div (b := 2) (by decide) (by decide) (by decide) (by decide)
theorem hp_table_number (as : List Sl) (Qp : QE) (Ep : EX) (h : psp_table_number as Qp Ep) : p_table_number (endsP as Qp) (as ++ List.replicate 0 .un) := by
  obtain ⟨u, v, rfl, u0, u1, q⟩ := h
  exact ⟨trivial, .inl (.inl ⟨by omega, by omega⟩), cdiv2 _, _, _, rfl, q⟩
/-- the cell of a table, by value -/
theorem ix_tabD {B : Book} {m u v a b : Int} (ok : BookOk m B) (pl : Pl m B.s u v a b) : atI (B.ts.map dT) (tnum u v) = some (dT (B.tab u v)) :=
  Wf.atI_map (tnum_lt ok.m5 pl.u0 pl.u1 pl.v0 pl.v1).1 (Book.row ok pl).1
theorem ix_cellD {B : Book} {m u v a b : Int} (ok : BookOk m B) (pl : Pl m B.s u v a b) : atI ((B.tab u v).map dP) (a * B.s + b) = some (dP (B.at u v a b)) :=
  Wf.atI_map (ix_lt pl.a0 pl.a1 pl.b0 pl.b1).1 (Book.cell ok pl).1
def p_pair_at : PSx :=
    pSeq (pPar [5, 6] (pCons (pIx (pVar 0) (pK (.int 1))) (pCons (pIx (pVar 0) (pK (.int 2))) (pNil))))
    (pRet (pIx (pIx (pVar 6) (pCall psp_table_number (pCons (pFz (pVar 1)) (pCons (pFz (pVar 2)) (pNil))) noX)) (pAdd (pMul (pVar 3) (pVar 5)) (pVar 4))))
def psp_pair_at : PSp := fun as Q _ => ∃ (B : Book) (m u v a b : Int), as = [.im (dB B), .im (.int u), .im (.int v), .im (.int a), .im (.int b)] ∧ BookOk m B ∧ Pl m B.s u v a b ∧ Q (.im (dP (B.at u v a b))) [.un, .un, .un, .un, .un]
theorem hp_pair_at (as : List Sl) (Qp : QE) (Ep : EX) (h : psp_pair_at as Qp Ep) : p_pair_at (endsP as Qp) (as ++ List.replicate 2 .un) := by
  obtain ⟨B, m, u, v, a, b, rfl, ok, pl, q⟩ := h
  have := pl.u0
  have := pl.u1
  have := ok.m5
  have := pl.a0
  have := pl.a1
  have := ok.s6
  refine ⟨_, rfl, _, rfl, _, _, rfl, ?_⟩
  refine ⟨_, _, rfl, _, _, rfl, _, rfl, List.nodup_nil, u, v, rfl, by omega, by omega, ?_⟩
  refine ⟨_, ix_tabD ok pl, .inl (.inl ⟨by omega, by omega⟩), _, ix_cellD ok pl, _, _, rfl, q⟩
/-! ### rows -/
abbrev Wk := Int × Int
abbrev dR (r : List Wk) : PyData := .tuple (r.map dP)
def RowOk (m s : Int) (r : List Wk) : Prop := ∀ p ∈ r, 0 ≤ p.1 ∧ p.1 < m ∧ 0 ≤ p.2 ∧ p.2 < s
def wk (r : List Wk) (k : Nat) : Wk := r.getD k (0, 0)
def passR (B : Book) (r : List Wk) (k : Nat) : List Wk :=
  (r.set k ((wk r (k + 1)).1, (B.at (wk r k).1 (wk r (k + 1)).1 (wk r k).2 (wk r (k + 1)).2).1)).set (k + 1) ((wk r k).1, (B.at (wk r k).1 (wk r (k + 1)).1 (wk r k).2 (wk r (k + 1)).2).2)
theorem wk_get {r : List Wk} {k : Nat} (h : k < r.length) : r[k]? = some (wk r k) := by
  unfold wk
  simp [List.getD, List.getElem?_eq_getElem h]
theorem wk_ok {m s : Int} {r : List Wk} {k : Nat} (ok : RowOk m s r) (h : k < r.length) : 0 ≤ (wk r k).1 ∧ (wk r k).1 < m ∧ 0 ≤ (wk r k).2 ∧ (wk r k).2 < s := ok _ (List.mem_of_getElem? (wk_get h))
theorem passR_len (B : Book) (r : List Wk) (k : Nat) : (passR B r k).length = r.length := by unfold passR; rw [List.length_set, List.length_set]
theorem pl_of {B : Book} {m : Int} {r : List Wk} {k : Nat} (ok : RowOk m B.s r) (h : k + 1 < r.length) (c : (wk r (k + 1)).1 < (wk r k).1) : Pl m B.s (wk r k).1 (wk r (k + 1)).1 (wk r k).2 (wk r (k + 1)).2 := by
  obtain ⟨a1, a2, a3, a4⟩ := wk_ok ok (show k < r.length by omega)
  obtain ⟨b1, b2, b3, b4⟩ := wk_ok ok h
  exact ⟨by omega, a2, b1, c, a3, a4, b3, b4⟩
theorem passR_ok {B : Book} {m : Int} {r : List Wk} {k : Nat} (bk : BookOk m B) (ok : RowOk m B.s r) (h : k + 1 < r.length) (c : (wk r (k + 1)).1 < (wk r k).1) : RowOk m B.s (passR B r k) := by
  intro p hp
  have ii := (Book.cell bk (pl_of ok h c)).2
  obtain ⟨a1, a2, a3, a4⟩ := wk_ok ok (show k < r.length by omega)
  obtain ⟨b1, b2, b3, b4⟩ := wk_ok ok h
  unfold passR at hp
  rcases List.mem_or_eq_of_mem_set hp with hp | rfl
  · rcases List.mem_or_eq_of_mem_set hp with hp | rfl
    · exact ok p hp
    · exact ⟨b1, b2, ii.1, ii.2.1⟩
  · exact ⟨a1, a2, ii.2.2.1, ii.2.2.2⟩
def dK (ks : List Int) : PyData := .tuple (ks.map .int)
theorem ixNn {n j : Nat} {i : Int} (h : i = (j : Int)) (hj : j < n) : ixN n i = some j := by subst h; exact ixN_nat hj
end Pv
/-! x += list; sorted(list of tuples of numbers). -/
namespace Pv
open PySem PySem.Spec L2 Wf
variable {B : Bas}
theorem set_selfE {α : Type} {l : List α} {i : Nat} {x : α} (h : l[i]? = some x) : l.set i x = l := by
  obtain ⟨hi, e⟩ := List.getElem?_eq_some_iff.mp h
  rw [← e]
  exact List.set_getElem_self hi
def pAug (i : Nat) (pa : PX) : PSx := fun E δ => ∃ b0 ds0, δ[i]? = some (.ow b0 (.lst ds0)) ∧ pa δ fun r δ1 => ∃ as δ2 b ds es, fzAll δ1 [r] = some (as, δ2) ∧ δ2[i]? = some (.ow b (.lst ds)) ∧ as = [.list es] ∧ ds.length + es.length ≤ sizeLine ∧ E.nx (δ2.set i (.ow b (.lst (ds ++ es))))
theorem js_aug {X : Cx} {i : Nat} {x : Str} {e : Expr} {pa : PX} {pos pos' : Pos} (hN : X.N.Nodup) (hi : X.N[i]? = some x) (hx : Loc X.env.scope x) (he : JE X B e pa) (hf : X.fn x = true ∨ X.env.scope.names.lookup x = some .local := by first | exact .inl rfl | exact .inr rfl | assumption) :
    JS X B (.AugAssign (.Name x pos') .Add e pos) (pAug i pa) := PS_wk (ps_aug hN hi hx he iop_ext hf) fun D σ H ⟨G, w, δ, E, rep, ⟨b0, ds0, e0, q⟩, ek⟩ => by
  obtain ⟨a0, us0, hσ0, _, ha0, _⟩ := rep.own e0
  refine ⟨.ref a0, hσ0, G, w, δ, _, rep, q, fun r δ1 y H1 G1 w1 q1 s1 rep1 => ?_⟩
  obtain ⟨as, δ2, b, ds, es, e1, e2, rfl, hl, q1⟩ := q1
  obtain ⟨G3, w3, s3, r3⟩ := rep1.fzs e1
  obtain ⟨a, us, hσ, hw, ha, hd⟩ := r3.own e2
  rw [hσ0] at hσ
  cases hσ
  have hy : DqAll _ G3 [y] [.list es] := r3.ims
  cases hy with
  | cons h1 hn =>
    cases h1 with
    | lst hs h2 =>
      obtain ⟨s4, r4⟩ := r3.wr e2 hσ0 hw ha (dqAll_append hd h2)
      refine ⟨_, _, us, _, rfl, rfl, ha, r3.sub _ _ hs, by rw [dqAll_len hd, dqAll_len h2]; exact hl, ?_⟩
      show D.nx (σ.set i (some (.ref _))) _
      rw [set_selfE hσ0]
      exact ek.nx _ _ _ G3 _ q1 (((s1.trans s3).trans s4).trans .drop) r4.drop .refl
/-! ### sorted(list of tuples of d numbers in [0, B)) -/
theorem dq_perm {K : PySem.W.Frag} {G : Hp} {us ys : List V} (h : ys.Perm us) : ∀ {nss : List (List Int)}, DqAll K G us (nss.map dK) → ∃ mss : List (List Int), mss.Perm nss ∧ DqAll K G ys (mss.map dK) := by
  induction h with
  | nil => exact fun {nss} h => ⟨nss, .refl _, h⟩
  | cons x h ih =>
    intro nss hd
    match nss, hd with
    | n :: nss, .cons h1 h2 =>
      obtain ⟨mss, p, q⟩ := ih h2
      exact ⟨n :: mss, p.cons n, .cons h1 q⟩
  | swap x y l =>
    intro nss hd
    match nss, hd with
    | n :: m :: nss, .cons h1 (.cons h2 h3) => exact ⟨m :: n :: nss, .swap _ _ _, .cons h2 (.cons h1 h3)⟩
  | trans h1 h2 ih1 ih2 =>
    intro nss hd
    obtain ⟨mss, p, q⟩ := ih2 hd
    obtain ⟨lss, p2, q2⟩ := ih1 q
    exact ⟨lss, p2.trans p, q2⟩
theorem dq_tupI {K : PySem.W.Frag} {G H : Hp} {v : V} {ns : List Int} (s : ∀ a o, G a = some o → H a = some o) (h : Dq K G v (dK ns)) : TupI K H v ns := by
  unfold dK at h
  cases h with
  | tup hs hd =>
    cases dqAll_ints2 hd
    refine ⟨_, rfl, ?_⟩
    rcases hs with (h | ⟨o, h⟩) | h
    · exact .inl (.inl (s _ _ h))
    · exact .inl (.inr ⟨o, s _ _ h⟩)
    · exact .inr h
theorem dq_pairs {K : PySem.W.Frag} {G H : Hp} {R : List Int → List Int → Prop} (s : ∀ a o, G a = some o → H a = some o) : ∀ {mss : List (List Int)} {ys : List V}, DqAll K G ys (mss.map dK) → ys.Pairwise (fun x y => ∀ n m, TupI K H x n → TupI K H y m → R n m) → mss.Pairwise R
  | [], _, _, _ => .nil
  | m :: mss, _, .cons (vs := ys) h1 h2, hp => by
    have hp := List.pairwise_cons.mp hp
    refine List.pairwise_cons.mpr ⟨fun n hn => ?_, dq_pairs s h2 hp.2⟩
    have go : ∀ {mss : List (List Int)} {ys : List V}, DqAll K G ys (mss.map dK) → n ∈ mss → ∃ y ∈ ys, TupI K H y n := by
      intro mss
      induction mss with
      | nil => intro _ _ h; cases h
      | cons k ks ih =>
        intro ys hd hm
        match ys, hd with
        | y :: ys, .cons g1 g2 =>
          rcases List.mem_cons.mp hm with rfl | hm
          · exact ⟨y, List.mem_cons_self, dq_tupI s g1⟩
          · obtain ⟨z, hz, t⟩ := ih g2 hm
            exact ⟨z, List.mem_cons_of_mem _ hz, t⟩
    obtain ⟨y, hy, t⟩ := go h2 hn
    exact hp.1 y hy _ _ (dq_tupI s h1) t
theorem dq_each {K : PySem.W.Frag} {G H : Hp} (s : ∀ a o, G a = some o → H a = some o) {nss : List (List Int)} : ∀ {us : List V}, DqAll K G us (nss.map dK) → ∀ x ∈ us, ∃ ns ∈ nss, TupI K H x ns := by
  induction nss with
  | nil => intro us h x hx; cases h; cases hx
  | cons n nss ih =>
    intro us h x hx
    match us, h with
    | u :: us, .cons h1 h2 =>
      rcases List.mem_cons.mp hx with rfl | hx
      · exact ⟨n, List.mem_cons_self, dq_tupI s h1⟩
      · obtain ⟨m, hm, t⟩ := ih h2 x hx
        exact ⟨m, List.mem_cons_of_mem _ hm, t⟩
end Pv
/-! Comprehensions with two fors, by value. -/
namespace Pv
open PySem PySem.Spec L2 Wf
end Pv
/-! A def within a def, told with how the tables of code grow. -/
namespace Pv
open PySem PySem.Spec PyProof.Rows L2 LamX NdefX Wf
end Pv
/-! What the head tells of error classes; whole numbers by their names. -/
namespace Wf
open PySem PySem.Spec PyProof.Rows L2
/-! ### classes of errors -/
/-! ### a hook: what the module's names reach, and the runtime's own names -/
def frW (n : Nat) (g : Addr → Option Obj) : PySem.W.Frag := He.frT g (cStatics :: He.asD g n)
def obsW (n : Nat) (fa : List He.Fa) (fn : List He.DefD) (ex : PySem.W.Frag → Bool) (g : Addr → Option Obj) : He.AlD × Bool := (He.obsD fa fn (frW n g), ex (frW n g))
def hookW (n : Nat) (fa : List He.Fa) (fn : List He.DefD) (ex : PySem.W.Frag → Bool) : PySem.W.Hook where
  α := He.AlD × Bool
  obs := fun s => obsW n fa fn ex s.heap.get?
  val := fun _ => (He.valD fn, true)
  says := fun _ h => ∃ K : PySem.W.Frag, K.In h ∧ He.SaysD fa fn K ∧ ex K = true
  of := fun _ _ e => ⟨_, He.frT_in, congrArg (fun z : He.AlD × Bool => z.1) e, congrArg (fun z : He.AlD × Bool => z.2) e⟩
  keeps := fun _ _ _ ⟨K, hK, c⟩ k => ⟨K, PySem.W.Frag.In.keeps hK k, c⟩
theorem obsW_eq {n : Nat} {fa : List He.Fa} {fn : List He.DefD} {ex : PySem.W.Frag → Bool} {g : Addr → Option Obj} {s : Shared} (h : ∀ a, g a = s.heap.get? a) : obsW n fa fn ex g = (hookW n fa fn ex).obs s := by
  have e : g = s.heap.get? := funext h
  rw [e] <;> rfl
end Wf
/-! The end of a law whose defs make defs: tables of code objects, no guard. -/
namespace Wf
open PySem PySem.Spec PyProof.Rows L2 LamX
/-! ### a hook that tells of tables -/
end Wf
/-! A law whose program makes defs: its beginning, by value; old contracts that let tables grow, by value. -/
namespace Pv
open PySem PySem.Spec L2 LamX NdefX Wf
end Pv
/-! Lambdas that hold nothing: made, handed on, called; by value. -/
namespace Pv
open PySem PySem.Spec PyProof.Rows L2 LamX NdefX Wf
end Pv
/-! Lambdas called. -/
namespace Pv
open PySem PySem.Spec PyProof.Rows L2 LamX NdefX Wf
end Pv
/-! sorted(range(n), key=a lambda that holds a name). -/
namespace Pv
open PySem PySem.Spec PyProof.Rows L2 LamX NdefX Wf SrtO Srt
/-! ### a lambda that holds names, called -/
/-! ### list.sort(key=f) -/
section
variable {X : Cx} {A : Around} {pins : List (Addr × Obj)} {σ : L2.St} {H : Hp} {s : Shared} {a kS f : Addr} {e e1 : Nat} {P : PySem.Fin → Shared → Prop} {E : Value → Shared → Prop}
def KeysAt (H : Hp) (kf : Int → Int × Int) (us : List Value) (ns : List Int) : Prop := ∃ ps : List Addr, us = ps.map Value.ref ∧ ps.length = ns.length ∧ ∀ (j : Nat) p n, ps[j]? = some p → ns[j]? = some n → H p = some (.tup [.int (kf n).1, .int (kf n).2])
theorem KeysAt.mono {H H' : Hp} {kf : Int → Int × Int} {us : List Value} {ns : List Int} (k : KeysAt H kf us ns) (h : ∀ b xs, H b = some (.tup xs) → H' b = some (.tup xs)) : KeysAt H' kf us ns := by
  obtain ⟨ps, e, hl, hk⟩ := k
  exact ⟨ps, e, hl, fun j q m hq hm => h _ _ (hk j q m hq hm)⟩
end
section
variable {X : Cx} {pins : List (Addr × Obj)} {σ : L2.St} {H : Hp} {s : Shared} {f r : Addr} {E : Value → Shared → Prop} {Q : Value → Shared → Prop}
theorem vals_ints : ∀ {ns : List Int} {us : List Value}, IntsAre us ns → Vals (ns.map V.int) us
  | _, _, .nil => .nil
  | _, _, .cons n t h => .cons ⟨t, rfl⟩ (vals_ints h)
end
end Pv
/-! A def whose code object is known, by value; the lambda of a def. -/
namespace Pv
open PySem PySem.Spec PyProof.Rows L2 LamX NdefX Wf
end Pv
/-! sorted(range(n), key=lambda i: (x[i], i)), by value. -/
namespace Pv
open PySem PySem.Spec PyProof.Rows L2 LamX NdefX Wf SrtO Srt
end Pv
namespace Pv
open PySem PySem.Spec L2 Wf
/-! ### _law_row, _law_led -/
def ledN (B : Book) (r : List Wk) (ks : List Nat) : List Wk := ks.foldl (passR B) r
def fwdW (B : Book) : List Wk → List Nat → Prop
  | _, [] => True
  | r, k :: ks => (k + 1 < r.length ∧ (wk r (k + 1)).1 < (wk r k).1) ∧ fwdW B (passR B r k) ks
/-! ### data of rows, for repr and alike -/
/-- for x in a list of numbers -/
theorem for_all {step : PyData → PSx} {ts : List Nat} {E : PEn} {ds : List PyData} {δ : List Sl} (P : PyData → Prop) (hP : ∀ d ∈ ds, P d) (I : List Sl → Prop) (h0 : I δ) (hs : ∀ d δ, P d → I δ → step d ⟨fun δ' => I (wipeT δ' ts), E.rt, fun δ' => E.nx (wipeT δ' ts), fun δ' => I (wipeT δ' ts)⟩ δ) (he : ∀ δ, I δ → E.nx δ) : loopI step ts E ds δ :=
  ⟨fun _ δ => I δ, h0, fun i d δ hd hi => hs d δ (hP d (List.mem_of_getElem? hd)) hi, he⟩
end Pv
/-! Calls that draw: what stands in the slots stays, as it is written. -/
namespace Pv
open PySem PySem.Spec L2 Wf
theorem pk0 {s : Sl} {b : Bool} {d : PyData} {δ : List Sl} : putB (.ow b .deal :: δ) [.at 0, .im d] [.ow true .deal, s] = .ow b .deal :: δ := rfl
end Pv
namespace Pv
open PySem PySem.Spec L2 Wf
/-! ### slices, equal data -/
theorem cut_take {α : Type} (xs : List α) (k : Nat) : cutD xs none (some (k : Int)) = xs.take k := by
  unfold cutD
  rw [HT.sIx_none, HT.sIx_nat, List.drop_zero, Nat.sub_zero]
  by_cases h : k ≤ xs.length
  · rw [Nat.min_eq_left h]
  · rw [Nat.min_eq_right (by omega), List.take_length, List.take_of_length_le (by omega)]
theorem shapedT_map {α : Type} (f : α → PyData) (n : Nat) (hn : n < 64) (l : List α) (h : ∀ x ∈ l, (f x).canLay0 = true ∧ (f x).depth ≤ n) : SeqAt.shaped (.tuple (l.map f)) = true := by
  have h := lay_map f n l h
  have h2 : (PyData.tuple (l.map f)).depth ≤ n + 1 := Nat.succ_le_succ h.2
  unfold SeqAt.shaped
  rw [show (PyData.tuple (l.map f)).canLay0 = true from h.1]
  simp
  omega
theorem eqd_self {d : PyData} (h : SeqAt.shaped d = true) : eqd d d = true := SeqAt.eqv_refl d (SeqAt.canLay_of_shaped h)
theorem lay_dP (p : Wk) : (dP p).canLay0 = true ∧ (dP p).depth ≤ 1 := ⟨rfl, by show max 0 (max 0 0) + 1 ≤ 1; decide⟩
/-! ### kinds of rows, forward words -/
def kindsN (r : List Wk) : List Nat := r.map fun p => p.1.toNat
theorem kindsN_len (r : List Wk) : (kindsN r).length = r.length := List.length_map _
theorem kindsN_get {r : List Wk} {k : Nat} (h : k < r.length) : (kindsN r).getD k 0 = (wk r k).1.toNat := by
  unfold kindsN
  simp [List.getD, List.getElem?_map, wk_get h]
theorem kinds_pass (B : Book) {r : List Wk} {k : Nat} (h : k + 1 < r.length) : kindsN (passR B r k) = swp (kindsN r) k := by
  unfold passR swp
  rw [kindsN_get h, kindsN_get (show k < r.length by omega)]
  unfold kindsN
  rw [List.map_set, List.map_set]
theorem fwd_of_word {B : Book} {m : Int} (bk : BookOk m B) : ∀ {ws : List Nat} {r : List Wk}, RowOk m B.s r → wordOk false (kindsN r) ws → fwdW B r ws
  | [], _, _, _ => trivial
  | k :: ws, r, ok, h => by
    have h1 := h.1.1
    rw [kindsN_len] at h1
    have h2 : (wk r (k + 1)).1 < (wk r k).1 := by
      rcases h.1.2 with z | z
      · rw [kindsN_get h1, kindsN_get (show k < r.length by omega)] at z
        have := (wk_ok ok h1).1
        have := (wk_ok ok (show k < r.length by omega)).1
        omega
      · exact absurd z.1 (by decide)
    refine ⟨⟨h1, h2⟩, fwd_of_word bk (passR_ok bk ok h1 h2) ?_⟩
    rw [kinds_pass B h1]
    exact h.2
theorem ledN_app (B : Book) (r : List Wk) (a b : List Nat) : ledN B r (a ++ b) = ledN B (ledN B r a) b := by
  unfold ledN
  rw [List.foldl_append]
/-- the kinds of a row, as data -/
theorem kinds_data {m s : Int} {r : List Wk} (ok : RowOk m s r) : (r.map fun p => PyData.int p.1) = dN (kindsN r) := by
  unfold kindsN dN
  rw [List.map_map]
  refine List.map_congr_left fun p hp => ?_
  have := (ok p hp).1
  show PyData.int p.1 = .int ((p.1.toNat : Nat) : Int)
  rw [Int.toNat_of_nonneg this]
end Pv
namespace Pv
open PySem PySem.Spec L2 Wf
/-! ### in, not in: texts or numbers in a tuple or list of such -/
/-! ### repr of a list -/
end Pv
/-! tuple(zip(t, u)), t and u tuples of one length -/
namespace Wf
open PySem PySem.Spec PyProof.Rows
end Wf
namespace Pv
open PySem PySem.Spec L2 Wf
/-! ### tuple(zip(t, u)) -/
end Pv
namespace Pv
open PySem PySem.Spec L2 Wf
/-! ### burdens_of -/
abbrev bDs (r : List Wk) : List PyData := r.map fun p => PyData.int p.2
def psp_burdens_of : PSp := fun as Q _ => ∃ r : List Wk, as = [.im (dR r)] ∧ r.length ≤ 1000 ∧ Q (.im (.tuple (bDs r))) [.un]
def pe_burdens_of_1 : PX :=
    pVar 2
def p_burdens_of : PSx :=
    pRet (pC (q1 fTupleOf) (pCons (pComp (iSeq (pVar 0)) (gT 2 (gsC (gN 1) (gsC (gN 2) (gsN)))) (pYes) (pe_burdens_of_1) [1, 2]) (pNil)))
theorem noPin2 {δ : List Sl} {u v : Nat} (h1 : ∀ o, δ[u]? ≠ some (.ow true o)) (h2 : ∀ o, δ[v]? ≠ some (.ow true o)) : noPin δ [u, v] := fun x hx o => by
  simp only [List.mem_cons, List.not_mem_nil, or_false] at hx
  rcases hx with rfl | rfl
  · exact h1 o
  · exact h2 o
theorem hp_burdens_of (as : List Sl) (Qp : QE) (Ep : EX) (h : psp_burdens_of as Qp Ep) : p_burdens_of (endsP as Qp) (as ++ List.replicate 2 .un) := by
  obtain ⟨r, rfl, hl, q⟩ := h
  refine ⟨_, _, _, rfl, rfl, noPin2 (fun o => nofun) (fun o => nofun), fun j acc δ => acc = bDs (r.take j) ∧ δ = [.im (dR r), .un, .un], ⟨rfl, rfl⟩, ?_, ?_⟩
  · rintro j d acc δ hd ⟨rfl, rfl⟩
    rw [List.getElem?_map] at hd
    obtain ⟨p, hp, rfl⟩ := Option.map_eq_some_iff.mp hd
    have hj := (List.getElem?_eq_some_iff.mp hp).1
    refine ⟨rfl, rfl, _, _, rfl, ?_, ?_, rfl⟩
    · rw [List.length_map, List.length_take]
      exact szN (m := 1000) (by omega) (by decide)
    · rw [List.take_add_one, hp]
      show bDs (r.take j) ++ [PyData.int p.2] = List.map _ (r.take j ++ [p])
      rw [List.map_append]
      rfl
  · rintro acc δ ⟨rfl, rfl⟩
    rw [List.length_map, List.take_length]
    exact ⟨_, _, rfl, q⟩
/-! ### both_ways -/
structure Tri (m : Int) (s u v w a b c : Int) : Prop where
  w0 : 0 ≤ w
  wv : w < v
  vu : v < u
  um : u < m
  a0 : 0 ≤ a
  a1 : a < s
  b0 : 0 ≤ b
  b1 : b < s
  c0 : 0 ≤ c
  c1 : c < s
abbrev tri (u v w a b c : Int) : List Wk := [(u, a), (v, b), (w, c)]
theorem Tri.ok {m s u v w a b c : Int} (h : Tri m s u v w a b c) : RowOk m s (tri u v w a b c) := fun p hp => by
  have := h.w0; have := h.wv; have := h.vu; have := h.um
  have := h.a0; have := h.a1; have := h.b0; have := h.b1; have := h.c0; have := h.c1
  simp only [List.mem_cons, List.not_mem_nil, or_false] at hp
  rcases hp with rfl | rfl | rfl
  · exact ⟨by show 0 ≤ u; omega, by show u < m; omega, by show 0 ≤ a; omega, by show a < s; omega⟩
  · exact ⟨by show 0 ≤ v; omega, by show v < m; omega, by show 0 ≤ b; omega, by show b < s; omega⟩
  · exact ⟨by show 0 ≤ w; omega, by show w < m; omega, by show 0 ≤ c; omega, by show c < s; omega⟩
end Pv
namespace Pv
open PySem PySem.Spec L2 Wf
/-! ### pairs_passed, is_forward, last_order -/
theorem passP_iff {os : List Nat} {p : Nat × Nat} : p ∈ passP os ↔ p.1 < p.2 ∧ p.2 < os.length ∧ os.idxOf p.2 < os.idxOf p.1 := by
  refine ⟨mem_passP, fun ⟨h1, h2, h3⟩ => ?_⟩
  unfold passP passD passI
  refine List.mem_flatMap.mpr ⟨p.1, List.mem_range.mpr (by omega), List.mem_map.mpr ⟨p.2, ?_, rfl⟩⟩
  rw [List.mem_filter, List.mem_range, Bool.and_eq_true]
  exact ⟨h2, decide_eq_true h1, decide_eq_true h3⟩
end Pv
/-! Normal words: they lead to their order, forward where the order is. -/
namespace Pv
open PySem PySem.Spec L2 Wf
def runW (m c : Nat) : List Nat := (List.range c).map fun s => m - 1 - s
theorem runW_len (m c : Nat) : (runW m c).length = c := by unfold runW; rw [List.length_map, List.length_range]
theorem getD_app (A rest : List Nat) (b : Nat) : (A ++ b :: rest).getD A.length 0 = b := by
  rw [List.getD, List.getElem?_append_right (Nat.le_refl _), Nat.sub_self]; rfl
theorem getD_app1 (A rest : List Nat) (b m : Nat) : (A ++ b :: m :: rest).getD (A.length + 1) 0 = m := by
  rw [List.getD, List.getElem?_append_right (by omega), show A.length + 1 - A.length = 1 by omega]; rfl
theorem swp_mid (A rest : List Nat) (b m : Nat) : swp (A ++ b :: m :: rest) A.length = A ++ m :: b :: rest := by
  unfold swp
  rw [getD_app, getD_app1, List.set_append_right _ _ (Nat.le_refl _), Nat.sub_self, List.set_append_right _ _ (by omega), show A.length + 1 - A.length = 1 by omega]
  rfl
theorem swp_map (kf : Nat → Nat) {xs : List Nat} {k : Nat} (h : k + 1 < xs.length) : swp (xs.map kf) k = (swp xs k).map kf := by
  have g : ∀ j, j < xs.length → (xs.map kf).getD j 0 = kf (xs.getD j 0) := fun j hj => by
    rw [List.getD, List.getD, List.getElem?_map, List.getElem?_eq_getElem hj]; rfl
  unfold swp
  rw [g _ h, g k (by omega), List.map_set, List.map_set]
theorem goW_map (kf : Nat → Nat) : ∀ {ws xs : List Nat}, (∀ w ∈ ws, w + 1 < xs.length) → goW (xs.map kf) ws = (goW xs ws).map kf
  | [], xs, _ => rfl
  | w :: ws, xs, h => by
    show goW (swp (xs.map kf) w) ws = (goW (swp xs w) ws).map kf
    rw [swp_map kf (h w List.mem_cons_self)]
    exact goW_map kf fun v hv => by rw [swp_len]; exact h v (List.mem_cons_of_mem _ hv)
/-! ### an order, walker by walker -/
def resN (os : List Nat) (m : Nat) : List Nat := os.filter fun i => decide (i < m)
structure Spl (os : List Nat) (m : Nat) (X Y : List Nat) : Prop where
  eq : os = X ++ m :: Y
  nX : m ∉ X
  nY : m ∉ Y
  ix : os.idxOf m = X.length
  af : ∀ i, i ≠ m → i ∈ os → (i ∈ Y ↔ X.length < os.idxOf i)
theorem Spl.res {os X Y : List Nat} {m : Nat} (s : Spl os m X Y) : resN os m = X.filter (fun i => decide (i < m)) ++ Y.filter fun i => decide (i < m) := by
  unfold resN
  rw [s.eq, List.filter_append, List.filter_cons, if_neg (by simp)]
section
variable {os : List Nat} {n : Nat}
/-- forward by the kinds -/
def FwdO (kf : Nat → Nat) (os : List Nat) : Prop := ∀ i j, i < j → j < os.length → os.idxOf j < os.idxOf i → kf j < kf i
end
/-! ### kinds -/
theorem kf_range (ks : List Nat) : (List.range ks.length).map (fun i => ks.getD i 0) = ks := by
  refine List.ext_getElem (by simp) fun i h1 h2 => ?_
  rw [List.getElem_map, List.getElem_range, List.getD, List.getElem?_eq_getElem h2]
  rfl
theorem fwdO_of {ks os : List Nat} (h : fwdB ks os = true) : FwdO (fun i => ks.getD i 0) os := fun i j h1 h2 h3 => by
  unfold fwdB at h
  rw [List.all_eq_true] at h
  exact of_decide_eq_true (h (i, j) (passP_iff.mpr ⟨h1, h2, h3⟩))
end Pv
namespace Pv
open PySem PySem.Spec L2 Wf SrtO
/-! ### last_order -/
end Pv
/-! law k02: what is due, by the law's own going through. -/
namespace Wf
open PySem PySem.Spec L2
section
variable {K : PySem.W.Frag} {C : Addr}
/-- the reading of a tuple (word, number) that is told -/
def dWN (w : Str) (n : Int) : PyData := .tuple [.str w, .int n]
def GiveWN (K : PySem.W.Frag) (H : Hp) (Q : VK) (w : Str) (n : Int) : Prop := ∀ (q : Addr) (H' : Hp), Same H H' → H' q = some (.tup [.str w, .int n]) → Q (.ref q) H'
theorem GiveWN.go {H H1 : Hp} {Q : VK} {w : Str} {n : Int} (g : GiveWN K H Q w n) (s : Same H H1) : ∀ q, H1 q = none → Q (.ref q) (upd H1 q (.tup [.str w, .int n])) := fun q hq => g q _ (s.trans (same_new hq)) upd_same
end
end Wf
/-! law k02: due, told. -/
namespace Wf
open PySem PySem.Spec L2
def toldD (d : PyData) : PyData := match bookA d with
  | none => .tuple [.str "told", .bool true]
  | some (w, n) => dWN w n
end Wf
/-! law k02: things made otherwise. -/
namespace Wf
open PySem PySem.Spec L2
end Wf
namespace Wf
open PySem PySem.Spec L2 Pv
end Wf
namespace Pv
open PySem PySem.Spec L2 Wf
/-! ### things of any form -/
/-! ### is_tuple_of -/
end Pv
namespace Pv
open PySem PySem.Spec L2 Wf
/-! ### kinds_of -/
def pe_kinds_of_1 : PX :=
    pVar 1
def p_kinds_of : PSx :=
    pRet (pC (q1 fTupleOf) (pCons (pComp (iSeq (pVar 0)) (gT 2 (gsC (gN 1) (gsC (gN 2) (gsN)))) (pYes) (pe_kinds_of_1) [1, 2]) (pNil)))
def psp_kinds_of : PSp := fun as Q _ => ∃ (m s : Int) (r : List Wk), as = [.im (dR r)] ∧ RowOk m s r ∧ r.length ≤ 1000 ∧ Q (.im (.tuple (dN (kindsN r)))) [.un]
theorem hp_kinds_of (as : List Sl) (Qp : QE) (Ep : EX) (h : psp_kinds_of as Qp Ep) : p_kinds_of (endsP as Qp) (as ++ List.replicate 2 .un) := by
  obtain ⟨m, s, r, rfl, ok, hl, q⟩ := h
  refine ⟨_, _, _, rfl, rfl, noPin2 (fun o => nofun) (fun o => nofun), fun j acc δ => acc = (r.take j).map (fun p => PyData.int p.1) ∧ δ = [.im (dR r), .un, .un], ⟨rfl, rfl⟩, ?_, ?_⟩
  · rintro j d acc δ hd ⟨rfl, rfl⟩
    rw [List.getElem?_map] at hd
    obtain ⟨p, hp, rfl⟩ := Option.map_eq_some_iff.mp hd
    have hj := (List.getElem?_eq_some_iff.mp hp).1
    refine ⟨rfl, rfl, _, _, rfl, ?_, ?_, rfl⟩
    · rw [List.length_map, List.length_take]
      exact szN (m := 1000) (by omega) (by decide)
    · rw [List.take_add_one, hp]
      show _ ++ [PyData.int p.1] = List.map _ (r.take j ++ [p])
      rw [List.map_append]
      rfl
  · rintro acc δ ⟨rfl, rfl⟩
    rw [List.length_map, List.take_length, kinds_data ok]
    exact ⟨_, _, rfl, q⟩
/-! ### look_order -/
theorem getI_of {xs : List Int} {i : Nat} (h : i < xs.length) : xs[i]? = some (xs.getD i 0) := by
  rw [List.getD_eq_getElem?_getD, List.getElem?_eq_getElem h]
  rfl
/-! ### normal_word -/
end Pv
namespace Pv
open PySem PySem.Spec L2 Wf
/-! ### look_forward, of a forward order -/
/-! ### borne_in, last_row -/
end Pv
/-! Tuples whose objects are known, also within: written ones, parts, sums; loops over them. -/
namespace Pv
open PySem PySem.Spec L2 Wf
/-! ### targets -/
/-! ### a written tuple of known things -/
end Pv
/-! Parts and sums of known tuples are known tuples. -/
namespace Pv
open PySem PySem.Spec L2 Wf
/-! ### a call that may raise, in a try, handed known tuples too -/
end Pv
namespace Pv
open PySem PySem.Spec L2 Wf
/-! ### k13: _law_due, _law_told, law -/
-- def law N ['_law_script', '_law_deal_here', '_law_book_here', '_law_row_here', '_law_some', '_law_k', '_law_kept', '_law_far', '_law_due_here', '_law_wanted'] calls ['_law_deal', '_law_book', '_law_draw', '_law_row', '_law_due', '_law_alike', '_law_told'] takes []
end Pv
namespace Pv
open PySem PySem.Spec L2 Wf
/-! ### numbers that are an order -/
/-! ### _law_due -/
/-! ### _law_told -/
/-! ### _law_changed -/
/-! ### k11 -/
end Pv
/-! [a, b, ..][i] of known things. -/
namespace Pv
open PySem PySem.Spec L2 Wf
end Pv
namespace Pv
open PySem PySem.Spec L2 Wf
end Pv
namespace Pv
open PySem PySem.Spec L2 LamX NdefX Wf
/-! ### orders led -/
structure OkO (n : Nat) (o : List Nat) : Prop where
  len : o.length = n
  lt : ∀ x ∈ o, x < n
theorem OkO.get {n j : Nat} {o : List Nat} (h : OkO n o) (hj : j < o.length) : o.getD j 0 < n := by
  rw [List.getD_eq_getElem?_getD, List.getElem?_eq_getElem hj]
  exact h.lt _ (List.getElem_mem hj)
end Pv
/-! Words of runs. -/
namespace Pv
open PySem PySem.Spec L2 Wf
def runsW (c : Nat → Nat) (n : Nat) : List Nat := (List.range n).flatMap fun m => runW m (c m)
theorem runsW_succ (c : Nat → Nat) (n : Nat) : runsW c (n + 1) = runsW c n ++ runW n (c n) := by
  unfold runsW
  rw [List.range_succ, List.flatMap_append, List.flatMap_singleton]
/-! ### as many letters as pairs -/
/-! ### falling kinds -/
end Pv
namespace Pv
open PySem PySem.Spec L2 Wf
/-! ### the order behind a forward word is forward -/
def Rf (kf : Nat → Nat) (j i : Nat) : Prop := i < j → kf j < kf i
theorem Rf_go {kf : Nat → Nat} : ∀ {ws o : List Nat}, wordOk false (o.map kf) ws → o.Pairwise (Rf kf) → (goW o ws).Pairwise (Rf kf)
  | [], o, _, h => h
  | k :: ws, o, h, hp => by
    have h1 := h.1.1
    rw [List.length_map] at h1
    have ge : ∀ j, j < o.length → (o.map kf).getD j 0 = kf (o.getD j 0) := fun j hj => by
      rw [List.getD, List.getD, List.getElem?_map, List.getElem?_eq_getElem hj]; rfl
    have h2 := h.1.2
    rw [ge _ h1, ge k (by omega)] at h2
    have h3 := h.2
    rw [swp_map _ h1] at h3
    refine Rf_go (ws := ws) (o := swp o k) h3 ?_
    have lt : kf (o.getD (k + 1) 0) < kf (o.getD k 0) := by
      rcases h2 with h2 | h2
      · omega
      · exact absurd h2.1 (by decide)
    have e : o = o.take k ++ o.getD k 0 :: o.getD (k + 1) 0 :: o.drop (k + 2) := by
      have e1 : o.getD k 0 = o[k]'(by omega) := by rw [List.getD, List.getElem?_eq_getElem (by omega)]; rfl
      have e2 : o.getD (k + 1) 0 = o[k + 1]'(by omega) := by rw [List.getD, List.getElem?_eq_getElem (by omega)]; rfl
      rw [e1, e2, ← List.drop_eq_getElem_cons, ← List.drop_eq_getElem_cons, List.take_append_drop]
    generalize o.getD k 0 = x at e lt
    generalize o.getD (k + 1) 0 = y at e lt
    have tl : (o.take k).length = k := by rw [List.length_take]; omega
    have es : swp o k = o.take k ++ y :: x :: o.drop (k + 2) := by
      have := swp_mid (o.take k) (o.drop (k + 2)) x y
      rw [← e, tl] at this
      exact this
    rw [es]
    rw [e] at hp
    rw [List.pairwise_append, List.pairwise_cons, List.pairwise_cons] at hp ⊢
    obtain ⟨p1, ⟨p2, p3, p4⟩, p5⟩ := hp
    refine ⟨p1, ⟨fun z hz => ?_, fun z hz => p2 z (List.mem_cons_of_mem _ hz), p4⟩, fun a ha b hb => ?_⟩
    · rcases List.mem_cons.mp hz with rfl | hz
      · exact fun _ => lt
      · exact p3 z hz
    · refine p5 a ha b ?_
      simp only [List.mem_cons] at hb ⊢
      rcases hb with h | h | h
      · exact .inr (.inl h)
      · exact .inl h
      · exact .inr (.inr h)
theorem fwd_go {ks ws : List Nat} (h : wordOk false ks ws) : fwdB ks (goW (List.range ks.length) ws) = true := by
  have hw := wordOk_lt h
  have hp : (goW (List.range ks.length) ws).Perm (List.range ks.length) := goW_perm fun w hw' => by rw [List.length_range]; exact hw w hw'
  have rf : (goW (List.range ks.length) ws).Pairwise (Rf fun i => ks.getD i 0) := by
    refine Rf_go (by rw [kf_range]; exact h) ?_
    refine List.Pairwise.imp ?_ (List.pairwise_lt_range (n := ks.length))
    intro a b hab z
    omega
  generalize goW (List.range ks.length) ws = os at hp rf
  have nd : os.Nodup := hp.nodup_iff.mpr List.nodup_range
  have ol : os.length = ks.length := perm_len hp
  unfold fwdB
  rw [List.all_eq_true]
  intro p hpp
  obtain ⟨h1, h2, h3⟩ := mem_passP hpp
  have m1 : p.1 ∈ os := (mem_of_perm hp).mpr (by omega)
  have m2 : p.2 ∈ os := (mem_of_perm hp).mpr (by omega)
  have i1 := List.idxOf_lt_length_of_mem m1
  have i2 := List.idxOf_lt_length_of_mem m2
  have := List.pairwise_iff_getElem.mp rf (os.idxOf p.2) (os.idxOf p.1) i2 i1 h3
  rw [List.getElem_idxOf, List.getElem_idxOf] at this
  exact decide_eq_true (this h1)
/-! ### the first place of one who has passed wrongly -/
/-! ### look_forward -/
end Pv
namespace Pv
/-! Roads: each passing is of neighbours; the word, and the order behind it. -/
/-- o: an order of n walkers in which j stands behind i, i < j, just where D i j -/
structure InvO (n : Nat) (o : List Nat) (D : Nat → Nat → Prop) : Prop where
  pm : o.Perm (List.range n)
  iv : ∀ a b, a < b → b < n → (o.idxOf b < o.idxOf a ↔ D a b)
theorem InvO.nd {n : Nat} {o : List Nat} {D : Nat → Nat → Prop} (h : InvO n o D) : o.Nodup := h.pm.nodup_iff.mpr List.nodup_range
theorem idx_inj {o : List Nat} {a b : Nat} (ha : a ∈ o) (hb : b ∈ o) (h : o.idxOf a = o.idxOf b) : a = b := by
  have h1 := List.idxOf_lt_length_iff.mpr ha
  have h2 := List.idxOf_lt_length_iff.mpr hb
  have e1 := List.getElem_idxOf h1
  have e2 := List.getElem_idxOf h2
  have : o[o.idxOf a] = o[o.idxOf b] := by simp only [h]
  rw [e1, e2] at this
  exact this
theorem idx_range {n a : Nat} (h : a < n) : (List.range n).idxOf a = a := by
  have hm : a ∈ List.range n := List.mem_range.mpr h
  have h1 := List.idxOf_lt_length_iff.mpr hm
  have e1 := List.getElem_idxOf h1
  rw [List.getElem_range] at e1
  exact e1
theorem inv0 (n : Nat) : InvO n (List.range n) fun _ _ => False := ⟨.refl _, fun a b hab hb => by
  rw [idx_range hb, idx_range (show a < n by omega)]
  constructor
  · intro h; omega
  · intro h; exact h.elim⟩
theorem InvO.congr {n : Nat} {o : List Nat} {D D' : Nat → Nat → Prop} (h : InvO n o D) (e : ∀ a b, a < b → b < n → (D a b ↔ D' a b)) : InvO n o D' := ⟨h.pm, fun a b h1 h2 => (h.iv a b h1 h2).trans (e a b h1 h2)⟩
theorem idx_ne {a b : Nat} {l : List Nat} (h : a ≠ b) : (a :: l).idxOf b = l.idxOf b + 1 := by
  rw [List.idxOf_cons, beq_false_of_ne h]; rfl
theorem idx_mid {A C : List Nat} {i j x : Nat} (nd : (A ++ i :: j :: C).Nodup) : (A ++ i :: j :: C).idxOf i = A.length ∧ (A ++ i :: j :: C).idxOf j = A.length + 1 ∧ (A ++ j :: i :: C).idxOf i = A.length + 1 ∧ (A ++ j :: i :: C).idxOf j = A.length ∧ (x ≠ i → x ≠ j → (A ++ j :: i :: C).idxOf x = (A ++ i :: j :: C).idxOf x) := by
  rw [List.nodup_append, List.nodup_cons, List.nodup_cons] at nd
  obtain ⟨_, ⟨n1, n2, _⟩, n3⟩ := nd
  have iA : i ∉ A := fun h => n3 i h i List.mem_cons_self rfl
  have jA : j ∉ A := fun h => n3 j h j (List.mem_cons_of_mem _ List.mem_cons_self) rfl
  have ij : i ≠ j := fun h => n1 (h ▸ List.mem_cons_self)
  refine ⟨?_, ?_, ?_, ?_, fun h1 h2 => ?_⟩
  · rw [List.idxOf_append, if_neg iA, List.idxOf_cons_self, Nat.zero_add]
  · rw [List.idxOf_append, if_neg jA, idx_ne ij, List.idxOf_cons_self]; omega
  · rw [List.idxOf_append, if_neg iA, idx_ne (Ne.symm ij), List.idxOf_cons_self]; omega
  · rw [List.idxOf_append, if_neg jA, List.idxOf_cons_self, Nat.zero_add]
  · rw [List.idxOf_append, List.idxOf_append]
    by_cases c : x ∈ A
    · rw [if_pos c, if_pos c]
    · rw [if_neg c, if_neg c, idx_ne (Ne.symm h2), idx_ne (Ne.symm h1), idx_ne (Ne.symm h1), idx_ne (Ne.symm h2)]
theorem split2 {o : List Nat} {k : Nat} (h : k + 1 < o.length) : ∃ A x y C, o = A ++ x :: y :: C ∧ A.length = k ∧ o.getD k 0 = x ∧ o.getD (k + 1) 0 = y := by
  refine ⟨o.take k, o[k]'(by omega), o[k + 1]'h, o.drop (k + 2), ?_, by rw [List.length_take]; omega, ?_, ?_⟩
  · rw [← List.drop_eq_getElem_cons, ← List.drop_eq_getElem_cons, List.take_append_drop]
  · rw [List.getD, List.getElem?_eq_getElem (by omega)]; rfl
  · rw [List.getD, List.getElem?_eq_getElem h]; rfl
theorem inv_step {n : Nat} {o : List Nat} {D : Nat → Nat → Prop} {i j : Nat} (h : InvO n o D) (hij : i < j) (hj : j < n) (nd : ¬ D i j) (lo : ∀ x, x < i → (D x i ↔ D x j)) (hi : ∀ x, j < x → x < n → (D i x ↔ D j x)) (mid : ∀ x, i < x → x < j → (D i x ↔ ¬ D x j)) :
    o.idxOf i + 1 < n ∧ o.getD (o.idxOf i) 0 = i ∧ o.getD (o.idxOf i + 1) 0 = j ∧ (InvO n (swp o (o.idxOf i)) fun a b => D a b ∨ (a = i ∧ b = j)) ∧ ∀ z, z < n → ((swp o (o.idxOf i)).idxOf z : Int) = (o.idxOf z : Int) + (if i = z then 1 else 0) - (if j = z then 1 else 0) := by
  have mi : i ∈ o := (mem_of_perm h.pm).mpr (by omega)
  have mj : j ∈ o := (mem_of_perm h.pm).mpr hj
  have ol := perm_len h.pm
  have li := List.idxOf_lt_length_iff.mpr mi
  have lj := List.idxOf_lt_length_iff.mpr mj
  have bij : o.idxOf i < o.idxOf j := by
    have h1 := mt (h.iv i j hij hj).mp nd
    have h2 : o.idxOf i ≠ o.idxOf j := fun z => by have := idx_inj mi mj z; omega
    omega
  have hk : o.idxOf i + 1 < o.length := by omega
  obtain ⟨A, x, y, C, eo, eA, gx, gy⟩ := split2 hk
  have nod := h.nd
  have ex : x = i := by
    rw [← gx, List.getD, List.getElem?_eq_getElem li]
    exact List.getElem_idxOf li
  subst ex
  have my : y ∈ o := by rw [eo]; simp
  have iy : o.idxOf y = o.idxOf x + 1 := by
    rw [eo] at nod
    obtain ⟨h1, h2, _⟩ := idx_mid (x := 0) nod
    rw [eo, h1, h2]
  have ey : y = j := by
    refine Decidable.byContradiction fun c => ?_
    have yn : y < n := (mem_of_perm h.pm).mp my
    have yx : y ≠ x := fun z => by rw [z] at iy; omega
    have ly : o.idxOf y < o.idxOf j := by
      have : o.idxOf y ≠ o.idxOf j := fun z => c (idx_inj my mj z)
      omega
    rcases Nat.lt_trichotomy y x with q | q | q
    · have h1 := h.iv y x q (by omega)
      have h2 := h.iv y j (by omega) hj
      have := lo y q
      rw [← h1, ← h2] at this
      omega
    · exact yx q
    · rcases Nat.lt_trichotomy y j with r | r | r
      · have h1 := h.iv x y q (by omega)
        have h2 := h.iv y j r hj
        have := mid y q r
        rw [← h1, ← h2] at this
        omega
      · exact c r
      · have h1 := h.iv x y (by omega) yn
        have h2 := h.iv j y r yn
        have := hi y r yn
        rw [← h1, ← h2] at this
        omega
  subst ey
  have es : swp o (o.idxOf x) = A ++ y :: x :: C := by
    rw [← eA]
    conv => lhs; rw [eo]
    exact swp_mid A C x y
  rw [eo] at nod
  have key : ∀ z, z < n → (z = x ∧ (A ++ y :: x :: C).idxOf z = A.length + 1 ∧ o.idxOf z = A.length) ∨ (z = y ∧ (A ++ y :: x :: C).idxOf z = A.length ∧ o.idxOf z = A.length + 1) ∨ (z ≠ x ∧ z ≠ y ∧ (A ++ y :: x :: C).idxOf z = o.idxOf z ∧ o.idxOf z ≠ A.length ∧ o.idxOf z ≠ A.length + 1) := fun z hz => by
    obtain ⟨h1, h2, h3, h4, h5⟩ := idx_mid (x := z) nod
    rw [← eo] at h1 h2 h5
    by_cases c1 : z = x
    · subst c1; exact .inl ⟨rfl, h3, h1⟩
    · by_cases c2 : z = y
      · subst c2; exact .inr (.inl ⟨rfl, h4, h2⟩)
      · have mz : z ∈ o := (mem_of_perm h.pm).mpr hz
        refine .inr (.inr ⟨c1, c2, h5 c1 c2, fun q => c1 (idx_inj mz mi (by rw [q, h1])), fun q => c2 (idx_inj mz mj (by rw [q, h2]))⟩)
  refine ⟨by omega, gx, gy, ⟨(swp_perm hk).trans h.pm, fun a b hab hb => ?_⟩, fun z hz => ?_⟩
  · rw [es]
    have ka := key a (by omega)
    have kb := key b hb
    have iv := h.iv a b hab hb
    rw [← iv]
    omega
  · rw [es]
    rcases key z hz with ⟨c, h1, h2⟩ | ⟨c, h1, h2⟩ | ⟨c1, c2, h1, _⟩
    · subst c; rw [if_pos rfl, if_neg (by omega)]; omega
    · subst c; rw [if_neg (by omega), if_pos rfl]; omega
    · rw [if_neg (Ne.symm c1), if_neg (Ne.symm c2)]; omega
/-! ### letters of passings -/
def letsE : List Nat → List Ev → List Nat
  | _, [] => []
  | o, e :: es => o.idxOf e.1 :: letsE (swp o (o.idxOf e.1)) es
def goE (o : List Nat) (es : List Ev) : List Nat := es.foldl (fun o e => swp o (o.idxOf e.1)) o
theorem go_lets : ∀ (es : List Ev) (o : List Nat), goW o (letsE o es) = goE o es
  | [], _ => rfl
  | e :: es, o => go_lets es (swp o (o.idxOf e.1))
theorem goE_snoc (o : List Nat) (es : List Ev) (e : Ev) : goE o (es ++ [e]) = swp (goE o es) ((goE o es).idxOf e.1) := by
  unfold goE; rw [List.foldl_append]; rfl
theorem lets_snoc : ∀ (es : List Ev) (o : List Nat) (e : Ev), letsE o (es ++ [e]) = letsE o es ++ [(goE o es).idxOf e.1]
  | [], _, _ => rfl
  | f :: es, o, e => by
    show _ :: letsE (swp o (o.idxOf f.1)) (es ++ [e]) = _
    rw [lets_snoc es]
    rfl
/-- all passings, the sooner ones first -/
structure EvL (n : Nat) (k : Nat → Nat) (p s : Nat → Int) (L : List Ev) : Prop where
  mem : ∀ e, e ∈ L ↔ IsEv n k e.1 e.2
  so : L.Pairwise (soon k p s)
section
variable {n : Nat} {k : Nat → Nat} {p s : Nat → Int} {L : List Ev}
theorem EvL.pre {pre post : List Ev} {e : Ev} (h : EvL n k p s L) (eL : L = pre ++ e :: post) (f : Ev) : f ∈ pre ↔ IsEv n k f.1 f.2 ∧ soon k p s f e := by
  have so := h.so
  rw [eL, List.pairwise_append, List.pairwise_cons] at so
  obtain ⟨_, ⟨s2, _⟩, s3⟩ := so
  constructor
  · intro hf
    exact ⟨(h.mem f).mp (by rw [eL]; exact List.mem_append_left _ hf), s3 f hf e List.mem_cons_self⟩
  · rintro ⟨h1, h2⟩
    have := (h.mem f).mpr h1
    rw [eL] at this
    rcases List.mem_append.mp this with z | z
    · exact z
    · rcases List.mem_cons.mp z with rfl | z
      · exact absurd h2 (soon_irr _)
      · exact absurd h2 (soon_asym (s2 f z))
theorem run_step (R : Rod n k p s) (h : EvL n k p s L) {pre post : List Ev} {e : Ev} {o : List Nat} (eL : L = pre ++ e :: post) (io : InvO n o fun a b => (a, b) ∈ pre) :
    o.idxOf e.1 + 1 < n ∧ o.getD (o.idxOf e.1) 0 = e.1 ∧ o.getD (o.idxOf e.1 + 1) 0 = e.2 ∧ (InvO n (swp o (o.idxOf e.1)) fun a b => (a, b) ∈ pre ++ [e]) ∧ ∀ z, z < n → ((swp o (o.idxOf e.1)).idxOf z : Int) = (o.idxOf z : Int) + (if e.1 = z then 1 else 0) - (if e.2 = z then 1 else 0) := by
  have he : IsEv n k e.1 e.2 := (h.mem e).mp (by rw [eL]; simp)
  have P := fun f => h.pre eL f
  obtain ⟨i, j⟩ := e
  have := inv_step io he.1 he.2.1 (fun z => soon_irr _ ((P _).mp z).2) (fun x hx => by rw [P, P]; exact loc_lo R he hx) (fun x hx hn => by rw [P, P]; exact loc_hi R he hx hn) (fun x hx hn => by rw [P, P]; exact loc_mid R he hx hn)
  refine ⟨this.1, this.2.1, this.2.2.1, this.2.2.2.1.congr fun a b _ _ => ?_, this.2.2.2.2⟩
  rw [List.mem_append, List.mem_singleton]
  show _ ↔ _ ∨ (a, b) = (i, j)
  rw [Prod.mk.injEq]
theorem run_ok (R : Rod n k p s) (h : EvL n k p s L) : ∀ (m : Nat) (pre post : List Ev), pre.length = m → L = pre ++ post → InvO n (goE (List.range n) pre) fun a b => (a, b) ∈ pre
  | 0, pre, post, hl, eL => by
    have : pre = [] := List.length_eq_zero_iff.mp hl
    subst this
    exact (inv0 n).congr fun a b _ _ => by simp
  | m + 1, pre, post, hl, eL => by
    have ne : pre ≠ [] := fun z => by rw [z] at hl; cases hl
    have e1 : pre = pre.dropLast ++ [pre.getLast ne] := (List.dropLast_concat_getLast ne).symm
    generalize pre.getLast ne = e at e1
    generalize pre.dropLast = q at e1
    subst e1
    have hq : q.length = m := by simpa using hl
    have eL' : L = q ++ e :: post := by rw [eL, List.append_assoc]; rfl
    have io := run_ok R h m q (e :: post) hq eL'
    rw [goE_snoc]
    exact (run_step R h eL' io).2.2.2.1
/-- the letters of the first passings: forward, by the kinds -/
theorem word_ok {ks : List Nat} (R : Rod ks.length (fun i => ks.getD i 0) p s) (h : EvL ks.length (fun i => ks.getD i 0) p s L) : ∀ (m : Nat) (pre post : List Ev), pre.length = m → L = pre ++ post → wordOk false ks (letsE (List.range ks.length) pre)
  | 0, pre, post, hl, eL => by
    have : pre = [] := List.length_eq_zero_iff.mp hl
    subst this
    exact trivial
  | m + 1, pre, post, hl, eL => by
    have ne : pre ≠ [] := fun z => by rw [z] at hl; cases hl
    have e1 : pre = pre.dropLast ++ [pre.getLast ne] := (List.dropLast_concat_getLast ne).symm
    generalize pre.getLast ne = e at e1
    generalize pre.dropLast = q at e1
    subst e1
    have hq : q.length = m := by simpa using hl
    have eL' : L = q ++ e :: post := by rw [eL, List.append_assoc]; rfl
    have io := run_ok R h m q (e :: post) hq eL'
    have ih := word_ok R h m q (e :: post) hq eL'
    have st := run_step R h eL' io
    have he := (h.mem e).mp (by rw [eL']; simp)
    rw [lets_snoc]
    refine wordOk_snoc ih ?_
    have ol := perm_len io.pm
    have lt := wordOk_lt ih
    have eg : goW ks (letsE (List.range ks.length) q) = (goE (List.range ks.length) q).map fun i => ks.getD i 0 := by
      rw [← go_lets, ← goW_map _ (by rw [List.length_range]; exact lt), kf_range]
    have gm : ∀ t, t < ks.length → ((goE (List.range ks.length) q).map fun i => ks.getD i 0).getD t 0 = ks.getD ((goE (List.range ks.length) q).getD t 0) 0 := fun t ht => by
      rw [List.getD, List.getElem?_map, getD_of (by omega)]
      rfl
    rw [eg]
    refine ⟨by rw [List.length_map]; omega, .inl ?_⟩
    rw [gm _ st.1, gm _ (by omega), st.2.1, st.2.2.1]
    exact he.2.2
end
/-! ### one list alone -/
end Pv
namespace Pv
/-! Roads: letters by counting; what is done by a beat; who stands where then. -/
section
variable {n : Nat} {k : Nat → Nat} {p s : Nat → Int} {L : List Ev}
/-! ### what is done by a beat -/
def doneB (p s : Nat → Int) (t : Int) (e : Ev) : Bool := decide (wy s e ≤ t * gp p e)
theorem ev_gp (R : Rod n k p s) {e : Ev} (h : IsEv n k e.1 e.2) : 0 < gp p e := by
  have := R.pk e.2 e.1 h.2.1 (by have := h.1; have := h.2.1; omega) h.2.2
  unfold gp
  omega
theorem done_mono (R : Rod n k p s) {t : Int} {e f : Ev} (he : IsEv n k e.1 e.2) (hf : IsEv n k f.1 f.2) (h : soon k p s e f) (d : doneB p s t f = true) : doneB p s t e = true := by
  have ge := ev_gp R he
  have gf := ev_gp R hf
  have d := of_decide_eq_true d
  have h1 : wy s e * gp p f ≤ wy s f * gp p e := by
    rcases h with h | ⟨h, _⟩
    · omega
    · omega
  have h2 : wy s f * gp p e ≤ (t * gp p f) * gp p e := Int.mul_le_mul_of_nonneg_right d (by omega)
  have h3 : wy s e * gp p f ≤ (t * gp p e) * gp p f := by
    have : (t * gp p f) * gp p e = (t * gp p e) * gp p f := by rw [Int.mul_assoc, Int.mul_assoc, Int.mul_comm (gp p f)]
    omega
  exact decide_eq_true (Int.le_of_mul_le_mul_right h3 gf)
theorem filter_pre {α : Type} {d : α → Bool} : ∀ {l : List α}, l.Pairwise (fun a b => d b = true → d a = true) → ∃ post, l = l.filter d ++ post
  | [], _ => ⟨[], rfl⟩
  | a :: l, h => by
    have h := List.pairwise_cons.mp h
    by_cases c : d a = true
    · obtain ⟨post, e⟩ := filter_pre h.2
      refine ⟨post, ?_⟩
      rw [List.filter_cons_of_pos c, List.cons_append, ← e]
    · refine ⟨a :: l, ?_⟩
      have : (a :: l).filter d = [] := List.filter_eq_nil_iff.mpr fun x hx => by
        rcases List.mem_cons.mp hx with rfl | hx
        · exact c
        · exact fun z => c (h.1 x hx z)
      rw [this]
      rfl
theorem done_pre (R : Rod n k p s) (h : EvL n k p s L) (t : Int) : ∃ post, L = L.filter (doneB p s t) ++ post := by
  refine filter_pre (List.Pairwise.imp_of_mem ?_ h.so)
  intro e f he hf hs d
  exact done_mono R ((h.mem e).mp he) ((h.mem f).mp hf) hs d
/-- the order at the beat -/
def ordB (n : Nat) (p s : Nat → Int) (L : List Ev) (t : Int) : List Nat := goE (List.range n) (L.filter (doneB p s t))
theorem ord_inv (R : Rod n k p s) (h : EvL n k p s L) (t : Int) : InvO n (ordB n p s L t) fun a b => IsEv n k a b ∧ doneB p s t (a, b) = true := by
  obtain ⟨post, e⟩ := done_pre R h t
  refine (run_ok R h _ _ post rfl e).congr fun a b _ _ => ?_
  rw [List.mem_filter, h.mem]
/-- by spots, then by kinds, then by numbers -/
def stB4 (k : Nat → Nat) (p s : Nat → Int) (t : Int) (a b : Nat) : Prop := s a + p a * t < s b + p b * t ∨ s a + p a * t = s b + p b * t ∧ (k a < k b ∨ k a = k b ∧ a < b)
theorem inv_pair {o : List Nat} {D : Nat → Nat → Prop} {T : Nat → Nat → Prop} (io : InvO n o D) (h1 : ∀ a b, a < b → b < n → ¬ D a b → T a b) (h2 : ∀ a b, a < b → b < n → D a b → T b a) : o.Pairwise T := by
  rw [List.pairwise_iff_getElem]
  intro i j hi hj hij
  have nd := io.nd
  have e1 : ∀ t (ht : t < o.length), o.idxOf o[t] = t := fun t ht => List.Nodup.idxOf_getElem nd t ht
  have a1 := e1 i hi
  have a2 := e1 j hj
  have n1 := (mem_of_perm io.pm).mp (List.getElem_mem hi)
  have n2 := (mem_of_perm io.pm).mp (List.getElem_mem hj)
  generalize o[i] = a at *
  generalize o[j] = b at *
  rcases Nat.lt_trichotomy a b with c | c | c
  · refine h1 a b c n2 fun z => ?_
    have := (io.iv a b c n2).mpr z
    omega
  · subst c; omega
  · refine h2 b a c n1 ((io.iv b a c n1).mp ?_)
    omega
theorem ord_pair (R : Rod n k p s) (h : EvL n k p s L) {t : Int} (t0 : 0 ≤ t) : (ordB n p s L t).Pairwise (stB4 k p s t) := by
  have cm : ∀ a b : Nat, t * (p a - p b) = p a * t - p b * t := fun a b => by rw [Int.mul_comm, Int.sub_mul]
  refine inv_pair (ord_inv R h t) (fun a b hab hb nd => ?_) fun a b hab hb d => ?_
  · have up := R.up a b hab hb
    by_cases c : k b < k a
    · have : ¬ doneB p s t (a, b) = true := fun z => nd ⟨⟨hab, hb, c⟩, z⟩
      unfold doneB wy gp at this
      simp only [decide_eq_true_eq, Int.not_le, cm] at this
      exact .inl (by omega)
    · have : p a ≤ p b := by
        rcases Nat.lt_or_eq_of_le (Nat.le_of_not_lt c) with q | q
        · exact Int.le_of_lt (R.pk a b (by omega) hb q)
        · exact Int.le_of_eq (R.pe a b (by omega) hb q)
      have := Int.mul_le_mul_of_nonneg_right this t0
      exact .inl (by omega)
  · have dd := d.2
    unfold doneB wy gp at dd
    simp only [decide_eq_true_eq, cm] at dd
    have := d.1.2.2
    unfold stB4
    omega
theorem ord_perm (R : Rod n k p s) (h : EvL n k p s L) (t : Int) : (ordB n p s L t).Perm (List.range n) := (ord_inv R h t).pm
end
end Pv
namespace Pv
/-! Roads: the list of all passings, made by putting each where it is due. -/
section
variable {n : Nat} {k : Nat → Nat} {p s : Nat → Int}
theorem soonK_trans {e f g : Ev} (h1 : soonK k e f) (h2 : soonK k f g) : soonK k e g := by
  unfold soonK at *
  omega
theorem soon_trans {e f g : Ev} (ge : 0 < gp p e) (gf : 0 < gp p f) (gg : 0 < gp p g) (h1 : soon k p s e f) (h2 : soon k p s f g) : soon k p s e g := by
  unfold soon at *
  generalize wy s e = we at *
  generalize wy s f = wf at *
  generalize wy s g = wg at *
  generalize gp p e = a at *
  generalize gp p f = b at *
  generalize gp p g = c at *
  have m1 : (we * b) * c = (we * c) * b := Int.mul_right_comm _ _ _
  have m2 : (wf * a) * c = (wf * c) * a := Int.mul_right_comm _ _ _
  have m3 : (wg * b) * a = (wg * a) * b := Int.mul_right_comm _ _ _
  rcases h1 with h1 | ⟨h1, k1⟩ <;> rcases h2 with h2 | ⟨h2, k2⟩
  · have x1 := Int.mul_lt_mul_of_pos_right h1 gg
    have x2 := Int.mul_lt_mul_of_pos_right h2 ge
    exact .inl (Int.lt_of_mul_lt_mul_right (a := b) (by omega) (by omega))
  · have x1 := Int.mul_lt_mul_of_pos_right h1 gg
    have x2 : (wf * c) * a = (wg * b) * a := by rw [h2]
    exact .inl (Int.lt_of_mul_lt_mul_right (a := b) (by omega) (by omega))
  · have x1 : (we * b) * c = (wf * a) * c := by rw [h1]
    have x2 := Int.mul_lt_mul_of_pos_right h2 ge
    exact .inl (Int.lt_of_mul_lt_mul_right (a := b) (by omega) (by omega))
  · have x1 : (we * b) * c = (wf * a) * c := by rw [h1]
    have x2 : (wf * c) * a = (wg * b) * a := by rw [h2]
    refine .inr ⟨Int.eq_of_mul_eq_mul_right (a := b) (by omega) (by omega), soonK_trans k1 k2⟩
instance soonDec (k : Nat → Nat) (p s : Nat → Int) (e f : Ev) : Decidable (soon k p s e f) := by
  unfold soon soonK; infer_instance
def soonB (k : Nat → Nat) (p s : Nat → Int) (e f : Ev) : Bool := decide (soon k p s e f)
/-- put where it is due -/
def putE (k : Nat → Nat) (p s : Nat → Int) (l : List Ev) (e : Ev) : List Ev := l.take (l.filter fun f => soonB k p s f e).length ++ e :: l.drop (l.filter fun f => soonB k p s f e).length
theorem filter_pre2 {α : Type} {d : α → Bool} {l : List α} (h : l.Pairwise (fun a b => d b = true → d a = true)) : ∃ post, l = l.filter d ++ post ∧ ∀ x ∈ post, d x = false := by
  obtain ⟨post, e⟩ := filter_pre h
  refine ⟨post, e, fun x hx => ?_⟩
  have e2 := congrArg (List.filter d) e
  rw [List.filter_append, List.filter_filter] at e2
  have : (l.filter d).length = (l.filter d).length + (post.filter d).length := by
    have := congrArg List.length e2
    simpa using this
  have z : post.filter d = [] := List.length_eq_zero_iff.mp (by omega)
  exact Bool.eq_false_iff.mpr (List.filter_eq_nil_iff.mp z x hx)
theorem put_ok {l : List Ev} {e : Ev} (gl : ∀ f ∈ l, 0 < gp p f) (ge : 0 < gp p e) (hs : l.Pairwise (soon k p s)) (he : e ∉ l) : (putE k p s l e).Pairwise (soon k p s) ∧ (putE k p s l e).Perm (e :: l) := by
  have mono : l.Pairwise (fun a b => soonB k p s b e = true → soonB k p s a e = true) := by
    refine List.Pairwise.imp_of_mem ?_ hs
    intro a b ha hb hab h
    exact decide_eq_true (soon_trans (gl a ha) (gl b hb) ge hab (of_decide_eq_true h))
  obtain ⟨post, e1, e2⟩ := filter_pre2 mono
  have e3 : putE k p s l e = l.filter (fun f => soonB k p s f e) ++ e :: post := by
    unfold putE
    generalize l.filter (fun f => soonB k p s f e) = q at *
    rw [e1, List.take_left' rfl, List.drop_left' rfl]
  rw [e3]
  have hs' := hs
  rw [e1] at hs'
  have pw := List.pairwise_append.mp hs'
  constructor
  · refine List.pairwise_append.mpr ⟨pw.1, List.pairwise_cons.mpr ⟨fun b hb => ?_, pw.2.1⟩, fun a ha b hb => ?_⟩
    · have nb := of_decide_eq_false (e2 b hb)
      have bl : b ∈ l := by rw [e1]; exact List.mem_append_right _ hb
      rcases @soon_tri k p s b e with z | z | z
      · exact absurd z nb
      · exact absurd (z ▸ bl) he
      · exact z
    · have sa := of_decide_eq_true (List.mem_filter.mp ha).2
      rcases List.mem_cons.mp hb with rfl | hb
      · exact sa
      · exact pw.2.2 a ha b hb
  · have : (l.filter (fun f => soonB k p s f e) ++ e :: post).Perm (e :: (l.filter (fun f => soonB k p s f e) ++ post)) := List.perm_middle
    rw [← e1] at this
    exact this
theorem puts_ok (R : Rod n k p s) : ∀ {es l : List Ev}, l.Pairwise (soon k p s) → (∀ f ∈ l, IsEv n k f.1 f.2) → (∀ f ∈ es, IsEv n k f.1 f.2) → (∀ f ∈ es, f ∉ l) → es.Nodup → (es.foldl (putE k p s) l).Pairwise (soon k p s) ∧ (es.foldl (putE k p s) l).Perm (es ++ l)
  | [], l, h, _, _, _, _ => ⟨h, .refl _⟩
  | e :: es, l, h, hl, he, hn, nd => by
    have nd := List.nodup_cons.mp nd
    obtain ⟨h1, h2⟩ := put_ok (fun f hf => ev_gp R (hl f hf)) (ev_gp R (he e List.mem_cons_self)) h (hn e List.mem_cons_self)
    obtain ⟨h3, h4⟩ := puts_ok R (es := es) (l := putE k p s l e) h1 (fun f hf => by
      rcases List.mem_cons.mp (h2.mem_iff.mp hf) with rfl | hf
      · exact he _ List.mem_cons_self
      · exact hl f hf) (fun f hf => he f (List.mem_cons_of_mem _ hf)) (fun f hf z => by
      rcases List.mem_cons.mp (h2.mem_iff.mp z) with rfl | z
      · exact nd.1 hf
      · exact hn f (List.mem_cons_of_mem _ hf) z) nd.2
    refine ⟨h3, h4.trans ?_⟩
    exact ((h2.append_left es).trans List.perm_middle)
/-- all passings, by numbers -/
def evI (n : Nat) (k : Nat → Nat) (i m : Nat) : List Ev := ((List.range m).filter fun j => decide (i < j) && decide (k j < k i)).map fun j => (i, j)
def evD (n : Nat) (k : Nat → Nat) (i : Nat) : List Ev := (List.range i).flatMap fun i => evI n k i n
def evs (n : Nat) (k : Nat → Nat) : List Ev := evD n k n
theorem mem_evI {i m : Nat} {e : Ev} : e ∈ evI n k i m ↔ e.1 = i ∧ i < e.2 ∧ e.2 < m ∧ k e.2 < k i := by
  unfold evI
  rw [List.mem_map]
  constructor
  · rintro ⟨j, hj, rfl⟩
    have := List.mem_filter.mp hj
    have h1 := List.mem_range.mp this.1
    have h2 := this.2
    simp at h2
    exact ⟨rfl, h2.1, h1, h2.2⟩
  · rintro ⟨h1, h2, h3, h4⟩
    refine ⟨e.2, List.mem_filter.mpr ⟨List.mem_range.mpr h3, by simp [h2, h4]⟩, by rw [← h1]⟩
theorem mem_evs {e : Ev} : e ∈ evs n k ↔ IsEv n k e.1 e.2 := by
  unfold evs evD IsEv
  simp only [List.mem_flatMap, List.mem_range, mem_evI]
  constructor
  · rintro ⟨i, hi, h1, h2, h3, h4⟩
    subst h1
    exact ⟨h2, h3, h4⟩
  · rintro ⟨h1, h2, h3⟩
    exact ⟨e.1, by omega, rfl, h1, h2, h3⟩
theorem evI_nodup (i m : Nat) : (evI n k i m).Nodup := by
  unfold evI
  rw [List.nodup_iff_pairwise_ne, List.pairwise_map]
  refine List.Pairwise.imp ?_ ((List.nodup_iff_pairwise_ne.mp (List.nodup_range (n := m))).filter _)
  intro a b h z
  exact h (congrArg Prod.snd z)
theorem evD_succ (i : Nat) : evD n k (i + 1) = evD n k i ++ evI n k i n := by unfold evD; rw [List.range_succ, List.flatMap_append]; simp
theorem mem_evD {i : Nat} {e : Ev} (h : e ∈ evD n k i) : e.1 < i := by
  unfold evD at h
  simp only [List.mem_flatMap, List.mem_range, mem_evI] at h
  obtain ⟨j, hj, h1, _⟩ := h
  omega
theorem evD_nodup : ∀ i, (evD n k i).Nodup
  | 0 => .nil
  | i + 1 => by
    rw [evD_succ, List.nodup_append]
    refine ⟨evD_nodup i, evI_nodup i n, fun a ha b hb z => ?_⟩
    subst z
    have h1 := mem_evD ha
    have h2 := (mem_evI.mp hb).1
    omega
def theL (n : Nat) (k : Nat → Nat) (p s : Nat → Int) : List Ev := (evs n k).foldl (putE k p s) []
theorem theL_perm (R : Rod n k p s) : (theL n k p s).Perm (evs n k) := by
  have := (puts_ok R (es := evs n k) (l := []) .nil (fun _ h => nomatch h) (fun f hf => mem_evs.mp hf) (fun _ _ h => nomatch h) (evD_nodup n)).2
  rw [List.append_nil] at this
  exact this
theorem theL_ok (R : Rod n k p s) : EvL n k p s (theL n k p s) :=
  ⟨fun e => by rw [(theL_perm R).mem_iff, mem_evs], (puts_ok R (es := evs n k) (l := []) .nil (fun _ h => nomatch h) (fun f hf => mem_evs.mp hf) (fun _ _ h => nomatch h) (evD_nodup n)).1⟩
end
end Pv
/-! sorted(list of tuples of d ints), any ints, any number of them. -/
namespace LexS
open PySem PySem.Spec PyProof.Rows HT
theorem lex_asym : ∀ x y : List Int, lexLt x y = true → lexLt y x = false
  | [], [], h => by cases h
  | [], _ :: _, _ => rfl
  | _ :: _, [], h => by cases h
  | x :: xs, y :: ys, h => by
    rw [lexLt_cons] at h ⊢
    by_cases e : x = y
    · subst e
      rw [if_pos rfl] at h ⊢
      exact lex_asym xs ys h
    · rw [if_neg e] at h
      rw [if_neg (fun z => e z.symm)]
      have := of_decide_eq_true h
      exact decide_eq_false (by omega)
theorem lex_tr : ∀ x y z : List Int, lexLt y x = false → lexLt z y = false → lexLt z x = false
  | [], [], [], _, _ => rfl
  | [], [], _ :: _, _, _ => rfl
  | [], _ :: _, [], _, h => by cases h
  | [], _ :: _, _ :: _, _, _ => rfl
  | _ :: _, [], _, h, _ => by cases h
  | _ :: _, _ :: _, [], _, h => by cases h
  | x :: xs, y :: ys, z :: zs, h1, h2 => by
    rw [lexLt_cons] at h1 h2 ⊢
    by_cases e1 : y = x
    · subst e1
      rw [if_pos rfl] at h1
      by_cases e2 : z = y
      · rw [if_pos e2] at h2 ⊢
        exact lex_tr xs ys zs h1 h2
      · rw [if_neg e2] at h2 ⊢
        exact h2
    · rw [if_neg e1] at h1
      have a1 := of_decide_eq_false h1
      by_cases e2 : z = y
      · subst e2
        rw [if_neg e1]
        exact h1
      · rw [if_neg e2] at h2
        have a2 := of_decide_eq_false h2
        rw [if_neg (by omega)]
        exact decide_eq_false (by omega)
def ltI (h : Heap) (v u : Value) : Bool := lexLt (TS.intsOf h v) (TS.intsOf h u)
theorem swo_lex (h : Heap) : SrtO.Swo (ltI h) := ⟨fun x y => lex_asym _ _, fun x y z => lex_tr _ _ _⟩
section
variable {prog : Program} {w : World} {A : Around} {E : Value → Shared → Prop} {s : Shared} {Q : Bool → Shared → Prop}
theorem lex_any {b : Bool} {xs ys : List Value} {ns ms : List Int} (i : Nat) (hx : IntsAre xs ns) (hy : IntsAre ys ms) (hl : ns.length = ms.length)
    (h : Q (lexLt ns ms) s) : PySem.W.KatLex prog w A b false Q (xs.zip ys) i s := by
  induction hx generalizing ys ms i with
  | nil =>
    cases hy with
    | nil => exact PySem.W.kat_nil h
    | cons q u hy => simp at hl
  | @cons p t xs ns hx ih =>
    cases hy with
    | nil => simp at hl
    | @cons q u ys ms hy =>
      have hl' : ns.length = ms.length := by simpa using hl
      show PySem.W.KatLex prog w A b false Q ((Value.int p t, Value.int q u) :: xs.zip ys) i s
      refine PySem.W.kat_cons (wpAny_eqBool_int ?_)
      rw [lexLt_cons] at h
      by_cases e : p = q
      · subst e
        rw [beq_self_eq_true]
        rw [if_pos rfl] at h
        refine PySem.W.kat_yes ?_
        first
          | exact ih (i + 1) hy hl' h
          | exact ih _ _ (i + 1) hy hl' h
      · rw [show (p == q) = false from beq_eq_false_iff_ne.mpr e]
        rw [if_neg e] at h
        exact PySem.W.kat_no (TS.oneLt_ints _ h)
/-- tuples of d ints each -/
def TupsD (h : Heap) (d : Nat) (vs : List Value) : Prop := ∀ v, v ∈ vs → ∃ ns, TS.TupInts h v ns ∧ ns.length = d
theorem firstsD {h : Heap} {d : Nat} (hd : 1 ≤ d) : ∀ vs : List Value, TupsD h d vs → ∃ fs, PySem.W.KatTups h vs fs ∧ fs.length = vs.length ∧ ∀ f, f ∈ fs → ∃ n t, f = Value.int n t
  | [], _ => ⟨[], PySem.W.KatTups.nil, rfl, fun f hf => by simp at hf⟩
  | v :: vs, x => by
    obtain ⟨fs, k, hl, hi⟩ := firstsD hd vs fun u hu => x u (List.mem_cons_of_mem _ hu)
    obtain ⟨ns, ⟨a, xs, rfl, ⟨o, ho, hc, n, hdt⟩, i⟩, hn⟩ := x v (List.mem_cons_self ..)
    obtain ⟨y, ys, e⟩ : ∃ y ys, xs.toList = y :: ys := by
      cases q : xs.toList with
      | nil =>
        rw [q] at i
        have l := i.length
        rw [List.length_nil, hn] at l
        omega
      | cons y ys => exact ⟨y, ys, rfl⟩
    obtain ⟨m, t, hy⟩ := i.all y (by rw [e]; exact List.mem_cons_self ..)
    refine ⟨y :: fs, PySem.W.KatTups.cons ho hc hdt ?_ k, by simp [hl], ?_⟩
    · have z := congrArg (fun l : List Value => l[0]?) e
      simpa using z
    · intro f hf
      rcases List.mem_cons.mp hf with rfl | hf
      · exact ⟨m, t, hy⟩
      · exact hi f hf
theorem sortableD {h0 : Heap} {a : Addr} {vs : List Value} {d : Nat} (hd : 1 ≤ d) (h2 : 2 ≤ vs.length) (x0 : TupsD h0 d vs) (k0 : ∀ b o, h0.get? b = some o → o.cls = .type "tuple" → b ≠ a ∧ s.heap.get? b = some o) : SrtO.SortableO prog w A s a vs (ltI h0) := by
  intro h' kp
  have x : TupsD h' d vs := fun v hv => by
    obtain ⟨ns, t, r⟩ := x0 v hv
    exact ⟨ns, t.keeps (fun b o hb hc => kp b o (k0 b o hb hc).1 (k0 b o hb hc).2), r⟩
  obtain ⟨fs, k, hl, hi⟩ := firstsD hd vs x
  refine ⟨tuples' (Value.type "int" != Value.type "tuple"), fun Q E hq => ?_, ?_⟩
  · refine PySem.W.kat_kind (T := Value.type "int") (s := { s with heap := h' }) k (by omega) (fun f hf => ?_) rfl hq
    obtain ⟨n, t, rfl⟩ := hi f hf
    exact PySem.W.Looks.of_pure rfl
  · intro p q hp hq
    obtain ⟨ns, tp0, lp⟩ := x0 _ hp
    obtain ⟨ms, tq0, lq⟩ := x0 _ hq
    have e0 : SrtO.lt2 (ltI h0) p q = lexLt ns ms := by
      show lexLt (TS.intsOf h0 p.1) (TS.intsOf h0 q.1) = _
      rw [tp0.ints, tq0.ints]
    rw [e0]
    obtain ⟨a1, xs, e1, ⟨o, ho, hc, n, hdt⟩, i⟩ := tp0.keeps (h' := h') (fun b o hb hc => kp b o (k0 b o hb hc).1 (k0 b o hb hc).2)
    obtain ⟨a2, ys, e2, ⟨o', ho', hc', n', hdt'⟩, i'⟩ := tq0.keeps (h' := h') (fun b o hb hc => kp b o (k0 b o hb hc).1 (k0 b o hb hc).2)
    rw [e1, e2]
    refine PySem.W.kat_lt (s := { s with heap := h' }) ho hdt ho' hdt' ?_
    have sz : decide (xs.size < ys.size) = false := by
      have l1 := i.length
      have l2 := i'.length
      rw [Array.length_toList] at l1 l2
      exact decide_eq_false (by omega)
    rw [sz]
    exact lex_any 0 i i' (by omega) ⟨rfl, rfl⟩
end
end LexS
namespace L2
open PySem PySem.Spec PyProof.Rows
section
variable {X : Cx}
def rSortL (K : PySem.W.Frag) : List V → Hp → VK → Prop := fun vs H Q => ∃ (a : Addr) (xs : List V) (d : Nat), vs = [V.ref a] ∧ SqL K H a xs ∧ 1 ≤ d ∧ (∀ x ∈ xs, ∃ ns, TupI K H x ns ∧ ns.length = d) ∧
  ∀ (ys : List V) (p : Addr), ys.Perm xs → ys.Pairwise (fun x y => ∀ n m, TupI K H x n → TupI K H y m → HT.lexLt m n = false) → H p = none → Q (.ref p) (upd H p (.lst ys))
theorem cr_sortL : CallR X (.builtin "sorted") (rSortL X.K) := by
  intro pins s σ H vs us Q I r h
  obtain ⟨a, xs, d, rfl, hs, hd, hx, q⟩ := h
  obtain ⟨its, rv, hl, hz⟩ := I.list hs
  rw [Vals.ref1 r]
  obtain ⟨e1, e2⟩ := bkV_refs rv fun x m => by
    obtain ⟨ns, ⟨t, e, _⟩, _⟩ := hx x m
    exact ⟨t, e⟩
  have tD : LexS.TupsD s.heap d its := fun v hv => by
    obtain ⟨t, rfl⟩ := e2 v hv
    have hm : V.ref t ∈ xs := by
      rw [e1]
      exact List.mem_map.mpr ⟨_, hv, rfl⟩
    obtain ⟨ns, ⟨t', e, ht⟩, hn⟩ := hx _ hm
    cases e
    exact ⟨ns, tupI_raw I ht, hn⟩
  refine SrtO.sorted_ord (LexS.swo_lex s.heap) hl.isList (by rw [← rv.length]; exact hz) (fun h2 h₁ a' ha' kp => LexS.sortableD hd h2 tD fun b o hb hc => kp b o hb) fun out h1 h2 => ?_
  obtain ⟨ep, he'⟩ := PyProof.Rows.sortedAll_at s.heap its out.toArray
  have h3 : ∀ u ∈ out, ∃ a, u = Value.ref a := fun u hu => e2 u (h2.perm.mem_iff.mp hu)
  have hp : (out.map bkV).Perm xs := by
    rw [e1]
    exact h2.perm.map bkV
  have hlen : (out.map bkV).length ≤ sizeLine := by
    rw [hp.length_eq]
    exact hz
  refine ⟨.ref _, upd H (s.heap.objs.size + 1) (.lst (out.map bkV)), I.laid (t' := s.toks) (fun _ _ => PyProof.Rows.sortedAll_old) (Nat.le_succ _) ⟨hlen, out, ep, bkV_vals h3, he'⟩, rfl, q _ _ hp ?_ (I.hok.fresh (Nat.le_succ _))⟩
  rw [List.pairwise_map]
  refine List.Pairwise.imp (fun {u v} huv n m hn hm => ?_) h1
  obtain ⟨t, et, ht⟩ := hn
  obtain ⟨t', et', ht'⟩ := hm
  have eu := bkV_ref et
  have ev := bkV_ref et'
  have i1 : TS.intsOf s.heap u = n := by
    rw [eu]
    exact (tupI_raw I ht).ints
  have i2 : TS.intsOf s.heap v = m := by
    rw [ev]
    exact (tupI_raw I ht').ints
  rw [← i1, ← i2]
  exact huv
end
end L2
namespace Pv
open PySem PySem.Spec L2 Wf
/-- sorted(list of tuples of d ints) -/
def fSortL : PyData → (List PyData → Prop) → Prop := fun x k => ∃ (nss : List (List Int)) (d : Nat), x = .list (nss.map dK) ∧ 1 ≤ d ∧ (∀ ns ∈ nss, ns.length = d) ∧ ∀ mss : List (List Int), mss.Perm nss → mss.Pairwise (fun n m => HT.lexLt m n = false) → k (mss.map dK)
theorem lc_sortL {K : PySem.W.Frag} : LC K (q1L fSortL) (rSortL K) := by
  refine lc_own1 (fun G H v x Q s hv q => ?_) (fun x k k' hk q => ?_)
  · obtain ⟨nss, d, rfl, hd, hb, q⟩ := q
    obtain ⟨a, us, rfl, ha, hds⟩ := hv.seqL s
    refine ⟨a, us, d, rfl, SqL.of ha, hd, fun x hx => ?_, fun ys p hp ho hn => ?_⟩
    · obtain ⟨ns, hm, t⟩ := dq_each s hds x hx
      exact ⟨ns, t, hb ns hm⟩
    · obtain ⟨mss, p1, p2⟩ := dq_perm hp hds
      exact q mss p1 (dq_pairs s p2 ho) ys p p2 hn
  · obtain ⟨nss, d, e, hd, hb, q⟩ := q
    exact ⟨nss, d, e, hd, hb, fun mss p1 p2 => hk _ (q mss p1 p2)⟩
end Pv
namespace Pv
open PySem PySem.Spec L2 Wf
/-! Roads: what passings does. -/
/-! ### common_divisor -/
-- DEF common_divisor N ['one', 'other'] calls [] takes []
def pb_cdiv_1 : PSx :=
    pPar [0, 1] (pCons (pVar 1) (pCons (pMod (pVar 0) (pVar 1)) (pNil)))
def pr_cdiv_1 : PSx :=
    pRet (pVar 0)
def p_cdiv : PSx :=
    pSeq (pWhile [] (pT (pGt (pVar 1) (pK (.int 0)))) (pb_cdiv_1))
    (pr_cdiv_1)
def psp_cdiv : PSp := fun as Q _ => ∃ a b : Nat, as = [.im (nD a), .im (nD b)] ∧ Q (.im (nD (Nat.gcd a b))) [.un, .un]
theorem gcd_step (x y : Nat) : Nat.gcd y (x % y) = Nat.gcd x y := by
  rw [Nat.gcd_comm x y, Nat.gcd_rec y x, Nat.gcd_comm]
theorem hp_cdiv (as : List Sl) (Qp : QE) (Ep : EX) (h : psp_cdiv as Qp Ep) : p_cdiv (endsP as Qp) (as ++ List.replicate 0 .un) := by
  obtain ⟨a, b, rfl, q⟩ := h
  refine ⟨fun m δ => ∃ x y : Nat, m = y ∧ Nat.gcd x y = Nat.gcd a b ∧ δ = [.im (nD x), .im (nD y)], ⟨b, a, b, rfl, rfl, rfl⟩, ?_⟩
  rintro m δ ⟨x, y, rfl, hg, rfl⟩
  refine ⟨trivial, _, rfl, ?_⟩
  show if decide ((0 : Int) < (m : Int)) = true then _ else _
  by_cases c : 0 < m
  · rw [if_pos (decide_eq_true (by omega))]
    refine ⟨show (0 : Int) < (m : Int) by omega, _, _, rfl, x % m, Nat.mod_lt _ c, m, x % m, rfl, by rw [gcd_step]; exact hg, ?_⟩
    show [Sl.im (nD m), Sl.im (.int ((x : Int) % (m : Int)))] = [Sl.im (nD m), Sl.im (.int ((x % m : Nat) : Int))]
    rw [Int.natCast_emod]
  · rw [if_neg (fun z => c (by have := of_decide_eq_true z; omega))]
    have e : m = 0 := by omega
    subst e
    rw [Nat.gcd_zero_right] at hg
    subst hg
    exact ⟨_, _, rfl, q⟩
/-! ### common_multiple -/
-- DEF common_multiple N ['numbers', 'multiple', 'number'] calls ['common_divisor'] takes []
def pb_cmul_1 : PSx :=
    pSet 1 (pMul (pFdiv (pVar 1) (pCall psp_cdiv (pCons (pFz (pVar 1)) (pCons (pFz (pVar 2)) (pNil))) noX)) (pVar 2))
def pr_cmul_1 : PSx :=
    pRet (pVar 1)
def pr_cmul_2 : PSx :=
    pSeq (pFor [2] (iSeq (pVar 0)) (gN 2) (pb_cmul_1))
    (pr_cmul_1)
def p_cmul : PSx :=
    pSeq (pSet 1 (pK (.int 1)))
    (pr_cmul_2)
def lcmL (gs : List Nat) : Nat := gs.foldl (fun m g => m / Nat.gcd m g * g) 1
theorem lcmL_snoc (gs : List Nat) (g : Nat) : lcmL (gs ++ [g]) = lcmL gs / Nat.gcd (lcmL gs) g * g := by unfold lcmL; rw [List.foldl_append]; rfl
def psp_cmul : PSp := fun as Q _ => ∃ gs : List Nat, as = [.im (.list (dN gs))] ∧ (∀ g ∈ gs, 1 ≤ g ∧ g ≤ 2000) ∧ Q (.im (nD (lcmL gs))) [.un]
theorem cd_gcd {x : Int} {m g : Nat} (h1 : 1 ≤ g) (h2 : g ≤ 2000) : CDivW x ((Nat.gcd m g : Nat) : Int) := by
  have a := Nat.gcd_le_right m (show 0 < g by omega)
  have b := Nat.gcd_pos_of_pos_right m (show 0 < g by omega)
  exact wide_div (b := 12) (by omega) (by rw [Int.natAbs_natCast]; omega) (by decide) (by decide)
theorem hp_cmul (as : List Sl) (Qp : QE) (Ep : EX) (h : psp_cmul as Qp Ep) : p_cmul (endsP as Qp) (as ++ List.replicate 2 .un) := by
  obtain ⟨gs, rfl, hg, q⟩ := h
  refine ⟨_, _, rfl, ?_⟩
  show pr_cmul_2 _ [.im (.list (dN gs)), .im (nD 1), .un]
  refine ⟨_, _, _, rfl, rfl, ?_⟩
  refine for_dN gs (fun i δ => δ = [.im (.list (dN gs)), .im (nD (lcmL (gs.take i))), .un]) rfl ?_ ?_
  · rintro i g δ hi rfl
    obtain ⟨h1, h2⟩ := hg g (List.mem_of_getElem? hi)
    refine ⟨_, _, rfl, _, _, rfl, _, rfl, List.nodup_nil, _, g, rfl, cd_gcd h1 h2, .inl (.inr ⟨by omega, by omega⟩), _, _, rfl, ?_⟩
    show [_, _, _] = [_, _, _]
    rw [List.take_add_one, hi]
    show _ = [_, Sl.im (nD (lcmL (gs.take i ++ [g]))), _]
    rw [lcmL_snoc]
    show _ = [_, Sl.im (.int ((_ : Nat) : Int)), _]
    rw [Int.natCast_mul, Int.natCast_ediv]
    rfl
  · rintro δ rfl
    rw [List.take_length]
    exact ⟨_, _, rfl, q⟩
theorem lcm_dvd {gs : List Nat} {W : Nat} : ∀ {hs : List Nat} {m : Nat}, (∀ g ∈ hs, 1 ≤ g ∧ g ∣ W) → m ∣ W → 0 < m → hs.foldl (fun m g => m / Nat.gcd m g * g) m ∣ W ∧ 0 < hs.foldl (fun m g => m / Nat.gcd m g * g) m ∧ m ∣ hs.foldl (fun m g => m / Nat.gcd m g * g) m ∧ ∀ g ∈ hs, g ∣ hs.foldl (fun m g => m / Nat.gcd m g * g) m
  | [], m, _, h, h0 => ⟨h, h0, Nat.dvd_refl m, fun _ z => nomatch z⟩
  | g :: hs, m, hg, h, h0 => by
    obtain ⟨g1, g2⟩ := hg g List.mem_cons_self
    have e : m / Nat.gcd m g * g = Nat.lcm m g := by
      unfold Nat.lcm
      rw [Nat.div_mul_right_comm (Nat.gcd_dvd_left m g)]
    obtain ⟨r1, r2, r3, r4⟩ := lcm_dvd (gs := gs) (W := W) (hs := hs) (m := Nat.lcm m g) (fun x hx => hg x (List.mem_cons_of_mem _ hx)) (Nat.lcm_dvd h g2) (Nat.lcm_pos h0 g1)
    have el : (g :: hs).foldl (fun m g => m / Nat.gcd m g * g) m = hs.foldl (fun m g => m / Nat.gcd m g * g) (Nat.lcm m g) := by rw [List.foldl_cons, e]
    rw [el]
    refine ⟨r1, r2, Nat.dvd_trans (Nat.dvd_lcm_left m g) r3, fun x hx => ?_⟩
    rcases List.mem_cons.mp hx with rfl | hx
    · exact Nat.dvd_trans (Nat.dvd_lcm_right m x) r3
    · exact r4 x hx
theorem prod_dvd : ∀ {l : List Nat} {x : Nat}, x ∈ l → x ∣ l.foldr (· * ·) 1
  | a :: l, x, h => by
    rcases List.mem_cons.mp h with rfl | h
    · exact Nat.dvd_mul_right _ _
    · exact Nat.dvd_trans (prod_dvd h) (Nat.dvd_mul_left _ _)
theorem prod_le : ∀ {l : List Nat}, (∀ x ∈ l, 1 ≤ x ∧ x ≤ 2000) → 1 ≤ l.foldr (· * ·) 1 ∧ l.foldr (· * ·) 1 ≤ 2048 ^ l.length
  | [], _ => ⟨Nat.le_refl _, Nat.le_refl _⟩
  | a :: l, h => by
    obtain ⟨h1, h2⟩ := h a List.mem_cons_self
    obtain ⟨i1, i2⟩ := prod_le (l := l) fun x hx => h x (List.mem_cons_of_mem _ hx)
    show 1 ≤ a * l.foldr (· * ·) 1 ∧ a * l.foldr (· * ·) 1 ≤ 2048 ^ (l.length + 1)
    refine ⟨Nat.mul_le_mul h1 i1, ?_⟩
    rw [Nat.pow_succ, Nat.mul_comm (2048 ^ _)]
    exact Nat.mul_le_mul (by omega) i2
theorem lcmL_ok {gs gs0 : List Nat} (h0 : gs0.length ≤ 100) (h1 : ∀ g ∈ gs0, 1 ≤ g ∧ g ≤ 2000) (h2 : ∀ g ∈ gs, g ∈ gs0) : 0 < lcmL gs ∧ lcmL gs < 2 ^ 2000 ∧ ∀ g ∈ gs, g ∣ lcmL gs := by
  obtain ⟨p1, p2⟩ := prod_le h1
  obtain ⟨r1, r2, _, r4⟩ := lcm_dvd (gs := gs) (W := gs0.foldr (· * ·) 1) (hs := gs) (m := 1) (fun g hg => ⟨(h1 g (h2 g hg)).1, prod_dvd (h2 g hg)⟩) (Nat.one_dvd _) (by decide)
  refine ⟨r2, ?_, r4⟩
  have l1 : lcmL gs ≤ gs0.foldr (· * ·) 1 := Nat.le_of_dvd p1 r1
  have l2 : (2048 : Nat) ^ gs0.length ≤ 2048 ^ 100 := Nat.pow_le_pow_right (by decide) h0
  have l3 : (2048 : Nat) ^ 100 < 2 ^ 2000 := by
    rw [show (2048 : Nat) = 2 ^ 11 by decide, ← Nat.pow_mul]
    exact Nat.pow_lt_pow_right (by decide) (by decide)
  exact Nat.lt_of_le_of_lt (Nat.le_trans l1 (Nat.le_trans p2 l2)) l3
/-! ### moment_of -/
-- DEF moment_of N ['upper', 'lower', 'divisor'] calls ['common_divisor'] takes []
def pr_moment_of_1 : PSx :=
    pRet (pTup (pCons (pFdiv (pVar 0) (pVar 2)) (pCons (pFdiv (pVar 1) (pVar 2)) (pNil))))
def p_moment_of : PSx :=
    pSeq (pSet 2 (pCall psp_cdiv (pCons (pFz (pVar 0)) (pCons (pFz (pVar 1)) (pNil))) noX))
    (pr_moment_of_1)
def psp_moment_of : PSp := fun as Q _ => ∃ a b : Nat, as = [.im (nD a), .im (nD b)] ∧ 0 < b ∧ b < 2 ^ 2000 ∧ Q (.im (.tuple [nD (a / Nat.gcd a b), nD (b / Nat.gcd a b)])) [.un, .un]
theorem hp_moment_of (as : List Sl) (Qp : QE) (Ep : EX) (h : psp_moment_of as Qp Ep) : p_moment_of (endsP as Qp) (as ++ List.replicate 1 .un) := by
  obtain ⟨a, b, rfl, b0, b1, q⟩ := h
  have cd : ∀ x : Int, CDivW x ((Nat.gcd a b : Nat) : Int) := fun x => by
    have h1 := Nat.gcd_le_right a b0
    have h2 := Nat.gcd_pos_of_pos_right a b0
    exact wide_div (b := 2000) (by omega) (by rw [Int.natAbs_natCast]; exact Nat.lt_of_le_of_lt h1 b1) (by decide) (by decide)
  refine ⟨_, _, rfl, _, _, rfl, _, rfl, List.nodup_nil, a, b, rfl, _, _, rfl, ?_⟩
  show pr_moment_of_1 _ [.im (nD a), .im (nD b), .im (nD (Nat.gcd a b))]
  refine ⟨cd _, cd _, _, _, rfl, ?_⟩
  have q' := q
  rw [show nD (a / Nat.gcd a b) = .int ((a : Int) / ((Nat.gcd a b : Nat) : Int)) by show PyData.int _ = _; rw [Int.natCast_ediv], show nD (b / Nat.gcd a b) = .int ((b : Int) / ((Nat.gcd a b : Nat) : Int)) by show PyData.int _ = _; rw [Int.natCast_ediv]] at q'
  exact q'
/-! ### in_told_order -/
-- DEF in_told_order N ['kinds', 'meetings', 'parts', 'turns', 'way', 'gap', 'i', 'j', 'when', 'less_u', 'less_v'] calls ['common_multiple', 'moment_of'] takes []
def pe_told_order_1 : PX :=
    pVar 5
def pe_told_order_2 : PX :=
    pTup (pCons (pMul (pVar 4) (pFdiv (pVar 2) (pVar 5))) (pCons (pNeg (pIx (pVar 0) (pVar 6))) (pCons (pNeg (pIx (pVar 0) (pVar 7))) (pCons (pVar 6) (pCons (pVar 7) (pNil))))))
def pe_told_order_3 : PX :=
    pTup (pCons (pCall psp_moment_of (pCons (pFz (pVar 8)) (pCons (pFz (pVar 2)) (pNil))) noX) (pCons (pVar 6) (pCons (pVar 7) (pNil))))
def pr_told_order_1 : PSx :=
    pRet (pC (q1 fTupleOf) (pCons (pComp (iSeq (pVar 3)) (gT 5 (gsC (gN 8) (gsC (gN 9) (gsC (gN 10) (gsC (gN 6) (gsC (gN 7) (gsN))))))) (pYes) (pe_told_order_3) [8, 9, 10, 6, 7]) (pNil)))
def pr_told_order_2 : PSx :=
    pSeq (pSet 3 (pC (q1L fSortL) (pCons (pComp (iSeq (pVar 1)) (gT 4 (gsC (gN 4) (gsC (gN 5) (gsC (gN 6) (gsC (gN 7) (gsN)))))) (pYes) (pe_told_order_2) [4, 5, 6, 7]) (pNil))))
    (pr_told_order_1)
def p_told_order : PSx :=
    pSeq (pSet 2 (pCall psp_cmul (pCons (pFz (pComp (iSeq (pVar 1)) (gT 4 (gsC (gN 4) (gsC (gN 5) (gsC (gN 6) (gsC (gN 7) (gsN)))))) (pYes) (pe_told_order_1) [4, 5, 6, 7])) (pNil)) noX))
    (pr_told_order_2)
/-- a way, a gap, who passes whom -/
abbrev Mt := Nat × Nat × Nat × Nat
abbrev mtD (m : Mt) : PyData := .tuple [nD m.1, nD m.2.1, nD m.2.2.1, nD m.2.2.2]
abbrev toldD (m : Mt) : PyData := .tuple [.tuple [nD (m.1 / Nat.gcd m.1 m.2.1), nD (m.2.1 / Nat.gcd m.1 m.2.1)], nD m.2.2.1, nD m.2.2.2]
def soonM (ks : List Nat) (a b : Mt) : Prop := a.1 * b.2.1 < b.1 * a.2.1 ∨ a.1 * b.2.1 = b.1 * a.2.1 ∧ soonK (fun i => ks.getD i 0) (a.2.2.1, a.2.2.2) (b.2.2.1, b.2.2.2)
def keyM (ks : List Nat) (W : Nat) (m : Mt) : List Int := [((m.1 * (W / m.2.1) : Nat) : Int), -((ks.getD m.2.2.1 0 : Nat) : Int), -((ks.getD m.2.2.2 0 : Nat) : Int), (m.2.2.1 : Int), (m.2.2.2 : Int)]
theorem lex5 {b0 b1 b2 b3 b4 a0 a1 a2 a3 a4 : Int} (h : HT.lexLt [b0, b1, b2, b3, b4] [a0, a1, a2, a3, a4] = false) : ¬ (b0 < a0 ∨ b0 = a0 ∧ (b1 < a1 ∨ b1 = a1 ∧ (b2 < a2 ∨ b2 = a2 ∧ (b3 < a3 ∨ b3 = a3 ∧ b4 < a4)))) := by
  simp only [HT.lexLt_cons] at h
  split at h
  · split at h
    · split at h
      · split at h
        · split at h
          · omega
          · have := of_decide_eq_false h; omega
        · have := of_decide_eq_false h; omega
      · have := of_decide_eq_false h; omega
    · have := of_decide_eq_false h; omega
  · have := of_decide_eq_false h; omega
theorem key_soon {ks : List Nat} {W : Nat} {a b : Mt} (W0 : 0 < W) (ga : 1 ≤ a.2.1) (gb : 1 ≤ b.2.1) (da : a.2.1 ∣ W) (db : b.2.1 ∣ W) (h : HT.lexLt (keyM ks W b) (keyM ks W a) = false) : ¬ soonM ks b a := by
  have h := lex5 h
  intro z
  refine h ?_
  obtain ⟨ca, ea⟩ := da
  obtain ⟨cb, eb⟩ := db
  have qa : W / a.2.1 = ca := by rw [ea]; exact Nat.mul_div_cancel_left _ ga
  have qb : W / b.2.1 = cb := by rw [eb]; exact Nat.mul_div_cancel_left _ gb
  rw [qa, qb]
  have pa : 0 < ca := Nat.pos_of_ne_zero fun z => by rw [z, Nat.mul_zero] at ea; omega
  have pb : 0 < cb := Nat.pos_of_ne_zero fun z => by rw [z, Nat.mul_zero] at eb; omega
  have m1 : (b.1 * cb) * W = (b.1 * a.2.1) * (ca * cb) := by rw [ea, Nat.mul_mul_mul_comm, Nat.mul_comm cb ca]
  have m2 : (a.1 * ca) * W = (a.1 * b.2.1) * (ca * cb) := by rw [eb, Nat.mul_mul_mul_comm]
  have pc : 0 < ca * cb := Nat.mul_pos pa pb
  rcases z with z | ⟨z, y⟩
  · have : (b.1 * cb) * W < (a.1 * ca) * W := by rw [m1, m2]; exact Nat.mul_lt_mul_of_pos_right z pc
    have := Nat.lt_of_mul_lt_mul_right this
    exact .inl (by omega)
  · have : (b.1 * cb) * W = (a.1 * ca) * W := by rw [m1, m2, z]
    have := Nat.eq_of_mul_eq_mul_right W0 this
    refine .inr ⟨by omega, ?_⟩
    unfold soonK at y
    dsimp only at y
    omega
theorem told_red {w g W : Nat} (g1 : 1 ≤ g) (W0 : 0 < W) (d : g ∣ W) : w * (W / g) / Nat.gcd (w * (W / g)) W = w / Nat.gcd w g ∧ W / Nat.gcd (w * (W / g)) W = g / Nat.gcd w g := by
  obtain ⟨c, e⟩ := d
  have q : W / g = c := by rw [e]; exact Nat.mul_div_cancel_left _ g1
  have pc : 0 < c := Nat.pos_of_ne_zero fun z => by rw [z, Nat.mul_zero] at e; omega
  rw [q]
  conv => lhs; rw [e, Nat.gcd_mul_right, Nat.mul_div_mul_right _ _ pc]
  conv => rhs; rw [e, Nat.gcd_mul_right, Nat.mul_div_mul_right _ _ pc]
  exact ⟨rfl, rfl⟩
theorem perm_map_inv {α β : Type} [DecidableEq α] {f : α → β} : ∀ {m : List β} {l : List α}, m.Perm (l.map f) → ∃ o : List α, o.Perm l ∧ m = o.map f
  | [], l, h => ⟨[], by rw [List.map_eq_nil_iff.mp h.nil_eq.symm], rfl⟩
  | b :: m, l, h => by
    obtain ⟨a, ha, e⟩ := List.mem_map.mp (h.mem_iff.mp List.mem_cons_self)
    have p1 := List.perm_cons_erase ha
    have h2 := h.trans (p1.map f)
    rw [List.map_cons, e] at h2
    obtain ⟨o, h3, h4⟩ := perm_map_inv h2.cons_inv
    exact ⟨a :: o, (h3.cons a).trans p1.symm, by rw [List.map_cons, e, h4]⟩
structure MtOk (ks : List Nat) (m : Mt) : Prop where
  w : m.1 < 2 ^ 63
  g1 : 1 ≤ m.2.1
  g2 : m.2.1 ≤ 2000
  i : m.2.2.1 < ks.length
  j : m.2.2.2 < ks.length
def psp_told_order : PSp := fun as Q _ => ∃ (ks : List Nat) (ms : List Mt) (gs0 : List Nat), as = [.im (.tuple (dN ks)), .im (.list (ms.map mtD))] ∧ (∀ m ∈ ms, MtOk ks m) ∧ ms.length ≤ 1000000 ∧ gs0.length ≤ 100 ∧ (∀ g ∈ gs0, 1 ≤ g ∧ g ≤ 2000) ∧ (∀ m ∈ ms, m.2.1 ∈ gs0) ∧
  ∀ out : List Mt, out.Perm ms → out.Pairwise (fun a b => ¬ soonM ks b a) → Q (.im (.tuple (out.map toldD))) [.un, .un]
abbrev stT (ks : List Nat) (ms : List Mt) (s2 s3 : Sl) : List Sl := [.im (.tuple (dN ks)), .im (.list (ms.map mtD)), s2, s3, .un, .un, .un, .un, .un, .un, .un]
theorem hp_told_order (as : List Sl) (Qp : QE) (Ep : EX) (h : psp_told_order as Qp Ep) : p_told_order (endsP as Qp) (as ++ List.replicate 9 .un) := by
  obtain ⟨ks, ms, gs0, rfl, mok, ml, g0, g1, g2, q⟩ := h
  have z9 : (1000000 : Nat) < sizeLine := by decide
  refine ⟨_, _, _, rfl, rfl, fun x hx o => by (simp only [List.mem_cons, List.not_mem_nil, or_false] at hx; rcases hx with rfl | rfl | rfl | rfl <;> exact nofun), fun i acc δ => acc = dN ((ms.take i).map fun m => m.2.1) ∧ δ = stT ks ms .un .un, ⟨rfl, rfl⟩, ?_, ?_⟩
  · rintro i d acc δ hd ⟨rfl, rfl⟩
    rw [List.getElem?_map] at hd
    obtain ⟨m, hm, rfl⟩ := Option.map_eq_some_iff.mp hd
    refine ⟨rfl, rfl, _, _, rfl, ?_, ?_, rfl⟩
    · rw [dN_len, List.length_map, List.length_take]
      omega
    · rw [List.take_add_one, hm, List.map_append, dN_app]
      rfl
  rintro acc δ ⟨rfl, rfl⟩
  rw [List.length_map, List.take_length]
  obtain ⟨W0, W1, W2⟩ := lcmL_ok (gs := ms.map fun m => m.2.1) g0 g1 (fun g hg => by
    obtain ⟨m, hm, rfl⟩ := List.mem_map.mp hg
    exact g2 m hm)
  refine ⟨_, _, rfl, _, rfl, List.nodup_nil, _, rfl, fun g hg => ?_, _, _, rfl, ?_⟩
  · obtain ⟨m, hm, rfl⟩ := List.mem_map.mp hg
    exact ⟨(mok m hm).g1, (mok m hm).g2⟩
  generalize lcmL (ms.map fun m => m.2.1) = W at W0 W1 W2
  have W2 : ∀ m ∈ ms, m.2.1 ∣ W := fun m hm => W2 _ (List.mem_map.mpr ⟨m, hm, rfl⟩)
  show pr_told_order_2 _ (stT ks ms (.im (nD W)) .un)
  refine ⟨_, _, _, rfl, rfl, fun x hx o => by (simp only [List.mem_cons, List.not_mem_nil, or_false] at hx; rcases hx with rfl | rfl | rfl | rfl <;> exact nofun), fun i acc δ => acc = ((ms.take i).map (keyM ks W)).map dK ∧ δ = stT ks ms (.im (nD W)) .un, ⟨rfl, rfl⟩, ?_, ?_⟩
  · rintro i d acc δ hd ⟨rfl, rfl⟩
    rw [List.getElem?_map] at hd
    obtain ⟨m, hm, rfl⟩ := Option.map_eq_some_iff.mp hd
    have ok := mok m (List.mem_of_getElem? hm)
    have cd : CDivW (W : Int) ((m.2.1 : Nat) : Int) := by
      have := ok.g1
      have := ok.g2
      exact wide_div (b := 12) (by omega) (by rw [Int.natAbs_natCast]; omega) (by decide) (by decide)
    have okw := ok.w
    refine ⟨rfl, rfl, cd, .inl (.inl ⟨by omega, by omega⟩), _, atI_of rfl (dN_get (getD_of ok.i)), _, atI_of rfl (dN_get (getD_of ok.j)), _, _, rfl, ?_, ?_, rfl⟩
    · rw [List.length_map, List.length_map, List.length_take]
      omega
    · rw [List.take_add_one, hm, List.map_append, List.map_append]
      show _ ++ [PyData.tuple [.int ((m.1 : Int) * ((W : Int) / (m.2.1 : Int))), _, _, _, _]] = _ ++ [dK (keyM ks W m)]
      unfold keyM
      rw [Int.natCast_mul, Int.natCast_ediv]
      rfl
  rintro acc δ ⟨rfl, rfl⟩
  rw [List.length_map, List.take_length]
  refine ⟨_, 5, rfl, by decide, fun ns hn => ?_, fun mss pm so => ?_⟩
  · obtain ⟨m, hm, rfl⟩ := List.mem_map.mp hn
    rfl
  obtain ⟨out, po, rfl⟩ := perm_map_inv pm
  have so' := List.pairwise_map.mp so
  have oo : out.Pairwise fun a b => ¬ soonM ks b a := by
    refine List.Pairwise.imp_of_mem ?_ so'
    intro a b ha hb hab
    have ma := po.mem_iff.mp ha
    have mb := po.mem_iff.mp hb
    exact key_soon W0 (mok a ma).g1 (mok b mb).g1 (W2 a ma) (W2 b mb) hab
  have q := q out po oo
  have ol := po.length_eq
  refine ⟨_, _, rfl, ?_⟩
  show pr_told_order_1 _ (stT ks ms (.im (nD W)) (.ow false (.lst ((out.map (keyM ks W)).map dK))))
  refine ⟨_, _, _, rfl, rfl, fun x hx o => by (simp only [List.mem_cons, List.not_mem_nil, or_false] at hx; rcases hx with rfl | rfl | rfl | rfl | rfl <;> exact nofun), fun i acc δ => acc = (out.take i).map toldD ∧ δ = stT ks ms (.im (nD W)) (.im (.list ((out.map (keyM ks W)).map dK))), ⟨rfl, rfl⟩, ?_, ?_⟩
  · rintro i d acc δ hd ⟨rfl, rfl⟩
    rw [List.getElem?_map, List.getElem?_map] at hd
    obtain ⟨k, hk, rfl⟩ := Option.map_eq_some_iff.mp hd
    obtain ⟨m, hm, rfl⟩ := Option.map_eq_some_iff.mp hk
    have mm := po.mem_iff.mp (List.mem_of_getElem? hm)
    have ok := mok m mm
    have rd := told_red (w := m.1) ok.g1 W0 (W2 m mm)
    refine ⟨rfl, rfl, _, _, rfl, _, _, rfl, _, rfl, List.nodup_nil, m.1 * (W / m.2.1), W, rfl, W0, W1, _, _, rfl, ?_, ?_, rfl⟩
    · rw [List.length_map, List.length_take]
      omega
    · rw [List.take_add_one, hm, List.map_append, rd.1, rd.2]
      rfl
  · rintro acc δ ⟨rfl, rfl⟩
    rw [List.length_map, List.length_map, List.take_length]
    exact ⟨_, _, rfl, q⟩
/-! ### passings -/
-- DEF passings N ['book', 'kinds', 'spots', 'paces', 'many', 'meetings', 'i', 'j'] calls ['in_told_order'] takes []
abbrev kf (ks : List Nat) : Nat → Nat := fun i => ks.getD i 0
abbrev pf (ps : List Int) (ks : List Nat) : Nat → Int := fun i => ps.getD (ks.getD i 0) 0
abbrev sf (ss : List Int) : Nat → Int := fun i => ss.getD i 0
structure RdOk (m : Int) (ps : List Int) (ks : List Nat) (ss : List Int) : Prop where
  pac : PacesOk m ps
  m5 : m ≤ 5
  kl : ∀ k ∈ ks, (k : Int) < m
  n10 : ks.length ≤ 10
  sl : ss.length = ks.length
  up : ss.Pairwise (· < ·)
  lo : ∀ x ∈ ss, -(2 ^ 62) ≤ x ∧ x < 2 ^ 62
theorem getDm {α : Type} {l : List α} {i : Nat} {d : α} (h : i < l.length) : l.getD i d ∈ l := by
  rw [List.getD_eq_getElem?_getD, List.getElem?_eq_getElem h]
  exact List.getElem_mem h
theorem up_get {l : List Int} (h : l.Pairwise (· < ·)) {i j : Nat} (hij : i < j) (hj : j < l.length) : l.getD i 0 < l.getD j 0 := by
  have := List.pairwise_iff_getElem.mp h i j (by omega) hj hij
  rw [List.getD_eq_getElem?_getD, List.getD_eq_getElem?_getD, List.getElem?_eq_getElem hj, List.getElem?_eq_getElem (show i < l.length by omega)]
  exact this
theorem RdOk.kp {m : Int} {ps ss : List Int} {ks : List Nat} (h : RdOk m ps ks ss) {i : Nat} (hi : i < ks.length) : ks.getD i 0 < ps.length := by
  have := h.kl _ (getDm (d := 0) hi)
  have := h.pac.len
  omega
theorem RdOk.rod {m : Int} {ps ss : List Int} {ks : List Nat} (h : RdOk m ps ks ss) : Rod ks.length (kf ks) (pf ps ks) (sf ss) where
  up := fun i j hij hj => up_get h.up hij (by rw [h.sl]; exact hj)
  pk := fun i j hi hj hk => up_get h.pac.rise hk (h.kp hj)
  pe := fun i j hi hj hk => by show ps.getD _ 0 = ps.getD _ 0; rw [show ks.getD i 0 = ks.getD j 0 from hk]
theorem RdOk.ev {m : Int} {ps ss : List Int} {ks : List Nat} (h : RdOk m ps ks ss) {e : Ev} (he : IsEv ks.length (kf ks) e.1 e.2) : 1 ≤ wy (sf ss) e ∧ wy (sf ss) e < 2 ^ 63 ∧ 1 ≤ gp (pf ps ks) e ∧ gp (pf ps ks) e ≤ 2000 := by
  have R := h.rod
  have h1 : ss.getD e.1 0 < ss.getD e.2 0 := R.up e.1 e.2 he.1 he.2.1
  have h2 : 0 < ps.getD (ks.getD e.1 0) 0 - ps.getD (ks.getD e.2 0) 0 := ev_gp R he
  have hi : e.1 < ks.length := by have := he.1; have := he.2.1; omega
  have h3 := h.lo _ (getDm (d := 0) (show e.1 < ss.length by rw [h.sl]; exact hi))
  have h4 := h.lo _ (getDm (d := 0) (show e.2 < ss.length by rw [h.sl]; exact he.2.1))
  have h5 := h.pac.lo _ (getDm (d := 0) (h.kp hi))
  have h6 := h.pac.lo _ (getDm (d := 0) (h.kp he.2.1))
  show 1 ≤ ss.getD e.2 0 - ss.getD e.1 0 ∧ ss.getD e.2 0 - ss.getD e.1 0 < 2 ^ 63 ∧ 1 ≤ ps.getD (ks.getD e.1 0) 0 - ps.getD (ks.getD e.2 0) 0 ∧ ps.getD (ks.getD e.1 0) 0 - ps.getD (ks.getD e.2 0) 0 ≤ 2000
  refine ⟨by omega, by omega, by omega, by omega⟩
end Pv
/-! A name of the module that stands for a tuple of numbers. -/
namespace Pv
open PySem PySem.Spec L2 Wf
end Pv
/-! Truth of data: in tests, in or; t > u of tuples of numbers; x -= e. -/
namespace Pv
open PySem PySem.Spec L2 Wf
/-! ### t > u -/
end Pv
namespace Pv
open PySem PySem.Spec L2 Wf
/-! ### the last row -/
-- DEF _law_due N ['_law_book_here', '_law_row_here', '_law_word', '_law_m', '_law_passers', '_law_walker', '_law_step'] calls ['_law_led'] takes []
-- DEF law N ['_law_script', '_law_deal_here', '_law_book_here', '_law_turn', '_law_row_here', '_law_found', '_law_falls', '_law_kept', '_law_due_here', '_law_k'] calls ['_law_deal', '_law_book', '_law_draw', '_law_row', '_law_due', 'last_row', '_law_alike'] takes []
/-! ### kinds of the last row -/
end Pv
/-! Comprehensions with any number of fors: a clause's turn over a body. -/
namespace Wf
open PySem PySem.Spec L2 PyProof.Rows
end Wf
/-! A clause over a body is a body. -/
namespace Wf
open PySem PySem.Spec L2 PyProof.Rows
end Wf
/-! The first for of a comprehension over any body. -/
namespace Wf
open PySem PySem.Spec L2 PyProof.Rows
end Wf
/-! Comprehensions with three fors. -/
namespace Wf
open PySem PySem.Spec L2 PyProof.Rows
end Wf
/-! Comprehensions with any number of fors, by value: bodies. -/
namespace Pv
open PySem PySem.Spec L2 Wf
end Pv
/-! Calls with keywords, and defs with a default for a keyword. -/
namespace Wf
open PySem PySem.Spec L2
structure CalK (P : Program) (w : World) (K : PySem.W.Frag) (mg : Str → Option Value) (base : Heap) (CX : CXT) (k : Nat) (x : Str) (ps : List Str) (n : Nat) (ks : List Str) (sp : Sp) : Prop where
  ex : ∃ f fd, FnOk P w K mg base CX k f fd ps sp ∧ mg x = some (.ref f) ∧ PySem.W.keepIn K (.ref f) = true ∧ KBn K fd ps n ks (fun us ws => us ++ ws) (fun vs zs => vs ++ zs)
structure CalD (P : Program) (w : World) (K : PySem.W.Frag) (mg : Str → Option Value) (base : Heap) (CX : CXT) (k : Nat) (x : Str) (ps : List Str) (dvs : List V) (sp : Sp) : Prop where
  ex : ∃ f fd ds, FnOk P w K mg base CX k f fd ps sp ∧ mg x = some (.ref f) ∧ PySem.W.keepIn K (.ref f) = true ∧ Vals dvs ds ∧ Binds K fd ps ds
theorem vals_app : ∀ {vs : List V} {us : List Value} {zs : List V} {ws : List Value}, Vals vs us → Vals zs ws → Vals (vs ++ zs) (us ++ ws)
  | _, _, _, _, .nil, h => h
  | _, _, _, _, .cons r t, h => .cons r (vals_app t h)
theorem kb_of {K : PySem.W.Frag} {x qual : Str} {params : Arguments} {body : List Stmt} {scope : Scope} {kws : List (Str × V)} {f : Addr} {fd : FuncData} {ps ks : List Str} {n : Nat} (F : FunD K x qual params body scope [] kws f fd)
    (h : ∀ (kV doc pm : Value) (an : Option Addr) (cdv ct : Value) (us ws : List Value), us.length = n → ws.length = ks.length → bindArgs (PySem.W.fnOf x qual params body scope .none kV doc pm an cdv ct) ⟨us, ks.zip ws⟩ = pure (ps.zip (us ++ ws))) : KBn K fd ps n ks (fun us ws => us ++ ws) (fun vs zs => vs ++ zs) := by
  obtain ⟨oc, od, dV, kV, doc, pm, an, cdv, ct, osl, rfl, lk, hcd, hD, hK⟩ := F.ex
  rcases hD with ⟨_, rfl⟩ | ⟨e, _⟩
  · exact ⟨fun s us ws _ h1 h2 => .of_eq (h kV doc pm an cdv ct us ws h1 h2), fun r1 r2 => vals_app r1 r2⟩
  · exact absurd rfl e
end Wf
namespace Pv
open PySem PySem.Spec L2 Wf
variable {B : Bas}
/-- values one behind the other -/
def pApp (pa pb : PL) : PL := fun δ Q => pa δ fun rs δ1 => pb δ1 fun rs2 δ2 => Q (rs ++ rs2) δ2
def JK (X : Cx) (B : Bas) (kws : List Keyword) (p : PL) : Prop := PK X kws (LA X.K B kws.length p)
theorem PK_wk {X : Cx} {kws : List Keyword} {t t' : TA} (h : PK X kws t) (k : ∀ σ H Q, t' σ H Q → t σ H Q) : PK X kws t' := ⟨fun pos pins s σ H Q I q => h.run pos pins s σ H Q I (k σ H Q q)⟩
section
variable {X : Cx}
theorem jk_nil : JK X B [] pNil := PK_wk pk_nil fun σ H Q ⟨G, w, δ, Qp, rep, q, k⟩ => k [] δ [] H G _ q rfl .drop rep.drop
theorem jk_cons {e : Expr} {kws : List Keyword} {nm : Option Str} {kpos : Pos} {p : PX} {ps : PL} (h : JE X B e p) (hs : JK X B kws ps) : JK X B (⟨nm, e, kpos⟩ :: kws) (pCons p ps) := by
  refine PK_wk (pk_cons h hs) fun σ H Q ⟨G, w, δ, Qp, rep, q, k⟩ => ?_
  refine ⟨G, w, δ, _, rep, q, fun r δ1 v H1 G1 w1 q1 s1 rep1 => ?_⟩
  refine ⟨G1, _, δ1, _, rep1.drop, q1, fun rs δ2 vs H2 G2 w2 q2 l2 s2 rep2 => ?_⟩
  obtain ⟨w3, s3, rep3⟩ := rep1.frame s2 rep2
  exact k _ δ2 _ H2 G2 w3 q2 (congrArg (· + 1) l2) (s1.trans s3) rep3
theorem la_app {K : PySem.W.Frag} {n m : Nat} {pa pb : PL} {σ : St} {H : Hp} {Q : List V → Hp → Prop} (h : LA K B (n + m) (pApp pa pb) σ H Q) : LA K B n pa σ H fun vs H1 => LA K B m pb σ H1 fun zs H2 => vs.length = n ∧ zs.length = m ∧ Q (vs ++ zs) H2 := by
  obtain ⟨G, w, δ, Qp, rep, q, k⟩ := h
  refine ⟨G, w, δ, _, rep, q, fun rs δ1 vs H1 G1 w1 q1 l1 s1 rep1 => ?_⟩
  refine ⟨G1, _, δ1, _, rep1.drop, q1, fun rs2 δ2 zs H2 G2 w2 q2 l2 s2 rep2 => ?_⟩
  obtain ⟨w3, s3, rep3⟩ := rep1.frame s2 rep2
  exact ⟨rep1.tlen.trans l1, rep2.tlen.trans l2, k _ δ2 _ H2 G2 w3 q2 (by rw [List.length_append, l1, l2]) (s1.trans s3) rep3⟩
theorem je_calK {k j : Nat} {x : Str} {pn ks : List Str} {psp : PSp} {pa pk : PL} {e : Expr} {es : List Expr} {kws : List Keyword} {p pos : Pos} (C : CalK X.prog X.w X.K X.mg X.base CX0 k x pn (e :: es).length ks (LSp X.K B.T psp)) (hr : Room j X.A) (hg : Gl X x) (ha : JA X B (e :: es) pa) (hkw : JK X B kws pk) (hk : k ≤ j := by decide) (hkl : kws.length = ks.length := by rfl)
    (hall : (backToKw pos (keywordEach kws X.env)).all (·.1.isSome) = true := by rfl) (hks : (backToKw pos (keywordEach kws X.env)).filterMap (·.1) = ks := by rfl)
    (hdb : (x == ("__debug__" : Str)) = false := by decide) (he : starEach (e :: es) X.env = (false, eval e X.env) :: starEach es X.env := by rfl)
    (hpl : ((backTo pos (starEach (e :: es) X.env)).any (·.1) || (backToKw pos (keywordEach kws X.env)).any (·.1.isNone)) = false := by rfl) :
    JE X B (.Call (.Name x p) (e :: es) kws pos) (pCall psp (pApp pa pk) noX) := by
  obtain ⟨f, fd, F, m, kp, b⟩ := C.ex
  refine PE_wk (pe_callN F (hr.mono hk) hg m kp b pass0 ha hkw hall hks hdb he hpl) fun σ H Q h => ?_
  have h2 := la_app (call_lift (E := E0) (n := (e :: es).length + kws.length) xok_no h)
  obtain ⟨G, w, δ, Qp, rep, q, kk⟩ := h2
  refine ⟨G, w, δ, Qp, rep, q, fun rs δ1 vs H1 G1 w1 q1 l1 s1 rep1 => ?_⟩
  obtain ⟨G2, w2, δ2, Qp2, rep2, q2, k2⟩ := kk rs δ1 vs H1 G1 w1 q1 l1 s1 rep1
  refine ⟨G2, w2, δ2, Qp2, rep2, q2, fun rs2 δ3 zs H3 G3 w3 q3 l3 s3 rep3 => ?_⟩
  obtain ⟨a1, a2, a3⟩ := k2 rs2 δ3 zs H3 G3 w3 q3 l3 s3 rep3
  rw [List.append_nil] at a3
  exact ⟨a1, a2.trans hkl, a3⟩
end
end Pv
/-! t[::-1] of a tuple, in the model. -/
namespace Wf
open PySem PySem.Spec PyProof.Rows
end Wf
namespace Pv
open PySem PySem.Spec L2 Wf
/-! ### isinstance(caught error, a built-in class) -/
/-! ### t[::-1] of a tuple -/
end Pv
/-! tuple(d), d a dict whose keys are tuples -/
namespace Wf
open PySem PySem.Spec PyProof.Rows
end Wf
/-! Dicts by tuples of numbers, by value. -/
namespace Pv
open PySem PySem.Spec L2 Wf
variable {B : Bas}
theorem NoX.dT {H : Hp} {a : Addr} {kvs : List (List Key × V)} (e : H a = some (.dT kvs)) : NoX H a := NoX.of e (fun _ z => by cases z) (fun _ _ z => by cases z) fun _ z => by cases z
end Pv
/-! sorted(xs, reverse=True), list(zip(t, u)) by value. -/
namespace Pv
open PySem PySem.Spec L2 Wf
end Pv
/-! len(set(t)), t a tuple of tuples of numbers. -/
namespace Wf
open PySem PySem.Spec PyProof.Rows L2
end Wf
/-! len(set(t)), t a tuple of tuples of numbers, by value. -/
namespace Wf
open PySem PySem.Spec L2 PyProof.Rows
end Wf
namespace Pv
open PySem PySem.Spec L2 Wf
end Pv
/-! zip(l, t), l a list and t a tuple. One turn of a zip whose two parts are any iterators that can be told of. -/
namespace Wf
open PySem PySem.Spec L2 RZ
section
variable {P : Program} {w : World} {A : Around} {E : Value → Shared → Prop} {s : Shared} {z p q ia ib la lb : Addr}
def Ends (P : Program) (w : World) (s : Shared) (ia : Addr) (no : List Addr) : Prop :=
  ∀ (A' : Around) (E' Q' : Value → Shared → Prop) (g : Heap), A'.handled = none → (∀ c o, c ∉ no → s.heap.get? c = some o → g.get? c = some o) →
    (∀ g' e, Heap.ExtBut ia g g' → (∃ o, g'.get? e = some o ∧ o.cls = .type "StopIteration") → E' (.ref e) { s with heap := g' }) →
    wpAny (model P w) A' (Builtin.SmallTypes.nextOf (.ref ia)) Q' E' { s with heap := g }
/-! ### a list and a tuple -/
end
end Wf
/-! zip(l, t): how it is made, and for over it. -/
namespace Wf
open PySem PySem.Spec L2 RZ
end Wf
/-! for over zip(a list, a tuple); divmod. By value. -/
namespace Pv
open PySem PySem.Spec L2 Wf
variable {B : Bas}
def fDivmod : PyData → PyData → (PyData → Prop) → Prop
  | .int i, .int j, k => CDiv i j ∧ k (.tuple [.int (i / j), .int (i % j)])
  | _, _, _ => False
theorem lc_divmod {K : PySem.W.Frag} : LC K (q2 fDivmod) (fun xs H Q => ∃ i j, xs = [.int i, .int j] ∧ CDiv i j ∧ ∀ p, H p = none → Q (.ref p) (upd H p (.tup [.int (i / j), .int (i % j)]))) := by
  refine lc_im2 (fun G H v u d e Q s hv hu q => ?_) (fun d e k k' hk q => ?_)
  · unfold fDivmod at q
    split at q
    · exact ⟨_, _, by rw [hv.int, hu.int], q.1, fun p hp => q.2 _ _ (.inr ⟨p, _, _, rfl, hp, rfl, .cons (.int _) (.cons (.int _) .nil), rfl⟩)⟩
    · exact q.elim
  · unfold fDivmod at q ⊢
    split at q
    · exact ⟨q.1, hk _ q.2⟩
    · exact q.elim
end Pv
namespace Pv
open PySem PySem.Spec L2 Wf
end Pv
namespace Pv
open PySem PySem.Spec L2 Wf
/-! ### two_kinds, look_back -/
theorem tab_mem {m : Int} {B : Book} (bk : BookOk m B) {t : Tab} (h : t ∈ B.ts) : TabOk B.s t := bk.tab.ok t h
end Pv
namespace Pv
open PySem PySem.Spec L2 Wf
/-! ### burdens before: the places of a pair in a table -/
def idxT (t : Tab) (p : Wk) (j : Nat) : List Nat := (List.range j).filter fun n => decide (t.getD n (0, 0) = p)
def fstT (t : Tab) (p : Wk) : Nat := (idxT t p t.length).headD 0
theorem mem_idxT {t : Tab} {p : Wk} {n : Nat} : n ∈ idxT t p t.length ↔ n < t.length ∧ t.getD n (0, 0) = p := by
  unfold idxT
  rw [List.mem_filter, List.mem_range]
  simp
theorem fstT_of {t : Tab} {p : Wk} (h : p ∈ t) : ∃ rest, idxT t p t.length = fstT t p :: rest := by
  obtain ⟨n, hn, e⟩ := List.getElem_of_mem h
  have hm : n ∈ idxT t p t.length := mem_idxT.mpr ⟨hn, by simp [List.getD, List.getElem?_eq_getElem hn, e]⟩
  unfold fstT
  cases ei : idxT t p t.length with
  | nil => rw [ei] at hm; cases hm
  | cons a rest => exact ⟨rest, rfl⟩
theorem fstT_ok {t : Tab} {p : Wk} (h : p ∈ t) : fstT t p < t.length ∧ t.getD (fstT t p) (0, 0) = p := by
  obtain ⟨rest, e⟩ := fstT_of h
  exact mem_idxT.mp (by rw [e]; exact List.mem_cons_self)
theorem hd0 {α : Type} (x : α) (xs : List α) : atI (x :: xs) 0 = some x := atI_nat (j := 0) rfl
def undo (B : Book) (u v : Int) (p : Wk) : Wk := (((fstT (B.tab u v) p : Nat) : Int) / B.s, ((fstT (B.tab u v) p : Nat) : Int) % B.s)
theorem tab_in {B : Book} {m u v a b : Int} (bk : BookOk m B) (pl : Pl m B.s u v a b) : B.tab u v ∈ B.ts := List.mem_of_getElem? (Book.row bk pl).1
/-! ### a passing, freely -/
def pairF (B : Book) (x y : Wk) : Wk := if x.1 > y.1 then B.at x.1 y.1 x.2 y.2 else undo B y.1 x.1 (x.2, y.2)
structure One (m : Int) (B : Book) : Prop where
  bk : BookOk m B
  nd : ∀ t ∈ B.ts, t.Nodup
  on : ∀ t ∈ B.ts, ∀ p, InP B.s p → p ∈ t
def WkOk (m s : Int) (p : Wk) : Prop := 0 ≤ p.1 ∧ p.1 < m ∧ 0 ≤ p.2 ∧ p.2 < s
theorem plW {m s : Int} {x y : Wk} (hx : WkOk m s x) (hy : WkOk m s y) (h : y.1 < x.1) {a b : Int} (ha : 0 ≤ a ∧ a < s) (hb : 0 ≤ b ∧ b < s) : Pl m s x.1 y.1 a b := by
  obtain ⟨x1, x2, x3, x4⟩ := hx
  obtain ⟨y1, y2, y3, y4⟩ := hy
  exact ⟨by omega, x2, y1, h, ha.1, ha.2, hb.1, hb.2⟩
end Pv
namespace Pv
open PySem PySem.Spec L2 Wf
/-! ### rows led freely -/
theorem tab_sq {m : Int} {B : Book} (bk : BookOk m B) {t : Tab} (h : t ∈ B.ts) : ∃ s : Nat, B.s = (s : Int) ∧ t.length = s * s ∧ 1 ≤ s := by
  have h1 := (tab_mem bk h).len
  have := bk.s1
  obtain ⟨s, hs⟩ := Int.eq_ofNat_of_zero_le (show 0 ≤ B.s by omega)
  refine ⟨s, hs, ?_, by omega⟩
  rw [hs] at h1
  exact_mod_cast h1
theorem undo_in {m u v : Int} {B : Book} (on : One m B) (pl : Pl m B.s u v 0 0) {p : Wk} (hp : InP B.s p) : InP B.s (undo B u v p) := by
  have ht := tab_in on.bk pl
  obtain ⟨s, hs, hl, h1⟩ := tab_sq on.bk ht
  have h2 := (fstT_ok (on.on _ ht p hp)).1
  rw [hl] at h2
  unfold undo
  generalize fstT (B.tab u v) p = n at h2
  rw [hs]
  have a1 : n / s < s := Nat.div_lt_of_lt_mul h2
  have a2 : n % s < s := Nat.mod_lt _ (by omega)
  refine ⟨?_, ?_, ?_, ?_⟩
  · show (0 : Int) ≤ (n : Int) / (s : Int)
    rw [← Int.natCast_ediv]; exact Int.natCast_nonneg _
  · show (n : Int) / (s : Int) < (s : Int)
    rw [← Int.natCast_ediv]; omega
  · show (0 : Int) ≤ (n : Int) % (s : Int)
    rw [← Int.natCast_emod]; omega
  · show (n : Int) % (s : Int) < (s : Int)
    rw [← Int.natCast_emod]; omega
theorem pl00 {m s u v a b : Int} (pl : Pl m s u v a b) : Pl m s u v 0 0 := ⟨pl.u0, pl.u1, pl.v0, pl.v1, by omega, by have := pl.a0; have := pl.a1; omega, by omega, by have := pl.a0; have := pl.a1; omega⟩
theorem cell_ix {m u v a b : Int} {B : Book} (bk : BookOk m B) (pl : Pl m B.s u v a b) : ∃ n : Nat, a * B.s + b = (n : Int) ∧ n < (B.tab u v).length ∧ (n : Int) / B.s = a ∧ (n : Int) % B.s = b := by
  obtain ⟨s, hs, hl, h1⟩ := tab_sq bk (tab_in bk pl)
  have a0 := pl.a0; have a1 := pl.a1; have b0 := pl.b0; have b1 := pl.b1
  rw [hs] at a1 b1 ⊢
  obtain ⟨x, rfl⟩ := Int.eq_ofNat_of_zero_le a0
  obtain ⟨y, rfl⟩ := Int.eq_ofNat_of_zero_le b0
  have hx : x < s := by omega
  have hy : y < s := by omega
  refine ⟨x * s + y, by rw [Int.natCast_add, Int.natCast_mul], ?_, ?_, ?_⟩
  · rw [hl]
    have : (x + 1) * s ≤ s * s := Nat.mul_le_mul_right s hx
    rw [Nat.add_mul, Nat.one_mul] at this
    omega
  · rw [← Int.natCast_ediv]
    have : (x * s + y) / s = x := by rw [Nat.add_comm, Nat.add_mul_div_right _ _ (by omega), Nat.div_eq_of_lt hy]; omega
    rw [this]
  · rw [← Int.natCast_emod]
    have : (x * s + y) % s = y := by rw [Nat.add_comm, Nat.add_mul_mod_self_right, Nat.mod_eq_of_lt hy]
    rw [this]
theorem at_in {m u v a b : Int} {B : Book} (bk : BookOk m B) (pl : Pl m B.s u v a b) : InP B.s (B.at u v a b) := by
  obtain ⟨n, e, hn, _, _⟩ := cell_ix bk pl
  unfold Book.at
  rw [e]
  refine (tab_mem bk (tab_in bk pl)).inn _ ?_
  have : ((n : Int)).toNat = n := by simp
  rw [this, List.getD_eq_getElem?_getD, List.getElem?_eq_getElem hn]
  exact List.getElem_mem hn
theorem pairF_in {m : Int} {B : Book} (on : One m B) {x y : Wk} (hx : WkOk m B.s x) (hy : WkOk m B.s y) (ne : x.1 ≠ y.1) : InP B.s (pairF B x y) := by
  unfold pairF
  split
  · rename_i c
    exact at_in on.bk (plW hx hy c ⟨hx.2.2.1, hx.2.2.2⟩ ⟨hy.2.2.1, hy.2.2.2⟩)
  · rename_i c
    exact undo_in on (pl00 (plW hy hx (by omega) ⟨hy.2.2.1, hy.2.2.2⟩ ⟨hx.2.2.1, hx.2.2.2⟩)) ⟨hx.2.2.1, hx.2.2.2, hy.2.2.1, hy.2.2.2⟩
end Pv
namespace Pv
open PySem PySem.Spec L2 Wf
/-! ### led_freely -/
end Pv
namespace Pv
open PySem PySem.Spec L2 Wf
/-! ### _law_paces, by value -/
/-! ### tables one to one -/
end Pv
namespace Pv
open PySem PySem.Spec L2 Wf
/-! ### threes -/
abbrev N3 := Nat × Nat × Nat
def d3 (t : N3) : PyData := dK [(t.1 : Int), (t.2.1 : Int), (t.2.2 : Int)]
def F2 (a b : Nat) (c : Nat) : List N3 := (List.range c).map fun w => (a, b, w)
def fallN (n : Nat) : List N3 := (List.range n).flatMap fun u => (List.range u).flatMap fun v => F2 u v v
def burN (s : Nat) : List N3 := (List.range s).flatMap fun a => (List.range s).flatMap fun b => F2 a b s
end Pv
namespace Pv
open PySem PySem.Spec L2 Wf
/-! ### judge_book -/
def triN (k b : N3) : List Wk := tri k.1 k.2.1 k.2.2 b.1 b.2.1 b.2.2
def badN (B : Book) (k b : N3) : Bool := !eqd (.tuple (bDs (ledN B (triN k b) [0, 1, 0]))) (.tuple (bDs (ledN B (triN k b) [1, 0, 1])))
def pairsN (ks bs : List N3) : List (N3 × N3) := ks.flatMap fun k => bs.map fun b => (k, b)
theorem shaped_bD (r : List Wk) : SeqAt.shaped (.tuple (bDs r)) = true := shapedT_map (fun p : Wk => PyData.int p.2) 0 (by decide) r fun x _ => ⟨rfl, Nat.le_refl 0⟩
-- DEF judge_book N ['book', 'kind_threes', 'threes', 'kinds', 'paces', 'sorts', 'tables', 'burdens', 'rear_first', 'fore_first'] calls ['falling_threes', 'burden_threes', 'both_ways'] takes []
theorem fall_tri {n : Nat} {k : N3} (h : k ∈ fallN n) : k.2.2 < k.2.1 ∧ k.2.1 < k.1 ∧ k.1 < n := by
  unfold fallN F2 at h
  simp only [List.mem_flatMap, List.mem_range, List.mem_map] at h
  obtain ⟨u, hu, v, hv, w, hw, rfl⟩ := h
  exact ⟨hw, hv, hu⟩
theorem bur_in {s : Nat} {b : N3} (h : b ∈ burN s) : b.1 < s ∧ b.2.1 < s ∧ b.2.2 < s := by
  unfold burN F2 at h
  simp only [List.mem_flatMap, List.mem_range, List.mem_map] at h
  obtain ⟨u, hu, v, hv, w, hw, rfl⟩ := h
  exact ⟨hu, hv, hw⟩
end Pv
namespace Pv
open PySem PySem.Spec L2 Wf
/-! ### _law_first_bad: its turn -/
theorem eqvAll_snd : ∀ x y : List Wk, PyData.eqvAll (bDs x) (bDs y) = decide (x.map Prod.snd = y.map Prod.snd)
  | [], [] => by simp [PyData.eqvAll]
  | [], _ :: _ => by simp [PyData.eqvAll]
  | _ :: _, [] => by simp [PyData.eqvAll]
  | p :: x, q :: y => by
    show (PyData.eqv (.int p.2) (.int q.2) && PyData.eqvAll (bDs x) (bDs y)) = _
    rw [eqvAll_snd x y, PyData.eqv]
    by_cases h : p.2 = q.2 <;> simp [h]
def bN (s n : Nat) : N3 := (n / s / s, n / s % s, n % s)
-- DEF _law_first_bad N ['_law_book_here', '_law_u', '_law_sorts', '_law_many', '_law_v', '_law_w', '_law_n', '_law_walkers', '_law_behind', '_law_borne'] calls ['_law_led'] takes []
end Pv
namespace Pv
open PySem PySem.Spec L2 Wf
/-! ### _law_first_bad -/
end Pv
/-! Good tables: both ways alike. -/
namespace Wf
open PySem PySem.Spec L2
abbrev PF := Int → Int → Int × Int
/-- both ways of three, with f for the first two, g for the outer two, h for the last two -/
def YB (f g h : PF) (a b c : Int) : Prop :=
  (h (f a b).1 (g (f a b).2 c).1).1 = (g a (h b c).1).1 ∧ (h (f a b).1 (g (f a b).2 c).1).2 = (f (g a (h b c).1).2 (h b c).2).1 ∧ (g (f a b).2 c).2 = (f (g a (h b c).1).2 (h b c).2).2
def cellF (s : Int) (t : Tab) : PF := fun a b => t.getD (a * s + b).toNat (0, 0)
def tabN (ts : List Tab) (u v : Int) : Tab := ts.getD (tnum u v).toNat []
def InR (s : Int) (f : PF) : Prop := ∀ a b, 0 ≤ a → a < s → 0 ≤ b → b < s → InP s (f a b)
def EqR (s : Int) (f g : PF) : Prop := ∀ a b, 0 ≤ a → a < s → 0 ≤ b → b < s → f a b = g a b
theorem YB.congr {s : Int} {f g h f' g' h' : PF} {a b c : Int} (ef : EqR s f f') (eg : EqR s g g') (eh : EqR s h h') (rf : InR s f') (rg : InR s g') (rh : InR s h') (a0 : 0 ≤ a) (a1 : a < s) (b0 : 0 ≤ b) (b1 : b < s) (c0 : 0 ≤ c) (c1 : c < s) (y : YB f' g' h' a b c) : YB f g h a b c := by
  have p := rf a b a0 a1 b0 b1
  have q := rg _ c p.2.2.1 p.2.2.2 c0 c1
  have x := rh b c b0 b1 c0 c1
  have z := rg a _ a0 a1 x.1 x.2.1
  unfold YB at y ⊢
  rw [ef a b a0 a1 b0 b1, eh b c b0 b1 c0 c1, eg _ _ p.2.2.1 p.2.2.2 c0 c1, eg _ _ a0 a1 x.1 x.2.1, eh _ _ p.1 p.2.1 q.1 q.2.1, ef _ _ z.2.2.1 z.2.2.2 x.2.2.1 x.2.2.2]
  exact y
theorem pairF_inR {f s : Int} {st : Int × Int} (hs : 1 ≤ s) : InR s (pairF f s st) := fun a b a0 a1 b0 b1 => pairF_in hs a0 a1 b0 b1
theorem YB.same (f s : Int) (s1 s2 s3 : Int × Int) (a b c : Int) (f0 : 0 ≤ f) (f4 : f ≤ 4) : YB (pairF f s s1) (pairF f s s2) (pairF f s s3) a b c := by
  have : f = 0 ∨ f = 1 ∨ f = 2 ∨ f = 3 ∨ f = 4 := by omega
  rcases this with rfl | rfl | rfl | rfl | rfl
  · exact ⟨rfl, rfl, rfl⟩
  · exact ⟨rfl, rfl, rfl⟩
  · simp only [YB, pairF, show ¬ ((2 : Int) = 0) by decide, show ¬ ((2 : Int) = 1) by decide, if_false, if_true]
    refine ⟨?_, ?_, ?_⟩ <;> (repeat' split) <;> omega
  · simp only [YB, pairF, show ¬ ((3 : Int) = 0) by decide, show ¬ ((3 : Int) = 1) by decide, show ¬ ((3 : Int) = 2) by decide, if_false, if_true]
    refine ⟨trivial, trivial, ?_⟩
    have e1 : (2 * c - (2 * b - a) % s) % s = (2 * c - (2 * b - a)) % s := by rw [Int.sub_emod, Int.emod_emod, ← Int.sub_emod]
    have e2 : (2 * ((2 * c - b) % s) - (2 * c - a) % s) % s = (2 * (2 * c - b) - (2 * c - a)) % s := by rw [Int.sub_emod, Int.emod_emod, Int.mul_emod, Int.emod_emod, ← Int.mul_emod, ← Int.sub_emod]
    rw [e1, e2]
    congr 1
    omega
  · simp only [YB, pairF, show ¬ ((4 : Int) = 0) by decide, show ¬ ((4 : Int) = 1) by decide, show ¬ ((4 : Int) = 2) by decide, show ¬ ((4 : Int) = 3) by decide, if_false, if_true]
    have e : ∀ x y z : Int, ((x + y) % s + z) % s = ((x + z) % s + y) % s := fun x y z => by rw [Int.emod_add_emod, Int.emod_add_emod]; congr 1; omega
    exact ⟨e _ _ _, e _ _ _, e _ _ _⟩
theorem YB.one {s : Int} {k : PF} {s1 s2 s3 : Int × Int} (a b c : Int) : YB k (pairF 0 s s2) (pairF 0 s s3) a b c ∧ YB (pairF 0 s s1) k (pairF 0 s s3) a b c ∧ YB (pairF 0 s s1) (pairF 0 s s2) k a b c := ⟨⟨rfl, rfl, rfl⟩, ⟨rfl, rfl, rfl⟩, ⟨rfl, rfl, rfl⟩⟩
def YBT (m s : Int) (ts : List Tab) : Prop := ∀ u v w a b c : Int, 0 ≤ w → w < v → v < u → u < m → 0 ≤ a → a < s → 0 ≤ b → b < s → 0 ≤ c → c < s → YB (cellF s (tabN ts u v)) (cellF s (tabN ts u w)) (cellF s (tabN ts v w)) a b c
theorem ix_div {s a b : Int} (b0 : 0 ≤ b) (b1 : b < s) : (a * s + b) / s = a ∧ (a * s + b) % s = b := by
  have hs : s ≠ 0 := by omega
  constructor
  · rw [Int.add_comm, Int.add_mul_ediv_right _ _ hs, Int.ediv_eq_zero_of_lt b0 b1]
    omega
  · rw [Int.add_comm, Int.add_mul_emod_self_right, Int.emod_eq_of_lt b0 b1]
theorem iota_get {n i : Int} (h0 : 0 ≤ i) (h1 : i < n) : (iota n)[i.toNat]? = some i := by
  unfold iota
  rw [List.getElem?_map, List.getElem?_range (by omega)]
  show some ((i.toNat : Nat) : Int) = some i
  rw [Int.toNat_of_nonneg h0]
theorem iota_map_get {α : Type} {n i : Int} (f : Int → α) (d : α) (h0 : 0 ≤ i) (h1 : i < n) : ((iota n).map f).getD i.toNat d = f i := by
  rw [List.getD, List.getElem?_map, iota_get h0 h1]
  rfl
theorem cell_tabF {f s : Int} {st : Int × Int} : EqR s (cellF s (tabF f s st)) (pairF f s st) := fun a b a0 a1 b0 b1 => by
  obtain ⟨h0, h1⟩ := ix_lt a0 a1 b0 b1
  unfold cellF tabF
  rw [iota_map_get _ _ h0 h1, (ix_div b0 b1).1, (ix_div b0 b1).2]
theorem cell_in {s : Int} {t : Tab} (h : TabOk s t) : InR s (cellF s t) := fun a b a0 a1 b0 b1 => by
  obtain ⟨h0, h1⟩ := ix_lt a0 a1 b0 b1
  exact getD_in h h0 h1
theorem cell_side {w r : Int} {t1 t2 : Tab} (r1 : 1 ≤ r) {a b : Int} (a0 : 0 ≤ a) (a1 : a < w * r) (b0 : 0 ≤ b) (b1 : b < w * r) : cellF (w * r) (sideT w r t1 t2) a b = ((cellF w t1 (a / r) (b / r)).1 * r + (cellF r t2 (a % r) (b % r)).1, (cellF w t1 (a / r) (b / r)).2 * r + (cellF r t2 (a % r) (b % r)).2) := by
  obtain ⟨h0, h1⟩ := ix_lt a0 a1 b0 b1
  unfold cellF sideT
  rw [iota_map_get _ _ h0 h1]
  unfold sideP
  rw [(ix_div b0 b1).1, (ix_div b0 b1).2]
theorem tabN_get {m : Int} {ts : List Tab} (hl : (ts.length : Int) = nT m) {u v : Int} (m5 : m ≤ 5) (v0 : 0 ≤ v) (v1 : v < u) (u1 : u < m) : ts[(tnum u v).toNat]? = some (tabN ts u v) := by
  have h := tnum_lt m5 (by omega) u1 v0 v1
  have hi : (tnum u v).toNat < ts.length := by omega
  have e : ts[(tnum u v).toNat]? = some ts[(tnum u v).toNat] := List.getElem?_eq_getElem hi
  unfold tabN
  rw [List.getD, e]
  rfl
theorem tnum_apart {u v w : Int} (m5 : u < 5) (w0 : 0 ≤ w) (wv : w < v) (vu : v < u) : (tnum u v).toNat ≠ (tnum u w).toNat ∧ (tnum u v).toNat ≠ (tnum v w).toNat ∧ (tnum u w).toNat ≠ (tnum v w).toNat := by
  unfold tnum
  have hu : u = 2 ∨ u = 3 ∨ u = 4 := by omega
  have hv : v = 1 ∨ v = 2 ∨ v = 3 := by omega
  rcases hu with rfl | rfl | rfl <;> rcases hv with rfl | rfl | rfl <;> simp <;> omega
theorem PlainT.yb {m s : Int} {ts : List Tab} (m5 : m ≤ 5) (hs : 1 ≤ s) (h : PlainT m s ts) : YBT m s ts := by
  intro u v w a b c w0 wv vu um a0 a1 b0 b1 c0 c1
  cases h with
  | all f sts f0 f4 hl hin =>
    have hl' : ((sts.map (tabF f s)).length : Int) = nT m := by rw [List.length_map]; exact hl
    have key : ∀ {x y : Int}, 0 ≤ y → y < x → x < m → ∃ st, tabN (sts.map (tabF f s)) x y = tabF f s st := fun y0 yx xm => by
      have g := tabN_get hl' m5 y0 yx xm
      rw [List.getElem?_map] at g
      obtain ⟨st, _, e⟩ := Option.map_eq_some_iff.mp g
      exact ⟨st, e.symm⟩
    obtain ⟨s1, e1⟩ := key (by omega) vu um
    obtain ⟨s2, e2⟩ := key w0 (show w < u by omega) um
    obtain ⟨s3, e3⟩ := key w0 wv (by omega)
    rw [e1, e2, e3]
    exact YB.congr cell_tabF cell_tabF cell_tabF (pairF_inR hs) (pairF_inR hs) (pairF_inR hs) a0 a1 b0 b1 c0 c1 (YB.same f s s1 s2 s3 a b c f0 f4)
  | one sts i t hl hi ht =>
    have hl' : ((((sts.map (tabF 0 s)).set i t).length : Nat) : Int) = nT m := by rw [List.length_set, List.length_map]; exact hl
    have key : ∀ {x y : Int}, 0 ≤ y → y < x → x < m → (tnum x y).toNat ≠ i → ∃ st, tabN ((sts.map (tabF 0 s)).set i t) x y = tabF 0 s st := fun y0 yx xm ne => by
      have g := tabN_get hl' m5 y0 yx xm
      rw [List.getElem?_set_ne (Ne.symm ne), List.getElem?_map] at g
      obtain ⟨st, _, e⟩ := Option.map_eq_some_iff.mp g
      exact ⟨st, e.symm⟩
    have keyr : ∀ {x y : Int}, 0 ≤ y → y < x → x < m → TabOk s (tabN ((sts.map (tabF 0 s)).set i t) x y) := fun y0 yx xm => by
      have g := tabN_get hl' m5 y0 yx xm
      exact (PlainT.ok hs (.one sts i t hl hi ht)).ok _ (List.mem_of_getElem? g)
    obtain ⟨n1, n2, n3⟩ := tnum_apart (by omega) w0 wv vu
    have r1 := cell_in (keyr (by omega) vu um)
    have r2 := cell_in (keyr w0 (show w < u by omega) um)
    have r3 := cell_in (keyr w0 wv (show v < m by omega))
    have rfx : ∀ f : PF, EqR s f f := fun f a b _ _ _ _ => rfl
    by_cases d1 : (tnum u v).toNat = i
    · obtain ⟨s2, e2⟩ := key w0 (show w < u by omega) um (by omega)
      obtain ⟨s3, e3⟩ := key w0 wv (show v < m by omega) (by omega)
      rw [e2, e3]
      exact YB.congr (rfx _) cell_tabF cell_tabF r1 (pairF_inR hs) (pairF_inR hs) a0 a1 b0 b1 c0 c1 (YB.one (s1 := (0, 0)) a b c).1
    · obtain ⟨s1, e1⟩ := key (by omega) vu um d1
      by_cases d2 : (tnum u w).toNat = i
      · obtain ⟨s3, e3⟩ := key w0 wv (show v < m by omega) (by omega)
        rw [e1, e3]
        exact YB.congr cell_tabF (rfx _) cell_tabF (pairF_inR hs) r2 (pairF_inR hs) a0 a1 b0 b1 c0 c1 (YB.one (s2 := (0, 0)) a b c).2.1
      · obtain ⟨s2, e2⟩ := key w0 (show w < u by omega) um d2
        rw [e1, e2]
        exact YB.congr cell_tabF cell_tabF (rfx _) (pairF_inR hs) (pairF_inR hs) r3 a0 a1 b0 b1 c0 c1 (YB.one (s3 := (0, 0)) a b c).2.2
/-- two side by side -/
def sideF (r : Int) (f g : PF) : PF := fun a b => ((f (a / r) (b / r)).1 * r + (g (a % r) (b % r)).1, (f (a / r) (b / r)).2 * r + (g (a % r) (b % r)).2)
theorem sideF_in {w r : Int} {f g : PF} (r1 : 1 ≤ r) (hf : InR w f) (hg : InR r g) : InR (w * r) (sideF r f g) := fun a b a0 a1 b0 b1 => by
  have q3 : 0 ≤ a / r ∧ a / r < w := ⟨Int.ediv_nonneg a0 (by omega), Int.ediv_lt_of_lt_mul (by omega) a1⟩
  have q4 : 0 ≤ b / r ∧ b / r < w := ⟨Int.ediv_nonneg b0 (by omega), Int.ediv_lt_of_lt_mul (by omega) b1⟩
  have q5 := mod_lt (a := a) (b := r) (by omega)
  have q6 := mod_lt (a := b) (b := r) (by omega)
  have g1 := hf _ _ q3.1 q3.2 q4.1 q4.2
  have g2 := hg _ _ q5.1 q5.2 q6.1 q6.2
  have e : ∀ x y : Int, 0 ≤ x → x < w → 0 ≤ y → y < r → 0 ≤ x * r + y ∧ x * r + y < w * r := fun x y a1 a2 b1 b2 => by
    have e1 : 0 ≤ x * r := Int.mul_nonneg a1 (by omega)
    have e2 : (x + 1) * r ≤ w * r := Int.mul_le_mul_of_nonneg_right (by omega) (by omega)
    have e3 : (x + 1) * r = x * r + r := by rw [Int.add_mul, Int.one_mul]
    constructor <;> omega
  have a := e _ _ g1.1 g1.2.1 g2.1 g2.2.1
  have b := e _ _ g1.2.2.1 g1.2.2.2 g2.2.2.1 g2.2.2.2
  exact ⟨a.1, a.2, b.1, b.2⟩
theorem YB.side {w r : Int} {f g h f' g' h' : PF} {a b c : Int} (r1 : 1 ≤ r) (rf : InR w f) (rg : InR w g) (rh : InR w h) (rf' : InR r f') (rg' : InR r g') (rh' : InR r h') (a0 : 0 ≤ a) (a1 : a < w * r) (b0 : 0 ≤ b) (b1 : b < w * r) (c0 : 0 ≤ c) (c1 : c < w * r)
    (y : YB f g h (a / r) (b / r) (c / r)) (y' : YB f' g' h' (a % r) (b % r) (c % r)) : YB (sideF r f f') (sideF r g g') (sideF r h h') a b c := by
  have dv : ∀ {a : Int}, 0 ≤ a → a < w * r → 0 ≤ a / r ∧ a / r < w := fun a0 a1 => ⟨Int.ediv_nonneg a0 (by omega), Int.ediv_lt_of_lt_mul (by omega) a1⟩
  have mo : ∀ a : Int, 0 ≤ a % r ∧ a % r < r := fun a => mod_lt (by omega)
  obtain ⟨qa0, qa1⟩ := dv a0 a1
  obtain ⟨qb0, qb1⟩ := dv b0 b1
  obtain ⟨qc0, qc1⟩ := dv c0 c1
  obtain ⟨ma0, ma1⟩ := mo a
  obtain ⟨mb0, mb1⟩ := mo b
  obtain ⟨mc0, mc1⟩ := mo c
  have p' := rf' _ _ ma0 ma1 mb0 mb1
  have q' := rg' _ _ p'.2.2.1 p'.2.2.2 mc0 mc1
  have x' := rh' _ _ mb0 mb1 mc0 mc1
  have z' := rg' _ _ ma0 ma1 x'.1 x'.2.1
  have k : ∀ {x y : Int}, 0 ≤ y → y < r → (x * r + y) / r = x ∧ (x * r + y) % r = y := fun h0 h1 => ix_div h0 h1
  obtain ⟨y1, y2, y3⟩ := y
  obtain ⟨z1, z2, z3⟩ := y'
  have ep : sideF r f f' a b = ((f (a / r) (b / r)).1 * r + (f' (a % r) (b % r)).1, (f (a / r) (b / r)).2 * r + (f' (a % r) (b % r)).2) := rfl
  have ex : sideF r h h' b c = ((h (b / r) (c / r)).1 * r + (h' (b % r) (c % r)).1, (h (b / r) (c / r)).2 * r + (h' (b % r) (c % r)).2) := rfl
  have eq : sideF r g g' (sideF r f f' a b).2 c = ((g (f (a / r) (b / r)).2 (c / r)).1 * r + (g' (f' (a % r) (b % r)).2 (c % r)).1, (g (f (a / r) (b / r)).2 (c / r)).2 * r + (g' (f' (a % r) (b % r)).2 (c % r)).2) := by
    rw [ep]
    unfold sideF
    dsimp only
    rw [(k p'.2.2.1 p'.2.2.2).1, (k p'.2.2.1 p'.2.2.2).2]
  have ey : sideF r g g' a (sideF r h h' b c).1 = ((g (a / r) (h (b / r) (c / r)).1).1 * r + (g' (a % r) (h' (b % r) (c % r)).1).1, (g (a / r) (h (b / r) (c / r)).1).2 * r + (g' (a % r) (h' (b % r) (c % r)).1).2) := by
    rw [ex]
    unfold sideF
    dsimp only
    rw [(k x'.1 x'.2.1).1, (k x'.1 x'.2.1).2]
  have er : sideF r h h' (sideF r f f' a b).1 (sideF r g g' (sideF r f f' a b).2 c).1 = ((h (f (a / r) (b / r)).1 (g (f (a / r) (b / r)).2 (c / r)).1).1 * r + (h' (f' (a % r) (b % r)).1 (g' (f' (a % r) (b % r)).2 (c % r)).1).1, (h (f (a / r) (b / r)).1 (g (f (a / r) (b / r)).2 (c / r)).1).2 * r + (h' (f' (a % r) (b % r)).1 (g' (f' (a % r) (b % r)).2 (c % r)).1).2) := by
    rw [eq, ep]
    unfold sideF
    dsimp only
    rw [(k p'.1 p'.2.1).1, (k p'.1 p'.2.1).2, (k q'.1 q'.2.1).1, (k q'.1 q'.2.1).2]
  have ez : sideF r f f' (sideF r g g' a (sideF r h h' b c).1).2 (sideF r h h' b c).2 = ((f (g (a / r) (h (b / r) (c / r)).1).2 (h (b / r) (c / r)).2).1 * r + (f' (g' (a % r) (h' (b % r) (c % r)).1).2 (h' (b % r) (c % r)).2).1, (f (g (a / r) (h (b / r) (c / r)).1).2 (h (b / r) (c / r)).2).2 * r + (f' (g' (a % r) (h' (b % r) (c % r)).1).2 (h' (b % r) (c % r)).2).2) := by
    rw [ey, ex]
    unfold sideF
    dsimp only
    rw [(k z'.2.2.1 z'.2.2.2).1, (k z'.2.2.1 z'.2.2.2).2, (k x'.2.2.1 x'.2.2.2).1, (k x'.2.2.1 x'.2.2.2).2]
  refine ⟨?_, ?_, ?_⟩
  · rw [er, ey, y1, z1]
  · rw [er, ez, y2, z2]
  · rw [eq, ez, y3, z3]
/-- other names -/
theorem YB.name {n : Int → Int} {f g h f' g' h' : PF} {s a b c : Int} (rf : InR s f) (rg : InR s g) (rh : InR s h) (ef : ∀ a b, 0 ≤ a → a < s → 0 ≤ b → b < s → f' (n a) (n b) = (n (f a b).1, n (f a b).2)) (eg : ∀ a b, 0 ≤ a → a < s → 0 ≤ b → b < s → g' (n a) (n b) = (n (g a b).1, n (g a b).2)) (eh : ∀ a b, 0 ≤ a → a < s → 0 ≤ b → b < s → h' (n a) (n b) = (n (h a b).1, n (h a b).2))
    (a0 : 0 ≤ a) (a1 : a < s) (b0 : 0 ≤ b) (b1 : b < s) (c0 : 0 ≤ c) (c1 : c < s) (y : YB f g h a b c) : YB f' g' h' (n a) (n b) (n c) := by
  have p := rf a b a0 a1 b0 b1
  have q := rg _ c p.2.2.1 p.2.2.2 c0 c1
  have x := rh b c b0 b1 c0 c1
  have z := rg a _ a0 a1 x.1 x.2.1
  unfold YB at y ⊢
  rw [ef a b a0 a1 b0 b1, eh b c b0 b1 c0 c1]
  dsimp only
  rw [eg _ _ p.2.2.1 p.2.2.2 c0 c1, eg _ _ a0 a1 x.1 x.2.1]
  dsimp only
  rw [eh _ _ p.1 p.2.1 q.1 q.2.1, ef _ _ z.2.2.1 z.2.2.2 x.2.2.1 x.2.2.2]
  dsimp only
  rw [y.1, y.2.1, y.2.2]
  exact ⟨rfl, rfl, rfl⟩
def nmOf (ns : List Int) (a : Int) : Int := ns.getD a.toNat 0
theorem nm_inj {s : Int} {ns : List Int} (hp : ns.Perm (iota s)) {i j : Int} (i0 : 0 ≤ i) (i1 : i < s) (j0 : 0 ≤ j) (j1 : j < s) (e : nmOf ns i = nmOf ns j) : i = j := by
  have hl : ns.length = s.toNat := by rw [hp.length_eq, iota_len]
  have nd : ns.Nodup := by
    refine hp.nodup_iff.mpr ?_
    unfold iota
    exact List.pairwise_map.mpr (List.nodup_range.imp fun h e => h (by omega))
  have gi : ns.getD i.toNat 0 = ns[i.toNat]'(by omega) := by simp [List.getD, List.getElem?_eq_getElem (show i.toNat < ns.length by omega)]
  have gj : ns.getD j.toNat 0 = ns[j.toNat]'(by omega) := by simp [List.getD, List.getElem?_eq_getElem (show j.toNat < ns.length by omega)]
  unfold nmOf at e
  rw [gi, gj] at e
  have := (List.getElem_inj nd).mp e
  omega
theorem nm_onto {s : Int} {ns : List Int} (hp : ns.Perm (iota s)) {x : Int} (x0 : 0 ≤ x) (x1 : x < s) : ∃ i, 0 ≤ i ∧ i < s ∧ nmOf ns i = x := by
  have hl : ns.length = s.toNat := by rw [hp.length_eq, iota_len]
  have hm : x ∈ ns := hp.mem_iff.mpr (iota_mem.mpr ⟨x0, x1⟩)
  obtain ⟨i, hi, e⟩ := List.mem_iff_getElem.mp hm
  refine ⟨(i : Int), by omega, by omega, ?_⟩
  unfold nmOf
  rw [Int.toNat_natCast, List.getD, List.getElem?_eq_getElem hi, e]
  rfl
theorem nmStep_eq (ns : List Int) (s : Int) (t acc : Tab) (n : Nat) : nmStep ns s t acc n = acc.set (nmOf ns ((n : Int) / s) * s + nmOf ns ((n : Int) % s)).toNat (nmOf ns (t.getD n (0, 0)).1, nmOf ns (t.getD n (0, 0)).2) := rfl
theorem nmF_at {s : Int} {ns : List Int} {t : Tab} (hs : 1 ≤ s) (hp : ns.Perm (iota s)) (hl : (t.length : Int) = s * s) : ∀ k, k ≤ t.length → ∀ n, n < k → (nmF ns s t k).getD (nmOf ns ((n : Int) / s) * s + nmOf ns ((n : Int) % s)).toNat (0, 0) = (nmOf ns (t.getD n (0, 0)).1, nmOf ns (t.getD n (0, 0)).2)
  | 0, _ => fun n hn => absurd hn (Nat.not_lt_zero n)
  | k + 1, hk => fun n hn => by
    have inn : ∀ j : Nat, j < t.length → (0 ≤ (j : Int) / s ∧ (j : Int) / s < s) ∧ (0 ≤ (j : Int) % s ∧ (j : Int) % s < s) := fun j hj => div_in hs (by omega) (by omega)
    have ix : ∀ j : Nat, j < t.length → 0 ≤ nmOf ns ((j : Int) / s) * s + nmOf ns ((j : Int) % s) ∧ nmOf ns ((j : Int) / s) * s + nmOf ns ((j : Int) % s) < s * s := fun j hj => by
      obtain ⟨⟨a1, a2⟩, a3, a4⟩ := inn j hj
      have p1 := perm_at hp a1 a2
      have p2 := perm_at hp a3 a4
      exact ix_lt p1.2.1 p1.2.2 p2.2.1 p2.2.2
    rw [nmF_succ, nmStep_eq]
    have hkl : k < t.length := by omega
    have len : (nmF ns s t k).length = (s * s).toNat := nmF_len ns s t k
    by_cases e : n = k
    · subst e
      have i1 := ix n hkl
      rw [List.getD, List.getElem?_set_self (by rw [len]; omega)]
      rfl
    · have hnk : n < k := by omega
      have i1 := ix n (by omega)
      have i2 := ix k hkl
      have ne : (nmOf ns ((k : Int) / s) * s + nmOf ns ((k : Int) % s)).toNat ≠ (nmOf ns ((n : Int) / s) * s + nmOf ns ((n : Int) % s)).toNat := fun z => by
        have z2 : nmOf ns ((k : Int) / s) * s + nmOf ns ((k : Int) % s) = nmOf ns ((n : Int) / s) * s + nmOf ns ((n : Int) % s) := by omega
        obtain ⟨⟨a1, a2⟩, a3, a4⟩ := inn n (by omega)
        obtain ⟨⟨b1, b2⟩, b3, b4⟩ := inn k hkl
        have p1 := perm_at hp a3 a4
        have p2 := perm_at hp b3 b4
        have d1 := ix_div (a := nmOf ns ((k : Int) / s)) (s := s) (b := nmOf ns ((k : Int) % s)) p2.2.1 p2.2.2
        have d2 := ix_div (a := nmOf ns ((n : Int) / s)) (s := s) (b := nmOf ns ((n : Int) % s)) p1.2.1 p1.2.2
        rw [z2] at d1
        have e1 := nm_inj hp a1 a2 b1 b2 (d2.1.symm.trans d1.1)
        have e2 := nm_inj hp a3 a4 b3 b4 (d2.2.symm.trans d1.2)
        have f1 := Int.mul_ediv_add_emod (n : Int) s
        have f2 := Int.mul_ediv_add_emod (k : Int) s
        rw [← e1, ← e2] at f2
        omega
      rw [List.getD, List.getElem?_set_ne ne, ← List.getD]
      exact nmF_at hs hp hl k (by omega) n hnk
theorem cell_name {s : Int} {ns : List Int} {t : Tab} (hs : 1 ≤ s) (hp : ns.Perm (iota s)) (hl : (t.length : Int) = s * s) (a b : Int) (a0 : 0 ≤ a) (a1 : a < s) (b0 : 0 ≤ b) (b1 : b < s) : cellF s (nameT s ns t) (nmOf ns a) (nmOf ns b) = (nmOf ns (cellF s t a b).1, nmOf ns (cellF s t a b).2) := by
  obtain ⟨h0, h1⟩ := ix_lt a0 a1 b0 b1
  have h := nmF_at hs hp hl t.length (Nat.le_refl _) (a * s + b).toNat (by omega)
  rw [Int.toNat_of_nonneg h0, (ix_div b0 b1).1, (ix_div b0 b1).2] at h
  exact h
theorem GoodT.yb {m s : Int} {ts : List Tab} (m5 : m ≤ 5) (hs : 1 ≤ s) (h : GoodT m s ts) : YBT m s ts := by
  induction h with
  | plain h => exact h.yb m5 hs
  | @side w r ta tb w1 r1 e ha hb =>
    have ya := ha.yb m5 w1
    have yb := hb.yb m5 r1
    have oa := ha.ok w1
    have ob := hb.ok r1
    have oz := (GoodT.side w1 r1 e ha hb).ok hs
    intro u v w' a b c w0 wv vu um a0 a1 b0 b1 c0 c1
    subst e
    have key : ∀ {x y : Int}, 0 ≤ y → y < x → x < m → EqR (w * r) (cellF (w * r) (tabN (List.zipWith (sideT w r) ta tb) x y)) (sideF r (cellF w (tabN ta x y)) (cellF r (tabN tb x y))) ∧ InR w (cellF w (tabN ta x y)) ∧ InR r (cellF r (tabN tb x y)) := fun {x y} y0 yx xm => by
      have ga := tabN_get oa.len m5 y0 yx xm
      have gb := tabN_get ob.len m5 y0 yx xm
      have gz := tabN_get oz.len m5 y0 yx xm
      rw [List.getElem?_zipWith, ga, gb] at gz
      have gz : sideT w r (tabN ta x y) (tabN tb x y) = tabN (List.zipWith (sideT w r) ta tb) x y := Option.some.inj gz
      rw [← gz]
      exact ⟨fun a b a0 a1 b0 b1 => cell_side r1 a0 a1 b0 b1, cell_in (oa.ok _ (List.mem_of_getElem? ga)), cell_in (ob.ok _ (List.mem_of_getElem? gb))⟩
    obtain ⟨k1, i1, j1⟩ := key (show 0 ≤ v by omega) vu um
    obtain ⟨k2, i2, j2⟩ := key w0 (show w' < u by omega) um
    obtain ⟨k3, i3, j3⟩ := key w0 wv (show v < m by omega)
    have dv : ∀ {a : Int}, 0 ≤ a → a < w * r → 0 ≤ a / r ∧ a / r < w := fun a0 a1 => ⟨Int.ediv_nonneg a0 (by omega), Int.ediv_lt_of_lt_mul (by omega) a1⟩
    have mo : ∀ a : Int, 0 ≤ a % r ∧ a % r < r := fun a => mod_lt (by omega)
    exact YB.congr k1 k2 k3 (sideF_in r1 i1 j1) (sideF_in r1 i2 j2) (sideF_in r1 i3 j3) a0 a1 b0 b1 c0 c1 (YB.side r1 i1 i2 i3 j1 j2 j3 a0 a1 b0 b1 c0 c1
      (ya u v w' _ _ _ w0 wv vu um (dv a0 a1).1 (dv a0 a1).2 (dv b0 b1).1 (dv b0 b1).2 (dv c0 c1).1 (dv c0 c1).2) (yb u v w' _ _ _ w0 wv vu um (mo a).1 (mo a).2 (mo b).1 (mo b).2 (mo c).1 (mo c).2))
  | @name ts ns h hp ih =>
    have ok := h.ok hs
    have oz := (GoodT.name h hp).ok hs
    intro u v w' a b c w0 wv vu um a0 a1 b0 b1 c0 c1
    obtain ⟨a, x0, x1, rfl⟩ := nm_onto hp a0 a1
    obtain ⟨b, y0, y1, rfl⟩ := nm_onto hp b0 b1
    obtain ⟨c, z0, z1, rfl⟩ := nm_onto hp c0 c1
    have key : ∀ {x y : Int}, 0 ≤ y → y < x → x < m → (∀ a b, 0 ≤ a → a < s → 0 ≤ b → b < s → cellF s (tabN (ts.map (nameT s ns)) x y) (nmOf ns a) (nmOf ns b) = (nmOf ns (cellF s (tabN ts x y) a b).1, nmOf ns (cellF s (tabN ts x y) a b).2)) ∧ InR s (cellF s (tabN ts x y)) := fun {x y} y0 yx xm => by
      have ga := tabN_get ok.len m5 y0 yx xm
      have gz := tabN_get oz.len m5 y0 yx xm
      rw [List.getElem?_map, ga] at gz
      have gz : nameT s ns (tabN ts x y) = tabN (ts.map (nameT s ns)) x y := Option.some.inj gz
      rw [← gz]
      have tk := ok.ok _ (List.mem_of_getElem? ga)
      exact ⟨cell_name hs hp tk.len, cell_in tk⟩
    obtain ⟨k1, i1⟩ := key (show 0 ≤ v by omega) vu um
    obtain ⟨k2, i2⟩ := key w0 (show w' < u by omega) um
    obtain ⟨k3, i3⟩ := key w0 wv (show v < m by omega)
    exact YB.name i1 i2 i3 k1 k2 k3 x0 x1 y0 y1 z0 z1 (ih u v w' a b c w0 wv vu um x0 x1 y0 y1 z0 z1)
end Wf
namespace Pv
open PySem PySem.Spec L2 Wf
/-! ### k18 -/
theorem led010 (B : Book) (u v w a b c : Int) : bDs (ledN B (tri u v w a b c) [0, 1, 0]) = [.int (B.at v w (B.at u v a b).1 (B.at u w (B.at u v a b).2 c).1).1, .int (B.at v w (B.at u v a b).1 (B.at u w (B.at u v a b).2 c).1).2, .int (B.at u w (B.at u v a b).2 c).2] := rfl
theorem led101 (B : Book) (u v w a b c : Int) : bDs (ledN B (tri u v w a b c) [1, 0, 1]) = [.int (B.at u w a (B.at v w b c).1).1, .int (B.at u v (B.at u w a (B.at v w b c).1).2 (B.at v w b c).2).1, .int (B.at u v (B.at u w a (B.at v w b c).1).2 (B.at v w b c).2).2] := rfl
theorem both_good {B : Book} {m u v w a b c : Int} (bk : BookOk m B) (g : GoodT m B.s B.ts) (t : Tri m B.s u v w a b c) : bDs (ledN B (tri u v w a b c) [0, 1, 0]) = bDs (ledN B (tri u v w a b c) [1, 0, 1]) := by
  obtain ⟨y1, y2, y3⟩ := g.yb bk.m5 bk.s1 u v w a b c t.w0 t.wv t.vu t.um t.a0 t.a1 t.b0 t.b1 t.c0 t.c1
  have y1 : (B.at v w (B.at u v a b).1 (B.at u w (B.at u v a b).2 c).1).1 = (B.at u w a (B.at v w b c).1).1 := y1
  have y2 : (B.at v w (B.at u v a b).1 (B.at u w (B.at u v a b).2 c).1).2 = (B.at u v (B.at u w a (B.at v w b c).1).2 (B.at v w b c).2).1 := y2
  have y3 : (B.at u w (B.at u v a b).2 c).2 = (B.at u v (B.at u w a (B.at v w b c).1).2 (B.at v w b c).2).2 := y3
  rw [led010, led101, y1, y2, y3]
theorem good_not_bad {B : Book} {m s : Nat} (bk : BookOk (m : Int) B) (es : B.s = (s : Int)) (g : GoodT (m : Int) B.s B.ts) {k b : N3} (hk : k ∈ fallN m) (hb : b ∈ burN s) : badN B k b = false := by
  obtain ⟨h1, h2, h3⟩ := fall_tri hk
  obtain ⟨h4, h5, h6⟩ := bur_in hb
  have tr : Tri (m : Int) B.s k.1 k.2.1 k.2.2 b.1 b.2.1 b.2.2 := by rw [es]; exact ⟨by omega, by omega, by omega, by omega, by omega, by omega, by omega, by omega, by omega, by omega⟩
  have e := both_good bk g tr
  unfold badN triN
  rw [e, eqd_self (shaped_bD _)]
  rfl
-- DEF law N ['_law_script', '_law_turn', '_law_deal_here', '_law_some', '_law_book_here', '_law_form', '_law_due', '_law_many', '_law_most'] calls ['_law_deal', '_law_draw', '_law_book', '_law_first_bad', '_law_alike', 'judge_book'] takes []
end Pv
/-! Good books: all passings lead to one last row. -/
namespace Pv
open PySem PySem.Spec L2 Wf
theorem wk_app (A D : List Wk) (x : Wk) : wk (A ++ x :: D) A.length = x := by
  unfold wk
  rw [List.getD, List.getElem?_append_right (Nat.le_refl _), Nat.sub_self]; rfl
theorem wk_app1 (A D : List Wk) (x y : Wk) : wk (A ++ x :: y :: D) (A.length + 1) = y := by
  unfold wk
  rw [List.getD, List.getElem?_append_right (by omega), show A.length + 1 - A.length = 1 by omega]; rfl
def pL (B : Book) (x y : Wk) : Wk := (y.1, (B.at x.1 y.1 x.2 y.2).1)
def pH (B : Book) (x y : Wk) : Wk := (x.1, (B.at x.1 y.1 x.2 y.2).2)
theorem pass_mid (B : Book) (A D : List Wk) (x y : Wk) : passR B (A ++ x :: y :: D) A.length = A ++ pL B x y :: pH B x y :: D := by
  unfold passR
  rw [wk_app, wk_app1, List.set_append_right _ _ (Nat.le_refl _), Nat.sub_self, List.set_append_right _ _ (by omega), show A.length + 1 - A.length = 1 by omega]
  rfl
/-! ### a measure -/
def mu : List Nat → Nat
  | [] => 0
  | k :: ks => k * (ks.length + 1) + mu ks
theorem mu_app : ∀ (A X Y : List Nat), X.length = Y.length → mu X < mu Y → mu (A ++ X) < mu (A ++ Y)
  | [], X, Y, _, h => h
  | a :: A, X, Y, hl, h => by
    have := mu_app A X Y hl h
    show a * ((A ++ X).length + 1) + mu (A ++ X) < a * ((A ++ Y).length + 1) + mu (A ++ Y)
    rw [List.length_append, List.length_append, hl]
    omega
theorem mu_swap (A D : List Nat) {b m : Nat} (h : m < b) : mu (A ++ m :: b :: D) < mu (A ++ b :: m :: D) := by
  refine mu_app A _ _ (by simp) ?_
  show m * ((b :: D).length + 1) + (b * (D.length + 1) + mu D) < b * ((m :: D).length + 1) + (m * (D.length + 1) + mu D)
  simp only [List.length_cons, Nat.mul_add, Nat.mul_one]
  omega
/-! ### no passing more -/
def NoDesc (r : List Wk) : Prop := ∀ k, k + 1 < r.length → ¬ (wk r (k + 1)).1 < (wk r k).1
structure Max (B : Book) (r : List Wk) (ws : List Nat) : Prop where
  fw : fwdW B r ws
  nd : NoDesc (ledN B r ws)
theorem Max.cons {B : Book} {r : List Wk} {k : Nat} {ws : List Nat} (h1 : k + 1 < r.length) (h2 : (wk r (k + 1)).1 < (wk r k).1) (h : Max B (passR B r k) ws) : Max B r (k :: ws) := ⟨⟨⟨h1, h2⟩, h.fw⟩, h.nd⟩
theorem Max.tail {B : Book} {r : List Wk} {k : Nat} {ws : List Nat} (h : Max B r (k :: ws)) : Max B (passR B r k) ws := ⟨h.fw.2, h.nd⟩
end Pv
namespace Pv
open PySem PySem.Spec L2 Wf
/-! Roads: by beats, and at last. -/
/-! ### is_done_by -/
-- DEF is_done_by N ['moment', 'beat', 'upper', 'lower'] calls [] takes []
def pr_is_done_by_1 : PSx :=
    pRet (pLe (pVar 2) (pMul (pVar 1) (pVar 3)))
def p_is_done_by : PSx :=
    pSeq (pAsg (pVar 0) (gT 2 (gsC (gN 2) (gsC (gN 3) (gsN)))))
    (pr_is_done_by_1)
def psp_is_done_by : PSp := fun as Q _ => ∃ (a b : Nat) (t : Int), as = [.im (.tuple [nD a, nD b]), .im (.int t)] ∧ b < 2 ^ 63 ∧ Q (.im (.bool (decide ((a : Int) ≤ t * (b : Int))))) [.un, .un]
theorem hp_is_done_by (as : List Sl) (Qp : QE) (Ep : EX) (h : psp_is_done_by as Qp Ep) : p_is_done_by (endsP as Qp) (as ++ List.replicate 2 .un) := by
  obtain ⟨a, b, t, rfl, hb, q⟩ := h
  refine ⟨_, _, rfl, rfl, rfl, ?_⟩
  exact ⟨.inl (.inr ⟨by omega, by omega⟩), trivial, _, _, rfl, q⟩
/-- done in lowest terms -/
theorem done_low {w g : Nat} {t : Int} (g1 : 1 ≤ g) : ((w / Nat.gcd w g : Nat) : Int) ≤ t * ((g / Nat.gcd w g : Nat) : Int) ↔ (w : Int) ≤ t * (g : Int) := by
  have pc := Nat.gcd_pos_of_pos_right w g1
  obtain ⟨a, ea⟩ := Nat.gcd_dvd_left w g
  obtain ⟨b, eb⟩ := Nat.gcd_dvd_right w g
  generalize Nat.gcd w g = c at *
  subst ea
  subst eb
  rw [Nat.mul_div_cancel_left _ pc, Nat.mul_div_cancel_left _ pc, Int.natCast_mul, Int.natCast_mul]
  have e : t * ((c : Int) * (b : Int)) = (c : Int) * (t * (b : Int)) := Int.mul_left_comm _ _ _
  rw [e]
  constructor
  · intro h; exact Int.mul_le_mul_of_nonneg_left h (by omega)
  · intro h; exact Int.le_of_mul_le_mul_left h (by omega)
/-! ### word_by -/
-- DEF word_by N ['book', 'kinds', 'spots', 'beat', 'order', 'word', 'moment', 'i', 'j', 'k'] calls ['passings', 'is_done_by'] takes []
/-! ### row_by -/
-- DEF row_by N ['book', 'row', 'spots', 'beat'] calls ['led_by', 'word_by', 'kinds_of'] takes ['cNoPassing']
/-! ### settled_at -/
-- DEF settled_at N ['book', 'kinds', 'spots', 'found', 'upper', 'lower'] calls ['passings'] takes []
theorem atApp {xs : List PyData} {x : PyData} : atI (xs ++ [x]) (-1) = some x := by
  rw [atI_neg1 (by simp)]; simp
/-! ### row_at_last -/
-- DEF row_at_last N ['book', 'row', 'spots'] calls ['row_by', 'settled_at', 'kinds_of'] takes []
end Pv
namespace Pv
open PySem PySem.Spec L2 Wf
/-! Rounds: the law's settings out. -/
/-! ### _law_lowest -/
-- DEF _law_lowest N ['_law_upper', '_law_lower', '_law_one', '_law_other'] calls [] takes []
/-! ### _law_near_paces -/
-- DEF _law_near_paces N ['_law_deal_here', '_law_many', '_law_found', '_law_k', '_law_wide', '_law_form'] calls ['_law_draw'] takes []
def pb_near_paces_1 : PSx :=
    pExpr (pMt mAppend (pVar 2) (pCons (pAdd (pIx (pVar 2) (pNeg (pK (.int 1)))) (pIx (pLst (pCons (pAdd (pK (.int 1)) (pCall psp_draw (pCons (pVar 0) (pCons (pFz (pVar 4)) (pNil))) noX)) (pCons (pVar 4) (pNil)))) (pC (q1 fInt1) (pCons (pEq false (pVar 5) (pK (.int 0))) (pNil))))) (pNil)))
def pr_near_paces_1 : PSx :=
    pRet (pC (q1 fTupleOf) (pCons (pVar 2) (pNil)))
def pr_near_paces_2 : PSx :=
    pSeq (pIf (pAnd (pT (pGt (pVar 1) (pK (.int 1)))) (pT (pEq false (pVar 5) (pK (.int 1))))) (pAsg (pAdd (pAdd (pIx (pVar 2) (pNeg (pK (.int 1)))) (pK (.int 100))) (pCall psp_draw (pCons (pVar 0) (pCons (pFz (pK (.int 400))) (pNil))) noX)) (gSx (pVar 2) (pNeg (pK (.int 1))))) (pNext))
    (pr_near_paces_1)
def pr_near_paces_3 : PSx :=
    pSeq (pFor [3] (iRg (pCons (pSub (pVar 1) (pK (.int 1))) (pNil))) (gN 3) (pb_near_paces_1))
    (pr_near_paces_2)
def pr_near_paces_4 : PSx :=
    pSeq (pSet 2 (pLst (pCons (pSub (pCall psp_draw (pCons (pVar 0) (pCons (pFz (pK (.int 1480))) (pNil))) noX) (pK (.int 1000))) (pNil))))
    (pr_near_paces_3)
def p_near_paces : PSx :=
    pSeq (pPar [4, 5] (pCons (pFdiv (pK (.int 12)) (pC (q2 fMax2) (pCons (pK (.int 1)) (pCons (pSub (pVar 1) (pK (.int 1))) (pNil))))) (pCons (pCall psp_draw (pCons (pVar 0) (pCons (pFz (pK (.int 4))) (pNil))) noX) (pNil))))
    (pr_near_paces_4)
abbrev stNp (n : Nat) (s2 s3 s4 s5 : Sl) : List Sl := [.ow true .deal, .im (nD n), s2, s3, s4, s5]
def psp_near_paces : PSp := fun as Q _ => ∃ n : Nat, as = [.ow true .deal, .im (nD n)] ∧ 1 ≤ n ∧ n ≤ 5 ∧ ∀ ps : List Int, PacesOk (n : Int) ps → Q (.im (.tuple (ps.map .int))) [.ow true .deal, .un]
theorem wide_of {n : Nat} (n1 : 1 ≤ n) (n5 : n ≤ 5) : ∃ w : Nat, (12 : Int) / (if (n : Int) - 1 > 1 then (n : Int) - 1 else 1) = (w : Int) ∧ 1 ≤ w ∧ w * (n - 1) ≤ 12 ∧ w ≤ 12 := by
  have : n = 1 ∨ n = 2 ∨ n = 3 ∨ n = 4 ∨ n = 5 := by omega
  rcases this with rfl | rfl | rfl | rfl | rfl
  · exact ⟨12, rfl, by decide, by decide, by decide⟩
  · exact ⟨12, rfl, by decide, by decide, by decide⟩
  · exact ⟨6, rfl, by decide, by decide, by decide⟩
  · exact ⟨4, rfl, by decide, by decide, by decide⟩
  · exact ⟨3, rfl, by decide, by decide, by decide⟩
theorem sel_near {f : Int} {c w : Nat} (hc : (c : Int) < (w : Int)) : ∃ x : Int, atI [PyData.int (1 + (c : Int)), .int (w : Int)] (if decide (f = 0) = true then 1 else 0) = some (.int x) ∧ 1 ≤ x ∧ x ≤ (w : Int) := by
  by_cases h : f = 0
  · rw [if_pos (decide_eq_true h)]
    exact ⟨_, rfl, by omega, by omega⟩
  · rw [if_neg (by simpa using h)]
    exact ⟨_, rfl, by omega, by omega⟩
theorem sum_leN {w : Int} : ∀ {xs : List Int}, (∀ x ∈ xs, 1 ≤ x ∧ x ≤ w) → xs.sum ≤ w * xs.length ∧ 0 ≤ xs.sum
  | [], _ => by simp
  | x :: xs, h => by
    have h1 := h x List.mem_cons_self
    have h2 := sum_leN fun y hy => h y (List.mem_cons_of_mem _ hy)
    rw [List.sum_cons, List.length_cons, Int.natCast_add, Int.mul_add]
    exact ⟨by omega, by omega⟩
theorem hp_near_paces (as : List Sl) (Qp : QE) (Ep : EX) (h : psp_near_paces as Qp Ep) : p_near_paces (endsP as Qp) (as ++ List.replicate 4 .un) := by
  obtain ⟨n, rfl, n1, n5, q⟩ := h
  have z9 : (1000 : Nat) < sizeLine := by decide
  obtain ⟨w, ew, w1, w2, w3⟩ := wide_of n1 n5
  have w4 : (w : Int) * ((n - 1 : Nat) : Int) ≤ 12 := by rw [← Int.natCast_mul]; omega
  have cd : CDivW 12 (if (n : Int) - 1 > 1 then (n : Int) - 1 else 1) := wide_div (b := 12) (by split <;> omega) (by split <;> omega) (by decide) (by decide)
  refine ⟨trivial, cd, _, _, rfl, _, rfl, nd1 0, _, rfl, by decide, by decide, fun f hf => ?_⟩
  simp only [pk0]
  refine ⟨_, _, rfl, ?_⟩
  show pr_near_paces_4 _ (stNp n .un .un (.im (.int (12 / (if (n : Int) - 1 > 1 then (n : Int) - 1 else 1)))) (.im (nD f)))
  rw [ew]
  refine ⟨_, _, rfl, _, rfl, nd1 0, _, rfl, by decide, by decide, fun b hb => ?_⟩
  simp only [pk0]
  refine ⟨trivial, _, _, rfl, ?_⟩
  generalize hs0 : (b : Int) - 1000 = s0
  have s1 : -1000 ≤ s0 ∧ s0 ≤ 479 := by omega
  show pr_near_paces_3 _ (stNp n (.ow false (.lst [.int ((b : Int) - 1000)])) .un (.im (nD w)) (.im (nD f)))
  rw [hs0]
  have fin : ∀ ys : List Int, (∀ y ∈ ys, 1 ≤ y) → ys.length = n - 1 → ys.sum ≤ 520 → pr_near_paces_1 (endsP [.ow true .deal, .im (nD n)] Qp) (stNp n (.ow false (.lst ((scan s0 ys).map .int))) .un (.im (nD w)) (.im (nD f))) := fun ys y1 yl ysum =>
    ⟨_, _, rfl, q _ ⟨by rw [scan_len]; omega, scan_rise y1, fun p hp => by
      have := scan_mem y1 hp
      omega⟩⟩
  refine ⟨trivial, by omega, by omega, ?_⟩
  refine for_rg (n - 1) (by show (n : Int) - 1 = _; omega) (fun k δ => ∃ xs : List Int, xs.length = k ∧ (∀ x ∈ xs, 1 ≤ x ∧ x ≤ (w : Int)) ∧ δ = stNp n (.ow false (.lst ((scan s0 xs).map .int))) .un (.im (nD w)) (.im (nD f))) ⟨[], rfl, nofun, rfl⟩ ?_ ?_
  · rintro k δ hk ⟨xs, xl, xb, rfl⟩
    have eat : atI ((scan s0 xs).map PyData.int) (-1) = some (.int (s0 + xs.sum)) := by
      rw [atI_neg1 (by rw [List.length_map, scan_len]; exact Nat.succ_pos _), List.getElem?_map, List.length_map, scan_len, Nat.add_sub_cancel, scan_last]
      rfl
    refine ⟨_, _, _, rfl, rfl, _, eat, _, _, rfl, _, rfl, nd1 0, _, rfl, by omega, Int.lt_of_le_of_lt (show (w : Int) ≤ 12 by omega) (by decide), fun c hc => ?_⟩
    simp only [pk0]
    obtain ⟨x, ex, x1, x2⟩ := sel_near (f := (f : Int)) hc
    refine ⟨_, ex, _, _, _, _, rfl, rfl, ?_, xs ++ [x], by simp [xl], fun y hy => ?_, ?_⟩
    · rw [List.length_map, scan_len]; omega
    · rcases List.mem_append.mp hy with h1 | h1
      · exact xb y h1
      · rw [List.mem_singleton.mp h1]; exact ⟨x1, x2⟩
    · show stNp n (.ow false (.lst ((scan s0 xs).map .int ++ [.int (s0 + xs.sum + x)]))) .un _ _ = _
      rw [scan_app, List.map_append]
      rfl
  · rintro δ ⟨xs, xl, xb, rfl⟩
    have sm := sum_leN xb
    have sm1 : xs.sum ≤ 12 := by rw [xl] at sm; omega
    have pl := fin xs (fun y hy => (xb y hy).1) xl (by omega)
    refine ⟨trivial, _, rfl, ?_⟩
    show if decide ((1 : Int) < (n : Int)) = true then _ else _
    by_cases c : 1 < n
    · rw [if_pos (decide_eq_true (by omega))]
      refine ⟨_, rfl, ?_⟩
      show if decide ((f : Int) = 1) = true then _ else _
      by_cases c2 : (f : Int) = 1
      · rw [if_pos (decide_eq_true c2)]
        rcases List.eq_nil_or_concat xs with rfl | ⟨ys, x, rfl⟩
        · simp at xl; omega
        rw [List.concat_eq_append] at *
        have eat : atI ((scan s0 (ys ++ [x])).map PyData.int) (-1) = some (.int (s0 + ys.sum + x)) := by
          rw [scan_app, List.map_append]
          exact atApp
        refine ⟨_, eat, _, _, rfl, _, rfl, nd1 0, _, rfl, by decide, by decide, fun e he => ?_⟩
        simp only [pk0]
        refine ⟨_, _, rfl, 2, (-1 : Int), false, _, (scan s0 ys).length, rfl, rfl, rfl, ?_, ?_⟩
        · rw [List.length_map, scan_app, List.length_append]
          show ixN ((scan s0 ys).length + 1) (-1) = _
          unfold ixN
          rw [if_neg (by decide), if_pos (by omega)]
          congr 1
          omega
        · have := fin (ys ++ [x + 100 + (e : Int)]) (fun y hy => by
            rcases List.mem_append.mp hy with h1 | h1
            · exact (xb y (List.mem_append_left _ h1)).1
            · have := xb x (by simp)
              rw [List.mem_singleton.mp h1]; omega) (by simpa using xl) (by
            rw [List.sum_append, List.sum_singleton] at sm1 ⊢
            omega)
          show pr_near_paces_1 _ (stNp n (.ow false (.lst (((scan s0 (ys ++ [x])).map PyData.int).set (scan s0 ys).length (.int (s0 + ys.sum + x + 100 + (e : Int)))))) .un (.im (nD w)) (.im (nD f)))
          rw [scan_app] at this
          rw [scan_app, List.map_append, List.set_append_right _ _ (by rw [List.length_map]; exact Nat.le_refl _), List.length_map, Nat.sub_self]
          rw [List.map_append] at this
          have ev : s0 + ys.sum + (x + 100 + (e : Int)) = s0 + ys.sum + x + 100 + (e : Int) := by omega
          rw [ev] at this
          exact this
      · rw [if_neg (by simpa using c2)]
        exact pl
    · rw [if_neg (by simp; omega)]
      exact pl
/-! ### _law_near -/
-- DEF _law_near N ['_law_book_here', '_law_pace'] calls [] takes []
def pe_lnear_1 : PX :=
    pVar 1
def p_lnear : PSx :=
    pRet (pAdd (pTup (pCons (pC (q1 fTupleOf) (pCons (pComp (iSeq (pIx (pVar 0) (pK (.int 0)))) (gN 1) (pT (pLt (pSub (pVar 1) (pIx (pIx (pVar 0) (pK (.int 0))) (pK (.int 0)))) (pK (.int 13)))) (pe_lnear_1) [1]) (pNil))) (pNil))) (pSlice (pVar 0) (oSome (pK (.int 1))) (oNone)))
def nearP (ps : List Int) : List Int := ps.filter fun p => decide (p - ps.getD 0 0 < 13)
theorem near_get {m : Int} {ps : List Int} (pok : PacesOk m ps) {k : Nat} (hk : k < (nearP ps).length) : k < ps.length ∧ ps.getD k 0 - ps.getD 0 0 ≤ 12 := by
  obtain ⟨post, e⟩ := filter_pre (d := fun p => decide (p - ps.getD 0 0 < 13)) (l := ps) (pok.rise.imp fun {a b} h z => by
    have := of_decide_eq_true z
    exact decide_eq_true (by omega))
  have hl : (nearP ps).length ≤ ps.length := List.length_filter_le _ _
  have hg : ps[k]? = (nearP ps)[k]? := by
    have : ps[k]? = (nearP ps ++ post)[k]? := congrArg (·[k]?) e
    rw [this, List.getElem?_append_left hk]
  refine ⟨by omega, ?_⟩
  rw [List.getElem?_eq_getElem hk] at hg
  have hm := of_decide_eq_true (List.mem_filter.mp (List.getElem_mem hk)).2
  have e2 : ps.getD k 0 = (nearP ps)[k] := by rw [List.getD_eq_getElem?_getD, hg]; rfl
  rw [e2]
  have hm : (nearP ps)[k] - ps.getD 0 0 < 13 := hm
  omega
def psp_lnear : PSp := fun as Q _ => ∃ (B : Book) (m : Int), as = [.im (dB B)] ∧ BookOk m B ∧ Q (.im (dB ⟨nearP B.ps, B.s, B.ts⟩)) [.un]
theorem hp_lnear (as : List Sl) (Qp : QE) (Ep : EX) (h : psp_lnear as Qp Ep) : p_lnear (endsP as Qp) (as ++ List.replicate 1 .un) := by
  obtain ⟨B, m, rfl, bk, q⟩ := h
  have z9 : (1000 : Nat) < sizeLine := by decide
  have pl : B.ps.length ≤ 5 := by have := bk.pac.len; have := bk.m5; omega
  have p1 : 0 < B.ps.length := by have := bk.pac.len; have := bk.m1; omega
  have e0 : (B.ps.map PyData.int)[0]? = some (.int (B.ps.getD 0 0)) := by rw [List.getElem?_map, getI_of p1]; rfl
  refine ⟨_, atI_of (j := 0) rfl rfl, _, _, _, rfl, rfl, noPin1 (fun o => nofun), fun i acc δ => acc = ((B.ps.take i).filter fun p => decide (p - B.ps.getD 0 0 < 13)).map .int ∧ δ = [.im (dB B), .un], ⟨rfl, rfl⟩, ?_, ?_⟩
  · rintro i d acc δ hd ⟨rfl, rfl⟩
    have hd : (B.ps.map PyData.int)[i]? = some d := hd
    rw [List.getElem?_map] at hd
    obtain ⟨x, hx, rfl⟩ := Option.map_eq_some_iff.mp hd
    have tk : B.ps.take (i + 1) = B.ps.take i ++ [x] := by rw [List.take_add_one, hx]; rfl
    refine ⟨_, atI_of (j := 0) rfl rfl, _, atI_of (j := 0) rfl e0, trivial, trivial, _, rfl, ?_⟩
    show if decide (x - B.ps.getD 0 0 < 13) = true then _ else _
    by_cases c : x - B.ps.getD 0 0 < 13
    · rw [if_pos (decide_eq_true c)]
      have f1 : [x].filter (fun p => decide (p - B.ps.getD 0 0 < 13)) = [x] := List.filter_cons_of_pos (by simpa using c)
      refine ⟨_, _, rfl, ?_, ?_, rfl⟩
      · rw [List.length_map]
        have := List.length_filter_le (fun p => decide (p - B.ps.getD 0 0 < 13)) (B.ps.take i)
        rw [List.length_take] at this
        omega
      · rw [tk, List.filter_append, f1, List.map_append]; rfl
    · rw [if_neg (by simpa using c)]
      have f1 : [x].filter (fun p => decide (p - B.ps.getD 0 0 < 13)) = [] := List.filter_cons_of_neg (by simpa using c)
      refine ⟨?_, rfl⟩
      rw [tk, List.filter_append, f1, List.append_nil]
  · rintro acc δ ⟨rfl, rfl⟩
    have el : (B.ps.map PyData.int).length = B.ps.length := List.length_map _
    rw [el, List.take_length]
    exact ⟨_, rfl, (show 1 + 2 ≤ sizeLine by decide), _, _, rfl, q⟩
/-! ### _law_ring -/
-- DEF _law_ring N ['_law_deal_here', '_law_many', '_law_size', '_law_k', '_law_found', '_law_low'] calls ['_law_draw'] takes []
def pr_lring_1 : PSx :=
    pSet 5 (pAdd (pVar 5) (pK (.int 1)))
def pr_lring_2 : PSx :=
    pSeq (pExpr (pMt mAppend (pVar 4) (pCons (pVar 5) (pNil))))
    (pr_lring_1)
def pb_lring_3 : PSx :=
    pSeq (pSet 5 (pAdd (pVar 5) (pCall psp_draw (pCons (pVar 0) (pCons (pFz (pC (q2 fMax2) (pCons (pK (.int 1)) (pCons (pFdiv (pSub (pVar 2) (pVar 5)) (pSub (pVar 1) (pVar 3))) (pNil))))) (pNil))) noX)))
    (pr_lring_2)
def pr_lring_3 : PSx :=
    pRet (pTup (pCons (pVar 2) (pCons (pC (q1 fTupleOf) (pCons (pVar 4) (pNil))) (pNil))))
def pr_lring_4 : PSx :=
    pSeq (pFor [3] (iRg (pCons (pVar 1) (pNil))) (gN 3) (pb_lring_3))
    (pr_lring_3)
def pr_lring_5 : PSx :=
    pSeq (pPar [4, 5] (pCons (pLst (pNil)) (pCons (pK (.int 0)) (pNil))))
    (pr_lring_4)
def p_lring : PSx :=
    pSeq (pSet 2 (pAdd (pC (q2 fMax2) (pCons (pK (.int 1)) (pCons (pVar 1) (pNil)))) (pCall psp_draw (pCons (pVar 0) (pCons (pFz (pIx (pLst (pCons (pK (.int 4)) (pCons (pK (.int 60)) (pCons (pSub (pPow (pK (.int 10)) (pK (.int 9))) (pK (.int 4))) (pNil))))) (pCall psp_draw (pCons (pVar 0) (pCons (pFz (pK (.int 3))) (pNil))) noX))) (pNil))) noX)))
    (pr_lring_5)
theorem div_room {S c : Nat} (c1 : 1 ≤ c) (h : c ≤ S) : 1 ≤ S / c ∧ S / c + (c - 1) ≤ S := by
  have q1 : 1 ≤ S / c := (Nat.le_div_iff_mul_le c1).mpr (by omega)
  have q2 := Nat.div_mul_le_self S c
  obtain ⟨q, e⟩ : ∃ q, S / c = q + 1 := ⟨S / c - 1, by omega⟩
  rw [e] at q2 ⊢
  rw [Nat.add_mul, Nat.one_mul] at q2
  have := Nat.le_mul_of_pos_right q c1
  exact ⟨by omega, by omega⟩
/-- spots of a round road -/
structure SpR (n : Nat) (L : Nat) (ss : List Int) : Prop where
  l1 : 1 ≤ L
  l2 : L ≤ 1000000020
  len : ss.length = n
  up : ss.Pairwise (· < ·)
  inn : ∀ s ∈ ss, 0 ≤ s ∧ s < (L : Int)
theorem sel_ring {a : Nat} (h : a < 3) : ∃ x : Int, atI [PyData.int 4, .int 60, .int (10 ^ (Int.toNat 9) - 4)] (a : Int) = some (.int x) ∧ 1 ≤ x ∧ x ≤ 1000000000 := by
  match a, h with
  | 0, _ => exact ⟨4, rfl, by decide, by decide⟩
  | 1, _ => exact ⟨60, rfl, by decide, by decide⟩
  | 2, _ => exact ⟨_, rfl, by decide, by decide⟩
abbrev stRi (n : Nat) (s2 s3 s4 s5 : Sl) : List Sl := [.ow true .deal, .im (nD n), s2, s3, s4, s5]
def psp_lring : PSp := fun as Q _ => ∃ n : Nat, as = [.ow true .deal, .im (nD n)] ∧ n ≤ 10 ∧ ∀ (L : Nat) (ss : List Int), SpR n L ss → Q (.im (.tuple [nD L, .tuple (ss.map .int)])) [.ow true .deal, .un]
theorem hp_lring (as : List Sl) (Qp : QE) (Ep : EX) (h : psp_lring as Qp Ep) : p_lring (endsP as Qp) (as ++ List.replicate 4 .un) := by
  obtain ⟨n, rfl, hn, q⟩ := h
  refine ⟨⟨by decide, by decide, by decide⟩, trivial, _, _, rfl, _, rfl, nd1 0, _, rfl, by decide, by decide, fun a ha => ?_⟩
  simp only [pk0]
  obtain ⟨x, ex, x1, x2⟩ := sel_ring (a := a) (by omega)
  refine ⟨_, ex, _, _, rfl, _, rfl, nd1 0, _, rfl, by omega, Int.lt_of_le_of_lt x2 (by decide), fun b hb => ?_⟩
  simp only [pk0]
  have eL : (if (n : Int) > 1 then (n : Int) else 1) + (b : Int) = (((if n > 1 then n else 1) + b : Nat) : Int) := by split <;> split <;> omega
  have L1 : 1 ≤ (if n > 1 then n else 1) + b := by split <;> omega
  have L2 : (if n > 1 then n else 1) + b ≤ 1000000020 := by split <;> omega
  have L3 : n ≤ (if n > 1 then n else 1) + b := by split <;> omega
  refine ⟨_, _, rfl, ?_⟩
  show pr_lring_5 _ (stRi n (.im (.int ((if (n : Int) > 1 then (n : Int) else 1) + (b : Int)))) .un .un .un)
  rw [eL]
  generalize (if n > 1 then n else 1) + b = L at *
  refine ⟨_, _, rfl, ?_⟩
  show pr_lring_4 _ (stRi n (.im (nD L)) .un (.ow false (.lst [])) (.im (nD 0)))
  refine ⟨by omega, by omega, ?_⟩
  refine for_rg n rfl (fun k δ => ∃ (ss : List Int) (low : Nat), ss.length = k ∧ ss.Pairwise (· < ·) ∧ (∀ s ∈ ss, 0 ≤ s ∧ s < (low : Int)) ∧ low + (n - k) ≤ L ∧ δ = stRi n (.im (nD L)) .un (.ow false (.lst (ss.map .int))) (.im (nD low))) ⟨[], 0, rfl, .nil, nofun, by omega, rfl⟩ ?_ ?_
  · rintro k δ hk ⟨ss, low, sl, up, inn, room, rfl⟩
    have dr := div_room (S := L - low) (c := n - k) (by omega) (by omega)
    have e1 : (L : Int) - (low : Int) = ((L - low : Nat) : Int) := by omega
    have e2 : (n : Int) - (k : Int) = ((n - k : Nat) : Int) := by omega
    have cd : CDivW ((L : Int) - (low : Int)) ((n : Int) - (k : Int)) := by
      rw [e2]
      exact wide_div (b := 12) (by omega) (by rw [Int.natAbs_natCast]; omega) (by decide) (by decide)
    have eq : ((L : Int) - (low : Int)) / ((n : Int) - (k : Int)) = (((L - low) / (n - k) : Nat) : Int) := by rw [e1, e2, Int.natCast_ediv]
    have dl : (L - low) / (n - k) ≤ L - low := Nat.div_le_self _ _
    generalize (L - low) / (n - k) = Q at *
    refine ⟨trivial, trivial, cd, _, _, rfl, _, rfl, nd1 0, _, rfl, ?_, ?_, fun d hd => ?_⟩
    · show (0 : Int) < if ((L : Int) - (low : Int)) / ((n : Int) - (k : Int)) > 1 then ((L : Int) - (low : Int)) / ((n : Int) - (k : Int)) else 1
      rw [eq]; split <;> omega
    · show (if ((L : Int) - (low : Int)) / ((n : Int) - (k : Int)) > 1 then ((L : Int) - (low : Int)) / ((n : Int) - (k : Int)) else 1) < 2 ^ 200
      rw [eq]
      exact Int.lt_of_le_of_lt (show _ ≤ (1000000020 : Int) by split <;> omega) (by decide)
    simp only [pk0]
    have hd : (d : Int) < if ((L : Int) - (low : Int)) / ((n : Int) - (k : Int)) > 1 then ((L : Int) - (low : Int)) / ((n : Int) - (k : Int)) else 1 := hd
    rw [eq] at hd
    have hd : d + 1 ≤ Q := by split at hd <;> omega
    refine ⟨_, _, rfl, ?_⟩
    show pr_lring_2 _ (stRi n (.im (nD L)) (.im (nD k)) (.ow false (.lst (ss.map .int))) (.im (.int ((low : Int) + (d : Int)))))
    refine ⟨_, _, _, rfl, rfl, _, _, _, _, rfl, rfl, ?_, ?_⟩
    · rw [List.length_map]; exact szN (m := 100) (by omega) (by decide)
    refine ⟨_, _, rfl, ?_⟩
    refine ⟨ss ++ [(low : Int) + (d : Int)], low + d + 1, by simp [sl], ?_, ?_, by omega, ?_⟩
    · refine List.pairwise_append.mpr ⟨up, List.pairwise_singleton _ _, fun s hs y hy => ?_⟩
      rw [List.mem_singleton.mp hy]
      have := inn s hs
      omega
    · intro s hs
      rcases List.mem_append.mp hs with h1 | h1
      · have := inn s h1; omega
      · rw [List.mem_singleton.mp h1]; omega
    · show stRi n (.im (nD L)) .un (.ow false (.lst (ss.map .int ++ [.int ((low : Int) + (d : Int))]))) (.im (.int ((low : Int) + (d : Int) + 1))) = _
      rw [List.map_append]
      rfl
  · rintro δ ⟨ss, low, sl, up, inn, room, rfl⟩
    exact ⟨_, _, rfl, q L ss ⟨L1, L2, sl, up, fun s hs => by have := inn s hs; omega⟩⟩
/-! ### _law_ring_book -/
-- DEF _law_ring_book N ['_law_deal_here', '_law_many', '_law_size', '_law_form', '_law_most', '_law_book_here'] calls ['_law_draw', '_law_book', '_law_near_paces'] takes []
def pr_ring_book_1 : PSx :=
    pRet (pAdd (pTup (pCons (pCall psp_near_paces (pCons (pVar 0) (pCons (pFz (pVar 4)) (pNil))) noX) (pNil))) (pSlice (pVar 5) (oSome (pK (.int 1))) (oNone)))
def pr_ring_book_2 : PSx :=
    pSeq (pSet 5 (pCall psp_book (pCons (pVar 0) (pCons (pFz (pVar 4)) (pCons (pFz (pVar 2)) (pCons (pFz (pVar 3)) (pNil))))) noX))
    (pr_ring_book_1)
def p_ring_book : PSx :=
    pSeq (pSet 4 (pIx (pLst (pCons (pK (.int 3)) (pCons (pK (.int 4)) (pCons (pK (.int 5)) (pCons (pVar 1) (pNil)))))) (pCall psp_draw (pCons (pVar 0) (pCons (pFz (pK (.int 4))) (pNil))) noX)))
    (pr_ring_book_2)
def psp_ring_book : PSp := fun as Q _ => ∃ m s f : Int, as = [.ow true .deal, .im (.int m), .im (.int s), .im (.int f)] ∧ 1 ≤ m ∧ m ≤ 5 ∧ 1 ≤ s ∧ s ≤ 6 ∧
  ∀ (n : Int) (ps : List Int) (ts : List Tab), 1 ≤ n → n ≤ 5 → PacesOk n ps → BookT n s f ts → BookOk n ⟨ps, s, ts⟩ → Q (.im (dB ⟨ps, s, ts⟩)) [.ow true .deal, .un, .un, .un]
theorem sel_most {a : Nat} {m : Int} (h : a < 4) (m1 : 1 ≤ m) (m5 : m ≤ 5) : ∃ x : Nat, atI [PyData.int 3, .int 4, .int 5, .int m] (a : Int) = some (nD x) ∧ 1 ≤ x ∧ x ≤ 5 := by
  match a, h with
  | 0, _ => exact ⟨3, rfl, by decide, by decide⟩
  | 1, _ => exact ⟨4, rfl, by decide, by decide⟩
  | 2, _ => exact ⟨5, rfl, by decide, by decide⟩
  | 3, _ => exact ⟨m.toNat, by show some (PyData.int m) = some (PyData.int ((m.toNat : Nat) : Int)); rw [Int.toNat_of_nonneg (by omega)], by omega, by omega⟩
theorem hp_ring_book (as : List Sl) (Qp : QE) (Ep : EX) (h : psp_ring_book as Qp Ep) : p_ring_book (endsP as Qp) (as ++ List.replicate 2 .un) := by
  obtain ⟨m, s, f, rfl, m1, m5, s1, s6, q⟩ := h
  refine ⟨_, _, rfl, _, rfl, nd1 0, _, rfl, by decide, by decide, fun a ha => ?_⟩
  simp only [pk0]
  obtain ⟨x, ex, x1, x5⟩ := sel_most (a := a) (m := m) (by omega) m1 m5
  refine ⟨_, ex, _, _, rfl, ?_⟩
  show pr_ring_book_2 _ [.ow true .deal, .im (.int m), .im (.int s), .im (.int f), .im (nD x), .un]
  refine ⟨_, _, rfl, _, _, rfl, _, _, rfl, _, rfl, nd1 0, _, _, _, rfl, by omega, by omega, s1, s6, fun ps0 ts pok0 bt bk => ?_⟩
  refine ⟨_, _, rfl, ?_⟩
  show pr_ring_book_1 _ [.ow true .deal, .im (.int m), .im (.int s), .im (.int f), .im (nD x), .im (dB ⟨ps0, s, ts⟩)]
  refine ⟨_, _, rfl, _, rfl, nd1 0, x, rfl, x1, x5, fun ps pok => ?_⟩
  exact ⟨_, rfl, (show 1 + 2 ≤ sizeLine by decide), _, _, rfl, q x ps ts (by omega) (by omega) pok bt ⟨pok, bk.m1, bk.m5, bk.s1, bk.s6, bk.tab⟩⟩
/-! ### _law_ring_row -/
-- DEF _law_ring_row N ['_law_deal_here', '_law_book_here', '_law_many', '_law_kinds', '_law_near_here', '_law_most', '_law_k', '_law_kind'] calls ['_law_near', '_law_draw', '_law_mixed'] takes []
def pe_ring_row_1 : PX :=
    pCall psp_draw (pCons (pVar 0) (pCons (pFz (pC (q1 fLen) (pCons (pIx (pVar 4) (pK (.int 0))) (pNil)))) (pNil))) noX
def pe_ring_row_2 : PX :=
    pTup (pCons (pVar 7) (pCons (pCall psp_draw (pCons (pVar 0) (pCons (pFz (pIx (pVar 1) (pK (.int 1)))) (pNil))) noX) (pNil)))
def pr_ring_row_1 : PSx :=
    pRet (pC (q1 fTupleOf) (pCons (pComp (iSeq (pVar 3)) (gN 7) (pYes) (pe_ring_row_2) [7]) (pNil)))
def pr_ring_row_2 : PSx :=
    pSeq (pIf (pT (pGt (pCall psp_draw (pCons (pVar 0) (pCons (pFz (pK (.int 3))) (pNil))) noX) (pK (.int 0)))) (pSet 3 (pSlice (pAdd (pCall psp_mixed (pCons (pVar 0) (pCons (pFz (pC (q1 fLen) (pCons (pIx (pVar 4) (pK (.int 0))) (pNil)))) (pNil))) noX) (pVar 3)) (oNone) (oSome (pVar 2)))) (pNext))
    (pr_ring_row_1)
def pr_ring_row_3 : PSx :=
    pSeq (pSet 3 (pComp (iRg (pCons (pVar 2) (pNil))) (gN 6) (pYes) (pe_ring_row_1) [6]))
    (pr_ring_row_2)
def pr_ring_row_4 : PSx :=
    pSeq (pSet 2 (pIx (pLst (pCons (pVar 5) (pCons (pVar 5) (pCons (pC (q2 fMax2) (pCons (pK (.int 0)) (pCons (pSub (pVar 5) (pK (.int 1))) (pNil)))) (pCons (pCall psp_draw (pCons (pVar 0) (pCons (pFz (pAdd (pVar 5) (pK (.int 1)))) (pNil))) noX) (pNil)))))) (pCall psp_draw (pCons (pVar 0) (pCons (pFz (pK (.int 4))) (pNil))) noX)))
    (pr_ring_row_3)
def p_ring_row : PSx :=
    pSeq (pPar [4, 5] (pCons (pCall psp_lnear (pCons (pFz (pVar 1)) (pNil)) noX) (pCons (pIx (pLst (pCons (pK (.int 0)) (pCons (pK (.int 5)) (pCons (pK (.int 5)) (pCons (pK (.int 5)) (pCons (pK (.int 3)) (pCons (pK (.int 3)) (pCons (pK (.int 3)) (pNil))))))))) (pIx (pVar 1) (pK (.int 1)))) (pNil))))
    (pr_ring_row_4)
abbrev stRo (B : Book) (s2 s3 s5 s6 s7 : Sl) : List Sl := [.ow true .deal, .im (dB B), s2, s3, .im (dB ⟨nearP B.ps, B.s, B.ts⟩), s5, s6, s7]
def psp_ring_row : PSp := fun as Q _ => ∃ (B : Book) (m : Int), as = [.ow true .deal, .im (dB B)] ∧ BookOk m B ∧ ∀ r : List Wk, RowOk m B.s r → r.length ≤ 5 → (∀ k ∈ kindsN r, k < (nearP B.ps).length) → Q (.im (dR r)) [.ow true .deal, .un]
theorem sel_row {s : Int} (s1 : 1 ≤ s) (s6 : s ≤ 6) : ∃ x : Nat, atI [PyData.int 0, .int 5, .int 5, .int 5, .int 3, .int 3, .int 3] s = some (nD x) ∧ 1 ≤ x ∧ x ≤ 5 := by
  have : s = 1 ∨ s = 2 ∨ s = 3 ∨ s = 4 ∨ s = 5 ∨ s = 6 := by omega
  rcases this with rfl | rfl | rfl | rfl | rfl | rfl
  · exact ⟨5, rfl, by decide, by decide⟩
  · exact ⟨5, rfl, by decide, by decide⟩
  · exact ⟨5, rfl, by decide, by decide⟩
  · exact ⟨3, rfl, by decide, by decide⟩
  · exact ⟨3, rfl, by decide, by decide⟩
  · exact ⟨3, rfl, by decide, by decide⟩
theorem sel_many {x a b : Nat} (hb : b < 4) (x1 : 1 ≤ x) (x5 : x ≤ 5) (ha : a < x + 1) : ∃ y : Nat, atI [nD x, nD x, .int (if (x : Int) - 1 > 0 then (x : Int) - 1 else 0), nD a] (b : Int) = some (nD y) ∧ y ≤ 5 := by
  match b, hb with
  | 0, _ => exact ⟨x, rfl, x5⟩
  | 1, _ => exact ⟨x, rfl, x5⟩
  | 2, _ => exact ⟨x - 1, by show some (PyData.int _) = some (PyData.int ((x - 1 : Nat) : Int)); congr 2; split <;> omega, by omega⟩
  | 3, _ => exact ⟨a, rfl, by omega⟩
theorem near_pos {m : Int} {B : Book} (bk : BookOk m B) : 0 < (nearP B.ps).length ∧ (nearP B.ps).length ≤ 5 ∧ ((nearP B.ps).length : Int) ≤ m := by
  have pl := bk.pac.len
  have m1 := bk.m1
  have m5 := bk.m5
  have hl : (nearP B.ps).length ≤ B.ps.length := List.length_filter_le _ _
  refine ⟨?_, by omega, by omega⟩
  have p0 : B.ps.getD 0 0 ∈ B.ps := getDm (by omega)
  exact List.length_pos_of_mem (List.mem_filter.mpr ⟨p0, decide_eq_true (by omega)⟩)
theorem hp_row5 {Qp : QE} {B : Book} {m : Int} {y : Nat} {ks : List Nat} {s5 : Sl} (bk : BookOk m B) (kl : ks.length ≤ 5) (kn : ∀ k ∈ ks, k < (nearP B.ps).length)
    (q : ∀ r : List Wk, RowOk m B.s r → r.length ≤ 5 → (∀ k ∈ kindsN r, k < (nearP B.ps).length) → Qp (.im (dR r)) [.ow true .deal, .un]) :
    pr_ring_row_1 (endsP [.ow true .deal, .im (dB B)] Qp) (stRo B (.im (nD y)) (.ow false (.lst (dN ks))) s5 .un .un) := by
  have s1 := bk.s1
  have s6 := bk.s6
  have np := near_pos bk
  refine ⟨_, _, _, rfl, rfl, noPin1 (fun o => nofun), fun j acc δ => ∃ r : List Wk, acc = r.map dP ∧ kindsN r = ks.take j ∧ RowOk m B.s r ∧ δ = stRo B (.im (nD y)) (.im (.list (dN ks))) s5 .un .un, ⟨[], rfl, rfl, nofun, rfl⟩, ?_, ?_⟩
  · rintro j d acc δ hd ⟨r, rfl, kr, ok, rfl⟩
    have hd : (ks.map nD)[j]? = some d := hd
    rw [List.getElem?_map] at hd
    obtain ⟨k, hk, rfl⟩ := Option.map_eq_some_iff.mp hd
    have km := kn k (List.mem_of_getElem? hk)
    have rl := kindsN_len r
    rw [kr, List.length_take] at rl
    refine ⟨_, atI_of (j := 1) rfl rfl, _, _, rfl, _, rfl, nd1 0, _, rfl, by show (0 : Int) < B.s; omega, Int.lt_of_le_of_lt (show B.s ≤ 6 by omega) (by decide), fun c hc => ?_⟩
    simp only [pk0]
    have hc : (c : Int) < B.s := hc
    refine ⟨_, _, rfl, ?_, r ++ [((k : Int), (c : Int))], ?_, ?_, ?_, rfl⟩
    · rw [List.length_map]
      exact szN (m := 100) (by omega) (by decide)
    · rw [List.map_append]; rfl
    · rw [List.take_add_one, hk, ← kr]
      unfold kindsN
      rw [List.map_append]
      rfl
    · intro p hp
      rcases List.mem_append.mp hp with h1 | h1
      · exact ok p h1
      · rw [List.mem_singleton.mp h1]
        exact ⟨Int.natCast_nonneg k, by show (k : Int) < m; omega, Int.natCast_nonneg c, hc⟩
  · rintro acc δ ⟨r, rfl, kr, ok, rfl⟩
    have el : (dN ks).length = ks.length := List.length_map _
    rw [el, List.take_length] at kr
    have rl := kindsN_len r
    rw [kr] at rl
    exact ⟨_, _, rfl, q r ok (by omega) (by rw [kr]; exact kn)⟩
theorem hp_ring_row (as : List Sl) (Qp : QE) (Ep : EX) (h : psp_ring_row as Qp Ep) : p_ring_row (endsP as Qp) (as ++ List.replicate 6 .un) := by
  obtain ⟨B, m, rfl, bk, q⟩ := h
  have z9 : (1000 : Nat) < sizeLine := by decide
  obtain ⟨np1, np5, npm⟩ := near_pos bk
  obtain ⟨x, ex, x1, x5⟩ := sel_row bk.s1 bk.s6
  refine ⟨_, _, rfl, _, rfl, List.nodup_nil, B, m, rfl, bk, _, atI_of (j := 1) rfl rfl, _, ex, _, _, rfl, ?_⟩
  show pr_ring_row_4 _ (stRo B .un .un (.im (nD x)) .un .un)
  refine ⟨trivial, _, _, rfl, _, rfl, nd1 0, _, rfl, by omega, Int.lt_of_le_of_lt (show (x : Int) + 1 ≤ 6 by omega) (by decide), fun a ha => ?_⟩
  simp only [pk0]
  refine ⟨_, _, rfl, _, rfl, nd1 0, _, rfl, by decide, by decide, fun b hb => ?_⟩
  simp only [pk0]
  obtain ⟨y, ey, y5⟩ := sel_many (x := x) (a := a) (b := b) (by omega) x1 x5 (by omega)
  refine ⟨_, ey, _, _, rfl, ?_⟩
  show pr_ring_row_3 _ (stRo B (.im (nD y)) .un (.im (nD x)) .un .un)
  have el : (((nearP B.ps).map PyData.int).length : Int) = ((nearP B.ps).length : Int) := by rw [List.length_map]
  refine ⟨by omega, by omega, noPin1 (fun o => nofun), fun i acc δ => ∃ ks : List Nat, acc = dN ks ∧ ks.length = i ∧ (∀ k ∈ ks, k < (nearP B.ps).length) ∧ δ = stRo B (.im (nD y)) .un (.im (nD x)) .un .un, ⟨[], rfl, rfl, nofun, rfl⟩, ?_, ?_⟩
  · rintro i d acc δ hd ⟨ks, rfl, kl, kn, rfl⟩
    obtain ⟨rfl, hi⟩ := rgD_get hd
    refine ⟨_, atI_of (j := 0) rfl rfl, _, _, rfl, _, rfl, nd1 0, _, rfl, ?_, ?_, fun k hk => ?_⟩
    · show (0 : Int) < (((nearP B.ps).map PyData.int).length : Int)
      omega
    · show (((nearP B.ps).map PyData.int).length : Int) < 2 ^ 200
      rw [el]; exact Int.lt_of_le_of_lt (show ((nearP B.ps).length : Int) ≤ 5 by omega) (by decide)
    simp only [pk0]
    have hk : (k : Int) < (((nearP B.ps).map PyData.int).length : Int) := hk
    rw [el] at hk
    refine ⟨_, _, rfl, ?_, ks ++ [k], ?_, by simp [kl], fun z hz => ?_, rfl⟩
    · rw [dN_len]; omega
    · rw [dN_app]; rfl
    · rcases List.mem_append.mp hz with h1 | h1
      · exact kn z h1
      · rw [List.mem_singleton.mp h1]; omega
  · rintro acc δ ⟨ks, rfl, kl, kn, rfl⟩
    rw [rgD_len] at kl
    have kl : ks.length = y := by omega
    refine ⟨_, _, rfl, ?_⟩
    show pr_ring_row_2 _ (stRo B (.im (nD y)) (.ow false (.lst (dN ks))) (.im (nD x)) .un .un)
    refine ⟨_, _, rfl, _, rfl, nd1 0, _, rfl, by decide, by decide, fun g hg => ?_⟩
    simp only [pk0]
    refine ⟨trivial, _, rfl, ?_⟩
    show if decide ((0 : Int) < (g : Int)) = true then _ else _
    by_cases c : (0 : Int) < (g : Int)
    · rw [if_pos (decide_eq_true c)]
      have e3 : ((nearP B.ps).map PyData.int).length = (nearP B.ps).length := List.length_map _
      refine ⟨_, atI_of (j := 0) rfl rfl, _, _, rfl, _, rfl, nd1 0, ((nearP B.ps).map PyData.int).length, rfl, by omega, fun ns pm => ?_⟩
      simp only [pk0]
      rw [e3] at pm
      have nl : ns.length = (nearP B.ps).length := by rw [pm.length_eq, List.length_range]
      refine ⟨?_, _, rfl, _, _, rfl, ?_⟩
      · rw [dN_len, dN_len]; omega
      have ec : cutD (dN ns ++ dN ks) none (some (y : Int)) = dN ((ns ++ ks).take y) := by rw [cut_take, ← dN_app]; exact List.map_take.symm
      show pr_ring_row_1 _ (stRo B (.im (nD y)) (.ow false (.lst (cutD (dN ns ++ dN ks) none (some (y : Int))))) (.im (nD x)) .un .un)
      rw [ec]
      exact hp_row5 bk (by rw [List.length_take]; omega) (fun k hk => by
        rcases List.mem_append.mp (List.mem_of_mem_take hk) with h1 | h1
        · exact List.mem_range.mp (pm.mem_iff.mp h1)
        · exact kn k h1) q
    · rw [if_neg (by simpa using c)]
      exact hp_row5 bk (by omega) kn q
end Pv
namespace Pv
open PySem PySem.Spec L2 Wf
/-! Rounds: the passings of a round. -/
structure RgOk (m : Int) (ps : List Int) (ks : List Nat) (ss : List Int) (L : Nat) : Prop where
  pac : PacesOk m ps
  m5 : m ≤ 5
  kl : ∀ k ∈ ks, k < (nearP ps).length
  n5 : ks.length ≤ 5
  sp : SpR ks.length L ss
abbrev gpN (ps : List Int) (ks : List Nat) (i j : Nat) : Nat := (pf ps ks i - pf ps ks j).toNat
abbrev wyN (ss : List Int) (L : Nat) (i j : Nat) : Nat := ((sf ss j - sf ss i) % (L : Int)).toNat
def mtR (ps : List Int) (ks : List Nat) (ss : List Int) (L i j : Nat) (a : Nat) : Mt := (wyN ss L i j + a * L, gpN ps ks i j, i, j)
def msJ (ps : List Int) (ks : List Nat) (ss : List Int) (L i : Nat) (J : Nat) : List Mt := (List.range J).flatMap fun j => (List.range (gpN ps ks i j)).map (mtR ps ks ss L i j)
def msI (ps : List Int) (ks : List Nat) (ss : List Int) (L : Nat) (I : Nat) : List Mt := (List.range I).flatMap fun i => msJ ps ks ss L i ks.length
abbrev msR (ps : List Int) (ks : List Nat) (ss : List Int) (L : Nat) : List Mt := msI ps ks ss L ks.length
section
variable {m : Int} {ps ss : List Int} {ks : List Nat} {L : Nat}
theorem msJ_succ (i J : Nat) : msJ ps ks ss L i (J + 1) = msJ ps ks ss L i J ++ (List.range (gpN ps ks i J)).map (mtR ps ks ss L i J) := by unfold msJ; rw [List.range_succ, List.flatMap_append]; simp
theorem msI_succ (I : Nat) : msI ps ks ss L (I + 1) = msI ps ks ss L I ++ msJ ps ks ss L I ks.length := by unfold msI; rw [List.range_succ, List.flatMap_append]; simp
theorem RgOk.kp (h : RgOk m ps ks ss L) {i : Nat} (hi : i < ks.length) : ks.getD i 0 < ps.length ∧ 0 ≤ pf ps ks i - ps.getD 0 0 ∧ pf ps ks i - ps.getD 0 0 ≤ 12 := by
  have h1 := near_get h.pac (h.kl _ (getDm (d := 0) hi))
  refine ⟨h1.1, ?_, h1.2⟩
  rcases Nat.eq_zero_or_pos (ks.getD i 0) with z | z
  · show 0 ≤ ps.getD (ks.getD i 0) 0 - _
    rw [z]; omega
  · have := up_get h.pac.rise z h1.1
    show 0 ≤ ps.getD (ks.getD i 0) 0 - _
    omega
theorem RgOk.gap (h : RgOk m ps ks ss L) {i j : Nat} (hi : i < ks.length) (hj : j < ks.length) : gpN ps ks i j ≤ 12 := by
  have h1 := h.kp hi
  have h2 := h.kp hj
  show (pf ps ks i - pf ps ks j).toNat ≤ 12
  omega
theorem RgOk.gap0 (h : RgOk m ps ks ss L) {i j : Nat} (hi : i < ks.length) (hj : j < ks.length) (c : ¬ ks.getD j 0 < ks.getD i 0) : gpN ps ks i j = 0 := by
  have : pf ps ks i ≤ pf ps ks j := by
    rcases Nat.lt_or_eq_of_le (Nat.le_of_not_lt c) with z | z
    · exact Int.le_of_lt (up_get h.pac.rise z (h.kp hj).1)
    · show ps.getD (ks.getD i 0) 0 ≤ ps.getD (ks.getD j 0) 0
      rw [z]; exact Int.le_refl _
  show (pf ps ks i - pf ps ks j).toNat = 0
  omega
theorem RgOk.gap1 (h : RgOk m ps ks ss L) {i j : Nat} (hi : i < ks.length) (hj : j < ks.length) (c : ks.getD j 0 < ks.getD i 0) : pf ps ks i - pf ps ks j = (gpN ps ks i j : Int) ∧ 1 ≤ gpN ps ks i j := by
  have : pf ps ks j < pf ps ks i := up_get h.pac.rise c (h.kp hi).1
  show pf ps ks i - pf ps ks j = (((pf ps ks i - pf ps ks j).toNat : Nat) : Int) ∧ 1 ≤ (pf ps ks i - pf ps ks j).toNat
  omega
theorem RgOk.way (h : RgOk m ps ks ss L) (i j : Nat) : (sf ss j - sf ss i) % (L : Int) = (wyN ss L i j : Int) ∧ wyN ss L i j < L := by
  have l1 := h.sp.l1
  have a := Int.emod_nonneg (sf ss j - sf ss i) (show (L : Int) ≠ 0 by omega)
  have b := Int.emod_lt_of_pos (sf ss j - sf ss i) (show (0 : Int) < (L : Int) by omega)
  show (sf ss j - sf ss i) % (L : Int) = ((((sf ss j - sf ss i) % (L : Int)).toNat : Nat) : Int) ∧ ((sf ss j - sf ss i) % (L : Int)).toNat < L
  generalize (sf ss j - sf ss i) % (L : Int) = z at *
  omega
theorem msJ_len (h : RgOk m ps ks ss L) {i : Nat} (hi : i < ks.length) : ∀ J, J ≤ ks.length → (msJ ps ks ss L i J).length ≤ 12 * J
  | 0, _ => Nat.le_refl _
  | J + 1, hJ => by
    rw [msJ_succ, List.length_append, List.length_map, List.length_range]
    have := msJ_len h hi J (by omega)
    have := h.gap hi (show J < ks.length by omega)
    omega
theorem msI_len (h : RgOk m ps ks ss L) : ∀ I, I ≤ ks.length → (msI ps ks ss L I).length ≤ 60 * I
  | 0, _ => Nat.le_refl _
  | I + 1, hI => by
    rw [msI_succ, List.length_append]
    have := msI_len h I (by omega)
    have := msJ_len h (show I < ks.length by omega) ks.length (Nat.le_refl _)
    have := h.n5
    omega
theorem mem_msR {a : Mt} (h : a ∈ msR ps ks ss L) : ∃ i j x, i < ks.length ∧ j < ks.length ∧ x < gpN ps ks i j ∧ a = mtR ps ks ss L i j x := by
  unfold msR msI msJ at h
  simp only [List.mem_flatMap, List.mem_map, List.mem_range] at h
  obtain ⟨i, hi, j, hj, x, hx, rfl⟩ := h
  exact ⟨i, j, x, hi, hj, hx, rfl⟩
theorem RgOk.mt (h : RgOk m ps ks ss L) {a : Mt} (ha : a ∈ msR ps ks ss L) : MtOk ks a := by
  obtain ⟨i, j, x, hi, hj, hx, rfl⟩ := mem_msR ha
  have g := h.gap hi hj
  have w := (h.way i j).2
  have l2 := h.sp.l2
  have : x * L ≤ 12 * L := Nat.mul_le_mul_right _ (by omega)
  exact ⟨show wyN ss L i j + x * L < 2 ^ 63 by omega, show 1 ≤ gpN ps ks i j by omega, show gpN ps ks i j ≤ 2000 by omega, hi, hj⟩
theorem one_of {α : Type} {R : α → α → Prop} : ∀ {l m : List α}, (∀ a ∈ l, ∀ b ∈ l, R a b → R b a → a = b) → l.Perm m → l.Pairwise R → m.Pairwise R → l = m
  | [], m, _, h, _, _ => h.nil_eq
  | a :: l, [], _, h, _, _ => absurd h.length_eq (by simp)
  | a :: l, b :: m, as, h, h1, h2 => by
    have p1 := List.pairwise_cons.mp h1
    have p2 := List.pairwise_cons.mp h2
    have e : a = b := by
      have ha : a ∈ b :: m := h.mem_iff.mp List.mem_cons_self
      have hb : b ∈ a :: l := h.mem_iff.mpr List.mem_cons_self
      rcases List.mem_cons.mp ha with e | ha
      · exact e
      rcases List.mem_cons.mp hb with e | hb
      · exact e.symm
      exact as a List.mem_cons_self b (List.mem_cons_of_mem _ hb) (p1.1 b hb) (p2.1 a ha)
    subst e
    rw [one_of (fun x hx y hy => as x (List.mem_cons_of_mem _ hx) y (List.mem_cons_of_mem _ hy)) h.cons_inv p1.2 p2.2]
/-- the passings of a round have one order -/
theorem round_one (h : RgOk m ps ks ss L) {o1 o2 : List Mt} (p1 : o1.Perm (msR ps ks ss L)) (p2 : o2.Perm (msR ps ks ss L)) (s1 : o1.Pairwise fun a b => ¬ soonM ks b a) (s2 : o2.Pairwise fun a b => ¬ soonM ks b a) : o1 = o2 := by
  refine one_of (fun a ha b hb h1 h2 => ?_) (p1.trans p2.symm) s1 s2
  obtain ⟨i, j, x, hi, hj, hx, rfl⟩ := mem_msR (p1.mem_iff.mp ha)
  obtain ⟨i', j', x', hi', hj', hx', rfl⟩ := mem_msR (p1.mem_iff.mp hb)
  unfold soonM soonK mtR at h1 h2
  dsimp only at h1 h2
  have cr : (wyN ss L i j + x * L) * gpN ps ks i' j' = (wyN ss L i' j' + x' * L) * gpN ps ks i j := by omega
  have ei : i = i' := by omega
  have ej : j = j' := by omega
  subst ei
  subst ej
  have := Nat.eq_of_mul_eq_mul_right (show 0 < gpN ps ks i j by omega) cr
  unfold mtR
  rw [this]
end
/-! ### round_passings -/
-- DEF round_passings N ['book', 'kinds', 'spots', 'long', 'paces', 'meetings', 'i', 'u', 'j', 'v', 'gap', 'way', 'm'] calls ['in_told_order'] takes []
def pe_round_passings_1 : PX :=
    pTup (pCons (pAdd (pVar 11) (pMul (pVar 12) (pVar 3))) (pCons (pVar 10) (pCons (pVar 6) (pCons (pVar 8) (pNil)))))
def pr_round_passings_1 : PSx :=
    pAug 5 (pComp (iRg (pCons (pVar 10) (pNil))) (gN 12) (pYes) (pe_round_passings_1) [12])
def pr_round_passings_2 : PSx :=
    pSeq (pSet 11 (pMod (pSub (pIx (pVar 2) (pVar 8)) (pIx (pVar 2) (pVar 6))) (pVar 3)))
    (pr_round_passings_1)
def pb_round_passings_4 : PSx :=
    pIf (pT (pGt (pVar 7) (pVar 9))) (pSeq (pSet 10 (pSub (pIx (pVar 4) (pVar 7)) (pIx (pVar 4) (pVar 9))))
    (pr_round_passings_2)) (pNext)
def pb_round_passings_5 : PSx :=
    pFor [8, 9, 10, 11] (iEn (pCons (pVar 1) (pNil))) (gT 2 (gsC (gN 8) (gsC (gN 9) (gsN)))) (pb_round_passings_4)
def pr_round_passings_3 : PSx :=
    pRet (pCall psp_told_order (pCons (pFz (pVar 1)) (pCons (pFz (pVar 5)) (pNil))) noX)
def pr_round_passings_4 : PSx :=
    pSeq (pFor [6, 7, 8, 9, 10, 11] (iEn (pCons (pVar 1) (pNil))) (gT 2 (gsC (gN 6) (gsC (gN 7) (gsN)))) (pb_round_passings_5))
    (pr_round_passings_3)
def pr_round_passings_5 : PSx :=
    pSeq (pSet 5 (pLst (pNil)))
    (pr_round_passings_4)
def p_round_passings : PSx :=
    pSeq (pSet 4 (pIx (pVar 0) (pK (.int 0))))
    (pr_round_passings_5)
abbrev stRp (ps : List Int) (rest : List PyData) (ks : List Nat) (ss : List Int) (L : Nat) (ms : List Mt) (s6 s7 s8 s9 s10 s11 : Sl) : List Sl := [.im (.tuple (dI ps :: rest)), .im (.tuple (dN ks)), .im (dK ss), .im (nD L), .im (dI ps), .ow false (.lst (ms.map mtD)), s6, s7, s8, s9, s10, s11, .un]
def psp_round_passings : PSp := fun as Q _ => ∃ (m : Int) (ps : List Int) (rest : List PyData) (ks : List Nat) (ss : List Int) (L : Nat), as = [.im (.tuple (dI ps :: rest)), .im (.tuple (dN ks)), .im (dK ss), .im (nD L)] ∧ RgOk m ps ks ss L ∧
  ∀ out : List Mt, out.Perm (msR ps ks ss L) → out.Pairwise (fun a b => ¬ soonM ks b a) → Q (.im (.tuple (out.map toldD))) [.un, .un, .un, .un]
theorem hp_rpair {E : PEn} {m : Int} {ps : List Int} {rest : List PyData} {ks : List Nat} {ss : List Int} {L : Nat} {ms : List Mt} {i j : Nat} (ok : RgOk m ps ks ss L) (hi : i < ks.length) (hj : j < ks.length) (ml : ms.length ≤ 1000)
    (q : ∀ s10 s11 : Sl, (s10 = .un ∨ ∃ d, s10 = .im d) → (s11 = .un ∨ ∃ d, s11 = .im d) → E.nx (stRp ps rest ks ss L (ms ++ (List.range (gpN ps ks i j)).map (mtR ps ks ss L i j)) (.im (nD i)) (.im (nD (ks.getD i 0))) (.im (nD j)) (.im (nD (ks.getD j 0))) s10 s11)) :
    pb_round_passings_4 E (stRp ps rest ks ss L ms (.im (nD i)) (.im (nD (ks.getD i 0))) (.im (nD j)) (.im (nD (ks.getD j 0))) .un .un) := by
  have z24 : (10000 : Nat) < sizeLine := by decide
  have pg : ∀ t, t < ks.length → (ps.map PyData.int)[ks.getD t 0]? = some (.int (pf ps ks t)) := fun t ht => by
    rw [List.getElem?_map, getI_of (ok.kp ht).1]; rfl
  have sg : ∀ t, t < ks.length → (ss.map PyData.int)[t]? = some (.int (sf ss t)) := fun t ht => by
    rw [List.getElem?_map, getI_of (by rw [ok.sp.len]; exact ht)]; rfl
  refine ⟨trivial, _, rfl, ?_⟩
  show if decide (((ks.getD j 0 : Nat) : Int) < ((ks.getD i 0 : Nat) : Int)) = true then _ else _
  by_cases c : ks.getD j 0 < ks.getD i 0
  · rw [if_pos (decide_eq_true (by omega))]
    obtain ⟨g1, g2⟩ := ok.gap1 hi hj c
    obtain ⟨w1, w2⟩ := ok.way i j
    have g3 := ok.gap hi hj
    have l1 := ok.sp.l1
    have l2 := ok.sp.l2
    refine ⟨_, atI_of rfl (pg i hi), _, atI_of rfl (pg j hj), trivial, _, _, rfl, ?_⟩
    show pr_round_passings_2 E (stRp ps rest ks ss L ms (.im (nD i)) (.im (nD (ks.getD i 0))) (.im (nD j)) (.im (nD (ks.getD j 0))) (.im (.int (pf ps ks i - pf ps ks j))) .un)
    rw [g1]
    refine ⟨_, atI_of rfl (sg j hj), _, atI_of rfl (sg i hi), trivial, (show (0 : Int) < (L : Int) by omega), _, _, rfl, ?_⟩
    show pr_round_passings_1 E (stRp ps rest ks ss L ms (.im (nD i)) (.im (nD (ks.getD i 0))) (.im (nD j)) (.im (nD (ks.getD j 0))) (.im (nD (gpN ps ks i j))) (.im (.int ((sf ss j - sf ss i) % (L : Int)))))
    rw [w1]
    refine ⟨_, _, rfl, by omega, by omega, noPin1 (fun o => nofun), fun x acc δ => acc = ((List.range x).map (mtR ps ks ss L i j)).map mtD ∧ δ = stRp ps rest ks ss L ms (.im (nD i)) (.im (nD (ks.getD i 0))) (.im (nD j)) (.im (nD (ks.getD j 0))) (.im (nD (gpN ps ks i j))) (.im (nD (wyN ss L i j))), ⟨rfl, rfl⟩, ?_, ?_⟩
    · rintro x d acc δ hd ⟨rfl, rfl⟩
      obtain ⟨rfl, hx⟩ := rgD_get hd
      have e0 : (0 : Int) + (x : Int) = (x : Int) := by omega
      refine ⟨.inl (.inl ⟨by omega, by omega⟩), _, _, rfl, ?_, ?_, rfl⟩
      · rw [List.length_map, List.length_map, List.length_range]; omega
      · rw [List.range_succ, List.map_append, List.map_append]
        show _ ++ [PyData.tuple [.int ((wyN ss L i j : Int) + (0 + (x : Int)) * (L : Int)), _, _, _]] = _ ++ [PyData.tuple [.int ((wyN ss L i j + x * L : Nat) : Int), _, _, _]]
        rw [e0, Int.natCast_add, Int.natCast_mul]
        rfl
    · rintro acc δ ⟨rfl, rfl⟩
      rw [rgD_len, show ((gpN ps ks i j : Int) - 0).toNat = gpN ps ks i j by omega]
      refine ⟨_, _, _, _, _, rfl, rfl, rfl, ?_, ?_⟩
      · rw [List.length_map, List.length_map, List.length_map, List.length_range]; omega
      · have q := q (.im (nD (gpN ps ks i j))) (.im (nD (wyN ss L i j))) (.inr ⟨_, rfl⟩) (.inr ⟨_, rfl⟩)
        unfold stRp at q
        rw [List.map_append] at q
        exact q
  · rw [if_neg (fun z => c (by have := of_decide_eq_true z; omega))]
    have q := q .un .un (.inl rfl) (.inl rfl)
    rw [ok.gap0 hi hj c, List.range_zero, List.map_nil, List.append_nil] at q
    exact q
theorem hp_round_passings (as : List Sl) (Qp : QE) (Ep : EX) (h : psp_round_passings as Qp Ep) : p_round_passings (endsP as Qp) (as ++ List.replicate 9 .un) := by
  obtain ⟨m, ps, rest, ks, ss, L, rfl, ok, q⟩ := h
  have n5 := ok.n5
  refine ⟨_, atI_of (j := 0) rfl rfl, _, _, rfl, ?_⟩
  refine ⟨_, _, rfl, ?_⟩
  show pr_round_passings_4 _ (stRp ps rest ks ss L [] .un .un .un .un .un .un)
  refine ⟨_, _, _, rfl, rfl, fun i δ => δ = stRp ps rest ks ss L (msI ps ks ss L i) .un .un .un .un .un .un, rfl, ?_, ?_⟩
  · rintro i d δ hd rfl
    rw [enD_get] at hd
    obtain ⟨d0, h0, rfl⟩ := Option.map_eq_some_iff.mp hd
    have h0 : (ks.map nD)[i]? = some d0 := h0
    rw [List.getElem?_map] at h0
    obtain ⟨k, hk, rfl⟩ := Option.map_eq_some_iff.mp h0
    have hi := (List.getElem?_eq_some_iff.mp hk).1
    have ek : k = ks.getD i 0 := by rw [List.getD_eq_getElem?_getD, hk]; rfl
    have e0 : (.int ((0 + i : Nat) : Int) : PyData) = nD i := by rw [Nat.zero_add]
    refine ⟨rfl, rfl, ?_⟩
    show pb_round_passings_5 _ (stRp ps rest ks ss L (msI ps ks ss L i) (.im (.int ((0 + i : Nat) : Int))) (.im (nD k)) .un .un .un .un)
    rw [e0, ek]
    refine ⟨_, _, _, rfl, rfl, fun j δ => δ = stRp ps rest ks ss L (msI ps ks ss L i ++ msJ ps ks ss L i j) (.im (nD i)) (.im (nD (ks.getD i 0))) .un .un .un .un, ?_, ?_, ?_⟩
    · show stRp _ _ _ _ _ _ _ _ _ _ _ _ = stRp _ _ _ _ _ (msI ps ks ss L i ++ []) _ _ _ _ _ _
      rw [List.append_nil]
      rfl
    · rintro j d δ hd rfl
      rw [enD_get] at hd
      obtain ⟨d0, h0, rfl⟩ := Option.map_eq_some_iff.mp hd
      have h0 : (ks.map nD)[j]? = some d0 := h0
      rw [List.getElem?_map] at h0
      obtain ⟨v, hv, rfl⟩ := Option.map_eq_some_iff.mp h0
      have hj := (List.getElem?_eq_some_iff.mp hv).1
      have ev : v = ks.getD j 0 := by rw [List.getD_eq_getElem?_getD, hv]; rfl
      have e1 : (.int ((0 + j : Nat) : Int) : PyData) = nD j := by rw [Nat.zero_add]
      have a1 := msI_len ok i (by omega)
      have a2 := msJ_len ok hi j (by omega)
      refine ⟨rfl, rfl, ?_⟩
      show pb_round_passings_4 _ (stRp ps rest ks ss L (msI ps ks ss L i ++ msJ ps ks ss L i j) (.im (nD i)) (.im (nD (ks.getD i 0))) (.im (.int ((0 + j : Nat) : Int))) (.im (nD v)) .un .un)
      rw [e1, ev]
      refine hp_rpair ok hi hj (by rw [List.length_append]; omega) fun s10 s11 h10 h11 => ?_
      show _ = stRp ps rest ks ss L (msI ps ks ss L i ++ msJ ps ks ss L i (j + 1)) (.im (nD i)) (.im (nD (ks.getD i 0))) .un .un .un .un
      rw [msJ_succ, ← List.append_assoc]
      rcases h10 with rfl | ⟨d1, rfl⟩ <;> rcases h11 with rfl | ⟨d2, rfl⟩ <;> rfl
    · rintro δ rfl
      have el : (enD 0 (dN ks)).length = ks.length := by rw [enD_len]; exact List.length_map _
      rw [el, ← msI_succ]
      rfl
  · rintro δ rfl
    have el : (enD 0 (dN ks)).length = ks.length := by rw [enD_len]; exact List.length_map _
    rw [el]
    have al : (msR ps ks ss L).length ≤ 60 * ks.length := msI_len ok ks.length (Nat.le_refl _)
    refine ⟨_, _, rfl, _, _, rfl, _, rfl, List.nodup_nil, ks, msR ps ks ss L, List.range' 1 12, rfl, fun a ha => ok.mt ha, by omega, by decide, ?_, fun a ha => ?_, fun out po so => ?_⟩
    · intro g hg
      have := List.mem_range'_1.mp hg
      omega
    · obtain ⟨i, j, x, hi, hj, hx, rfl⟩ := mem_msR ha
      have := ok.gap hi hj
      exact List.mem_range'_1.mpr ⟨show 1 ≤ gpN ps ks i j by omega, show gpN ps ks i j < 1 + 12 by omega⟩
    · exact ⟨_, _, rfl, q out po so⟩
end Pv
namespace Pv
open PySem PySem.Spec L2 Wf
/-! ### _law_round -/
-- DEF _law_round N ['_law_book_here', '_law_kinds', '_law_spots', '_law_size', '_law_gain', '_law_i', '_law_whole', '_law_found', '_law_j', '_law_m', '_law_one', '_law_upper'] calls [] takes []
abbrev W12 : Nat := 479001600
theorem w12_dvd {g : Nat} (h1 : 1 ≤ g) (h2 : g ≤ 12) : g ∣ W12 := by
  have : g = 1 ∨ g = 2 ∨ g = 3 ∨ g = 4 ∨ g = 5 ∨ g = 6 ∨ g = 7 ∨ g = 8 ∨ g = 9 ∨ g = 10 ∨ g = 11 ∨ g = 12 := by omega
  rcases this with rfl | rfl | rfl | rfl | rfl | rfl | rfl | rfl | rfl | rfl | rfl | rfl <;> exact Nat.dvd_of_mod_eq_zero rfl
/-! ### law 51 -/
-- DEF law N ['_law_script', '_law_turn', '_law_deal_here', '_law_some', '_law_tome', '_law_three', '_law_size', '_law_spots', '_law_due', '_law_i', '_law_j', '_law_upper', '_law_gain', '_law_kind', '_law_burden'] calls ['_law_deal', '_law_ring_book', '_law_draw', '_law_ring_row', '_law_ring', '_law_round', '_law_lowest', '_law_alike', 'round_passings'] takes []
end Pv
/-! dicts whose keys are tuples of numbers or rows, whatever the keys' objects are: asked, written, listed -/
namespace Wf
open PySem PySem.Spec L2 PyProof.Rows
/-- v is an object that is this key -/
def KeyV (K : PySem.W.Frag) (H : Hp) : (r : Bool) → KyT r → V → Prop
  | false, l, v => ∃ b, v = .ref b ∧ SqT K H b (l.map V.int)
  | true, ks, v => ∃ b cs, v = .ref b ∧ SqT K H b (cs.map V.ref) ∧ Paired (fun (l : List Int) c => SqT K H c (l.map V.int)) ks cs
structure DctF (K : PySem.W.Frag) (H : Hp) (a : Addr) (r : Bool) (ks : List (KyT r)) (bs : List Addr) (us : List V) : Prop where
  ob : H a = some (DctO a r ks bs us)
  sm : (a == sysModules) = false
  z : ks.length ≤ sizeLine
  nd : ks.Nodup
  l1 : us.length = ks.length
  l2 : bs.length = ks.length
  kv : ∀ (i : Nat) (k : KyT r) (b : Addr), ks[i]? = some k → bs[i]? = some b → KeyV K H r k (.ref b)
section
variable {X : Cx} {pins : List (Addr × Obj)} {σ : L2.St} {H : Hp} {s : Shared}
theorem itemsI {P : Program} {w : World} : ∀ {l : List Int} {us : List Value}, Vals (l.map V.int) us → ItemsAre (intKind P w) l us
  | [], _, h => by cases h; exact .nil
  | i :: l, _, h => by
    cases h with
    | cons h1 h2 =>
      obtain ⟨t, rfl⟩ := (show ∃ t, _ = Value.int i t from h1)
      exact .cons (by simp [intKind, Value.isInt]) (itemsI h2)
theorem numKey (I : Inv X pins σ H s) {b : Addr} {l : List Int} (h : SqT X.K H b (l.map V.int)) : IsTupleKey (intKind X.prog X.w) s.heap l b := by
  obtain ⟨us, rv, ⟨o, e, c, n, d⟩, _⟩ := I.tuple h
  exact ⟨o, _, n, e, c, d, by simpa using itemsI rv⟩
theorem itR (I : Inv X pins σ H s) : ∀ {ks : List (List Int)} {cs : List Addr} {us : List Value}, Paired (fun (l : List Int) c => SqT X.K H c (l.map V.int)) ks cs → Vals (cs.map V.ref) us → ItR X.prog X.w s.heap ks us
  | _, _, _, .nil, h => by cases h; exact .nil
  | _, _, _, .cons h t, hv => by
    cases hv with
    | cons h1 h2 =>
      cases h1
      exact .cons (numKey I h) (itR I t h2)
theorem keyV_is (I : Inv X pins σ H s) : ∀ {r : Bool} {k : KyT r} {b : Addr}, KeyV X.K H r k (.ref b) → (kyKind X.prog X.w r).is s.heap k b
  | false, l, b, ⟨c, e, h⟩ => by cases e; exact numKey I h
  | true, ks, b, ⟨c, cs, e, h, p⟩ => by
    cases e
    obtain ⟨us, rv, ⟨o, e, cl, n, d⟩, _⟩ := I.tuple h
    exact ⟨o, _, n, e, cl, d, by simpa using itR I p rv⟩
theorem KeyV.ref : ∀ {K : PySem.W.Frag} {r : Bool} {k : KyT r} {v : V}, KeyV K H r k v → ∃ b, v = .ref b
  | _, false, _, _, ⟨b, e, _⟩ => ⟨b, e⟩
  | _, true, _, _, ⟨b, _, e, _⟩ => ⟨b, e⟩
/-- entries -/
abbrev ents {r : Bool} (ks : List (KyT r)) (bs : List Addr) (ws : List Value) : List (KyT r × Addr × Value) := ks.zip (bs.zip ws)
theorem ents_get {r : Bool} : ∀ {ks : List (KyT r)} {bs : List Addr} {ws : List Value} {i : Nat} {k : KyT r} {b : Addr} {v : Value}, ks[i]? = some k → bs[i]? = some b → ws[i]? = some v → (ents ks bs ws)[i]? = some (k, b, v) := by
  intro ks bs ws i k b v h1 h2 h3
  unfold ents
  rw [List.getElem?_zip_eq_some]
  exact ⟨h1, by rw [List.getElem?_zip_eq_some]; exact ⟨h2, h3⟩⟩
theorem ents_keys {r : Bool} : ∀ {ks : List (KyT r)} {bs : List Addr} {ws : List Value}, bs.length = ks.length → ws.length = ks.length → (ents ks bs ws).map (·.1) = ks
  | [], _, _, _, _ => by simp [ents]
  | k :: ks, [], _, h, _ => by simp at h
  | k :: ks, b :: bs, [], _, h => by simp at h
  | k :: ks, b :: bs, v :: ws, h1, h2 => by
    show k :: (ents ks bs ws).map (·.1) = k :: ks
    rw [ents_keys (by simpa using h1) (by simpa using h2)]
theorem dct_of (I : Inv X pins σ H s) {a : Addr} {r : Bool} {ks : List (KyT r)} {bs : List Addr} {us : List V} (D : DctF X.K H a r ks bs us) :
    ∃ ws, Vals us ws ∧ ws.length = ks.length ∧ s.heap.DictOfH (kyKind X.prog X.w r) a (ents ks bs ws) := by
  obtain ⟨⟨ws, rv, o, es, ep, h1, h2, h3, h4⟩, _⟩ := (show ObjOk X.prog X.w H s.heap a (DctO a r ks bs us) from I.hok a _ D.ob)
  have lw : ws.length = ks.length := by rw [← rv.length, D.l1]
  refine ⟨ws, rv, lw, o, es, ep, h1, h2, h3, by rw [h4, entD_eq], fun x hx => ?_, by rw [ents_keys D.l2 lw]; exact D.nd⟩
  obtain ⟨i, hi⟩ := List.getElem?_of_mem hx
  obtain ⟨k, b, v⟩ := x
  unfold ents at hi
  rw [List.getElem?_zip_eq_some] at hi
  obtain ⟨e1, e2⟩ := hi
  rw [List.getElem?_zip_eq_some] at e2
  exact keyV_is I (D.kv i k b e1 e2.1)
theorem dct_ok {h' : Heap} {H' : Hp} {a : Addr} {r : Bool} {ks : List (KyT r)} {bs : List Addr} {us : List V} {ws : List Value} {P : Program} {w : World} (rv : Vals us ws) (d : h'.DictOfH (kyKind P w r) a (ents ks bs ws)) : ObjOk P w H' h' a (DctO a r ks bs us) := by
  obtain ⟨o, es, ep, h1, h2, h3, h4, _⟩ := d
  refine ⟨⟨ws, rv, o, es, ep, h1, h2, h3, by rw [h4, entD_eq]⟩, ⟨o, h1⟩, ?_⟩
  rintro h1 h2 ⟨ws, rv, o, es, ep, e, q⟩ st
  exact ⟨ws, rv, o, es, ep, st _ e, q⟩
theorem at_some (I : Inv X pins σ H s) {a : Addr} {r : Bool} {ks : List (KyT r)} {bs : List Addr} {us : List V} (D : DctF X.K H a r ks bs us) {ws : List Value} (lw : ws.length = ks.length) {i : Nat} {k : KyT r} {v : Value} (hk : ks[i]? = some k) (hv : ws[i]? = some v) :
    ∃ b, bs[i]? = some b ∧ atKey (ents ks bs ws) k = some (b, v) := by
  have il : i < ks.length := (List.getElem?_eq_some_iff.mp hk).1
  have hb : bs[i]? = some (bs[i]'(by rw [D.l2]; exact il)) := List.getElem?_eq_getElem _
  exact ⟨_, hb, atKey_of_get (by rw [ents_keys D.l2 lw]; exact D.nd) (ents_get hk hb hv)⟩
theorem at_none {r : Bool} {ks : List (KyT r)} {bs : List Addr} {ws : List Value} {k : KyT r} (h : k ∉ ks) : atKey (ents ks bs ws) k = none := by
  refine atKey_none_of_get fun j p e => h ?_
  unfold ents at e
  rw [List.getElem?_zip_eq_some] at e
  exact List.mem_of_getElem? e.1
theorem at_isSome (I : Inv X pins σ H s) {a : Addr} {r : Bool} {ks : List (KyT r)} {bs : List Addr} {us : List V} (D : DctF X.K H a r ks bs us) {ws : List Value} (lw : ws.length = ks.length) (k : KyT r) : (atKey (ents ks bs ws) k).isSome = decide (k ∈ ks) := by
  by_cases h : k ∈ ks
  · obtain ⟨i, hi⟩ := List.getElem?_of_mem h
    have il : i < ks.length := (List.getElem?_eq_some_iff.mp hi).1
    have hv : ws[i]? = some (ws[i]'(by rw [lw]; exact il)) := List.getElem?_eq_getElem _
    obtain ⟨b, _, e⟩ := at_some I D lw hi hv
    rw [e, decide_eq_true h]; rfl
  · rw [at_none h, decide_eq_false h]; rfl
variable {A : Around} {E : Value → Shared → Prop}
/-- d[k] -/
def rCGet (K : PySem.W.Frag) : R2 := fun x y H Q => ∃ (a : Addr) (r : Bool) (ks : List (KyT r)) (bs : List Addr) (us : List V) (i : Nat) (k : KyT r) (v : V), x = .ref a ∧ DctF K H a r ks bs us ∧ KeyV K H r k y ∧ ks[i]? = some k ∧ us[i]? = some v ∧ Q v H
theorem c_get {a : Addr} {r : Bool} {ks : List (KyT r)} {bs : List Addr} {us : List V} {i : Nat} {k : KyT r} {y v : V} {u : Value} {Q : Value → Shared → Prop} (hu : A.units + 3 < cLine) (I : Inv X pins σ H s) (D : DctF X.K H a r ks bs us) (hy : KeyV X.K H r k y) (hk : ks[i]? = some k) (hv : us[i]? = some v) (ry : RelV y u)
    (h : ∀ w' s', Inv X pins σ H s' → RelV v w' → Q w' s') : wpAny (model X.prog X.w) A (getItem (.ref a) u) Q E s := by
  obtain ⟨b, rfl⟩ := hy.ref
  cases (show u = Value.ref b from ry)
  obtain ⟨ws, rv, lw, dd⟩ := dct_of I D
  obtain ⟨w', hw, rw'⟩ := rv.get hv
  obtain ⟨c, _, e⟩ := at_some I D lw hk hw
  exact wpAny_getItem_heap (ky_room (by show A.units + 1 + 2 < cLine; omega)) (keyV_is I hy) dd e (h w' _ (I.tok _) rw')
theorem pe_cget {o i : Expr} {pos : Pos} {td ty : TE} (hu : X.A.units + 3 < cLine) (ho : PE X o td) (hi : PE X i ty) (hs : NoSl i) : PE X (.Subscript o i pos) (fun σ H Q => td σ H fun x H1 => ty σ H1 fun y H2 => rCGet X.K x y H2 Q) := by
  refine ⟨fun pins s σ H Q I h => ?_⟩
  refine subD_of PySem.F.slot_dict_getitem.lookup hs (thn (ho.run pins s σ H _ I h) fun u s1 ⟨x, H1, I1, rx, q1⟩ => thn (hi.run pins s1 σ H1 _ I1 q1) fun iv s2 ⟨y, H2, I2, ry, a, r, ks, bs, us, j, k, v, ex, D, hy, hk, hv, q2⟩ => ?_)
  subst ex
  obtain rfl : u = Value.ref a := rx
  obtain ⟨ws, rv, lw, dd⟩ := dct_of I2 D
  exact ⟨dd.typeIs, c_get hu I2 D hy hk hv ry fun w' s3 I3 rw' => ⟨v, H2, I3, rw', q2⟩⟩
/-- k in d, k not in d -/
def rCIn (neg : Bool) (K : PySem.W.Frag) : R2 := fun x y H Q => ∃ (a : Addr) (r : Bool) (ks : List (KyT r)) (bs : List Addr) (us : List V) (k : KyT r), y = .ref a ∧ DctF K H a r ks bs us ∧ KeyV K H r k x ∧ Q (.bl (decide (k ∈ ks) != neg)) H
theorem op_cNotIn (hu : X.A.units + 3 < cLine) : OpR X (compareOp .NotIn) (rCIn true X.K) := by
  intro pins s σ H x y v u Q I rx ry h
  obtain ⟨a, r, ks, bs, us, k, rfl, D, hy, q⟩ := h
  obtain rfl : u = Value.ref a := ry
  obtain ⟨b, rfl⟩ := hy.ref
  cases (show v = Value.ref b from rx)
  obtain ⟨ws, rv, lw, dd⟩ := dct_of I D
  refine wpAny_notIn_heap (ky_room (by show X.A.units + 1 + 2 < cLine; omega)) (keyV_is I hy) D.sm dd ?_
  rw [at_isSome I D lw]
  exact ⟨_, H, I.tok _, by show Value.bool _ = Value.bool _; simp, q⟩
/-- d[k] = v -/
def CPut (K : PySem.W.Frag) (H : Hp) (a : Addr) (y v : V) (H' : Hp) : Prop := ∃ (r : Bool) (ks : List (KyT r)) (bs : List Addr) (us : List V) (k : KyT r), DctF K H a r ks bs us ∧ KeyV K H r k y ∧ ks.length < sizeLine ∧
  ((k ∉ ks ∧ ∃ b, y = .ref b ∧ H' = upd H a (DctO a r (ks ++ [k]) (bs ++ [b]) (us ++ [v]))) ∨ ∃ i : Nat, ks[i]? = some k ∧ H' = upd H a (DctO a r ks bs (us.set i v)))
theorem vals_set : ∀ {us : List V} {ws : List Value} {i : Nat} {v : V} {r : Value}, Vals us ws → RelV v r → Vals (us.set i v) (ws.set i r)
  | _, _, _, _, _, .nil, _ => .nil
  | _, _, 0, _, _, .cons _ t, h => .cons h t
  | _, _, i + 1, _, _, .cons h0 t, h => .cons h0 (vals_set t h)
theorem ents_put {r : Bool} : ∀ {ks : List (KyT r)} {bs : List Addr} {ws : List Value} {i : Nat} {k : KyT r} {v : Value}, ks.Nodup → ks[i]? = some k → (ents ks bs ws).map (putAt k v) = ents ks bs (ws.set i v)
  | [], _, _, _, _, _, _, h => by simp at h
  | k0 :: ks, [], _, i, k, v, _, _ => by simp [ents]
  | k0 :: ks, b :: bs, [], i, k, v, _, _ => by simp [ents]
  | k0 :: ks, b :: bs, w :: ws, 0, k, v, nd, h => by
    simp only [List.getElem?_cons_zero, Option.some.injEq] at h
    subst h
    show putAt k0 v (k0, b, w) :: (ents ks bs ws).map (putAt k0 v) = (k0, b, v) :: ents ks bs ws
    rw [map_putAt_of_not_mem]
    · simp [putAt]
    · intro hm
      obtain ⟨x, hx, e⟩ := List.mem_map.mp hm
      have := (List.of_mem_zip (show (x.1, x.2) ∈ ents ks bs ws from hx)).1
      rw [e] at this
      exact (List.nodup_cons.mp nd).1 this
  | k0 :: ks, b :: bs, w :: ws, i + 1, k, v, nd, h => by
    have h : ks[i]? = some k := by simpa using h
    have ne : ¬ k0 = k := fun e => (List.nodup_cons.mp nd).1 (by rw [e]; exact List.mem_of_getElem? h)
    show putAt k v (k0, b, w) :: (ents ks bs ws).map (putAt k v) = (k0, b, w) :: ents ks bs (ws.set i v)
    rw [ents_put (List.nodup_cons.mp nd).2 h]
    simp [putAt, ne]
theorem c_set {a : Addr} {y v : V} {u rr : Value} {H' : Hp} {Q : Unit → Shared → Prop} (hu : A.units + 3 < cLine) (I : Inv X pins σ H s) (g : CPut X.K H a y v H') (ry : RelV y u) (rv0 : RelV v rr) (h : ∀ s', Inv X pins σ H' s' → Q () s') :
    wpAny (model X.prog X.w) A (setItem (.ref a) u rr) Q E s := by
  obtain ⟨r, ks, bs, us, k, D, hy, hz, hH⟩ := g
  obtain ⟨b, rfl⟩ := hy.ref
  cases (show u = Value.ref b from ry)
  obtain ⟨ws, rv, lw, dd⟩ := dct_of I D
  have lx : (ents ks bs ws).length ≤ sizeLine := by
    have : ((ents ks bs ws).map (·.1)).length = ks.length := by rw [ents_keys D.l2 lw]
    rw [List.length_map] at this
    omega
  refine wpAny_setItem_heap (hsz := lx) (ky_room (by show A.units + 1 + 2 < cLine; omega)) (keyV_is I hy) dd fun h' dd' hs => ?_
  have mu : Mut (H a) := by rw [D.ob]; trivial
  have he : ∃ q, h'.get? a = some q := by obtain ⟨o, _, _, e, _⟩ := dd'; exact ⟨o, e⟩
  rcases hH with ⟨hn, b', eb, rfl⟩ | ⟨i, hi, rfl⟩
  · cases eb
    rw [storedH_new (at_none hn)] at dd'
    have e : ents ks bs ws ++ [(k, b, rr)] = ents (ks ++ [k]) (bs ++ [b]) (ws ++ [rr]) := by
      unfold ents
      rw [List.zip_append (by rw [D.l2, lw]), List.zip_append (by rw [List.length_zip, D.l2, lw]; simp)]
      rfl
    rw [e] at dd'
    exact h _ (d_write I mu hs he (dct_ok (Vals.append rv (.cons rv0 .nil)) dd'))
  · have il : i < ks.length := (List.getElem?_eq_some_iff.mp hi).1
    have hv : ws[i]? = some (ws[i]'(by rw [lw]; exact il)) := List.getElem?_eq_getElem _
    obtain ⟨c, _, e⟩ := at_some I D lw hi hv
    rw [storedH_old e, ents_put D.nd hi] at dd'
    exact h _ (d_write I mu hs he (dct_ok (vals_set rv rv0) dd'))
theorem set_C (hu : X.A.units + 3 < cLine) : PSet X (fun o i v H Q => ∃ a H', o = .ref a ∧ CPut X.K H a i v H' ∧ Q H') := by
  intro pins s σ H o i v ov iv u Q I ro ri rv h
  obtain ⟨a, H', rfl, g, q⟩ := h
  obtain rfl : ov = Value.ref a := ro
  exact c_set hu I g ri rv fun s' I' => ⟨H', I', q⟩
/-- {} -/
def tCNew (r : Bool) : TE := fun _ H Q => ∀ p, H p = none → (p == sysModules) = false → Q (.ref p) (upd H p (DctO p r [] [] []))
theorem pe_cnew {r : Bool} {pos : Pos} : PE X (.Dict [] [] pos) (tCNew r) := ⟨fun pins s σ H Q I h =>
  wpAny_Dict_empty ⟨.ref s.heap.objs.size, _, I.laid (a := s.heap.objs.size) (o := DctO s.heap.objs.size r [] [] []) (t' := s.toks) (fun _ _ q => Heap.get?_push_of_some _ q) (Nat.le_refl _) (dct_ok (P := X.prog) (w := X.w) (ks := ([] : List (KyT r))) (bs := []) .nil (Heap.DictOfH.new s.heap)), rfl, h _ (I.hok.fresh (Nat.le_refl _)) (beq_eq_false_iff_ne.mpr (Ne.symm (Nat.ne_of_lt I.big)))⟩⟩
/-- list(d) -/
theorem call_list_C (hc : X.calm = true) : CallR X (.type "list") (fun xs H Q => ∃ a r ks bs us, xs = [V.ref a] ∧ DctF X.K H a r ks bs us ∧ ∀ p, H p = none → Q (.ref p) (upd H p (.lst (bs.map V.ref)))) := by
  intro pins s σ H xs us0 Q I rl h
  obtain ⟨a, r, ks, bs, us, rfl, D, q⟩ := h
  obtain ⟨u, rfl, rx⟩ := rl.one
  cases rx
  obtain ⟨ws, rv, lw, dd⟩ := dct_of I D
  obtain ⟨o, es, ep, ho, hx, hdt, he, _⟩ := dd
  have le : (ents ks bs ws).length = ks.length := by
    have : ((ents ks bs ws).map (·.1)).length = ks.length := by rw [ents_keys D.l2 lw]
    rwa [List.length_map] at this
  have l1 : es.size = ks.length := by rw [size_of_entries he, le]
  have z := D.z
  refine PySem.W.kdl_call (kdl_raw D.sm hx hdt) (I.ok.hd hc) ho (by omega) fun h' tk acc' c' kp e it => ?_
  have ea : acc'.toList = bs.map Value.ref := by
    have hl : acc'.toList.length = ks.length := by rw [Array.length_toList, it.1]; exact l1
    apply List.ext_getElem?
    intro j
    rw [List.getElem?_map]
    cases hj : acc'.toList[j]? with
    | none =>
      have h1 := List.getElem?_eq_none_iff.mp hj
      rw [List.getElem?_eq_none (by rw [D.l2]; omega)]
      rfl
    | some v =>
      have jl : j < ks.length := by have := (List.getElem?_eq_some_iff.mp hj).1; omega
      obtain ⟨en, hen, hv⟩ := it.2 j v (by rw [← Array.getElem?_toList]; exact hj)
      have qe := entry_at he j
      have g1 : ks[j]? = some ks[j] := List.getElem?_eq_getElem _
      have g2 : bs[j]? = some (bs[j]'(by rw [D.l2]; exact jl)) := List.getElem?_eq_getElem _
      have g3 : ws[j]? = some (ws[j]'(by rw [lw]; exact jl)) := List.getElem?_eq_getElem _
      rw [hen, ents_get g1 g2 g3] at qe
      have e2 := Option.some.inj qe
      rw [g2, hv, e2]
      rfl
  have rv2 : Vals (bs.map V.ref) acc'.toList := by rw [ea]; exact vals_refs _
  refine ⟨.ref s.heap.objs.size, _, I.laid (t' := tk) (o := .lst (bs.map V.ref)) kp (Nat.le_refl _) ?_, rfl, q _ (I.hok.fresh (Nat.le_refl _))⟩
  exact ⟨by rw [List.length_map, D.l2]; exact z, acc'.toList, c', rv2, by rw [Array.toArray_toList]; exact e⟩
end
/-- a dict's object may be a dict's in some heap -/
theorem heap_at (o : Obj) (ho : o.isFreed = false) : ∀ n : Nat, ∃ h : Heap, h.objs.size = n ∧ ∀ i < n, h.get? i = some o
  | 0 => ⟨{}, rfl, fun i h => absurd h (Nat.not_lt_zero i)⟩
  | n + 1 => by
    obtain ⟨h, hs, hh⟩ := heap_at o ho n
    refine ⟨h.push o, by rw [Heap.size_push, hs], fun i hi => ?_⟩
    by_cases e : i = n
    · subst e
      rw [← hs]
      exact Heap.get?_push_size _ ho
    · exact Heap.get?_push_of_some _ (hh i (by omega))
theorem valEx : ∀ v : V, ∃ u : Value, RelV v u
  | .non => ⟨_, rfl⟩
  | .bl _ => ⟨_, rfl⟩
  | .int i => ⟨.int i default, default, rfl⟩
  | .str x => ⟨.str x default, default, rfl⟩
  | .byt x => ⟨.bytes x default, default, rfl⟩
  | .flt x => ⟨.float x default, default, rfl⟩
  | .ref _ => ⟨_, rfl⟩
  | .ty _ => ⟨_, rfl⟩
theorem valsEx : ∀ us : List V, ∃ ws, Vals us ws
  | [] => ⟨[], .nil⟩
  | v :: us => by
    obtain ⟨u, h⟩ := valEx v
    obtain ⟨ws, hs⟩ := valsEx us
    exact ⟨u :: ws, .cons h hs⟩
theorem dct_own {a : Addr} {r : Bool} {ks : List (KyT r)} {bs : List Addr} {us : List V} {φ : Heap → Prop} (e : DctO a r ks bs us = .ext φ) : OwnD φ a := by
  unfold DctO at e
  cases e
  obtain ⟨ws, rv⟩ := valsEx us
  obtain ⟨h, hs, hh⟩ := heap_at { cls := .type "dict", data := .dict ((ks.zip (bs.zip ws)).map (entD r)).toArray } rfl (a + 1)
  exact ⟨h, ⟨ws, rv, _, _, _, hh a (Nat.lt_succ_self a), ⟨rfl, rfl, rfl⟩, rfl, by simp⟩, _, _, _, hh a (Nat.lt_succ_self a), rfl⟩
end Wf
/-! Dicts by tuples of numbers or by rows, by value, whatever objects the keys are. -/
namespace Pv
open PySem PySem.Spec L2 Wf
variable {B : Bas}
theorem dqAll_get36 {K : PySem.W.Frag} {G : Hp} : ∀ {us : List V} {ds : List PyData} {i : Nat} {d : PyData}, DqAll K G us ds → ds[i]? = some d → ∃ u, us[i]? = some u ∧ Dq K G u d
  | _, _, _, _, .nil, h => by simp at h
  | _, _, 0, _, .cons h1 _, h => by
    simp only [List.getElem?_cons_zero, Option.some.injEq] at h
    subst h
    exact ⟨_, rfl, h1⟩
  | _, _, i + 1, _, .cons _ h2, h => by
    obtain ⟨u, e, q⟩ := dqAll_get36 (i := i) h2 (by simpa using h)
    exact ⟨u, by simpa using e, q⟩
theorem dqAll_ints36 {K : PySem.W.Frag} {G : Hp} : ∀ {l : List Int} {vs : List V}, DqAll K G vs (l.map .int) → vs = l.map V.int
  | [], _, .nil => rfl
  | _ :: _, _, .cons h1 h2 => by cases h1; rw [dqAll_ints36 h2]; rfl
theorem dqAll_rows36 {K : PySem.W.Frag} {G : Hp} : ∀ {ks : List (List Int)} {vs : List V}, DqAll K G vs (ks.map fun l => .tuple (l.map .int)) → ∃ cs : List Addr, vs = cs.map V.ref ∧ Paired (fun (l : List Int) c => SqT K G c (l.map V.int)) ks cs
  | [], _, .nil => ⟨[], rfl, .nil⟩
  | l :: ks, _, .cons h1 h2 => by
    obtain ⟨cs, rfl, p⟩ := dqAll_rows36 h2
    cases h1 with
    | tup hs ha =>
      cases dqAll_ints36 ha
      exact ⟨_ :: cs, rfl, .cons hs p⟩
theorem keyV_dq {K : PySem.W.Frag} {G H : Hp} (s : Same G H) : ∀ {r : Bool} {k : KyT r} {v : V}, Dq K G v (kyD r k) → KeyV K H r k v
  | false, l, v, h => by
    cases (show Dq K G v (.tuple (l.map .int)) from h) with
    | tup hs ha =>
      cases dqAll_ints36 ha
      exact ⟨_, rfl, Same.tp s _ _ hs⟩
  | true, ks, v, h => by
    cases (show Dq K G v (.tuple (ks.map fun l => .tuple (l.map .int))) from h) with
    | tup hs ha =>
      obtain ⟨cs, rfl, p⟩ := dqAll_rows36 ha
      exact ⟨_, cs, rfl, Same.tp s _ _ hs, Paired.mapP p fun _ _ z => Same.tp s _ _ z⟩
/-- what stands of an own dict -/
theorem dct_F {K : PySem.W.Frag} {G H : Hp} {m : Addr → Prop} {v : V} {r : Bool} {ks : List (KyT r)} {ds : List PyData} (s : Same G H) (h : RO K G H m v (.dct r ks ds)) :
    ∃ a bs us, v = .ref a ∧ m a ∧ DctF K H a r ks bs us ∧ DqAll K G (bs.map V.ref) (ks.map (kyD r)) ∧ DqAll K G us ds := by
  obtain ⟨a, bs, us, rfl, ma, ha, ⟨sm, z, nd, l1, l2⟩, hk, hd⟩ := h
  refine ⟨a, bs, us, rfl, ma, ⟨ha, sm, z, nd, l1, l2, fun i k b e1 e2 => ?_⟩, hk, hd⟩
  obtain ⟨u, e3, q⟩ := dqAll_get36 hk (i := i) (d := kyD r k) (by rw [List.getElem?_map, e1]; rfl)
  rw [List.getElem?_map, e2] at e3
  cases e3
  exact keyV_dq s q
theorem NoX.dct {H : Hp} {a : Addr} {r : Bool} {ks : List (KyT r)} {bs : List Addr} {us : List V} (e : H a = some (DctO a r ks bs us)) : NoX H a := NoX.own (φ := _) e (dct_own rfl)
theorem tabs_putC {T : List NdefX.NTab} {H : Hp} {a : Addr} {r : Bool} {ks ks' : List (KyT r)} {bs bs' : List Addr} {us us' : List V} (h : H a = some (DctO a r ks bs us)) : TbG T H (upd H a (DctO a r ks' bs' us')) := ⟨fun t p hp => by
  obtain ⟨ps, h1, h2, h3⟩ := t p hp
  refine ⟨ps, by rw [upd_ne (fun z => by rw [z, h] at h1; unfold DctO at h1; cases h1)]; exact h1, h2, fun pos cv hc => ?_⟩
  obtain ⟨c, e1, e2⟩ := h3 pos cv hc
  refine ⟨c, e1, ?_⟩
  have ne : c ≠ a := fun z => by
    subst z
    have e3 : LamX.CodeO c _ = DctO c r ks bs us := Option.some.inj (e2.symm.trans h)
    unfold LamX.CodeO at e3
    obtain ⟨_, ⟨_, _, _, e1, e2, _⟩, _, _, _, e3, e4⟩ := dct_own e3.symm
    rw [e1] at e3
    cases e3
    rw [e2] at e4
    cases e4
  rw [upd_ne ne]
  exact e2, fun x ps e => ⟨ps, by rw [upd_ne (fun z => by rw [z, h] at e; unfold DctO at e; cases e)]; exact e⟩⟩
section
variable {K : PySem.W.Frag} {G H : Hp} {σ : St} {δ : List Sl} {vs : List V} {rs : List R} {w : Addr → Option Nat}
theorem Rep.wrC (r : Rep K B G H σ δ vs rs w) {i : Nat} {b : Bool} {q : Bool} {ks ks' : List (KyT q)} {ds ds' : List PyData} {a : Addr} {bs bs' : List Addr} {us us' : List V} (h : δ[i]? = some (.ow b (.dct q ks ds))) (hσ : σ[i]? = some (some (.ref a))) (hw : w a = some (2 * i)) (ha : H a = some (DctO a q ks bs us))
    (hn : (a == sysModules) = false ∧ ks'.length ≤ sizeLine ∧ ks'.Nodup ∧ us'.length = ks'.length ∧ bs'.length = ks'.length) (hk : DqAll K G (bs'.map V.ref) (ks'.map (kyD q))) (hd : DqAll K G us' ds') :
    Stp B.T G H w δ G (upd H a (DctO a q ks' bs' us')) w (δ.set i (.ow b (.dct q ks' ds'))) ∧ Rep K B G (upd H a (DctO a q ks' bs' us')) σ (δ.set i (.ow b (.dct q ks' ds'))) vs rs w := by
  have hi : i < δ.length := (List.getElem?_eq_some_iff.mp h).1
  have ne : ∀ x n, w x = some n → n ≠ 2 * i → x ≠ a := fun x n hx hn z => by subst z; rw [hw] at hx; cases hx; exact hn rfl
  have g0 := (r.out a _ hw).1
  have st : Stp B.T G H w δ G (upd H a (DctO a q ks' bs' us')) w (δ.set i (.ow b (.dct q ks' ds'))) := by
    refine .of ⟨fun _ _ h => h, fun x o hx ho => ?_, fun x n hx => .inl (by rw [hx]; exact Option.some_ne_none _), fun _ _ h => .inl h, fun k o hk => ?_⟩ (tabs_putC ha)
    · rw [upd_ne (fun z => by subst z; rw [hw] at hx; cases hx)]
      exact ho
    · by_cases e : i = k
      · subst e
        rw [h] at hk
        cases hk
        exact ⟨_, List.getElem?_set_self hi⟩
      · exact ⟨o, by rw [List.getElem?_set_ne e]; exact hk⟩
  refine ⟨st, fun x o hx => ?_, fun x n hx => ?_, by rw [List.length_set]; exact r.len, fun k s hk' => ?_, r.tlen, fun j v q hv hq => ?_, st.bs r.bs⟩
  · have : x ≠ a := fun z => by subst z; rw [g0] at hx; cases hx
    rw [upd_ne this]
    exact r.sub x o hx
  · obtain ⟨h1, h2, h3⟩ := r.out x n hx
    by_cases e : x = a
    · subst e
      rw [upd_same]
      exact ⟨h1, Option.some_ne_none _, NoX.dct upd_same⟩
    · rw [upd_ne e]
      exact ⟨h1, h2, noT_upd e h3⟩
  · by_cases e : i = k
    · subst e
      rw [List.getElem?_set_self hi] at hk'
      cases hk'
      exact ⟨_, hσ, a, bs', us', rfl, hw, upd_same, hn, hk, hd⟩
    · rw [List.getElem?_set_ne e] at hk'
      refine (r.sl k s hk').mono (fun _ _ h => h) (fun x u mx hu => ?_) fun x u mx _ => mx
      rw [upd_ne (ne x _ mx (by omega))]
      exact hu
  · refine (r.tm j v q hv hq).mono (fun _ _ h => h) (fun x u mx hu => ?_) fun x u mx _ => mx
    rw [upd_ne (ne x _ mx (by omega))]
    exact hu
theorem Rep.retDct (r : Rep K B G H σ δ vs rs w) {p : Addr} (q : Bool) (hp : H p = none) (hm : (p == sysModules) = false) :
    ∃ w', Stp B.T G H w δ G (upd H p (DctO p q [] [] [])) w' δ ∧ Rep K B G (upd H p (DctO p q [] [] [])) σ δ [.ref p] [.ow (.dct q [] [])] w' := by
  have gp : G p = none := by
    cases e : G p with
    | none => rfl
    | some u => rw [r.sub p u e] at hp; cases hp
  have r0 := r.drop
  have st : Stp B.T G H w δ G (upd H p (DctO p q [] [] [])) (fun a => if a = p then some 1 else evn (w a)) δ := by
    refine .of ⟨fun _ _ h => h, fun a u _ ha => by rw [upd_ne (ne_of_none ha hp)]; exact ha, fun a i h => ?_, fun a u ha => .inl ha, .refl _⟩ (tabs_new hp)
    by_cases e : a = p
    · subst e; exact .inr hp
    · simp only [e, if_false] at h
      exact .inl (by rw [(evn_some.mp h).1]; exact Option.some_ne_none _)
  refine ⟨_, st, fun a u ha => ?_, fun a i h => ?_, r0.len, fun i s h => ?_, rfl, fun j u r hu hq => ?_, st.bs r.bs⟩
  · by_cases e : a = p
    · subst e; rw [gp] at ha; cases ha
    · rw [upd_ne e]; exact r.sub a u ha
  · by_cases e : a = p
    · subst e; rw [upd_same]; exact ⟨gp, Option.some_ne_none _, NoX.dct upd_same⟩
    · simp only [e, if_false] at h
      have ho := r0.out a i h
      rw [upd_ne e]
      exact ⟨ho.1, ho.2.1, noT_upd e ho.2.2⟩
  · refine (r0.sl i s h).mono (fun _ _ h => h) (fun a u ma hu => by rw [upd_ne (ne_of_none hu hp)]; exact hu) fun a u ma hu => ?_
    rw [if_neg (ne_of_none hu hp)]
    exact ma
  · match j with
    | 0 =>
      simp only [List.getElem?_cons_zero, Option.some.injEq] at hu hq
      subst hu hq
      exact ⟨p, [], [], rfl, by simp, upd_same, ⟨hm, Nat.zero_le _, List.nodup_nil, rfl, rfl⟩, .nil, .nil⟩
    | j + 1 => simp at hu
/-- the dict that stands in a slot -/
theorem Rep.dctAt (r : Rep K B G H σ δ vs rs w) {j i : Nat} {x : V} {b q : Bool} {ks : List (KyT q)} {ds : List PyData} (hx : vs[j]? = some x) (hr : rs[j]? = some (.at i)) (e : δ[i]? = some (.ow b (.dct q ks ds))) :
    ∃ a bs us, x = .ref a ∧ σ[i]? = some (some (.ref a)) ∧ w a = some (2 * i) ∧ DctF K H a q ks bs us ∧ DqAll K G (bs.map V.ref) (ks.map (kyD q)) ∧ DqAll K G us ds := by
  have hσ : σ[i]? = some (some x) := r.tm j x (.at i) hx hr
  obtain ⟨v0, h0, ro⟩ := r.sl i _ e
  rw [hσ] at h0
  cases h0
  obtain ⟨a, bs, us, rfl, ma, F, hk, hd⟩ := dct_F r.sub ro
  exact ⟨a, bs, us, rfl, hσ, ma, F, hk, hd⟩
end
section
variable {X : Cx} {o i : Expr} {po pk : PX} {pos : Pos}
def pDct0 (q : Bool) : PX := fun δ Q => Q (.ow (.dct q [] [])) δ
theorem je_dct0 (q : Bool) : JE X B (.Dict [] [] pos) (pDct0 q) := by
  refine PE_wk (pe_cnew (r := q)) fun σ H Q ⟨G, w, δ, Qp, rep, h, k⟩ => ?_
  intro p hp hm
  obtain ⟨w', st, r2⟩ := rep.retDct q hp hm
  exact k _ δ _ _ _ _ h st r2
/-- d[k] -/
def qCGet : List R → PX := fun rs δ Q => ∃ (i : Nat) (rk : R) (b q : Bool) (ks : List (KyT q)) (ds : List PyData) (j : Nat) (k : KyT q) (e : PyData), rs = [.at i, rk] ∧ δ[i]? = some (.ow b (.dct q ks ds)) ∧ dat δ rk = some (kyD q k) ∧ ks[j]? = some k ∧ ds[j]? = some e ∧ Q (.im e) δ
theorem vw_kyD {K : PySem.W.Frag} {G H : Hp} {v : V} : ∀ {q : Bool} {k : KyT q}, Vw K G H v (kyD q k) → Dq K G v (kyD q k)
  | false, _, .inl h => h
  | true, _, .inl h => h
  | false, _, .inr ⟨_, _, _, _, _, _, e⟩ => nomatch e
  | true, _, .inr ⟨_, _, _, _, _, _, e⟩ => nomatch e
theorem lc_cget {K : PySem.W.Frag} : LC K qCGet (ap2 (rCGet K)) := by
  intro B G H σ δ vs rs w Qp Q rep q k
  obtain ⟨i, rk, b, q', ks, ds, j, kk, e, rfl, e1, hk, h1, h2, q⟩ := q
  have hl : vs.length = 2 := rep.tlen
  match vs, hl with
  | [x, y], _ =>
    obtain ⟨a, bs, us, rfl, hσ, ma, F, dk, dd⟩ := rep.dctAt (j := 0) (x := x) rfl rfl e1
    obtain ⟨v, g, hv⟩ := dqAll_get36 dd h2
    have kd := vw_kyD (rep.dat (j := 1) (v := y) rfl rfl hk)
    exact ⟨a, q', ks, bs, us, j, kk, v, rfl, F, keyV_dq rep.sub kd, h1, g, k _ δ _ _ _ _ q .drop (rep.ret hv)⟩
def pCGet (pa pb : PX) : PX := pC qCGet (pCons pa (pCons pb pNil))
theorem je_cget (hu : X.A.units + 3 < cLine) (ho : JE X B o po) (hi : JE X B i pk) (hs : NoSl i) : JE X B (.Subscript o i pos) (pCGet po pk) := PE_wk (pe_cget hu ho hi hs) fun σ H Q h => lc_two lc_cget h
/-- k in d, k not in d -/
def qCIn (neg : Bool) : List R → PX := fun rs δ Q => ∃ (i : Nat) (rk : R) (b q : Bool) (ks : List (KyT q)) (ds : List PyData) (k : KyT q) (t : Bool), rs = [rk, .at i] ∧ δ[i]? = some (.ow b (.dct q ks ds)) ∧ dat δ rk = some (kyD q k) ∧ (t = true ↔ k ∈ ks) ∧ Q (.im (.bool (t != neg))) δ
theorem lc_cin {neg : Bool} {K : PySem.W.Frag} : LC K (qCIn neg) (ap2 (rCIn neg K)) := by
  intro B G H σ δ vs rs w Qp Q rep q k
  obtain ⟨i, rk, b, q', ks, ds, kk, t, rfl, e1, hk, ht, q⟩ := q
  have et : t = decide (kk ∈ ks) := by
    cases t with
    | true => exact (decide_eq_true (ht.mp rfl)).symm
    | false => exact (decide_eq_false fun z => absurd (ht.mpr z) (by decide)).symm
  subst et
  have hl : vs.length = 2 := rep.tlen
  match vs, hl with
  | [y, x], _ =>
    obtain ⟨a, bs, us, rfl, hσ, ma, F, dk, dd⟩ := rep.dctAt (j := 1) (x := x) rfl rfl e1
    have kd := vw_kyD (rep.dat (j := 0) (v := y) rfl rfl hk)
    exact ⟨a, q', ks, bs, us, kk, rfl, F, keyV_dq rep.sub kd, k _ δ _ _ _ _ q .drop (rep.ret (.bl _))⟩
def pCIn (neg : Bool) (pa pb : PX) : PX := pC (qCIn neg) (pCons pa (pCons pb pNil))
/-- d[k] = v: a new key, or one that stands there -/
def gCx (po pk : PX) : PGx := fun d δ Q => po δ fun ro δ1 => pk δ1 fun rk δ2 => ∃ (i : Nat) (b q : Bool) (ks : List (KyT q)) (ds : List PyData) (k : KyT q), ro = .at i ∧ dat δ2 rk = some (kyD q k) ∧ δ2[i]? = some (.ow b (.dct q ks ds)) ∧ ks.length < sizeLine ∧
  ((k ∉ ks ∧ Q (δ2.set i (.ow b (.dct q (ks ++ [k]) (ds ++ [d]))))) ∨ ∃ j : Nat, ks[j]? = some k ∧ Q (δ2.set i (.ow b (.dct q ks (ds.set j d)))))
theorem dqAll_set36 {K : PySem.W.Frag} {G : Hp} : ∀ {us : List V} {ds : List PyData} {j : Nat} {v : V} {d : PyData}, DqAll K G us ds → Dq K G v d → DqAll K G (us.set j v) (ds.set j d)
  | _, _, _, _, _, .nil, _ => .nil
  | _, _, 0, _, _, .cons _ t, h => .cons h t
  | _, _, j + 1, _, _, .cons h0 t, h => .cons h0 (dqAll_set36 t h)
theorem jg_C (hu : X.A.units + 3 < cLine) (ho : JE X B o po) (hk : JE X B i pk)
    (ha : ∀ v, assign (.Subscript o i pos) X.env v = (do
      let ov ← holding [v] (eval o X.env)
      let iv ← holding [v, ov] (eval i X.env)
      standAt pos
      holding [v, ov, iv] (setItem ov iv v)
      release [v, ov, iv] []) := by intro _; rfl) : JG X B (.Subscript o i pos) [] (gCx po pk) := by
  refine PG_wk (pg_sub ho hk (set_C hu) ha) fun v σ H Q ⟨G, w, δ, d, Qp, rep, hd, h, k⟩ => ?_
  refine ⟨G, w, δ, _, rep, h, fun ro δ1 x H1 G1 w1 q1 s1 rep1 => ?_⟩
  refine ⟨G1, _, δ1, _, rep1.drop, q1, fun rk δ2 y H2 G2 w2 q2 s2 rep2 => ?_⟩
  obtain ⟨i, b, q, ks, ds, kk, rfl, hdt, e2, hz, q2⟩ := q2
  have hx : σ[i]? = some (some x) := rep1.tm 0 x (.at i) rfl rfl
  have hv := dp_mono s2.g _ _ (dp_mono s1.g _ _ hd)
  have kd := vw_kyD (rep2.dat (j := 0) (v := y) rfl rfl hdt)
  have st := ((s1.trans .drop).trans s2)
  obtain ⟨v0, hσ, ro⟩ := rep2.sl i _ e2
  rw [hx] at hσ
  cases hσ
  obtain ⟨a, bs, us, rfl, ma, F, dk, dd⟩ := dct_F rep2.sub ro
  have ky := keyV_dq rep2.sub kd
  obtain ⟨yb, rfl⟩ := ky.ref
  rcases q2 with ⟨hn, q2⟩ | ⟨j, hj, q2⟩
  · have nd : (ks ++ [kk]).Nodup := List.nodup_append.mpr ⟨F.nd, by simp, fun x h1 y h2 e => hn (by rw [← List.mem_singleton.mp h2, ← e]; exact h1)⟩
    obtain ⟨s4, r4⟩ := rep2.wrC e2 hx ma F.ob (ks' := ks ++ [kk]) (bs' := bs ++ [yb]) (us' := us ++ [v]) (ds' := ds ++ [d])
      ⟨F.sm, by rw [List.length_append]; exact hz, nd, by rw [List.length_append, List.length_append, F.l1]; rfl, by rw [List.length_append, List.length_append, F.l2]; rfl⟩
      (by rw [List.map_append, List.map_append]; exact dqAll_append dk (.cons kd .nil)) (dqAll_append dd (.cons hv .nil))
    exact ⟨a, _, rfl, ⟨q, ks, bs, us, kk, F, ky, hz, .inl ⟨hn, yb, rfl, rfl⟩⟩, k _ σ _ _ _ q2 ((st.trans s4).trans .drop) r4.drop .refl .refl⟩
  · have nl : (us.set j v).length = ks.length := by rw [List.length_set]; exact F.l1
    obtain ⟨s4, r4⟩ := rep2.wrC e2 hx ma F.ob (ks' := ks) (bs' := bs) (us' := us.set j v) (ds' := ds.set j d) ⟨F.sm, F.z, F.nd, nl, F.l2⟩ dk (dqAll_set36 dd hv)
    exact ⟨a, _, rfl, ⟨q, ks, bs, us, kk, F, ky, hz, .inr ⟨j, hj, rfl⟩⟩, k _ σ _ _ _ q2 ((st.trans s4).trans .drop) r4.drop .refl .refl⟩
/-- list(d) -/
def qCList : List R → PX := fun rs δ Q => ∃ (i : Nat) (b q : Bool) (ks : List (KyT q)) (ds : List PyData), rs = [.at i] ∧ δ[i]? = some (.ow b (.dct q ks ds)) ∧ Q (.ow (.lst (ks.map (kyD q)))) δ
theorem lc_clist {K : PySem.W.Frag} : LC K qCList (fun xs H Q => ∃ a r ks bs us, xs = [V.ref a] ∧ DctF K H a r ks bs us ∧ ∀ p, H p = none → Q (.ref p) (upd H p (.lst (bs.map V.ref)))) := by
  intro B G H σ δ vs rs w Qp Q rep q k
  obtain ⟨i, b, q', ks, ds, rfl, e1, q⟩ := q
  have hl : vs.length = 1 := rep.tlen
  match vs, hl with
  | [x], _ =>
    obtain ⟨a, bs, us, rfl, hσ, ma, F, dk, dd⟩ := rep.dctAt (j := 0) (x := x) rfl rfl e1
    refine ⟨a, q', ks, bs, us, rfl, F, fun p hp => ?_⟩
    obtain ⟨w', st, r2⟩ := rep.retLst hp dk
    exact k _ δ _ _ _ _ q st r2
/-- len(d) -/
theorem call_len_C : CallR X (.builtin "len") (fun xs H Q => ∃ (a : Addr) (r : Bool) (ks : List (KyT r)) (bs : List Addr) (us : List V), xs = [V.ref a] ∧ DctF X.K H a r ks bs us ∧ Q (.int ks.length) H) := by
  intro pins s σ H xs us0 Q I rl h
  obtain ⟨a, r, ks, bs, us, rfl, D, q⟩ := h
  obtain ⟨u, rfl, rx⟩ := rl.one
  cases rx
  obtain ⟨ws, rv, lw, dd⟩ := dct_of I D
  have le : (ents ks bs ws).length = ks.length := by
    have : ((ents ks bs ws).map (·.1)).length = ks.length := by rw [ents_keys D.l2 lw]
    rwa [List.length_map] at this
  have z := D.z
  refine call_len_dictH D.sm dd (by rw [le]; rw [sizeLine_eq] at z; omega) ?_
  rw [le]
  exact ⟨.int ks.length, H, I.tok _, ⟨_, rfl⟩, q⟩
def qCLen : List R → PX := fun rs δ Q => ∃ (i : Nat) (b q : Bool) (ks : List (KyT q)) (ds : List PyData), rs = [.at i] ∧ δ[i]? = some (.ow b (.dct q ks ds)) ∧ Q (.im (.int ks.length)) δ
theorem lc_clen {K : PySem.W.Frag} : LC K qCLen (fun xs H Q => ∃ (a : Addr) (r : Bool) (ks : List (KyT r)) (bs : List Addr) (us : List V), xs = [V.ref a] ∧ DctF K H a r ks bs us ∧ Q (.int ks.length) H) := by
  intro B G H σ δ vs rs w Qp Q rep q k
  obtain ⟨i, b, q', ks, ds, rfl, e1, q⟩ := q
  have hl : vs.length = 1 := rep.tlen
  match vs, hl with
  | [x], _ =>
    obtain ⟨a, bs, us, rfl, hσ, ma, F, dk, dd⟩ := rep.dctAt (j := 0) (x := x) rfl rfl e1
    exact ⟨a, q', ks, bs, us, rfl, F, k _ δ _ _ _ _ q .drop (rep.ret (.int _))⟩
end
end Pv
/-! list.index of data. By value. -/
namespace Pv
open PySem PySem.Spec L2 Wf
end Pv
namespace Pv
open PySem PySem.Spec L2 Wf
/-! ### pairs_asked -/
def dI4 (k : List Int) : PyData := .tuple (k.map .int)
-- DEF pairs_asked N ['book', 'kinds', 'burdens', 'asked', 'word', 'row', 'k', 'u', 'a', 'v', 'b'] calls ['pass_one'] takes ['cNoPassing']
end Pv
namespace Pv
open PySem PySem.Spec L2 Wf
/-! ### _law_asked_by -/
-- DEF _law_asked_by N ['_law_book_here', '_law_kinds', '_law_burdens', '_law_word', '_law_k', '_law_walkers', '_law_found', '_law_u', '_law_a', '_law_v', '_law_b', '_law_c', '_law_d'] calls ['_law_told_pair'] takes []
/-! ### _law_due -/
-- DEF _law_due N ['_law_book_here', '_law_kinds', '_law_burdens', '_law_some', '_law_k', '_law_one'] calls ['_law_asked_by'] takes []
theorem shaped_dI (k : List Int) : SeqAt.shaped (dI4 k) = true := shapedT_map PyData.int 0 (by decide) k fun x _ => ⟨rfl, Nat.le_refl 0⟩
end Pv
namespace Pv
open PySem PySem.Spec L2 Wf
/-! ### _law_runs -/
-- DEF _law_runs N ['_law_deal_here', '_law_many', '_law_word', '_law_m', '_law_step'] calls ['_law_draw'] takes []
def RunsOk (n : Nat) (ws : List Nat) : Prop := ∃ c : Nat → Nat, (∀ m, m < n → c m ≤ m) ∧ ws = runsW c n
theorem RunsOk.one : RunsOk 1 [] := ⟨fun _ => 0, fun _ _ => Nat.zero_le _, rfl⟩
theorem RunsOk.len {n : Nat} {ws : List Nat} (h : RunsOk n ws) (hn : n ≤ 10) : ws.length ≤ 100 := by
  obtain ⟨c, hc, rfl⟩ := h
  have : ∀ m, m ≤ n → (runsW c m).length ≤ 10 * m := fun m => by
    induction m with
    | zero => intro _; simp [runsW]
    | succ m ih =>
      intro hm
      rw [runsW_succ, List.length_append, runW_len]
      have := ih (by omega)
      have := hc m (by omega)
      omega
  have := this n (Nat.le_refl _)
  omega
/-! ### _law_behind -/
-- DEF _law_behind N ['_law_many', '_law_word', '_law_order_here', '_law_falling', '_law_k'] calls ['_law_order', 'order_behind', 'free_order', 'is_forward'] takes ['cNoPassing']
/-! ### k12 -/
-- DEF law N ['_law_script', '_law_deal_here', '_law_many', '_law_one', '_law_other', '_law_first', '_law_second', '_law_order_here', '_law_word'] calls ['_law_deal', '_law_draw', '_law_runs', '_law_behind', '_law_alike', 'normal_word', 'pairs_passed'] takes ['cNoOrder']
end Pv
namespace Pv
open PySem PySem.Spec L2 Wf
/-! ### a thing done over and over, till it comes again -/
def itF {α : Type} (f : α → α) (b : α) : Nat → α
  | 0 => b
  | n + 1 => f (itF f b n)
theorem itF_add {α : Type} (f : α → α) (b : α) (m : Nat) : ∀ n, itF f b (m + n) = itF f (itF f b m) n
  | 0 => rfl
  | n + 1 => by show f (itF f b (m + n)) = f (itF f (itF f b m) n); rw [itF_add f b m n]
structure Rho {α : Type} (f : α → α) (b : α) (n first : Nat) : Prop where
  inj : ∀ i j, i < n → j < n → itF f b i = itF f b j → i = j
  again : itF f b n = itF f b first
  lt : first < n
theorem rho_at {α : Type} {f : α → α} {b : α} {n k : Nat} (h : Rho f b n k) : ∀ r, k ≤ r → itF f b (k + (r - k) % (n - k)) = itF f b r := by
  have lt := h.lt
  intro r
  induction r using Nat.strongRecOn with
  | ind r ih =>
    intro hr
    by_cases c : r < n
    · rw [Nat.mod_eq_of_lt (by omega)]
      congr 1
      omega
    · have e1 : itF f b r = itF f b (r - (n - k)) := by
        have z1 : r = n + (r - n) := by omega
        have z2 : r - (n - k) = k + (r - n) := by omega
        rw [z2, itF_add, ← h.again, ← itF_add, ← z1]
      rw [e1, ← ih (r - (n - k)) (by omega) (by omega)]
      congr 2
      have z3 : r - k = (r - (n - k) - k) + (n - k) := by omega
      rw [z3, Nat.add_mod_right]
theorem nodup_leS {α : Type} [DecidableEq α] : ∀ (l S : List α), l.Nodup → (∀ x ∈ l, x ∈ S) → l.length ≤ S.length
  | [], _, _, _ => Nat.zero_le _
  | x :: l, S, nd, h => by
    have n1 := List.nodup_cons.mp nd
    have hx := h x List.mem_cons_self
    have := nodup_leS l (S.erase x) n1.2 fun y hy => (List.mem_erase_of_ne (fun e : y = x => n1.1 (e ▸ hy))).mpr (h y (List.mem_cons_of_mem _ hy))
    rw [List.length_erase_of_mem hx] at this
    have := List.length_pos_of_mem hx
    rw [List.length_cons]
    omega
/-- all burdens of so many -/
def allBu (s : Nat) : Nat → List (List Int)
  | 0 => [[]]
  | n + 1 => (List.range s).flatMap fun i : Nat => (allBu s n).map fun l => ((i : Nat) : Int) :: l
theorem len_flat {α β : Type} (f : α → List β) (c : Nat) : ∀ l : List α, (∀ x ∈ l, (f x).length = c) → (l.flatMap f).length = l.length * c
  | [], _ => by simp
  | x :: l, h => by
    rw [List.flatMap_cons, List.length_append, h x List.mem_cons_self, len_flat f c l fun y hy => h y (List.mem_cons_of_mem _ hy), List.length_cons, Nat.add_mul, Nat.one_mul, Nat.add_comm]
theorem allBu_len (s : Nat) : ∀ n, (allBu s n).length = s ^ n
  | 0 => rfl
  | n + 1 => by
    show ((List.range s).flatMap fun i : Nat => (allBu s n).map fun l => ((i : Nat) : Int) :: l).length = _
    rw [len_flat _ (s ^ n) _ (fun x _ => by rw [List.length_map, allBu_len s n]), List.length_range, Nat.pow_succ, Nat.mul_comm]
theorem mem_allBu {s : Nat} : ∀ {n : Nat} {l : List Int}, l.length = n → (∀ x ∈ l, 0 ≤ x ∧ x < (s : Int)) → l ∈ allBu s n
  | 0, [], _, _ => List.mem_singleton.mpr rfl
  | n + 1, x :: l, hl, h => by
    have hx := h x List.mem_cons_self
    show x :: l ∈ (List.range s).flatMap fun i : Nat => (allBu s n).map fun l => ((i : Nat) : Int) :: l
    rw [List.mem_flatMap]
    refine ⟨x.toNat, List.mem_range.mpr (by omega), List.mem_map.mpr ⟨l, mem_allBu (by simpa using hl) fun y hy => h y (List.mem_cons_of_mem _ hy), ?_⟩⟩
    rw [Int.toNat_of_nonneg hx.1]
/-! ### what is borne behind passings, by numbers -/
structure EvKs (m : Int) (ks : List Nat) (es : List (Nat × Nat)) : Prop where
  kl : ∀ k ∈ ks, (k : Int) < m
  ev : ∀ e ∈ es, e.1 < ks.length ∧ e.2 < ks.length ∧ ks.getD e.2 0 < ks.getD e.1 0
structure BoOk (s : Int) (n : Nat) (bo : List Int) : Prop where
  len : bo.length = n
  inn : ∀ x ∈ bo, 0 ≤ x ∧ x < s
def ov1 (B : Book) (ks : List Nat) (bo : List Int) (e : Nat × Nat) : List Int :=
  (bo.set e.2 (B.at (ks.getD e.1 0 : Nat) (ks.getD e.2 0 : Nat) (bo.getD e.1 0) (bo.getD e.2 0)).1).set e.1 (B.at (ks.getD e.1 0 : Nat) (ks.getD e.2 0 : Nat) (bo.getD e.1 0) (bo.getD e.2 0)).2
abbrev ovN (B : Book) (ks : List Nat) (es : List (Nat × Nat)) (bo : List Int) : List Int := es.foldl (ov1 B ks) bo
theorem getI_mem {l : List Int} {i : Nat} (h : i < l.length) : l.getD i 0 ∈ l := by
  simp [List.getD, List.getElem?_eq_getElem h]
theorem ov_pl {B : Book} {m : Int} {ks : List Nat} {bo : List Int} {e : Nat × Nat} (bk : BookOk m B) (kl : ∀ k ∈ ks, (k : Int) < m) (he : e.1 < ks.length ∧ e.2 < ks.length ∧ ks.getD e.2 0 < ks.getD e.1 0) (ok : BoOk B.s ks.length bo) :
    Pl m B.s (ks.getD e.1 0 : Nat) (ks.getD e.2 0 : Nat) (bo.getD e.1 0) (bo.getD e.2 0) := by
  obtain ⟨h1, h2, h3⟩ := he
  have a1 := ok.inn _ (getI_mem (show e.1 < bo.length by rw [ok.len]; exact h1))
  have a2 := ok.inn _ (getI_mem (show e.2 < bo.length by rw [ok.len]; exact h2))
  have k1 := kl _ (getDm (d := 0) h1)
  exact ⟨by omega, k1, by omega, by omega, a1.1, a1.2, a2.1, a2.2⟩
theorem ov1_ok {B : Book} {m : Int} {ks : List Nat} {bo : List Int} {e : Nat × Nat} (bk : BookOk m B) (kl : ∀ k ∈ ks, (k : Int) < m) (he : e.1 < ks.length ∧ e.2 < ks.length ∧ ks.getD e.2 0 < ks.getD e.1 0) (ok : BoOk B.s ks.length bo) : BoOk B.s ks.length (ov1 B ks bo e) := by
  have ii := (Book.cell bk (ov_pl bk kl he ok)).2
  refine ⟨by unfold ov1; rw [List.length_set, List.length_set, ok.len], fun x hx => ?_⟩
  unfold ov1 at hx
  rcases List.mem_or_eq_of_mem_set hx with hx | rfl
  · rcases List.mem_or_eq_of_mem_set hx with hx | rfl
    · exact ok.inn x hx
    · exact ⟨ii.1, ii.2.1⟩
  · exact ⟨ii.2.2.1, ii.2.2.2⟩
theorem ovN_ok {B : Book} {m : Int} {ks : List Nat} (bk : BookOk m B) : ∀ {es : List (Nat × Nat)} {bo : List Int}, EvKs m ks es → BoOk B.s ks.length bo → BoOk B.s ks.length (ovN B ks es bo)
  | [], _, _, ok => ok
  | e :: es, bo, ev, ok => ovN_ok bk (bo := ov1 B ks bo e) ⟨ev.kl, fun x hx => ev.ev x (List.mem_cons_of_mem _ hx)⟩ (ov1_ok bk ev.kl (ev.ev e List.mem_cons_self) ok)
theorem EvKs.take {m : Int} {ks : List Nat} {es : List (Nat × Nat)} (h : EvKs m ks es) (i : Nat) : EvKs m ks (es.take i) := ⟨h.kl, fun e he => h.ev e (List.mem_of_mem_take he)⟩
theorem EvKs.sub {m : Int} {ks : List Nat} {es fs : List (Nat × Nat)} (h : EvKs m ks es) (hs : ∀ e ∈ fs, e ∈ es) : EvKs m ks fs := ⟨h.kl, fun e he => h.ev e (hs e he)⟩
theorem itOv_ok {B : Book} {m : Int} {ks : List Nat} {es : List (Nat × Nat)} {bo : List Int} (bk : BookOk m B) (ev : EvKs m ks es) (ok : BoOk B.s ks.length bo) : ∀ n, BoOk B.s ks.length (itF (ovN B ks es) bo n)
  | 0 => ok
  | n + 1 => ovN_ok bk ev (itOv_ok bk ev ok n)
abbrev evM (a : Mt) : Nat × Nat := (a.2.2.1, a.2.2.2)
theorem evK_of {m : Int} {B : Book} {ks : List Nat} {ss : List Int} {L : Nat} (bk : BookOk m B) (ok : RgOk m B.ps ks ss L) {out : List Mt} (po : ∀ a ∈ out, a ∈ msR B.ps ks ss L) : EvKs m ks (out.map evM) := by
  refine ⟨fun k hk => ?_, fun e he => ?_⟩
  · have h1 := ok.kl k hk
    have h2 := (near_pos bk).2.2
    omega
  · obtain ⟨a, ha, rfl⟩ := List.mem_map.mp he
    obtain ⟨i, j, x, hi, hj, hx, rfl⟩ := mem_msR (po a ha)
    refine ⟨hi, hj, ?_⟩
    show ks.getD j 0 < ks.getD i 0
    by_cases c : ks.getD j 0 < ks.getD i 0
    · exact c
    · have := ok.gap0 hi hj c
      omega
/-! ### borne_behind -/
-- DEF borne_behind N ['book', 'kinds', 'met', 'burdens', 'borne', 'moment', 'i', 'j'] calls ['pair_at'] takes []
def pb_bbehind_1 : PSx :=
    pAsg (pCall psp_pair_at (pCons (pFz (pVar 0)) (pCons (pFz (pIx (pVar 1) (pVar 6))) (pCons (pFz (pIx (pVar 1) (pVar 7))) (pCons (pFz (pIx (pVar 4) (pVar 6))) (pCons (pFz (pIx (pVar 4) (pVar 7))) (pNil)))))) noX) (gT 2 (gsC (gSx (pVar 4) (pVar 7)) (gsC (gSx (pVar 4) (pVar 6)) (gsN))))
def pr_bbehind_1 : PSx :=
    pRet (pC (q1 fTupleOf) (pCons (pVar 4) (pNil)))
def pr_bbehind_2 : PSx :=
    pSeq (pFor [5, 6, 7] (iSeq (pVar 2)) (gT 3 (gsC (gN 5) (gsC (gN 6) (gsC (gN 7) (gsN))))) (pb_bbehind_1))
    (pr_bbehind_1)
def p_bbehind : PSx :=
    pSeq (pSet 4 (pC (q1L fListOf) (pCons (pVar 3) (pNil))))
    (pr_bbehind_2)
abbrev stBb (B : Book) (ks : List Nat) (X : PyData) (bo b4 : List Int) (s5 s6 s7 : Sl) : List Sl := [.im (dB B), .im (.tuple (dN ks)), .im X, .im (dK bo), .ow false (.lst (b4.map .int)), s5, s6, s7]
def psp_bbehind : PSp := fun as Q _ => ∃ (B : Book) (m : Int) (ks : List Nat) (X : PyData) (ms : List Mt) (bo : List Int), as = [.im (dB B), .im (.tuple (dN ks)), .im X, .im (dK bo)] ∧ seqD X = some (ms.map toldD) ∧ BookOk m B ∧ EvKs m ks (ms.map evM) ∧ BoOk B.s ks.length bo ∧ ks.length ≤ 10 ∧
  Q (.im (dK (ovN B ks (ms.map evM) bo))) [.un, .un, .un, .un]
theorem hp_bbehind (as : List Sl) (Qp : QE) (Ep : EX) (h : psp_bbehind as Qp Ep) : p_bbehind (endsP as Qp) (as ++ List.replicate 4 .un) := by
  obtain ⟨B, m, ks, X, ms, bo, rfl, hX, bk, ev, ok, n10, q⟩ := h
  have z24 : (10000 : Nat) < sizeLine := by decide
  refine ⟨_, _, rfl, ?_⟩
  show pr_bbehind_2 _ (stBb B ks X bo bo .un .un .un)
  refine ⟨_, _, _, rfl, hX, fun i δ => δ = stBb B ks X bo (ovN B ks ((ms.map evM).take i) bo) .un .un .un, rfl, ?_, ?_⟩
  · rintro i d δ hd rfl
    rw [List.getElem?_map] at hd
    obtain ⟨a, ha, rfl⟩ := Option.map_eq_some_iff.mp hd
    have am : evM a ∈ ms.map evM := List.mem_map.mpr ⟨a, List.mem_of_getElem? ha, rfl⟩
    have he := ev.ev _ am
    have okI := ovN_ok bk (ev.take i) ok
    have e1 : ovN B ks ((ms.map evM).take (i + 1)) bo = ov1 B ks (ovN B ks ((ms.map evM).take i) bo) (evM a) := by
      rw [List.take_add_one, List.getElem?_map, ha]
      show List.foldl _ _ (_ ++ [evM a]) = _
      rw [List.foldl_append]
      rfl
    generalize ovN B ks ((ms.map evM).take i) bo = c at *
    have pl := ov_pl bk ev.kl he okI
    have lc := okI.len
    have g1 : (c.map PyData.int)[(evM a).1]? = some (.int (c.getD (evM a).1 0)) := by rw [List.getElem?_map, getI_of (by rw [lc]; exact he.1)]; rfl
    have g2 : (c.map PyData.int)[(evM a).2]? = some (.int (c.getD (evM a).2 0)) := by rw [List.getElem?_map, getI_of (by rw [lc]; exact he.2.1)]; rfl
    refine ⟨rfl, rfl, ?_⟩
    show pb_bbehind_1 _ (stBb B ks X bo c (.im (.tuple [nD (a.1 / Nat.gcd a.1 a.2.1), nD (a.2.1 / Nat.gcd a.1 a.2.1)])) (.im (nD (evM a).1)) (.im (nD (evM a).2)))
    refine ⟨_, _, rfl, _, atI_of rfl (dN_get (getD_of he.1)), _, _, rfl, _, atI_of rfl (dN_get (getD_of he.2.1)), _, _, rfl, _, atI_of rfl g1, _, _, rfl, _, atI_of rfl g2, _, _, rfl, _, rfl, List.nodup_nil, B, m, _, _, _, _, rfl, bk, pl, _, _, rfl, ?_⟩
    refine ⟨rfl, _, _, _, _, (evM a).2, rfl, rfl, rfl, ixNn rfl (by rw [List.length_map, lc]; exact he.2.1), _, _, _, _, (evM a).1, rfl, rfl, rfl, ixNn rfl (by rw [List.length_set, List.length_map, lc]; exact he.1), rfl, ?_⟩
    have e2 : (ov1 B ks c (evM a)).map PyData.int = ((c.map PyData.int).set (evM a).2 (.int (B.at (ks.getD (evM a).1 0 : Nat) (ks.getD (evM a).2 0 : Nat) (c.getD (evM a).1 0) (c.getD (evM a).2 0)).1)).set (evM a).1 (.int (B.at (ks.getD (evM a).1 0 : Nat) (ks.getD (evM a).2 0 : Nat) (c.getD (evM a).1 0) (c.getD (evM a).2 0)).2) := by
      unfold ov1
      rw [List.map_set, List.map_set]
    show ([.im (dB B), .im (.tuple (dN ks)), .im X, .im (dK bo), .ow false (.lst (((c.map PyData.int).set (evM a).2 (.int (B.at (ks.getD (evM a).1 0 : Nat) (ks.getD (evM a).2 0 : Nat) (c.getD (evM a).1 0) (c.getD (evM a).2 0)).1)).set (evM a).1 (.int (B.at (ks.getD (evM a).1 0 : Nat) (ks.getD (evM a).2 0 : Nat) (c.getD (evM a).1 0) (c.getD (evM a).2 0)).2))), .un, .un, .un] : List Sl) = _
    rw [← e2]
    show _ = stBb B ks X bo (ovN B ks ((ms.map evM).take (i + 1)) bo) .un .un .un
    rw [e1]
  · rintro δ rfl
    rw [List.length_map, ← List.length_map (f := evM), List.take_length]
    exact ⟨_, _, rfl, q⟩
/-! ### trail_of -/
-- DEF trail_of N ['book', 'kinds', 'met', 'burdens', 'numbers'] calls ['borne_behind'] takes []
def pr_trail_of_1 : PSx :=
    pSet 3 (pCall psp_bbehind (pCons (pFz (pVar 0)) (pCons (pFz (pVar 1)) (pCons (pFz (pVar 2)) (pCons (pFz (pVar 3)) (pNil))))) noX)
def pb_trail_of_2 : PSx :=
    pSeq (pAsg (pC qCLen (pCons (pVar 4) (pNil))) (gCx (pVar 4) (pVar 3)))
    (pr_trail_of_1)
def pr_trail_of_2 : PSx :=
    pRet (pTup (pCons (pC qCList (pCons (pVar 4) (pNil))) (pCons (pCGet (pVar 4) (pVar 3)) (pNil))))
def pr_trail_of_3 : PSx :=
    pSeq (pWhile [] (pT (pCIn true (pVar 3) (pVar 4))) (pb_trail_of_2))
    (pr_trail_of_2)
def p_trail_of : PSx :=
    pSeq (pSet 4 ((pDct0 false)))
    (pr_trail_of_3)
abbrev keysT (f : List Int → List Int) (bo : List Int) (n : Nat) : List (List Int) := (List.range n).map (itF f bo)
abbrev stTr (B : Book) (ks : List Nat) (X : PyData) (b : List Int) (kk : List (List Int)) (n : Nat) : List Sl := [.im (dB B), .im (.tuple (dN ks)), .im X, .im (dK b), .ow false (.dct false kk (dN (List.range n)))]
theorem keysT_succ (f : List Int → List Int) (bo : List Int) (n : Nat) : keysT f bo (n + 1) = keysT f bo n ++ [itF f bo n] := by
  unfold keysT
  rw [List.range_succ, List.map_append]
  rfl
theorem keysT_nodup {f : List Int → List Int} {bo : List Int} {n : Nat} (h : ∀ i j, i < n → j < n → itF f bo i = itF f bo j → i = j) : (keysT f bo n).Nodup := by
  unfold keysT List.Nodup
  rw [List.pairwise_map]
  exact List.nodup_range.imp_of_mem fun {a b} ha hb ne e => ne (h a b (List.mem_range.mp ha) (List.mem_range.mp hb) e)
theorem keysT_get {f : List Int → List Int} {bo : List Int} {n j : Nat} (hj : j < n) : (keysT f bo n)[j]? = some (itF f bo j) := by
  unfold keysT
  rw [List.getElem?_map, List.getElem?_range hj]
  rfl
theorem mem_keysT {f : List Int → List Int} {bo : List Int} {n : Nat} {x : List Int} : x ∈ keysT f bo n ↔ ∃ j, j < n ∧ itF f bo j = x := by
  unfold keysT
  simp
/-- the bound: as many as there are burdens -/
theorem keys_few {B : Book} {m : Int} {ks : List Nat} {es : List (Nat × Nat)} {bo : List Int} (bk : BookOk m B) (ev : EvKs m ks es) (ok : BoOk B.s ks.length bo) (n5 : ks.length ≤ 5) {n : Nat} (h : ∀ i j, i < n → j < n → itF (ovN B ks es) bo i = itF (ovN B ks es) bo j → i = j) : n ≤ 7776 := by
  have h1 := nodup_leS (keysT (ovN B ks es) bo n) (allBu B.s.toNat ks.length) (keysT_nodup h) fun x hx => by
    obtain ⟨j, _, rfl⟩ := mem_keysT.mp hx
    have o := itOv_ok bk ev ok j
    have := bk.s1
    exact mem_allBu o.len fun y hy => by
      have := o.inn y hy
      omega
  rw [allBu_len] at h1
  have l1 : (keysT (ovN B ks es) bo n).length = n := by unfold keysT; simp
  have := bk.s1
  have := bk.s6
  have h2 : B.s.toNat ^ ks.length ≤ 6 ^ ks.length := Nat.pow_le_pow_left (by omega) _
  have h3 : 6 ^ ks.length ≤ 6 ^ 5 := Nat.pow_le_pow_right (by decide) n5
  omega
theorem inj_succ {α : Type} {f : α → α} {b : α} {n : Nat} (h : ∀ i j, i < n → j < n → itF f b i = itF f b j → i = j) (c : ∀ j, j < n → itF f b j ≠ itF f b n) : ∀ i j, i < n + 1 → j < n + 1 → itF f b i = itF f b j → i = j := fun i j hi hj e => by
  by_cases ci : i < n
  · by_cases cj : j < n
    · exact h i j ci cj e
    · have : j = n := by omega
      subst this
      exact absurd e (c i ci)
  · have : i = n := by omega
    subst this
    by_cases cj : j < i
    · exact absurd e.symm (c j cj)
    · omega
def trailD (f : List Int → List Int) (bo : List Int) (n first : Nat) : PyData := .tuple [.list ((keysT f bo n).map dK), nD first]
def psp_trail_of : PSp := fun as Q _ => ∃ (B : Book) (m : Int) (ks : List Nat) (X : PyData) (ms : List Mt) (bo : List Int), as = [.im (dB B), .im (.tuple (dN ks)), .im X, .im (dK bo)] ∧ seqD X = some (ms.map toldD) ∧ BookOk m B ∧ EvKs m ks (ms.map evM) ∧ BoOk B.s ks.length bo ∧ ks.length ≤ 5 ∧
  ∀ n first : Nat, Rho (ovN B ks (ms.map evM)) bo n first → n ≤ 7776 → Q (.im (trailD (ovN B ks (ms.map evM)) bo n first)) [.un, .un, .un, .un]
theorem hp_trail_of (as : List Sl) (Qp : QE) (Ep : EX) (h : psp_trail_of as Qp Ep) : p_trail_of (endsP as Qp) (as ++ List.replicate 1 .un) := by
  obtain ⟨B, m, ks, X, ms, bo, rfl, hX, bk, ev, ok, n5, q⟩ := h
  have z24 : (10000 : Nat) < sizeLine := by decide
  refine ⟨_, _, rfl, ?_⟩
  show pr_trail_of_3 _ (stTr B ks X bo [] 0)
  generalize hf : ovN B ks (ms.map evM) = f at q
  refine ⟨fun mm δ => ∃ n, mm + n = 7777 ∧ (∀ i j, i < n → j < n → itF f bo i = itF f bo j → i = j) ∧ δ = stTr B ks X (itF f bo n) (keysT f bo n) n, ⟨7777, 0, rfl, fun i j h => absurd h (Nat.not_lt_zero i), rfl⟩, ?_⟩
  rintro mm δ ⟨n, hm, inj, rfl⟩
  have hn : n ≤ 7776 := by subst hf; exact keys_few bk ev ok n5 inj
  by_cases c : itF f bo n ∈ keysT f bo n
  · obtain ⟨j, hj, e⟩ := mem_keysT.mp c
    refine ⟨4, _, _, _, _, _, itF f bo n, true, rfl, rfl, rfl, ⟨fun _ => c, fun _ => rfl⟩, _, rfl, ?_⟩
    refine ⟨4, _, _, _, _, rfl, rfl, 4, _, _, _, _, _, j, itF f bo n, nD j, rfl, rfl, rfl, by rw [keysT_get hj, e], ?_, ?_⟩
    · show (dN (List.range n))[j]? = some (nD j)
      exact dN_get (List.getElem?_range hj)
    · exact ⟨_, _, rfl, q n j ⟨inj, e.symm, hj⟩ hn⟩
  · have inj2 := inj_succ inj fun j hj e => c (mem_keysT.mpr ⟨j, hj, e⟩)
    refine ⟨4, _, _, _, _, _, itF f bo n, false, rfl, rfl, rfl, ⟨fun z => absurd z (by decide), fun z => absurd z c⟩, _, rfl, ?_⟩
    refine ⟨4, _, _, _, _, rfl, rfl, _, _, rfl, 4, _, _, _, _, itF f bo n, rfl, rfl, rfl, ?_, .inl ⟨c, ?_⟩⟩
    · show (keysT f bo n).length < sizeLine
      unfold keysT
      rw [List.length_map, List.length_range]
      omega
    · have l1 : (keysT f bo n).length = n := by unfold keysT; simp
      have e1 : dN (List.range n) ++ [PyData.int (((keysT f bo n).length : Nat) : Int)] = dN (List.range (n + 1)) := by
        rw [l1, List.range_succ, dN_app]
        rfl
      show pr_trail_of_1 _ [.im (dB B), .im (.tuple (dN ks)), .im X, .im (dK (itF f bo n)), .ow false (.dct false (keysT f bo n ++ [itF f bo n]) (dN (List.range n) ++ [PyData.int (((keysT f bo n).length : Nat) : Int)]))]
      rw [e1, ← keysT_succ]
      refine ⟨_, _, rfl, _, _, rfl, _, _, rfl, _, _, rfl, _, rfl, List.nodup_nil, B, m, ks, X, ms, itF f bo n, rfl, hX, bk, ev, by subst hf; exact itOv_ok bk ev ok n, by omega, ?_⟩
      rw [hf]
      exact ⟨_, _, rfl, mm - 1, by omega, n + 1, by omega, inj2, rfl⟩
/-! ### borne_after -/
-- DEF borne_after N ['book', 'kinds', 'met', 'burdens', 'rounds', 'trail', 'first'] calls ['trail_of'] takes []
def pr_bafter_1 : PSx :=
    pRet (pIx (pVar 5) (pAdd (pVar 6) (pMod (pSub (pVar 4) (pVar 6)) (pSub (pC (q1 fLen) (pCons (pVar 5) (pNil))) (pVar 6)))))
def pr_bafter_2 : PSx :=
    pSeq (pIf (pT (pLt (pVar 4) (pVar 6))) (pRet (pIx (pVar 5) (pVar 4))) (pNext))
    (pr_bafter_1)
def p_bafter : PSx :=
    pSeq (pAsg (pCall psp_trail_of (pCons (pFz (pVar 0)) (pCons (pFz (pVar 1)) (pCons (pFz (pVar 2)) (pCons (pFz (pVar 3)) (pNil))))) noX) (gT 2 (gsC (gN 5) (gsC (gN 6) (gsN)))))
    (pr_bafter_2)
def psp_bafter : PSp := fun as Q _ => ∃ (B : Book) (m : Int) (ks : List Nat) (X : PyData) (ms : List Mt) (bo : List Int) (r : Nat), as = [.im (dB B), .im (.tuple (dN ks)), .im X, .im (dK bo), .im (nD r)] ∧ seqD X = some (ms.map toldD) ∧ BookOk m B ∧ EvKs m ks (ms.map evM) ∧ BoOk B.s ks.length bo ∧ ks.length ≤ 5 ∧
  Q (.im (dK (itF (ovN B ks (ms.map evM)) bo r))) [.un, .un, .un, .un, .un]
theorem hp_bafter (as : List Sl) (Qp : QE) (Ep : EX) (h : psp_bafter as Qp Ep) : p_bafter (endsP as Qp) (as ++ List.replicate 2 .un) := by
  obtain ⟨B, m, ks, X, ms, bo, r, rfl, hX, bk, ev, ok, n5, q⟩ := h
  refine ⟨_, _, rfl, _, _, rfl, _, _, rfl, _, _, rfl, _, rfl, List.nodup_nil, B, m, ks, X, ms, bo, rfl, hX, bk, ev, ok, n5, fun n k rho hn => ?_⟩
  generalize ovN B ks (ms.map evM) = f at *
  have lt := rho.lt
  refine ⟨_, _, rfl, rfl, rfl, ?_⟩
  show pr_bafter_2 _ [.im (dB B), .im (.tuple (dN ks)), .im X, .im (dK bo), .im (nD r), .im (.list ((keysT f bo n).map dK)), .im (nD k)]
  have gk : ∀ j, j < n → ((keysT f bo n).map dK)[j]? = some (dK (itF f bo j)) := fun j hj => by
    rw [List.getElem?_map, keysT_get hj]; rfl
  have ll : ((keysT f bo n).map dK).length = n := by unfold keysT; simp
  refine ⟨trivial, _, rfl, ?_⟩
  show if decide ((r : Int) < (k : Int)) = true then _ else _
  by_cases c : r < k
  · rw [if_pos (decide_eq_true (by omega))]
    exact ⟨_, atI_of rfl (gk r (by omega)), _, _, rfl, q⟩
  · rw [if_neg (by simp; omega)]
    have e1 := rho_at rho r (by omega)
    have md : (r - k) % (n - k) < n - k := Nat.mod_lt _ (by omega)
    show pr_bafter_1 _ [.im (dB B), .im (.tuple (dN ks)), .im X, .im (dK bo), .im (nD r), .im (.list ((keysT f bo n).map dK)), .im (nD k)]
    have ix : (k : Int) + ((r : Int) - (k : Int)) % ((((keysT f bo n).map dK).length : Nat) - (k : Int)) = ((k + (r - k) % (n - k) : Nat) : Int) := by
      rw [ll, ← Int.ofNat_sub (by omega : k ≤ r), ← Int.ofNat_sub (by omega : k ≤ n)]
      rfl
    refine ⟨trivial, trivial, ?_, _, atI_of ix (gk _ (by omega)), _, _, rfl, ?_⟩
    · show (0 : Int) < (((keysT f bo n).map dK).length : Nat) - (k : Int)
      rw [ll]; omega
    · rw [e1]; exact q
/-! ### _law_over -/
-- DEF _law_over N ['_law_book_here', '_law_kinds', '_law_borne', '_law_some', '_law_here', '_law_i', '_law_j', '_law_upper', '_law_gain', '_law_c', '_law_d'] calls ['_law_told_pair'] takes []
end Pv
namespace Pv
open PySem PySem.Spec L2 Wf
/-! ### the passings of a round, as one list -/
open Classical in
noncomputable def theR (ps : List Int) (ks : List Nat) (ss : List Int) (L : Nat) : List Mt :=
  if h : ∃ out : List Mt, out.Perm (msR ps ks ss L) ∧ out.Pairwise (fun a b => ¬ soonM ks b a) then Classical.choose h else []
theorem theR_one {m : Int} {ps : List Int} {ks : List Nat} {ss : List Int} {L : Nat} (ok : RgOk m ps ks ss L) {out : List Mt} (po : out.Perm (msR ps ks ss L)) (so : out.Pairwise (fun a b => ¬ soonM ks b a)) : out = theR ps ks ss L := by
  have h : ∃ out : List Mt, out.Perm (msR ps ks ss L) ∧ out.Pairwise (fun a b => ¬ soonM ks b a) := ⟨out, po, so⟩
  unfold theR
  rw [dif_pos h]
  have := Classical.choose_spec h
  exact round_one ok po this.1 so this.2
structure RR52 (m : Int) (B : Book) (ks : List Nat) (ss : List Int) (L : Nat) (R : List Mt) : Prop where
  perm : R.Perm (msR B.ps ks ss L)
  ev : EvKs m ks (R.map evM)
  mt : ∀ a ∈ R, MtOk ks a
  few : R.length ≤ 300
theorem rr_of {m : Int} {B : Book} {ks : List Nat} {ss : List Int} {L : Nat} (bk : BookOk m B) (ok : RgOk m B.ps ks ss L) {out : List Mt} (po : out.Perm (msR B.ps ks ss L)) : RR52 m B ks ss L out := by
  refine ⟨po, evK_of bk ok fun a ha => po.mem_iff.mp ha, fun a ha => ok.mt (po.mem_iff.mp ha), ?_⟩
  have := msI_len ok ks.length (Nat.le_refl _)
  have := ok.n5
  rw [po.length_eq]
  show (msI B.ps ks ss L ks.length).length ≤ 300
  omega
def doneM (t : Nat) (a : Mt) : Bool := decide ((a.1 : Int) ≤ (t : Int) * (a.2.1 : Int))
noncomputable abbrev roundF (B : Book) (ks : List Nat) (ss : List Int) (L : Nat) : List Int → List Int := ovN B ks ((theR B.ps ks ss L).map evM)
noncomputable def bornR (B : Book) (ks : List Nat) (ss : List Int) (L : Nat) (bo : List Int) (t : Nat) : List Int :=
  ovN B ks (((theR B.ps ks ss L).filter (doneM (t % L))).map evM) (itF (roundF B ks ss L) bo (t / L))
def burI (r : List Wk) : List Int := r.map Prod.snd
theorem bDs_bur (r : List Wk) : PyData.tuple (bDs r) = dK (burI r) := by
  unfold burI dK
  rw [List.map_map]
  rfl
theorem bur_ok {m s : Int} {r : List Wk} (ok : RowOk m s r) : BoOk s (kindsN r).length (burI r) := by
  refine ⟨by rw [kindsN_len]; exact List.length_map _, fun x hx => ?_⟩
  obtain ⟨p, hp, rfl⟩ := List.mem_map.mp hx
  exact (ok p hp).2.2
theorem EvKs.filter {m : Int} {ks : List Nat} {R : List Mt} (h : EvKs m ks (R.map evM)) (p : Mt → Bool) : EvKs m ks ((R.filter p).map evM) := h.sub fun e he => by
  obtain ⟨a, ha, rfl⟩ := List.mem_map.mp he
  exact List.mem_map.mpr ⟨a, (List.mem_filter.mp ha).1, rfl⟩
/-! ### round_burdens -/
-- DEF round_burdens N ['book', 'row', 'spots', 'long', 'beat', 'kinds', 'met', 'burdens', 'done', 'rounds', 'rest', 'passing'] calls ['kinds_of', 'round_passings', 'borne_after', 'burdens_of', 'is_done_by', 'borne_behind'] takes []
def pe_rburdens_1 : PX :=
    pVar 11
def pr_rburdens_1 : PSx :=
    pRet (pCall psp_bbehind (pCons (pFz (pVar 0)) (pCons (pFz (pVar 5)) (pCons (pFz (pVar 8)) (pCons (pFz (pVar 7)) (pNil))))) noX)
def pr_rburdens_2 : PSx :=
    pSeq (pSet 8 (pComp (iSeq (pVar 6)) (gN 11) (pT (pCall psp_is_done_by (pCons (pFz (pIx (pVar 11) (pK (.int 0)))) (pCons (pFz (pVar 10)) (pNil))) noX)) (pe_rburdens_1) [11]))
    (pr_rburdens_1)
def pr_rburdens_3 : PSx :=
    pSeq (pSet 7 (pCall psp_bafter (pCons (pFz (pVar 0)) (pCons (pFz (pVar 5)) (pCons (pFz (pVar 6)) (pCons (pFz (pCall psp_burdens_of (pCons (pFz (pVar 1)) (pNil)) noX)) (pCons (pFz (pVar 9)) (pNil)))))) noX))
    (pr_rburdens_2)
def pr_rburdens_4 : PSx :=
    pSeq (pAsg (pC (q2 fDivmod) (pCons (pVar 4) (pCons (pVar 3) (pNil)))) (gT 2 (gsC (gN 9) (gsC (gN 10) (gsN)))))
    (pr_rburdens_3)
def pr_rburdens_5 : PSx :=
    pSeq (pSet 6 (pCall psp_round_passings (pApp (pCons (pFz (pVar 0)) (pCons (pFz (pVar 5)) (pCons (pFz (pVar 2)) (pNil)))) (pCons (pFz (pVar 3)) (pNil))) noX))
    (pr_rburdens_4)
def p_rburdens : PSx :=
    pSeq (pSet 5 (pCall psp_kinds_of (pCons (pFz (pVar 1)) (pNil)) noX))
    (pr_rburdens_5)
abbrev stRb (B : Book) (r : List Wk) (ss : List Int) (L t : Nat) (s6 s7 s8 s9 s10 : Sl) : List Sl := [.im (dB B), .im (dR r), .im (dK ss), .im (nD L), .im (nD t), .im (.tuple (dN (kindsN r))), s6, s7, s8, s9, s10, .un]
def psp_rburdens : PSp := fun as Q _ => ∃ (B : Book) (m : Int) (r : List Wk) (ss : List Int) (L t : Nat), as = [.im (dB B), .im (dR r), .im (dK ss), .im (nD L), .im (nD t)] ∧ BookOk m B ∧ RowOk m B.s r ∧ RgOk m B.ps (kindsN r) ss L ∧
  (BoOk B.s (kindsN r).length (bornR B (kindsN r) ss L (burI r) t) → Q (.im (dK (bornR B (kindsN r) ss L (burI r) t))) [.un, .un, .un, .un, .un])
theorem hp_rburdens (as : List Sl) (Qp : QE) (Ep : EX) (h : psp_rburdens as Qp Ep) : p_rburdens (endsP as Qp) (as ++ List.replicate 7 .un) := by
  obtain ⟨B, m, r, ss, L, t, rfl, bk, ok, rg, q⟩ := h
  have n5 := rg.n5
  have kl := kindsN_len r
  have l1 := rg.sp.l1
  have l2 := rg.sp.l2
  have z24 : (10000 : Nat) < sizeLine := by decide
  refine ⟨_, _, rfl, _, rfl, List.nodup_nil, m, B.s, r, rfl, ok, by omega, _, _, rfl, ?_⟩
  show pr_rburdens_5 _ (stRb B r ss L t .un .un .un .un .un)
  refine ⟨_, _, rfl, _, _, rfl, _, _, rfl, _, _, rfl, _, rfl, List.nodup_nil, m, B.ps, _, kindsN r, ss, L, rfl, rg, fun out po so => ?_⟩
  have rr := rr_of bk rg po
  have ev := rr.ev
  have bo := bur_ok ok
  have q : Qp (.im (dK (ovN B (kindsN r) ((out.filter (doneM (t % L))).map evM) (itF (ovN B (kindsN r) (out.map evM)) (burI r) (t / L))))) [.un, .un, .un, .un, .un] := by
    have e := theR_one rg po so
    unfold bornR roundF at q
    rw [← e] at q
    exact q (ovN_ok bk (ev.filter _) (itOv_ok bk ev bo _))
  refine ⟨_, _, rfl, ?_⟩
  show pr_rburdens_4 _ (stRb B r ss L t (.im (.tuple (out.map toldD))) .un .un .un .un)
  refine ⟨⟨by omega, by omega⟩, _, _, rfl, rfl, rfl, ?_⟩
  show pr_rburdens_3 _ (stRb B r ss L t (.im (.tuple (out.map toldD))) .un .un (.im (nD (t / L))) (.im (nD (t % L))))
  refine ⟨_, _, rfl, _, _, rfl, _, _, rfl, _, _, rfl, _, rfl, List.nodup_nil, r, rfl, by omega, ?_⟩
  rw [bDs_bur]
  refine ⟨_, _, rfl, _, _, rfl, _, rfl, List.nodup_nil, B, m, kindsN r, _, out, burI r, t / L, rfl, rfl, bk, ev, bo, n5, _, _, rfl, ?_⟩
  have bo2 := itOv_ok bk ev bo (t / L)
  generalize itF (ovN B (kindsN r) (out.map evM)) (burI r) (t / L) = b2 at *
  show pr_rburdens_2 _ (stRb B r ss L t (.im (.tuple (out.map toldD))) (.im (dK b2)) .un (.im (nD (t / L))) (.im (nD (t % L))))
  refine ⟨_, _, _, rfl, rfl, noPin1 (fun o => nofun), fun i acc δ => acc = ((out.take i).filter (doneM (t % L))).map toldD ∧ δ = stRb B r ss L t (.im (.tuple (out.map toldD))) (.im (dK b2)) .un (.im (nD (t / L))) (.im (nD (t % L))), ⟨rfl, rfl⟩, ?_, ?_⟩
  · rintro i d acc δ hd ⟨rfl, rfl⟩
    rw [List.getElem?_map] at hd
    obtain ⟨a, ha, rfl⟩ := Option.map_eq_some_iff.mp hd
    have ma := rr.mt a (List.mem_of_getElem? ha)
    have tk : out.take (i + 1) = out.take i ++ [a] := by rw [List.take_add_one, ha]; rfl
    have gb : a.2.1 / Nat.gcd a.1 a.2.1 < 2 ^ 63 := Nat.lt_of_le_of_lt (Nat.le_trans (Nat.div_le_self _ _) ma.g2) (by decide)
    refine ⟨_, atI_of (j := 0) rfl rfl, _, _, rfl, _, _, rfl, _, rfl, List.nodup_nil, _, _, _, rfl, gb, _, rfl, ?_⟩
    show if decide _ = true then _ else _
    have cd : ((a.1 / Nat.gcd a.1 a.2.1 : Nat) : Int) ≤ ((t % L : Nat) : Int) * ((a.2.1 / Nat.gcd a.1 a.2.1 : Nat) : Int) ↔ (a.1 : Int) ≤ ((t % L : Nat) : Int) * (a.2.1 : Int) := done_low ma.g1
    by_cases c : (a.1 : Int) ≤ ((t % L : Nat) : Int) * (a.2.1 : Int)
    · rw [if_pos (decide_eq_true (cd.mpr c))]
      have f1 : [a].filter (doneM (t % L)) = [a] := List.filter_cons_of_pos (decide_eq_true c)
      refine ⟨_, _, rfl, ?_, ?_, rfl⟩
      · rw [List.length_map]
        have := List.length_filter_le (doneM (t % L)) (out.take i)
        rw [List.length_take] at this
        have := rr.few
        omega
      · rw [tk, List.filter_append, f1, List.map_append]; rfl
    · rw [if_neg (by rw [decide_eq_true_eq, cd]; exact c)]
      have f1 : [a].filter (doneM (t % L)) = [] := List.filter_cons_of_neg (by unfold doneM; rw [decide_eq_true_eq]; exact c)
      refine ⟨?_, rfl⟩
      rw [tk, List.filter_append, f1, List.append_nil]
  · rintro acc δ ⟨rfl, rfl⟩
    rw [List.length_map, List.take_length]
    refine ⟨_, _, rfl, ?_⟩
    show pr_rburdens_1 _ (stRb B r ss L t (.im (.tuple (out.map toldD))) (.im (dK b2)) (.ow false (.lst ((out.filter (doneM (t % L))).map toldD))) (.im (nD (t / L))) (.im (nD (t % L))))
    exact ⟨_, _, rfl, _, _, rfl, _, _, rfl, _, _, rfl, _, rfl, List.nodup_nil, B, m, kindsN r, _, out.filter (doneM (t % L)), b2, rfl, rfl, bk, ev.filter _, bo2, by omega, _, _, rfl, q⟩
end Pv
namespace Pv
open PySem PySem.Spec L2 Wf
theorem shaped_dK52 (k : List Int) : SeqAt.shaped (dK k) = true := shaped_dI k
/-! ### _law_at_beat -/
-- DEF _law_at_beat N ['_law_book_here', '_law_kinds', '_law_borne', '_law_ring_here', '_law_now', '_law_rest', '_law_size', '_law_spots', '_law_some', '_law_rounds', '_law_came', '_law_first', '_law_one'] calls ['_law_round', '_law_over'] takes []
/-! ### law -/
-- DEF law N ['_law_script', '_law_turn', '_law_deal_here', '_law_some', '_law_tome', '_law_walkers', '_law_ring_here', '_law_now', '_law_due', '_law_three', '_law_borne', '_law_one'] calls ['_law_deal', '_law_ring_book', '_law_draw', '_law_ring_row', '_law_ring', '_law_at_beat', '_law_alike', 'round_burdens'] takes []
end Pv
namespace Pv
open PySem PySem.Spec L2 Wf
/-! _law_round over a list of spots -/
end Pv
namespace Pv
open PySem PySem.Spec L2 Wf
/-! ### the road on which the walkers take every spot -/
def ss0 (n : Nat) : List Int := (List.range n).map fun i : Nat => ((i : Nat) : Int)
def L0 (n : Nat) : Nat := if n > 1 then n else 1
theorem rg_ss0 (n : Nat) : rgD 0 (n : Int) = (ss0 n).map .int := by
  unfold rgD ss0
  rw [List.map_map, show ((n : Int) - 0).toNat = n by omega]
  refine List.map_congr_left fun i _ => ?_
  show PyData.int (0 + (i : Int)) = PyData.int (i : Int)
  rw [Int.zero_add]
theorem max_L0 (n : Nat) : (if (n : Int) > 1 then (n : Int) else 1) = ((L0 n : Nat) : Int) := by
  unfold L0
  split <;> split <;> omega
theorem sp0 {n : Nat} (h : n ≤ 10) : SpR n (L0 n) (ss0 n) := by
  have l1 : 1 ≤ L0 n ∧ L0 n ≤ 10 ∧ n ≤ L0 n := by unfold L0; split <;> omega
  refine ⟨l1.1, by omega, by unfold ss0; simp, ?_, fun s hs => ?_⟩
  · unfold ss0
    rw [List.pairwise_map]
    exact List.pairwise_lt_range.imp fun h => by omega
  · unfold ss0 at hs
    obtain ⟨i, hi, rfl⟩ := List.mem_map.mp hs
    have := List.mem_range.mp hi
    omega
structure NearR (m : Int) (B : Book) (r : List Wk) : Prop where
  bk : BookOk m B
  ok : RowOk m B.s r
  n5 : r.length ≤ 5
  kn : ∀ k ∈ kindsN r, k < (nearP B.ps).length
theorem NearR.rg {m : Int} {B : Book} {r : List Wk} (h : NearR m B r) {ss : List Int} {L : Nat} (sp : SpR r.length L ss) : RgOk m B.ps (kindsN r) ss L := by
  have kl := kindsN_len r
  have := h.n5
  exact ⟨h.bk.pac, h.bk.m5, h.kn, by omega, by rw [kl]; exact sp⟩
theorem NearR.rg0 {m : Int} {B : Book} {r : List Wk} (h : NearR m B r) : RgOk m B.ps (kindsN r) (ss0 (kindsN r).length) (L0 (kindsN r).length) := by
  have := h.n5
  rw [kindsN_len]
  exact h.rg (sp0 (by omega))
/-- what so many rounds make -/
noncomputable abbrev rndF (B : Book) (ks : List Nat) : List Int → List Int := roundF B ks (ss0 ks.length) (L0 ks.length)
noncomputable def bornD (B : Book) (ks : List Nat) (bo : List Int) (n : Nat) : List Int := itF (rndF B ks) bo n
/-! ### told_round -/
-- DEF told_round N ['book', 'kinds', 'many'] calls ['round_passings'] takes []
def pr_told_round_1 : PSx :=
    pRet (pCall psp_round_passings (pApp (pCons (pFz (pVar 0)) (pCons (pFz (pVar 1)) (pCons (pFz (pTupRg (pRg1 (pVar 2)))) (pNil)))) (pCons (pFz (pC (q2 fMax2) (pCons (pK (.int 1)) (pCons (pVar 2) (pNil))))) (pNil))) noX)
def p_told_round : PSx :=
    pSeq (pSet 2 (pC (q1 fLen) (pCons (pVar 1) (pNil))))
    (pr_told_round_1)
def psp_told_round : PSp := fun as Q _ => ∃ (B : Book) (m : Int) (ks : List Nat), as = [.im (dB B), .im (.tuple (dN ks))] ∧ RgOk m B.ps ks (ss0 ks.length) (L0 ks.length) ∧
  ∀ out : List Mt, out.Perm (msR B.ps ks (ss0 ks.length) (L0 ks.length)) → out.Pairwise (fun a b => ¬ soonM ks b a) → Q (.im (.tuple (out.map toldD))) [.un, .un]
theorem hp_told_round (as : List Sl) (Qp : QE) (Ep : EX) (h : psp_told_round as Qp Ep) : p_told_round (endsP as Qp) (as ++ List.replicate 1 .un) := by
  obtain ⟨B, m, ks, rfl, rg, q⟩ := h
  have n5 := rg.n5
  have el : ((dN ks).length : Int) = (ks.length : Int) := by rw [dN_len]
  refine ⟨_, _, rfl, ?_⟩
  show pr_told_round_1 _ [.im (dB B), .im (.tuple (dN ks)), .im (.int ((dN ks).length : Nat))]
  rw [el]
  refine ⟨_, _, rfl, _, _, rfl, _, rfl, by unfold L2.RgOk; omega, ?_⟩
  rw [rg_ss0]
  refine ⟨_, _, rfl, _, _, rfl, _, rfl, List.nodup_nil, m, B.ps, [.int B.s, .tuple (B.ts.map dT)], ks, ss0 ks.length, L0 ks.length, ?_, rg, fun out po so => ⟨_, _, rfl, q out po so⟩⟩
  show _ = [Sl.im (dB B), Sl.im (.tuple (dN ks)), Sl.im (dK (ss0 ks.length)), Sl.im (nD (L0 ks.length))]
  show [Sl.im (dB B), Sl.im (.tuple (dN ks)), Sl.im (dK (ss0 ks.length)), Sl.im (.int (if (ks.length : Int) > 1 then (ks.length : Int) else 1))] = _
  rw [max_L0]
/-! ### rounds_done -/
-- DEF rounds_done N ['book', 'row', 'rounds', 'kinds'] calls ['kinds_of', 'borne_after', 'burdens_of', 'told_round'] takes []
def pr_rdone_1 : PSx :=
    pRet (pCall psp_bafter (pCons (pFz (pVar 0)) (pCons (pFz (pVar 3)) (pCons (pFz (pCall psp_told_round (pCons (pFz (pVar 0)) (pCons (pFz (pVar 3)) (pNil))) noX)) (pCons (pFz (pCall psp_burdens_of (pCons (pFz (pVar 1)) (pNil)) noX)) (pCons (pFz (pVar 2)) (pNil)))))) noX)
def p_rdone : PSx :=
    pSeq (pSet 3 (pCall psp_kinds_of (pCons (pFz (pVar 1)) (pNil)) noX))
    (pr_rdone_1)
def psp_rdone : PSp := fun as Q _ => ∃ (B : Book) (m : Int) (r : List Wk) (n : Nat), as = [.im (dB B), .im (dR r), .im (nD n)] ∧ NearR m B r ∧
  (BoOk B.s (kindsN r).length (bornD B (kindsN r) (burI r) n) → Q (.im (dK (bornD B (kindsN r) (burI r) n))) [.un, .un, .un])
theorem roundF_of {m : Int} {B : Book} {ks : List Nat} {ss : List Int} {L : Nat} (rg : RgOk m B.ps ks ss L) {out : List Mt} (po : out.Perm (msR B.ps ks ss L)) (so : out.Pairwise (fun a b => ¬ soonM ks b a)) : roundF B ks ss L = ovN B ks (out.map evM) := by
  unfold roundF
  rw [← theR_one rg po so]
theorem hp_rdone (as : List Sl) (Qp : QE) (Ep : EX) (h : psp_rdone as Qp Ep) : p_rdone (endsP as Qp) (as ++ List.replicate 1 .un) := by
  obtain ⟨B, m, r, n, rfl, nr, q⟩ := h
  have n5 := nr.n5
  have kl := kindsN_len r
  have rg := nr.rg0
  refine ⟨_, _, rfl, _, rfl, List.nodup_nil, m, B.s, r, rfl, nr.ok, by omega, _, _, rfl, ?_⟩
  show pr_rdone_1 _ [.im (dB B), .im (dR r), .im (nD n), .im (.tuple (dN (kindsN r)))]
  refine ⟨_, _, rfl, _, _, rfl, _, _, rfl, _, _, rfl, _, rfl, List.nodup_nil, B, m, kindsN r, rfl, rg, fun out po so => ?_⟩
  have rr := rr_of nr.bk rg po
  have ev := rr.ev
  have bo := bur_ok nr.ok
  have er := roundF_of rg po so
  unfold bornD rndF at q
  rw [er] at q
  refine ⟨_, _, rfl, _, _, rfl, _, rfl, List.nodup_nil, r, rfl, by omega, ?_⟩
  rw [bDs_bur]
  exact ⟨_, _, rfl, _, _, rfl, _, rfl, List.nodup_nil, B, m, kindsN r, _, out, burI r, n, rfl, rfl, nr.bk, ev, bo, by omega, _, _, rfl, q (itOv_ok nr.bk ev bo n)⟩
end Pv
namespace Pv
open PySem PySem.Spec L2 Wf
/-! ### comes_again -/
-- DEF comes_again N ['book', 'row', 'kinds', 'trail', 'first'] calls ['kinds_of', 'trail_of', 'burdens_of', 'told_round'] takes []
def pr_comes_1 : PSx :=
    pRet (pTup (pCons (pVar 4) (pCons (pSub (pC (q1 fLen) (pCons (pVar 3) (pNil))) (pVar 4)) (pNil))))
def pr_comes_2 : PSx :=
    pSeq (pAsg (pCall psp_trail_of (pCons (pFz (pVar 0)) (pCons (pFz (pVar 2)) (pCons (pFz (pCall psp_told_round (pCons (pFz (pVar 0)) (pCons (pFz (pVar 2)) (pNil))) noX)) (pCons (pFz (pCall psp_burdens_of (pCons (pFz (pVar 1)) (pNil)) noX)) (pNil))))) noX) (gT 2 (gsC (gN 3) (gsC (gN 4) (gsN)))))
    (pr_comes_1)
def p_comes : PSx :=
    pSeq (pSet 2 (pCall psp_kinds_of (pCons (pFz (pVar 1)) (pNil)) noX))
    (pr_comes_2)
def psp_comes : PSp := fun as Q _ => ∃ (B : Book) (m : Int) (r : List Wk), as = [.im (dB B), .im (dR r)] ∧ NearR m B r ∧
  ∀ n k : Nat, Rho (rndF B (kindsN r)) (burI r) n k → n ≤ 7776 → Q (.im (.tuple [nD k, nD (n - k)])) [.un, .un]
theorem hp_comes (as : List Sl) (Qp : QE) (Ep : EX) (h : psp_comes as Qp Ep) : p_comes (endsP as Qp) (as ++ List.replicate 3 .un) := by
  obtain ⟨B, m, r, rfl, nr, q⟩ := h
  have n5 := nr.n5
  have kl := kindsN_len r
  have rg := nr.rg0
  refine ⟨_, _, rfl, _, rfl, List.nodup_nil, m, B.s, r, rfl, nr.ok, by omega, _, _, rfl, ?_⟩
  show pr_comes_2 _ [.im (dB B), .im (dR r), .im (.tuple (dN (kindsN r))), .un, .un]
  refine ⟨_, _, rfl, _, _, rfl, _, _, rfl, _, _, rfl, _, rfl, List.nodup_nil, B, m, kindsN r, rfl, rg, fun out po so => ?_⟩
  have rr := rr_of nr.bk rg po
  have ev := rr.ev
  have bo := bur_ok nr.ok
  have er := roundF_of rg po so
  unfold rndF at q
  rw [er] at q
  refine ⟨_, _, rfl, _, _, rfl, _, rfl, List.nodup_nil, r, rfl, by omega, ?_⟩
  rw [bDs_bur]
  refine ⟨_, _, rfl, _, rfl, List.nodup_nil, B, m, kindsN r, _, out, burI r, rfl, rfl, nr.bk, ev, bo, by omega, fun n k rho hn => ⟨_, _, rfl, rfl, rfl, ?_⟩⟩
  generalize ovN B (kindsN r) (out.map evM) = f at *
  have lt := rho.lt
  show pr_comes_1 _ [.im (dB B), .im (dR r), .im (.tuple (dN (kindsN r))), .im (.list ((keysT f (burI r) n).map dK)), .im (nD k)]
  have ll : ((keysT f (burI r) n).map dK).length = n := by unfold keysT; simp
  have e1 : ((((keysT f (burI r) n).map dK).length : Nat) : Int) - (k : Int) = ((n - k : Nat) : Int) := by rw [ll]; omega
  refine ⟨trivial, _, _, rfl, ?_⟩
  have q := q n k rho hn
  show Qp (.im (.tuple [nD k, .int (((((keysT f (burI r) n).map dK).length : Nat) : Int) - (k : Int))])) [.un, .un]
  rw [e1]
  exact q
end Pv
namespace Pv
open PySem PySem.Spec L2 Wf
/-! ### walkers told in another order -/
def pick {α : Type} (d : α) (sg : List Nat) (xs : List α) : List α := sg.map fun i => xs.getD i d
abbrev at0N (sg : List Nat) (i : Nat) : Nat := sg.getD i 0
theorem pick_len {α : Type} {d : α} {sg : List Nat} {xs : List α} : (pick d sg xs).length = sg.length := List.length_map _
theorem pick_get {α : Type} {d : α} {sg : List Nat} {xs : List α} {i : Nat} (h : i < sg.length) : (pick d sg xs).getD i d = xs.getD (at0N sg i) d := by
  unfold pick at0N
  simp [List.getD, List.getElem?_map, List.getElem?_eq_getElem h]
theorem getD_set {α : Type} {d v : α} {xs : List α} {i j : Nat} (h : i < xs.length) : (xs.set i v).getD j d = if i = j then v else xs.getD j d := by
  simp only [List.getD, List.getElem?_set]
  split
  · rename_i e; subst e; simp [h]
  · rfl
theorem getD_setne {α : Type} {d v : α} {xs : List α} {i j : Nat} (h : i ≠ j) : (xs.set i v).getD j d = xs.getD j d := by
  simp [List.getD, List.getElem?_set, h]
structure Sg (n : Nat) (sg : List Nat) : Prop where
  pm : sg.Perm (List.range n)
namespace Sg
variable {n : Nat} {sg : List Nat}
theorem len (h : Sg n sg) : sg.length = n := by rw [h.pm.length_eq, List.length_range]
theorem nd (h : Sg n sg) : sg.Nodup := h.pm.nodup_iff.mpr List.nodup_range
theorem lt (h : Sg n sg) {i : Nat} (hi : i < n) : at0N sg i < n := by
  have : i < sg.length := by rw [h.len]; exact hi
  have m := getDm (d := 0) this
  exact List.mem_range.mp (h.pm.mem_iff.mp m)
theorem inj (h : Sg n sg) {i j : Nat} (hi : i < n) (hj : j < n) (e : at0N sg i = at0N sg j) : i = j := by
  have li : i < sg.length := by rw [h.len]; exact hi
  have lj : j < sg.length := by rw [h.len]; exact hj
  unfold at0N at e
  rw [List.getD_eq_getElem?_getD, List.getD_eq_getElem?_getD, List.getElem?_eq_getElem li, List.getElem?_eq_getElem lj] at e
  exact (List.getElem_inj h.nd).mp e
theorem map_at (h : Sg n sg) : (List.range n).map (at0N sg) = sg := by
  refine List.ext_getElem (by rw [List.length_map, List.length_range, h.len]) fun i h1 h2 => ?_
  rw [List.getElem_map, List.getElem_range]
  unfold at0N
  rw [List.getD_eq_getElem?_getD, List.getElem?_eq_getElem h2]
  rfl
end Sg
/-! ### two lists of deeds, sorted but for ties that may change places -/
theorem fold_tr {α β : Type} (f : β → α → β) (R : α → α → Prop) : ∀ (l1 l2 : List α), l1.Perm l2 → l1.Pairwise (fun a b => ¬ R b a) → l2.Pairwise (fun a b => ¬ R b a) →
    (∀ a ∈ l1, ∀ b ∈ l1, ¬ R a b → ¬ R b a → ∀ s, f (f s a) b = f (f s b) a) → ∀ s, l1.foldl f s = l2.foldl f s
  | [], l2, p, _, _, _, s => by rw [p.nil_eq.symm]
  | a :: l1, l2, p, p1, p2, c, s => by
    obtain ⟨u, v, rfl⟩ := List.append_of_mem (p.mem_iff.mp List.mem_cons_self)
    have q1 := List.pairwise_cons.mp p1
    have q2 := List.pairwise_append.mp p2
    have pm : l1.Perm (u ++ v) := (p.trans List.perm_middle).cons_inv
    have hu : ∀ x ∈ u, ∀ s, f (f s a) x = f (f s x) a := fun x hx s => by
      have xl : x ∈ l1 := pm.mem_iff.mpr (List.mem_append_left _ hx)
      exact c a List.mem_cons_self x (List.mem_cons_of_mem _ xl) (q2.2.2 x hx a List.mem_cons_self) (q1.1 x xl) s
    have mv : ∀ (u : List α), (∀ x ∈ u, ∀ s, f (f s a) x = f (f s x) a) → ∀ s, u.foldl f (f s a) = f (u.foldl f s) a := by
      intro u
      induction u with
      | nil => intro _ s; rfl
      | cons x u ih =>
        intro hu s
        show u.foldl f (f (f s a) x) = f (u.foldl f (f s x)) a
        rw [hu x List.mem_cons_self, ih (fun y hy => hu y (List.mem_cons_of_mem _ hy))]
    rw [List.foldl_append, List.foldl_cons, List.foldl_cons, ← mv u hu, ← List.foldl_append]
    exact fold_tr f R l1 (u ++ v) pm q1.2 (List.pairwise_append.mpr ⟨q2.1, (List.pairwise_cons.mp q2.2.1).2, fun x hx y hy => q2.2.2 x hx y (List.mem_cons_of_mem _ hy)⟩) (fun x hx y hy => c x (List.mem_cons_of_mem _ hx) y (List.mem_cons_of_mem _ hy)) (f s a)
/-! ### such a sorted list there is -/
theorem theR_ok {m : Int} {ps : List Int} {ks : List Nat} {ss : List Int} {L : Nat} (ok : RgOk m ps ks ss L) : (theR ps ks ss L).Perm (msR ps ks ss L) ∧ (theR ps ks ss L).Pairwise (fun a b => ¬ soonM ks b a) := by
  have h : ∃ out : List Mt, out.Perm (msR ps ks ss L) ∧ out.Pairwise (fun a b => ¬ soonM ks b a) := by
    let le : Mt → Mt → Bool := fun a b => !HT.lexLt (keyM ks W12 b) (keyM ks W12 a)
    have le_iff : ∀ a b, le a b = true ↔ HT.lexLt (keyM ks W12 b) (keyM ks W12 a) = false := fun a b => by simp [le]
    have pm := List.mergeSort_perm (msR ps ks ss L) le
    have so := List.pairwise_mergeSort (le := le) (fun a b c h1 h2 => (le_iff a c).mpr (LexS.lex_tr _ _ _ ((le_iff a b).mp h1) ((le_iff b c).mp h2))) (fun a b => by
      cases e : HT.lexLt (keyM ks W12 b) (keyM ks W12 a) with
      | false => rw [(le_iff a b).mpr e]; rfl
      | true => rw [(le_iff b a).mpr (LexS.lex_asym _ _ e)]; simp) (msR ps ks ss L)
    refine ⟨_, pm, so.imp_of_mem fun {a b} ha hb z => ?_⟩
    have ga := fun {a : Mt} (ha : a ∈ msR ps ks ss L) => show 1 ≤ a.2.1 ∧ a.2.1 ∣ W12 by
      obtain ⟨i, j, x, hi, hj, hx, rfl⟩ := mem_msR ha
      have := ok.gap hi hj
      have g1 : 1 ≤ gpN ps ks i j := by omega
      exact ⟨g1, w12_dvd g1 this⟩
    have a1 := ga (pm.mem_iff.mp ha)
    have b1 := ga (pm.mem_iff.mp hb)
    exact key_soon (by decide) a1.1 b1.1 a1.2 b1.2 ((le_iff a b).mp z)
  unfold theR
  rw [dif_pos h]
  exact Classical.choose_spec h
theorem flat_congr {α β : Type} {f g : α → List β} : ∀ {l : List α}, (∀ a ∈ l, f a = g a) → l.flatMap f = l.flatMap g
  | [], _ => rfl
  | a :: l, h => by rw [List.flatMap_cons, List.flatMap_cons, h a List.mem_cons_self, flat_congr fun x hx => h x (List.mem_cons_of_mem _ hx)]
theorem flat_perm {α β : Type} {f g : α → List β} : ∀ {l : List α}, (∀ a ∈ l, (f a).Perm (g a)) → (l.flatMap f).Perm (l.flatMap g)
  | [], _ => .nil
  | a :: l, h => by rw [List.flatMap_cons, List.flatMap_cons]; exact (h a List.mem_cons_self).append (flat_perm fun x hx => h x (List.mem_cons_of_mem _ hx))
/-! ### a setting of the same walkers, told in another order, each as far behind each other as before -/
structure RenR (ps : List Int) (ks : List Nat) (ss : List Int) (ks' : List Nat) (ss' : List Int) (L : Nat) (sg : List Nat) : Prop where
  ok : Sg ks.length sg
  kk : ks' = pick 0 sg ks
  way : ∀ i j, i < ks.length → j < ks.length → wyN ss' L i j = wyN ss L (at0N sg i) (at0N sg j)
def reM (sg : List Nat) (a : Mt) : Mt := (a.1, a.2.1, at0N sg a.2.2.1, at0N sg a.2.2.2)
namespace RenR
variable {m : Int} {ps ss ss' : List Int} {ks ks' : List Nat} {L : Nat} {sg : List Nat} {B : Book}
theorem len (h : RenR ps ks ss ks' ss' L sg) : ks'.length = ks.length := by rw [h.kk, pick_len, h.ok.len]
theorem kat (h : RenR ps ks ss ks' ss' L sg) {i : Nat} (hi : i < ks.length) : ks'.getD i 0 = ks.getD (at0N sg i) 0 := by rw [h.kk, pick_get (by rw [h.ok.len]; exact hi)]
theorem gp (h : RenR ps ks ss ks' ss' L sg) {i j : Nat} (hi : i < ks.length) (hj : j < ks.length) : gpN ps ks' i j = gpN ps ks (at0N sg i) (at0N sg j) := by
  show (ps.getD (ks'.getD i 0) 0 - ps.getD (ks'.getD j 0) 0).toNat = (ps.getD (ks.getD _ 0) 0 - ps.getD (ks.getD _ 0) 0).toNat
  rw [h.kat hi, h.kat hj]
theorem perm (h : RenR ps ks ss ks' ss' L sg) : ((msR ps ks' ss' L).map (reM sg)).Perm (msR ps ks ss L) := by
  let G : Nat → Nat → List Mt := fun i j => (List.range (gpN ps ks i j)).map (mtR ps ks ss L i j)
  have e1 : (msR ps ks' ss' L).map (reM sg) = sg.flatMap fun i => sg.flatMap fun j => G i j := by
    conv => rhs; rw [← h.ok.map_at]
    unfold msR msI msJ
    rw [h.len, List.map_flatMap, List.flatMap_map]
    refine flat_congr fun i hi => ?_
    rw [List.map_flatMap, List.flatMap_map]
    refine flat_congr fun j hj => ?_
    have hi := List.mem_range.mp hi
    have hj := List.mem_range.mp hj
    rw [List.map_map, h.gp hi hj]
    refine List.map_congr_left fun x _ => ?_
    show (wyN ss' L i j + x * L, gpN ps ks' i j, _, _) = (wyN ss L (at0N sg i) (at0N sg j) + x * L, gpN ps ks (at0N sg i) (at0N sg j), _, _)
    rw [h.way i j hi hj, h.gp hi hj]
    rfl
  rw [e1]
  show (List.flatMap _ sg).Perm ((List.range ks.length).flatMap fun i => (List.range ks.length).flatMap fun j => G i j)
  exact (h.ok.pm.flatMap_right _).trans (flat_perm fun i _ => h.ok.pm.flatMap_right _)
/-- the pairs that meet at one moment, of the same kinds, are apart -/
theorem apartM (rg : RgOk m ps ks ss L) {a b : Mt} (ha : ∃ i j x, i < ks.length ∧ j < ks.length ∧ 1 ≤ gpN ps ks i j ∧ a = mtR ps ks ss L i j x) (hb : ∃ i j x, i < ks.length ∧ j < ks.length ∧ 1 ≤ gpN ps ks i j ∧ b = mtR ps ks ss L i j x) (e0 : a.1 * b.2.1 = b.1 * a.2.1) (ei : ks.getD a.2.2.1 0 = ks.getD b.2.2.1 0) (ej : ks.getD a.2.2.2 0 = ks.getD b.2.2.2 0) :
    a = b ∨ a.2.2.1 ≠ b.2.2.1 ∧ a.2.2.1 ≠ b.2.2.2 ∧ a.2.2.2 ≠ b.2.2.1 ∧ a.2.2.2 ≠ b.2.2.2 ∧ a.2.2.1 ≠ a.2.2.2 ∧ b.2.2.1 ≠ b.2.2.2 := by
  obtain ⟨i, j, x, hi, hj, hx, rfl⟩ := ha
  obtain ⟨i', j', x', hi', hj', hx', rfl⟩ := hb
  have e0 : (wyN ss L i j + x * L) * gpN ps ks i' j' = (wyN ss L i' j' + x' * L) * gpN ps ks i j := e0
  have ei : ks.getD i 0 = ks.getD i' 0 := ei
  have ej : ks.getD j 0 = ks.getD j' 0 := ej
  have eg : gpN ps ks i' j' = gpN ps ks i j := by
    show (ps.getD (ks.getD i' 0) 0 - ps.getD (ks.getD j' 0) 0).toNat = (ps.getD (ks.getD i 0) 0 - ps.getD (ks.getD j 0) 0).toNat
    rw [ei, ej]
  have kl : ks.getD j 0 < ks.getD i 0 := by
    by_cases c : ks.getD j 0 < ks.getD i 0
    · exact c
    · have := rg.gap0 hi hj c
      omega
  rw [eg] at e0
  have e1 := Nat.eq_of_mul_eq_mul_right (show 0 < gpN ps ks i j by omega) e0
  have w1 := rg.way i j
  have w2 := rg.way i' j'
  have l1 := rg.sp.l1
  have ew : wyN ss L i j = wyN ss L i' j' := by
    have z : (wyN ss L i j + x * L) % L = (wyN ss L i' j' + x' * L) % L := by rw [e1]
    rw [Nat.add_mul_mod_self_right, Nat.add_mul_mod_self_right, Nat.mod_eq_of_lt w1.2, Nat.mod_eq_of_lt w2.2] at z
    exact z
  have ex : x = x' := by
    rw [ew] at e1
    exact Nat.eq_of_mul_eq_mul_right (show 0 < L by omega) (show x * L = x' * L by omega)
  have em : (sf ss j - sf ss i) % (L : Int) = (sf ss j' - sf ss i') % (L : Int) := by rw [w1.1, w2.1, ew]
  have one : ∀ a b, a < ks.length → b < ks.length → sf ss a % (L : Int) = sf ss b % (L : Int) → a = b := fun a b ha hb e => by
    have la : a < ss.length := by rw [rg.sp.len]; exact ha
    have lb : b < ss.length := by rw [rg.sp.len]; exact hb
    have i1 := rg.sp.inn _ (getDm (d := 0) la)
    have i2 := rg.sp.inn _ (getDm (d := 0) lb)
    have e : ss.getD a 0 % (L : Int) = ss.getD b 0 % (L : Int) := e
    rw [Int.emod_eq_of_lt i1.1 i1.2, Int.emod_eq_of_lt i2.1 i2.2] at e
    rcases Nat.lt_trichotomy a b with z | z | z
    · have := up_get rg.sp.up z lb; omega
    · exact z
    · have := up_get rg.sp.up z la; omega
  have ij : i = i' ↔ j = j' := by
    constructor
    · rintro rfl
      refine one j j' hj hj' ?_
      have : ((sf ss j - sf ss i) % (L : Int) + sf ss i) % (L : Int) = ((sf ss j' - sf ss i) % (L : Int) + sf ss i) % (L : Int) := by rw [em]
      rw [Int.emod_add_emod, Int.emod_add_emod, Int.sub_add_cancel, Int.sub_add_cancel] at this
      exact this
    · rintro rfl
      refine one i i' hi hi' ?_
      have : (sf ss j - (sf ss j - sf ss i) % (L : Int)) % (L : Int) = (sf ss j - (sf ss j - sf ss i') % (L : Int)) % (L : Int) := by rw [em]
      rw [Int.sub_emod_emod, Int.sub_emod_emod, Int.sub_sub_self, Int.sub_sub_self] at this
      exact this
  by_cases c : i = i'
  · have := ij.mp c
    subst c this ex
    exact .inl rfl
  · refine .inr ⟨c, fun z => ?_, fun z => ?_, fun z => c (ij.mpr z), fun z => ?_, fun z => ?_⟩
    · have z : i = j' := z
      rw [← z] at ej; omega
    · have z : j = i' := z
      rw [← z] at ei; omega
    · have z : i = j := z
      rw [← z] at kl; omega
    · have z : i' = j' := z
      rw [← z] at ej
      omega
theorem apart (rg : RgOk m ps ks ss L) {a b : Mt} (ha : a ∈ msR ps ks ss L) (hb : b ∈ msR ps ks ss L) (e0 : a.1 * b.2.1 = b.1 * a.2.1) (ei : ks.getD a.2.2.1 0 = ks.getD b.2.2.1 0) (ej : ks.getD a.2.2.2 0 = ks.getD b.2.2.2 0) :
    a = b ∨ a.2.2.1 ≠ b.2.2.1 ∧ a.2.2.1 ≠ b.2.2.2 ∧ a.2.2.2 ≠ b.2.2.1 ∧ a.2.2.2 ≠ b.2.2.2 ∧ a.2.2.1 ≠ a.2.2.2 ∧ b.2.2.1 ≠ b.2.2.2 := by
  refine apartM rg ?_ ?_ e0 ei ej
  · obtain ⟨i, j, x, hi, hj, hx, e⟩ := mem_msR ha
    exact ⟨i, j, x, hi, hj, by omega, e⟩
  · obtain ⟨i, j, x, hi, hj, hx, e⟩ := mem_msR hb
    exact ⟨i, j, x, hi, hj, by omega, e⟩
theorem ov1_comm {a b : Nat × Nat} (h : a.1 ≠ b.1 ∧ a.1 ≠ b.2 ∧ a.2 ≠ b.1 ∧ a.2 ≠ b.2 ∧ a.1 ≠ a.2 ∧ b.1 ≠ b.2) (bo : List Int) : ov1 B ks (ov1 B ks bo a) b = ov1 B ks (ov1 B ks bo b) a := by
  obtain ⟨h1, h2, h3, h4, _, _⟩ := h
  obtain ⟨i, j⟩ := a
  obtain ⟨i', j'⟩ := b
  dsimp only at h1 h2 h3 h4
  unfold ov1
  dsimp only
  rw [getD_setne h1, getD_setne h3, getD_setne h2, getD_setne h4, getD_setne (Ne.symm h1), getD_setne (Ne.symm h2), getD_setne (Ne.symm h3), getD_setne (Ne.symm h4)]
  generalize (B.at _ _ (bo.getD i 0) (bo.getD j 0)) = p
  generalize (B.at _ _ (bo.getD i' 0) (bo.getD j' 0)) = p'
  rw [List.set_comm _ _ h2, List.set_comm _ _ h1]
  rw [List.set_comm (l := bo) _ _ h4]
  rw [List.set_comm _ _ h3]
/-- sooner, the numbers left out -/
def soonW (ks : List Nat) (a b : Mt) : Prop := a.1 * b.2.1 < b.1 * a.2.1 ∨ a.1 * b.2.1 = b.1 * a.2.1 ∧ (ks.getD b.2.2.1 0 < ks.getD a.2.2.1 0 ∨ ks.getD a.2.2.1 0 = ks.getD b.2.2.1 0 ∧ ks.getD b.2.2.2 0 < ks.getD a.2.2.2 0)
theorem soonW_M {a b : Mt} (h : soonW ks a b) : soonM ks a b := by
  rcases h with z | ⟨z, y⟩
  · exact .inl z
  · refine .inr ⟨z, ?_⟩
    unfold soonK
    dsimp only
    omega
end RenR
end Pv
namespace Pv
open PySem PySem.Spec L2 Wf
/-! ### all meetings till a beat -/
section
variable {m : Int} {ps ss : List Int} {ks : List Nat} {L : Nat} {B : Book}
theorem way_pos (rg : RgOk m ps ks ss L) {i j : Nat} (hi : i < ks.length) (hj : j < ks.length) (g : 1 ≤ gpN ps ks i j) : 1 ≤ wyN ss L i j := by
  rcases Nat.eq_zero_or_pos (wyN ss L i j) with z | z
  · have w1 := (rg.way i j).1
    rw [z] at w1
    have la : i < ss.length := by rw [rg.sp.len]; exact hi
    have lb : j < ss.length := by rw [rg.sp.len]; exact hj
    have i1 := rg.sp.inn _ (getDm (d := 0) la)
    have i2 := rg.sp.inn _ (getDm (d := 0) lb)
    have e : ss.getD j 0 % (L : Int) = ss.getD i 0 % (L : Int) := by
      have w1 : (ss.getD j 0 - ss.getD i 0) % (L : Int) = ((0 : Nat) : Int) := w1
      have : ((ss.getD j 0 - ss.getD i 0) % (L : Int) + ss.getD i 0) % (L : Int) = (((0 : Nat) : Int) + ss.getD i 0) % (L : Int) := by rw [w1]
      rw [Int.emod_add_emod, Int.sub_add_cancel] at this
      rw [this]
      congr 1
      omega
    rw [Int.emod_eq_of_lt i1.1 i1.2, Int.emod_eq_of_lt i2.1 i2.2] at e
    have ij : i = j := by
      rcases Nat.lt_trichotomy i j with z | z | z
      · have := up_get rg.sp.up z lb; omega
      · exact z
      · have := up_get rg.sp.up z la; omega
    subst ij
    have := rg.gap0 hi hi (Nat.lt_irrefl _)
    omega
  · exact z
/-! ### their order -/
theorem theR_in (rg : RgOk m ps ks ss L) {a : Mt} (ha : a ∈ theR ps ks ss L) : 1 ≤ a.2.1 ∧ a.1 < L * a.2.1 := by
  obtain ⟨i, j, x, hi, hj, hx, rfl⟩ := mem_msR ((theR_ok rg).1.mem_iff.mp ha)
  have w := (rg.way i j).2
  refine ⟨show 1 ≤ gpN ps ks i j by omega, ?_⟩
  show wyN ss L i j + x * L < L * gpN ps ks i j
  have := Nat.mul_le_mul_right L (show x + 1 ≤ gpN ps ks i j from hx)
  rw [Nat.add_mul] at this
  rw [Nat.mul_comm L]
  omega
end
end Pv
namespace Pv
open PySem PySem.Spec L2 Wf
/-! Books whose threes all go both ways alike: all passings lead to one last row. Words as long as may be. -/
def YbB (B : Book) (m : Int) : Prop := ∀ u v w a b c : Int, Tri m B.s u v w a b c → (B.at v w (B.at u v a b).1 (B.at u w (B.at u v a b).2 c).1).1 = (B.at u w a (B.at v w b c).1).1 ∧ (B.at v w (B.at u v a b).1 (B.at u w (B.at u v a b).2 c).1).2 = (B.at u v (B.at u w a (B.at v w b c).1).2 (B.at v w b c).2).1 ∧ (B.at u w (B.at u v a b).2 c).2 = (B.at u v (B.at u w a (B.at v w b c).1).2 (B.at v w b c).2).2
theorem mem_fall {m u v w : Nat} (h1 : w < v) (h2 : v < u) (h3 : u < m) : ((u, v, w) : N3) ∈ fallN m := by
  unfold fallN F2
  simp only [List.mem_flatMap, List.mem_range, List.mem_map]
  exact ⟨u, h3, v, h2, w, h1, rfl⟩
theorem mem_bur {s a b c : Nat} (h1 : a < s) (h2 : b < s) (h3 : c < s) : ((a, b, c) : N3) ∈ burN s := by
  unfold burN F2
  simp only [List.mem_flatMap, List.mem_range, List.mem_map]
  exact ⟨a, h1, b, h2, c, h3, rfl⟩
theorem yb_of {B : Book} {m s : Nat} (es : B.s = (s : Int)) (h : (pairsN (fallN m) (burN s)).find? (fun p => badN B p.1 p.2) = none) : YbB B (m : Int) := by
  intro u v w a b c t
  have := t.w0; have := t.wv; have := t.vu; have := t.um
  have := t.a0; have := t.a1; have := t.b0; have := t.b1; have := t.c0; have := t.c1
  rw [es] at *
  obtain ⟨u, rfl⟩ := Int.eq_ofNat_of_zero_le (show 0 ≤ u by omega)
  obtain ⟨v, rfl⟩ := Int.eq_ofNat_of_zero_le (show 0 ≤ v by omega)
  obtain ⟨w, rfl⟩ := Int.eq_ofNat_of_zero_le (show 0 ≤ w by omega)
  obtain ⟨a, rfl⟩ := Int.eq_ofNat_of_zero_le (show 0 ≤ a by omega)
  obtain ⟨b, rfl⟩ := Int.eq_ofNat_of_zero_le (show 0 ≤ b by omega)
  obtain ⟨c, rfl⟩ := Int.eq_ofNat_of_zero_le (show 0 ≤ c by omega)
  have hm : (((u, v, w), (a, b, c)) : N3 × N3) ∈ pairsN (fallN m) (burN s) := by
    unfold pairsN
    simp only [List.mem_flatMap, List.mem_map]
    exact ⟨(u, v, w), mem_fall (by omega) (by omega) (by omega), (a, b, c), mem_bur (by omega) (by omega) (by omega), rfl⟩
  have nb := List.find?_eq_none.mp h _ hm
  have e : eqd (.tuple (bDs (ledN B (triN (u, v, w) (a, b, c)) [0, 1, 0]))) (.tuple (bDs (ledN B (triN (u, v, w) (a, b, c)) [1, 0, 1]))) = true := by
    unfold badN at nb
    simpa using nb
  have e2 : eqd (.tuple (bDs (ledN B (triN (u, v, w) (a, b, c)) [0, 1, 0]))) (.tuple (bDs (ledN B (triN (u, v, w) (a, b, c)) [1, 0, 1]))) = PyData.eqvAll (bDs (ledN B (triN (u, v, w) (a, b, c)) [0, 1, 0])) (bDs (ledN B (triN (u, v, w) (a, b, c)) [1, 0, 1])) := by simp [eqd, PyData.eqv]
  rw [e2, eqvAll_snd] at e
  have e3 := of_decide_eq_true e
  have e4 : [(B.at v w (B.at u v a b).1 (B.at u w (B.at u v a b).2 c).1).1, (B.at v w (B.at u v a b).1 (B.at u w (B.at u v a b).2 c).1).2, (B.at u w (B.at u v a b).2 c).2] = [(B.at u w a (B.at v w b c).1).1, (B.at u v (B.at u w a (B.at v w b c).1).2 (B.at v w b c).2).1, (B.at u v (B.at u w a (B.at v w b c).1).2 (B.at v w b c).2).2] := e3
  simp only [List.cons.injEq, and_true] at e4
  exact e4
/-! ### inversions -/
/-! ### _law_word: as long as may be -/
end Pv
namespace Pv
open PySem PySem.Spec L2 Wf
/-! In good books what is borne behind a forward word hangs on its order alone. -/
abbrev Lkw := Nat × Wk
theorem split_two {α : Type} {R : List α} {k : Nat} (h : k + 1 < R.length) : ∃ A x y D, R = A ++ x :: y :: D ∧ A.length = k := by
  refine ⟨R.take k, R[k], R[k + 1], R.drop (k + 2), ?_, by rw [List.length_take]; omega⟩
  rw [← List.drop_eq_getElem_cons, ← List.drop_eq_getElem_cons, List.take_append_drop]
def passL (B : Book) (R : List Lkw) (k : Nat) : List Lkw :=
  match R.drop k with
  | x :: y :: D => R.take k ++ (y.1, pL B x.2 y.2) :: (x.1, pH B x.2 y.2) :: D
  | _ => R
theorem passL_mid (B : Book) (A D : List Lkw) (x y : Lkw) : passL B (A ++ x :: y :: D) A.length = A ++ (y.1, pL B x.2 y.2) :: (x.1, pH B x.2 y.2) :: D := by
  unfold passL
  rw [List.drop_left, List.take_left]
theorem passL_snd {B : Book} {R : List Lkw} {k : Nat} (h : k + 1 < R.length) : (passL B R k).map Prod.snd = passR B (R.map Prod.snd) k := by
  obtain ⟨A, x, y, D, rfl, rfl⟩ := split_two h
  rw [passL_mid, List.map_append, List.map_append]
  have := pass_mid B (A.map Prod.snd) (D.map Prod.snd) x.2 y.2
  rw [List.length_map] at this
  exact this.symm
theorem passL_fst {B : Book} {R : List Lkw} {k : Nat} (h : k + 1 < R.length) : (passL B R k).map Prod.fst = swp (R.map Prod.fst) k := by
  obtain ⟨A, x, y, D, rfl, rfl⟩ := split_two h
  rw [passL_mid, List.map_append, List.map_append]
  have := swp_mid (A.map Prod.fst) (D.map Prod.fst) x.1 y.1
  rw [List.length_map] at this
  exact this.symm
section
variable (kp : Nat → Nat) (B : Book)
/-- whoever is still to pass is quicker -/
def CK (R : List Lkw) : Prop := R.Pairwise fun x y => kp y.1 < kp x.1 → y.2.1 < x.2.1
def desL (R : List Lkw) (k : Nat) : Prop := ∃ A x y D, R = A ++ x :: y :: D ∧ A.length = k ∧ kp y.1 < kp x.1
def fwdL : List Lkw → List Nat → Prop
  | _, [] => True
  | R, k :: ws => desL kp R k ∧ fwdL (passL B R k) ws
abbrev ledL (R : List Lkw) (ws : List Nat) : List Lkw := ws.foldl (passL B) R
def NoL (R : List Lkw) : Prop := ∀ k, ¬ desL kp R k
structure MaxL (R : List Lkw) (ws : List Nat) : Prop where
  fw : fwdL kp B R ws
  nd : NoL kp (ledL B R ws)
end
section
variable {kp : Nat → Nat} {B : Book} {m : Int}
abbrev keysL (kp : Nat → Nat) (R : List Lkw) : List Nat := R.map fun x => kp x.1
theorem ck_mid {A D : List Lkw} {x y : Lkw} (h : CK kp (A ++ x :: y :: D)) (c : kp y.1 < kp x.1) : CK kp (A ++ (y.1, pL B x.2 y.2) :: (x.1, pH B x.2 y.2) :: D) := by
  unfold CK at h ⊢
  rw [List.pairwise_append, List.pairwise_cons, List.pairwise_cons] at h ⊢
  obtain ⟨p1, ⟨p2, p3, p4⟩, p5⟩ := h
  refine ⟨p1, ⟨fun z hz => ?_, fun z hz => p2 z (List.mem_cons_of_mem _ hz), p4⟩, fun a ha b hb => ?_⟩
  · rcases List.mem_cons.mp hz with rfl | hz
    · intro z
      have : kp x.1 < kp y.1 := z
      omega
    · exact p3 z hz
  · rcases List.mem_cons.mp hb with rfl | hb
    · exact p5 a ha y (List.mem_cons_of_mem _ List.mem_cons_self)
    · rcases List.mem_cons.mp hb with rfl | hb
      · exact p5 a ha x List.mem_cons_self
      · exact p5 a ha b (List.mem_cons_of_mem _ (List.mem_cons_of_mem _ hb))
theorem des_lt {R : List Lkw} {k : Nat} (h : desL kp R k) : k + 1 < R.length := by
  obtain ⟨A, x, y, D, rfl, rfl, _⟩ := h
  simp
theorem des_kind {R : List Lkw} {k : Nat} (c : CK kp R) (h : desL kp R k) : (wk (R.map Prod.snd) (k + 1)).1 < (wk (R.map Prod.snd) k).1 := by
  obtain ⟨A, x, y, D, rfl, rfl, hk⟩ := h
  have e1 := wk_app (A.map Prod.snd) (y.2 :: D.map Prod.snd) x.2
  have e2 := wk_app1 (A.map Prod.snd) (D.map Prod.snd) x.2 y.2
  rw [List.length_map] at e1 e2
  rw [List.map_append]
  show (wk (A.map Prod.snd ++ x.2 :: y.2 :: D.map Prod.snd) (A.length + 1)).1 < (wk (A.map Prod.snd ++ x.2 :: y.2 :: D.map Prod.snd) A.length).1
  rw [e1, e2]
  unfold CK at c
  rw [List.pairwise_append, List.pairwise_cons] at c
  exact c.2.1.1 y List.mem_cons_self hk
structure OkL (kp : Nat → Nat) (B : Book) (m : Int) (R : List Lkw) : Prop where
  ck : CK kp R
  ok : RowOk m B.s (R.map Prod.snd)
theorem okL_pass (bk : BookOk m B) {R : List Lkw} {k : Nat} (h : OkL kp B m R) (d : desL kp R k) : OkL kp B m (passL B R k) := by
  refine ⟨?_, ?_⟩
  · have c := h.ck
    obtain ⟨A, x, y, D, rfl, rfl, hk⟩ := d
    rw [passL_mid]
    exact ck_mid c hk
  · rw [passL_snd (des_lt d)]
    exact passR_ok bk h.ok (by rw [List.length_map]; exact des_lt d) (des_kind h.ck d)
theorem mu_passL {R : List Lkw} {k : Nat} (d : desL kp R k) : mu (keysL kp (passL B R k)) < mu (keysL kp R) := by
  obtain ⟨A, x, y, D, rfl, rfl, hk⟩ := d
  rw [passL_mid]
  unfold keysL
  rw [List.map_append, List.map_append]
  exact mu_swap _ _ hk
/-- a word as long as may be -/
theorem max_ex (bk : BookOk m B) : ∀ (n : Nat) (R : List Lkw), mu (keysL kp R) ≤ n → OkL kp B m R → ∃ ws, MaxL kp B R ws := by
  intro n
  induction n with
  | zero =>
    intro R hn h
    exact ⟨[], trivial, fun k d => by have d : desL kp R k := d; have := mu_passL (B := B) d; omega⟩
  | succ n ih =>
    intro R hn h
    by_cases c : ∃ k, desL kp R k
    · obtain ⟨k, d⟩ := c
      obtain ⟨ws, mx⟩ := ih (passL B R k) (by have := mu_passL (B := B) d; omega) (okL_pass bk h d)
      exact ⟨k :: ws, ⟨d, mx.fw⟩, mx.nd⟩
    · exact ⟨[], trivial, fun k d => c ⟨k, d⟩⟩
theorem fwdL_join : ∀ {a b : List Nat} {R : List Lkw}, fwdL kp B R a → fwdL kp B (ledL B R a) b → fwdL kp B R (a ++ b)
  | [], b, R, _, h => h
  | k :: a, b, R, h1, h => ⟨h1.1, fwdL_join (a := a) h1.2 h⟩
theorem okL_led (bk : BookOk m B) : ∀ {ws : List Nat} {R : List Lkw}, OkL kp B m R → fwdL kp B R ws → OkL kp B m (ledL B R ws)
  | [], _, h, _ => h
  | k :: ws, R, h, f => okL_led bk (ws := ws) (okL_pass bk h f.1) f.2
theorem MaxL.tail {R : List Lkw} {k : Nat} {ws : List Nat} (h : MaxL kp B R (k :: ws)) : MaxL kp B (passL B R k) ws := ⟨h.fw.2, h.nd⟩
theorem max_join {R : List Lkw} {a b : List Nat} (h1 : fwdL kp B R a) (h2 : MaxL kp B (ledL B R a) b) : MaxL kp B R (a ++ b) := ⟨fwdL_join h1 h2.fw, by
  have : ledL B R (a ++ b) = ledL B (ledL B R a) b := List.foldl_append
  rw [this]
  exact h2.nd⟩
theorem led_app3 (R : List Lkw) (a b : List Nat) : ledL B R (a ++ b) = ledL B (ledL B R a) b := List.foldl_append
/-- two passings of unlike walkers -/
theorem far_L {A M D : List Lkw} {x y z w : Lkw} (h1 : kp y.1 < kp x.1) (h2 : kp w.1 < kp z.1) :
    let R := A ++ x :: y :: (M ++ z :: w :: D)
    let j := A.length + 2 + M.length
    ledL B R [A.length, j] = ledL B R [j, A.length] ∧ fwdL kp B R [A.length, j] ∧ fwdL kp B R [j, A.length] := by
  intro R j
  have e1 : R = (A ++ x :: y :: M) ++ z :: w :: D := by simp [R]
  have lj : (A ++ x :: y :: M).length = j := by simp [j]; omega
  have p1 : passL B R A.length = A ++ (y.1, pL B x.2 y.2) :: (x.1, pH B x.2 y.2) :: (M ++ z :: w :: D) := passL_mid B A _ x y
  have p2 : passL B R j = A ++ x :: y :: (M ++ (w.1, pL B z.2 w.2) :: (z.1, pH B z.2 w.2) :: D) := by
    rw [e1, ← lj, passL_mid]
    simp
  have p12 : passL B (passL B R A.length) j = A ++ (y.1, pL B x.2 y.2) :: (x.1, pH B x.2 y.2) :: (M ++ (w.1, pL B z.2 w.2) :: (z.1, pH B z.2 w.2) :: D) := by
    rw [p1]
    have e2 : A ++ (y.1, pL B x.2 y.2) :: (x.1, pH B x.2 y.2) :: (M ++ z :: w :: D) = (A ++ (y.1, pL B x.2 y.2) :: (x.1, pH B x.2 y.2) :: M) ++ z :: w :: D := by simp
    have lj2 : (A ++ (y.1, pL B x.2 y.2) :: (x.1, pH B x.2 y.2) :: M).length = j := by simp [j]; omega
    rw [e2, ← lj2, passL_mid]
    simp
  have p21 : passL B (passL B R j) A.length = A ++ (y.1, pL B x.2 y.2) :: (x.1, pH B x.2 y.2) :: (M ++ (w.1, pL B z.2 w.2) :: (z.1, pH B z.2 w.2) :: D) := by
    rw [p2, passL_mid]
  refine ⟨p12.trans p21.symm, ⟨⟨A, x, y, _, rfl, rfl, h1⟩, ⟨A ++ (y.1, pL B x.2 y.2) :: (x.1, pH B x.2 y.2) :: M, z, w, D, by rw [p1]; simp, by simp [j]; omega, h2⟩, trivial⟩, ⟨⟨A ++ x :: y :: M, z, w, D, e1, lj, h2⟩, ⟨A, x, y, _, p2, rfl, h1⟩, trivial⟩⟩
theorem near_L (bk : BookOk m B) (g : YbB B m) {A D : List Lkw} {x y z : Lkw} (ok : OkL kp B m (A ++ x :: y :: z :: D)) (h1 : kp y.1 < kp x.1) (h2 : kp z.1 < kp y.1) :
    let R := A ++ x :: y :: z :: D
    ledL B R [A.length, A.length + 1, A.length] = ledL B R [A.length + 1, A.length, A.length + 1] ∧ fwdL kp B R [A.length, A.length + 1, A.length] ∧ fwdL kp B R [A.length + 1, A.length, A.length + 1] := by
  intro R
  have rk : ∀ p ∈ A ++ x :: y :: z :: D, 0 ≤ p.2.1 ∧ p.2.1 < m ∧ 0 ≤ p.2.2 ∧ p.2.2 < B.s := fun p hp => ok.ok p.2 (List.mem_map.mpr ⟨p, hp, rfl⟩)
  have ox := rk x (by simp)
  have oy := rk y (by simp)
  have oz := rk z (by simp)
  have ck := ok.ck
  unfold CK at ck
  rw [List.pairwise_append, List.pairwise_cons, List.pairwise_cons] at ck
  have k1 : y.2.1 < x.2.1 := ck.2.1.1 y List.mem_cons_self h1
  have k2 : z.2.1 < y.2.1 := ck.2.1.2.1 z List.mem_cons_self h2
  have pA : ∀ p q s : Lkw, passL B (A ++ p :: q :: s :: D) A.length = A ++ (q.1, pL B p.2 q.2) :: (p.1, pH B p.2 q.2) :: s :: D := fun p q s => passL_mid B A _ p q
  have pB : ∀ p q s : Lkw, passL B (A ++ p :: q :: s :: D) (A.length + 1) = A ++ p :: (s.1, pL B q.2 s.2) :: (q.1, pH B q.2 s.2) :: D := fun p q s => by
    have e : A ++ p :: q :: s :: D = (A ++ [p]) ++ q :: s :: D := by simp
    have l : A.length + 1 = (A ++ [p]).length := by simp
    rw [e, l, passL_mid]
    simp
  have dA : ∀ p q s : Lkw, kp q.1 < kp p.1 → desL kp (A ++ p :: q :: s :: D) A.length := fun p q s h => ⟨A, p, q, s :: D, rfl, rfl, h⟩
  have dB : ∀ p q s : Lkw, kp s.1 < kp q.1 → desL kp (A ++ p :: q :: s :: D) (A.length + 1) := fun p q s h => ⟨A ++ [p], q, s, D, by simp, by simp, h⟩
  obtain ⟨q1, q2, q3⟩ := g x.2.1 y.2.1 z.2.1 x.2.2 y.2.2 z.2.2 ⟨oz.1, k2, k1, ox.2.1, ox.2.2.1, ox.2.2.2, oy.2.2.1, oy.2.2.2, oz.2.2.1, oz.2.2.2⟩
  refine ⟨?_, ⟨dA _ _ _ h1, ?_⟩, ⟨dB _ _ _ h2, ?_⟩⟩
  · show passL B (passL B (passL B (A ++ x :: y :: z :: D) A.length) (A.length + 1)) A.length = passL B (passL B (passL B (A ++ x :: y :: z :: D) (A.length + 1)) A.length) (A.length + 1)
    rw [pA, pB, pA, pB, pA, pB]
    have c1 : pL B (pL B x.2 y.2) (pL B (pH B x.2 y.2) z.2) = pL B x.2 (pL B y.2 z.2) := Prod.ext rfl q1
    have c2 : pH B (pL B x.2 y.2) (pL B (pH B x.2 y.2) z.2) = pL B (pH B x.2 (pL B y.2 z.2)) (pH B y.2 z.2) := Prod.ext rfl q2
    have c3 : pH B (pH B x.2 y.2) z.2 = pH B (pH B x.2 (pL B y.2 z.2)) (pH B y.2 z.2) := Prod.ext rfl q3
    rw [c1, c2, c3]
  · rw [pA]
    refine ⟨dB _ _ _ (by show kp z.1 < kp x.1; omega), ?_⟩
    rw [pB]
    exact ⟨dA _ _ _ h2, trivial⟩
  · rw [pB]
    refine ⟨dA _ _ _ (by show kp z.1 < kp x.1; omega), ?_⟩
    rw [pA]
    exact ⟨dB _ _ _ h1, trivial⟩
/-- all ways end alike -/
theorem confL (bk : BookOk m B) (g : YbB B m) : ∀ (n : Nat) (R : List Lkw), mu (keysL kp R) ≤ n → OkL kp B m R → ∀ ws vs, MaxL kp B R ws → MaxL kp B R vs → ledL B R ws = ledL B R vs := by
  intro n
  induction n with
  | zero =>
    intro R hn ok ws vs h1 h2
    cases ws with
    | nil =>
      cases vs with
      | nil => rfl
      | cons v vs => have := mu_passL (B := B) h2.fw.1; omega
    | cons w ws => have := mu_passL (B := B) h1.fw.1; omega
  | succ n ih =>
    intro R hn ok ws vs h1 h2
    cases ws with
    | nil =>
      cases vs with
      | nil => rfl
      | cons v vs => exact absurd h2.fw.1 (h1.nd v)
    | cons i ws =>
      cases vs with
      | nil => exact absurd h1.fw.1 (h2.nd i)
      | cons j vs =>
        have key : ∀ (i j : Nat) (ws vs : List Nat), i < j → MaxL kp B R (i :: ws) → MaxL kp B R (j :: vs) → ledL B R (i :: ws) = ledL B R (j :: vs) := by
          intro i j ws vs hij h1 h2
          have a1 := h1.fw.1
          have a2 := h2.fw.1
          have oi := okL_pass bk ok a1
          have oj := okL_pass bk ok a2
          have mi := mu_passL (B := B) a1
          have mj := mu_passL (B := B) a2
          have meet : ∀ (a b : List Nat), fwdL kp B R (i :: a) → fwdL kp B R (j :: b) → ledL B R (i :: a) = ledL B R (j :: b) → ledL B R (i :: ws) = ledL B R (j :: vs) := by
            intro a b f1 f2 e
            obtain ⟨u, mx⟩ := max_ex bk _ (ledL B R (i :: a)) (Nat.le_refl _) (okL_led bk ok f1)
            have m1 : MaxL kp B (passL B R i) (a ++ u) := max_join f1.2 mx
            have m2 : MaxL kp B (passL B R j) (b ++ u) := max_join f2.2 (by rw [e] at mx; exact mx)
            have e1 := ih (passL B R i) (by omega) oi ws (a ++ u) h1.tail m1
            have e2 := ih (passL B R j) (by omega) oj vs (b ++ u) h2.tail m2
            show ledL B (passL B R i) ws = ledL B (passL B R j) vs
            rw [e1, e2, led_app3, led_app3]
            exact congrArg (fun q => ledL B q u) e
          obtain ⟨A, x, y, D', e, hl, hx⟩ := a1
          obtain ⟨A2, z, w, D2, e2, hl2, hz⟩ := a2
          subst hl
          by_cases far : A.length + 2 ≤ j
          · obtain ⟨M, hM⟩ : ∃ M, A2 = A ++ x :: y :: M := by
              have e3 : A ++ x :: y :: D' = A2 ++ z :: w :: D2 := by rw [← e, ← e2]
              have t1 : (A ++ x :: y :: D').take (A.length + 2) = A ++ [x, y] := by
                have : A ++ x :: y :: D' = (A ++ [x, y]) ++ D' := by simp
                rw [this]
                exact List.take_left' (by simp)
              have t2 : (A2 ++ z :: w :: D2).take (A.length + 2) = A2.take (A.length + 2) := by
                rw [List.take_append_of_le_length (by omega)]
              refine ⟨A2.drop (A.length + 2), ?_⟩
              have t3 : A2.take (A.length + 2) = A ++ [x, y] := by rw [← t2, ← e3, t1]
              have := List.take_append_drop (A.length + 2) A2
              rw [t3] at this
              rw [← this]
              simp
            have eR : R = A ++ x :: y :: (M ++ z :: w :: D2) := by rw [e2, hM]; simp
            have ej : j = A.length + 2 + M.length := by rw [← hl2, hM]; simp; omega
            subst ej
            obtain ⟨f1, f2, f3⟩ := far_L (B := B) (A := A) (M := M) (D := D2) hx hz
            rw [← eR] at f1 f2 f3
            exact meet [A.length + 2 + M.length] [A.length] f2 f3 f1
          · have ej : j = A.length + 1 := by omega
            subst ej
            have e3 : A ++ x :: y :: D' = A2 ++ z :: w :: D2 := by rw [← e, ← e2]
            have e4 : A ++ x :: y :: D' = (A ++ [x]) ++ y :: D' := by simp
            rw [e4] at e3
            have h5 := List.append_inj e3 (by simp; omega)
            have h6 := List.cons.inj h5.2
            have eD : D' = w :: D2 := h6.2
            have ez : y = z := h6.1
            subst ez
            subst eD
            have okR := ok
            rw [e] at okR
            obtain ⟨f1, f2, f3⟩ := near_L bk g okR hx hz
            rw [← e] at f1 f2 f3
            exact meet [A.length + 1, A.length] [A.length, A.length + 1] f2 f3 f1
        rcases Nat.lt_trichotomy i j with h | h | h
        · exact key i j ws vs h h1 h2
        · subst h
          exact ih _ (by have := mu_passL (B := B) h1.fw.1; omega) (okL_pass bk ok h1.fw.1) ws vs h1.tail h2.tail
        · exact (key j i vs ws h h2 h1).symm
end
section
variable {B : Book} {m : Int}
theorem led_fst : ∀ {ws : List Nat} {R : List Lkw}, fwdW B (R.map Prod.snd) ws → (ledL B R ws).map Prod.fst = goW (R.map Prod.fst) ws ∧ (ledL B R ws).map Prod.snd = ledN B (R.map Prod.snd) ws
  | [], R, _ => ⟨rfl, rfl⟩
  | k :: ws, R, h => by
    have hk : k + 1 < R.length := by have := h.1.1; rwa [List.length_map] at this
    have h2 : fwdW B ((passL B R k).map Prod.snd) ws := by rw [passL_snd hk]; exact h.2
    obtain ⟨e1, e2⟩ := led_fst h2
    rw [passL_fst hk] at e1
    rw [passL_snd hk] at e2
    exact ⟨e1, e2⟩
def NBf (a b : Nat) (p q : Lkw) : Prop := ¬ (p.1 = a ∧ q.1 = b)
theorem pass_kinds {R : List Lkw} {k : Nat} (hk : k + 1 < R.length) {p : Lkw} (hp : p ∈ passL B R k) : ∃ q ∈ R, q.1 = p.1 ∧ q.2.1 = p.2.1 := by
  obtain ⟨A, x, y, D, rfl, rfl⟩ := split_two hk
  rw [passL_mid] at hp
  rcases List.mem_append.mp hp with h | h
  · exact ⟨p, List.mem_append.mpr (.inl h), rfl, rfl⟩
  · rcases List.mem_cons.mp h with rfl | h
    · exact ⟨y, by simp, rfl, rfl⟩
    · rcases List.mem_cons.mp h with rfl | h
      · exact ⟨x, by simp, rfl, rfl⟩
      · exact ⟨p, by simp [h], rfl, rfl⟩
theorem stay {a b : Nat} {ka kb : Int} (hk : kb < ka) : ∀ {ws : List Nat} {R : List Lkw}, fwdW B (R.map Prod.snd) ws → (∀ p ∈ R, p.1 = a → p.2.1 = ka) → (∀ p ∈ R, p.1 = b → p.2.1 = kb) → R.Pairwise (NBf a b) → (ledL B R ws).Pairwise (NBf a b)
  | [], _, _, _, _, h => h
  | k :: ws, R, f, ha, hb, h => by
    have hk1 : k + 1 < R.length := by have := f.1.1; rwa [List.length_map] at this
    have f2 : fwdW B ((passL B R k).map Prod.snd) ws := by rw [passL_snd hk1]; exact f.2
    refine stay hk (ws := ws) (R := passL B R k) f2 (fun p hp e => ?_) (fun p hp e => ?_) ?_
    · obtain ⟨q, hq, e1, e2⟩ := pass_kinds hk1 hp
      rw [← e2]; exact ha q hq (e1.trans e)
    · obtain ⟨q, hq, e1, e2⟩ := pass_kinds hk1 hp
      rw [← e2]; exact hb q hq (e1.trans e)
    · have lt := f.1.2
      obtain ⟨A, x, y, D, rfl, rfl⟩ := split_two hk1
      have e1 := wk_app (A.map Prod.snd) (y.2 :: D.map Prod.snd) x.2
      have e2 := wk_app1 (A.map Prod.snd) (D.map Prod.snd) x.2 y.2
      rw [List.length_map] at e1 e2
      rw [List.map_append] at lt
      have lt : (wk (A.map Prod.snd ++ x.2 :: y.2 :: D.map Prod.snd) (A.length + 1)).1 < (wk (A.map Prod.snd ++ x.2 :: y.2 :: D.map Prod.snd) A.length).1 := lt
      rw [e1, e2] at lt
      rw [passL_mid]
      rw [List.pairwise_append, List.pairwise_cons, List.pairwise_cons] at h ⊢
      obtain ⟨p1, ⟨p2, p3, p4⟩, p5⟩ := h
      refine ⟨p1, ⟨fun z hz => ?_, fun z hz => p2 z (List.mem_cons_of_mem _ hz), p4⟩, fun u hu v hv => ?_⟩
      · rcases List.mem_cons.mp hz with rfl | hz
        · rintro ⟨z1, z2⟩
          have := ha y (by simp) z1
          have := hb x (by simp) z2
          omega
        · exact p3 z hz
      · rcases List.mem_cons.mp hv with rfl | hv
        · exact p5 u hu y (by simp)
        · rcases List.mem_cons.mp hv with rfl | hv
          · exact p5 u hu x (by simp)
          · exact p5 u hu v (by simp [hv])
theorem idx_lt {os : List Nat} (nd : os.Nodup) {a b : Nat} (ha : a ∈ os) (hb : b ∈ os) (ne : a ≠ b) (h : os.Pairwise fun p q => ¬ (p = a ∧ q = b)) : os.idxOf b < os.idxOf a := by
  rcases Nat.lt_trichotomy (os.idxOf a) (os.idxOf b) with z | z | z
  · exact absurd ⟨rfl, rfl⟩ (idx_pair h ha hb z)
  · have e1 := List.getElem_idxOf (List.idxOf_lt_length_of_mem ha)
    have e2 := List.getElem_idxOf (List.idxOf_lt_length_of_mem hb)
    have : a = b := by rw [← e1, ← e2]; simp [z]
    exact absurd this ne
  · exact z
theorem fwd_lift : ∀ {ws : List Nat} {R : List Lkw} {o : List Nat}, (R.map Prod.fst).Nodup → fwdW B (R.map Prod.snd) ws → o = goW (R.map Prod.fst) ws → fwdL o.idxOf B R ws
  | [], _, _, _, _, _ => trivial
  | k :: ws, R, o, nd, f, e => by
    have hk1 : k + 1 < R.length := by have := f.1.1; rwa [List.length_map] at this
    have f2 : fwdW B ((passL B R k).map Prod.snd) ws := by rw [passL_snd hk1]; exact f.2
    have lf := (led_fst f2).1
    have e' : o = goW ((passL B R k).map Prod.fst) ws := by rw [passL_fst hk1]; exact e
    have pm : ((passL B R k).map Prod.fst).Perm (R.map Prod.fst) := by rw [passL_fst hk1]; exact swp_perm (by rw [List.length_map]; exact hk1)
    have nd2 : ((passL B R k).map Prod.fst).Nodup := pm.nodup_iff.mpr nd
    refine ⟨?_, fwd_lift nd2 f2 e'⟩
    have lt := f.1.2
    have po : o.Perm (R.map Prod.fst) := by
      rw [e]
      refine goW_perm fun w hw => ?_
      have gen : ∀ {ws : List Nat} {r : List Wk}, fwdW B r ws → ∀ w ∈ ws, w + 1 < r.length := by
        intro ws
        induction ws with
        | nil => intro r _ w hw; simp at hw
        | cons v ws ih =>
          intro r h w hw
          rcases List.mem_cons.mp hw with rfl | hw
          · exact h.1.1
          · have := ih h.2 w hw
            rwa [passR_len] at this
      have := gen f w hw
      rwa [List.length_map] at this ⊢
    have no : o.Nodup := po.nodup_iff.mpr nd
    obtain ⟨A, x, y, D, rfl, rfl⟩ := split_two hk1
    have e1 := wk_app (A.map Prod.snd) (y.2 :: D.map Prod.snd) x.2
    have e2 := wk_app1 (A.map Prod.snd) (D.map Prod.snd) x.2 y.2
    rw [List.length_map] at e1 e2
    rw [List.map_append] at lt
    have lt : (wk (A.map Prod.snd ++ x.2 :: y.2 :: D.map Prod.snd) (A.length + 1)).1 < (wk (A.map Prod.snd ++ x.2 :: y.2 :: D.map Prod.snd) A.length).1 := lt
    rw [e1, e2] at lt
    refine ⟨A, x, y, D, rfl, rfl, ?_⟩
    have nd0 := nd
    rw [List.map_append] at nd
    have nd : (A.map Prod.fst ++ x.1 :: y.1 :: D.map Prod.fst).Nodup := nd
    rw [List.nodup_append] at nd
    obtain ⟨n1, n2, n3⟩ := nd
    have m2 := List.nodup_cons.mp n2
    have m3 := List.nodup_cons.mp m2.2
    have xy : x.1 ≠ y.1 := fun z => m2.1 (by rw [z]; simp)
    have ax : ∀ p ∈ A, p.1 ≠ x.1 := fun p hp => n3 p.1 (List.mem_map.mpr ⟨p, hp, rfl⟩) x.1 (by simp)
    have dx : ∀ p ∈ D, p.1 ≠ x.1 := fun p hp z => m2.1 (by rw [← z]; simp; exact .inr ⟨_, _, hp⟩)
    have dy : ∀ p ∈ D, p.1 ≠ y.1 := fun p hp z => m3.1 (by rw [← z]; exact List.mem_map.mpr ⟨p, hp, rfl⟩)
    have ay : ∀ p ∈ A, p.1 ≠ y.1 := fun p hp => n3 p.1 (List.mem_map.mpr ⟨p, hp, rfl⟩) y.1 (by simp)
    have st : (ledL B (passL B (A ++ x :: y :: D) A.length) ws).Pairwise (NBf x.1 y.1) := by
      refine stay lt f2 (fun p hp z => ?_) (fun p hp z => ?_) ?_
      · rw [passL_mid] at hp
        rcases List.mem_append.mp hp with h | h
        · exact absurd z (ax p h)
        · rcases List.mem_cons.mp h with rfl | h
          · exact absurd z.symm xy
          · rcases List.mem_cons.mp h with rfl | h
            · rfl
            · exact absurd z (dx p h)
      · rw [passL_mid] at hp
        rcases List.mem_append.mp hp with h | h
        · exact absurd z (ay p h)
        · rcases List.mem_cons.mp h with rfl | h
          · rfl
          · rcases List.mem_cons.mp h with rfl | h
            · exact absurd z xy
            · exact absurd z (dy p h)
      · rw [passL_mid, List.pairwise_append, List.pairwise_cons, List.pairwise_cons]
        have pA : A.Pairwise (NBf x.1 y.1) := List.pairwise_iff_getElem.mpr fun i j hi hj _ z => ax _ (List.getElem_mem hi) z.1
        have pD : D.Pairwise (NBf x.1 y.1) := List.pairwise_iff_getElem.mpr fun i j hi hj _ z => dx _ (List.getElem_mem hi) z.1
        exact ⟨pA, ⟨fun z _ c => xy c.1.symm, fun z hz c => dy z hz c.2, pD⟩, fun u hu v _ c => ax u hu c.1⟩
    have so : o.Pairwise fun p q => ¬ (p = x.1 ∧ q = y.1) := by
      rw [e', ← lf, List.pairwise_map]
      exact st
    have mx : x.1 ∈ o := po.mem_iff.mpr (by simp)
    have my : y.1 ∈ o := po.mem_iff.mpr (by simp)
    exact idx_lt no mx my xy so
theorem word_of_fwd : ∀ {ws : List Nat} {r : List Wk}, RowOk m B.s r → BookOk m B → fwdW B r ws → wordOk false (kindsN r) ws
  | [], _, _, _, _ => trivial
  | k :: ws, r, ok, bk, f => by
    have a1 := wk_ok ok (show k < r.length by have := f.1.1; omega)
    have a2 := wk_ok ok f.1.1
    refine ⟨⟨by rw [kindsN_len]; exact f.1.1, .inl ?_⟩, ?_⟩
    · rw [kindsN_get f.1.1, kindsN_get (show k < r.length by have := f.1.1; omega)]
      have := f.1.2
      omega
    · rw [← kinds_pass B f.1.1]
      exact word_of_fwd (passR_ok bk ok f.1.1 f.1.2) bk f.2
theorem idx_app : ∀ {A D : List Nat} {x : Nat}, x ∉ A → (A ++ x :: D).idxOf x = A.length
  | [], _, _, _ => List.idxOf_cons_self
  | a :: A, D, x, h => by
    have ne : a ≠ x := fun z => h (by rw [z]; exact List.mem_cons_self)
    show (a :: (A ++ x :: D)).idxOf x = _
    rw [List.idxOf_cons, beq_false_of_ne ne, idx_app fun z => h (List.mem_cons_of_mem _ z)]
    rfl
theorem max_lift (bk : BookOk m B) {r : List Wk} (ok : RowOk m B.s r) {ws : List Nat} (f : fwdW B r ws) :
    MaxL (goW (List.range r.length) ws).idxOf B ((List.range r.length).zip r) ws := by
  have z1 : ((List.range r.length).zip r).map Prod.fst = List.range r.length := List.map_fst_zip (by simp)
  have z2 : ((List.range r.length).zip r).map Prod.snd = r := List.map_snd_zip (by simp)
  have f' : fwdW B (((List.range r.length).zip r).map Prod.snd) ws := by rw [z2]; exact f
  have lf := (led_fst f').1
  rw [z1] at lf
  have hw := wordOk_lt (word_of_fwd ok bk f)
  rw [kindsN_len] at hw
  have po : (goW (List.range r.length) ws).Perm (List.range r.length) := goW_perm fun w hw' => by rw [List.length_range]; exact hw w hw'
  have no : (goW (List.range r.length) ws).Nodup := po.nodup_iff.mpr List.nodup_range
  refine ⟨fwd_lift (by rw [z1]; exact List.nodup_range) f' (by rw [z1]), fun k d => ?_⟩
  obtain ⟨A, x, y, D, e, rfl, lt⟩ := d
  rw [e, List.map_append] at lf
  have lf : A.map Prod.fst ++ x.1 :: y.1 :: D.map Prod.fst = goW (List.range r.length) ws := lf
  rw [← lf] at lt no
  rw [List.nodup_append] at no
  obtain ⟨n1, n2, n3⟩ := no
  have m2 := List.nodup_cons.mp n2
  have xy : x.1 ≠ y.1 := fun z => m2.1 (by rw [z]; simp)
  have i1 : (A.map Prod.fst ++ x.1 :: y.1 :: D.map Prod.fst).idxOf x.1 = A.length := by
    rw [idx_app fun h => n3 _ h x.1 (by simp) rfl, List.length_map]
  have i2 : (A.map Prod.fst ++ x.1 :: y.1 :: D.map Prod.fst).idxOf y.1 = A.length + 1 := by
    have e5 : A.map Prod.fst ++ x.1 :: y.1 :: D.map Prod.fst = (A.map Prod.fst ++ [x.1]) ++ y.1 :: D.map Prod.fst := by simp
    rw [e5, idx_app]
    · simp
    · intro h
      rcases List.mem_append.mp h with h | h
      · exact n3 _ h y.1 (by simp) rfl
      · exact xy (List.mem_singleton.mp h).symm
  have lt : (A.map Prod.fst ++ x.1 :: y.1 :: D.map Prod.fst).idxOf y.1 < (A.map Prod.fst ++ x.1 :: y.1 :: D.map Prod.fst).idxOf x.1 := lt
  rw [i1, i2] at lt
  omega
/-- behind forward words to one order the same is borne -/
theorem led_same (bk : BookOk m B) (g : YbB B m) {r : List Wk} (ok : RowOk m B.s r) {ws vs : List Nat} (h1 : fwdW B r ws) (h2 : fwdW B r vs) (e : goW (List.range r.length) ws = goW (List.range r.length) vs) : ledN B r ws = ledN B r vs := by
  have z1 : ((List.range r.length).zip r).map Prod.fst = List.range r.length := List.map_fst_zip (by simp)
  have z2 : ((List.range r.length).zip r).map Prod.snd = r := List.map_snd_zip (by simp)
  have m1 := max_lift bk ok h1
  have m2 := max_lift bk ok h2
  rw [← e] at m2
  have wo := word_of_fwd ok bk h1
  have fo := fwdO_of (fwd_go wo)
  have hw := wordOk_lt wo
  rw [kindsN_len] at hw fo
  have po : (goW (List.range r.length) ws).Perm (List.range r.length) := goW_perm fun w hw' => by rw [List.length_range]; exact hw w hw'
  have ol := perm_len po
  have okL : OkL (goW (List.range r.length) ws).idxOf B m ((List.range r.length).zip r) := by
    refine ⟨List.pairwise_iff_getElem.mpr fun i j hi hj hij c => ?_, by rw [z2]; exact ok⟩
    have hi' : i < r.length := by simpa using hi
    have hj' : j < r.length := by simpa using hj
    have gi : ((List.range r.length).zip r)[i] = (i, r[i]) := by simp
    have gj : ((List.range r.length).zip r)[j] = (j, r[j]) := by simp
    rw [gi, gj] at c ⊢
    have : (kindsN r).getD j 0 < (kindsN r).getD i 0 := fo i j hij (by omega) c
    have k1 := kindsN_get (r := r) (k := i) hi'
    have k2 := kindsN_get (r := r) (k := j) hj'
    have w1 : wk r i = r[i] := by unfold wk; simp [List.getD, List.getElem?_eq_getElem hi']
    have w2 : wk r j = r[j] := by unfold wk; simp [List.getD, List.getElem?_eq_getElem hj']
    have a1 := wk_ok ok hi'
    have a2 := wk_ok ok hj'
    rw [k1, k2] at this
    show r[j].1 < r[i].1
    rw [← w1, ← w2]
    omega
  have c := confL bk g _ _ (Nat.le_refl _) okL ws vs m1 m2
  have s1 := (led_fst (B := B) (ws := ws) (R := (List.range r.length).zip r) (by rw [z2]; exact h1)).2
  have s2 := (led_fst (B := B) (ws := vs) (R := (List.range r.length).zip r) (by rw [z2]; exact h2)).2
  rw [z2] at s1 s2
  rw [← s1, ← s2, c]
end
end Pv
namespace Pv
open PySem PySem.Spec L2 Wf
/-! ### many copies of the walkers of a round, on a line -/
section
variable {n : Nat}
theorem cop_div {c i : Nat} (h : i < n) : (c * n + i) / n = c := by
  rw [Nat.mul_comm, Nat.mul_add_div (by omega), Nat.div_eq_of_lt h, Nat.add_zero]
theorem cop_mod {c i : Nat} (h : i < n) : (c * n + i) % n = i := by
  rw [Nat.mul_comm, Nat.mul_add_mod, Nat.mod_eq_of_lt h]
theorem cop_lt {N c i : Nat} (hc : c < N) (hi : i < n) : c * n + i < N * n := by
  have : (c + 1) * n ≤ N * n := Nat.mul_le_mul_right _ hc
  rw [Nat.add_mul, Nat.one_mul] at this
  omega
theorem cop_of (n1 : 0 < n) (x : Nat) : x = x / n * n + x % n ∧ x % n < n := ⟨(Nat.div_add_mod' x n).symm, Nat.mod_lt _ n1⟩
theorem cop_dlt {N x : Nat} (h : x < N * n) : x / n < N := Nat.div_lt_of_lt_mul (by rwa [Nat.mul_comm])
theorem cop_inj {c d i j : Nat} (hi : i < n) (hj : j < n) (e : c * n + i = d * n + j) : c = d ∧ i = j := by
  have h1 := cop_div (c := c) hi
  have h2 := cop_mod (c := c) hi
  rw [e, cop_div hj] at h1
  rw [e, cop_mod hj] at h2
  exact ⟨h1.symm, h2.symm⟩
end
def kLn (N : Nat) (ks : List Nat) : List Nat := (List.range (N * ks.length)).map fun x => ks.getD (x % ks.length) 0
def pLn (ps : List Int) (ks : List Nat) (x : Nat) : Int := pf ps ks (x % ks.length)
def sLn (n : Nat) (ss : List Int) (L : Nat) (x : Nat) : Int := sf ss (x % n) + ((x / n : Nat) : Int) * (L : Int)
def bLn (N n : Nat) (bo : List Int) : List Int := (List.range (N * n)).map fun x => bo.getD (x % n) 0
theorem map_range_get {α : Type} {M x : Nat} {f : Nat → α} {d : α} (h : x < M) : ((List.range M).map f).getD x d = f x := by
  simp [List.getD, List.getElem?_map, List.getElem?_range h]
theorem kLn_len {N : Nat} {ks : List Nat} : (kLn N ks).length = N * ks.length := by unfold kLn; simp
theorem kLn_get {N : Nat} {ks : List Nat} {x : Nat} (h : x < N * ks.length) : (kLn N ks).getD x 0 = ks.getD (x % ks.length) 0 := map_range_get h
theorem bLn_len {N n : Nat} {bo : List Int} : (bLn N n bo).length = N * n := by unfold bLn; simp
theorem bLn_get {N n : Nat} {bo : List Int} {x : Nat} (h : x < N * n) : (bLn N n bo).getD x 0 = bo.getD (x % n) 0 := map_range_get h
theorem mul_upL {c d L : Nat} (h : c < d) : (c : Int) * L + L ≤ d * L := by
  have := Nat.mul_le_mul_right L (show c + 1 ≤ d from h)
  rw [Nat.add_mul, Nat.one_mul] at this
  rw [← Int.natCast_mul, ← Int.natCast_mul]
  omega
section
variable {m : Int} {ps ss : List Int} {ks : List Nat} {L N : Nat}
theorem RgOk.inL (rg : RgOk m ps ks ss L) {i : Nat} (h : i < ks.length) : 0 ≤ sf ss i ∧ sf ss i < L := rg.sp.inn _ (getDm (d := 0) (by rw [rg.sp.len]; exact h))
theorem RgOk.upL (rg : RgOk m ps ks ss L) {i j : Nat} (h : i < j) (hj : j < ks.length) : sf ss i < sf ss j := up_get rg.sp.up h (by rw [rg.sp.len]; exact hj)
theorem RgOk.n0 {x : Nat} (h : x < N * ks.length) : 0 < ks.length := by
  rcases Nat.eq_zero_or_pos ks.length with z | z
  · rw [z, Nat.mul_zero] at h; omega
  · exact z
theorem sLn_up (rg : RgOk m ps ks ss L) (n1 : 0 < ks.length) {x y : Nat} (h : x < y) : sLn ks.length ss L x < sLn ks.length ss L y := by
  have e1 := cop_of n1 x
  have e2 := cop_of n1 y
  have a1 := rg.inL e1.2
  have a2 := rg.inL e2.2
  have d := Nat.div_le_div_right (c := ks.length) (Nat.le_of_lt h)
  unfold sLn
  rcases Nat.lt_or_eq_of_le d with z | z
  · have := mul_upL (L := L) z
    omega
  · have : x % ks.length < y % ks.length := by rw [z] at e1; omega
    have := rg.upL this e2.2
    rw [z]
    omega
theorem rodL (rg : RgOk m ps ks ss L) : Rod (kLn N ks).length (fun i => (kLn N ks).getD i 0) (pLn ps ks) (sLn ks.length ss L) := by
  rw [kLn_len]
  refine ⟨fun i j h hj => sLn_up rg (RgOk.n0 hj) h, fun i j hi hj h => ?_, fun i j hi hj h => ?_⟩
  · have h : (kLn N ks).getD i 0 < (kLn N ks).getD j 0 := h
    rw [kLn_get hi, kLn_get hj] at h
    have n1 := RgOk.n0 hi
    exact up_get rg.pac.rise h (rg.kp (cop_of n1 j).2).1
  · have h : (kLn N ks).getD i 0 = (kLn N ks).getD j 0 := h
    rw [kLn_get hi, kLn_get hj] at h
    show ps.getD (ks.getD (i % ks.length) 0) 0 = ps.getD (ks.getD (j % ks.length) 0) 0
    rw [h]
end
/-! ### a row led along first events: by places and by numbers -/
abbrev rowO (K : List Nat) (o : List Nat) (b : List Int) : List Wk := o.map fun x => (((K.getD x 0 : Nat) : Int), b.getD x 0)
theorem ov1_get {B : Book} {K : List Nat} {b : List Int} {e : Nat × Nat} (h1 : e.1 < b.length) (h2 : e.2 < b.length) (x : Nat) : (ov1 B K b e).getD x 0 = if e.1 = x then (B.at (K.getD e.1 0 : Nat) (K.getD e.2 0 : Nat) (b.getD e.1 0) (b.getD e.2 0)).2 else if e.2 = x then (B.at (K.getD e.1 0 : Nat) (K.getD e.2 0 : Nat) (b.getD e.1 0) (b.getD e.2 0)).1 else b.getD x 0 := by
  unfold ov1
  rw [getD_set (by rw [List.length_set]; exact h1), getD_set h2]
theorem row_step {B : Book} {K o : List Nat} {b : List Int} {e : Nat × Nat} (nd : o.Nodup) (h0 : o.idxOf e.1 + 1 < o.length) (h1 : o.getD (o.idxOf e.1) 0 = e.1) (h2 : o.getD (o.idxOf e.1 + 1) 0 = e.2) (b1 : e.1 < b.length) (b2 : e.2 < b.length) : passR B (rowO K o b) (o.idxOf e.1) = rowO K (swp o (o.idxOf e.1)) (ov1 B K b e) := by
  obtain ⟨A, x, y, C, eo, el, ex, ey⟩ := split2 h0
  rw [h1] at ex
  rw [h2] at ey
  generalize o.idxOf e.1 = k at *
  subst eo el
  obtain ⟨i, j⟩ := e
  dsimp only at *
  subst ex ey
  have nd1 := List.nodup_append.mp nd
  have nd2 := List.nodup_cons.mp nd1.2.1
  have nd3 := List.nodup_cons.mp nd2.2
  have ij : i ≠ j := fun z => nd2.1 (z ▸ List.mem_cons_self)
  rw [swp_mid]
  have e1 : rowO K (A ++ i :: j :: C) b = rowO K A b ++ (((K.getD i 0 : Nat) : Int), b.getD i 0) :: (((K.getD j 0 : Nat) : Int), b.getD j 0) :: rowO K C b := by
    show List.map _ _ = _
    rw [List.map_append]
    rfl
  have e2 : A.length = (rowO K A b).length := (List.length_map _).symm
  have oth : ∀ l : List Nat, (∀ z ∈ l, z ≠ i ∧ z ≠ j) → rowO K l (ov1 B K b (i, j)) = rowO K l b := fun l hl => List.map_congr_left fun z hz => by
    rw [ov1_get b1 b2, if_neg (fun q => (hl z hz).1 q.symm), if_neg (fun q => (hl z hz).2 q.symm)]
  have oA := oth A fun z hz => ⟨fun q => nd1.2.2 z hz i List.mem_cons_self q, fun q => nd1.2.2 z hz j (List.mem_cons_of_mem _ List.mem_cons_self) q⟩
  have oC := oth C fun z hz => ⟨fun q => nd2.1 (q ▸ List.mem_cons_of_mem _ hz), fun q => nd3.1 (q ▸ hz)⟩
  have e3 : rowO K (A ++ j :: i :: C) (ov1 B K b (i, j)) = rowO K A b ++ (((K.getD j 0 : Nat) : Int), (ov1 B K b (i, j)).getD j 0) :: (((K.getD i 0 : Nat) : Int), (ov1 B K b (i, j)).getD i 0) :: rowO K C b := by
    show List.map _ _ = _
    rw [List.map_append]
    show rowO K A (ov1 B K b (i, j)) ++ _ :: _ :: rowO K C (ov1 B K b (i, j)) = _
    rw [oA, oC]
  rw [e3, ov1_get b1 b2, ov1_get b1 b2, if_neg ij, if_pos rfl, if_pos rfl]
  rw [e1]
  conv => lhs; rw [e2]
  rw [pass_mid]
  rfl
theorem ovL_len (B : Book) (K : List Nat) : ∀ (es : List (Nat × Nat)) (b : List Int), (ovN B K es b).length = b.length
  | [], _ => rfl
  | e :: es, b => by
    show (ovN B K es (ov1 B K b e)).length = _
    rw [ovL_len B K es]
    unfold ov1
    rw [List.length_set, List.length_set]
theorem ovN_app {B : Book} {K : List Nat} (es fs : List (Nat × Nat)) (b : List Int) : ovN B K (es ++ fs) b = ovN B K fs (ovN B K es b) := List.foldl_append
theorem run_row {B : Book} {K : List Nat} {p s : Nat → Int} {Lx : List Ev} (R : Rod K.length (fun i => K.getD i 0) p s) (h : EvL K.length (fun i => K.getD i 0) p s Lx) {b0 : List Int} (hb : b0.length = K.length) : ∀ (q : Nat) (pre post : List Ev), pre.length = q → Lx = pre ++ post →
    ledN B (rowO K (List.range K.length) b0) (letsE (List.range K.length) pre) = rowO K (goE (List.range K.length) pre) (ovN B K pre b0)
  | 0, pre, post, hl, eL => by
    have : pre = [] := List.length_eq_zero_iff.mp hl
    subst this
    rfl
  | q + 1, pre, post, hl, eL => by
    have ne : pre ≠ [] := fun z => by rw [z] at hl; cases hl
    have e1 : pre = pre.dropLast ++ [pre.getLast ne] := (List.dropLast_concat_getLast ne).symm
    generalize pre.getLast ne = e at e1
    generalize pre.dropLast = w at e1
    subst e1
    have hq : w.length = q := by simpa using hl
    have eL' : Lx = w ++ e :: post := by rw [eL, List.append_assoc]; rfl
    have io := run_ok R h q w (e :: post) hq eL'
    have st := run_step R h eL' io
    have he := (h.mem e).mp (by rw [eL']; simp)
    have ih := run_row (B := B) R h hb q w (e :: post) hq eL'
    rw [lets_snoc, goE_snoc, ledN_app, ih, ovN_app]
    have ol := perm_len io.pm
    have bl : (ovN B K w b0).length = K.length := by rw [ovL_len, hb]
    exact row_step io.nd (by omega) st.2.1 st.2.2.1 (by rw [bl]; have := he.1; have := he.2.1; omega) (by rw [bl]; exact he.2.1)
end Pv
namespace Pv
open PySem PySem.Spec L2 Wf
/-! ### a meeting of the round, in all copies -/
def offM (L : Nat) (a : Mt) : Nat := a.1 / L + (if a.2.2.1 < a.2.2.2 then 0 else 1)
def evC (n L : Nat) (a : Mt) (c : Nat) : Ev := (c * n + a.2.2.1, (c + offM L a) * n + a.2.2.2)
def batC (N n L : Nat) (a : Mt) : List Ev := (List.range (N - offM L a)).map (evC n L a)
section
variable {m : Int} {ps ss : List Int} {ks : List Nat} {L N : Nat}
theorem sLn_cop {n c i : Nat} (h : i < n) : sLn n ss L (c * n + i) = sf ss i + (c : Int) * L := by
  unfold sLn
  rw [cop_div h, cop_mod h]
theorem pLn_cop {c i : Nat} (h : i < ks.length) : pLn ps ks (c * ks.length + i) = pf ps ks i := by
  unfold pLn
  rw [cop_mod h]
theorem kLn_cop {c i : Nat} (hc : c < N) (h : i < ks.length) : (kLn N ks).getD (c * ks.length + i) 0 = ks.getD i 0 := by
  rw [kLn_get (cop_lt hc h), cop_mod h]
theorem way_up (rg : RgOk m ps ks ss L) {i j : Nat} (h : i < j) (hj : j < ks.length) : (wyN ss L i j : Int) = sf ss j - sf ss i := by
  have w := (rg.way i j).1
  have u := rg.upL h hj
  have a1 := rg.inL (show i < ks.length by omega)
  have a2 := rg.inL hj
  rw [← w]
  exact Int.emod_eq_of_lt (by omega) (by omega)
theorem way_dn (rg : RgOk m ps ks ss L) {i j : Nat} (h : j < i) (hi : i < ks.length) : (wyN ss L i j : Int) = sf ss j - sf ss i + L := by
  have w := (rg.way i j).1
  have u := rg.upL h hi
  have a1 := rg.inL (show j < ks.length by omega)
  have a2 := rg.inL hi
  rw [← w]
  have e : (sf ss j - sf ss i + L) % (L : Int) = (sf ss j - sf ss i) % (L : Int) := by simp
  rw [← e]
  exact Int.emod_eq_of_lt (by omega) (by omega)
theorem off_mt (rg : RgOk m ps ks ss L) {i j x : Nat} : offM L (mtR ps ks ss L i j x) = x + (if i < j then 0 else 1) := by
  have w := (rg.way i j).2
  have l1 := rg.sp.l1
  show (wyN ss L i j + x * L) / L + _ = _
  rw [Nat.add_mul_div_right _ _ (by omega), Nat.div_eq_of_lt w, Nat.zero_add]
  rfl
theorem ne_gap (rg : RgOk m ps ks ss L) {i j : Nat} (hi : i < ks.length) (hj : j < ks.length) (g : 1 ≤ gpN ps ks i j) : ks.getD j 0 < ks.getD i 0 ∧ i ≠ j := by
  have c : ks.getD j 0 < ks.getD i 0 := by
    by_cases c : ks.getD j 0 < ks.getD i 0
    · exact c
    · have := rg.gap0 hi hj c
      omega
  exact ⟨c, fun z => by rw [z] at c; omega⟩
theorem way_off (rg : RgOk m ps ks ss L) {i j x : Nat} (hi : i < ks.length) (hj : j < ks.length) (ne : i ≠ j) : ((wyN ss L i j + x * L : Nat) : Int) = sf ss j - sf ss i + ((x + (if i < j then 0 else 1) : Nat) : Int) * L := by
  by_cases c : i < j
  · rw [if_pos c, Int.natCast_add, way_up rg c hj, Int.natCast_mul, Nat.add_zero]
  · rw [if_neg c, Int.natCast_add, way_dn rg (show j < i by omega) hi, Int.natCast_mul, Int.natCast_add, Int.add_mul]
    omega
/-- what an event of a batch is -/
structure EvB (N : Nat) (ps : List Int) (ks : List Nat) (ss : List Int) (L : Nat) (a : Mt) (e : Ev) : Prop where
  ev : IsEv (N * ks.length) (fun i => (kLn N ks).getD i 0) e.1 e.2
  wy : wy (sLn ks.length ss L) e = (a.1 : Int)
  gp : gp (pLn ps ks) e = (a.2.1 : Int)
  k1 : (kLn N ks).getD e.1 0 = ks.getD a.2.2.1 0
  k2 : (kLn N ks).getD e.2 0 = ks.getD a.2.2.2 0
  i1 : e.1 % ks.length = a.2.2.1
  i2 : e.2 % ks.length = a.2.2.2
theorem evB_of (rg : RgOk m ps ks ss L) {a : Mt} (ha : a ∈ msR ps ks ss L) {e : Ev} (he : e ∈ batC N ks.length L a) : EvB N ps ks ss L a e := by
  obtain ⟨i, j, x, hi, hj, hx, rfl⟩ := mem_msR ha
  obtain ⟨c, hc, rfl⟩ := List.mem_map.mp he
  have hc := List.mem_range.mp hc
  have g1 : 1 ≤ gpN ps ks i j := by omega
  have kl := ne_gap rg hi hj g1
  have wp := way_pos rg hi hj g1
  have eo := off_mt rg (i := i) (j := j) (x := x)
  have n1 : 0 < ks.length := by omega
  show EvB N ps ks ss L _ (c * ks.length + i, (c + offM L (mtR ps ks ss L i j x)) * ks.length + j)
  have hd : c + offM L (mtR ps ks ss L i j x) < N := by omega
  have hw : wy (sLn ks.length ss L) (c * ks.length + i, (c + offM L (mtR ps ks ss L i j x)) * ks.length + j) = ((mtR ps ks ss L i j x).1 : Int) := by
    show sLn ks.length ss L ((c + offM L (mtR ps ks ss L i j x)) * ks.length + j) - sLn ks.length ss L (c * ks.length + i) = ((wyN ss L i j + x * L : Nat) : Int)
    rw [sLn_cop hi, sLn_cop hj, way_off rg hi hj kl.2, eo, Int.natCast_add c, Int.add_mul]
    omega
  have k1 : (kLn N ks).getD (c * ks.length + i) 0 = ks.getD i 0 := kLn_cop (by omega) hi
  have k2 : (kLn N ks).getD ((c + offM L (mtR ps ks ss L i j x)) * ks.length + j) 0 = ks.getD j 0 := kLn_cop hd hj
  refine ⟨⟨?_, cop_lt hd hj, ?_⟩, hw, ?_, k1, k2, cop_mod hi, cop_mod hj⟩
  · dsimp only
    rcases Nat.lt_or_ge (c * ks.length + i) ((c + offM L (mtR ps ks ss L i j x)) * ks.length + j) with z | z
    · exact z
    · exfalso
      have hw : sLn ks.length ss L ((c + offM L (mtR ps ks ss L i j x)) * ks.length + j) - sLn ks.length ss L (c * ks.length + i) = ((wyN ss L i j + x * L : Nat) : Int) := hw
      rcases Nat.lt_or_eq_of_le z with z | z
      · have := sLn_up rg n1 z
        omega
      · rw [z] at hw
        omega
  · dsimp only
    rw [k1, k2]
    exact kl.1
  · show pLn ps ks (c * ks.length + i) - pLn ps ks ((c + offM L (mtR ps ks ss L i j x)) * ks.length + j) = ((gpN ps ks i j : Nat) : Int)
    rw [pLn_cop hi, pLn_cop hj]
    exact (rg.gap1 hi hj kl.1).1
theorem mk_msR {i j x : Nat} (hi : i < ks.length) (hj : j < ks.length) (hx : x < gpN ps ks i j) : mtR ps ks ss L i j x ∈ msR ps ks ss L := by
  unfold msR msI msJ
  simp only [List.mem_flatMap, List.mem_map, List.mem_range]
  exact ⟨i, hi, j, hj, x, hx, rfl⟩
theorem msR_in (rg : RgOk m ps ks ss L) {a : Mt} (ha : a ∈ msR ps ks ss L) : 1 ≤ a.2.1 ∧ a.1 < L * a.2.1 := theR_in rg ((theR_ok rg).1.mem_iff.mpr ha)
/-- the events of the line by the beat of a round, and the batches -/
theorem mem_line (rg : RgOk m ps ks ss L) (e : Ev) : (IsEv (N * ks.length) (fun i => (kLn N ks).getD i 0) e.1 e.2 ∧ doneB (pLn ps ks) (sLn ks.length ss L) L e = true) ↔ ∃ a ∈ msR ps ks ss L, e ∈ batC N ks.length L a := by
  constructor
  · rintro ⟨⟨h1, h2, h3⟩, hd0⟩
    have n1 := RgOk.n0 h2
    have h0 : e.1 < N * ks.length := by omega
    obtain ⟨u, v⟩ := e
    dsimp only at h0 h1 h2 h3
    rw [kLn_get h0, kLn_get h2] at h3
    have eu := cop_of n1 u
    have ev := cop_of n1 v
    have dd := Nat.div_le_div_right (c := ks.length) (Nat.le_of_lt h1)
    have dN := cop_dlt h2
    have hd : sLn ks.length ss L v - sLn ks.length ss L u ≤ (L : Int) * (pLn ps ks u - pLn ps ks v) := of_decide_eq_true hd0
    clear hd0
    unfold sLn pLn at hd
    generalize u % ks.length = i at *
    generalize v % ks.length = j at *
    generalize u / ks.length = c at *
    generalize v / ks.length = d at *
    obtain ⟨rfl, hi⟩ := eu
    obtain ⟨rfl, hj⟩ := ev
    have g := rg.gap1 hi hj h3
    have ne : i ≠ j := fun z => by rw [z] at h3; omega
    rw [g.1] at hd
    have a1 := rg.inL hi
    have a2 := rg.inL hj
    have l1 := rg.sp.l1
    obtain ⟨o, rfl⟩ : ∃ o, d = c + o := ⟨d - c, by omega⟩
    have hd : sf ss j - sf ss i + (o : Int) * L ≤ (L : Int) * (gpN ps ks i j : Int) := by
      rw [Int.natCast_add, Int.add_mul] at hd
      omega
    have lt : ∀ x : Nat, (x : Int) * L < (L : Int) * (gpN ps ks i j : Int) → x < gpN ps ks i j := fun x hx => by
      rw [Int.mul_comm (L : Int)] at hx
      have := Int.lt_of_mul_lt_mul_right hx (by omega)
      omega
    by_cases c0 : i < j
    · have up := rg.upL c0 hj
      refine ⟨mtR ps ks ss L i j o, mk_msR hi hj (lt o (by omega)), List.mem_map.mpr ⟨c, List.mem_range.mpr ?_, ?_⟩⟩
      · rw [off_mt rg, if_pos c0]; omega
      · show (c * ks.length + i, (c + offM L (mtR ps ks ss L i j o)) * ks.length + j) = _
        rw [off_mt rg, if_pos c0]
        rfl
    · have c1 : j < i := by omega
      have up := rg.upL c1 hi
      have o1 : 1 ≤ o := by
        rcases Nat.eq_zero_or_pos o with z | z
        · rw [z, Nat.add_zero] at h1; omega
        · exact z
      obtain ⟨x, rfl⟩ : ∃ x, o = x + 1 := ⟨o - 1, by omega⟩
      refine ⟨mtR ps ks ss L i j x, mk_msR hi hj (lt x ?_), List.mem_map.mpr ⟨c, List.mem_range.mpr ?_, ?_⟩⟩
      · rw [Int.natCast_add, Int.add_mul] at hd
        omega
      · rw [off_mt rg, if_neg c0]; omega
      · show (c * ks.length + i, (c + offM L (mtR ps ks ss L i j x)) * ks.length + j) = _
        rw [off_mt rg, if_neg c0]
  · rintro ⟨a, ha, he⟩
    have b := evB_of rg ha he
    refine ⟨b.ev, decide_eq_true ?_⟩
    rw [b.wy, b.gp, ← Int.natCast_mul]
    have := (msR_in rg ha).2
    omega
theorem msR_nodup (rg : RgOk m ps ks ss L) : (msR ps ks ss L).Nodup := by
  have l1 := rg.sp.l1
  unfold msR msI msJ
  refine List.pairwise_flatMap.mpr ⟨fun i _ => List.pairwise_flatMap.mpr ⟨fun j _ => ?_, ?_⟩, ?_⟩
  · rw [List.pairwise_map]
    refine (List.nodup_iff_pairwise_ne.mp List.nodup_range).imp fun {x y} h z => h ?_
    have z : wyN ss L i j + x * L = wyN ss L i j + y * L := congrArg Prod.fst z
    exact Nat.eq_of_mul_eq_mul_right (show 0 < L by omega) (show x * L = y * L by omega)
  · refine (List.nodup_iff_pairwise_ne.mp List.nodup_range).imp fun {x y} h a ha b hb z => h ?_
    obtain ⟨_, _, rfl⟩ := List.mem_map.mp ha
    obtain ⟨_, _, rfl⟩ := List.mem_map.mp hb
    exact congrArg (fun a : Mt => a.2.2.2) z
  · refine (List.nodup_iff_pairwise_ne.mp List.nodup_range).imp fun {x y} h a ha b hb z => h ?_
    obtain ⟨_, _, ha⟩ := List.mem_flatMap.mp ha
    obtain ⟨_, _, hb⟩ := List.mem_flatMap.mp hb
    obtain ⟨_, _, rfl⟩ := List.mem_map.mp ha
    obtain ⟨_, _, rfl⟩ := List.mem_map.mp hb
    exact congrArg (fun a : Mt => a.2.2.1) z
noncomputable def evF (N : Nat) (ps : List Int) (ks : List Nat) (ss : List Int) (L : Nat) : List Ev := (theR ps ks ss L).flatMap (batC N ks.length L)
abbrev theD (N : Nat) (ps : List Int) (ks : List Nat) (ss : List Int) (L : Nat) : List Ev := (theL (kLn N ks).length (fun i => (kLn N ks).getD i 0) (pLn ps ks) (sLn ks.length ss L)).filter (doneB (pLn ps ks) (sLn ks.length ss L) L)
theorem mem_theD (rg : RgOk m ps ks ss L) (e : Ev) : e ∈ theD N ps ks ss L ↔ ∃ a ∈ msR ps ks ss L, e ∈ batC N ks.length L a := by
  rw [← mem_line rg]
  show e ∈ List.filter _ _ ↔ _
  rw [List.mem_filter, (theL_ok (rodL rg)).mem, kLn_len]
theorem mt_of {a : Mt} {e : Ev} (b : EvB N ps ks ss L a e) : a = ((wy (sLn ks.length ss L) e).toNat, (gp (pLn ps ks) e).toNat, e.1 % ks.length, e.2 % ks.length) := by
  rw [b.wy, b.gp, b.i1, b.i2]
  rfl
theorem evF_nodup (rg : RgOk m ps ks ss L) : (evF N ps ks ss L).Nodup := by
  have t := (theR_ok rg).1
  refine List.pairwise_flatMap.mpr ⟨fun a ha => ?_, ?_⟩
  · obtain ⟨i, j, x, hi, hj, hx, rfl⟩ := mem_msR (t.mem_iff.mp ha)
    unfold batC
    rw [List.pairwise_map]
    refine (List.nodup_iff_pairwise_ne.mp List.nodup_range).imp fun {c d} h z => h ?_
    exact (cop_inj hi hi (congrArg Prod.fst z)).1
  · refine (List.nodup_iff_pairwise_ne.mp (t.nodup_iff.mpr (msR_nodup rg))).imp_of_mem fun {a b} ha hb h x hx y hy z => h ?_
    subst z
    rw [mt_of (evB_of rg (t.mem_iff.mp ha) hx), mt_of (evB_of rg (t.mem_iff.mp hb) hy)]
theorem line_perm (rg : RgOk m ps ks ss L) : (theD N ps ks ss L).Perm (evF N ps ks ss L) := by
  have R := rodL rg (N := N)
  have nd : (theD N ps ks ss L).Nodup := List.Pairwise.filter _ (((theL_perm R).nodup_iff.mpr (evD_nodup _)))
  refine (List.perm_ext_iff_of_nodup nd (evF_nodup rg)).mpr fun e => ?_
  rw [mem_theD rg]
  unfold evF
  rw [List.mem_flatMap]
  constructor
  · rintro ⟨a, ha, he⟩; exact ⟨a, (theR_ok rg).1.mem_iff.mpr ha, he⟩
  · rintro ⟨a, ha, he⟩; exact ⟨a, (theR_ok rg).1.mem_iff.mp ha, he⟩
/-- sooner on the line, the numbers left out -/
def soonL (k : Nat → Nat) (p s : Nat → Int) (e f : Ev) : Prop := wy s e * gp p f < wy s f * gp p e ∨ wy s e * gp p f = wy s f * gp p e ∧ (k f.1 < k e.1 ∨ k e.1 = k f.1 ∧ k f.2 < k e.2)
theorem soonL_soon {k : Nat → Nat} {p s : Nat → Int} {e f : Ev} (h : soonL k p s e f) : soon k p s e f := by
  rcases h with z | ⟨z, y⟩
  · exact .inl z
  · refine .inr ⟨z, ?_⟩
    unfold soonK
    omega
theorem soonL_W {a b : Mt} {e f : Ev} (x : EvB N ps ks ss L a e) (y : EvB N ps ks ss L b f) (h : soonL (fun i => (kLn N ks).getD i 0) (pLn ps ks) (sLn ks.length ss L) e f) : RenR.soonW ks a b := by
  unfold soonL at h
  dsimp only at h
  rw [x.wy, x.gp, y.wy, y.gp, x.k1, x.k2, y.k1, y.k2, ← Int.natCast_mul, ← Int.natCast_mul] at h
  unfold RenR.soonW
  omega
theorem line_fold {B : Book} (rg : RgOk m B.ps ks ss L) (b0 : List Int) : ovN B (kLn N ks) (theD N B.ps ks ss L) b0 = ovN B (kLn N ks) (evF N B.ps ks ss L) b0 := by
  have R := rodL rg (N := N)
  have t := theR_ok rg
  refine fold_tr _ (soonL (fun i => (kLn N ks).getD i 0) (pLn B.ps ks) (sLn ks.length ss L)) _ _ (line_perm rg) ?_ ?_ ?_ b0
  · exact List.Pairwise.filter _ ((theL_ok R).so.imp fun h z => soon_asym h (soonL_soon z))
  · refine List.pairwise_flatMap.mpr ⟨fun a ha => ?_, ?_⟩
    · refine List.pairwise_of_forall_mem_list fun x hx y hy z => ?_
      have w := soonL_W (evB_of rg (t.1.mem_iff.mp ha) hy) (evB_of rg (t.1.mem_iff.mp ha) hx) z
      unfold RenR.soonW at w
      omega
    · refine t.2.imp_of_mem fun {a b} ha hb h x hx y hy z => h (RenR.soonW_M ?_)
      exact soonL_W (evB_of rg (t.1.mem_iff.mp hb) hy) (evB_of rg (t.1.mem_iff.mp ha) hx) z
  · intro e he f hf n1 n2 s
    obtain ⟨a, ha, he⟩ := (mem_theD rg e).mp he
    obtain ⟨b, hb, hf⟩ := (mem_theD rg f).mp hf
    have x := evB_of rg ha he
    have y := evB_of rg hb hf
    have ga := (msR_in rg ha).1
    have gb := (msR_in rg hb).1
    have n0 := RgOk.n0 x.ev.2.1
    unfold soonL at n1 n2
    dsimp only at n1 n2
    have cr : wy (sLn ks.length ss L) e * gp (pLn B.ps ks) f = wy (sLn ks.length ss L) f * gp (pLn B.ps ks) e := by omega
    have e1 : (kLn N ks).getD e.1 0 = (kLn N ks).getD f.1 0 := by omega
    have e2 : (kLn N ks).getD e.2 0 = (kLn N ks).getD f.2 0 := by omega
    have x3 := x.ev.2.2
    have y3 := y.ev.2.2
    dsimp only at x3 y3
    have q1 : pLn B.ps ks e.1 = pLn B.ps ks f.1 := R.pe _ _ (by rw [kLn_len]; have := x.ev.1; have := x.ev.2.1; omega) (by rw [kLn_len]; have := y.ev.1; have := y.ev.2.1; omega) e1
    have q2 : pLn B.ps ks e.2 = pLn B.ps ks f.2 := R.pe _ _ (by rw [kLn_len]; exact x.ev.2.1) (by rw [kLn_len]; exact y.ev.2.1) e2
    have eg : gp (pLn B.ps ks) e = gp (pLn B.ps ks) f := by unfold gp; rw [q1, q2]
    have g0 : gp (pLn B.ps ks) f ≠ 0 := by rw [y.gp]; omega
    rw [eg] at cr
    have ew := Int.eq_of_mul_eq_mul_right g0 cr
    unfold wy at ew
    have one : ∀ u v : Nat, sLn ks.length ss L u = sLn ks.length ss L v → u = v := fun u v h => by
      rcases Nat.lt_trichotomy u v with z | z | z
      · have := sLn_up rg n0 z; omega
      · exact z
      · have := sLn_up rg n0 z; omega
    by_cases c : e.1 = f.1
    · have : e.2 = f.2 := one _ _ (by rw [c] at ew; omega)
      rw [Prod.ext c this]
    · refine RenR.ov1_comm ⟨c, fun z => ?_, fun z => ?_, fun z => c (one _ _ (by rw [z] at ew; omega)), Nat.ne_of_lt x.ev.1, Nat.ne_of_lt y.ev.1⟩ s
      · rw [z] at e1 x3; omega
      · rw [z] at e2 x3; omega
end
end Pv
namespace Pv
open PySem PySem.Spec L2 Wf
section
variable {m : Int} {ps ss : List Int} {ks : List Nat} {L N : Nat} {B : Book}
/-- what a batch makes of the burdens -/
theorem batch_get {i j o : Nat} (hi : i < ks.length) (hj : j < ks.length) (ne : i ≠ j) {b : List Int} (bl : b.length = N * ks.length) : ∀ C, C + o ≤ N → ∀ c u, c < N → u < ks.length →
    (ovN B (kLn N ks) ((List.range C).map fun c => (c * ks.length + i, (c + o) * ks.length + j)) b).getD (c * ks.length + u) 0 =
      if u = i ∧ c < C then (B.at (ks.getD i 0 : Nat) (ks.getD j 0 : Nat) (b.getD (c * ks.length + i) 0) (b.getD ((c + o) * ks.length + j) 0)).2
      else if u = j ∧ o ≤ c ∧ c < C + o then (B.at (ks.getD i 0 : Nat) (ks.getD j 0 : Nat) (b.getD ((c - o) * ks.length + i) 0) (b.getD (c * ks.length + j) 0)).1
      else b.getD (c * ks.length + u) 0
  | 0, _, c, u, hc, hu => by
    rw [if_neg (by omega), if_neg (by omega)]
    rfl
  | C + 1, hC, c, u, hc, hu => by
    have ih := batch_get (o := o) hi hj ne bl C (by omega)
    rw [List.range_succ, List.map_append, ovN_app]
    generalize hr : ovN B (kLn N ks) ((List.range C).map fun c => (c * ks.length + i, (c + o) * ks.length + j)) b = r at *
    have rl : r.length = N * ks.length := by rw [← hr, ovL_len, bl]
    show (ov1 B (kLn N ks) r (C * ks.length + i, (C + o) * ks.length + j)).getD _ 0 = _
    have l1 : C * ks.length + i < r.length := by rw [rl]; exact cop_lt (by omega) hi
    have l2 : (C + o) * ks.length + j < r.length := by rw [rl]; exact cop_lt (by omega) hj
    rw [ov1_get l1 l2]
    dsimp only
    rw [kLn_cop (show C < N by omega) hi, kLn_cop (show C + o < N by omega) hj]
    have v1 := ih C i (by omega) hi
    have v2 := ih (C + o) j (by omega) hj
    rw [if_neg (by omega), if_neg (by omega)] at v1
    rw [if_neg (by omega), if_neg (by omega)] at v2
    rw [v1, v2, ih c u hc hu]
    by_cases a : C * ks.length + i = c * ks.length + u
    · obtain ⟨rfl, rfl⟩ := cop_inj hi hu a
      rw [if_pos rfl, if_pos ⟨rfl, by omega⟩]
    · rw [if_neg a]
      by_cases a2 : (C + o) * ks.length + j = c * ks.length + u
      · obtain ⟨rfl, rfl⟩ := cop_inj hj hu a2
        rw [if_pos rfl, if_neg (by omega), if_pos (by omega), Nat.add_sub_cancel]
      · rw [if_neg a2]
        have n1 : ¬ (u = i ∧ c = C) := fun z => a (by rw [z.1, z.2])
        have n2 : ¬ (u = j ∧ c = C + o) := fun z => a2 (by rw [z.1, z.2])
        by_cases d1 : u = i ∧ c < C
        · rw [if_pos d1, if_pos (by omega)]
        · rw [if_neg d1, if_neg (show ¬ (u = i ∧ c < C + 1) by omega)]
          by_cases d2 : u = j ∧ o ≤ c ∧ c < C + o
          · rw [if_pos d2, if_pos (by omega)]
          · rw [if_neg d2, if_neg (show ¬ (u = j ∧ o ≤ c ∧ c < C + 1 + o) by omega)]
/-- burdens of the copies, far from the ends, are those of the round -/
structure RelC (N n q : Nat) (b bN : List Int) : Prop where
  l1 : b.length = n
  l2 : bN.length = N * n
  eq : ∀ c i, q ≤ c → c + q < N → i < n → bN.getD (c * n + i) 0 = b.getD i 0
theorem rel_batch (rg : RgOk m B.ps ks ss L) {a : Mt} (ha : a ∈ msR B.ps ks ss L) {q : Nat} {b bN : List Int} (r : RelC N ks.length q b bN) : RelC N ks.length (q + 13) (ov1 B ks b (evM a)) (ovN B (kLn N ks) (batC N ks.length L a) bN) := by
  obtain ⟨i, j, x, hi, hj, hx, rfl⟩ := mem_msR ha
  have g12 := rg.gap hi hj
  have ne := (ne_gap rg hi hj (by omega)).2
  have eo := off_mt rg (i := i) (j := j) (x := x)
  have o13 : offM L (mtR B.ps ks ss L i j x) ≤ 13 := by rw [eo]; split <;> omega
  refine ⟨by rw [← r.l1]; unfold ov1; rw [List.length_set, List.length_set], by rw [ovL_len, r.l2], fun c u h1 h2 hu => ?_⟩
  show (ovN B (kLn N ks) ((List.range (N - offM L (mtR B.ps ks ss L i j x))).map fun c => (c * ks.length + i, (c + offM L (mtR B.ps ks ss L i j x)) * ks.length + j)) bN).getD (c * ks.length + u) 0 = _
  generalize offM L (mtR B.ps ks ss L i j x) = o at *
  rw [batch_get hi hj ne r.l2 (N - o) (by omega) c u (by omega) hu]
  show _ = (ov1 B ks b (i, j)).getD u 0
  rw [ov1_get (by rw [r.l1]; exact hi) (by rw [r.l1]; exact hj)]
  dsimp only
  by_cases c1 : u = i
  · subst c1
    rw [if_pos ⟨rfl, by omega⟩, if_pos rfl, r.eq c u (by omega) (by omega) hi, r.eq (c + o) j (by omega) (by omega) hj]
  · rw [if_neg (show ¬ (u = i ∧ c < N - o) from fun z => c1 z.1), if_neg (show ¬ i = u from fun z => c1 z.symm)]
    by_cases c2 : u = j
    · subst c2
      rw [if_pos ⟨rfl, by omega, by omega⟩, if_pos rfl, r.eq c u (by omega) (by omega) hj, r.eq (c - o) i (by omega) (by omega) hi]
    · rw [if_neg (show ¬ (u = j ∧ o ≤ c ∧ c < N - o + o) from fun z => c2 z.1), if_neg (show ¬ j = u from fun z => c2 z.symm), r.eq c u (by omega) (by omega) hu]
theorem rel_fold (rg : RgOk m B.ps ks ss L) : ∀ {A : List Mt} {q : Nat} {b bN : List Int}, (∀ a ∈ A, a ∈ msR B.ps ks ss L) → RelC N ks.length q b bN → RelC N ks.length (q + 13 * A.length) (ovN B ks (A.map evM) b) (ovN B (kLn N ks) (A.flatMap (batC N ks.length L)) bN)
  | [], _, _, _, _, r => r
  | a :: A, q, b, bN, hA, r => by
    have s := rel_fold rg (A := A) (fun x hx => hA x (List.mem_cons_of_mem _ hx)) (rel_batch rg (hA a List.mem_cons_self) r)
    rw [List.flatMap_cons, ovN_app]
    show RelC N ks.length (q + 13 * (A.length + 1)) (ovN B ks (A.map evM) (ov1 B ks b (evM a))) _
    rw [show q + 13 * (A.length + 1) = q + 13 + 13 * A.length by omega]
    exact s
theorem rel_round (rg : RgOk m B.ps ks ss L) (bk : BookOk m B) {bo : List Int} (hb : bo.length = ks.length) : RelC N ks.length 3900 (roundF B ks ss L bo) (ovN B (kLn N ks) (theD N B.ps ks ss L) (bLn N ks.length bo)) := by
  have t := (theR_ok rg).1
  have few := (rr_of bk rg t).few
  have r0 : RelC N ks.length 0 bo (bLn N ks.length bo) := ⟨hb, bLn_len, fun c i _ hc hi => by rw [bLn_get (cop_lt (by omega) hi), cop_mod hi]⟩
  have r := rel_fold rg (A := theR B.ps ks ss L) (fun a ha => t.mem_iff.mp ha) r0
  rw [line_fold rg]
  exact ⟨r.l1, r.l2, fun c i h1 h2 hi => r.eq c i (by omega) (by omega) hi⟩
/-- the order of the line at the beat of a round: whatever the spots -/
def stC (ps : List Int) (ks : List Nat) (a b : Nat) : Prop := ((a / ks.length : Nat) : Int) + pLn ps ks a < ((b / ks.length : Nat) : Int) + pLn ps ks b ∨ ((a / ks.length : Nat) : Int) + pLn ps ks a = ((b / ks.length : Nat) : Int) + pLn ps ks b ∧ a % ks.length < b % ks.length
theorem st_C (rg : RgOk m ps ks ss L) {a b : Nat} (ha : a < N * ks.length) (hb : b < N * ks.length) (h : stB4 (fun i => (kLn N ks).getD i 0) (pLn ps ks) (sLn ks.length ss L) L a b) : stC ps ks a b := by
  have n1 := RgOk.n0 ha
  have ea := cop_of n1 a
  have eb := cop_of n1 b
  unfold stB4 at h
  dsimp only at h
  rw [kLn_get ha, kLn_get hb] at h
  unfold stC
  unfold sLn at h
  have l1 := rg.sp.l1
  have a1 := rg.inL ea.2
  have b1 := rg.inL eb.2
  have two : ∀ x y : Int, x < y → x * (L : Int) + L ≤ y * L := fun x y h => by
    have := Int.mul_le_mul_of_nonneg_right (show x + 1 ≤ y from h) (show (0 : Int) ≤ L by omega)
    rw [Int.add_mul, Int.one_mul] at this
    exact this
  have key : ∀ z : Nat, sf ss (z % ks.length) + ((z / ks.length : Nat) : Int) * (L : Int) + pLn ps ks z * (L : Int) = sf ss (z % ks.length) + (((z / ks.length : Nat) : Int) + pLn ps ks z) * L := fun z => by rw [Int.add_mul]; omega
  rw [key, key] at h
  have pe : a % ks.length = b % ks.length → pLn ps ks a = pLn ps ks b := fun z => by unfold pLn; rw [z]
  have ke : a % ks.length = b % ks.length → ks.getD (a % ks.length) 0 = ks.getD (b % ks.length) 0 := fun z => by rw [z]
  have us : a % ks.length < b % ks.length → sf ss (a % ks.length) < sf ss (b % ks.length) := fun z => rg.upL z eb.2
  have us2 : b % ks.length < a % ks.length → sf ss (b % ks.length) < sf ss (a % ks.length) := fun z => rg.upL z ea.2
  have se : a % ks.length = b % ks.length → sf ss (a % ks.length) = sf ss (b % ks.length) := fun z => by rw [z]
  have cc : a % ks.length = b % ks.length → a / ks.length = b / ks.length → a = b := fun z1 z2 => by
    have e1 := ea.1
    rw [z1, z2] at e1
    exact e1.trans eb.1.symm
  generalize hx : ((a / ks.length : Nat) : Int) + pLn ps ks a = x at *
  generalize hy : ((b / ks.length : Nat) : Int) + pLn ps ks b = y at *
  rcases Int.lt_trichotomy x y with z | z | z
  · exact .inl z
  · refine .inr ⟨z, ?_⟩
    subst z
    rcases Nat.lt_trichotomy (a % ks.length) (b % ks.length) with w | w | w
    · exact w
    · exfalso
      have := pe w
      have := ke w
      have := se w
      have := cc w (by omega)
      omega
    · exfalso
      have := us2 w
      omega
  · exfalso
    have := two _ _ z
    omega
theorem line_one {L' : Nat} {ss' : List Int} (rg : RgOk m ps ks ss L) (rg' : RgOk m ps ks ss' L') : ordB (kLn N ks).length (pLn ps ks) (sLn ks.length ss L) (theL (kLn N ks).length (fun i => (kLn N ks).getD i 0) (pLn ps ks) (sLn ks.length ss L)) L = ordB (kLn N ks).length (pLn ps ks) (sLn ks.length ss' L') (theL (kLn N ks).length (fun i => (kLn N ks).getD i 0) (pLn ps ks) (sLn ks.length ss' L')) L' := by
  have R := rodL rg (N := N)
  have R' := rodL rg' (N := N)
  have p1 := ord_perm R (theL_ok R) (L : Int)
  have p2 := ord_perm R' (theL_ok R') (L' : Int)
  have s1 := ord_pair R (theL_ok R) (t := (L : Int)) (by omega)
  have s2 := ord_pair R' (theL_ok R') (t := (L' : Int)) (by omega)
  have inn : ∀ {o : List Nat}, o.Perm (List.range (kLn N ks).length) → ∀ x ∈ o, x < N * ks.length := fun p x hx => by
    have := List.mem_range.mp (p.mem_iff.mp hx)
    rw [kLn_len] at this
    exact this
  refine one_of (R := stC ps ks) (fun a _ b _ h1 h2 => ?_) (p1.trans p2.symm) (s1.imp_of_mem fun ha hb h => st_C rg (inn p1 _ ha) (inn p1 _ hb) h) (s2.imp_of_mem fun ha hb h => st_C rg' (inn p2 _ ha) (inn p2 _ hb) h)
  unfold stC at h1 h2
  omega
theorem rowOk_O (bk : BookOk m B) (rg : RgOk m B.ps ks ss L) {bo : List Int} (ok : BoOk B.s ks.length bo) : RowOk m B.s (rowO (kLn N ks) (List.range (kLn N ks).length) (bLn N ks.length bo)) := by
  intro p hp
  obtain ⟨x, hx, rfl⟩ := List.mem_map.mp hp
  have hx := List.mem_range.mp hx
  rw [kLn_len] at hx
  have n1 := RgOk.n0 hx
  have e := cop_of n1 x
  dsimp only
  rw [kLn_get hx, bLn_get hx]
  have k := rg.kl _ (getDm (d := 0) e.2)
  have h2 := (near_pos bk).2.2
  have b := ok.inn _ (getDm (d := 0) (show x % ks.length < bo.length by rw [ok.len]; exact e.2))
  omega
/-- any spots: what a round makes -/
theorem round_any {L' : Nat} {ss' : List Int} (bk : BookOk m B) (yb : YbB B m) (rg : RgOk m B.ps ks ss L) (rg' : RgOk m B.ps ks ss' L') {bo : List Int} (ok : BoOk B.s ks.length bo) : roundF B ks ss L bo = roundF B ks ss' L' bo := by
  obtain ⟨N, hN⟩ : ∃ N : Nat, N = 7802 := ⟨_, rfl⟩
  have R := rodL rg (N := N)
  have R' := rodL rg' (N := N)
  have r1 := rel_round rg bk (N := N) ok.len
  have r2 := rel_round rg' bk (N := N) ok.len
  have kb : (bLn N ks.length bo).length = (kLn N ks).length := by rw [bLn_len, kLn_len]
  obtain ⟨po1, e1⟩ := done_pre R (theL_ok R) (L : Int)
  obtain ⟨po2, e2⟩ := done_pre R' (theL_ok R') (L' : Int)
  have row1 := run_row (B := B) R (theL_ok R) kb _ _ po1 rfl e1
  have row2 := run_row (B := B) R' (theL_ok R') kb _ _ po2 rfl e2
  have w1 := word_ok R (theL_ok R) _ _ po1 rfl e1
  have w2 := word_ok R' (theL_ok R') _ _ po2 rfl e2
  have ro := rowOk_O (N := N) bk rg ok
  have kk : kindsN (rowO (kLn N ks) (List.range (kLn N ks).length) (bLn N ks.length bo)) = kLn N ks := by
    unfold kindsN rowO
    rw [List.map_map]
    exact kf_range (kLn N ks)
  have f1 := fwd_of_word bk ro (by rw [kk]; exact w1)
  have f2 := fwd_of_word bk ro (by rw [kk]; exact w2)
  have lo := line_one (N := N) rg rg'
  have pm := ord_perm R (theL_ok R) (L : Int)
  unfold ordB at lo pm
  have same := led_same bk yb ro f1 f2 (by
    rw [show (rowO (kLn N ks) (List.range (kLn N ks).length) (bLn N ks.length bo)).length = (kLn N ks).length by simp [rowO]]
    rw [go_lets, go_lets]
    exact lo)
  rw [row1, row2, ← lo] at same
  have all : ∀ x, x < N * ks.length → (ovN B (kLn N ks) (theD N B.ps ks ss L) (bLn N ks.length bo)).getD x 0 = (ovN B (kLn N ks) (theD N B.ps ks ss' L') (bLn N ks.length bo)).getD x 0 := fun x hx => by
    have hm := pm.mem_iff.mpr (List.mem_range.mpr (show x < (kLn N ks).length by rw [kLn_len]; exact hx))
    exact congrArg Prod.snd (List.map_inj_left.mp same x hm)
  refine List.ext_getElem (by rw [r1.l1, r2.l1]) fun i h1 h2 => ?_
  have hi : i < ks.length := by rw [← r1.l1]; exact h1
  have c1 := r1.eq 3900 i (by omega) (by omega) hi
  have c2 := r2.eq 3900 i (by omega) (by omega) hi
  rw [all _ (cop_lt (by omega) hi), c2] at c1
  rw [List.getD_eq_getElem?_getD, List.getD_eq_getElem?_getD, List.getElem?_eq_getElem h1, List.getElem?_eq_getElem h2] at c1
  exact c1.symm
theorem itF_any {L' : Nat} {ss' : List Int} (bk : BookOk m B) (yb : YbB B m) (rg : RgOk m B.ps ks ss L) (rg' : RgOk m B.ps ks ss' L') {bo : List Int} (ok : BoOk B.s ks.length bo) : ∀ q, itF (roundF B ks ss L) bo q = itF (roundF B ks ss' L') bo q
  | 0 => rfl
  | q + 1 => by
    have t := (theR_ok rg).1
    have ev := (rr_of bk rg t).ev
    show roundF B ks ss L (itF (roundF B ks ss L) bo q) = roundF B ks ss' L' (itF (roundF B ks ss' L') bo q)
    rw [← itF_any bk yb rg rg' ok q]
    exact round_any bk yb rg rg' (itOv_ok bk ev ok q)
/-- whole rounds: no meeting is at a beat's first moment -/
theorem born_round {bo : List Int} (rg : RgOk m B.ps ks ss L) (q : Nat) : bornR B ks ss L bo (q * L) = itF (roundF B ks ss L) bo q := by
  have l1 := rg.sp.l1
  unfold bornR
  rw [Nat.mul_mod_left, Nat.mul_div_cancel _ (by omega)]
  have e : (theR B.ps ks ss L).filter (doneM 0) = [] := List.filter_eq_nil_iff.mpr fun a ha => by
    obtain ⟨i, j, x, hi, hj, hx, rfl⟩ := mem_msR ((theR_ok rg).1.mem_iff.mp ha)
    have wp := way_pos rg hi hj (by omega)
    unfold doneM
    rw [decide_eq_true_eq]
    show ¬ (((wyN ss L i j + x * L : Nat) : Int) ≤ ((0 : Nat) : Int) * _)
    rw [Int.natCast_zero, Int.zero_mul]
    omega
  rw [e]
  rfl
end
end Pv
namespace Pv
open PySem PySem.Spec L2 Wf
theorem yb_good55 {B : Book} {m s : Nat} (bk : BookOk (m : Int) B) (es : B.s = (s : Int)) (g : GoodT (m : Int) B.s B.ts) : YbB B (m : Int) := by
  refine yb_of es (List.find?_eq_none.mpr fun p hp => ?_)
  unfold pairsN at hp
  obtain ⟨k, h1, h2⟩ := List.mem_flatMap.mp hp
  obtain ⟨b, h3, rfl⟩ := List.mem_map.mp h2
  rw [good_not_bad bk es g h1 h3]
  exact nofun
theorem born_any {m : Int} {B : Book} {w : List Wk} {L : Nat} {ss : List Int} (yb : YbB B m) (nr : NearR m B w) (sp : SpR w.length L ss) (q : Nat) : bornR B (kindsN w) ss L (burI w) (q * L) = bornD B (kindsN w) (burI w) q := by
  rw [born_round (nr.rg sp)]
  exact itF_any nr.bk yb (nr.rg sp) nr.rg0 (bur_ok nr.ok) q
theorem rho_on {α : Type} {f : α → α} {b : α} {n k q : Nat} (h : Rho f b n k) (hq : k ≤ q) : itF f b (q + (n - k)) = itF f b q := by
  have lt := h.lt
  have z1 : q + (n - k) = n + (q - k) := by omega
  have z2 : q = k + (q - k) := by omega
  rw [z1, itF_add, h.again, ← itF_add, ← z2]
/-! ### law 55 -/
-- DEF law N ['_law_script', '_law_deal_here', '_law_turn', '_law_tome', '_law_walkers', '_law_rings', '_law_far', '_law_many', '_law_first', '_law_more', '_law_due', '_law_k', '_law_size', '_law_spots'] calls ['_law_deal', '_law_ring_book', '_law_draw', '_law_ring_row', '_law_ring', 'comes_again', 'rounds_done', 'round_burdens'] takes []
def pe_law55_1 : PX :=
    pCall psp_lring (pCons (pVar 1) (pCons (pFz (pC (q1 fLen) (pCons (pVar 4) (pNil)))) (pNil))) noX
def pb_law55_2 : PSx :=
    pIf (pT (pEq true (pCall psp_rburdens (pApp (pCons (pFz (pVar 3)) (pCons (pFz (pVar 4)) (pCons (pFz (pVar 13)) (pNil)))) (pCons (pFz (pVar 12)) (pCons (pFz (pMul (pVar 7) (pVar 12))) (pNil)))) noX) (pVar 10))) (pRet (pK (.bool false))) (pNext)
def pr_law55_1 : PSx :=
    pIf (pAnd (pT (pGe (pVar 7) (pVar 8))) (pT (pEq true (pCall psp_rdone (pApp (pCons (pFz (pVar 3)) (pCons (pFz (pVar 4)) (pNil))) (pCons (pFz (pAdd (pVar 7) (pVar 9))) (pNil))) noX) (pVar 10)))) (pRet (pK (.bool false))) (pNext)
def pr_law55_2 : PSx :=
    pSeq (pFor [12, 13] (iSeq (pVar 5)) (gT 2 (gsC (gN 12) (gsC (gN 13) (gsN)))) (pb_law55_2))
    (pr_law55_1)
def pb_law55_5 : PSx :=
    pSeq (pSet 10 (pCall psp_rdone (pApp (pCons (pFz (pVar 3)) (pCons (pFz (pVar 4)) (pNil))) (pCons (pFz (pVar 7)) (pNil))) noX))
    (pr_law55_2)
def pr_law55_3 : PSx :=
    pFor [7, 10, 12, 13] (iSeq (pTup (pCons (pK (.int 0)) (pCons (pK (.int 1)) (pCons (pK (.int 2)) (pCons (pK (.int 3)) (pCons (pCall psp_draw (pCons (pVar 1) (pCons (pFz (pK (.int 6))) (pNil))) noX) (pCons (pVar 6) (pNil))))))))) (gN 7) (pb_law55_5)
def pr_law55_4 : PSx :=
    pSeq (pSet 6 (pCall psp_draw (pCons (pVar 1) (pCons (pFz (pPow (pK (.int 10)) (pK (.int 6)))) (pNil))) noX))
    (pr_law55_3)
def pr_law55_5 : PSx :=
    pSeq (pAsg (pCall psp_comes (pCons (pFz (pVar 3)) (pCons (pFz (pVar 4)) (pNil))) noX) (gT 2 (gsC (gN 8) (gsC (gN 9) (gsN)))))
    (pr_law55_4)
def pr_law55_6 : PSx :=
    pSeq (pSet 5 (pComp (iRg (pCons (pK (.int 2)) (pNil))) (gN 11) (pYes) (pe_law55_1) [11]))
    (pr_law55_5)
def pr_law55_7 : PSx :=
    pSeq (pSet 4 (pCall psp_ring_row (pCons (pVar 1) (pCons (pFz (pVar 3)) (pNil))) noX))
    (pr_law55_6)
def pb_law55_11 : PSx :=
    pSeq (pSet 3 (pCall psp_ring_book (pCons (pVar 1) (pCons (pFz (pAdd (pK (.int 1)) (pCall psp_draw (pCons (pVar 1) (pCons (pFz (pK (.int 5))) (pNil))) noX))) (pCons (pFz (pAdd (pK (.int 1)) (pCall psp_draw (pCons (pVar 1) (pCons (pFz (pK (.int 6))) (pNil))) noX))) (pCons (pFz (pK (.int 1))) (pNil))))) noX))
    (pr_law55_7)
def pr_law55_8 : PSx :=
    pRet (pK (.bool true))
def pr_law55_9 : PSx :=
    pSeq (pFor [2, 3, 4, 5, 6, 7, 8, 9, 10, 12, 13] (iRg (pCons (pK (.int 6)) (pNil))) (gN 2) (pb_law55_11))
    (pr_law55_8)
def p_law55 : PSx :=
    pSeq (pSet 1 (pCall psp_deal (pCons (pVar 0) (pCons (pFz (pK (.int 0))) (pNil))) noX))
    (pr_law55_9)
abbrev st55 (ns : List Int) (s2 s3 s4 s5 s6 s7 s8 s9 s10 s12 s13 : Sl) : List Sl := [.ow true (.scr ns), .ow false .deal, s2, s3, s4, s5, s6, s7, s8, s9, s10, .un, s12, s13]
theorem pk55 {s0 s : Sl} {b : Bool} {d : PyData} {δ : List Sl} : putB (s0 :: .ow b .deal :: δ) [.at 1, .im d] [.ow true .deal, s] = s0 :: .ow b .deal :: δ := rfl
abbrev rgD55 (r : Nat × List Int) : PyData := .tuple [nD r.1, dK r.2]
abbrev IsR55 (rs : List (Nat × List Int)) (s : Sl) : Prop := s = .ow false (.lst (rs.map rgD55)) ∨ s = .im (.list (rs.map rgD55))
theorem hp_many55 {E : PEn} {ns : List Int} {s2 : Sl} {B : Book} {m : Int} {w : List Wk} {rs : List (Nat × List Int)} {s5 : Sl} {g n k q : Nat} (h5 : IsR55 rs s5) (yb : YbB B m) (nr : NearR m B w) (hr' : ∀ r ∈ rs, SpR w.length r.1 r.2) (rho : Rho (rndF B (kindsN w)) (burI w) n k)
    (h : ∀ x10 : PyData, E.nx (st55 ns s2 (.im (dB B)) (.im (dR w)) (.im (.list (rs.map rgD55))) (.im (nD g)) (.im (nD q)) (.im (nD k)) (.im (nD (n - k))) (.im x10) .un .un)) :
    pb_law55_5 E (st55 ns s2 (.im (dB B)) (.im (dR w)) s5 (.im (nD g)) (.im (nD q)) (.im (nD k)) (.im (nD (n - k))) .un .un .un) := by
  refine ⟨_, _, rfl, _, _, rfl, _, _, rfl, _, rfl, List.nodup_nil, B, m, w, q, rfl, nr, fun _ => ?_⟩
  refine ⟨_, _, rfl, ?_⟩
  generalize hd : bornD B (kindsN w) (burI w) q = due
  show pr_law55_2 E (st55 ns s2 (.im (dB B)) (.im (dR w)) s5 (.im (nD g)) (.im (nD q)) (.im (nD k)) (.im (nD (n - k))) (.im (dK due)) .un .un)
  have l1 : ∀ δ, δ = st55 ns s2 (.im (dB B)) (.im (dR w)) (.im (.list (rs.map rgD55))) (.im (nD g)) (.im (nD q)) (.im (nD k)) (.im (nD (n - k))) (.im (dK due)) .un .un → pr_law55_1 E δ := by
    rintro δ rfl
    refine ⟨trivial, _, rfl, ?_⟩
    show if decide ((k : Int) ≤ (q : Int)) = true then _ else _
    have eqk : (q : Int) + ((n - k : Nat) : Int) = ((q + (n - k) : Nat) : Int) := by omega
    by_cases c : k ≤ q
    · rw [if_pos (decide_eq_true (by omega))]
      refine ⟨_, _, rfl, _, _, rfl, _, _, rfl, _, rfl, List.nodup_nil, B, m, w, q + (n - k), ?_, nr, fun _ => ?_⟩
      · rw [eqk]
      have e : bornD B (kindsN w) (burI w) (q + (n - k)) = due := by rw [← hd]; exact rho_on rho c
      rw [e]
      refine ⟨shaped_dK52 _, shaped_dK52 _, _, rfl, ?_⟩
      show if (!eqd (dK due) (dK due)) = true then _ else _
      rw [eqd_self (shaped_dK52 _)]
      exact h _
    · rw [if_neg (by rw [decide_eq_true_eq]; omega)]
      exact h _
  rcases h5 with rfl | rfl
  all_goals
    refine ⟨_, _, _, rfl, rfl, ?_⟩
    refine for_all (fun d => ∃ r ∈ rs, d = rgD55 r) (fun d hd => by obtain ⟨r, hr, rfl⟩ := List.mem_map.mp hd; exact ⟨r, hr, rfl⟩) (fun δ => δ = st55 ns s2 (.im (dB B)) (.im (dR w)) (.im (.list (rs.map rgD55))) (.im (nD g)) (.im (nD q)) (.im (nD k)) (.im (nD (n - k))) (.im (dK due)) .un .un) rfl ?_ (fun δ hδ => l1 δ hδ)
    rintro d δ ⟨r, hr, rfl⟩ rfl
    have sp := hr' r hr
    obtain ⟨L, ss⟩ := r
    refine ⟨rfl, rfl, ?_⟩
    have em : (q : Int) * (L : Int) = ((q * L : Nat) : Int) := (Int.natCast_mul _ _).symm
    have l2 := sp.l2
    refine ⟨_, _, rfl, _, _, rfl, _, _, rfl, _, _, rfl, .inl (.inr ⟨by omega, by omega⟩), _, _, rfl, _, rfl, List.nodup_nil, B, m, w, ss, L, q * L, ?_, nr.bk, nr.ok, nr.rg sp, fun _ => ?_⟩
    · dsimp only
      rw [em]
    rw [born_any yb nr sp, hd]
    refine ⟨shaped_dK52 _, shaped_dK52 _, _, rfl, ?_⟩
    show if (!eqd (dK due) (dK due)) = true then _ else _
    rw [eqd_self (shaped_dK52 _)]
    rfl
theorem hp_law55 (as : List Sl) (Qp : QE) (Ep : EX) (h : psp_law as Qp Ep) : p_law55 (endsP as Qp) (as ++ List.replicate 13 .un) := by
  obtain ⟨ns, rfl, hn, q⟩ := h
  refine ⟨_, _, rfl, _, rfl, nd1 0, 0, ns, rfl, by omega, by omega, hn, _, _, rfl, ?_⟩
  show pr_law55_9 _ (st55 ns .un .un .un .un .un .un .un .un .un .un .un)
  refine ⟨by decide, by decide, ?_⟩
  refine for_rg 6 rfl (fun i δ => δ = st55 ns .un .un .un .un .un .un .un .un .un .un .un) rfl ?_ ?_
  · rintro i δ hi rfl
    refine ⟨_, _, rfl, _, rfl, nd1 1, _, rfl, by decide, by decide, fun a ha => ?_⟩
    simp only [pk55]
    refine ⟨_, _, rfl, _, _, rfl, _, rfl, nd1 1, _, rfl, by decide, by decide, fun b hb => ?_⟩
    simp only [pk55]
    refine ⟨_, _, rfl, _, _, rfl, _, rfl, nd1 1, _, _, _, rfl, by omega, by omega, by omega, by omega, fun n0 ps ts n1 n5 pok bt bk => ?_⟩
    obtain ⟨n, rfl⟩ : ∃ n : Nat, n0 = (n : Int) := ⟨n0.toNat, by omega⟩
    refine ⟨_, _, rfl, ?_⟩
    have ec : (1 : Int) + (b : Int) = ((1 + b : Nat) : Int) := by omega
    have gd := bt.good rfl
    generalize hB : (Book.mk ps (1 + (b : Int)) ts) = B at bk
    have es : B.s = ((1 + b : Nat) : Int) := by subst hB; exact ec
    have gd : GoodT (n : Int) B.s B.ts := by subst hB; exact gd
    have yb := yb_good55 bk es gd
    show pr_law55_7 _ (st55 ns (.im (nD i)) (.im (dB B)) .un .un .un .un .un .un .un .un .un)
    refine ⟨_, _, rfl, _, rfl, nd1 1, B, n, rfl, bk, fun w ok rl kn => ?_⟩
    have nr : NearR n B w := ⟨bk, ok, rl, kn⟩
    have el : (w.map dP).length = w.length := List.length_map _
    refine ⟨_, _, rfl, ?_⟩
    show pr_law55_6 _ (st55 ns (.im (nD i)) (.im (dB B)) (.im (dR w)) .un .un .un .un .un .un .un .un)
    refine ⟨by decide, by decide, noPin1 (fun o => nofun), fun x acc δ => ∃ rs : List (Nat × List Int), acc = rs.map rgD55 ∧ rs.length = x ∧ (∀ r ∈ rs, SpR w.length r.1 r.2) ∧ δ = st55 ns (.im (nD i)) (.im (dB B)) (.im (dR w)) .un .un .un .un .un .un .un .un, ⟨[], rfl, rfl, nofun, rfl⟩, ?_, ?_⟩
    · rintro x d acc δ hd ⟨rs, rfl, rl2, rb, rfl⟩
      obtain ⟨rfl, hx⟩ := rgD_get hd
      refine ⟨_, _, rfl, _, rfl, nd1 1, (w.map dP).length, rfl, by omega, fun L ss sp => ?_⟩
      rw [el] at sp
      refine ⟨_, _, rfl, ?_, rs ++ [(L, ss)], ?_, by simp [rl2], fun r hr => ?_, rfl⟩
      · rw [List.length_map]
        have : (10000 : Nat) < sizeLine := by decide
        omega
      · rw [List.map_append]; rfl
      · rcases List.mem_append.mp hr with h1 | h1
        · exact rb r h1
        · rw [List.mem_singleton.mp h1]; exact sp
    rintro acc δ ⟨rs, rfl, rl2, rb, rfl⟩
    refine ⟨_, _, rfl, ?_⟩
    show pr_law55_5 _ (st55 ns (.im (nD i)) (.im (dB B)) (.im (dR w)) (.ow false (.lst (rs.map rgD55))) .un .un .un .un .un .un .un)
    refine ⟨_, _, rfl, _, _, rfl, _, rfl, List.nodup_nil, B, n, w, rfl, nr, fun N k rho _ => ?_⟩
    refine ⟨_, _, rfl, rfl, rfl, ?_⟩
    show pr_law55_4 _ (st55 ns (.im (nD i)) (.im (dB B)) (.im (dR w)) (.ow false (.lst (rs.map rgD55))) .un .un (.im (nD k)) (.im (nD (N - k))) .un .un .un)
    refine ⟨⟨by decide, by decide, by decide⟩, _, _, rfl, _, rfl, nd1 1, _, rfl, by decide, by decide, fun g hg => ?_⟩
    simp only [pk55]
    refine ⟨_, _, rfl, ?_⟩
    show pr_law55_3 _ (st55 ns (.im (nD i)) (.im (dB B)) (.im (dR w)) (.ow false (.lst (rs.map rgD55))) (.im (nD g)) .un (.im (nD k)) (.im (nD (N - k))) .un .un .un)
    refine ⟨_, _, rfl, _, rfl, nd1 1, _, rfl, by decide, by decide, fun f hf => ?_⟩
    simp only [pk55]
    have hg : (g : Int) < 10 ^ Int.toNat 6 := hg
    have gl : g < 1000000 := by
      have e : (10 : Int) ^ Int.toNat 6 = 1000000 := by decide
      rw [e] at hg
      omega
    refine ⟨_, _, _, rfl, rfl, ?_⟩
    refine for_all (fun d => ∃ q : Nat, d = nD q) (fun d hd => ?_) (fun δ => ∃ s5, IsR55 rs s5 ∧ δ = st55 ns (.im (nD i)) (.im (dB B)) (.im (dR w)) s5 (.im (nD g)) .un (.im (nD k)) (.im (nD (N - k))) .un .un .un) ⟨_, .inl rfl, rfl⟩ ?_ ?_
    · simp only [List.mem_cons, List.not_mem_nil, or_false] at hd
      rcases hd with rfl | rfl | rfl | rfl | rfl | rfl
      · exact ⟨0, rfl⟩
      · exact ⟨1, rfl⟩
      · exact ⟨2, rfl⟩
      · exact ⟨3, rfl⟩
      · exact ⟨f, rfl⟩
      · exact ⟨g, rfl⟩
    · rintro d δ ⟨q, rfl⟩ ⟨s5, h5, rfl⟩
      exact hp_many55 h5 yb nr rb rho fun x10 => ⟨_, .inr rfl, rfl⟩
    · rintro δ ⟨s5, h5, rfl⟩
      rcases h5 with rfl | rfl
      all_goals rfl
  · rintro δ rfl
    exact ⟨_, _, rfl, q⟩
end Pv
namespace Wf
open PySem PySem.Spec L2 Pv
/-- the rows of the linked text -/
def topS (i : Nat) : Stmt := PySem.Challenge.pw_wherefrom_k55_whole_any_spots_of_a_round.main.body.getD i (.Pass ⟨0, 0, 0, 0⟩)
section
variable {P : Program} {w : World} {K : PySem.W.Frag} {mg : Str → Option Value} {base : Heap} {f : Addr} {fd : FuncData} {cNoBook cRoadError : Addr}
abbrev s_draw : Stmt := topS 23
abbrev N_draw : List Str := ["_law_deal_here", "_law_many", "_law_one", "_law_other", "_law_digit"]
theorem sc_draw : FnScope N_draw ["_law_deal_here", "_law_many"] (defScope s_draw) := ⟨rfl, rfl, rfl, by decide +kernel, rfl, by decide +kernel, by decide +kernel⟩
theorem ok_draw (F : FnP K "_law_draw" s_draw f fd) (B : Bl mg)  : FnOk P w K mg base CX0 1 f fd ["_law_deal_here", "_law_many"] sp_draw := by
  refine F.ok sc_draw (fun vs H Q E h => ?_) (fun cdv A outer s H vs Q E hr h => ⟨_, PSs.nox ?_, pure_draw (K := K) vs H Q E h⟩)
  · obtain ⟨_, _, _, rfl, _⟩ := h
    rfl
  · exact pss_cons (ps_while PassesOwn.never (PW.pt (pw_and (pt_cmpR op_eq (pe_dget (hu_of hr) (pv 0) (pe_str) (fun _ _ => rfl)) (pe_int) (nomark _)) (pw_and1 (pt_cmpR op_gt (pe_callB call_len (by rfl) B.b_len (by decide +kernel) (pa_cons (pe_dget (hu_of hr) (pv 0) (pe_str) (fun _ _ => rfl)) (pa_nil))) (pe_int) (nomark _))))) (pss_one (ps_dput (hu_of hr) (pv 0) (pe_str) (pe_bm0 PySem.F.plainAttrs_list PySem.F.slot_list_pop PySem.F.type_list_pop mt_pop (pe_dget (hu_of hr) (pv 0) (pe_str) (fun _ _ => rfl))) rfl)))
          (pss_cons (ps_if (pt_cmpR op_gt (pe_dget (hu_of hr) (pv 0) (pe_str) (fun _ _ => rfl)) (pe_int) (nomark _)) (pss_cons (ps_set (i := 4) sc_draw.nd rfl (by first | exact Or.inl rfl | exact Or.inr rfl) (pe_op op_mod (pe_dget (hu_of hr) (pv 0) (pe_str) (fun _ _ => rfl)) (pv 1)))
          (pss_cons (ps_dput (hu_of hr) (pv 0) (pe_str) (pe_op op_fdivW (pe_dget (hu_of hr) (pv 0) (pe_str) (fun _ _ => rfl)) (pv 1)) rfl)
          (pss_one (ps_ret (pv 4))))) (pss_nil))
          (pss_cons (ps_dput (hu_of hr) (pv 0) (pe_str) (pe_op op_add (pe_dget (hu_of hr) (pv 0) (pe_str) (fun _ _ => rfl)) (pe_int)) rfl)
          (pss_cons (ps_set (i := 2) sc_draw.nd rfl (by first | exact Or.inl rfl | exact Or.inr rfl) (pe_op op_mod (pe_op op_mul (pe_op op_add (pe_dget (hu_of hr) (pv 0) (pe_str) (fun _ _ => rfl)) (pe_op op_mul (pe_int) (pe_dget (hu_of hr) (pv 0) (pe_str) (fun _ _ => rfl)))) (pe_int)) (pe_int)))
          (pss_cons (ps_set (i := 3) sc_draw.nd rfl (by first | exact Or.inl rfl | exact Or.inr rfl) (pe_op op_mod (pe_op op_add (pe_op op_add (pe_op op_mul (pv 2) (pv 2)) (pe_op op_mul (pe_int) (pe_dget (hu_of hr) (pv 0) (pe_str) (fun _ _ => rfl)))) (pe_dget (hu_of hr) (pv 0) (pe_str) (fun _ _ => rfl))) (pe_int)))
          (pss_one (ps_ret (pe_op op_mod (pe_op op_fdiv (pe_op op_add (pe_op op_mul (pe_op op_mod (pe_op op_mul (pv 3) (pv 3)) (pe_int)) (pe_int)) (pv 2)) (pe_int)) (pv 1))))))))
abbrev s_deal : Stmt := topS 22
abbrev N_deal : List Str := ["_law_script", "_law_base", "_law_some", "_law_seed", "_law_one"]
theorem sc_deal : FnScope N_deal ["_law_script", "_law_base"] (defScope s_deal) := ⟨rfl, rfl, rfl, by decide +kernel, rfl, by decide +kernel, by decide +kernel⟩
theorem ok_deal (F : FnP K "_law_deal" s_deal f fd) (B : Bl mg)  : FnOk P w K mg base CX0 1 f fd ["_law_script", "_law_base"] (sp_deal K) := by
  refine F.ok sc_deal (fun vs H Q E h => ?_) (fun cdv A outer s H vs Q E hr h => ⟨_, PSs.nox ?_, pure_deal (K := K) vs H Q E h⟩)
  · obtain ⟨_, _, _, rfl, _⟩ := h
    rfl
  · exact pss_cons (ps_setLc (i := 2) (own := [("_law_one", 4)]) rfl sc_deal.nd rfl rfl (sw_true rfl rfl rfl (by decide +kernel)) (pi_list (pe_slice sl_list (pv 0) (po_some (pv 1)) (po_some (pe_int)))) (blkOk_by (N := N_deal) (sc := defScope s_deal) (by decide +kernel)) (fun _ _ _ _ _ => pg_name (i := 4) sc_deal.nd rfl (by first | exact Or.inl rfl | exact Or.inr rfl)) (fun _ _ _ _ _ => pts_nil) (fun _ _ _ _ _ => pe_callB (call_max2 rfl) (by rfl) B.b_max (by decide +kernel) (pa_cons (pv 4) (pa_cons (pe_op op_sub (pe_int) (pv 4)) (pa_nil)))))
          (pss_cons (ps_set (i := 3) sc_deal.nd rfl (by first | exact Or.inl rfl | exact Or.inr rfl) (pe_op op_add (pe_int) (pe_op op_mul (pe_int) (pv 1))))
          (pss_cons (ps_for PassesOwn.never rfl (pi_list (pv 2)) (pg_name (i := 4) sc_deal.nd rfl (by first | exact Or.inl rfl | exact Or.inr rfl)) (pss_one (ps_set (i := 3) sc_deal.nd rfl (by first | exact Or.inl rfl | exact Or.inr rfl) (pe_op op_mod (pe_op op_add (pe_op op_add (pe_op op_mul (pv 3) (pe_int)) (pe_op op_mod (pv 4) (pe_int))) (pe_int)) (pe_int)))))
          (pss_one (ps_ret (pe_disp (pps_cons (pe_str) (pe_op op_add (pv 3) (pe_int)) (pps_cons (pe_str) (pe_int) (pps_cons (pe_str) (pe_int) (pps_cons (pe_str) (Wf.pe_lstRev rfl (by rfl) B.b_list (by rfl) B.b_reversed (pe_lc (own := [("_law_one", 4)]) rfl sc_deal.nd (pi_list (pv 2)) (blkOk_by (N := N_deal) (sc := defScope s_deal) (by decide +kernel)) (fun _ _ _ _ _ => pg_name (i := 4) sc_deal.nd rfl (by first | exact Or.inl rfl | exact Or.inr rfl)) (fun _ _ _ _ _ => pts_one (pt_cmpR op_ge (pv 4) (pe_op op_pow (pe_int) (pe_int)) (nomark _))) (fun _ _ _ _ _ => pv 4))) (pps_nil))))) (by rfl) (by rfl) (fun z => by cases z) (by decide))))))
abbrev s_paces : Stmt := topS 24
abbrev N_paces : List Str := ["_law_deal_here", "_law_many", "_law_wide", "_law_steps", "_law_found", "_law_step", "_law_k"]
theorem sc_paces : FnScope N_paces ["_law_deal_here", "_law_many"] (defScope s_paces) := ⟨rfl, rfl, rfl, by decide +kernel, rfl, by decide +kernel, by decide +kernel⟩
theorem ok_paces (F : FnP K "_law_paces" s_paces f fd) (B : Bl mg) (C_draw : Cal P w K mg base CX0 1 "_law_draw" ["_law_deal_here", "_law_many"] sp_draw) : FnOk P w K mg base CX0 2 f fd ["_law_deal_here", "_law_many"] (sp_paces K) := by
  refine F.ok sc_paces (fun vs H Q E h => ?_) (fun cdv A outer s H vs Q E hr h => ⟨_, PSs.nox ?_, pure_paces (K := K) vs H Q E h⟩)
  · obtain ⟨_, _, _, rfl, _⟩ := h
    rfl
  · exact pss_cons (ps_set (i := 2) sc_paces.nd rfl (by first | exact Or.inl rfl | exact Or.inr rfl) (pe_lst (pa_cons (pe_int) (pa_cons (pe_int) (pa_cons (pe_int) (pa_cons (pe_op op_fdiv (pe_int) (pe_callB (call_max2 rfl) (by rfl) B.b_max (by decide +kernel) (pa_cons (pe_int) (pa_cons (pe_op op_sub (pv 1) (pe_int)) (pa_nil))))) (pa_nil)))))))
          (pss_cons (ps_setLc (i := 3) (own := [("_law_k", 6)]) rfl sc_paces.nd rfl rfl (sw_true rfl rfl rfl (by decide +kernel)) (pi_range1 (by rfl) B.b_range (pa_cons (pe_op op_sub (pv 1) (pe_int)) (pa_nil))) (blkOk_by (N := N_paces) (sc := defScope s_paces) (by decide +kernel)) (fun _ _ _ _ _ => pg_name (i := 6) sc_paces.nd rfl (by first | exact Or.inl rfl | exact Or.inr rfl)) (fun _ _ _ _ _ => pts_nil) (fun _ _ _ _ _ => pe_op op_add (pe_int) (Wf.pe_cal C_draw hr (by rfl) (pa_cons (pv 0) (pa_cons (pe_ix ix_list (pv 2) (Wf.pe_cal C_draw hr (by rfl) (pa_cons (pv 0) (pa_cons (pe_int) (pa_nil)))) (fun _ _ => rfl)) (pa_nil))))))
          (pss_cons (ps_set (i := 4) sc_paces.nd rfl (by first | exact Or.inl rfl | exact Or.inr rfl) (pe_lst (pa_cons (pe_op op_sub (Wf.pe_cal C_draw hr (by rfl) (pa_cons (pv 0) (pa_cons (pe_op op_sub (pe_int) (pe_callB (cr_sum rfl) (by rfl) B.b_sum (by decide +kernel) (pa_cons (pv 3) (pa_nil)))) (pa_nil)))) (pe_int)) (pa_nil))))
          (pss_cons (ps_for PassesOwn.never rfl (pi_list (pv 3)) (pg_name (i := 5) sc_paces.nd rfl (by first | exact Or.inl rfl | exact Or.inr rfl)) (pss_one (ps_expr (pe_bm PySem.F.plainAttrs_list PySem.F.slot_list_append PySem.F.type_list_append mt_append (pv 4) (pa_cons (pe_op op_add (pe_ix ix_list (pv 4) (pe_un un_neg (pe_int)) (fun _ _ => rfl)) (pv 5)) (pa_nil))))))
          (pss_one (ps_ret (pe_callTy call_tuple_of (by rfl) B.b_tuple (by decide +kernel) (pa_cons (pv 4) (pa_nil))))))))
abbrev s_pair : Stmt := topS 25
abbrev N_pair : List Str := ["_law_form", "_law_size", "_law_step", "_law_a", "_law_b", "_law_some", "_law_d", "_law_e"]
theorem sc_pair : FnScope N_pair ["_law_form", "_law_size", "_law_step", "_law_a", "_law_b"] (defScope s_pair) := ⟨rfl, rfl, rfl, by decide +kernel, rfl, by decide +kernel, by decide +kernel⟩
theorem ok_pair (F : FnP K "_law_pair" s_pair f fd) (B : Bl mg)  : FnOk P w K mg base CX0 1 f fd ["_law_form", "_law_size", "_law_step", "_law_a", "_law_b"] (sp_pair K) := by
  refine F.ok sc_pair (fun vs H Q E h => ?_) (fun cdv A outer s H vs Q E hr h => ⟨_, PSs.nox ?_, pure_pair (K := K) vs H Q E h⟩)
  · obtain ⟨_, _, _, _, _, _, rfl, _⟩ := h
    rfl
  · exact pss_cons (ps_asg (pv 2) (pg_tup rfl (pgs_cons (pg_name (i := 6) sc_pair.nd rfl (by first | exact Or.inl rfl | exact Or.inr rfl)) (pgs_cons (pg_name (i := 7) sc_pair.nd rfl (by first | exact Or.inl rfl | exact Or.inr rfl)) (pgs_nil)))))
          (pss_cons (ps_set (i := 5) sc_pair.nd rfl (by first | exact Or.inl rfl | exact Or.inr rfl) (pe_lst (pa_cons (pe_tup (pa_cons (pv 4) (pa_cons (pv 3) (pa_nil)))) (pa_cons (pe_tup (pa_cons (pv 3) (pa_cons (pv 4) (pa_nil)))) (pa_cons (pe_tup (pa_cons (pe_callB (call_min2 rfl) (by rfl) B.b_min (by decide +kernel) (pa_cons (pv 3) (pa_cons (pv 4) (pa_nil)))) (pa_cons (pe_callB (call_max2 rfl) (by rfl) B.b_max (by decide +kernel) (pa_cons (pv 3) (pa_cons (pv 4) (pa_nil)))) (pa_nil)))) (pa_cons (pe_tup (pa_cons (pv 4) (pa_cons (pe_op op_mod (pe_op op_sub (pe_op op_mul (pe_int) (pv 4)) (pv 3)) (pv 1)) (pa_nil)))) (pa_cons (pe_tup (pa_cons (pe_op op_mod (pe_op op_add (pv 4) (pv 7)) (pv 1)) (pa_cons (pe_op op_mod (pe_op op_add (pv 3) (pv 6)) (pv 1)) (pa_nil)))) (pa_nil))))))))
          (pss_one (ps_ret (pe_ix ix_list (pv 5) (pv 0) (fun _ _ => rfl)))))
abbrev s_plain : Stmt := topS 26
abbrev N_plain : List Str := ["_law_deal_here", "_law_many", "_law_size", "_law_k", "_law_form", "_law_found", "_law_step", "_law_pairs", "_law_n"]
theorem sc_plain : FnScope N_plain ["_law_deal_here", "_law_many", "_law_size"] (defScope s_plain) := ⟨rfl, rfl, rfl, by decide +kernel, rfl, by decide +kernel, by decide +kernel⟩
theorem ok_plain (F : FnP K "_law_plain" s_plain f fd) (B : Bl mg) (C_draw : Cal P w K mg base CX0 1 "_law_draw" ["_law_deal_here", "_law_many"] sp_draw) (C_pair : Cal P w K mg base CX0 1 "_law_pair" ["_law_form", "_law_size", "_law_step", "_law_a", "_law_b"] (sp_pair K)) : FnOk P w K mg base CX0 2 f fd ["_law_deal_here", "_law_many", "_law_size"] (sp_plain K) := by
  refine F.ok sc_plain (fun vs H Q E h => ?_) (fun cdv A outer s H vs Q E hr h => ⟨_, PSs.nox ?_, pure_plain (K := K) vs H Q E h⟩)
  · obtain ⟨_, _, _, _, rfl, _⟩ := h
    rfl
  · exact pss_cons (ps_asg (pe_tup (pa_cons (Wf.pe_cal C_draw hr (by rfl) (pa_cons (pv 0) (pa_cons (pe_int) (pa_nil)))) (pa_cons (pe_lst (pa_nil)) (pa_nil)))) (pg_tup rfl (pgs_cons (pg_name (i := 4) sc_plain.nd rfl (by first | exact Or.inl rfl | exact Or.inr rfl)) (pgs_cons (pg_name (i := 5) sc_plain.nd rfl (by first | exact Or.inl rfl | exact Or.inr rfl)) (pgs_nil)))))
          (pss_cons (ps_for PassesOwn.never rfl (pi_range1 (by rfl) B.b_range (pa_cons (pe_op op_fdiv (pe_op op_mul (pv 1) (pe_op op_sub (pv 1) (pe_int))) (pe_int)) (pa_nil))) (pg_name (i := 3) sc_plain.nd rfl (by first | exact Or.inl rfl | exact Or.inr rfl)) (pss_cons (ps_set (i := 6) sc_plain.nd rfl (by first | exact Or.inl rfl | exact Or.inr rfl) (pe_tup (pa_cons (Wf.pe_cal C_draw hr (by rfl) (pa_cons (pv 0) (pa_cons (pv 2) (pa_nil)))) (pa_cons (Wf.pe_cal C_draw hr (by rfl) (pa_cons (pv 0) (pa_cons (pv 2) (pa_nil)))) (pa_nil)))))
          (pss_one (ps_expr (pe_bm PySem.F.plainAttrs_list PySem.F.slot_list_append PySem.F.type_list_append mt_append (pv 5) (pa_cons (pe_lc (own := [("_law_n", 8)]) rfl sc_plain.nd (pi_range1 (by rfl) B.b_range (pa_cons (pe_op op_mul (pv 2) (pv 2)) (pa_nil))) (blkOk_by (N := N_plain) (sc := defScope s_plain) (by decide +kernel)) (fun _ _ _ _ _ => pg_name (i := 8) sc_plain.nd rfl (by first | exact Or.inl rfl | exact Or.inr rfl)) (fun _ _ _ _ _ => pts_nil) (fun _ _ _ _ _ => Wf.pe_cal C_pair hr (by rfl) (pa_cons (pe_op op_mod (pv 4) (pe_int)) (pa_cons (pv 2) (pa_cons (pv 6) (pa_cons (pe_op op_fdiv (pv 8) (pv 2)) (pa_cons (pe_op op_mod (pv 8) (pv 2)) (pa_nil)))))))) (pa_nil)))))))
          (pss_cons (ps_if (PW.pt (pw_and (pt_cmpR op_eq (pv 4) (pe_int) (nomark _)) (pw_and1 (pt_cmpR (op_neD hr.units) (pv 5) (pe_lst (pa_nil)) (nomark _))))) (pss_cons (ps_setLc (i := 7) (own := [("_law_n", 8)]) rfl sc_plain.nd rfl rfl (sw_true rfl rfl rfl (by decide +kernel)) (pi_range1 (by rfl) B.b_range (pa_cons (pe_op op_mul (pv 2) (pv 2)) (pa_nil))) (blkOk_by (N := N_plain) (sc := defScope s_plain) (by decide +kernel)) (fun _ _ _ _ _ => pg_name (i := 8) sc_plain.nd rfl (by first | exact Or.inl rfl | exact Or.inr rfl)) (fun _ _ _ _ _ => pts_nil) (fun _ _ _ _ _ => pe_tup (pa_cons (Wf.pe_cal C_draw hr (by rfl) (pa_cons (pv 0) (pa_cons (pv 2) (pa_nil)))) (pa_cons (Wf.pe_cal C_draw hr (by rfl) (pa_cons (pv 0) (pa_cons (pv 2) (pa_nil)))) (pa_nil)))))
          (pss_one (ps_asg (pv 7) (pg_sub (pv 5) (Wf.pe_cal C_draw hr (by rfl) (pa_cons (pv 0) (pa_cons (pe_callB call_len (by rfl) B.b_len (by decide +kernel) (pa_cons (pv 5) (pa_nil))) (pa_nil)))) set_list)))) (pss_nil))
          (pss_one (ps_ret (pv 5)))))
abbrev s_side : Stmt := topS 27
abbrev N_side : List Str := ["_law_one", "_law_other", "_law_wide", "_law_more", "_law_found", "_law_size", "_law_first", "_law_second", "_law_pairs", "_law_n", "_law_a", "_law_b", "_law_c", "_law_d", "_law_g", "_law_h"]
theorem sc_side : FnScope N_side ["_law_one", "_law_other", "_law_wide", "_law_more"] (defScope s_side) := ⟨rfl, rfl, rfl, by decide +kernel, rfl, by decide +kernel, by decide +kernel⟩
theorem ok_side (F : FnP K "_law_side" s_side f fd) (B : Bl mg)  : FnOk P w K mg base CX0 1 f fd ["_law_one", "_law_other", "_law_wide", "_law_more"] (sp_side K) := by
  refine F.ok sc_side (fun vs H Q E h => ?_) (fun cdv A outer s H vs Q E hr h => ⟨_, PSs.nox ?_, pure_side (K := K) vs H Q E h⟩)
  · obtain ⟨_, _, _, _, _, _, _, _, rfl, _⟩ := h
    rfl
  · exact pss_cons (ps_par rfl sc_side.nd rfl rfl (by decide) rfl rfl (pa_cons (pe_lst (pa_nil)) (pa_cons (pe_op op_mul (pv 2) (pv 3)) (pa_nil))) (by rfl))
          (pss_cons (ps_for PassesOwn.never rfl (RZ.pi_zipA (by rfl) B.b_zip (pa_cons (pv 0) (pa_cons (pv 1) (pa_nil)))) (pg_tup rfl (pgs_cons (pg_name (i := 6) sc_side.nd rfl (by first | exact Or.inl rfl | exact Or.inr rfl)) (pgs_cons (pg_name (i := 7) sc_side.nd rfl (by first | exact Or.inl rfl | exact Or.inr rfl)) (pgs_nil)))) (pss_cons (ps_set (i := 8) sc_side.nd rfl (by first | exact Or.inl rfl | exact Or.inr rfl) (pe_lst (pa_nil)))
          (pss_cons (ps_for PassesOwn.never rfl (pi_range1 (by rfl) B.b_range (pa_cons (pe_op op_mul (pv 5) (pv 5)) (pa_nil))) (pg_name (i := 9) sc_side.nd rfl (by first | exact Or.inl rfl | exact Or.inr rfl)) (pss_cons (ps_par rfl sc_side.nd rfl rfl (by decide) rfl rfl (pa_cons (pe_op op_fdiv (pv 9) (pv 5)) (pa_cons (pe_op op_mod (pv 9) (pv 5)) (pa_nil))) (by rfl))
          (pss_cons (ps_asg (pe_ix ix_list (pv 6) (pe_op op_add (pe_op op_mul (pe_op op_fdiv (pv 10) (pv 3)) (pv 2)) (pe_op op_fdiv (pv 11) (pv 3))) (fun _ _ => rfl)) (pg_tup rfl (pgs_cons (pg_name (i := 12) sc_side.nd rfl (by first | exact Or.inl rfl | exact Or.inr rfl)) (pgs_cons (pg_name (i := 13) sc_side.nd rfl (by first | exact Or.inl rfl | exact Or.inr rfl)) (pgs_nil)))))
          (pss_cons (ps_asg (pe_ix ix_list (pv 7) (pe_op op_add (pe_op op_mul (pe_op op_mod (pv 10) (pv 3)) (pv 3)) (pe_op op_mod (pv 11) (pv 3))) (fun _ _ => rfl)) (pg_tup rfl (pgs_cons (pg_name (i := 14) sc_side.nd rfl (by first | exact Or.inl rfl | exact Or.inr rfl)) (pgs_cons (pg_name (i := 15) sc_side.nd rfl (by first | exact Or.inl rfl | exact Or.inr rfl)) (pgs_nil)))))
          (pss_one (ps_expr (pe_bm PySem.F.plainAttrs_list PySem.F.slot_list_append PySem.F.type_list_append mt_append (pv 8) (pa_cons (pe_tup (pa_cons (pe_op op_add (pe_op op_mul (pv 12) (pv 3)) (pv 14)) (pa_cons (pe_op op_add (pe_op op_mul (pv 13) (pv 3)) (pv 15)) (pa_nil)))) (pa_nil)))))))))
          (pss_one (ps_expr (pe_bm PySem.F.plainAttrs_list PySem.F.slot_list_append PySem.F.type_list_append mt_append (pv 4) (pa_cons (pv 8) (pa_nil))))))))
          (pss_one (ps_ret (pv 4))))
abbrev s_mixed : Stmt := topS 28
abbrev N_mixed : List Str := ["_law_deal_here", "_law_many", "_law_turn", "_law_left", "_law_found"]
theorem sc_mixed : FnScope N_mixed ["_law_deal_here", "_law_many"] (defScope s_mixed) := ⟨rfl, rfl, rfl, by decide +kernel, rfl, by decide +kernel, by decide +kernel⟩
theorem ok_mixed (F : FnP K "_law_mixed" s_mixed f fd) (B : Bl mg) (C_draw : Cal P w K mg base CX0 1 "_law_draw" ["_law_deal_here", "_law_many"] sp_draw) : FnOk P w K mg base CX0 2 f fd ["_law_deal_here", "_law_many"] sp_mixed := by
  refine F.ok sc_mixed (fun vs H Q E h => ?_) (fun cdv A outer s H vs Q E hr h => ⟨_, PSs.nox ?_, pure_mixed (K := K) vs H Q E h⟩)
  · obtain ⟨_, _, _, rfl, _⟩ := h
    rfl
  · exact pss_cons (ps_par rfl sc_mixed.nd rfl rfl (by decide) rfl rfl (pa_cons (pe_listRg rfl (by rfl) B.b_list (prg_1 (by rfl) B.b_range (pv 1))) (pa_cons (pe_lst (pa_nil)) (pa_nil))) (by rfl))
          (pss_cons (ps_for PassesOwn.never rfl (pi_range1 (by rfl) B.b_range (pa_cons (pv 1) (pa_nil))) (pg_name (i := 2) sc_mixed.nd rfl (by first | exact Or.inl rfl | exact Or.inr rfl)) (pss_one (ps_expr (pe_bm PySem.F.plainAttrs_list PySem.F.slot_list_append PySem.F.type_list_append mt_append (pv 4) (pa_cons (pe_bm PySem.F.plainAttrs_list PySem.F.slot_list_pop PySem.F.type_list_pop mt_popAt (pv 3) (pa_cons (Wf.pe_cal C_draw hr (by rfl) (pa_cons (pv 0) (pa_cons (pe_callB call_len (by rfl) B.b_len (by decide +kernel) (pa_cons (pv 3) (pa_nil))) (pa_nil)))) (pa_nil))) (pa_nil))))))
          (pss_one (ps_ret (pv 4))))
abbrev s_names_put : Stmt := topS 29
abbrev N_names_put : List Str := ["_law_tables", "_law_size", "_law_names", "_law_found", "_law_table", "_law_pairs", "_law_n", "_law_pair_here", "_law_a", "_law_b"]
theorem sc_names_put : FnScope N_names_put ["_law_tables", "_law_size", "_law_names"] (defScope s_names_put) := ⟨rfl, rfl, rfl, by decide +kernel, rfl, by decide +kernel, by decide +kernel⟩
theorem ok_names_put (F : FnP K "_law_names_put" s_names_put f fd) (B : Bl mg)  : FnOk P w K mg base CX0 1 f fd ["_law_tables", "_law_size", "_law_names"] (sp_names K) := by
  refine F.ok sc_names_put (fun vs H Q E h => ?_) (fun cdv A outer s H vs Q E hr h => ⟨_, PSs.nox ?_, pure_names (K := K) vs H Q E h⟩)
  · obtain ⟨_, _, _, _, _, _, rfl, _⟩ := h
    rfl
  · exact pss_cons (ps_set (i := 3) sc_names_put.nd rfl (by first | exact Or.inl rfl | exact Or.inr rfl) (pe_lst (pa_nil)))
          (pss_cons (ps_for PassesOwn.never rfl (pi_list (pv 0)) (pg_name (i := 4) sc_names_put.nd rfl (by first | exact Or.inl rfl | exact Or.inr rfl)) (pss_cons (ps_set (i := 5) sc_names_put.nd rfl (by first | exact Or.inl rfl | exact Or.inr rfl) (pe_op op_rep (pe_lst (pa_cons (pe_tup (pa_cons (pe_int) (pa_cons (pe_int) (pa_nil)))) (pa_nil))) (pe_op op_mul (pv 1) (pv 1))))
          (pss_cons (ps_for PassesOwn.never rfl (pi_enum (by rfl) B.b_enumerate (pa_cons (pv 4) (pa_nil))) (pg_tup rfl (pgs_cons (pg_name (i := 6) sc_names_put.nd rfl (by first | exact Or.inl rfl | exact Or.inr rfl)) (pgs_cons (pg_name (i := 7) sc_names_put.nd rfl (by first | exact Or.inl rfl | exact Or.inr rfl)) (pgs_nil)))) (pss_cons (ps_par rfl sc_names_put.nd rfl rfl (by decide) rfl rfl (pa_cons (pe_ix ix_list (pv 2) (pe_op op_fdiv (pv 6) (pv 1)) (fun _ _ => rfl)) (pa_cons (pe_ix ix_list (pv 2) (pe_op op_mod (pv 6) (pv 1)) (fun _ _ => rfl)) (pa_nil))) (by rfl))
          (pss_one (ps_asg (pe_tup (pa_cons (pe_ix ix_list (pv 2) (pe_ix ix_tup (pv 7) (pe_int) (fun _ _ => rfl)) (fun _ _ => rfl)) (pa_cons (pe_ix ix_list (pv 2) (pe_ix ix_tup (pv 7) (pe_int) (fun _ _ => rfl)) (fun _ _ => rfl)) (pa_nil)))) (pg_sub (pv 5) (pe_op op_add (pe_op op_mul (pv 8) (pv 1)) (pv 9)) set_list)))))
          (pss_one (ps_expr (pe_bm PySem.F.plainAttrs_list PySem.F.slot_list_append PySem.F.type_list_append mt_append (pv 3) (pa_cons (pv 5) (pa_nil))))))))
          (pss_one (ps_ret (pv 3))))
abbrev s_good : Stmt := topS 30
abbrev N_good : List Str := ["_law_deal_here", "_law_many", "_law_size", "_law_wide", "_law_found"]
theorem sc_good : FnScope N_good ["_law_deal_here", "_law_many", "_law_size"] (defScope s_good) := ⟨rfl, rfl, rfl, by decide +kernel, rfl, by decide +kernel, by decide +kernel⟩
theorem ok_good (F : FnP K "_law_good" s_good f fd) (B : Bl mg) (C_draw : Cal P w K mg base CX0 1 "_law_draw" ["_law_deal_here", "_law_many"] sp_draw) (C_plain : Cal P w K mg base CX0 2 "_law_plain" ["_law_deal_here", "_law_many", "_law_size"] (sp_plain K)) (C_side : Cal P w K mg base CX0 1 "_law_side" ["_law_one", "_law_other", "_law_wide", "_law_more"] (sp_side K)) (C_names_put : Cal P w K mg base CX0 1 "_law_names_put" ["_law_tables", "_law_size", "_law_names"] (sp_names K)) (C_mixed : Cal P w K mg base CX0 2 "_law_mixed" ["_law_deal_here", "_law_many"] sp_mixed) : FnOk P w K mg base CX0 3 f fd ["_law_deal_here", "_law_many", "_law_size"] (sp_good K) := by
  refine F.ok sc_good (fun vs H Q E h => ?_) (fun cdv A outer s H vs Q E hr h => ⟨_, PSs.nox ?_, pure_good (K := K) vs H Q E h⟩)
  · obtain ⟨_, _, _, _, rfl, _⟩ := h
    rfl
  · exact pss_cons (ps_set (i := 3) sc_good.nd rfl (by first | exact Or.inl rfl | exact Or.inr rfl) (pe_ifExp (pt_cmpR op_eq (Wf.pe_cal C_draw hr (by rfl) (pa_cons (pv 0) (pa_cons (pe_int) (pa_nil)))) (pe_int) (nomark _)) (pe_ix ix_list (pe_lst (pa_cons (pe_int) (pa_cons (pe_int) (pa_cons (pe_int) (pa_cons (pe_int) (pa_cons (pe_int) (pa_cons (pe_int) (pa_cons (pe_ix ix_list (pe_lst (pa_cons (pe_int) (pa_cons (pe_int) (pa_nil)))) (Wf.pe_cal C_draw hr (by rfl) (pa_cons (pv 0) (pa_cons (pe_int) (pa_nil)))) (fun _ _ => rfl)) (pa_nil))))))))) (pv 2) (fun _ _ => rfl)) (pe_int)))
          (pss_cons (ps_set (i := 4) sc_good.nd rfl (by first | exact Or.inl rfl | exact Or.inr rfl) (Wf.pe_cal C_plain hr (by rfl) (pa_cons (pv 0) (pa_cons (pv 1) (pa_cons (pe_op op_fdiv (pv 2) (pv 3)) (pa_nil))))))
          (pss_cons (ps_if (pt_cmpR op_gt (pv 3) (pe_int) (nomark _)) (pss_one (ps_set (i := 4) sc_good.nd rfl (by first | exact Or.inl rfl | exact Or.inr rfl) (Wf.pe_cal C_side hr (by rfl) (pa_cons (Wf.pe_cal C_plain hr (by rfl) (pa_cons (pv 0) (pa_cons (pv 1) (pa_cons (pv 3) (pa_nil))))) (pa_cons (pv 4) (pa_cons (pv 3) (pa_cons (pe_op op_fdiv (pv 2) (pv 3)) (pa_nil)))))))) (pss_nil))
          (pss_cons (ps_if (pt_cmpR op_eq (Wf.pe_cal C_draw hr (by rfl) (pa_cons (pv 0) (pa_cons (pe_int) (pa_nil)))) (pe_int) (nomark _)) (pss_one (ps_set (i := 4) sc_good.nd rfl (by first | exact Or.inl rfl | exact Or.inr rfl) (Wf.pe_cal C_names_put hr (by rfl) (pa_cons (pv 4) (pa_cons (pv 2) (pa_cons (Wf.pe_cal C_mixed hr (by rfl) (pa_cons (pv 0) (pa_cons (pv 2) (pa_nil)))) (pa_nil))))))) (pss_nil))
          (pss_one (ps_ret (pv 4))))))
abbrev s_any : Stmt := topS 31
abbrev N_any : List Str := ["_law_deal_here", "_law_many", "_law_size", "_law_found", "_law_k", "_law_n"]
theorem sc_any : FnScope N_any ["_law_deal_here", "_law_many", "_law_size"] (defScope s_any) := ⟨rfl, rfl, rfl, by decide +kernel, rfl, by decide +kernel, by decide +kernel⟩
theorem ok_any (F : FnP K "_law_any" s_any f fd) (B : Bl mg) (C_draw : Cal P w K mg base CX0 1 "_law_draw" ["_law_deal_here", "_law_many"] sp_draw) : FnOk P w K mg base CX0 2 f fd ["_law_deal_here", "_law_many", "_law_size"] (sp_any K) := by
  refine F.ok sc_any (fun vs H Q E h => ?_) (fun cdv A outer s H vs Q E hr h => ⟨_, PSs.nox ?_, pure_any (K := K) vs H Q E h⟩)
  · obtain ⟨_, _, _, _, rfl, _⟩ := h
    rfl
  · exact pss_cons (ps_set (i := 3) sc_any.nd rfl (by first | exact Or.inl rfl | exact Or.inr rfl) (pe_lst (pa_nil)))
          (pss_cons (ps_for PassesOwn.never rfl (pi_range1 (by rfl) B.b_range (pa_cons (pe_op op_fdiv (pe_op op_mul (pv 1) (pe_op op_sub (pv 1) (pe_int))) (pe_int)) (pa_nil))) (pg_name (i := 4) sc_any.nd rfl (by first | exact Or.inl rfl | exact Or.inr rfl)) (pss_one (ps_expr (pe_bm PySem.F.plainAttrs_list PySem.F.slot_list_append PySem.F.type_list_append mt_append (pv 3) (pa_cons (pe_lc (own := [("_law_n", 5)]) rfl sc_any.nd (pi_range1 (by rfl) B.b_range (pa_cons (pe_op op_mul (pv 2) (pv 2)) (pa_nil))) (blkOk_by (N := N_any) (sc := defScope s_any) (by decide +kernel)) (fun _ _ _ _ _ => pg_name (i := 5) sc_any.nd rfl (by first | exact Or.inl rfl | exact Or.inr rfl)) (fun _ _ _ _ _ => pts_nil) (fun _ _ _ _ _ => pe_tup (pa_cons (Wf.pe_cal C_draw hr (by rfl) (pa_cons (pv 0) (pa_cons (pv 2) (pa_nil)))) (pa_cons (Wf.pe_cal C_draw hr (by rfl) (pa_cons (pv 0) (pa_cons (pv 2) (pa_nil)))) (pa_nil))))) (pa_nil))))))
          (pss_one (ps_ret (pv 3))))
abbrev s_book : Stmt := topS 32
abbrev N_book : List Str := ["_law_deal_here", "_law_many", "_law_size", "_law_form", "_law_paces_here", "_law_tables", "_law_table"]
theorem sc_book : FnScope N_book ["_law_deal_here", "_law_many", "_law_size", "_law_form"] (defScope s_book) := ⟨rfl, rfl, rfl, by decide +kernel, rfl, by decide +kernel, by decide +kernel⟩
theorem ok_book (F : FnP K "_law_book" s_book f fd) (B : Bl mg) (C_paces : Cal P w K mg base CX0 2 "_law_paces" ["_law_deal_here", "_law_many"] (sp_paces K)) (C_any : Cal P w K mg base CX0 2 "_law_any" ["_law_deal_here", "_law_many", "_law_size"] (sp_any K)) (C_good : Cal P w K mg base CX0 3 "_law_good" ["_law_deal_here", "_law_many", "_law_size"] (sp_good K)) (C_draw : Cal P w K mg base CX0 1 "_law_draw" ["_law_deal_here", "_law_many"] sp_draw) : FnOk P w K mg base CX0 4 f fd ["_law_deal_here", "_law_many", "_law_size", "_law_form"] (sp_book K) := by
  refine F.ok sc_book (fun vs H Q E h => ?_) (fun cdv A outer s H vs Q E hr h => ⟨_, PSs.nox ?_, pure_book (K := K) vs H Q E h⟩)
  · obtain ⟨_, _, _, _, _, rfl, _⟩ := h
    rfl
  · exact pss_cons (ps_set (i := 4) sc_book.nd rfl (by first | exact Or.inl rfl | exact Or.inr rfl) (Wf.pe_cal C_paces hr (by rfl) (pa_cons (pv 0) (pa_cons (pv 1) (pa_nil)))))
          (pss_cons (ps_set (i := 5) sc_book.nd rfl (by first | exact Or.inl rfl | exact Or.inr rfl) (pe_ifExp (pt_cmpR op_eq (pv 3) (pe_int) (nomark _)) (Wf.pe_cal C_any hr (by rfl) (pa_cons (pv 0) (pa_cons (pv 1) (pa_cons (pv 2) (pa_nil))))) (Wf.pe_cal C_good hr (by rfl) (pa_cons (pv 0) (pa_cons (pv 1) (pa_cons (pv 2) (pa_nil)))))))
          (pss_cons (ps_if (PW.pt (pw_and (pt_cmpR op_eq (pv 3) (pe_int) (nomark _)) (pw_and1 (pt_cmpR op_gt (pe_callB call_len (by rfl) B.b_len (by decide +kernel) (pa_cons (pv 5) (pa_nil))) (pe_int) (nomark _))))) (pss_cons (ps_set (i := 6) sc_book.nd rfl (by first | exact Or.inl rfl | exact Or.inr rfl) (pe_ix ix_list (pv 5) (Wf.pe_cal C_draw hr (by rfl) (pa_cons (pv 0) (pa_cons (pe_callB call_len (by rfl) B.b_len (by decide +kernel) (pa_cons (pv 5) (pa_nil))) (pa_nil)))) (fun _ _ => rfl)))
          (pss_one (ps_asg (pe_tup (pa_cons (Wf.pe_cal C_draw hr (by rfl) (pa_cons (pv 0) (pa_cons (pv 2) (pa_nil)))) (pa_cons (Wf.pe_cal C_draw hr (by rfl) (pa_cons (pv 0) (pa_cons (pv 2) (pa_nil)))) (pa_nil)))) (pg_sub (pv 6) (Wf.pe_cal C_draw hr (by rfl) (pa_cons (pv 0) (pa_cons (pe_callB call_len (by rfl) B.b_len (by decide +kernel) (pa_cons (pv 6) (pa_nil))) (pa_nil)))) set_list)))) (pss_nil))
          (pss_one (ps_ret (pe_tup (pa_cons (pv 4) (pa_cons (pv 2) (pa_cons (pe_callTy call_tuple_of (by rfl) B.b_tuple (by decide +kernel) (pa_cons (pe_lc (own := [("_law_table", 6)]) rfl sc_book.nd (pi_list (pv 5)) (blkOk_by (N := N_book) (sc := defScope s_book) (by decide +kernel)) (fun _ _ _ _ _ => pg_name (i := 6) sc_book.nd rfl (by first | exact Or.inl rfl | exact Or.inr rfl)) (fun _ _ _ _ _ => pts_nil) (fun _ _ _ _ _ => pe_callTy call_tuple_of (by rfl) B.b_tuple (by decide +kernel) (pa_cons (pv 6) (pa_nil)))) (pa_nil))) (pa_nil)))))))))
abbrev s_table_number : Stmt := topS 1
abbrev N_table_number : List Str := ["u", "v"]
theorem sc_table_number : FnScope N_table_number ["u", "v"] (defScope s_table_number) := ⟨rfl, rfl, rfl, by decide +kernel, rfl, by decide +kernel, by decide +kernel⟩
theorem ok_table_number (F : FnP K "table_number" s_table_number f fd) (B : Bl mg)  : FnOk P w K mg base CX0 1 f fd ["u", "v"] (LSp K TB0 psp_table_number) := by
  refine fn_ok (p := fun _ => p_table_number) F sc_table_number rfl rfl (by decide) (fun as Qp Ep h => by obtain ⟨_, _, rfl, _⟩ := h; rfl) (fun cdv A outer s H E Bh Bt Ep hr hx => JSs.nox ?_) hp_table_number
  exact jss_one (js_ret (je_add (je_fdiv (je_mul (jv 0) (je_sub (jv 0) (je_int))) (je_int)) (jv 1)))
abbrev s_pair_at : Stmt := topS 2
abbrev N_pair_at : List Str := ["book", "u", "v", "a", "b", "sorts", "tables"]
theorem sc_pair_at : FnScope N_pair_at ["book", "u", "v", "a", "b"] (defScope s_pair_at) := ⟨rfl, rfl, rfl, by decide +kernel, rfl, by decide +kernel, by decide +kernel⟩
theorem ok_pair_at (F : FnP K "pair_at" s_pair_at f fd) (B : Bl mg) (C_table_number : Cal P w K mg base CX0 1 "table_number" ["u", "v"] (LSp K TB0 psp_table_number)) : FnOk P w K mg base CX0 2 f fd ["book", "u", "v", "a", "b"] (LSp K TB0 psp_pair_at) := by
  refine fn_ok (p := fun _ => p_pair_at) F sc_pair_at rfl rfl (by decide) (fun as Qp Ep h => by obtain ⟨_, _, _, _, _, _, rfl, _⟩ := h; rfl) (fun cdv A outer s H E Bh Bt Ep hr hx => JSs.nox ?_) hp_pair_at
  exact jss_cons (js_par2 rfl sc_pair_at.nd rfl rfl (by decide) rfl rfl (ja_cons (je_ix (jv 0) (je_int) (fun _ _ => rfl)) (ja_cons (je_ix (jv 0) (je_int) (fun _ _ => rfl)) (ja_nil))) (by rfl))
    (jss_one (js_ret (je_ix (je_ix (jv 6) (je_cal C_table_number hr (by rfl) (ja_cons (je_fz (jv 1)) (ja_cons (je_fz (jv 2)) (ja_nil)))) (fun _ _ => rfl)) (je_add (je_mul (jv 3) (jv 5)) (jv 4)) (fun _ _ => rfl))))
abbrev s_kinds_of : Stmt := topS 4
abbrev N_kinds_of : List Str := ["row", "kind", "burden"]
theorem sc_kinds_of : FnScope N_kinds_of ["row"] (defScope s_kinds_of) := ⟨rfl, rfl, rfl, by decide +kernel, rfl, by decide +kernel, by decide +kernel⟩
theorem ok_kinds_of (F : FnP K "kinds_of" s_kinds_of f fd) (B : Bl mg)  : FnOk P w K mg base CX0 1 f fd ["row"] (LSp K TB0 psp_kinds_of) := by
  refine fn_ok (p := fun _ => p_kinds_of) F sc_kinds_of rfl rfl (by decide) (fun as Qp Ep h => by obtain ⟨_, _, _, rfl, _⟩ := h; rfl) (fun cdv A outer s H E Bh Bt Ep hr hx => JSs.nox ?_) hp_kinds_of
  exact jss_one (js_ret (je_ct call_tuple_of lc_tupleOf (by rfl) B.b_tuple (by decide +kernel) (ja_cons (je_lc (own := [("kind", 1), ("burden", 2)]) rfl sc_kinds_of.nd (ji_seq (jv 0)) (blkOk_by (N := N_kinds_of) (sc := defScope s_kinds_of) (by decide +kernel)) (fun _ _ _ _ _ => jg_tup rfl (jgs_cons (jg_name (i := 1) sc_kinds_of.nd rfl (by first | exact Or.inl rfl | exact Or.inr rfl)) (jgs_cons (jg_name (i := 2) sc_kinds_of.nd rfl (by first | exact Or.inl rfl | exact Or.inr rfl)) (jgs_nil)))) (fun _ _ _ _ _ => jts_nil) (fun _ _ _ _ _ => jv 1)) (ja_nil))))
abbrev s_burdens_of : Stmt := topS 5
abbrev N_burdens_of : List Str := ["row", "kind", "burden"]
theorem sc_burdens_of : FnScope N_burdens_of ["row"] (defScope s_burdens_of) := ⟨rfl, rfl, rfl, by decide +kernel, rfl, by decide +kernel, by decide +kernel⟩
theorem ok_burdens_of (F : FnP K "burdens_of" s_burdens_of f fd) (B : Bl mg)  : FnOk P w K mg base CX0 1 f fd ["row"] (LSp K TB0 psp_burdens_of) := by
  refine fn_ok (p := fun _ => p_burdens_of) F sc_burdens_of rfl rfl (by decide) (fun as Qp Ep h => by obtain ⟨_, rfl, _⟩ := h; rfl) (fun cdv A outer s H E Bh Bt Ep hr hx => JSs.nox ?_) hp_burdens_of
  exact jss_one (js_ret (je_ct call_tuple_of lc_tupleOf (by rfl) B.b_tuple (by decide +kernel) (ja_cons (je_lc (own := [("kind", 1), ("burden", 2)]) rfl sc_burdens_of.nd (ji_seq (jv 0)) (blkOk_by (N := N_burdens_of) (sc := defScope s_burdens_of) (by decide +kernel)) (fun _ _ _ _ _ => jg_tup rfl (jgs_cons (jg_name (i := 1) sc_burdens_of.nd rfl (by first | exact Or.inl rfl | exact Or.inr rfl)) (jgs_cons (jg_name (i := 2) sc_burdens_of.nd rfl (by first | exact Or.inl rfl | exact Or.inr rfl)) (jgs_nil)))) (fun _ _ _ _ _ => jts_nil) (fun _ _ _ _ _ => jv 2)) (ja_nil))))
abbrev s_cdiv : Stmt := topS 9
abbrev N_cdiv : List Str := ["one", "other"]
theorem sc_cdiv : FnScope N_cdiv ["one", "other"] (defScope s_cdiv) := ⟨rfl, rfl, rfl, by decide +kernel, rfl, by decide +kernel, by decide +kernel⟩
theorem ok_cdiv (F : FnP K "common_divisor" s_cdiv f fd) (B : Bl mg)  : FnOk P w K mg base CX0 1 f fd ["one", "other"] (LSp K TB0 psp_cdiv) := by
  refine fn_ok (p := fun _ => p_cdiv) F sc_cdiv rfl rfl (by decide) (fun as Qp Ep h => by obtain ⟨_, _, rfl, _⟩ := h; rfl) (fun cdv A outer s H E Bh Bt Ep hr hx => JSs.nox ?_) hp_cdiv
  exact jss_cons (js_while PassesOwn.never (jb_gt (jv 1) (je_int)) (jss_one (js_par2 rfl sc_cdiv.nd rfl rfl (by decide) rfl rfl (ja_cons (jv 1) (ja_cons (je_mod (jv 0) (jv 1)) (ja_nil))) (by rfl))))
    (jss_one (js_ret (jv 0)))
abbrev s_cmul : Stmt := topS 8
abbrev N_cmul : List Str := ["numbers", "multiple", "number"]
theorem sc_cmul : FnScope N_cmul ["numbers"] (defScope s_cmul) := ⟨rfl, rfl, rfl, by decide +kernel, rfl, by decide +kernel, by decide +kernel⟩
theorem ok_cmul (F : FnP K "common_multiple" s_cmul f fd) (B : Bl mg) (C_cdiv : Cal P w K mg base CX0 1 "common_divisor" ["one", "other"] (LSp K TB0 psp_cdiv)) : FnOk P w K mg base CX0 2 f fd ["numbers"] (LSp K TB0 psp_cmul) := by
  refine fn_ok (p := fun _ => p_cmul) F sc_cmul rfl rfl (by decide) (fun as Qp Ep h => by obtain ⟨_, rfl, _⟩ := h; rfl) (fun cdv A outer s H E Bh Bt Ep hr hx => JSs.nox ?_) hp_cmul
  exact jss_cons (js_set (i := 1) sc_cmul.nd rfl (by first | exact Or.inl rfl | exact Or.inr rfl) (je_int))
    (jss_cons (js_for PassesOwn.never rfl (ji_seq (jv 0)) (jg_name (i := 2) sc_cmul.nd rfl (by first | exact Or.inl rfl | exact Or.inr rfl)) (jss_one (js_set (i := 1) sc_cmul.nd rfl (by first | exact Or.inl rfl | exact Or.inr rfl) (je_mul (je_fdiv (jv 1) (je_cal C_cdiv hr (by rfl) (ja_cons (je_fz (jv 1)) (ja_cons (je_fz (jv 2)) (ja_nil))))) (jv 2)))))
    (jss_one (js_ret (jv 1))))
abbrev s_moment_of : Stmt := topS 10
abbrev N_moment_of : List Str := ["upper", "lower", "divisor"]
theorem sc_moment_of : FnScope N_moment_of ["upper", "lower"] (defScope s_moment_of) := ⟨rfl, rfl, rfl, by decide +kernel, rfl, by decide +kernel, by decide +kernel⟩
theorem ok_moment_of (F : FnP K "moment_of" s_moment_of f fd) (B : Bl mg) (C_cdiv : Cal P w K mg base CX0 1 "common_divisor" ["one", "other"] (LSp K TB0 psp_cdiv)) : FnOk P w K mg base CX0 2 f fd ["upper", "lower"] (LSp K TB0 psp_moment_of) := by
  refine fn_ok (p := fun _ => p_moment_of) F sc_moment_of rfl rfl (by decide) (fun as Qp Ep h => by obtain ⟨_, _, rfl, _⟩ := h; rfl) (fun cdv A outer s H E Bh Bt Ep hr hx => JSs.nox ?_) hp_moment_of
  exact jss_cons (js_set (i := 2) sc_moment_of.nd rfl (by first | exact Or.inl rfl | exact Or.inr rfl) (je_cal C_cdiv hr (by rfl) (ja_cons (je_fz (jv 0)) (ja_cons (je_fz (jv 1)) (ja_nil)))))
    (jss_one (js_ret (je_tup (ja_cons (je_fdiv (jv 0) (jv 2)) (ja_cons (je_fdiv (jv 1) (jv 2)) (ja_nil))))))
abbrev s_told_order : Stmt := topS 7
abbrev N_told_order : List Str := ["kinds", "meetings", "parts", "turns", "way", "gap", "i", "j", "when", "less_u", "less_v"]
theorem sc_told_order : FnScope N_told_order ["kinds", "meetings"] (defScope s_told_order) := ⟨rfl, rfl, rfl, by decide +kernel, rfl, by decide +kernel, by decide +kernel⟩
theorem ok_told_order (F : FnP K "in_told_order" s_told_order f fd) (B : Bl mg) (C_cmul : Cal P w K mg base CX0 2 "common_multiple" ["numbers"] (LSp K TB0 psp_cmul)) (C_moment_of : Cal P w K mg base CX0 2 "moment_of" ["upper", "lower"] (LSp K TB0 psp_moment_of)) : FnOk P w K mg base CX0 3 f fd ["kinds", "meetings"] (LSp K TB0 psp_told_order) := by
  refine fn_ok (p := fun _ => p_told_order) F sc_told_order rfl rfl (by decide) (fun as Qp Ep h => by obtain ⟨_, _, _, rfl, _⟩ := h; rfl) (fun cdv A outer s H E Bh Bt Ep hr hx => JSs.nox ?_) hp_told_order
  exact jss_cons (js_set (i := 2) sc_told_order.nd rfl (by first | exact Or.inl rfl | exact Or.inr rfl) (je_cal C_cmul hr (by rfl) (ja_cons (je_fz (je_lc (own := [("way", 4), ("gap", 5), ("i", 6), ("j", 7)]) rfl sc_told_order.nd (ji_seq (jv 1)) (blkOk_by (N := N_told_order) (sc := defScope s_told_order) (by decide +kernel)) (fun _ _ _ _ _ => jg_tup rfl (jgs_cons (jg_name (i := 4) sc_told_order.nd rfl (by first | exact Or.inl rfl | exact Or.inr rfl)) (jgs_cons (jg_name (i := 5) sc_told_order.nd rfl (by first | exact Or.inl rfl | exact Or.inr rfl)) (jgs_cons (jg_name (i := 6) sc_told_order.nd rfl (by first | exact Or.inl rfl | exact Or.inr rfl)) (jgs_cons (jg_name (i := 7) sc_told_order.nd rfl (by first | exact Or.inl rfl | exact Or.inr rfl)) (jgs_nil)))))) (fun _ _ _ _ _ => jts_nil) (fun _ _ _ _ _ => jv 5))) (ja_nil))))
    (jss_cons (js_set (i := 3) sc_told_order.nd rfl (by first | exact Or.inl rfl | exact Or.inr rfl) (je_cb cr_sortL lc_sortL (by rfl) B.b_sorted (by decide +kernel) (ja_cons (je_lc (own := [("way", 4), ("gap", 5), ("i", 6), ("j", 7)]) rfl sc_told_order.nd (ji_seq (jv 1)) (blkOk_by (N := N_told_order) (sc := defScope s_told_order) (by decide +kernel)) (fun _ _ _ _ _ => jg_tup rfl (jgs_cons (jg_name (i := 4) sc_told_order.nd rfl (by first | exact Or.inl rfl | exact Or.inr rfl)) (jgs_cons (jg_name (i := 5) sc_told_order.nd rfl (by first | exact Or.inl rfl | exact Or.inr rfl)) (jgs_cons (jg_name (i := 6) sc_told_order.nd rfl (by first | exact Or.inl rfl | exact Or.inr rfl)) (jgs_cons (jg_name (i := 7) sc_told_order.nd rfl (by first | exact Or.inl rfl | exact Or.inr rfl)) (jgs_nil)))))) (fun _ _ _ _ _ => jts_nil) (fun _ _ _ _ _ => je_tup (ja_cons (je_mul (jv 4) (je_fdiv (jv 2) (jv 5))) (ja_cons (je_neg (je_ix (jv 0) (jv 6) (fun _ _ => rfl))) (ja_cons (je_neg (je_ix (jv 0) (jv 7) (fun _ _ => rfl))) (ja_cons (jv 6) (ja_cons (jv 7) (ja_nil)))))))) (ja_nil))))
    (jss_one (js_ret (je_ct call_tuple_of lc_tupleOf (by rfl) B.b_tuple (by decide +kernel) (ja_cons (je_lc (own := [("when", 8), ("less_u", 9), ("less_v", 10), ("i", 6), ("j", 7)]) rfl sc_told_order.nd (ji_seq (jv 3)) (blkOk_by (N := N_told_order) (sc := defScope s_told_order) (by decide +kernel)) (fun _ _ _ _ _ => jg_tup rfl (jgs_cons (jg_name (i := 8) sc_told_order.nd rfl (by first | exact Or.inl rfl | exact Or.inr rfl)) (jgs_cons (jg_name (i := 9) sc_told_order.nd rfl (by first | exact Or.inl rfl | exact Or.inr rfl)) (jgs_cons (jg_name (i := 10) sc_told_order.nd rfl (by first | exact Or.inl rfl | exact Or.inr rfl)) (jgs_cons (jg_name (i := 6) sc_told_order.nd rfl (by first | exact Or.inl rfl | exact Or.inr rfl)) (jgs_cons (jg_name (i := 7) sc_told_order.nd rfl (by first | exact Or.inl rfl | exact Or.inr rfl)) (jgs_nil))))))) (fun _ _ _ _ _ => jts_nil) (fun _ _ _ _ _ => je_tup (ja_cons (je_cal C_moment_of hr (by rfl) (ja_cons (je_fz (jv 8)) (ja_cons (je_fz (jv 2)) (ja_nil)))) (ja_cons (jv 6) (ja_cons (jv 7) (ja_nil)))))) (ja_nil))))))
abbrev s_is_done_by : Stmt := topS 11
abbrev N_is_done_by : List Str := ["moment", "beat", "upper", "lower"]
theorem sc_is_done_by : FnScope N_is_done_by ["moment", "beat"] (defScope s_is_done_by) := ⟨rfl, rfl, rfl, by decide +kernel, rfl, by decide +kernel, by decide +kernel⟩
theorem ok_is_done_by (F : FnP K "is_done_by" s_is_done_by f fd) (B : Bl mg)  : FnOk P w K mg base CX0 1 f fd ["moment", "beat"] (LSp K TB0 psp_is_done_by) := by
  refine fn_ok (p := fun _ => p_is_done_by) F sc_is_done_by rfl rfl (by decide) (fun as Qp Ep h => by obtain ⟨_, _, _, rfl, _⟩ := h; rfl) (fun cdv A outer s H E Bh Bt Ep hr hx => JSs.nox ?_) hp_is_done_by
  exact jss_cons (js_asg (jv 0) (jg_tup rfl (jgs_cons (jg_name (i := 2) sc_is_done_by.nd rfl (by first | exact Or.inl rfl | exact Or.inr rfl)) (jgs_cons (jg_name (i := 3) sc_is_done_by.nd rfl (by first | exact Or.inl rfl | exact Or.inr rfl)) (jgs_nil)))))
    (jss_one (js_ret (je_le (jv 2) (je_mul (jv 1) (jv 3)))))
abbrev s_round_passings : Stmt := topS 13
abbrev N_round_passings : List Str := ["book", "kinds", "spots", "long", "paces", "meetings", "i", "u", "j", "v", "gap", "way", "m"]
theorem sc_round_passings : FnScope N_round_passings ["book", "kinds", "spots", "long"] (defScope s_round_passings) := ⟨rfl, rfl, rfl, by decide +kernel, rfl, by decide +kernel, by decide +kernel⟩
theorem ok_round_passings (F : FunD K "round_passings" "round_passings" (defArgs s_round_passings) (defBody s_round_passings) (defScope s_round_passings) [] [] f fd) (B : Bl mg) (C_told_order : Cal P w K mg base CX0 3 "in_told_order" ["kinds", "meetings"] (LSp K TB0 psp_told_order)) : FnOk P w K mg base CX0 4 f fd ["book", "kinds", "spots", "long"] (LSp K TB0 psp_round_passings) := by
  refine fn_ok (p := fun _ => p_round_passings) F sc_round_passings rfl rfl (by decide) (fun as Qp Ep h => by obtain ⟨_, _, _, _, _, _, rfl, _⟩ := h; rfl) (fun cdv A outer s H E Bh Bt Ep hr hx => JSs.nox ?_) hp_round_passings
  exact jss_cons (js_set (i := 4) sc_round_passings.nd rfl (by first | exact Or.inl rfl | exact Or.inr rfl) (je_ix (jv 0) (je_int) (fun _ _ => rfl)))
    (jss_cons (js_set (i := 5) sc_round_passings.nd rfl (by first | exact Or.inl rfl | exact Or.inr rfl) (je_lst (ja_nil)))
    (jss_cons (js_for PassesOwn.never rfl (ji_enum (by rfl) B.b_enumerate (ja_cons (jv 1) (ja_nil))) (jg_tup rfl (jgs_cons (jg_name (i := 6) sc_round_passings.nd rfl (by first | exact Or.inl rfl | exact Or.inr rfl)) (jgs_cons (jg_name (i := 7) sc_round_passings.nd rfl (by first | exact Or.inl rfl | exact Or.inr rfl)) (jgs_nil)))) (jss_one (js_for PassesOwn.never rfl (ji_enum (by rfl) B.b_enumerate (ja_cons (jv 1) (ja_nil))) (jg_tup rfl (jgs_cons (jg_name (i := 8) sc_round_passings.nd rfl (by first | exact Or.inl rfl | exact Or.inr rfl)) (jgs_cons (jg_name (i := 9) sc_round_passings.nd rfl (by first | exact Or.inl rfl | exact Or.inr rfl)) (jgs_nil)))) (jss_one (js_if (jb_gt (jv 7) (jv 9)) (jss_cons (js_set (i := 10) sc_round_passings.nd rfl (by first | exact Or.inl rfl | exact Or.inr rfl) (je_sub (je_ix (jv 4) (jv 7) (fun _ _ => rfl)) (je_ix (jv 4) (jv 9) (fun _ _ => rfl))))
    (jss_cons (js_set (i := 11) sc_round_passings.nd rfl (by first | exact Or.inl rfl | exact Or.inr rfl) (je_mod (je_sub (je_ix (jv 2) (jv 8) (fun _ _ => rfl)) (je_ix (jv 2) (jv 6) (fun _ _ => rfl))) (jv 3)))
    (jss_one (js_aug (i := 5) sc_round_passings.nd rfl (by first | exact Or.inl rfl | exact Or.inr rfl) (je_lc (own := [("m", 12)]) rfl sc_round_passings.nd (ji_rng1 (by rfl) B.b_range (ja_cons (jv 10) (ja_nil))) (blkOk_by (N := N_round_passings) (sc := defScope s_round_passings) (by decide +kernel)) (fun _ _ _ _ _ => jg_name (i := 12) sc_round_passings.nd rfl (by first | exact Or.inl rfl | exact Or.inr rfl)) (fun _ _ _ _ _ => jts_nil) (fun _ _ _ _ _ => je_tup (ja_cons (je_add (jv 11) (je_mul (jv 12) (jv 3))) (ja_cons (jv 10) (ja_cons (jv 6) (ja_cons (jv 8) (ja_nil))))))))))) (jss_nil))))))
    (jss_one (js_ret (je_cal C_told_order hr (by rfl) (ja_cons (je_fz (jv 1)) (ja_cons (je_fz (jv 5)) (ja_nil))))))))
abbrev s_bbehind : Stmt := topS 14
abbrev N_bbehind : List Str := ["book", "kinds", "met", "burdens", "borne", "moment", "i", "j"]
theorem sc_bbehind : FnScope N_bbehind ["book", "kinds", "met", "burdens"] (defScope s_bbehind) := ⟨rfl, rfl, rfl, by decide +kernel, rfl, by decide +kernel, by decide +kernel⟩
theorem ok_bbehind (F : FnP K "borne_behind" s_bbehind f fd) (B : Bl mg) (C_pair_at : Cal P w K mg base CX0 2 "pair_at" ["book", "u", "v", "a", "b"] (LSp K TB0 psp_pair_at)) : FnOk P w K mg base CX0 3 f fd ["book", "kinds", "met", "burdens"] (LSp K TB0 psp_bbehind) := by
  refine fn_ok (p := fun _ => p_bbehind) F sc_bbehind rfl rfl (by decide) (fun as Qp Ep h => by obtain ⟨_, _, _, _, _, _, rfl, _⟩ := h; rfl) (fun cdv A outer s H E Bh Bt Ep hr hx => JSs.nox ?_) hp_bbehind
  exact jss_cons (js_set (i := 4) sc_bbehind.nd rfl (by first | exact Or.inl rfl | exact Or.inr rfl) (je_ct call_list_of lc_listOf (by rfl) B.b_list (by decide +kernel) (ja_cons (jv 3) (ja_nil))))
    (jss_cons (js_for PassesOwn.never rfl (ji_seq (jv 2)) (jg_tup rfl (jgs_cons (jg_name (i := 5) sc_bbehind.nd rfl (by first | exact Or.inl rfl | exact Or.inr rfl)) (jgs_cons (jg_name (i := 6) sc_bbehind.nd rfl (by first | exact Or.inl rfl | exact Or.inr rfl)) (jgs_cons (jg_name (i := 7) sc_bbehind.nd rfl (by first | exact Or.inl rfl | exact Or.inr rfl)) (jgs_nil))))) (jss_one (js_asg (je_cal C_pair_at hr (by rfl) (ja_cons (je_fz (jv 0)) (ja_cons (je_fz (je_ix (jv 1) (jv 6) (fun _ _ => rfl))) (ja_cons (je_fz (je_ix (jv 1) (jv 7) (fun _ _ => rfl))) (ja_cons (je_fz (je_ix (jv 4) (jv 6) (fun _ _ => rfl))) (ja_cons (je_fz (je_ix (jv 4) (jv 7) (fun _ _ => rfl))) (ja_nil))))))) (jg_tup rfl (jgs_cons (jg_sub (jv 4) (jv 7)) (jgs_cons (jg_sub (jv 4) (jv 6)) (jgs_nil)))))))
    (jss_one (js_ret (je_ct call_tuple_of lc_tupleOf (by rfl) B.b_tuple (by decide +kernel) (ja_cons (jv 4) (ja_nil))))))
abbrev s_trail_of : Stmt := topS 15
abbrev N_trail_of : List Str := ["book", "kinds", "met", "burdens", "numbers"]
theorem sc_trail_of : FnScope N_trail_of ["book", "kinds", "met", "burdens"] (defScope s_trail_of) := ⟨rfl, rfl, rfl, by decide +kernel, rfl, by decide +kernel, by decide +kernel⟩
theorem ok_trail_of (F : FnP K "trail_of" s_trail_of f fd) (B : Bl mg) (C_bbehind : Cal P w K mg base CX0 3 "borne_behind" ["book", "kinds", "met", "burdens"] (LSp K TB0 psp_bbehind)) : FnOk P w K mg base CX0 4 f fd ["book", "kinds", "met", "burdens"] (LSp K TB0 psp_trail_of) := by
  refine fn_ok (p := fun _ => p_trail_of) F sc_trail_of rfl rfl (by decide) (fun as Qp Ep h => by obtain ⟨_, _, _, _, _, _, rfl, _⟩ := h; rfl) (fun cdv A outer s H E Bh Bt Ep hr hx => JSs.nox ?_) hp_trail_of
  exact jss_cons (js_set (i := 4) sc_trail_of.nd rfl (by first | exact Or.inl rfl | exact Or.inr rfl) ((je_dct0 false)))
    (jss_cons (js_while PassesOwn.never (jb_cmp (op_cNotIn (Nat.lt_of_le_of_lt (Nat.add_le_add_left (show 3 ≤ 65 by decide) _) hr.units1)) lc_cin (jv 3) (jv 4) (by rfl)) (jss_cons (js_asg (je_cb call_len_C lc_clen (by rfl) B.b_len (by decide +kernel) (ja_cons (jv 4) (ja_nil))) (jg_C (Nat.lt_of_le_of_lt (Nat.add_le_add_left (show 3 ≤ 65 by decide) _) hr.units1) (jv 4) (jv 3)))
    (jss_one (js_set (i := 3) sc_trail_of.nd rfl (by first | exact Or.inl rfl | exact Or.inr rfl) (je_cal C_bbehind hr (by rfl) (ja_cons (je_fz (jv 0)) (ja_cons (je_fz (jv 1)) (ja_cons (je_fz (jv 2)) (ja_cons (je_fz (jv 3)) (ja_nil))))))))))
    (jss_one (js_ret (je_tup (ja_cons (je_ct (call_list_C rfl) lc_clist (by rfl) B.b_list (by decide +kernel) (ja_cons (jv 4) (ja_nil))) (ja_cons (je_cget (Nat.lt_of_le_of_lt (Nat.add_le_add_left (show 3 ≤ 65 by decide) _) hr.units1) (jv 4) (jv 3) (fun _ _ => rfl)) (ja_nil)))))))
abbrev s_bafter : Stmt := topS 16
abbrev N_bafter : List Str := ["book", "kinds", "met", "burdens", "rounds", "trail", "first"]
theorem sc_bafter : FnScope N_bafter ["book", "kinds", "met", "burdens", "rounds"] (defScope s_bafter) := ⟨rfl, rfl, rfl, by decide +kernel, rfl, by decide +kernel, by decide +kernel⟩
theorem ok_bafter (F : FnP K "borne_after" s_bafter f fd) (B : Bl mg) (C_trail_of : Cal P w K mg base CX0 4 "trail_of" ["book", "kinds", "met", "burdens"] (LSp K TB0 psp_trail_of)) : FnOk P w K mg base CX0 5 f fd ["book", "kinds", "met", "burdens", "rounds"] (LSp K TB0 psp_bafter) := by
  refine fn_ok (p := fun _ => p_bafter) F sc_bafter rfl rfl (by decide) (fun as Qp Ep h => by obtain ⟨_, _, _, _, _, _, _, rfl, _⟩ := h; rfl) (fun cdv A outer s H E Bh Bt Ep hr hx => JSs.nox ?_) hp_bafter
  exact jss_cons (js_asg (je_cal C_trail_of hr (by rfl) (ja_cons (je_fz (jv 0)) (ja_cons (je_fz (jv 1)) (ja_cons (je_fz (jv 2)) (ja_cons (je_fz (jv 3)) (ja_nil)))))) (jg_tup rfl (jgs_cons (jg_name (i := 5) sc_bafter.nd rfl (by first | exact Or.inl rfl | exact Or.inr rfl)) (jgs_cons (jg_name (i := 6) sc_bafter.nd rfl (by first | exact Or.inl rfl | exact Or.inr rfl)) (jgs_nil)))))
    (jss_cons (js_if (jb_lt (jv 4) (jv 6)) (jss_one (js_ret (je_ix (jv 5) (jv 4) (fun _ _ => rfl)))) (jss_nil))
    (jss_one (js_ret (je_ix (jv 5) (je_add (jv 6) (je_mod (je_sub (jv 4) (jv 6)) (je_sub (je_cb call_len lc_len (by rfl) B.b_len (by decide +kernel) (ja_cons (jv 5) (ja_nil))) (jv 6)))) (fun _ _ => rfl)))))
abbrev s_rburdens : Stmt := topS 17
abbrev N_rburdens : List Str := ["book", "row", "spots", "long", "beat", "kinds", "met", "burdens", "done", "rounds", "rest", "passing"]
theorem sc_rburdens : FnScope N_rburdens ["book", "row", "spots", "long", "beat"] (defScope s_rburdens) := ⟨rfl, rfl, rfl, by decide +kernel, rfl, by decide +kernel, by decide +kernel⟩
theorem ok_rburdens (F : FunD K "round_burdens" "round_burdens" (defArgs s_rburdens) (defBody s_rburdens) (defScope s_rburdens) [] [] f fd) (B : Bl mg) (C_kinds_of : Cal P w K mg base CX0 1 "kinds_of" ["row"] (LSp K TB0 psp_kinds_of)) (CK_round_passings : CalK P w K mg base CX0 4 "round_passings" ["book", "kinds", "spots", "long"] 3 ["long"] (LSp K TB0 psp_round_passings)) (C_bafter : Cal P w K mg base CX0 5 "borne_after" ["book", "kinds", "met", "burdens", "rounds"] (LSp K TB0 psp_bafter)) (C_burdens_of : Cal P w K mg base CX0 1 "burdens_of" ["row"] (LSp K TB0 psp_burdens_of)) (C_is_done_by : Cal P w K mg base CX0 1 "is_done_by" ["moment", "beat"] (LSp K TB0 psp_is_done_by)) (C_bbehind : Cal P w K mg base CX0 3 "borne_behind" ["book", "kinds", "met", "burdens"] (LSp K TB0 psp_bbehind)) : FnOk P w K mg base CX0 6 f fd ["book", "row", "spots", "long", "beat"] (LSp K TB0 psp_rburdens) := by
  refine fn_ok (p := fun _ => p_rburdens) F sc_rburdens rfl rfl (by decide) (fun as Qp Ep h => by obtain ⟨_, _, _, _, _, _, rfl, _⟩ := h; rfl) (fun cdv A outer s H E Bh Bt Ep hr hx => JSs.nox ?_) hp_rburdens
  exact jss_cons (js_set (i := 5) sc_rburdens.nd rfl (by first | exact Or.inl rfl | exact Or.inr rfl) (je_cal C_kinds_of hr (by rfl) (ja_cons (je_fz (jv 1)) (ja_nil))))
    (jss_cons (js_set (i := 6) sc_rburdens.nd rfl (by first | exact Or.inl rfl | exact Or.inr rfl) (je_calK CK_round_passings hr (by rfl) (ja_cons (je_fz (jv 0)) (ja_cons (je_fz (jv 5)) (ja_cons (je_fz (jv 2)) (ja_nil)))) (jk_cons (je_fz (jv 3)) (jk_nil))))
    (jss_cons (js_asg (je_cb call_divmod lc_divmod (by rfl) B.b_divmod (by decide +kernel) (ja_cons (jv 4) (ja_cons (jv 3) (ja_nil)))) (jg_tup rfl (jgs_cons (jg_name (i := 9) sc_rburdens.nd rfl (by first | exact Or.inl rfl | exact Or.inr rfl)) (jgs_cons (jg_name (i := 10) sc_rburdens.nd rfl (by first | exact Or.inl rfl | exact Or.inr rfl)) (jgs_nil)))))
    (jss_cons (js_set (i := 7) sc_rburdens.nd rfl (by first | exact Or.inl rfl | exact Or.inr rfl) (je_cal C_bafter hr (by rfl) (ja_cons (je_fz (jv 0)) (ja_cons (je_fz (jv 5)) (ja_cons (je_fz (jv 6)) (ja_cons (je_fz (je_cal C_burdens_of hr (by rfl) (ja_cons (je_fz (jv 1)) (ja_nil)))) (ja_cons (je_fz (jv 9)) (ja_nil))))))))
    (jss_cons (js_setLc (i := 8) (own := [("passing", 11)]) rfl sc_rburdens.nd rfl rfl (sw_true rfl rfl rfl (by decide +kernel)) (ji_seq (jv 6)) (blkOk_by (N := N_rburdens) (sc := defScope s_rburdens) (by decide +kernel)) (fun _ _ _ _ _ => jg_name (i := 11) sc_rburdens.nd rfl (by first | exact Or.inl rfl | exact Or.inr rfl)) (fun _ _ _ _ _ => jts_one (jb_val (je_cal C_is_done_by hr (by rfl) (ja_cons (je_fz (je_ix (jv 11) (je_int) (fun _ _ => rfl))) (ja_cons (je_fz (jv 10)) (ja_nil)))))) (fun _ _ _ _ _ => jv 11))
    (jss_one (js_ret (je_cal C_bbehind hr (by rfl) (ja_cons (je_fz (jv 0)) (ja_cons (je_fz (jv 5)) (ja_cons (je_fz (jv 8)) (ja_cons (je_fz (jv 7)) (ja_nil))))))))))))
abbrev s_told_round : Stmt := topS 18
abbrev N_told_round : List Str := ["book", "kinds", "many"]
theorem sc_told_round : FnScope N_told_round ["book", "kinds"] (defScope s_told_round) := ⟨rfl, rfl, rfl, by decide +kernel, rfl, by decide +kernel, by decide +kernel⟩
theorem ok_told_round (F : FnP K "told_round" s_told_round f fd) (B : Bl mg) (CK_round_passings : CalK P w K mg base CX0 4 "round_passings" ["book", "kinds", "spots", "long"] 3 ["long"] (LSp K TB0 psp_round_passings)) : FnOk P w K mg base CX0 5 f fd ["book", "kinds"] (LSp K TB0 psp_told_round) := by
  refine fn_ok (p := fun _ => p_told_round) F sc_told_round rfl rfl (by decide) (fun as Qp Ep h => by obtain ⟨_, _, _, rfl, _⟩ := h; rfl) (fun cdv A outer s H E Bh Bt Ep hr hx => JSs.nox ?_) hp_told_round
  exact jss_cons (js_set (i := 2) sc_told_round.nd rfl (by first | exact Or.inl rfl | exact Or.inr rfl) (je_cb call_len lc_len (by rfl) B.b_len (by decide +kernel) (ja_cons (jv 1) (ja_nil))))
    (jss_one (js_ret (je_calK CK_round_passings hr (by rfl) (ja_cons (je_fz (jv 0)) (ja_cons (je_fz (jv 1)) (ja_cons (je_fz (je_tupRg rfl (by rfl) B.b_tuple (jr_1 (by rfl) B.b_range (jv 2)))) (ja_nil)))) (jk_cons (je_fz (je_cb (call_max2 rfl) lc_max2 (by rfl) B.b_max (by decide +kernel) (ja_cons (je_int) (ja_cons (jv 2) (ja_nil))))) (jk_nil)))))
abbrev s_rdone : Stmt := topS 19
abbrev N_rdone : List Str := ["book", "row", "rounds", "kinds"]
theorem sc_rdone : FnScope N_rdone ["book", "row", "rounds"] (defScope s_rdone) := ⟨rfl, rfl, rfl, by decide +kernel, rfl, by decide +kernel, by decide +kernel⟩
theorem ok_rdone (F : FunD K "rounds_done" "rounds_done" (defArgs s_rdone) (defBody s_rdone) (defScope s_rdone) [] [("rounds", .int 1)] f fd) (B : Bl mg) (C_kinds_of : Cal P w K mg base CX0 1 "kinds_of" ["row"] (LSp K TB0 psp_kinds_of)) (C_bafter : Cal P w K mg base CX0 5 "borne_after" ["book", "kinds", "met", "burdens", "rounds"] (LSp K TB0 psp_bafter)) (C_burdens_of : Cal P w K mg base CX0 1 "burdens_of" ["row"] (LSp K TB0 psp_burdens_of)) (C_told_round : Cal P w K mg base CX0 5 "told_round" ["book", "kinds"] (LSp K TB0 psp_told_round)) : FnOk P w K mg base CX0 6 f fd ["book", "row", "rounds"] (LSp K TB0 psp_rdone) := by
  refine fn_ok (p := fun _ => p_rdone) F sc_rdone rfl rfl (by decide) (fun as Qp Ep h => by obtain ⟨_, _, _, _, rfl, _⟩ := h; rfl) (fun cdv A outer s H E Bh Bt Ep hr hx => JSs.nox ?_) hp_rdone
  exact jss_cons (js_set (i := 3) sc_rdone.nd rfl (by first | exact Or.inl rfl | exact Or.inr rfl) (je_cal C_kinds_of hr (by rfl) (ja_cons (je_fz (jv 1)) (ja_nil))))
    (jss_one (js_ret (je_cal C_bafter hr (by rfl) (ja_cons (je_fz (jv 0)) (ja_cons (je_fz (jv 3)) (ja_cons (je_fz (je_cal C_told_round hr (by rfl) (ja_cons (je_fz (jv 0)) (ja_cons (je_fz (jv 3)) (ja_nil))))) (ja_cons (je_fz (je_cal C_burdens_of hr (by rfl) (ja_cons (je_fz (jv 1)) (ja_nil)))) (ja_cons (je_fz (jv 2)) (ja_nil)))))))))
abbrev s_comes : Stmt := topS 20
abbrev N_comes : List Str := ["book", "row", "kinds", "trail", "first"]
theorem sc_comes : FnScope N_comes ["book", "row"] (defScope s_comes) := ⟨rfl, rfl, rfl, by decide +kernel, rfl, by decide +kernel, by decide +kernel⟩
theorem ok_comes (F : FnP K "comes_again" s_comes f fd) (B : Bl mg) (C_kinds_of : Cal P w K mg base CX0 1 "kinds_of" ["row"] (LSp K TB0 psp_kinds_of)) (C_trail_of : Cal P w K mg base CX0 4 "trail_of" ["book", "kinds", "met", "burdens"] (LSp K TB0 psp_trail_of)) (C_burdens_of : Cal P w K mg base CX0 1 "burdens_of" ["row"] (LSp K TB0 psp_burdens_of)) (C_told_round : Cal P w K mg base CX0 5 "told_round" ["book", "kinds"] (LSp K TB0 psp_told_round)) : FnOk P w K mg base CX0 6 f fd ["book", "row"] (LSp K TB0 psp_comes) := by
  refine fn_ok (p := fun _ => p_comes) F sc_comes rfl rfl (by decide) (fun as Qp Ep h => by obtain ⟨_, _, _, rfl, _⟩ := h; rfl) (fun cdv A outer s H E Bh Bt Ep hr hx => JSs.nox ?_) hp_comes
  exact jss_cons (js_set (i := 2) sc_comes.nd rfl (by first | exact Or.inl rfl | exact Or.inr rfl) (je_cal C_kinds_of hr (by rfl) (ja_cons (je_fz (jv 1)) (ja_nil))))
    (jss_cons (js_asg (je_cal C_trail_of hr (by rfl) (ja_cons (je_fz (jv 0)) (ja_cons (je_fz (jv 2)) (ja_cons (je_fz (je_cal C_told_round hr (by rfl) (ja_cons (je_fz (jv 0)) (ja_cons (je_fz (jv 2)) (ja_nil))))) (ja_cons (je_fz (je_cal C_burdens_of hr (by rfl) (ja_cons (je_fz (jv 1)) (ja_nil)))) (ja_nil)))))) (jg_tup rfl (jgs_cons (jg_name (i := 3) sc_comes.nd rfl (by first | exact Or.inl rfl | exact Or.inr rfl)) (jgs_cons (jg_name (i := 4) sc_comes.nd rfl (by first | exact Or.inl rfl | exact Or.inr rfl)) (jgs_nil)))))
    (jss_one (js_ret (je_tup (ja_cons (jv 4) (ja_cons (je_sub (je_cb call_len lc_len (by rfl) B.b_len (by decide +kernel) (ja_cons (jv 3) (ja_nil))) (jv 4)) (ja_nil)))))))
abbrev s_near_paces : Stmt := topS 33
abbrev N_near_paces : List Str := ["_law_deal_here", "_law_many", "_law_found", "_law_k", "_law_wide", "_law_form"]
theorem sc_near_paces : FnScope N_near_paces ["_law_deal_here", "_law_many"] (defScope s_near_paces) := ⟨rfl, rfl, rfl, by decide +kernel, rfl, by decide +kernel, by decide +kernel⟩
theorem ok_near_paces (F : FnP K "_law_near_paces" s_near_paces f fd) (B : Bl mg) (C_draw : Cal P w K mg base CX0 1 "_law_draw" ["_law_deal_here", "_law_many"] (LSp K TB0 psp_draw)) : FnOk P w K mg base CX0 2 f fd ["_law_deal_here", "_law_many"] (LSp K TB0 psp_near_paces) := by
  refine fn_ok (p := fun _ => p_near_paces) F sc_near_paces rfl rfl (by decide) (fun as Qp Ep h => by obtain ⟨_, rfl, _⟩ := h; rfl) (fun cdv A outer s H E Bh Bt Ep hr hx => JSs.nox ?_) hp_near_paces
  exact jss_cons (js_par2 rfl sc_near_paces.nd rfl rfl (by decide) rfl rfl (ja_cons (je_fdiv (je_int) (je_cb (call_max2 rfl) lc_max2 (by rfl) B.b_max (by decide +kernel) (ja_cons (je_int) (ja_cons (je_sub (jv 1) (je_int)) (ja_nil))))) (ja_cons (je_cal C_draw hr (by rfl) (ja_cons (jv 0) (ja_cons (je_fz (je_int)) (ja_nil)))) (ja_nil))) (by rfl))
    (jss_cons (js_set (i := 2) sc_near_paces.nd rfl (by first | exact Or.inl rfl | exact Or.inr rfl) (je_lst (ja_cons (je_sub (je_cal C_draw hr (by rfl) (ja_cons (jv 0) (ja_cons (je_fz (je_int)) (ja_nil)))) (je_int)) (ja_nil))))
    (jss_cons (js_for PassesOwn.never rfl (ji_rng1 (by rfl) B.b_range (ja_cons (je_sub (jv 1) (je_int)) (ja_nil))) (jg_name (i := 3) sc_near_paces.nd rfl (by first | exact Or.inl rfl | exact Or.inr rfl)) (jss_one (js_expr (je_mt PySem.F.plainAttrs_list PySem.F.slot_list_append PySem.F.type_list_append mt_append mv_append (jv 2) (ja_cons (je_add (je_ix (jv 2) (je_neg (je_int)) (fun _ _ => rfl)) (je_ix (je_lst (ja_cons (je_add (je_int) (je_cal C_draw hr (by rfl) (ja_cons (jv 0) (ja_cons (je_fz (jv 4)) (ja_nil))))) (ja_cons (jv 4) (ja_nil)))) (je_ct call_int1 lc_int1 (by rfl) B.b_int (by decide +kernel) (ja_cons (je_eq hr (jv 5) (je_int)) (ja_nil))) (fun _ _ => rfl))) (ja_nil))))))
    (jss_cons (js_if (jw_pt (jw_and (jb_gt (jv 1) (je_int)) (jw_and1 (jb_eq hr (jv 5) (je_int))))) (jss_one (js_asg (je_add (je_add (je_ix (jv 2) (je_neg (je_int)) (fun _ _ => rfl)) (je_int)) (je_cal C_draw hr (by rfl) (ja_cons (jv 0) (ja_cons (je_fz (je_int)) (ja_nil))))) (jg_sub (jv 2) (je_neg (je_int))))) (jss_nil))
    (jss_one (js_ret (je_ct call_tuple_of lc_tupleOf (by rfl) B.b_tuple (by decide +kernel) (ja_cons (jv 2) (ja_nil))))))))
abbrev s_lnear : Stmt := topS 34
abbrev N_lnear : List Str := ["_law_book_here", "_law_pace"]
theorem sc_lnear : FnScope N_lnear ["_law_book_here"] (defScope s_lnear) := ⟨rfl, rfl, rfl, by decide +kernel, rfl, by decide +kernel, by decide +kernel⟩
theorem ok_lnear (F : FnP K "_law_near" s_lnear f fd) (B : Bl mg)  : FnOk P w K mg base CX0 1 f fd ["_law_book_here"] (LSp K TB0 psp_lnear) := by
  refine fn_ok (p := fun _ => p_lnear) F sc_lnear rfl rfl (by decide) (fun as Qp Ep h => by obtain ⟨_, _, rfl, _⟩ := h; rfl) (fun cdv A outer s H E Bh Bt Ep hr hx => JSs.nox ?_) hp_lnear
  exact jss_one (js_ret (je_add (je_tup (ja_cons (je_ct call_tuple_of lc_tupleOf (by rfl) B.b_tuple (by decide +kernel) (ja_cons (je_lc (own := [("_law_pace", 1)]) rfl sc_lnear.nd (ji_seq (je_ix (jv 0) (je_int) (fun _ _ => rfl))) (blkOk_by (N := N_lnear) (sc := defScope s_lnear) (by decide +kernel)) (fun _ _ _ _ _ => jg_name (i := 1) sc_lnear.nd rfl (by first | exact Or.inl rfl | exact Or.inr rfl)) (fun _ _ _ _ _ => jts_one (jb_lt (je_sub (jv 1) (je_ix (je_ix (jv 0) (je_int) (fun _ _ => rfl)) (je_int) (fun _ _ => rfl))) (je_int))) (fun _ _ _ _ _ => jv 1)) (ja_nil))) (ja_nil))) (je_slice (jv 0) (jo_some (je_int)) (jo_none))))
abbrev s_ring_book : Stmt := topS 35
abbrev N_ring_book : List Str := ["_law_deal_here", "_law_many", "_law_size", "_law_form", "_law_most", "_law_book_here"]
theorem sc_ring_book : FnScope N_ring_book ["_law_deal_here", "_law_many", "_law_size", "_law_form"] (defScope s_ring_book) := ⟨rfl, rfl, rfl, by decide +kernel, rfl, by decide +kernel, by decide +kernel⟩
theorem ok_ring_book (F : FnP K "_law_ring_book" s_ring_book f fd) (B : Bl mg) (C_draw : Cal P w K mg base CX0 1 "_law_draw" ["_law_deal_here", "_law_many"] (LSp K TB0 psp_draw)) (C_book : Cal P w K mg base CX0 4 "_law_book" ["_law_deal_here", "_law_many", "_law_size", "_law_form"] (LSp K TB0 psp_book)) (C_near_paces : Cal P w K mg base CX0 2 "_law_near_paces" ["_law_deal_here", "_law_many"] (LSp K TB0 psp_near_paces)) : FnOk P w K mg base CX0 5 f fd ["_law_deal_here", "_law_many", "_law_size", "_law_form"] (LSp K TB0 psp_ring_book) := by
  refine fn_ok (p := fun _ => p_ring_book) F sc_ring_book rfl rfl (by decide) (fun as Qp Ep h => by obtain ⟨_, _, _, rfl, _⟩ := h; rfl) (fun cdv A outer s H E Bh Bt Ep hr hx => JSs.nox ?_) hp_ring_book
  exact jss_cons (js_set (i := 4) sc_ring_book.nd rfl (by first | exact Or.inl rfl | exact Or.inr rfl) (je_ix (je_lst (ja_cons (je_int) (ja_cons (je_int) (ja_cons (je_int) (ja_cons (jv 1) (ja_nil)))))) (je_cal C_draw hr (by rfl) (ja_cons (jv 0) (ja_cons (je_fz (je_int)) (ja_nil)))) (fun _ _ => rfl)))
    (jss_cons (js_set (i := 5) sc_ring_book.nd rfl (by first | exact Or.inl rfl | exact Or.inr rfl) (je_cal C_book hr (by rfl) (ja_cons (jv 0) (ja_cons (je_fz (jv 4)) (ja_cons (je_fz (jv 2)) (ja_cons (je_fz (jv 3)) (ja_nil)))))))
    (jss_one (js_ret (je_add (je_tup (ja_cons (je_cal C_near_paces hr (by rfl) (ja_cons (jv 0) (ja_cons (je_fz (jv 4)) (ja_nil)))) (ja_nil))) (je_slice (jv 5) (jo_some (je_int)) (jo_none))))))
abbrev s_ring_row : Stmt := topS 36
abbrev N_ring_row : List Str := ["_law_deal_here", "_law_book_here", "_law_many", "_law_kinds", "_law_near_here", "_law_most", "_law_k", "_law_kind"]
theorem sc_ring_row : FnScope N_ring_row ["_law_deal_here", "_law_book_here"] (defScope s_ring_row) := ⟨rfl, rfl, rfl, by decide +kernel, rfl, by decide +kernel, by decide +kernel⟩
theorem ok_ring_row (F : FnP K "_law_ring_row" s_ring_row f fd) (B : Bl mg) (C_lnear : Cal P w K mg base CX0 1 "_law_near" ["_law_book_here"] (LSp K TB0 psp_lnear)) (C_draw : Cal P w K mg base CX0 1 "_law_draw" ["_law_deal_here", "_law_many"] (LSp K TB0 psp_draw)) (C_mixed : Cal P w K mg base CX0 2 "_law_mixed" ["_law_deal_here", "_law_many"] (LSp K TB0 psp_mixed)) : FnOk P w K mg base CX0 3 f fd ["_law_deal_here", "_law_book_here"] (LSp K TB0 psp_ring_row) := by
  refine fn_ok (p := fun _ => p_ring_row) F sc_ring_row rfl rfl (by decide) (fun as Qp Ep h => by obtain ⟨_, _, rfl, _⟩ := h; rfl) (fun cdv A outer s H E Bh Bt Ep hr hx => JSs.nox ?_) hp_ring_row
  exact jss_cons (js_parT (xs := []) (is := [4, 5]) (ja_cons (je_cal C_lnear hr (by rfl) (ja_cons (je_fz (jv 1)) (ja_nil))) (ja_cons (je_ix (je_lst (ja_cons (je_int) (ja_cons (je_int) (ja_cons (je_int) (ja_cons (je_int) (ja_cons (je_int) (ja_cons (je_int) (ja_cons (je_int) (ja_nil))))))))) (je_ix (jv 1) (je_int) (fun _ _ => rfl)) (fun _ _ => rfl)) (ja_nil))) (pg_tup rfl (pgs_cons (pg_name (i := 4) sc_ring_row.nd rfl (by first | exact Or.inl rfl | exact Or.inr rfl)) (pgs_cons (pg_name (i := 5) sc_ring_row.nd rfl (by first | exact Or.inl rfl | exact Or.inr rfl)) (pgs_nil)))) (par_goS (par_goS (par_go0))))
    (jss_cons (js_set (i := 2) sc_ring_row.nd rfl (by first | exact Or.inl rfl | exact Or.inr rfl) (je_ix (je_lst (ja_cons (jv 5) (ja_cons (jv 5) (ja_cons (je_cb (call_max2 rfl) lc_max2 (by rfl) B.b_max (by decide +kernel) (ja_cons (je_int) (ja_cons (je_sub (jv 5) (je_int)) (ja_nil)))) (ja_cons (je_cal C_draw hr (by rfl) (ja_cons (jv 0) (ja_cons (je_fz (je_add (jv 5) (je_int))) (ja_nil)))) (ja_nil)))))) (je_cal C_draw hr (by rfl) (ja_cons (jv 0) (ja_cons (je_fz (je_int)) (ja_nil)))) (fun _ _ => rfl)))
    (jss_cons (js_setLc (i := 3) (own := [("_law_k", 6)]) rfl sc_ring_row.nd rfl rfl (sw_true rfl rfl rfl (by decide +kernel)) (ji_rng1 (by rfl) B.b_range (ja_cons (jv 2) (ja_nil))) (blkOk_by (N := N_ring_row) (sc := defScope s_ring_row) (by decide +kernel)) (fun _ _ _ _ _ => jg_name (i := 6) sc_ring_row.nd rfl (by first | exact Or.inl rfl | exact Or.inr rfl)) (fun _ _ _ _ _ => jts_nil) (fun _ _ _ _ _ => je_cal C_draw hr (by rfl) (ja_cons (jv 0) (ja_cons (je_fz (je_cb call_len lc_len (by rfl) B.b_len (by decide +kernel) (ja_cons (je_ix (jv 4) (je_int) (fun _ _ => rfl)) (ja_nil)))) (ja_nil)))))
    (jss_cons (js_if (jb_gt (je_cal C_draw hr (by rfl) (ja_cons (jv 0) (ja_cons (je_fz (je_int)) (ja_nil)))) (je_int)) (jss_one (js_set (i := 3) sc_ring_row.nd rfl (by first | exact Or.inl rfl | exact Or.inr rfl) (je_slice (je_add (je_cal C_mixed hr (by rfl) (ja_cons (jv 0) (ja_cons (je_fz (je_cb call_len lc_len (by rfl) B.b_len (by decide +kernel) (ja_cons (je_ix (jv 4) (je_int) (fun _ _ => rfl)) (ja_nil)))) (ja_nil)))) (jv 3)) (jo_none) (jo_some (jv 2))))) (jss_nil))
    (jss_one (js_ret (je_ct call_tuple_of lc_tupleOf (by rfl) B.b_tuple (by decide +kernel) (ja_cons (je_lc (own := [("_law_kind", 7)]) rfl sc_ring_row.nd (ji_seq (jv 3)) (blkOk_by (N := N_ring_row) (sc := defScope s_ring_row) (by decide +kernel)) (fun _ _ _ _ _ => jg_name (i := 7) sc_ring_row.nd rfl (by first | exact Or.inl rfl | exact Or.inr rfl)) (fun _ _ _ _ _ => jts_nil) (fun _ _ _ _ _ => je_tup (ja_cons (jv 7) (ja_cons (je_cal C_draw hr (by rfl) (ja_cons (jv 0) (ja_cons (je_fz (je_ix (jv 1) (je_int) (fun _ _ => rfl))) (ja_nil)))) (ja_nil))))) (ja_nil))))))))
abbrev s_lring : Stmt := topS 37
abbrev N_lring : List Str := ["_law_deal_here", "_law_many", "_law_size", "_law_k", "_law_found", "_law_low"]
theorem sc_lring : FnScope N_lring ["_law_deal_here", "_law_many"] (defScope s_lring) := ⟨rfl, rfl, rfl, by decide +kernel, rfl, by decide +kernel, by decide +kernel⟩
theorem ok_lring (F : FnP K "_law_ring" s_lring f fd) (B : Bl mg) (C_draw : Cal P w K mg base CX0 1 "_law_draw" ["_law_deal_here", "_law_many"] (LSp K TB0 psp_draw)) : FnOk P w K mg base CX0 2 f fd ["_law_deal_here", "_law_many"] (LSp K TB0 psp_lring) := by
  refine fn_ok (p := fun _ => p_lring) F sc_lring rfl rfl (by decide) (fun as Qp Ep h => by obtain ⟨_, rfl, _⟩ := h; rfl) (fun cdv A outer s H E Bh Bt Ep hr hx => JSs.nox ?_) hp_lring
  exact jss_cons (js_set (i := 2) sc_lring.nd rfl (by first | exact Or.inl rfl | exact Or.inr rfl) (je_add (je_cb (call_max2 rfl) lc_max2 (by rfl) B.b_max (by decide +kernel) (ja_cons (je_int) (ja_cons (jv 1) (ja_nil)))) (je_cal C_draw hr (by rfl) (ja_cons (jv 0) (ja_cons (je_fz (je_ix (je_lst (ja_cons (je_int) (ja_cons (je_int) (ja_cons (je_sub (je_pow (je_int) (je_int)) (je_int)) (ja_nil))))) (je_cal C_draw hr (by rfl) (ja_cons (jv 0) (ja_cons (je_fz (je_int)) (ja_nil)))) (fun _ _ => rfl))) (ja_nil))))))
    (jss_cons (js_par2 rfl sc_lring.nd rfl rfl (by decide) rfl rfl (ja_cons (je_lst (ja_nil)) (ja_cons (je_int) (ja_nil))) (by rfl))
    (jss_cons (js_for PassesOwn.never rfl (ji_rng1 (by rfl) B.b_range (ja_cons (jv 1) (ja_nil))) (jg_name (i := 3) sc_lring.nd rfl (by first | exact Or.inl rfl | exact Or.inr rfl)) (jss_cons (js_set (i := 5) sc_lring.nd rfl (by first | exact Or.inl rfl | exact Or.inr rfl) (je_add (jv 5) (je_cal C_draw hr (by rfl) (ja_cons (jv 0) (ja_cons (je_fz (je_cb (call_max2 rfl) lc_max2 (by rfl) B.b_max (by decide +kernel) (ja_cons (je_int) (ja_cons (je_fdiv (je_sub (jv 2) (jv 5)) (je_sub (jv 1) (jv 3))) (ja_nil))))) (ja_nil))))))
    (jss_cons (js_expr (je_mt PySem.F.plainAttrs_list PySem.F.slot_list_append PySem.F.type_list_append mt_append mv_append (jv 4) (ja_cons (jv 5) (ja_nil))))
    (jss_one (js_set (i := 5) sc_lring.nd rfl (by first | exact Or.inl rfl | exact Or.inr rfl) (je_add (jv 5) (je_int)))))))
    (jss_one (js_ret (je_tup (ja_cons (jv 2) (ja_cons (je_ct call_tuple_of lc_tupleOf (by rfl) B.b_tuple (by decide +kernel) (ja_cons (jv 4) (ja_nil))) (ja_nil))))))))
abbrev s_law55 : Stmt := topS 38
abbrev N_law55 : List Str := ["_law_script", "_law_deal_here", "_law_turn", "_law_tome", "_law_walkers", "_law_rings", "_law_far", "_law_many", "_law_first", "_law_more", "_law_due", "_law_k", "_law_size", "_law_spots"]
theorem sc_law55 : FnScope N_law55 ["_law_script"] (defScope s_law55) := ⟨rfl, rfl, rfl, by decide +kernel, rfl, by decide +kernel, by decide +kernel⟩
theorem ok_law55 (F : FnP K "law" s_law55 f fd) (B : Bl mg) (C_deal : Cal P w K mg base CX0 1 "_law_deal" ["_law_script", "_law_base"] (LSp K TB0 psp_deal)) (C_ring_book : Cal P w K mg base CX0 5 "_law_ring_book" ["_law_deal_here", "_law_many", "_law_size", "_law_form"] (LSp K TB0 psp_ring_book)) (C_draw : Cal P w K mg base CX0 1 "_law_draw" ["_law_deal_here", "_law_many"] (LSp K TB0 psp_draw)) (C_ring_row : Cal P w K mg base CX0 3 "_law_ring_row" ["_law_deal_here", "_law_book_here"] (LSp K TB0 psp_ring_row)) (C_lring : Cal P w K mg base CX0 2 "_law_ring" ["_law_deal_here", "_law_many"] (LSp K TB0 psp_lring)) (C_comes : Cal P w K mg base CX0 6 "comes_again" ["book", "row"] (LSp K TB0 psp_comes)) (CK_rdone : CalK P w K mg base CX0 6 "rounds_done" ["book", "row", "rounds"] 2 ["rounds"] (LSp K TB0 psp_rdone)) (CD_rdone : CalD P w K mg base CX0 6 "rounds_done" ["book", "row", "rounds"] [.int 1] (LSp K TB0 psp_rdone)) (CK_rburdens : CalK P w K mg base CX0 6 "round_burdens" ["book", "row", "spots", "long", "beat"] 3 ["long", "beat"] (LSp K TB0 psp_rburdens)) : FnOk P w K mg base CX0 7 f fd ["_law_script"] (LSp K TB0 psp_law) := by
  refine fn_ok (p := fun _ => p_law55) F sc_law55 rfl rfl (by decide) (fun as Qp Ep h => by obtain ⟨_, rfl, _⟩ := h; rfl) (fun cdv A outer s H E Bh Bt Ep hr hx => JSs.nox ?_) hp_law55
  exact jss_cons (js_set (i := 1) sc_law55.nd rfl (by first | exact Or.inl rfl | exact Or.inr rfl) (je_cal C_deal hr (by rfl) (ja_cons (jv 0) (ja_cons (je_fz (je_int)) (ja_nil)))))
    (jss_cons (js_for PassesOwn.never rfl (ji_rng1 (by rfl) B.b_range (ja_cons (je_int) (ja_nil))) (jg_name (i := 2) sc_law55.nd rfl (by first | exact Or.inl rfl | exact Or.inr rfl)) (jss_cons (js_set (i := 3) sc_law55.nd rfl (by first | exact Or.inl rfl | exact Or.inr rfl) (je_cal C_ring_book hr (by rfl) (ja_cons (jv 1) (ja_cons (je_fz (je_add (je_int) (je_cal C_draw hr (by rfl) (ja_cons (jv 1) (ja_cons (je_fz (je_int)) (ja_nil)))))) (ja_cons (je_fz (je_add (je_int) (je_cal C_draw hr (by rfl) (ja_cons (jv 1) (ja_cons (je_fz (je_int)) (ja_nil)))))) (ja_cons (je_fz (je_int)) (ja_nil)))))))
    (jss_cons (js_set (i := 4) sc_law55.nd rfl (by first | exact Or.inl rfl | exact Or.inr rfl) (je_cal C_ring_row hr (by rfl) (ja_cons (jv 1) (ja_cons (je_fz (jv 3)) (ja_nil)))))
    (jss_cons (js_setLc (i := 5) (own := [("_law_k", 11)]) rfl sc_law55.nd rfl rfl (sw_true rfl rfl rfl (by decide +kernel)) (ji_rng1 (by rfl) B.b_range (ja_cons (je_int) (ja_nil))) (blkOk_by (N := N_law55) (sc := defScope s_law55) (by decide +kernel)) (fun _ _ _ _ _ => jg_name (i := 11) sc_law55.nd rfl (by first | exact Or.inl rfl | exact Or.inr rfl)) (fun _ _ _ _ _ => jts_nil) (fun _ _ _ _ _ => je_cal C_lring hr (by rfl) (ja_cons (jv 1) (ja_cons (je_fz (je_cb call_len lc_len (by rfl) B.b_len (by decide +kernel) (ja_cons (jv 4) (ja_nil)))) (ja_nil)))))
    (jss_cons (js_asg (je_cal C_comes hr (by rfl) (ja_cons (je_fz (jv 3)) (ja_cons (je_fz (jv 4)) (ja_nil)))) (jg_tup rfl (jgs_cons (jg_name (i := 8) sc_law55.nd rfl (by first | exact Or.inl rfl | exact Or.inr rfl)) (jgs_cons (jg_name (i := 9) sc_law55.nd rfl (by first | exact Or.inl rfl | exact Or.inr rfl)) (jgs_nil)))))
    (jss_cons (js_set (i := 6) sc_law55.nd rfl (by first | exact Or.inl rfl | exact Or.inr rfl) (je_cal C_draw hr (by rfl) (ja_cons (jv 1) (ja_cons (je_fz (je_pow (je_int) (je_int))) (ja_nil)))))
    (jss_one (js_for PassesOwn.never rfl (ji_seq (je_tup (ja_cons (je_int) (ja_cons (je_int) (ja_cons (je_int) (ja_cons (je_int) (ja_cons (je_cal C_draw hr (by rfl) (ja_cons (jv 1) (ja_cons (je_fz (je_int)) (ja_nil)))) (ja_cons (jv 6) (ja_nil))))))))) (jg_name (i := 7) sc_law55.nd rfl (by first | exact Or.inl rfl | exact Or.inr rfl)) (jss_cons (js_set (i := 10) sc_law55.nd rfl (by first | exact Or.inl rfl | exact Or.inr rfl) (je_calK CK_rdone hr (by rfl) (ja_cons (je_fz (jv 3)) (ja_cons (je_fz (jv 4)) (ja_nil))) (jk_cons (je_fz (jv 7)) (jk_nil))))
    (jss_cons (js_for PassesOwn.never rfl (ji_seq (jv 5)) (jg_tup rfl (jgs_cons (jg_name (i := 12) sc_law55.nd rfl (by first | exact Or.inl rfl | exact Or.inr rfl)) (jgs_cons (jg_name (i := 13) sc_law55.nd rfl (by first | exact Or.inl rfl | exact Or.inr rfl)) (jgs_nil)))) (jss_one (js_if (jb_ne hr (je_calK CK_rburdens hr (by rfl) (ja_cons (je_fz (jv 3)) (ja_cons (je_fz (jv 4)) (ja_cons (je_fz (jv 13)) (ja_nil)))) (jk_cons (je_fz (jv 12)) (jk_cons (je_fz (je_mul (jv 7) (jv 12))) (jk_nil)))) (jv 10)) (jss_one (js_ret (je_bl))) (jss_nil))))
    (jss_one (js_if (jw_pt (jw_and (jb_ge (jv 7) (jv 8)) (jw_and1 (jb_ne hr (je_calK CK_rdone hr (by rfl) (ja_cons (je_fz (jv 3)) (ja_cons (je_fz (jv 4)) (ja_nil))) (jk_cons (je_fz (je_add (jv 7) (jv 9))) (jk_nil))) (jv 10))))) (jss_one (js_ret (je_bl))) (jss_nil)))))))))))))
    (jss_one (js_ret (je_bl))))
end
def dd_draw : He.DefD := ⟨("_law_draw", none), "_law_draw", "_law_draw", defArgs s_draw, defBody s_draw, defScope s_draw, [], []⟩
def dd_deal : He.DefD := ⟨("_law_deal", none), "_law_deal", "_law_deal", defArgs s_deal, defBody s_deal, defScope s_deal, [], []⟩
def dd_paces : He.DefD := ⟨("_law_paces", none), "_law_paces", "_law_paces", defArgs s_paces, defBody s_paces, defScope s_paces, [], []⟩
def dd_pair : He.DefD := ⟨("_law_pair", none), "_law_pair", "_law_pair", defArgs s_pair, defBody s_pair, defScope s_pair, [], []⟩
def dd_plain : He.DefD := ⟨("_law_plain", none), "_law_plain", "_law_plain", defArgs s_plain, defBody s_plain, defScope s_plain, [], []⟩
def dd_side : He.DefD := ⟨("_law_side", none), "_law_side", "_law_side", defArgs s_side, defBody s_side, defScope s_side, [], []⟩
def dd_mixed : He.DefD := ⟨("_law_mixed", none), "_law_mixed", "_law_mixed", defArgs s_mixed, defBody s_mixed, defScope s_mixed, [], []⟩
def dd_names_put : He.DefD := ⟨("_law_names_put", none), "_law_names_put", "_law_names_put", defArgs s_names_put, defBody s_names_put, defScope s_names_put, [], []⟩
def dd_good : He.DefD := ⟨("_law_good", none), "_law_good", "_law_good", defArgs s_good, defBody s_good, defScope s_good, [], []⟩
def dd_any : He.DefD := ⟨("_law_any", none), "_law_any", "_law_any", defArgs s_any, defBody s_any, defScope s_any, [], []⟩
def dd_book : He.DefD := ⟨("_law_book", none), "_law_book", "_law_book", defArgs s_book, defBody s_book, defScope s_book, [], []⟩
def dd_table_number : He.DefD := ⟨("table_number", none), "table_number", "table_number", defArgs s_table_number, defBody s_table_number, defScope s_table_number, [], []⟩
def dd_pair_at : He.DefD := ⟨("pair_at", none), "pair_at", "pair_at", defArgs s_pair_at, defBody s_pair_at, defScope s_pair_at, [], []⟩
def dd_kinds_of : He.DefD := ⟨("kinds_of", none), "kinds_of", "kinds_of", defArgs s_kinds_of, defBody s_kinds_of, defScope s_kinds_of, [], []⟩
def dd_burdens_of : He.DefD := ⟨("burdens_of", none), "burdens_of", "burdens_of", defArgs s_burdens_of, defBody s_burdens_of, defScope s_burdens_of, [], []⟩
def dd_cdiv : He.DefD := ⟨("common_divisor", none), "common_divisor", "common_divisor", defArgs s_cdiv, defBody s_cdiv, defScope s_cdiv, [], []⟩
def dd_cmul : He.DefD := ⟨("common_multiple", none), "common_multiple", "common_multiple", defArgs s_cmul, defBody s_cmul, defScope s_cmul, [], []⟩
def dd_moment_of : He.DefD := ⟨("moment_of", none), "moment_of", "moment_of", defArgs s_moment_of, defBody s_moment_of, defScope s_moment_of, [], []⟩
def dd_told_order : He.DefD := ⟨("in_told_order", none), "in_told_order", "in_told_order", defArgs s_told_order, defBody s_told_order, defScope s_told_order, [], []⟩
def dd_is_done_by : He.DefD := ⟨("is_done_by", none), "is_done_by", "is_done_by", defArgs s_is_done_by, defBody s_is_done_by, defScope s_is_done_by, [], []⟩
def dd_round_passings : He.DefD := ⟨("round_passings", none), "round_passings", "round_passings", defArgs s_round_passings, defBody s_round_passings, defScope s_round_passings, [], []⟩
def dd_bbehind : He.DefD := ⟨("borne_behind", none), "borne_behind", "borne_behind", defArgs s_bbehind, defBody s_bbehind, defScope s_bbehind, [], []⟩
def dd_trail_of : He.DefD := ⟨("trail_of", none), "trail_of", "trail_of", defArgs s_trail_of, defBody s_trail_of, defScope s_trail_of, [], []⟩
def dd_bafter : He.DefD := ⟨("borne_after", none), "borne_after", "borne_after", defArgs s_bafter, defBody s_bafter, defScope s_bafter, [], []⟩
def dd_rburdens : He.DefD := ⟨("round_burdens", none), "round_burdens", "round_burdens", defArgs s_rburdens, defBody s_rburdens, defScope s_rburdens, [], []⟩
def dd_told_round : He.DefD := ⟨("told_round", none), "told_round", "told_round", defArgs s_told_round, defBody s_told_round, defScope s_told_round, [], []⟩
def dd_rdone : He.DefD := ⟨("rounds_done", none), "rounds_done", "rounds_done", defArgs s_rdone, defBody s_rdone, defScope s_rdone, [], [("rounds", .int 1)]⟩
def dd_comes : He.DefD := ⟨("comes_again", none), "comes_again", "comes_again", defArgs s_comes, defBody s_comes, defScope s_comes, [], []⟩
def dd_near_paces : He.DefD := ⟨("_law_near_paces", none), "_law_near_paces", "_law_near_paces", defArgs s_near_paces, defBody s_near_paces, defScope s_near_paces, [], []⟩
def dd_lnear : He.DefD := ⟨("_law_near", none), "_law_near", "_law_near", defArgs s_lnear, defBody s_lnear, defScope s_lnear, [], []⟩
def dd_ring_book : He.DefD := ⟨("_law_ring_book", none), "_law_ring_book", "_law_ring_book", defArgs s_ring_book, defBody s_ring_book, defScope s_ring_book, [], []⟩
def dd_ring_row : He.DefD := ⟨("_law_ring_row", none), "_law_ring_row", "_law_ring_row", defArgs s_ring_row, defBody s_ring_row, defScope s_ring_row, [], []⟩
def dd_lring : He.DefD := ⟨("_law_ring", none), "_law_ring", "_law_ring", defArgs s_lring, defBody s_lring, defScope s_lring, [], []⟩
def dd_law55 : He.DefD := ⟨("law", none), "law", "law", defArgs s_law55, defBody s_law55, defScope s_law55, [], []⟩
def fns : List He.DefD := [dd_draw, dd_deal, dd_paces, dd_pair, dd_plain, dd_side, dd_mixed, dd_names_put, dd_good, dd_any, dd_book, dd_table_number, dd_pair_at, dd_kinds_of, dd_burdens_of, dd_cdiv, dd_cmul, dd_moment_of, dd_told_order, dd_is_done_by, dd_round_passings, dd_bbehind, dd_trail_of, dd_bafter, dd_rburdens, dd_told_round, dd_rdone, dd_comes, dd_near_paces, dd_lnear, dd_ring_book, dd_ring_row, dd_lring, dd_law55]
def facs : List He.Fa := [.glo "_law_draw", .glo "_law_deal", .glo "_law_paces", .glo "_law_pair", .glo "_law_plain", .glo "_law_side", .glo "_law_mixed", .glo "_law_names_put", .glo "_law_good", .glo "_law_any", .glo "_law_book", .glo "table_number", .glo "pair_at", .glo "kinds_of", .glo "burdens_of", .glo "common_divisor", .glo "common_multiple", .glo "moment_of", .glo "in_told_order", .glo "is_done_by", .glo "round_passings", .glo "borne_behind", .glo "trail_of", .glo "borne_after", .glo "round_burdens", .glo "told_round", .glo "rounds_done", .glo "comes_again", .glo "_law_near_paces", .glo "_law_near", .glo "_law_ring_book", .glo "_law_ring_row", .glo "_law_ring", .glo "law", .free "len", .free "list", .free "tuple", .free "reversed", .free "range", .free "max", .free "min", .free "sum", .free "all", .free "any", .free "zip", .free "enumerate", .free "isinstance", .free "int", .free "bool", .free "str", .free "repr", .free "divmod", .free "abs", .free "sorted", .free "set", .free "dict", .free "pow", .free "ValueError", .free "IndexError"]
def exB (K : PySem.W.Frag) : Bool := true
abbrev rowR : PySem.W.OpenRow := PySem.W.OpenLaw.row PySem.Challenge.rw_wherefrom_k55_whole_any_spots_of_a_round
abbrev hk : PySem.W.Hook := Wf.hookW 6 facs fns exB
def obA (s : PySem.W.SharedT) : He.AlD × Bool := Wf.obsW 6 facs fns exB (HandSHeadRun.getT s)
theorem ob_eq (s : PySem.W.SharedT) : obA s = hk.obs s.abs := Wf.obsW_eq (HandSHeadRun.getT_eq s)
abbrev loose0 : List Str := ["table_number", "pair_at", "kinds_of", "burdens_of", "in_told_order", "common_multiple", "common_divisor", "moment_of", "is_done_by", "round_passings", "borne_behind", "trail_of", "borne_after", "round_burdens", "told_round", "rounds_done", "comes_again", "_law_deal", "_law_draw", "_law_paces", "_law_pair", "_law_plain", "_law_side", "_law_mixed"]
abbrev loose1 : List Str := ["_law_names_put", "_law_good", "_law_any", "_law_book", "_law_near_paces", "_law_near", "_law_ring_book", "_law_ring_row", "_law_ring"]
abbrev looseL : List Str := loose0 ++ loose1
theorem run_eq (w : World) : HandSHeadRun.RunEq rowR (PySem.W.view rowR.prog [38]) hk obA 2400 looseL w := by
  intro os
  kernel_rfl
theorem facts {P : Program} {w : World} {K : PySem.W.Frag} {h : Heap} {mg : Str → Option Value} {f : Addr} (X : K.In h) (G : h.Ns mainGlobals mg) (hfa : mg ("law" : Str) = some (.ref f)) (c : He.SaysD facs fns K ∧ exB K = true) :
    ∃ fd : FuncData, (∀ (s : Shared) (v : Value), BindsTo s fd ⟨[v], []⟩ [("_law_script", v)]) ∧ ∀ base : Heap, K.In base → base.Ns mainGlobals mg → FnG P w K mg base CX0 7 f fd ["_law_script"] (LSp K TB0 psp_law) := by
  have cd := c.1
  have cm := c.2
  obtain ⟨fd_draw, F_draw⟩ := cd.def_ 0 (d := dd_draw) rfl
  have g_draw := He.glo_ok X G (cd.fact 0 (f := .glo "_law_draw") rfl)
  obtain ⟨fd_deal, F_deal⟩ := cd.def_ 1 (d := dd_deal) rfl
  have g_deal := He.glo_ok X G (cd.fact 1 (f := .glo "_law_deal") rfl)
  obtain ⟨fd_paces, F_paces⟩ := cd.def_ 2 (d := dd_paces) rfl
  have g_paces := He.glo_ok X G (cd.fact 2 (f := .glo "_law_paces") rfl)
  obtain ⟨fd_pair, F_pair⟩ := cd.def_ 3 (d := dd_pair) rfl
  have g_pair := He.glo_ok X G (cd.fact 3 (f := .glo "_law_pair") rfl)
  obtain ⟨fd_plain, F_plain⟩ := cd.def_ 4 (d := dd_plain) rfl
  have g_plain := He.glo_ok X G (cd.fact 4 (f := .glo "_law_plain") rfl)
  obtain ⟨fd_side, F_side⟩ := cd.def_ 5 (d := dd_side) rfl
  have g_side := He.glo_ok X G (cd.fact 5 (f := .glo "_law_side") rfl)
  obtain ⟨fd_mixed, F_mixed⟩ := cd.def_ 6 (d := dd_mixed) rfl
  have g_mixed := He.glo_ok X G (cd.fact 6 (f := .glo "_law_mixed") rfl)
  obtain ⟨fd_names_put, F_names_put⟩ := cd.def_ 7 (d := dd_names_put) rfl
  have g_names_put := He.glo_ok X G (cd.fact 7 (f := .glo "_law_names_put") rfl)
  obtain ⟨fd_good, F_good⟩ := cd.def_ 8 (d := dd_good) rfl
  have g_good := He.glo_ok X G (cd.fact 8 (f := .glo "_law_good") rfl)
  obtain ⟨fd_any, F_any⟩ := cd.def_ 9 (d := dd_any) rfl
  have g_any := He.glo_ok X G (cd.fact 9 (f := .glo "_law_any") rfl)
  obtain ⟨fd_book, F_book⟩ := cd.def_ 10 (d := dd_book) rfl
  have g_book := He.glo_ok X G (cd.fact 10 (f := .glo "_law_book") rfl)
  obtain ⟨fd_table_number, F_table_number⟩ := cd.def_ 11 (d := dd_table_number) rfl
  have g_table_number := He.glo_ok X G (cd.fact 11 (f := .glo "table_number") rfl)
  obtain ⟨fd_pair_at, F_pair_at⟩ := cd.def_ 12 (d := dd_pair_at) rfl
  have g_pair_at := He.glo_ok X G (cd.fact 12 (f := .glo "pair_at") rfl)
  obtain ⟨fd_kinds_of, F_kinds_of⟩ := cd.def_ 13 (d := dd_kinds_of) rfl
  have g_kinds_of := He.glo_ok X G (cd.fact 13 (f := .glo "kinds_of") rfl)
  obtain ⟨fd_burdens_of, F_burdens_of⟩ := cd.def_ 14 (d := dd_burdens_of) rfl
  have g_burdens_of := He.glo_ok X G (cd.fact 14 (f := .glo "burdens_of") rfl)
  obtain ⟨fd_cdiv, F_cdiv⟩ := cd.def_ 15 (d := dd_cdiv) rfl
  have g_cdiv := He.glo_ok X G (cd.fact 15 (f := .glo "common_divisor") rfl)
  obtain ⟨fd_cmul, F_cmul⟩ := cd.def_ 16 (d := dd_cmul) rfl
  have g_cmul := He.glo_ok X G (cd.fact 16 (f := .glo "common_multiple") rfl)
  obtain ⟨fd_moment_of, F_moment_of⟩ := cd.def_ 17 (d := dd_moment_of) rfl
  have g_moment_of := He.glo_ok X G (cd.fact 17 (f := .glo "moment_of") rfl)
  obtain ⟨fd_told_order, F_told_order⟩ := cd.def_ 18 (d := dd_told_order) rfl
  have g_told_order := He.glo_ok X G (cd.fact 18 (f := .glo "in_told_order") rfl)
  obtain ⟨fd_is_done_by, F_is_done_by⟩ := cd.def_ 19 (d := dd_is_done_by) rfl
  have g_is_done_by := He.glo_ok X G (cd.fact 19 (f := .glo "is_done_by") rfl)
  obtain ⟨fd_round_passings, F_round_passings⟩ := cd.def_ 20 (d := dd_round_passings) rfl
  have g_round_passings := He.glo_ok X G (cd.fact 20 (f := .glo "round_passings") rfl)
  obtain ⟨fd_bbehind, F_bbehind⟩ := cd.def_ 21 (d := dd_bbehind) rfl
  have g_bbehind := He.glo_ok X G (cd.fact 21 (f := .glo "borne_behind") rfl)
  obtain ⟨fd_trail_of, F_trail_of⟩ := cd.def_ 22 (d := dd_trail_of) rfl
  have g_trail_of := He.glo_ok X G (cd.fact 22 (f := .glo "trail_of") rfl)
  obtain ⟨fd_bafter, F_bafter⟩ := cd.def_ 23 (d := dd_bafter) rfl
  have g_bafter := He.glo_ok X G (cd.fact 23 (f := .glo "borne_after") rfl)
  obtain ⟨fd_rburdens, F_rburdens⟩ := cd.def_ 24 (d := dd_rburdens) rfl
  have g_rburdens := He.glo_ok X G (cd.fact 24 (f := .glo "round_burdens") rfl)
  obtain ⟨fd_told_round, F_told_round⟩ := cd.def_ 25 (d := dd_told_round) rfl
  have g_told_round := He.glo_ok X G (cd.fact 25 (f := .glo "told_round") rfl)
  obtain ⟨fd_rdone, F_rdone⟩ := cd.def_ 26 (d := dd_rdone) rfl
  have g_rdone := He.glo_ok X G (cd.fact 26 (f := .glo "rounds_done") rfl)
  obtain ⟨fd_comes, F_comes⟩ := cd.def_ 27 (d := dd_comes) rfl
  have g_comes := He.glo_ok X G (cd.fact 27 (f := .glo "comes_again") rfl)
  obtain ⟨fd_near_paces, F_near_paces⟩ := cd.def_ 28 (d := dd_near_paces) rfl
  have g_near_paces := He.glo_ok X G (cd.fact 28 (f := .glo "_law_near_paces") rfl)
  obtain ⟨fd_lnear, F_lnear⟩ := cd.def_ 29 (d := dd_lnear) rfl
  have g_lnear := He.glo_ok X G (cd.fact 29 (f := .glo "_law_near") rfl)
  obtain ⟨fd_ring_book, F_ring_book⟩ := cd.def_ 30 (d := dd_ring_book) rfl
  have g_ring_book := He.glo_ok X G (cd.fact 30 (f := .glo "_law_ring_book") rfl)
  obtain ⟨fd_ring_row, F_ring_row⟩ := cd.def_ 31 (d := dd_ring_row) rfl
  have g_ring_row := He.glo_ok X G (cd.fact 31 (f := .glo "_law_ring_row") rfl)
  obtain ⟨fd_lring, F_lring⟩ := cd.def_ 32 (d := dd_lring) rfl
  have g_lring := He.glo_ok X G (cd.fact 32 (f := .glo "_law_ring") rfl)
  obtain ⟨fd_law55, F_law55⟩ := cd.def_ 33 (d := dd_law55) rfl
  have eq := hfa.symm.trans (He.glo_ok X G (cd.fact 33 (f := .glo "law") rfl))
  cases eq
  have B : Bl mg := ⟨He.free_ok X G (cd.fact 34 (f := .free "len") rfl), He.free_ok X G (cd.fact 35 (f := .free "list") rfl), He.free_ok X G (cd.fact 36 (f := .free "tuple") rfl), He.free_ok X G (cd.fact 37 (f := .free "reversed") rfl), He.free_ok X G (cd.fact 38 (f := .free "range") rfl), He.free_ok X G (cd.fact 39 (f := .free "max") rfl), He.free_ok X G (cd.fact 40 (f := .free "min") rfl), He.free_ok X G (cd.fact 41 (f := .free "sum") rfl), He.free_ok X G (cd.fact 42 (f := .free "all") rfl), He.free_ok X G (cd.fact 43 (f := .free "any") rfl), He.free_ok X G (cd.fact 44 (f := .free "zip") rfl), He.free_ok X G (cd.fact 45 (f := .free "enumerate") rfl), He.free_ok X G (cd.fact 46 (f := .free "isinstance") rfl), He.free_ok X G (cd.fact 47 (f := .free "int") rfl), He.free_ok X G (cd.fact 48 (f := .free "bool") rfl), He.free_ok X G (cd.fact 49 (f := .free "str") rfl), He.free_ok X G (cd.fact 50 (f := .free "repr") rfl), He.free_ok X G (cd.fact 51 (f := .free "divmod") rfl), He.free_ok X G (cd.fact 52 (f := .free "abs") rfl), He.free_ok X G (cd.fact 53 (f := .free "sorted") rfl), He.free_ok X G (cd.fact 54 (f := .free "set") rfl), He.free_ok X G (cd.fact 55 (f := .free "dict") rfl), He.free_ok X G (cd.fact 56 (f := .free "pow") rfl), He.free_ok X G (cd.fact 57 (f := .free "ValueError") rfl), He.free_ok X G (cd.fact 58 (f := .free "IndexError") rfl)⟩
  have b := FunD.bindsA (ps := ["_law_script"]) F_law55 fun _ _ _ _ _ _ us hl => match us, hl with | [_], _ => rfl
  refine ⟨fd_law55, fun s v => b s [v] rfl, fun base _ _ => ?_⟩
  have C_draw : Cal P w K mg base CX0 1 "_law_draw" ["_law_deal_here", "_law_many"] sp_draw := ⟨_, fd_draw, ok_draw F_draw B , g_draw, F_draw.kp, F_draw.bindsN fun _ _ _ _ _ _ us hl => match us, hl with | [_, _], _ => rfl⟩
  have C_deal : Cal P w K mg base CX0 1 "_law_deal" ["_law_script", "_law_base"] (sp_deal K) := ⟨_, fd_deal, ok_deal F_deal B , g_deal, F_deal.kp, F_deal.bindsN fun _ _ _ _ _ _ us hl => match us, hl with | [_, _], _ => rfl⟩
  have C_paces : Cal P w K mg base CX0 2 "_law_paces" ["_law_deal_here", "_law_many"] (sp_paces K) := ⟨_, fd_paces, ok_paces F_paces B C_draw, g_paces, F_paces.kp, F_paces.bindsN fun _ _ _ _ _ _ us hl => match us, hl with | [_, _], _ => rfl⟩
  have C_pair : Cal P w K mg base CX0 1 "_law_pair" ["_law_form", "_law_size", "_law_step", "_law_a", "_law_b"] (sp_pair K) := ⟨_, fd_pair, ok_pair F_pair B , g_pair, F_pair.kp, F_pair.bindsN fun _ _ _ _ _ _ us hl => match us, hl with | [_, _, _, _, _], _ => rfl⟩
  have C_plain : Cal P w K mg base CX0 2 "_law_plain" ["_law_deal_here", "_law_many", "_law_size"] (sp_plain K) := ⟨_, fd_plain, ok_plain F_plain B C_draw C_pair, g_plain, F_plain.kp, F_plain.bindsN fun _ _ _ _ _ _ us hl => match us, hl with | [_, _, _], _ => rfl⟩
  have C_side : Cal P w K mg base CX0 1 "_law_side" ["_law_one", "_law_other", "_law_wide", "_law_more"] (sp_side K) := ⟨_, fd_side, ok_side F_side B , g_side, F_side.kp, F_side.bindsN fun _ _ _ _ _ _ us hl => match us, hl with | [_, _, _, _], _ => rfl⟩
  have C_mixed : Cal P w K mg base CX0 2 "_law_mixed" ["_law_deal_here", "_law_many"] sp_mixed := ⟨_, fd_mixed, ok_mixed F_mixed B C_draw, g_mixed, F_mixed.kp, F_mixed.bindsN fun _ _ _ _ _ _ us hl => match us, hl with | [_, _], _ => rfl⟩
  have C_names_put : Cal P w K mg base CX0 1 "_law_names_put" ["_law_tables", "_law_size", "_law_names"] (sp_names K) := ⟨_, fd_names_put, ok_names_put F_names_put B , g_names_put, F_names_put.kp, F_names_put.bindsN fun _ _ _ _ _ _ us hl => match us, hl with | [_, _, _], _ => rfl⟩
  have C_good : Cal P w K mg base CX0 3 "_law_good" ["_law_deal_here", "_law_many", "_law_size"] (sp_good K) := ⟨_, fd_good, ok_good F_good B C_draw C_plain C_side C_names_put C_mixed, g_good, F_good.kp, F_good.bindsN fun _ _ _ _ _ _ us hl => match us, hl with | [_, _, _], _ => rfl⟩
  have C_any : Cal P w K mg base CX0 2 "_law_any" ["_law_deal_here", "_law_many", "_law_size"] (sp_any K) := ⟨_, fd_any, ok_any F_any B C_draw, g_any, F_any.kp, F_any.bindsN fun _ _ _ _ _ _ us hl => match us, hl with | [_, _, _], _ => rfl⟩
  have C_book : Cal P w K mg base CX0 4 "_law_book" ["_law_deal_here", "_law_many", "_law_size", "_law_form"] (sp_book K) := ⟨_, fd_book, ok_book F_book B C_paces C_any C_good C_draw, g_book, F_book.kp, F_book.bindsN fun _ _ _ _ _ _ us hl => match us, hl with | [_, _, _, _], _ => rfl⟩
  have C_table_number : Cal P w K mg base CX0 1 "table_number" ["u", "v"] (LSp K TB0 psp_table_number) := ⟨_, fd_table_number, ok_table_number F_table_number B , g_table_number, F_table_number.kp, F_table_number.bindsN fun _ _ _ _ _ _ us hl => match us, hl with | [_, _], _ => rfl⟩
  have C_pair_at : Cal P w K mg base CX0 2 "pair_at" ["book", "u", "v", "a", "b"] (LSp K TB0 psp_pair_at) := ⟨_, fd_pair_at, ok_pair_at F_pair_at B C_table_number, g_pair_at, F_pair_at.kp, F_pair_at.bindsN fun _ _ _ _ _ _ us hl => match us, hl with | [_, _, _, _, _], _ => rfl⟩
  have C_kinds_of : Cal P w K mg base CX0 1 "kinds_of" ["row"] (LSp K TB0 psp_kinds_of) := ⟨_, fd_kinds_of, ok_kinds_of F_kinds_of B , g_kinds_of, F_kinds_of.kp, F_kinds_of.bindsN fun _ _ _ _ _ _ us hl => match us, hl with | [_], _ => rfl⟩
  have C_burdens_of : Cal P w K mg base CX0 1 "burdens_of" ["row"] (LSp K TB0 psp_burdens_of) := ⟨_, fd_burdens_of, ok_burdens_of F_burdens_of B , g_burdens_of, F_burdens_of.kp, F_burdens_of.bindsN fun _ _ _ _ _ _ us hl => match us, hl with | [_], _ => rfl⟩
  have C_cdiv : Cal P w K mg base CX0 1 "common_divisor" ["one", "other"] (LSp K TB0 psp_cdiv) := ⟨_, fd_cdiv, ok_cdiv F_cdiv B , g_cdiv, F_cdiv.kp, F_cdiv.bindsN fun _ _ _ _ _ _ us hl => match us, hl with | [_, _], _ => rfl⟩
  have C_cmul : Cal P w K mg base CX0 2 "common_multiple" ["numbers"] (LSp K TB0 psp_cmul) := ⟨_, fd_cmul, ok_cmul F_cmul B C_cdiv, g_cmul, F_cmul.kp, F_cmul.bindsN fun _ _ _ _ _ _ us hl => match us, hl with | [_], _ => rfl⟩
  have C_moment_of : Cal P w K mg base CX0 2 "moment_of" ["upper", "lower"] (LSp K TB0 psp_moment_of) := ⟨_, fd_moment_of, ok_moment_of F_moment_of B C_cdiv, g_moment_of, F_moment_of.kp, F_moment_of.bindsN fun _ _ _ _ _ _ us hl => match us, hl with | [_, _], _ => rfl⟩
  have C_told_order : Cal P w K mg base CX0 3 "in_told_order" ["kinds", "meetings"] (LSp K TB0 psp_told_order) := ⟨_, fd_told_order, ok_told_order F_told_order B C_cmul C_moment_of, g_told_order, F_told_order.kp, F_told_order.bindsN fun _ _ _ _ _ _ us hl => match us, hl with | [_, _], _ => rfl⟩
  have C_is_done_by : Cal P w K mg base CX0 1 "is_done_by" ["moment", "beat"] (LSp K TB0 psp_is_done_by) := ⟨_, fd_is_done_by, ok_is_done_by F_is_done_by B , g_is_done_by, F_is_done_by.kp, F_is_done_by.bindsN fun _ _ _ _ _ _ us hl => match us, hl with | [_, _], _ => rfl⟩
  have CK_round_passings : CalK P w K mg base CX0 4 "round_passings" ["book", "kinds", "spots", "long"] 3 ["long"] (LSp K TB0 psp_round_passings) := ⟨_, fd_round_passings, ok_round_passings F_round_passings B C_told_order, g_round_passings, F_round_passings.kp, kb_of F_round_passings fun _ _ _ _ _ _ us ws h1 h2 => match us, ws, h1, h2 with | [_, _, _], [_], _, _ => rfl⟩
  have C_bbehind : Cal P w K mg base CX0 3 "borne_behind" ["book", "kinds", "met", "burdens"] (LSp K TB0 psp_bbehind) := ⟨_, fd_bbehind, ok_bbehind F_bbehind B C_pair_at, g_bbehind, F_bbehind.kp, F_bbehind.bindsN fun _ _ _ _ _ _ us hl => match us, hl with | [_, _, _, _], _ => rfl⟩
  have C_trail_of : Cal P w K mg base CX0 4 "trail_of" ["book", "kinds", "met", "burdens"] (LSp K TB0 psp_trail_of) := ⟨_, fd_trail_of, ok_trail_of F_trail_of B C_bbehind, g_trail_of, F_trail_of.kp, F_trail_of.bindsN fun _ _ _ _ _ _ us hl => match us, hl with | [_, _, _, _], _ => rfl⟩
  have C_bafter : Cal P w K mg base CX0 5 "borne_after" ["book", "kinds", "met", "burdens", "rounds"] (LSp K TB0 psp_bafter) := ⟨_, fd_bafter, ok_bafter F_bafter B C_trail_of, g_bafter, F_bafter.kp, F_bafter.bindsN fun _ _ _ _ _ _ us hl => match us, hl with | [_, _, _, _, _], _ => rfl⟩
  have CK_rburdens : CalK P w K mg base CX0 6 "round_burdens" ["book", "row", "spots", "long", "beat"] 3 ["long", "beat"] (LSp K TB0 psp_rburdens) := ⟨_, fd_rburdens, ok_rburdens F_rburdens B C_kinds_of CK_round_passings C_bafter C_burdens_of C_is_done_by C_bbehind, g_rburdens, F_rburdens.kp, kb_of F_rburdens fun _ _ _ _ _ _ us ws h1 h2 => match us, ws, h1, h2 with | [_, _, _], [_, _], _, _ => rfl⟩
  have C_told_round : Cal P w K mg base CX0 5 "told_round" ["book", "kinds"] (LSp K TB0 psp_told_round) := ⟨_, fd_told_round, ok_told_round F_told_round B CK_round_passings, g_told_round, F_told_round.kp, F_told_round.bindsN fun _ _ _ _ _ _ us hl => match us, hl with | [_, _], _ => rfl⟩
  have CK_rdone : CalK P w K mg base CX0 6 "rounds_done" ["book", "row", "rounds"] 2 ["rounds"] (LSp K TB0 psp_rdone) := ⟨_, fd_rdone, ok_rdone F_rdone B C_kinds_of C_bafter C_burdens_of C_told_round, g_rdone, F_rdone.kp, kb_of F_rdone fun _ _ _ _ _ _ us ws h1 h2 => match us, ws, h1, h2 with | [_, _], [_], _, _ => rfl⟩
  obtain ⟨ds_rdone, hv_rdone, hb_rdone⟩ := FunD.binds0 (ps := ["book", "row", "rounds"]) F_rdone 2 (by intro z; cases z) rfl fun D doc pm an cdv ct us ks h1 h2 => match us, ks, h1, h2 with | [_, _], [_], _, _ => ⟨_, _, _, _, _, _, rfl, rfl, rfl⟩
  have CD_rdone : CalD P w K mg base CX0 6 "rounds_done" ["book", "row", "rounds"] [.int 1] (LSp K TB0 psp_rdone) := ⟨_, fd_rdone, ds_rdone, ok_rdone F_rdone B C_kinds_of C_bafter C_burdens_of C_told_round, g_rdone, F_rdone.kp, hv_rdone, hb_rdone⟩
  have C_comes : Cal P w K mg base CX0 6 "comes_again" ["book", "row"] (LSp K TB0 psp_comes) := ⟨_, fd_comes, ok_comes F_comes B C_kinds_of C_trail_of C_burdens_of C_told_round, g_comes, F_comes.kp, F_comes.bindsN fun _ _ _ _ _ _ us hl => match us, hl with | [_, _], _ => rfl⟩
  have C_near_paces : Cal P w K mg base CX0 2 "_law_near_paces" ["_law_deal_here", "_law_many"] (LSp K TB0 psp_near_paces) := ⟨_, fd_near_paces, ok_near_paces F_near_paces B (C_draw.imp conv_draw), g_near_paces, F_near_paces.kp, F_near_paces.bindsN fun _ _ _ _ _ _ us hl => match us, hl with | [_, _], _ => rfl⟩
  have C_lnear : Cal P w K mg base CX0 1 "_law_near" ["_law_book_here"] (LSp K TB0 psp_lnear) := ⟨_, fd_lnear, ok_lnear F_lnear B , g_lnear, F_lnear.kp, F_lnear.bindsN fun _ _ _ _ _ _ us hl => match us, hl with | [_], _ => rfl⟩
  have C_ring_book : Cal P w K mg base CX0 5 "_law_ring_book" ["_law_deal_here", "_law_many", "_law_size", "_law_form"] (LSp K TB0 psp_ring_book) := ⟨_, fd_ring_book, ok_ring_book F_ring_book B (C_draw.imp conv_draw) (C_book.imp conv_book) C_near_paces, g_ring_book, F_ring_book.kp, F_ring_book.bindsN fun _ _ _ _ _ _ us hl => match us, hl with | [_, _, _, _], _ => rfl⟩
  have C_ring_row : Cal P w K mg base CX0 3 "_law_ring_row" ["_law_deal_here", "_law_book_here"] (LSp K TB0 psp_ring_row) := ⟨_, fd_ring_row, ok_ring_row F_ring_row B C_lnear (C_draw.imp conv_draw) (C_mixed.imp conv_mixed), g_ring_row, F_ring_row.kp, F_ring_row.bindsN fun _ _ _ _ _ _ us hl => match us, hl with | [_, _], _ => rfl⟩
  have C_lring : Cal P w K mg base CX0 2 "_law_ring" ["_law_deal_here", "_law_many"] (LSp K TB0 psp_lring) := ⟨_, fd_lring, ok_lring F_lring B (C_draw.imp conv_draw), g_lring, F_lring.kp, F_lring.bindsN fun _ _ _ _ _ _ us hl => match us, hl with | [_, _], _ => rfl⟩
  exact FnG.of (ok_law55 F_law55 B (C_deal.imp conv_deal) C_ring_book (C_draw.imp conv_draw) C_ring_row C_lring C_comes CK_rdone CD_rdone CK_rburdens)
end Wf
open PySem PySem.W PySem.Calls PyProof.Rows
theorem PySem.Challenge.cw_wherefrom_k55_whole_any_spots_of_a_round_holds : PySem.Challenge.rw_wherefrom_k55_whole_any_spots_of_a_round.Holds := by
  w_on; o_law
  refine HandSHeadRun.head_any (r := OpenLaw.row PySem.Challenge.rw_wherefrom_k55_whole_any_spots_of_a_round) (q := view (OpenLaw.row PySem.Challenge.rw_wherefrom_k55_whole_any_spots_of_a_round).prog [38]) (H := Wf.hk) (ob := Wf.obA) (M := 2400) (loose := Wf.looseL) (d := HandSHeadRun.topDef (OpenLaw.row PySem.Challenge.rw_wherefrom_k55_whole_any_spots_of_a_round).prog 38) (kwd := []) Wf.ob_eq
    (by kernel_rfl) (fun s => by kernel_rfl) Wf.run_eq (by kernel_rfl) (by kernel_rfl) (by kernel_rfl) (by rfl) (by first | assumption | decide +kernel) (by decide +kernel) ⟨rfl, rfl, rfl, rfl, rfl, by decide +kernel⟩ ?hw ?hc
  case hw => w_witness2
  case hc =>
    refine Wf.walkG (l := PySem.Challenge.rw_wherefrom_k55_whole_any_spots_of_a_round) (n := 63) (k := 7) (x := "_law_script") rfl (by decide) (by kernel_rfl) ⟨rfl, by decide, by decide⟩ ?F
    intro w mg fa h Y G hmg0
    obtain ⟨K, KX, c⟩ := Y
    have hmg : mg ("law" : PySem.Str) = some (.ref fa) := by
      have e : (HandSHeadRun.topDef (OpenLaw.row PySem.Challenge.rw_wherefrom_k55_whole_any_spots_of_a_round).prog 38).name = ("law" : PySem.Str) := by kernel_rfl
      rw [← e]
      exact hmg0
    obtain ⟨fd, hb, hF⟩ := Wf.facts (P := (PySem.Challenge.rw_wherefrom_k55_whole_any_spots_of_a_round).prog) (w := w) KX G hmg c
    exact ⟨K, fd, Pv.LSp K Pv.TB0 Pv.psp_law, KX, hb, fun H a ns hl hO hS => Pv.end_law (by omega) hO hS, hF⟩
