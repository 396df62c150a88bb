import PyProof.Rows.All
import Wide.All
import OpenK.AllK
import Wide.FinOn
import PyProof.ListRange
import HandS.ForMost
import HandS.RevTup
import HandS.Rev
import HandS.Wide
import HandS.Defaults
import HandS.Conv
import HandS.IsInst
import HandS.Style
import HandS.Steps
import HandS.TupAny
import HandS.TupMul
import HandS.Zip
import HandS.HeadEnd
import KE.GoesMore
import HandS.ExcInit
import HandS.ExcField
import HandS.ExcIs
import KE.KExcIs
import HandS.ExcOwn
import HandS.ClsMeth
import HandS.ForExc
import HandS.Nested
import HandS.Lambda
import HandS.EndTab
import KE.KIndexOf
import HandS.Deep
import HandS.More
import HandS.SortInts
import HandS.TupSets
import HandS.Head0
import HandS.Head1
import HandS.Head2
import HandS.HeadHook1
import HandS.HeadHook2
import HandS.HeadHook4
import HandS.SortKw
import PySem.Challenge.RW_wherefrom_k10_who_has_passed_whom
set_option Elab.async false
set_option linter.all false
set_option maxRecDepth 100000
set_option maxHeartbeats 0
/-! list(reversed(xs)), xs a list -/
namespace Wf
open PySem PySem.Spec PyProof.Rows L2
section
variable {prog : Program} {w : World} {A : Around} {E : Value → Shared → Prop} {s : Shared}
theorem initRev {R : Result → Shared → Prop} {it l S : Addr} {its : Array Value} (hh : A.handled = none) (hi : s.heap.IsRevIter it l ((its.size : Int) - 1)) (hl : s.heap.IsList l its) (hne : l ≠ it) (hn : its.size ≤ sizeLine)
    (hS : s.heap.get? S = some { cls := .type "list", data := .seq #[] }) (hSi : S ≠ it) (hSl : S ≠ l)
    (hR : ∀ (h' : Heap) (tk : Nat) (acc : Array Value) (c : Nat), (∀ b o, b ≠ S → b ≠ it → s.heap.get? b = some o → h'.get? b = some o) → h'.get? S = some { cls := .type "list", dict := none, data := .seq acc c, slots := #[] } →
      ItemsOf (fun i v => its[its.size - 1 - i]? = some v) acc its.size → R (.ok (.ret .none)) { s with heap := h', toks := tk }) :
    wpAny (model prog w) A.in1 (Builtin.«list.__init__» ⟨[.ref S, .ref it], []⟩)
      (fun fin s' => match fin with | .done f => R (.ok f) s' | .again c' => c'.quiet = true ∧ codeAny (model prog w) A c' R s') (fun e s' => R (.error e) s') s := by
  have W := (Walks.listRev (prog := prog) (w := w) (A := A.in1) hh it l hne its).toS
  have hSf : S ∉ [it, l] := by simp only [List.mem_cons, List.not_mem_nil, or_false, not_or]; exact ⟨hSi, hSl⟩
  have e0 : ((its.size : Nat) : Int) - 1 - ((0 : Nat) : Int) = (its.size : Int) - 1 := by omega
  show wpAny _ A.in1 (Builtin.List.listItems (.ref S) >>= fun old => Builtin.List.listUpdate (.ref S) (fun _ => #[]) >>= fun _ => letGo old.toList.reverse >>= fun _ => Builtin.List.listExtendWith (.ref S) (.ref it) .none) _ _ s
  refine wpAny_bind ?_
  unfold Builtin.List.listItems
  refine wpAny_bind (wpAny_seqItems hS rfl (wpAny_pure ?_))
  show wpAny _ A.in1 (updateSeq S (fun _ => #[]) >>= fun _ => letGo (#[] : Array Value).toList.reverse >>= fun _ => Builtin.List.listExtendWith (.ref S) (.ref it) .none) _ _ s
  refine wpAny_bind (wpAny_updateSeq hS rfl ?_)
  have hS2 := Heap.get?_update_self (Obj.mapSeq (fun _ => (#[] : Array Value))) hS rfl
  have oth : ∀ b o, b ≠ S → s.heap.get? b = some o → (s.heap.update S (Obj.mapSeq (fun _ => (#[] : Array Value)))).get? b = some o := fun b o hb e => (Heap.get?_update_other _ _ (Ne.symm hb)).trans e
  refine wpAny_bind (wpAny_letGo ?_)
  have hi2 : (s.heap.update S (Obj.mapSeq (fun _ => (#[] : Array Value)))).IsRevIter it l ((its.size : Int) - 1) := hi.at fun o e => oth it o (Ne.symm hSi) e
  have hl2 : (s.heap.update S (Obj.mapSeq (fun _ => (#[] : Array Value)))).IsList l its := by
    obtain ⟨o, e, r⟩ := hl
    exact ⟨o, oth l o (Ne.symm hSl) e, r⟩
  have hT : ({ s with heap := s.heap.update S (Obj.mapSeq (fun _ => (#[] : Array Value))) } : Shared).TypeIs (.ref it) "list_reverseiterator" := Heap.IsRevIter.typeIs (s := { s with heap := s.heap.update S (Obj.mapSeq (fun _ => (#[] : Array Value))) }) hi2
  have h1 : Builtin.List.listSameRef (.ref S) (.ref it) = false := by simp [Builtin.List.listSameRef, hSi]
  unfold Builtin.List.listExtendWith
  refine wpAny_bind (wpAny_typeOf hT ?_)
  rw [if_neg (by rw [h1]; decide)]
  refine wpAny_bind (wpAny_pyIter_revIter (s := { s with heap := s.heap.update S (Obj.mapSeq (fun _ => (#[] : Array Value))) }) hi2 ?_)
  refine wpAny_bind (wpAny_holding ?_)
  unfold Builtin.List.listLengthHint
  refine wpAny_bind (wpAny_specialOf hT RT.nolen_lri ?_)
  show wpAny _ A.in1 (specialOf (Value.ref it) (Str.ofString "__length_hint__") >>= _) _ _ _
  refine wpAny_bind (wpAny_specialOf hT RT.hint_lri ?_)
  generalize hid : ("list_reverseiterator.__length_hint__" : String) = id0
  wp_delta
  rw [show splitId id0 = some ("list_reverseiterator", "__length_hint__") from by subst hid; decide +kernel]
  subst hid
  refine wpAny_bind (wpAny_isInstance (b := true) hT (by rw [isSubtype_type]; kernel_rfl) ?_)
  refine wpAny_pure ?_
  rw [if_neg (by decide)]
  refine wpAny_pure ⟨plainId_quiet F.plain_extend_loop _, codeAny_extend_loopS W hn _ hSf _ its.size 0 _ _ _ rfl (Nat.zero_le _) ⟨Nat.zero_le _, by rw [e0]; exact hi2, hl2⟩ hS2 (ItemsOf.nil _) fun s' acc' c' hm hS' hacc => ?_⟩
  rw [Moved.eq_with hm]
  refine hR s'.heap s'.toks acc' c' (fun b o hb hbi e => hm.heap b o (fun hmem => ?_) (oth b o hb e)) hS' hacc
  rcases List.mem_cons.mp hmem with e' | hmem
  · exact hb e'
  · exact hbi (List.mem_singleton.mp hmem)
theorem callRev {it l : Addr} {its : Array Value} {Q : Value → Shared → Prop} (hh : A.handled = none) (hi : s.heap.IsRevIter it l ((its.size : Int) - 1)) (hl : s.heap.IsList l its) (hne : l ≠ it) (hn : its.size ≤ sizeLine)
    (hQ : ∀ (h' : Heap) (tk : Nat) (acc : Array Value) (c : Nat), (∀ b o, b ≠ it → s.heap.get? b = some o → h'.get? b = some o) → h'.get? s.heap.objs.size = some { cls := .type "list", dict := none, data := .seq acc c, slots := #[] } →
      ItemsOf (fun i v => its[its.size - 1 - i]? = some v) acc its.size → Q (.ref s.heap.objs.size) { s with heap := h', toks := tk }) :
    wpAny (model prog w) A (call (.type "list") [.ref it]) Q E s := by
  refine callType_codes (Q₁ := fun obj s₁ => obj = .ref s.heap.objs.size ∧ s₁ = { s with heap := s.heap.push { cls := .type "list", data := .seq #[] } }) F.called_list (F.typeCall_list_1 _) F.entry_list_init (code_list_new _ ⟨rfl, rfl⟩) fun obj s₁ h₁ => ?_
  obtain ⟨rfl, rfl⟩ := h₁
  obtain ⟨oi, hoi, _⟩ := id hi
  obtain ⟨ol, hol, _⟩ := id hl
  have hS : (s.heap.push { cls := .type "list", data := .seq #[] }).get? s.heap.objs.size = some { cls := .type "list", data := .seq #[] } := Heap.get?_push_size _ rfl
  refine ⟨⟨_, hS, rfl⟩, F.args_list_init_2 _ _, initRev (s := { s with heap := s.heap.push { cls := .type "list", data := .seq #[] } }) (A := A.in1) hh (hi.at fun o e => Heap.get?_push_of_some _ e) (hl.push _) hne hn hS (Nat.ne_of_gt (Heap.lt_size hoi)) (Nat.ne_of_gt (Heap.lt_size hol)) fun h' tk acc c hk hS' hacc => ?_⟩
  exact ⟨rfl, hQ h' tk acc c (fun b o hb e => hk b o (Nat.ne_of_lt (Heap.lt_size e)) hb (Heap.get?_push_of_some _ e)) hS' hacc⟩
end
/-- list(reversed(x)), x a list: a new list -/
def tLstRev (K : PySem.W.Frag) (te : TE) : TE := fun σ H Q => te σ H fun v H1 => ∃ (a : Addr) (xs : List V), v = .ref a ∧ SqL K H1 a xs ∧ ∀ q, H1 q = none → Q (.ref q) (upd H1 q (.lst xs.reverse))
section
variable {X : Cx}
theorem pe_lstRev {e : Expr} {te : TE} {p p2 pos pos2 : Pos} (hc : X.calm = true) (hg : Gl X "list") (hm : X.mg "list" = none) (hg2 : Gl X "reversed") (hm2 : X.mg "reversed" = none) (he : PE X e te)
    (hs : starEach [e] X.env = (false, eval e X.env) :: starEach [] X.env := by rfl)
    (hs2 : starEach [.Call (.Name "reversed" p2) [e] [] pos2] X.env = (false, eval (.Call (.Name "reversed" p2) [e] [] pos2) X.env) :: starEach [] X.env := by rfl) :
    PE X (.Call (.Name "list" p) [.Call (.Name "reversed" p2) [e] [] pos2] [] pos) (tLstRev X.K te) := by
  refine ⟨fun pins s σ H Q I h => ?_⟩
  refine Call_ (ld_blt I hg hm boot_list (PyProof.Rows.callWith_type1 (args_cons (Call_ (ld_blt I hg2 hm2 PyProof.Rows.boot_reversed (PyProof.Rows.callWith_type1 (args_cons (thn (he.run pins s σ H _ I h) fun u s1 ⟨v, H1, I1, r1, q1⟩ => args_nil ?_) hs) hs rfl))) hs2) hs2 rfl))
  obtain ⟨a, xs, ev, hq, q⟩ := q1
  subst ev
  obtain rfl : u = Value.ref a := r1
  obtain ⟨its, rv, p', hz⟩ := I1.list hq
  refine call_reversed_list p'.isList (args_nil ?_)
  have k0 : ∀ b o, s1.heap.get? b = some o → (s1.heap.push (revObj a ((its.toArray.size : Int) - 1))).get? b = some o := fun b o e => Heap.get?_push_of_some _ e
  have I2 : Inv X pins σ H1 { s1 with heap := s1.heap.push (revObj a ((its.toArray.size : Int) - 1)) } := I1.kept (t' := s1.toks) k0
  obtain ⟨f0, f1, f2, f3, f4, f5⟩ := I1.fpOk (H' := H1) (b := s1.heap.objs.size) (Nat.le_refl _) (I1.hok.fresh (Nat.le_refl _))
  have hl := p'.isList
  obtain ⟨ol, hol, _⟩ := id hl
  have hne : a ≠ s1.heap.objs.size := Nat.ne_of_lt (Heap.lt_size hol)
  have hn : its.toArray.size ≤ sizeLine := by rw [List.size_toArray, ← rv.length]; exact hz
  refine callRev (s := { s1 with heap := s1.heap.push (revObj a ((its.toArray.size : Int) - 1)) }) (I1.ok.hd hc) ⟨_, Heap.get?_push_size _ rfl, rfl, rfl⟩ (hl.push _) hne hn fun h' tk acc c hk hS hi => ?_
  have old : ∀ b o, s1.heap.get? b = some o → h'.get? b = some o := fun b o e => hk b o (Nat.ne_of_lt (Heap.lt_size e)) (k0 b o e)
  have sz : s1.heap.objs.size ≤ (s1.heap.push (revObj a ((its.toArray.size : Int) - 1))).objs.size := by rw [Heap.size_push]; exact Nat.le_succ _
  refine ⟨.ref _, _, I1.laid (t' := tk) old sz (show ObjOk X.prog X.w _ _ _ (.lst xs.reverse) from ⟨by rw [List.length_reverse]; exact hz, acc.toList, c, RT.vals_rev rv hi, ?_⟩), rfl, q _ (I1.hok.fresh sz)⟩
  rw [Array.toArray_toList]
  exact hS
end
end Wf

namespace Wf
open PySem PySem.Spec L2
/-! ### short words for the operators' readings -/
abbrev qAdd : R2 := rI0 fun i j => .int (i + j)
abbrev qSub : R2 := rI0 fun i j => .int (i - j)
abbrev qMul : R2 := rI CMul fun i j => .int (i * j)
abbrev qFdiv : R2 := rI CDiv fun i j => .int (i / j)
abbrev qFdivW : R2 := rI CDivW fun i j => .int (i / j)
abbrev qMod : R2 := rI (fun _ j => 0 < j) fun i j => .int (i % j)
abbrev qPow : R2 := rI CPow fun i j => .int (i ^ j.toNat)
abbrev qNeg : V → Hp → VK → Prop := rU fun i => .int (-i)
abbrev qLt : R2 := rI0 fun i j => .bl (decide (i < j))
abbrev qLe : R2 := rI0 fun i j => .bl (decide (i ≤ j))
abbrev qGt : R2 := rI0 fun i j => .bl (decide (j < i))
abbrev qGe : R2 := rI0 fun i j => .bl (decide (j ≤ i))
abbrev qMax2 : List V → Hp → VK → Prop := fun xs H Q => ∃ i j, xs = [.int i, .int j] ∧ Q (.int (if j > i then j else i)) H
abbrev qMin2 : List V → Hp → VK → Prop := fun xs H Q => ∃ i j, xs = [.int i, .int j] ∧ Q (.int (if j < i then j else i)) H
abbrev qLen (K : PySem.W.Frag) : List V → Hp → VK → Prop := fun xs H Q => ∃ x n, xs = [x] ∧ LenV K x H n ∧ Q (.int n) H
abbrev qInt1 : List V → Hp → VK → Prop := fun xs H Q => (∃ i, xs = [.int i] ∧ Q (.int i) H) ∨ ∃ k, xs = [.bl k] ∧ Q (.int (if k then 1 else 0)) H
abbrev qListOf (K : PySem.W.Frag) : List V → Hp → VK → Prop := fun xs H Q => ∃ p ys, xs = [.ref p] ∧ (SqL K H p ys ∨ SqT K H p ys) ∧ ∀ l, H l = none → Q (.ref l) (upd H l (.lst ys))
abbrev qTupleOf (K : PySem.W.Frag) : List V → Hp → VK → Prop := fun xs H Q => ∃ p ys, xs = [.ref p] ∧ ((SqL K H p ys ∧ ∀ l, H l = none → Q (.ref l) (upd H l (.tup ys))) ∨ (SqT K H p ys ∧ Q (.ref p) H))
abbrev qDivmod : List V → Hp → VK → Prop := fun xs H Q => ∃ i j, xs = [.int i, .int j] ∧ CDiv i j ∧ ∀ p, H p = none → Q (.ref p) (upd H p (.tup [.int (i / j), .int (i % j)]))
/-! ### a def of the module that is called by its name -/
structure Cal (P : Program) (w : World) (K : PySem.W.Frag) (mg : Str → Option Value) (base : Heap) (CX : CXT) (k : Nat) (x : Str) (ps : List Str) (sp : Sp) : Prop where
  ex : ∃ f fd, FnOk P w K mg base CX k f fd ps sp ∧ mg x = some (.ref f) ∧ PySem.W.keepIn K (.ref f) = true ∧ Binds K fd ps []
theorem pe_cal {X : Cx} {k j : Nat} {x : Str} {ps : List Str} {sp : Sp} {e : Expr} {es : List Expr} {t : TA} {p pos : Pos} (C : Cal X.prog X.w X.K X.mg X.base CX0 k x ps sp) (hr : Room j X.A) (hg : Gl X x) (ha : PA X (e :: es) t) (hk : k ≤ j := by decide)
    (hdb : (x == ("__debug__" : Str)) = false := by decide) (he : starEach (e :: es) X.env = (false, eval e X.env) :: starEach es X.env := by rfl) (hpl : (backTo pos (starEach es X.env)).any (·.1) = false := by rfl) :
    PE X (.Call (.Name x p) (e :: es) [] pos) (tCall sp [] E0 t) := by
  obtain ⟨f, fd, G, m, kp, b⟩ := C.ex
  exact pe_call G (hr.mono hk) hg m kp b .nil pass0 ha hdb he hpl
/-- the built-in names that the module leaves alone -/
structure Bl (mg : Str → Option Value) : Prop where
  b_len : mg "len" = none
  b_list : mg "list" = none
  b_tuple : mg "tuple" = none
  b_reversed : mg "reversed" = none
  b_range : mg "range" = none
  b_max : mg "max" = none
  b_min : mg "min" = none
  b_sum : mg "sum" = none
  b_all : mg "all" = none
  b_any : mg "any" = none
  b_zip : mg "zip" = none
  b_enumerate : mg "enumerate" = none
  b_isinstance : mg "isinstance" = none
  b_int : mg "int" = none
  b_bool : mg "bool" = none
  b_str : mg "str" = none
  b_repr : mg "repr" = none
  b_divmod : mg "divmod" = none
  b_abs : mg "abs" = none
  b_sorted : mg "sorted" = none
  b_set : mg "set" = none
  b_dict : mg "dict" = none
  b_pow : mg "pow" = none
  b_ValueError : mg "ValueError" = none
  b_IndexError : mg "IndexError" = none
/-! ### heaps: all but some addresses as before -/
def But (ds : List Addr) (H H' : Hp) : Prop := ∀ a o, a ∉ ds → H a = some o → H' a = some o
theorem But.refl (ds : List Addr) (H : Hp) : But ds H H := fun _ _ _ h => h
theorem But.trans {ds : List Addr} {H H1 H2 : Hp} (a : But ds H H1) (b : But ds H1 H2) : But ds H H2 := fun c o n h => b c o n (a c o n h)
/-! ### the deal: a dict of three numbers and a list of great ones -/
def dealK (s m n : Int) (l : Addr) : List (Key × V) := [(Sum.inr "seed", .int s), (Sum.inr "many", .int m), (Sum.inr "now", .int n), (Sum.inr "left", .ref l)]
structure Deal (H : Hp) (d l : Addr) : Prop where
  ex : ∃ (s m n : Int) (ns : List Int), H d = some (.dK (dealK s m n l)) ∧ H l = some (.lst (ns.map V.int)) ∧ 0 ≤ n ∧ ∀ x ∈ ns, 0 ≤ x
theorem key_ne {x y : Str} (h : (x == y) = false) : ¬ (Sum.inr x : Key) = Sum.inr y := fun e => by
  have := Sum.inr.inj e
  rw [this, beq_self_eq_true] at h
  cases h
theorem dk_seed {s m n : Int} {l : Addr} : valV (dealK s m n l) (Sum.inr "seed") = some (.int s) := valV_pos rfl
theorem dk_many {s m n : Int} {l : Addr} : valV (dealK s m n l) (Sum.inr "many") = some (.int m) := (valV_neg (key_ne (by decide +kernel))).trans (valV_pos rfl)
theorem dk_now {s m n : Int} {l : Addr} : valV (dealK s m n l) (Sum.inr "now") = some (.int n) :=
  (valV_neg (key_ne (by decide +kernel))).trans ((valV_neg (key_ne (by decide +kernel))).trans (valV_pos rfl))
theorem dk_left {s m n : Int} {l : Addr} : valV (dealK s m n l) (Sum.inr "left") = some (.ref l) :=
  (valV_neg (key_ne (by decide +kernel))).trans ((valV_neg (key_ne (by decide +kernel))).trans ((valV_neg (key_ne (by decide +kernel))).trans (valV_pos rfl)))
theorem dk_putNow {s m n k : Int} {l : Addr} : putK (dealK s m n l) (Sum.inr "now") (.int k) = dealK s m k l := by
  unfold putK
  rw [valV_any, dk_now, if_pos (show (some (V.int n)).isSome = true from rfl)]
  show [_, _, _, _] = _
  dsimp only
  rw [if_neg (key_ne (by decide +kernel)), if_neg (key_ne (by decide +kernel)), if_pos rfl, if_neg (key_ne (by decide +kernel))]
  rfl
theorem dk_putMany {s m n k : Int} {l : Addr} : putK (dealK s m n l) (Sum.inr "many") (.int k) = dealK s k n l := by
  unfold putK
  rw [valV_any, dk_many, if_pos (show (some (V.int m)).isSome = true from rfl)]
  show [_, _, _, _] = _
  dsimp only
  rw [if_neg (key_ne (by decide +kernel)), if_pos rfl, if_neg (key_ne (by decide +kernel)), if_neg (key_ne (by decide +kernel))]
  rfl
/-- d["x"], d in a slot -/
theorem rd_dk {σ : St} {H : Hp} {Q : VK} {i : Nat} {d : Addr} {kvs : List (Key × V)} {x : Str} {v : V} (h : H d = some (.dK kvs)) (hi : σ[i]? = some (some (.ref d))) (hv : valV kvs (Sum.inr x) = some v) (q : Q v H) : tDGet (tVar i) (tC (.str x)) σ H Q :=
  ⟨.ref d, hi, d, v, rfl, by rw [← hv]; exact DGet.k (k := Sum.inr x) h, q⟩
/-- d["x"] = e, the reading of e done before -/
theorem wr_dk {σ : St} {H : Hp} {D : Ends} {i : Nat} {d : Addr} {kvs kvs' : List (Key × V)} {x : Str} {v : V} (h : H d = some (.dK kvs)) (hi : σ[i]? = some (some (.ref d))) (hl : kvs.length < sizeLine) (hp : putK kvs (Sum.inr x) v = kvs') (q : D.nx σ (upd H d (.dK kvs'))) :
    tVar i σ H fun y H2 => tC (.str x) σ H2 fun z H3 => ∃ a H4, y = .ref a ∧ DPut H3 a z v H4 ∧ D.nx σ H4 :=
  ⟨.ref d, hi, d, upd H d (.dK kvs'), rfl, by rw [← hp]; exact DPut.k (k := Sum.inr x) h hl, q⟩
/-- the slots at the entry of a def of n names -/
def sN (n : Nat) (vs : List V) : St := vs.map some ++ List.replicate (n - vs.length) none
abbrev EndsQ (Q : VK) : Ends := { nx := fun _ H' => Q .non H', rt := Q }
abbrev FnP (K : PySem.W.Frag) (x : Str) (st : Stmt) (f : Addr) (fd : FuncData) : Prop := FunD K x x (defArgs st) (defBody st) (defScope st) [] [] f fd
/-! ### _law_draw -/
/-- a draw by n: some number from 0 on below n; the deal goes on, all else stands -/
def sp_draw : Sp := fun vs H Q _ => ∃ (d l : Addr) (n : Int), vs = [.ref d, .int n] ∧ 0 < n ∧ n < 2 ^ 200 ∧ Deal H d l ∧
  ∀ (k : Int) (H' : Hp), 0 ≤ k → k < n → But [d, l] H H' → Deal H' d l → Q (.int k) H'
def t_draw (K : PySem.W.Frag) : TS :=
  tSeq (tWhile (tAnd (tTest (tOp rEq (tDGet (tVar 0) (tC (.str "now"))) (tC (.int 0)))) (tTest (tOp qGt (tCB (qLen K) (tCons (tDGet (tVar 0) (tC (.str "left"))) (tNil))) (tC (.int 0))))) (sDPut (tVar 0) (tC (.str "now")) (tBM0 K "list" rPop (tDGet (tVar 0) (tC (.str "left"))))))
    (tSeq (tIfS (tTest (tOp qGt (tDGet (tVar 0) (tC (.str "now"))) (tC (.int 0)))) (tSeq (tAsg (tOp qMod (tDGet (tVar 0) (tC (.str "now"))) (tVar 1)) (gName 4))
    (tSeq (sDPut (tVar 0) (tC (.str "now")) (tOp qFdivW (tDGet (tVar 0) (tC (.str "now"))) (tVar 1)))
    (tRet (tVar 4)))) (tNext))
    (tSeq (sDPut (tVar 0) (tC (.str "many")) (tOp qAdd (tDGet (tVar 0) (tC (.str "many"))) (tC (.int 1))))
    (tSeq (tAsg (tOp qMod (tOp qMul (tOp qAdd (tDGet (tVar 0) (tC (.str "seed"))) (tOp qMul (tC (.int 40692)) (tDGet (tVar 0) (tC (.str "many"))))) (tC (.int 48271))) (tC (.int 2147483629))) (gName 2))
    (tSeq (tAsg (tOp qMod (tOp qAdd (tOp qAdd (tOp qMul (tVar 2) (tVar 2)) (tOp qMul (tC (.int 7919)) (tDGet (tVar 0) (tC (.str "many"))))) (tDGet (tVar 0) (tC (.str "seed")))) (tC (.int 2147483563))) (gName 3))
    (tRet (tOp qMod (tOp qFdiv (tOp qAdd (tOp qMul (tOp qMod (tOp qMul (tVar 3) (tVar 3)) (tC (.int 2147483647))) (tC (.int 30103))) (tVar 2)) (tC (.int 4096))) (tVar 1)))))))
theorem ifd {p A B : Prop} [Decidable p] (h1 : p → A) (h2 : ¬ p → B) : if decide p = true then A else B := by
  by_cases c : p
  · rw [if_pos (decide_eq_true c)]
    exact h1 c
  · rw [if_neg (by simpa using c)]
    exact h2 c
theorem mp {j : Int} (h : decide (0 < j) = true) : 0 < j := of_decide_eq_true h
theorem cm_mod {a b j : Int} (h : decide (0 < b) = true) (h2 : decide (b ≤ 2 ^ 64) = true) : CMul (a % b) j := by
  have h1 := of_decide_eq_true h
  have h2 := of_decide_eq_true h2
  have h3 := Int.emod_nonneg a (show b ≠ 0 by omega)
  have h4 := Int.emod_lt_of_pos a h1
  exact .inl ⟨by omega, by omega⟩
theorem len4 {s m n : Int} {l : Addr} : (dealK s m n l).length < sizeLine := by show 4 < sizeLine; decide
theorem mod_lt {a b : Int} (h : 0 < b) : 0 ≤ a % b ∧ a % b < b := ⟨Int.emod_nonneg _ (by omega), Int.emod_lt_of_pos _ h⟩
theorem pure_draw {K : PySem.W.Frag} (vs : List V) (H : Hp) (Q : VK) (E : XK) (h : sp_draw vs H Q E) : t_draw K (EndsQ Q) (sN 5 vs) H := by
  obtain ⟨d, l, n, rfl, hn, hn2, hD, k⟩ := h
  show t_draw K _ [some (.ref d), some (.int n), none, none, none] H
  -- the loop: the deal stands, all else too
  refine ⟨fun m σ H1 => σ = [some (.ref d), some (.int n), none, none, none] ∧ But [d, l] H H1 ∧ ∃ (s t n1 : Int) (ns : List Int), H1 d = some (.dK (dealK s t n1 l)) ∧ H1 l = some (.lst (ns.map V.int)) ∧ 0 ≤ n1 ∧ (∀ x ∈ ns, 0 ≤ x) ∧ m = ns.length, ?_, ?_⟩
  · obtain ⟨s, t, n1, ns, h1, h2, h3, h4⟩ := hD.ex
    exact ⟨_, rfl, .refl _ _, s, t, n1, ns, h1, h2, h3, h4, rfl⟩
  rintro m σ H1 ⟨rfl, hB, s, t, n1, ns, h1, h2, h3, h4, rfl⟩
  have hne : d ≠ l := ne_of h1 h2 (by intro z; cases z)
  refine rd_dk h1 rfl dk_now ⟨rfl, _, rfl, ?_⟩
  have after : ∀ ns : List Int, H1 l = some (.lst (ns.map V.int)) → (∀ x ∈ ns, 0 ≤ x) → tSeq (tIfS (tTest (tOp qGt (tDGet (tVar 0) (tC (.str "now"))) (tC (.int 0)))) (tSeq (tAsg (tOp qMod (tDGet (tVar 0) (tC (.str "now"))) (tVar 1)) (gName 4))
    (tSeq (sDPut (tVar 0) (tC (.str "now")) (tOp qFdivW (tDGet (tVar 0) (tC (.str "now"))) (tVar 1)))
    (tRet (tVar 4)))) (tNext))
    (tSeq (sDPut (tVar 0) (tC (.str "many")) (tOp qAdd (tDGet (tVar 0) (tC (.str "many"))) (tC (.int 1))))
    (tSeq (tAsg (tOp qMod (tOp qMul (tOp qAdd (tDGet (tVar 0) (tC (.str "seed"))) (tOp qMul (tC (.int 40692)) (tDGet (tVar 0) (tC (.str "many"))))) (tC (.int 48271))) (tC (.int 2147483629))) (gName 2))
    (tSeq (tAsg (tOp qMod (tOp qAdd (tOp qAdd (tOp qMul (tVar 2) (tVar 2)) (tOp qMul (tC (.int 7919)) (tDGet (tVar 0) (tC (.str "many"))))) (tDGet (tVar 0) (tC (.str "seed")))) (tC (.int 2147483563))) (gName 3))
    (tRet (tOp qMod (tOp qFdiv (tOp qAdd (tOp qMul (tOp qMod (tOp qMul (tVar 3) (tVar 3)) (tC (.int 2147483647))) (tC (.int 30103))) (tVar 2)) (tC (.int 4096))) (tVar 1))))))
      { nx := fun _ H' => Q .non H', rt := Q } [some (.ref d), some (.int n), none, none, none] H1 := by
    intro ns h2 h4
    refine rd_dk h1 rfl dk_now ⟨_, _, rfl, rfl, _, rfl, ?_⟩
    refine ifd (fun c => ?_) (fun c => ?_)
    · refine rd_dk h1 rfl dk_now ⟨_, rfl, _, _, rfl, rfl, hn, ?_⟩
      refine rd_dk h1 rfl dk_now ⟨_, rfl, _, _, rfl, rfl, wide_div hn (b := 200) (by omega) (by decide) (by decide), ?_⟩
      refine wr_dk h1 rfl len4 dk_putNow ⟨_, rfl, ?_⟩
      obtain ⟨m1, m2⟩ := mod_lt (a := n1) hn
      refine k _ _ m1 m2 (hB.trans fun a o ha e => ?_) ⟨s, t, n1 / n, ns, upd_same, ?_, Int.ediv_nonneg h3 (by omega), h4⟩
      · rw [upd_ne (by intro z; subst z; exact ha List.mem_cons_self)]
        exact e
      · rw [upd_ne (Ne.symm hne)]
        exact h2
    · refine rd_dk h1 rfl dk_many ⟨_, _, rfl, rfl, ?_⟩
      refine wr_dk h1 rfl len4 dk_putMany ?_
      refine rd_dk upd_same rfl dk_seed ?_
      refine rd_dk upd_same rfl dk_many ⟨_, _, rfl, rfl, .inl ⟨by decide, by decide⟩, _, _, rfl, rfl, _, _, rfl, rfl, .inr ⟨by decide, by decide⟩, _, _, rfl, rfl, mp rfl, ?_⟩
      refine ⟨_, rfl, _, rfl, _, _, rfl, rfl, cm_mod rfl rfl, ?_⟩
      refine rd_dk upd_same rfl dk_many ⟨_, _, rfl, rfl, .inl ⟨by decide, by decide⟩, _, _, rfl, rfl, ?_⟩
      refine rd_dk upd_same rfl dk_seed ⟨_, _, rfl, rfl, _, _, rfl, rfl, mp rfl, ?_⟩
      refine ⟨_, rfl, _, rfl, _, _, rfl, rfl, cm_mod rfl rfl, _, _, rfl, rfl, mp rfl, _, _, rfl, rfl, cm_mod rfl rfl, _, rfl, _, _, rfl, rfl, _, _, rfl, rfl, ⟨by decide, by decide⟩, _, rfl, _, _, rfl, rfl, hn, ?_⟩
      refine k _ _ (mod_lt hn).1 (mod_lt hn).2 (hB.trans fun a o ha e => ?_) ⟨s, t + 1, n1, ns, upd_same, ?_, h3, h4⟩
      · rw [upd_ne (by intro z; subst z; exact ha List.mem_cons_self)]
        exact e
      · rw [upd_ne (Ne.symm hne)]
        exact h2
  refine ifd (fun c => ?_) (fun c => ?_)
  · refine rd_dk h1 rfl dk_left ⟨_, (ns.map V.int).length, rfl, .inl ⟨_, SqL.of h2, rfl⟩, _, _, rfl, rfl, _, rfl, ?_⟩
    refine ifd (fun c2 => ?_) (fun c2 => ?_)
    · refine ⟨fun σ' H' => ∃ m', m' < ns.length ∧ _, fun _ _ h => h, ?_⟩
      have hpos : ns ≠ [] := by
        rintro rfl
        exact absurd c2 (by decide)
      refine rd_dk h1 rfl dk_left ⟨.inl ⟨rfl, _, SqL.of h2⟩, l, ns.map V.int, .int (ns.getLast hpos), rfl, rfl, h2, ?_, ?_⟩
      · rw [List.getElem?_map, List.length_map, ← List.getLast?_eq_getElem?, List.getLast?_eq_some_getLast hpos] <;> rfl
      · refine wr_dk (by rw [upd_ne hne]; exact h1) rfl len4 dk_putNow ⟨ns.length - 1, ?_, rfl, ?_, s, t, ns.getLast hpos, ns.dropLast, upd_same, ?_, h4 _ (List.getLast_mem hpos), fun x hx => h4 x ((List.dropLast_sublist ns).subset hx), by rw [List.length_dropLast]⟩
        · have := List.length_pos_iff.mpr hpos
          omega
        · intro a o ha e
          have h1' := hB a o ha e
          rw [upd_ne (by intro z; subst z; exact ha List.mem_cons_self), upd_ne (by intro z; subst z; exact ha (by simp))]
          exact h1'
        · rw [upd_ne (Ne.symm hne), upd_same, List.map_dropLast]
    · exact after ns h2 h4
  · exact after ns h2 h4
end Wf

/-! list(zip(t, u)), t and u tuples -/
namespace Wf
open PySem PySem.Spec
section
variable {prog : Program} {w : World} {A : Around} {E : Value → Shared → Prop} {s : Shared}
/-- a zip that has handed out a tuple which lives: field 0 tells where -/
abbrev zObj (x0 : Value) (b : Bool) (TI TO : Addr) : Obj := { cls := .type "zip", data := .fields #[x0, .bool b, .bool false, .ref TI, .ref TO] }
theorem alive {a : Addr} {Q : Option Obj → Shared → Prop} (h : Q (s.heap.get? a) s) : wpAny (model prog w) A (loadIfAlive a) Q E s := fun Γ p _ => by
  show Sem.wp _ _ (.loadIfAlive a .pure) _ _ _ _
  rw [Sem.wp_loadIfAlive]
  exact h
/-- the look at the owned tuple: it is not free -/
theorem notFree {z a TI TO : Addr} {b : Bool} {oa : Obj} {Q : Bool → Shared → Prop} (hz : s.heap.get? z = some (zObj (rawInt a) b TI TO)) (ha : s.heap.get? a = some oa)
    (h : ∀ h', h'.get? z = some (zObj (rawInt a) true TI TO) → Heap.SameBut z s.heap h' → Q false { s with heap := h' }) : wpAny (model prog w) A (Builtin.SmallTypes.ownedTupleIsFree (.ref z)) Q E s := by
  unfold Builtin.SmallTypes.ownedTupleIsFree
  refine wpAny_bind (wpAny_field hz rfl (x := rawInt a) rfl ?_)
  show wpAny _ _ (loadIfAlive ((a : Int).toNat) >>= _) _ _ _
  rw [Int.toNat_natCast]
  refine wpAny_bind (alive ?_)
  rw [ha]
  show wpAny _ _ (field (.ref z) 1 >>= _) _ _ _
  refine wpAny_bind (wpAny_field hz rfl (x := .bool b) rfl ?_)
  cases b with
  | true =>
    show wpAny _ _ (pure false) _ _ _
    exact wpAny_pure (h s.heap hz (Heap.SameBut.refl _ _))
  | false =>
    show wpAny _ _ (setField (.ref z) 1 (.bool true) >>= fun _ => pure false) _ _ _
    exact wpAny_bind (wpAny_setField_rec hz (by simp) fun h1 hz1 hs1 => wpAny_pure (h h1 hz1 hs1))
/-- the next pair of a zip whose tuple is out -/
theorem nextOut {z TI TO i1 i2 l1 l2 a : Addr} {k : Nat} {b : Bool} {oa : Obj} {xs ys : Array Value} {x y : Value} {Q : Option Value → Shared → Prop} (D : ZipApart z TI TO i1 i2 l1 l2)
    (hz : s.heap.get? z = some (zObj (rawInt a) b TI TO)) (ha : s.heap.get? a = some oa) (hTI : IsPair s.heap TI (.ref i1) (.ref i2))
    (h1 : s.heap.IsTupleIter i1 l1 k) (h2 : s.heap.IsTupleIter i2 l2 k) (hl1 : s.heap.IsTuple l1 xs) (hl2 : s.heap.IsTuple l2 ys) (hx : xs[k]? = some x) (hy : ys[k]? = some y)
    (hQ : ∀ h', h'.get? z = some (zObj (rawInt a) true TI TO) → h'.IsTupleIter i1 l1 (k + 1) → h'.IsTupleIter i2 l2 (k + 1) → IsPair h' s.heap.objs.size x y → h'.objs.size = s.heap.objs.size + 1 →
      (∀ c o, c ≠ z → c ≠ i1 → c ≠ i2 → s.heap.get? c = some o → h'.get? c = some o) → Q (some (.ref s.heap.objs.size)) { s with heap := h' }) : wpAny (model prog w) A (pyNext (.ref z)) Q E s := by
  have hT : s.TypeIs (.ref z) "zip" := ⟨_, hz, rfl⟩
  unfold pyNext
  refine wpAny_bind (wpAny_attempt (wpAny_callSpecial?_slot (name := Str.ofString "__next__") hT F.slot_zip_next (wpAny_call_entry F.slot_zip_next hT F.entry_zip_next ?_ (F.args_zip_next_1 _))))
  show wpAny _ _ (field (.ref z) 2 >>= _) _ _ _
  refine wpAny_bind (wpAny_field hz rfl (x := .bool false) rfl ?_)
  show wpAny _ _ (field (.ref z) 3 >>= _) _ _ _
  refine wpAny_bind (wpAny_field hz rfl (x := .ref TI) rfl ?_)
  refine wpAny_bind (wpAny_seqItems hTI rfl ?_)
  show wpAny _ _ (Builtin.SmallTypes.ownedTupleIsFree (.ref z) >>= _) _ _ _
  refine wpAny_bind (notFree hz ha fun g hg sg => ?_)
  simp only [Bool.false_eq_true, if_false]
  refine wpAny_bind ?_
  rw [← Array.forIn_toList]
  simp only [List.forIn_cons, List.forIn_nil]
  refine wpAny_bind (wpAny_bind (wpAny_holding ?_))
  show wpAny _ _ (Builtin.SmallTypes.nextOf (.ref i1) >>= _) _ _ _
  refine wpAny_bind (RZ.nextOf_tuple_item (h1.extBut sg.extBut D.i1z) (hl1.extBut sg.extBut D.l1z) hx fun g2 j1 sg2 => wpAny_pure ?_)
  refine wpAny_pure ?_
  refine wpAny_bind (wpAny_bind (wpAny_holding ?_))
  show wpAny _ _ (Builtin.SmallTypes.nextOf (.ref i2) >>= _) _ _ _
  refine wpAny_bind (RZ.nextOf_tuple_item ((h2.extBut sg.extBut D.i2z).extBut sg2.extBut D.i12.symm) ((hl2.extBut sg.extBut D.l2z).extBut sg2.extBut D.l2i1) hy fun g3 j2 sg3 => wpAny_pure ?_)
  refine wpAny_pure ?_
  refine wpAny_pure ?_
  show wpAny _ _ (newTuple [x, y] >>= fun v => ret v) _ _ _
  refine wpAny_bind (wpAny_newTuple ?_ (by show 2 ≤ sizeLine; decide))
  refine wpAny_pure ⟨_, rfl, wpAny_pure ?_⟩
  have z3 : g3.objs.size = s.heap.objs.size := by rw [sg3.1, sg2.1, sg.1]
  have up : ∀ c o, c ≠ z → c ≠ i1 → c ≠ i2 → s.heap.get? c = some o → g3.get? c = some o := fun c o n0 n1 n2 e => sg3.extBut _ _ n2 (sg2.extBut _ _ n1 (sg.extBut _ _ n0 e))
  show Q (some (.ref g3.objs.size)) { s with heap := g3.push { cls := .type "tuple", data := .seq #[x, y] } }
  have gg : IsPair (g3.push { cls := .type "tuple", data := .seq #[x, y] }) g3.objs.size x y := Heap.get?_push_size _ rfl
  rw [z3] at gg ⊢
  refine hQ _ (Heap.get?_push_of_some _ (sg3.extBut _ _ D.i2z.symm (sg2.extBut _ _ D.i1z.symm hg))) ((j1.extBut sg3.extBut D.i12).at fun o e => Heap.get?_push_of_some _ e) (j2.at fun o e => Heap.get?_push_of_some _ e) gg (by rw [Heap.size_push, z3]) fun c o n0 n1 n2 e => Heap.get?_push_of_some _ (up c o n0 n1 n2 e)
/-- such a zip at its end -/
theorem endOut {z TI TO i1 i2 l1 l2 a : Addr} {k : Nat} {b : Bool} {oa : Obj} {xs ys : Array Value} {Q : Option Value → Shared → Prop} (hh : A.handled = none) (D : ZipApart z TI TO i1 i2 l1 l2)
    (hz : s.heap.get? z = some (zObj (rawInt a) b TI TO)) (ha : s.heap.get? a = some oa) (hTI : IsPair s.heap TI (.ref i1) (.ref i2))
    (h1 : s.heap.IsTupleIter i1 l1 k) (h2 : s.heap.IsTupleIter i2 l2 k) (hl1 : s.heap.IsTuple l1 xs) (hl2 : s.heap.IsTuple l2 ys) (hx : xs[k]? = none)
    (hQ : ∀ h', (∀ c o, c ≠ z → c ≠ i1 → c ≠ i2 → s.heap.get? c = some o → h'.get? c = some o) → Q none { s with heap := h' }) : wpAny (model prog w) A (pyNext (.ref z)) Q E s := by
  have hT : s.TypeIs (.ref z) "zip" := ⟨_, hz, rfl⟩
  unfold pyNext
  refine wpAny_bind (wpAny_attempt (wpAny_callSpecial?_slot (name := Str.ofString "__next__") hT F.slot_zip_next (wpAny_call_entry F.slot_zip_next hT F.entry_zip_next ?_ (F.args_zip_next_1 _))))
  show wpAny _ _ (field (.ref z) 2 >>= _) _ _ _
  refine wpAny_bind (wpAny_field hz rfl (x := .bool false) rfl ?_)
  show wpAny _ _ (field (.ref z) 3 >>= _) _ _ _
  refine wpAny_bind (wpAny_field hz rfl (x := .ref TI) rfl ?_)
  refine wpAny_bind (wpAny_seqItems hTI rfl ?_)
  show wpAny _ _ (Builtin.SmallTypes.ownedTupleIsFree (.ref z) >>= _) _ _ _
  refine wpAny_bind (notFree hz ha fun g hg sg => ?_)
  simp only [Bool.false_eq_true, if_false]
  refine wpAny_bind ?_
  rw [← Array.forIn_toList]
  simp only [List.forIn_cons, List.forIn_nil]
  refine wpAny_bind (wpAny_bind (wpAny_holding ?_))
  show wpAny _ _ (Builtin.SmallTypes.nextOf (.ref i1) >>= _) _ _ _
  refine wpAny_bind (RZ.nextOf_tuple_end hh (h1.extBut sg.extBut D.i1z) (hl1.extBut sg.extBut D.l1z) hx fun g2 e sg2 he => ?_)
  obtain ⟨o, ho, hc⟩ := he
  refine wpAny_bind (wpAny_isInstance (T := "StopIteration") (b := true) ⟨o, ho, hc⟩ isSubtype_stop ?_)
  exact wpAny_pure (hQ g2 fun c o n0 n1 _ e => sg2 _ _ n1 (sg.extBut _ _ n0 e))
theorem nolen_zip : typeLookup (.type "zip") "__len__" = pure none := by rw [typeLookup_type, builtinLookup_eq_fast]; kernel_rfl
theorem nohint_zip : typeLookup (.type "zip") "__length_hint__" = pure none := by rw [typeLookup_type, builtinLookup_eq_fast]; kernel_rfl
/-- where the walk of a zip of two tuples stands -/
structure ZAt (h : Heap) (z TI TO i1 i2 l1 l2 S n0 : Addr) (xs ys : Array Value) (i : Nat) : Prop where
  own : (i = 0 ∧ IsZip h z TI TO .none ∧ ∃ a b, IsPair h TO a b) ∨ (0 < i ∧ ∃ b, h.get? z = some (zObj (rawInt n0) b TI TO))
  ti : IsPair h TI (.ref i1) (.ref i2)
  it1 : h.IsTupleIter i1 l1 i
  it2 : h.IsTupleIter i2 l2 i
  t1 : h.IsTuple l1 xs
  t2 : h.IsTuple l2 ys
  lst : ∃ acc c, h.get? S = some { cls := .type "list", dict := none, data := .seq acc c, slots := #[] } ∧ acc.toList = (List.range i).map fun j => Value.ref (n0 + j)
  sz : h.objs.size = n0 + i
  made : ∀ j, j < i → ∃ x y, xs[j]? = some x ∧ ys[j]? = some y ∧ IsPair h (n0 + j) x y
theorem loopZip {R : Result → Shared → Prop} {z TI TO i1 i2 l1 l2 S n0 : Addr} {xs ys : Array Value} {res : Value} (hh : A.handled = none) (D : ZipApart z TI TO i1 i2 l1 l2) (hn : xs.size = ys.size) (hl : xs.size ≤ sizeLine)
    (hS : S ≠ z ∧ S ≠ TO ∧ S ≠ i1 ∧ S ≠ i2 ∧ S ≠ TI ∧ S ≠ l1 ∧ S ≠ l2 ∧ S < n0) (hb : z < n0 ∧ TO < n0 ∧ i1 < n0 ∧ i2 < n0) :
    ∀ (k i : Nat) (s : Shared), xs.size - i = k → i ≤ xs.size → ZAt s.heap z TI TO i1 i2 l1 l2 S n0 xs ys i →
      (∀ h' tk, (∀ c o, c ≠ z → c ≠ TO → c ≠ i1 → c ≠ i2 → c ≠ S → s.heap.get? c = some o → h'.get? c = some o) →
        (∃ acc c, h'.get? S = some { cls := .type "list", dict := none, data := .seq acc c, slots := #[] } ∧ acc.toList = (List.range xs.size).map fun j => Value.ref (n0 + j)) →
        (∀ j, j < xs.size → ∃ x y, xs[j]? = some x ∧ ys[j]? = some y ∧ IsPair h' (n0 + j) x y) → R (.ok (.ret res)) { s with heap := h', toks := tk }) →
      codeAny (model prog w) A (.builtin "list.extend.loop" ⟨[.ref S, .ref z, res], []⟩) R s := by
  obtain ⟨s1, s2, s3, s4, s5, s6, s7, s8⟩ := hS
  obtain ⟨b1, b2, b3, b4⟩ := hb
  have far : ∀ {c : Addr} {j : Nat}, c < n0 → n0 + j ≠ c := fun h => Nat.ne_of_gt (Nat.lt_of_lt_of_le h (Nat.le_add_right _ _))
  intro k
  induction k with
  | zero =>
    intro i s hk hi Z hR
    have hin : i = xs.size := by omega
    refine codeAny_builtin F.entry_extend_loop ?_
    rw [Around.under_plainId F.plain_extend_loop _]
    show wpAny _ A.in1 (pyNext (.ref z) >>= _) _ _ s
    have hx : xs[i]? = none := by rw [hin]; simp
    have fin : ∀ h' : Heap, (∀ c o, c ≠ z → c ≠ TO → c ≠ i1 → c ≠ i2 → s.heap.get? c = some o → h'.get? c = some o) → R (.ok (.ret res)) { s with heap := h' } := fun h' kp => by
      obtain ⟨acc, c, e, ea⟩ := Z.lst
      rw [hin] at ea
      refine hR h' s.toks (fun c o c1 c2 c3 c4 _ e => kp c o c1 c2 c3 c4 e) ⟨acc, c, kp _ _ s1 s2 s3 s4 e, ea⟩ fun j hj => ?_
      obtain ⟨x, y, e1, e2, e3⟩ := Z.made j (by omega)
      exact ⟨x, y, e1, e2, kp _ _ (far b1) (far b2) (far b3) (far b4) e3⟩
    rcases Z.own with ⟨_, hz, a, b, hTO⟩ | ⟨h0, b, hz⟩
    · refine wpAny_bind (RZ.pyNext_zipT_end hh D hz Z.ti hTO Z.it1 Z.it2 Z.t1 Z.t2 (.inl hx) fun h' kp => wpAny_pure ?_)
      exact fin h' kp
    · obtain ⟨_, _, _, _, e3⟩ := Z.made 0 h0
      refine wpAny_bind (endOut hh D hz e3 Z.ti Z.it1 Z.it2 Z.t1 Z.t2 hx fun h' kp => wpAny_pure ?_)
      exact fin h' fun c o c1 _ c3 c4 e => kp c o c1 c3 c4 e
  | succ k ih =>
    intro i s hk hi Z hR
    have hlt : i < xs.size := by omega
    refine codeAny_builtin F.entry_extend_loop ?_
    rw [Around.under_plainId F.plain_extend_loop _]
    show wpAny _ A.in1 (pyNext (.ref z) >>= _) _ _ s
    have hx : xs[i]? = some xs[i] := by simp [hlt]
    have hy : ys[i]? = some (ys[i]'(by omega)) := by simp
    generalize ys[i]'(by omega) = y at hy
    generalize xs[i] = x at hx
    -- behind the next pair
    have step : ∀ h' : Heap, (∃ b, h'.get? z = some (zObj (rawInt n0) b TI TO)) → h'.IsTupleIter i1 l1 (i + 1) → h'.IsTupleIter i2 l2 (i + 1) → IsPair h' s.heap.objs.size x y → h'.objs.size = s.heap.objs.size + 1 →
        (∀ c o, c ≠ z → c ≠ TO → c ≠ i1 → c ≠ i2 → s.heap.get? c = some o → h'.get? c = some o) →
        wpAny (model prog w) A.in1 (updateSeq S (·.push (.ref s.heap.objs.size)) >>= fun _ => again (.builtin "list.extend.loop" ⟨[.ref S, .ref z, res], []⟩))
          (fun fin s' => match fin with | .done f => R (.ok f) s' | .again c' => c'.quiet = true ∧ codeAny (model prog w) A c' R s') (fun e s' => R (.error e) s') { s with heap := h' } := by
      intro h' hz j1 j2 hp sz kp
      obtain ⟨acc, c, e, ea⟩ := Z.lst
      have e' := kp _ _ s1 s2 s3 s4 e
      have la : acc.size = i := by rw [← Array.length_toList, ea, List.length_map, List.length_range]
      have oth : ∀ b o, b ≠ S → h'.get? b = some o → (h'.update S (Obj.mapSeq (·.push (.ref s.heap.objs.size)))).get? b = some o := fun b o hb e => (Heap.get?_update_other _ _ (Ne.symm hb)).trans e
      refine wpAny_bind ?_
      refine wpAny_updateSeq e' rfl (wpAny_pure ⟨plainId_quiet F.plain_extend_loop _, ih (i + 1) _ (by omega) hlt ?_ fun h'' tk kp2 q2 q3 => ?_⟩)
        (by rw [la]; omega) (by show (acc.push _).size ≤ sizeLine + 1; rw [Array.size_push, la]; omega)
      · refine ⟨.inr ⟨Nat.succ_pos _, ?_⟩, oth _ _ (Ne.symm s5) (kp _ _ D.TIz D.TITO D.TIi1 D.TIi2 Z.ti), j1.at fun o e => oth _ o (Ne.symm s3) e, j2.at fun o e => oth _ o (Ne.symm s4) e, ?_, ?_, ⟨_, _, Heap.get?_update_self _ e' rfl, ?_⟩, ?_, fun j hj => ?_⟩
        · obtain ⟨b, hz⟩ := hz
          exact ⟨b, oth _ _ (Ne.symm s1) hz⟩
        · obtain ⟨o, q, r⟩ := Z.t1
          exact ⟨o, oth _ _ (Ne.symm s6) (kp _ _ D.l1z D.l1TO D.l1i1 D.l1i2 q), r⟩
        · obtain ⟨o, q, r⟩ := Z.t2
          exact ⟨o, oth _ _ (Ne.symm s7) (kp _ _ D.l2z D.l2TO D.l2i1 D.l2i2 q), r⟩
        · rw [Array.toList_push, ea, List.range_succ, List.map_append, Z.sz]
          rfl
        · show (h'.update S _).objs.size = _
          rw [Heap.size_update, sz, Z.sz]
          rfl
        · by_cases hji : j < i
          · obtain ⟨x', y', e1, e2, e3⟩ := Z.made j hji
            exact ⟨x', y', e1, e2, oth _ _ (far s8) (kp _ _ (far b1) (far b2) (far b3) (far b4) e3)⟩
          · have hj : j = i := by omega
            subst hj
            refine ⟨x, y, hx, hy, oth _ _ (far s8) ?_⟩
            rw [← Z.sz]
            exact hp
      · exact hR h'' tk (fun c o c1 c2 c3 c4 c5 e => kp2 c o c1 c2 c3 c4 c5 (oth _ _ c5 (kp _ _ c1 c2 c3 c4 e))) q2 q3
    rcases Z.own with ⟨h0, hz, a, b, hTO⟩ | ⟨h0, b, hz⟩
    · refine wpAny_bind (RZ.pyNext_zipT_item D hz Z.ti hTO Z.it1 Z.it2 Z.t1 Z.t2 hx hy fun h' q1 q2 q3 q4 q5 q6 kp => ?_)
      refine step h' ⟨false, ?_⟩ q3 q4 q5 q6 kp
      have e0 : s.heap.objs.size = n0 := by rw [Z.sz, h0]; rfl
      rw [← e0]
      exact q1
    · obtain ⟨_, _, _, _, e3⟩ := Z.made 0 h0
      refine wpAny_bind (nextOut D hz e3 Z.ti Z.it1 Z.it2 Z.t1 Z.t2 hx hy fun h' q1 q3 q4 q5 q6 kp => ?_)
      exact step h' ⟨true, q1⟩ q3 q4 q5 q6 fun c o c1 _ c3 c4 e => kp c o c1 c3 c4 e
/-- list(z), z a zip just made -/
theorem callZip {z TI TO i1 i2 l1 l2 : Addr} {xs ys : Array Value} {Q : Value → Shared → Prop} (hh : A.handled = none) (D : ZipApart z TI TO i1 i2 l1 l2) (hn : xs.size = ys.size) (hl : xs.size ≤ sizeLine)
    (hz : IsZip s.heap z TI TO .none) (hTI : IsPair s.heap TI (.ref i1) (.ref i2)) (hTO : IsPair s.heap TO .none .none) (h1 : s.heap.IsTupleIter i1 l1 0) (h2 : s.heap.IsTupleIter i2 l2 0) (t1 : s.heap.IsTuple l1 xs) (t2 : s.heap.IsTuple l2 ys)
    (hQ : ∀ h' tk, (∀ c o, c ≠ z → c ≠ TO → c ≠ i1 → c ≠ i2 → s.heap.get? c = some o → h'.get? c = some o) →
        (∃ acc c, h'.get? s.heap.objs.size = some { cls := .type "list", dict := none, data := .seq acc c, slots := #[] } ∧ acc.toList = (List.range xs.size).map fun j => Value.ref (s.heap.objs.size + 1 + j)) →
        (∀ j, j < xs.size → ∃ x y, xs[j]? = some x ∧ ys[j]? = some y ∧ IsPair h' (s.heap.objs.size + 1 + j) x y) → Q (.ref s.heap.objs.size) { s with heap := h', toks := tk }) :
    wpAny (model prog w) A (call (.type "list") [.ref z]) Q E s := by
  refine callType_codes (Q₁ := fun obj s₁ => obj = .ref s.heap.objs.size ∧ s₁ = { s with heap := s.heap.push { cls := .type "list", data := .seq #[] } }) F.called_list (F.typeCall_list_1 _) F.entry_list_init (code_list_new _ ⟨rfl, rfl⟩) fun obj s₁ h₁ => ?_
  obtain ⟨rfl, rfl⟩ := h₁
  obtain ⟨o1, ho1, _⟩ := id h1
  obtain ⟨o2, ho2, _⟩ := id h2
  obtain ⟨p1, hp1, _⟩ := id t1
  obtain ⟨p2, hp2, _⟩ := id t2
  have hS : (s.heap.push { cls := .type "list", data := .seq #[] }).get? s.heap.objs.size = some { cls := .type "list", data := .seq #[] } := Heap.get?_push_size _ rfl
  have up : ∀ b o, s.heap.get? b = some o → (s.heap.push { cls := .type "list", data := .seq #[] }).get? b = some o := fun b o e => Heap.get?_push_of_some _ e
  have nS : ∀ {b o}, s.heap.get? b = some o → s.heap.objs.size ≠ b := fun e => Nat.ne_of_gt (Heap.lt_size e)
  refine ⟨⟨_, hS, rfl⟩, F.args_list_init_2 _ _, ?_⟩
  show wpAny _ A.in1.in1 (Builtin.List.listItems (.ref s.heap.objs.size) >>= fun old => Builtin.List.listUpdate (.ref s.heap.objs.size) (fun _ => #[]) >>= fun _ => letGo old.toList.reverse >>= fun _ => Builtin.List.listExtendWith (.ref s.heap.objs.size) (.ref z) .none) _ _ _
  refine wpAny_bind ?_
  unfold Builtin.List.listItems
  refine wpAny_bind (wpAny_seqItems hS rfl (wpAny_pure ?_))
  show wpAny _ A.in1.in1 (updateSeq s.heap.objs.size (fun _ => #[]) >>= fun _ => letGo (#[] : Array Value).toList.reverse >>= fun _ => Builtin.List.listExtendWith (.ref s.heap.objs.size) (.ref z) .none) _ _ _
  refine wpAny_bind (wpAny_updateSeq hS rfl ?_)
  have hS2 := Heap.get?_update_self (Obj.mapSeq (fun _ => (#[] : Array Value))) hS rfl
  generalize hg : (s.heap.push { cls := .type "list", data := .seq #[] }).update s.heap.objs.size (Obj.mapSeq (fun _ => (#[] : Array Value))) = g at hS2
  have up2 : ∀ b o, s.heap.get? b = some o → g.get? b = some o := fun b o e => by
    rw [← hg]
    exact (Heap.get?_update_other _ _ (nS e)).trans (up b o e)
  have sg : g.objs.size = s.heap.objs.size + 1 := by rw [← hg, Heap.size_update, Heap.size_push]
  refine wpAny_bind (wpAny_letGo ?_)
  have hT : ({ s with heap := g } : Shared).TypeIs (.ref z) "zip" := ⟨_, up2 _ _ hz, rfl⟩
  have hs1 : Builtin.List.listSameRef (.ref s.heap.objs.size) (.ref z) = false := by simp [Builtin.List.listSameRef, nS hz]
  show wpAny _ A.in1.in1 (Builtin.List.listExtendWith (.ref s.heap.objs.size) (.ref z) .none) _ _ { s with heap := g }
  unfold Builtin.List.listExtendWith
  refine wpAny_bind (wpAny_typeOf hT ?_)
  rw [if_neg (by rw [hs1]; decide)]
  refine wpAny_bind (wpAny_pyIter_zip (up2 _ _ hz) ?_)
  refine wpAny_bind (wpAny_holding ?_)
  unfold Builtin.List.listLengthHint
  refine wpAny_bind (wpAny_specialOf hT nolen_zip ?_)
  show wpAny _ _ (specialOf (Value.ref z) (Str.ofString "__length_hint__") >>= _) _ _ _
  refine wpAny_bind (wpAny_specialOf hT nohint_zip ?_)
  refine wpAny_pure ?_
  show wpAny _ _ (rule "list.extend.makes-room" >>= fun _ => Builtin.List.listTouch (.ref s.heap.objs.size) >>= fun _ => again (.builtin "list.extend.loop" ⟨[.ref s.heap.objs.size, .ref z, .none], []⟩)) _ _ _
  refine wpAny_bind (wpAny_rule ?_)
  refine wpAny_bind ?_
  show wpAny _ _ (updateSeq s.heap.objs.size (·.push .none) >>= fun _ => updateSeq s.heap.objs.size (·.pop)) _ _ _
  refine wpAny_bind (wpAny_updateSeq hS2 rfl ?_)
  have hS3 := Heap.get?_update_self (Obj.mapSeq (·.push Value.none)) hS2 rfl
  refine wpAny_updateSeq (hz := by seq_fits) hS3 rfl ?_
  have hS4 := Heap.get?_update_self (Obj.mapSeq (·.pop)) hS3 rfl
  generalize hg4 : ((g.update s.heap.objs.size (Obj.mapSeq (·.push Value.none))).update s.heap.objs.size (Obj.mapSeq (·.pop))) = g4 at hS4
  have up4 : ∀ b o, s.heap.get? b = some o → g4.get? b = some o := fun b o e => by
    rw [← hg4]
    exact (Heap.get?_update_other _ _ (nS e)).trans ((Heap.get?_update_other _ _ (nS e)).trans (up2 b o e))
  have sg4 : g4.objs.size = s.heap.objs.size + 1 := by rw [← hg4, Heap.size_update, Heap.size_update, sg]
  have lt1 : ∀ {b o}, s.heap.get? b = some o → b < s.heap.objs.size + 1 := fun e => Nat.lt_succ_of_lt (Heap.lt_size e)
  refine wpAny_pure ⟨plainId_quiet F.plain_extend_loop _, loopZip (n0 := s.heap.objs.size + 1) (S := s.heap.objs.size) (A := A.in1) hh D hn hl ⟨nS hz, nS hTO, nS ho1, nS ho2, nS hTI, nS hp1, nS hp2, Nat.lt_succ_self _⟩ ⟨lt1 hz, lt1 hTO, lt1 ho1, lt1 ho2⟩ xs.size 0 _ (by simp) (Nat.zero_le _)
    ⟨.inl ⟨rfl, up4 _ _ hz, _, _, up4 _ _ hTO⟩, up4 _ _ hTI, h1.at fun o e => up4 _ o e, h2.at fun o e => up4 _ o e, ⟨p1, up4 _ _ hp1, by assumption⟩, ⟨p2, up4 _ _ hp2, by assumption⟩, ⟨_, _, hS4, rfl⟩, sg4, fun j hj => absurd hj (Nat.not_lt_zero _)⟩ fun h' tk kp q2 q3 => ?_⟩
  exact ⟨rfl, hQ h' tk (fun c o c1 c2 c3 c4 e => kp c o c1 c2 c3 c4 (Ne.symm (nS e)) (up4 _ _ e)) q2 q3⟩
end
section
open L2
theorem vrefs (m : Addr) (n : Nat) : Vals (((List.range n).map fun j => m + 1 + j).map V.ref) ((List.range n).map fun j => Value.ref (m + 1 + j)) := by
  rw [List.map_map]
  generalize List.range n = l
  induction l with
  | nil => exact .nil
  | cons j l ih => exact .cons rfl ih
/-- list(zip(t, u)), t and u tuples of one length: a new list of new pairs -/
def rLstZip (K : PySem.W.Frag) : List V → Hp → VK → Prop := fun vs H Q => ∃ (a b : Addr) (xs ys : List V), vs = [.ref a, .ref b] ∧ SqT K H a xs ∧ SqT K H b ys ∧ xs.length = ys.length ∧
  ∀ (q : Addr) (ps : List Addr) (H3 : Hp), H q = none → (∀ p ∈ ps, H p = none) → Same H H3 → H3 q = some (.lst (ps.map V.ref)) → ps.length = xs.length →
    (∀ (i : Nat) (p : Addr), ps[i]? = some p → ∃ u v, xs[i]? = some u ∧ ys[i]? = some v ∧ H3 p = some (.tup [u, v])) → Q (.ref q) H3
variable {X : Cx}
theorem pe_lstZip {e1 e2 : Expr} {t : TA} {p p2 pos pos2 : Pos} (hc : X.calm = true) (hg : Gl X "list") (hm : X.mg "list" = none) (hg2 : Gl X "zip") (hm2 : X.mg "zip" = none) (ha : PA X [e1, e2] t)
    (hs : starEach [e1, e2] X.env = (false, eval e1 X.env) :: starEach [e2] X.env := by rfl)
    (hpl : (backTo pos2 (starEach [e2] X.env)).any (·.1) = false := by rfl)
    (hs2 : starEach [.Call (.Name "zip" p2) [e1, e2] [] pos2] X.env = (false, eval (.Call (.Name "zip" p2) [e1, e2] [] pos2) X.env) :: starEach [] X.env := by rfl) :
    PE X (.Call (.Name "list" p) [.Call (.Name "zip" p2) [e1, e2] [] pos2] [] pos) (tCB (rLstZip X.K) t) := by
  refine ⟨fun pins s σ H Q I h => ?_⟩
  refine PyProof.Rows.Call_ (ld_blt I hg hm PyProof.Rows.boot_list (PyProof.Rows.callWith_type1 (PyProof.Rows.args_cons (PyProof.Rows.Call_ (ld_blt I hg2 hm2 PyProof.Rows.boot_zip (PyProof.Rows.callWith_type1 (thn (ha.run pos2 pins s σ H _ I h) fun us s1 ⟨vs, H1, I1, r1, q1⟩ => ?_) hs hpl))) hs2) hs2 rfl))
  obtain ⟨a, b, xs, ys, ex, hqx, hqy, hlen, q⟩ := q1
  subst ex
  cases r1 with
  | cons r rr =>
    cases rr with
    | cons r' rr =>
      cases rr
      cases r
      cases r'
      obtain ⟨ix, rv1, p1, z1⟩ := I1.tuple hqx
      obtain ⟨iy, rv2, p2, _⟩ := I1.tuple hqy
      obtain ⟨o1, ho1, _⟩ := id p1
      obtain ⟨o2, ho2, _⟩ := id p2
      refine RZ.call_zipT (show s1.heap.IsTuple a ix.toArray from p1) (show s1.heap.IsTuple b iy.toArray from p2) fun h' hz hTI hTO h1 h2 hsz hk => ?_
      have nx : ix.toArray.size = xs.length := by rw [List.size_toArray, rv1.length]
      have ny : iy.toArray.size = ys.length := by rw [List.size_toArray, rv2.length]
      have w1 : h'.IsTuple a ix.toArray := by
        obtain ⟨o, e, r⟩ := p1
        exact ⟨o, hk _ _ e, r⟩
      have w2 : h'.IsTuple b iy.toArray := by
        obtain ⟨o, e, r⟩ := p2
        exact ⟨o, hk _ _ e, r⟩
      refine PyProof.Rows.args_nil ?_
      refine callZip (s := { s1 with heap := h' }) (I1.ok.hd hc) (PySem.W.ktu_apart s1.heap.objs.size a b (Heap.lt_size ho1) (Heap.lt_size ho2)) (by rw [nx, ny, hlen]) (by rw [nx]; exact z1) hz hTI hTO h1 h2 w1 w2 fun g tk kp ⟨acc, c, hS, ea⟩ made => ?_
      -- what is tracked then
      have base : ∀ {c o}, s1.heap.get? c = some o → g.get? c = some o := fun {c o} e => by
        have l : c < s1.heap.objs.size := Heap.lt_size e
        exact kp c o (Nat.ne_of_lt (Nat.lt_of_lt_of_le l (Nat.le_add_right _ _))) (Nat.ne_of_lt (Nat.lt_of_lt_of_le l (Nat.le_add_right _ _))) (Nat.ne_of_lt l) (Nat.ne_of_lt (Nat.lt_of_lt_of_le l (Nat.le_add_right _ _))) (hk c o e)
      have hsz' : h'.objs.size = s1.heap.objs.size + 5 := hsz
      generalize hm0 : h'.objs.size = m at hS made ea
      have lm : s1.heap.objs.size ≤ m := by rw [← hm0, hsz']; exact Nat.le_add_right _ _
      have old : ∀ {c o}, s1.heap.get? c = some o → c < m := fun e => Nat.lt_of_lt_of_le (Heap.lt_size e) lm
      have oldH : ∀ {c o}, H1 c = some o → c < m := fun e => Nat.lt_of_lt_of_le (I1.hok.lt e) lm
      have pick : ∀ j, j < xs.length → ∃ u v iu iv, xs[j]? = some u ∧ ys[j]? = some v ∧ ix[j]? = some iu ∧ iy[j]? = some iv ∧ RelV u iu ∧ RelV v iv ∧ IsPair g (m + 1 + j) iu iv := fun j hj => by
        obtain ⟨iu, iv, e1, e2, e3⟩ := made j (by rw [nx]; exact hj)
        have k1 : xs[j]? = some xs[j] := List.getElem?_eq_getElem hj
        have k2 : ys[j]? = some (ys[j]'(by omega)) := List.getElem?_eq_getElem (by omega)
        obtain ⟨u', f1, f2⟩ := rv1.get k1
        obtain ⟨v', f3, f4⟩ := rv2.get k2
        have e1' : ix[j]? = some iu := by simpa using e1
        have e2' : iy[j]? = some iv := by simpa using e2
        rw [e1'] at f1
        rw [e2'] at f3
        cases f1
        cases f3
        exact ⟨_, _, iu, iv, k1, k2, e1', e2', f2, f4, e3⟩
      let H3 : Hp := fun c => if c = m then some (.lst (((List.range xs.length).map fun j => m + 1 + j).map V.ref)) else if m < c ∧ c < m + 1 + xs.length then some (.tup [xs.getD (c - m - 1) .non, ys.getD (c - m - 1) .non]) else H1 c
      have hH0 : H3 m = some (.lst (((List.range xs.length).map fun j => m + 1 + j).map V.ref)) := if_pos rfl
      have hHt : ∀ j, j < xs.length → ∀ u v, xs[j]? = some u → ys[j]? = some v → H3 (m + 1 + j) = some (.tup [u, v]) := fun j hj u v e1 e2 => by
        have a1 : ¬ m + 1 + j = m := Nat.ne_of_gt (Nat.lt_of_lt_of_le (Nat.lt_succ_self m) (Nat.le_add_right _ _))
        have a2 : m < m + 1 + j ∧ m + 1 + j < m + 1 + xs.length := ⟨Nat.lt_of_lt_of_le (Nat.lt_succ_self m) (Nat.le_add_right _ _), Nat.add_lt_add_left hj _⟩
        have a3 : m + 1 + j - m - 1 = j := by rw [Nat.add_assoc, Nat.add_sub_cancel_left, Nat.add_sub_cancel_left]
        show (if m + 1 + j = m then _ else if m < m + 1 + j ∧ m + 1 + j < m + 1 + xs.length then _ else _) = _
        rw [if_neg a1, if_pos a2, a3]
        simp [List.getD, e1, e2]
      have hHo : ∀ c, c < m → H3 c = H1 c := fun c hc => by
        show (if c = m then _ else if m < c ∧ c < m + 1 + xs.length then _ else _) = _
        rw [if_neg (Nat.ne_of_lt hc), if_neg (fun z => absurd z.1 (Nat.not_lt_of_le (Nat.le_of_lt hc)))]
      have hHs : ∀ c o, H3 c = some o → c = m ∨ (∃ j, j < xs.length ∧ c = m + 1 + j) ∨ H1 c = some o := fun c o e => by
        by_cases c1 : c = m
        · exact .inl c1
        · by_cases c2 : m < c ∧ c < m + 1 + xs.length
          · refine .inr (.inl ⟨c - m - 1, ?_, ?_⟩)
            · have := c2.2
              have := c2.1
              simp only [Addr] at *
              omega
            · have := c2.1
              simp only [Addr] at *
              omega
          · have e' : (if c = m then some (HO.lst (((List.range xs.length).map fun j => m + 1 + j).map V.ref)) else if m < c ∧ c < m + 1 + xs.length then some (.tup [xs.getD (c - m - 1) .non, ys.getD (c - m - 1) .non]) else H1 c) = some o := e
            rw [if_neg c1, if_neg c2] at e'
            exact .inr (.inr e')
      have sH : Same H1 H3 := fun c o e => by rw [hHo c (oldH e)]; exact e
      refine I1.after ⟨.ref m, H3, rfl, I1.bare, ⟨fun c o e n _ _ => base e, fun c o e n _ _ => ⟨o.slots, base e⟩, fun c o e n _ => by rw [hHo c (old e)]; exact n, fun c o e _ => ⟨o, base e⟩, fun c zs e => sH _ _ e, fun c o u e => sH _ _ e, fun c ps e => ⟨#[], by rw [sH _ _ e]; simp⟩⟩, fun c o e => ?_, by rw [← hm0]; rfl, ?_⟩
      · rcases hHs c o e with rfl | ⟨j, hj, rfl⟩ | e1
        · rw [hH0] at e
          cases e
          refine ⟨by simp only [List.length_map, List.length_range]; exact z1, acc.toList, _, ?_, by rw [Array.toArray_toList]; exact hS⟩
          rw [ea, nx]
          exact vrefs _ _
        · obtain ⟨u, v, iu, iv, k1, k2, k3, k4, r1, r2, e3⟩ := pick j hj
          rw [hHt j hj u v k1 k2] at e
          cases e
          exact ⟨by show 2 ≤ sizeLine; decide, [iu, iv], .cons r1 (.cons r2 .nil), _, e3, rfl, _, rfl⟩
        · exact (I1.hok c o e1).stay (fun b u _ q => base q) (fun b q => sH _ _ q) fun b zs q => sH _ _ q
      · refine q m _ H3 (I1.hok.fresh lm) (fun c hc => ?_) sH hH0 (by simp) fun i c hc => ?_
        · obtain ⟨j, _, rfl⟩ := List.mem_map.mp hc
          exact I1.hok.fresh (Nat.le_trans lm (Nat.le_trans (Nat.le_succ m) (Nat.le_add_right _ _)))
        · rw [List.getElem?_map] at hc
          obtain ⟨j, e1, e2⟩ := Option.map_eq_some_iff.mp hc
          have hi : i < xs.length := by
            have := (List.getElem?_eq_some_iff.mp e1).1
            simpa using this
          have e1' : i = j := by
            rw [List.getElem?_range hi] at e1
            exact Option.some.inj e1
          subst e1'
          subst e2
          obtain ⟨u, v, _, _, k1, k2, _⟩ := pick i hi
          exact ⟨u, v, k1, k2, hHt i hi u v k1 k2⟩
end
end Wf

/-! Defs that are called where no repr is under way (guards are none): for the text that repr gives. -/
namespace Wf
open PySem PySem.Spec L2
section
variable {P : Program} {w : World} {K : PySem.W.Frag} {mg : Str → Option Value} {base : Heap} {CX : CXT} {k : Nat} {f : Addr} {fd : FuncData} {ps : List Str} {sp : Sp}
structure FnG (P : Program) (w : World) (K : PySem.W.Frag) (mg : Str → Option Value) (base : Heap) (CX : CXT) (k : Nat) (f : Addr) (fd : FuncData) (ps : List Str) (sp : Sp) : Prop where
  len : ∀ vs H Q E, sp vs H Q E → vs.length = ps.length
  run : ∀ (A : Around), A.guards = some [] → ∀ (outer : List Env) (s : Shared) (H : Hp) (args : Args) (us : List Value) (vs : List V) (Q : VK) (E : XK), Room k A → Env0 P w K mg base A outer s H →
    BindsTo s fd args (ps.zip us) → Vals vs us → sp vs H Q E → codeAny (model P w) A (.call (.ref f) args) (CR CX outer P w H s Q E) s
theorem FnG.of (F : FnOk P w K mg base CX k f fd ps sp) : FnG P w K mg base CX k f fd ps sp := ⟨F.len, fun A _ => F.run A⟩
/-- the rule of a def, its body where no guard is -/
theorem okG {x qual : Str} {params : Arguments} {body : List Stmt} {scope : Scope} {dvs : List V} {kws : List (Str × V)} {N : List Str} (F : FunD K x qual params body scope dvs kws f fd) (S : FnScope N ps scope) (len : ∀ vs H Q E, sp vs H Q E → vs.length = ps.length)
    (hb : ∀ (cdv : Value) (A : Around), A.guards = some [] → ∀ (outer : List Env) (s : Shared) (H : Hp) (vs : List V) (Q : VK) (E : XK), Room k (A.deeper (PyProof.Rows.envOfC qual scope s.heap.objs.size f cdv)) → sp vs H Q E →
      ∃ t, PSs (cxOf CX P w K mg base N qual scope f cdv A outer s H E) body t ∧ t (EndsQ Q) (start N vs) H) : FnG P w K mg base CX (k + 1) f fd ps sp := by
  obtain ⟨oc, od, dV, kV, doc, pm, an, cdv, ct, osl, rfl, lk, hcd, _, _⟩ := F.ex
  refine ⟨len, fun A hG outer s H args us vs Q E hr e0 hB rV hq => ?_⟩
  have KX : K.In s.heap := e0.mod.kin.keeps fun b o e => (e0.bs b o e).1
  refine PySem.codeAny_call_function hr.depth (KX _ _ lk) rfl S.co S.gen rfl (PySem.W.codeRec_of KX hcd) (hB _ _ _ _ ?_)
  refine PySem.wpAny_newFunctionEnv_cells S.kind (fun y hy => ?_) fun env he s1 x => ?_
  · obtain ⟨n, v⟩ := y
    rcases S.par n (List.of_mem_zip hy).1 with q | q
    · exact .inl q
    · exact .inr ⟨q, PySem.W.cellsFrom_some _ _ _ (.inl q)⟩
  · subst he
    have lim : s.heap.NoLimit := e0.mod.nolimit.keeps fun b o e => (e0.bs b o e).1
    refine ⟨lim.keeps x.toInCall.keep, PySem.codeAny_func ?_⟩
    obtain ⟨t, ht, hq'⟩ := hb cdv A hG outer s H vs Q E (hr.deeper _) hq
    refine wpAny_mono (ht.run [] s1 (start N vs) H _ (inv_start S hr.hd e0 (len _ _ _ _ hq) rV x) hq') (fun fl s' hs => ?_) fun e s' hs => hs
    cases fl with
    | ret u =>
      obtain ⟨v, σ', H', J, rv, q⟩ := hs
      exact ⟨v, H', J.os, J.bare, J.base, J.hok, rv, q⟩
    | next =>
      obtain ⟨σ', H', J, q⟩ := hs
      exact ⟨V.non, H', J.os, J.bare, J.base, J.hok, rfl, q⟩
    | brk => exact hs.elim fun _ h => h.elim fun _ h => h.2.elim
    | cont => exact hs.elim fun _ h => h.elim fun _ h => h.2.elim
end
/-! ### such a def called by its name -/
structure CalG (P : Program) (w : World) (K : PySem.W.Frag) (mg : Str → Option Value) (base : Heap) (CX : CXT) (k : Nat) (x : Str) (ps : List Str) (sp : Sp) : Prop where
  ex : ∃ f fd, FnG P w K mg base CX k f fd ps sp ∧ mg x = some (.ref f) ∧ PySem.W.keepIn K (.ref f) = true ∧ Binds K fd ps []
theorem pe_calG {X : Cx} {k j : Nat} {x : Str} {ps : List Str} {sp : Sp} {e : Expr} {es : List Expr} {t : TA} {p pos : Pos} (C : CalG X.prog X.w X.K X.mg X.base CX0 k x ps sp) (hr : Room j X.A) (hG : X.A.guards = some []) (hg : Gl X x) (ha : PA X (e :: es) t) (hk : k ≤ j := by decide)
    (hdb : (x == ("__debug__" : Str)) = false := by decide) (he : starEach (e :: es) X.env = (false, eval e X.env) :: starEach es X.env := by rfl) (hpl : (backTo pos (starEach es X.env)).any (·.1) = false := by rfl) :
    PE X (.Call (.Name x p) (e :: es) [] pos) (tCall sp [] E0 t) := by
  obtain ⟨f, fd, G, m, kp, b⟩ := C.ex
  refine ⟨fun pins s σ H Q I h => wpAny_Call_Name_kw (ld_glob I hg m ?_ hdb)⟩
  refine PySem.W.callWith_K (h₀ := X.base) I.ok.mod.kin kp (thn (ha.run pos pins s σ H _ I h) fun us s1 hh => ?_) he hpl
  obtain ⟨vs, H1, I1, r, q⟩ := hh
  refine ⟨I1.kIn, ?_⟩
  have q' : sp vs H1 Q E0 := by
    have q2 : sp (vs ++ []) H1 Q E0 := q
    rwa [List.append_nil] at q2
  have hl : (us ++ []).length = ps.length := by rw [List.append_nil, ← r.length]; exact G.len _ _ _ _ q'
  have bb : BindsTo s1 fd ⟨us, []⟩ (ps.zip us) := by
    have := b s1 us I1.kIn hl
    rwa [List.append_nil] at this
  refine wpAny_call (codeAny_mono (G.run X.A hG X.stack s1 H1 ⟨us, []⟩ us vs Q E0 (hr.mono hk) I1.env0 bb r q') fun rr s' hq => ?_)
  cases rr with
  | error e => exact False.elim hq
  | ok fl =>
    cases fl with
    | ret u => exact I1.after hq
    | next => exact False.elim hq
    | brk => exact False.elim hq
    | cont => exact False.elim hq
/-! ### repr of data -/
mutual
theorem Dp_noDict {K : PySem.W.Frag} {H : Hp} : ∀ (d : PyData) (v : V), Dp K H v d → d.hasDict = false
  | .none, _, _ => rfl
  | .bool _, _, _ => rfl
  | .int _, _, _ => rfl
  | .str _, _, _ => rfl
  | .list ds, _, h => by
    cases h with
    | lst _ ha => exact DpAll_noDict ds _ ha
  | .tuple ds, _, h => by
    cases h with
    | tup _ ha => exact DpAll_noDict ds _ ha
  | .dict _, _, h => by cases h
theorem DpAll_noDict {K : PySem.W.Frag} {H : Hp} : ∀ (ds : List PyData) (vs : List V), DpAll K H vs ds → PyData.hasDictAll ds = false
  | [], _, _ => rfl
  | d :: ds, _, h => by
    cases h with
    | cons h1 h2 =>
      show (d.hasDict || PyData.hasDictAll ds) = false
      rw [Dp_noDict d _ h1, DpAll_noDict ds _ h2]
      rfl
end
def rRepr (K : PySem.W.Frag) : List V → Hp → VK → Prop := fun vs H Q => ∃ (a : Addr) (d : PyData), vs = [.ref a] ∧ Dp K H (.ref a) d ∧ d.showable = true ∧ d.depth ≤ 60 ∧ d.shown.length ≤ sizeLine ∧ Q (.str d.shown) H
theorem call_repr {X : Cx} {k : Nat} (hr : Room k X.A) (hG : X.A.guards = some []) : CallR X (.builtin "repr") (rRepr X.K) := by
  intro pins s σ H vs us Q I r h
  obtain ⟨a, d, rfl, hd, hs, hp, hz, q⟩ := h
  cases r with
  | cons r rr =>
    cases rr
    obtain ⟨as, rd⟩ := Dp.reads I d _ _ hd r
    cases r
    have hu := hr.units
    refine repr_of_reads' rd hs (PyData.noDict_hsm (Dp_noDict d _ hd)) hG (by omega) (fun _ _ e => e) (fun h' u tk hk => ?_) hz
    exact ⟨.str d.shown, H, I.kept (t' := tk) hk, ⟨u, rfl⟩, q⟩
/-! ### the end of a law whose def wants that no guard is -/
theorem lawG {P : Program} {w : World} {K : PySem.W.Frag} {mg mb : Str → Option Value} {k : Nat} {fa a : Addr} {fd : FuncData} {x : Str} {sp : Sp} {s : Shared} {us : List Value} {ns : List Int}
    (KX : K.In s.heap) (hmg : s.heap.Ns mainGlobals mg) (hb : s.heap.Ns builtinsNs mb) (hbb : ∀ x : Str, x ≠ "__name__" → mb x = bootBuiltins x) (hlim : s.heap.NoLimit) (hg : s.gens = #[])
    (ha : s.heap.get? a = some { cls := .type "list", data := .seq us.toArray }) (hi : PyProof.Rows.IntsAre us ns) (hl : ns.length ≤ sizeLine) (hr : Room k callerA)
    (F : ∀ base : Heap, K.In base → base.Ns mainGlobals mg → FnG P w K mg base CX0 k fa fd [x] sp) (hbind : ∀ (s : Shared) (u : Value), BindsTo s fd ⟨[u], []⟩ [(x, u)])
    (hsp : ∀ H : Hp, Only H → SqL K H a (ns.map V.int) → sp [.ref a] H (fun v _ => v = .bl true) fun _ _ _ => False) :
    codeAny (model P w) callerA (.call (.ref fa) ⟨[.ref a], []⟩) (fun r s' => r = .ok (.ret (.bool true)) ∧ PySem.OldK s.heap s'.heap ∧ s'.os = s.os ∧ PyProof.Rows.AllBare s'.gens) s := by
  have rv := vals_ints hi
  -- over a heap that tracks the script at most
  have go : ∀ H : Hp, Only H → SqL K H a (ns.map V.int) → HOk P w H s.heap → (∀ b, H b ≠ none → b = a) → (H a ≠ none → K.lookup a = none) →
      codeAny (model P w) callerA (.call (.ref fa) ⟨[.ref a], []⟩) (fun r s' => r = .ok (.ret (.bool true)) ∧ PySem.OldK s.heap s'.heap ∧ s'.os = s.os ∧ PyProof.Rows.AllBare s'.gens) s := by
    intro H hO hS hok hA hK
    have notA : ∀ {b : Addr} {o : Obj} {es : Array DictEntry} {ep : Nat}, s.heap.get? b = some o → o.data = .dict es ep → H b = none := fun {b o es ep} e d => by
      by_cases hb : b = a
      · subst hb
        rw [ha] at e
        cases e
        cases d
      · cases q : H b with
        | none => rfl
        | some u => exact absurd (hA b (by rw [q]; exact fun z => nomatch z)) hb
    have nsK : ∀ {b : Addr} {m : Str → Option Value}, s.heap.Ns b m → (hidT s.heap H).Ns b m := fun {b m} n => by
      obtain ⟨o, es, ep, e, d, r⟩ := n
      exact ⟨o, es, ep, hidT_get e (notA e d), d, r⟩
    have hKb : K.In (hidT s.heap H) := fun b o e => by
      refine hidT_get (KX b o e) ?_
      by_cases hb : b = a
      · subst hb
        cases q : H b with
        | none => rfl
        | some u =>
          rw [hK (by rw [q]; exact fun z => nomatch z)] at e
          cases e
      · cases q : H b with
        | none => rfl
        | some u => exact absurd (hA b (by rw [q]; exact fun z => nomatch z)) hb
    obtain ⟨mc, l1, l2⟩ := hlim
    have e0 : Env0 P w K mg (hidT s.heap H) callerA [] s H :=
      ⟨rfl, ⟨hKb, nsK hmg, ⟨mb, nsK hb, hbb⟩, ⟨mc, nsK l1, l2⟩⟩, fun b o e => of_hidT e, Nat.le_of_eq (hidT_size _ _), trivial, fun b hb => (List.not_mem_nil hb).elim, hok, .of_eq hg⟩
    refine codeAny_mono ((F _ hKb (nsK hmg)).run callerA rfl [] s H ⟨[.ref a], []⟩ [.ref a] [.ref a] _ _ hr e0 (hbind s (.ref a)) (.cons rfl .nil) (hsp H hO hS)) fun r s' h => ?_
    cases r with
    | error e => exact False.elim h
    | ok fl =>
      cases fl with
      | next => exact False.elim h
      | brk => exact False.elim h
      | cont => exact False.elim h
      | ret u =>
        obtain ⟨v, H', os, bare, un, hok', r', q⟩ := h
        cases (show v = .bl true from q)
        cases (show u = Value.bool true from r')
        refine ⟨rfl, PySem.OldK.of_keep fun b o e => ?_, os, bare⟩
        rcases hO b with z | ⟨ob, xs, z⟩
        · exact un.keep b o e z (fun y => (List.not_mem_nil y).elim) (fun y => (List.not_mem_nil y).elim)
        · have e1 := (hok b _ z).1
          rw [e] at e1
          cases e1
          exact (hok' b _ (un.frzs b _ _ z)).1
  cases hk : K.lookup a with
  | some o =>
    have e := KX a o hk
    rw [ha] at e
    cases e
    refine go (fun _ => none) (fun _ => .inl rfl) (.inr ⟨_, us.toArray, _, hk, rfl, rfl, rfl, ?_, ?_⟩) (fun b u z => nomatch z) (fun b z => absurd rfl z) fun z => absurd rfl z
    · rw [List.size_toArray, hi.length]
      exact hl
    · simpa using rv
  | none =>
    let H : Hp := fun b => if b = a then some (.frz { cls := .type "list", data := .seq us.toArray } (.lst (ns.map V.int))) else none
    have h1 : H a = some (.frz { cls := .type "list", data := .seq us.toArray } (.lst (ns.map V.int))) := if_pos rfl
    have h0 : ∀ b, b ≠ a → H b = none := fun b hb => if_neg hb
    have hc : ∀ b, b = a ∨ H b = none := fun b => by
      by_cases hb : b = a
      · exact .inl hb
      · exact .inr (h0 b hb)
    refine go H (fun b => ?_) (.inl (.inr ⟨_, h1⟩)) (fun b u z => ?_) (fun b z => ?_) fun _ => hk
    · rcases hc b with rfl | z
      · exact .inr ⟨_, _, h1⟩
      · exact .inl z
    · rcases hc b with rfl | y
      · rw [h1] at z
        cases z
        exact ⟨ha, by rw [List.length_map]; exact hl, us, _, rv, ha⟩
      · rw [y] at z
        cases z
    · rcases hc b with y | y
      · exact y
      · exact absurd y z
theorem walkG {l : PySem.W.OpenLaw} {n k : Nat} {q : Program} {loose : List Str} {XP : (Str → Option Value) → Heap → Prop} {YP : World → Heap → Prop} {d : DefRec} {x : Str}
    (hn : l.most = some n) (hn2 : n ≤ sizeLine) (hdf : d.params.defaults = []) (hr : Room k callerA)
    (F : ∀ (w : World) (mg : Str → Option Value) (fa : Addr) (h : Heap), YP w h → h.Ns mainGlobals mg → mg d.name = some (.ref fa) →
      ∃ (K : PySem.W.Frag) (fd : FuncData) (sp : Sp), K.In h ∧ (∀ (s : Shared) (u : Value), BindsTo s fd ⟨[u], []⟩ [(x, u)]) ∧
        (∀ (H : Hp) (a : Addr) (ns : List Int), ns.length ≤ n → Only H → SqL K H a (ns.map V.int) → sp [.ref a] H (fun v _ => v = .bl true) fun _ _ _ => False) ∧
        ∀ base : Heap, K.In base → base.Ns mainGlobals mg → FnG l.prog w K mg base CX0 k fa fd [x] sp) :
    PySem.W.WalkO q loose XP YP l.row.toRowW d [] (fun f vs => PySem.call f vs) := by
  refine Att.attach_call hn hdf fun w s0 s1 mg mb fa o pm cd doc a vs ns G Y ho hd hcd hmg hobj hints hlen hg => ?_
  obtain ⟨K, fd, sp, KX, hb, hsp, hF⟩ := F w mg fa _ Y G.T.g hmg
  exact lawG KX G.T.g G.T.b G.T.builtins G.T.nolimit hg hobj hints (Nat.le_trans hlen hn2) hr hF hb fun H hO hS => hsp H a ns hlen hO hS
end Wf

/-! Data that never changes (None, truths, whole numbers, texts, tuples), and _law_alike. -/
namespace Wf
open PySem PySem.Spec L2
/-! ### what stands in tuples stays -/
def Tp (K : PySem.W.Frag) (H H' : Hp) : Prop := ∀ a xs, SqT K H a xs → SqT K H' a xs
theorem Tp.refl (K : PySem.W.Frag) (H : Hp) : Tp K H H := fun _ _ h => h
theorem Tp.trans {K : PySem.W.Frag} {H H1 H2 : Hp} (a : Tp K H H1) (b : Tp K H1 H2) : Tp K H H2 := fun x xs h => b x xs (a x xs h)
theorem Same.tp {K : PySem.W.Frag} {H H' : Hp} (s : Same H H') : Tp K H H' := fun a xs h => by
  rcases h with (h | ⟨o, h⟩) | h
  · exact .inl (.inl (s _ _ h))
  · exact .inl (.inr ⟨o, s _ _ h⟩)
  · exact .inr h
theorem same_new {H : Hp} {p : Addr} {o : HO} (h : H p = none) : Same H (upd H p o) := fun a u e => by
  rw [upd_ne (ne_of_none e h)]
  exact e
def NoT (H : Hp) (d : Addr) : Prop := ∀ xs, ¬ Rd H d (.tup xs)
theorem not_lst {H : Hp} {d : Addr} {ys : List V} (h : H d = some (.lst ys)) : NoT H d := fun xs r => by
  rcases r with r | ⟨o, r⟩ <;> rw [h] at r <;> cases r
theorem not_dK {H : Hp} {d : Addr} {ys : List (Key × V)} (h : H d = some (.dK ys)) : NoT H d := fun xs r => by
  rcases r with r | ⟨o, r⟩ <;> rw [h] at r <;> cases r
theorem But.tp {K : PySem.W.Frag} {ds : List Addr} {H H' : Hp} (b : But ds H H') (hd : ∀ d ∈ ds, NoT H d) : Tp K H H' := fun a xs h => by
  rcases h with h | h
  · have ha : a ∉ ds := fun z => hd a z xs h
    rcases h with h | ⟨o, h⟩
    · exact .inl (.inl (b _ _ ha h))
    · exact .inl (.inr ⟨o, b _ _ ha h⟩)
  · exact .inr h
theorem tp_upd {K : PySem.W.Frag} {H : Hp} {d : Addr} {o : HO} (h : NoT H d) : Tp K H (upd H d o) := But.tp (ds := [d]) (fun a u ha e => by
  rw [upd_ne (by intro z; subst z; exact ha List.mem_cons_self)]
  exact e) fun x hx => by
    rw [List.mem_singleton.mp hx]
    exact h
mutual
def noL : PyData → Bool
  | .none | .bool _ | .int _ => true
  | .str x => PyData.canLay0 (.str x)
  | .tuple ds => noLAll ds
  | .list _ | .dict _ => false
def noLAll : List PyData → Bool
  | [] => true
  | d :: ds => noL d && noLAll ds
end
mutual
def wt : PyData → Nat
  | .none | .bool _ | .int _ | .str _ | .dict _ => 1
  | .tuple ds => wtAll ds + 1
  | .list ds => wtAll ds + 1
def wtAll : List PyData → Nat
  | [] => 0
  | d :: ds => wt d + wtAll ds
end
section
variable {K : PySem.W.Frag} {H H' : Hp}
mutual
theorem Dp.tp (t : Tp K H H') : ∀ (d : PyData) (v : V), noL d = true → Dp K H v d → Dp K H' v d
  | .none, _, _, h => by cases h; exact .non
  | .bool b, _, _, h => by cases h; exact .bl b
  | .int i, _, _, h => by cases h; exact .int i
  | .str x, _, _, h => by cases h; exact .str x
  | .list _, _, n, _ => nomatch n
  | .dict _, _, _, h => by cases h
  | .tuple ds, _, n, h => by
    cases h with
    | tup hs ha => exact .tup (t _ _ hs) (DpAll.tp t ds _ n ha)
theorem DpAll.tp (t : Tp K H H') : ∀ (ds : List PyData) (vs : List V), noLAll ds = true → DpAll K H vs ds → DpAll K H' vs ds
  | [], _, _, h => by cases h; exact .nil
  | d :: ds, _, n, h => by
    have n2 : (noL d && noLAll ds) = true := n
    rw [Bool.and_eq_true] at n2
    cases h with
    | cons h1 h2 => exact .cons (Dp.tp t d _ n2.1 h1) (DpAll.tp t ds _ n2.2 h2)
end
theorem DpAll.len : ∀ {vs : List V} {ds : List PyData}, DpAll K H vs ds → vs.length = ds.length
  | _, _, .nil => rfl
  | _, _, .cons _ h => congrArg (· + 1) (DpAll.len h)
theorem DpAll.get : ∀ {vs : List V} {ds : List PyData} {i : Nat} {d : PyData}, DpAll K H vs ds → ds[i]? = some d → ∃ v, vs[i]? = some v ∧ Dp K H v d
  | _, _, _, _, .nil, e => by simp at e
  | _, _, 0, _, .cons h _, e => by simp at e; subst e; exact ⟨_, rfl, h⟩
  | _, _, i + 1, _, .cons _ h, e => by
    obtain ⟨v, e1, e2⟩ := DpAll.get (i := i) h (by simpa using e)
    exact ⟨v, by simpa using e1, e2⟩
theorem DpAll.getV : ∀ {vs : List V} {ds : List PyData} {i : Nat} {v : V}, DpAll K H vs ds → vs[i]? = some v → ∃ d, ds[i]? = some d ∧ Dp K H v d
  | _, _, _, _, .nil, e => by simp at e
  | _, _, 0, _, .cons h _, e => by simp at e; subst e; exact ⟨_, rfl, h⟩
  | _, _, i + 1, _, .cons _ h, e => by
    obtain ⟨d, e1, e2⟩ := DpAll.getV (i := i) h (by simpa using e)
    exact ⟨d, by simpa using e1, e2⟩
theorem DpAll.append : ∀ {vs ws : List V} {ds es : List PyData}, DpAll K H vs ds → DpAll K H ws es → DpAll K H (vs ++ ws) (ds ++ es)
  | _, _, _, _, .nil, h => h
  | _, _, _, _, .cons h1 h2, h => .cons h1 (DpAll.append h2 h)
theorem noLAll_get : ∀ {ds : List PyData} {i : Nat} {d : PyData}, noLAll ds = true → ds[i]? = some d → noL d = true
  | [], _, _, _, e => by simp at e
  | c :: ds, 0, d, n, e => by
    simp at e
    subst e
    exact (Bool.and_eq_true_iff.mp (show (noL c && noLAll ds) = true from n)).1
  | c :: ds, i + 1, d, n, e => noLAll_get (i := i) (Bool.and_eq_true_iff.mp (show (noL c && noLAll ds) = true from n)).2 (by simpa using e)
/-! ### isinstance of data -/
def tyN : PyData → String
  | .none => "NoneType" | .bool _ => "bool" | .int _ => "int" | .str _ => "str" | .tuple _ => "tuple" | .list _ => "list" | .dict _ => "dict"
theorem Dp.ty {d : PyData} {v : V} (n : noL d = true) (h : Dp K H v d) : TyX K H v (.type (tyN d)) := by
  cases h with
  | non => exact .base .non
  | bl b => exact .base (.bl b)
  | int i => exact .base (.int i)
  | str x => exact .base (.str x)
  | lst hs ha => exact nomatch n
  | tup hs ha =>
    rcases hs with (h | ⟨o, h⟩) | ⟨o, its, m, hk, hc, _⟩
    · exact .base (.tup h)
    · exact .fTuple h
    · exact .kTuple hk hc
theorem isi {d : PyData} {v : V} {T : String} {b : Bool} {Q : VK} (n : noL d = true) (h : Dp K H v d) (hb : kitB (tyN d) T = some b) (q : Q (.bl b) H) : rIsi K [v, .ty T] H Q :=
  ⟨v, .ty T, _, _, b, rfl, .ty T, Dp.ty n h, kit_ty hb, q⟩
theorem cb_isi {σ : St} {i : Nat} {d : PyData} {v : V} {T : String} {b : Bool} {Q : VK} (hv : σ[i]? = some (some v)) (n : noL d = true) (h : Dp K H v d) (hb : kitB (tyN d) T = some b) (q : Q (.bl b) H) :
    tCB (rIsi K) (tCons (tVar i) (tCons (tC (.ty T)) tNil)) σ H Q := ⟨v, hv, isi n h hb q⟩
/-- two looks of one kind at the same data: not unlike -/
theorem ne_isi {σ : St} {i j : Nat} {d : PyData} {v u : V} {T : String} {b : Bool} {Q : Bool → Hp → Prop} (hv : σ[i]? = some (some v)) (hu : σ[j]? = some (some u)) (n : noL d = true) (h1 : Dp K H v d) (h2 : Dp K H u d) (hb : kitB (tyN d) T = some b) (q : Q false H) :
    tTest (tOp rNe (tCB (rIsi K) (tCons (tVar i) (tCons (tC (.ty T)) tNil))) (tCB (rIsi K) (tCons (tVar j) (tCons (tC (.ty T)) tNil)))) σ H Q :=
  cb_isi hv n h1 hb (cb_isi hu n h2 hb ⟨rfl, false, by rw [decide_eq_true rfl]; rfl, q⟩)
end
/-! ### _law_alike: the same data twice -/
def t_alike (K : PySem.W.Frag) : TS :=
  tSeq (tAsg (tLst (tCons (tTup (tCons (tVar 0) (tCons (tVar 1) (tNil)))) (tNil))) (gName 2))
    (tSeq (tWhile (tTest (tOp qGt (tCB (qLen K) (tCons (tVar 2) (tNil))) (tC (.int 0)))) (tSeq (tAsg (tBM0 K "list" rPop (tVar 2)) (gTup K 2 (gCons (gName 3) (gCons (gName 4) (gNil)))))
    (tSeq (tIfS (tOr (tTest (tOp rNe (tCB (rIsi K) (tCons (tVar 3) (tCons (tC (.ty "bool")) (tNil)))) (tCB (rIsi K) (tCons (tVar 4) (tCons (tC (.ty "bool")) (tNil)))))) (tTest (tOp rNe (tCB (rIsi K) (tCons (tVar 3) (tCons (tC (.ty "tuple")) (tNil)))) (tCB (rIsi K) (tCons (tVar 4) (tCons (tC (.ty "tuple")) (tNil))))))) (tRet (tC (.bl false))) (tNext))
    (tSeq (tIfS (tOr (tTest (tOp rNe (tCB (rIsi K) (tCons (tVar 3) (tCons (tC (.ty "list")) (tNil)))) (tCB (rIsi K) (tCons (tVar 4) (tCons (tC (.ty "list")) (tNil)))))) (tTest (tOp rNe (tCB (rIsi K) (tCons (tVar 3) (tCons (tC (.ty "str")) (tNil)))) (tCB (rIsi K) (tCons (tVar 4) (tCons (tC (.ty "str")) (tNil))))))) (tRet (tC (.bl false))) (tNext))
    (tSeq (tIfS (tTest (tOp rNe (tCB (rIsi K) (tCons (tVar 3) (tCons (tC (.ty "int")) (tNil)))) (tCB (rIsi K) (tCons (tVar 4) (tCons (tC (.ty "int")) (tNil)))))) (tRet (tC (.bl false))) (tNext))
    (tIfS (tB (tCB (rIsiT K) (tCons (tVar 4) (tCons (tTup (tCons (tC (.ty "tuple")) (tCons (tC (.ty "list")) (tNil)))) (tNil))))) (tSeq (tIfS (tTest (tOp rNe (tCB (qLen K) (tCons (tVar 3) (tNil))) (tCB (qLen K) (tCons (tVar 4) (tNil))))) (tRet (tC (.bl false))) (tNext))
    (tDrop (tBM K "list" rExtend (tVar 2) (tCons (tCB (Wf.rLstZip K) (tCons (tVar 3) (tCons (tVar 4) (tNil)))) (tNil))))) (tIfS (tTest (tOp (rNeD K) (tVar 3) (tVar 4))) (tRet (tC (.bl false))) (tNext))))))))
    (tRet (tC (.bl true))))
def sp_alike (K : PySem.W.Frag) : Sp := fun vs H Q _ => ∃ (x y : V) (d : PyData), vs = [x, y] ∧ Dp K H x d ∧ Dp K H y d ∧ noL d = true ∧ wt d ≤ 1000000 ∧ ∀ H', Same H H' → Q (.bl true) H'
theorem kit5 {d : PyData} (n : noL d = true) : (∃ b, kitB (tyN d) "bool" = some b) ∧ (∃ b, kitB (tyN d) "tuple" = some b) ∧ (∃ b, kitB (tyN d) "list" = some b) ∧ (∃ b, kitB (tyN d) "str" = some b) ∧ (∃ b, kitB (tyN d) "int" = some b) := by
  cases d with
  | none => exact ⟨⟨false, by decide +kernel⟩, ⟨false, by decide +kernel⟩, ⟨false, by decide +kernel⟩, ⟨false, by decide +kernel⟩, ⟨false, by decide +kernel⟩⟩
  | bool b => exact ⟨⟨true, by show kitB "bool" _ = _; decide +kernel⟩, ⟨false, by show kitB "bool" _ = _; decide +kernel⟩, ⟨false, by show kitB "bool" _ = _; decide +kernel⟩, ⟨false, by show kitB "bool" _ = _; decide +kernel⟩, ⟨true, by show kitB "bool" _ = _; decide +kernel⟩⟩
  | int b => exact ⟨⟨false, by show kitB "int" _ = _; decide +kernel⟩, ⟨false, by show kitB "int" _ = _; decide +kernel⟩, ⟨false, by show kitB "int" _ = _; decide +kernel⟩, ⟨false, by show kitB "int" _ = _; decide +kernel⟩, ⟨true, by show kitB "int" _ = _; decide +kernel⟩⟩
  | str b => exact ⟨⟨false, by show kitB "str" _ = _; decide +kernel⟩, ⟨false, by show kitB "str" _ = _; decide +kernel⟩, ⟨false, by show kitB "str" _ = _; decide +kernel⟩, ⟨true, by show kitB "str" _ = _; decide +kernel⟩, ⟨false, by show kitB "str" _ = _; decide +kernel⟩⟩
  | tuple b => exact ⟨⟨false, by show kitB "tuple" _ = _; decide +kernel⟩, ⟨true, by show kitB "tuple" _ = _; decide +kernel⟩, ⟨false, by show kitB "tuple" _ = _; decide +kernel⟩, ⟨false, by show kitB "tuple" _ = _; decide +kernel⟩, ⟨false, by show kitB "tuple" _ = _; decide +kernel⟩⟩
  | list b => exact nomatch n
  | dict b => exact nomatch n
/-- a pair that waits: where it stands, both, and what both are -/
structure Wt (K : PySem.W.Frag) (H : Hp) (p : Addr) (a b : V) (d : PyData) : Prop where
  at_ : H p = some (.tup [a, b])
  one : Dp K H a d
  two : Dp K H b d
  no : noL d = true
theorem Wt.tp {K : PySem.W.Frag} {H H' : Hp} {p : Addr} {a b : V} {d : PyData} (w : Wt K H p a b d) (t : Tp K H H') (h : H' p = some (.tup [a, b])) : Wt K H' p a b d := ⟨h, Dp.tp t d a w.no w.one, Dp.tp t d b w.no w.two, w.no⟩
abbrev Ent : Type := Addr × V × V × PyData
def Waits (K : PySem.W.Frag) (H : Hp) (es : List Ent) : Prop := ∀ e ∈ es, Wt K H e.1 e.2.1 e.2.2.1 e.2.2.2
def wts (es : List Ent) : Nat := (es.map fun e => wt e.2.2.2).sum
def mkE : List Addr → List V → List V → List PyData → List Ent
  | p :: ps, x :: xs, y :: ys, d :: ds => (p, x, y, d) :: mkE ps xs ys ds
  | _, _, _, _ => []
theorem mkE_fst : ∀ {ps : List Addr} {xs ys : List V} {ds : List PyData}, ps.length = ds.length → xs.length = ds.length → ys.length = ds.length → (mkE ps xs ys ds).map (fun e => V.ref e.1) = ps.map V.ref
  | [], _, _, [], _, _, _ => by simp [mkE]
  | _ :: _, [], _, _ :: _, _, h, _ => by simp at h
  | _ :: _, _ :: _, [], _ :: _, _, _, h => by simp at h
  | p :: ps, x :: xs, y :: ys, d :: ds, h1, h2, h3 => by
    have ih := mkE_fst (ps := ps) (xs := xs) (ys := ys) (ds := ds) (by simpa using h1) (by simpa using h2) (by simpa using h3)
    simp only [mkE, List.map_cons, ih]
theorem mkE_wts : ∀ {ps : List Addr} {xs ys : List V} {ds : List PyData}, ps.length = ds.length → xs.length = ds.length → ys.length = ds.length → wts (mkE ps xs ys ds) = wtAll ds
  | [], _, _, [], _, _, _ => by simp [mkE, wts, wtAll]
  | _ :: _, [], _, _ :: _, _, h, _ => by simp at h
  | _ :: _, _ :: _, [], _ :: _, _, _, h => by simp at h
  | p :: ps, x :: xs, y :: ys, d :: ds, h1, h2, h3 => by
    have ih := mkE_wts (ps := ps) (xs := xs) (ys := ys) (ds := ds) (by simpa using h1) (by simpa using h2) (by simpa using h3)
    simp only [wts] at ih
    simp only [mkE, wts, wtAll, List.map_cons, List.sum_cons, ih]
theorem mkE_mem : ∀ {ps : List Addr} {xs ys : List V} {ds : List PyData} {e : Ent}, e ∈ mkE ps xs ys ds → ∃ i : Nat, ps[i]? = some e.1 ∧ xs[i]? = some e.2.1 ∧ ys[i]? = some e.2.2.1 ∧ ds[i]? = some e.2.2.2
  | [], _, _, _, _, h => by simp [mkE] at h
  | _ :: _, [], _, _, _, h => by simp [mkE] at h
  | _ :: _, _ :: _, [], _, _, h => by simp [mkE] at h
  | _ :: _, _ :: _, _ :: _, [], _, h => by simp [mkE] at h
  | p :: ps, x :: xs, y :: ys, d :: ds, e, h => by
    simp only [mkE, List.mem_cons] at h
    rcases h with rfl | h
    · exact ⟨0, rfl, rfl, rfl, rfl⟩
    · obtain ⟨i, h1, h2, h3, h4⟩ := mkE_mem h
      exact ⟨i + 1, by simpa using h1, by simpa using h2, by simpa using h3, by simpa using h4⟩
theorem wt_pos (d : PyData) : 1 ≤ wt d := by cases d <;> simp [wt]
theorem wts_len : ∀ es : List Ent, es.length ≤ wts es
  | [] => Nat.zero_le _
  | e :: es => by
    have ih := wts_len es
    have := wt_pos e.2.2.2
    simp only [wts] at ih
    simp only [wts, List.map_cons, List.sum_cons, List.length_cons]
    omega
theorem wtAll_len : ∀ ds : List PyData, ds.length ≤ wtAll ds
  | [] => Nat.zero_le _
  | d :: ds => by
    have ih := wtAll_len ds
    have := wt_pos d
    simp only [wtAll, List.length_cons]
    omega
theorem pure_alike {K : PySem.W.Frag} (vs : List V) (H : Hp) (Q : VK) (E : XK) (h : sp_alike K vs H Q E) : t_alike K (EndsQ Q) (sN 5 vs) H := by
  obtain ⟨x, y, d, rfl, hx, hy, hn, hw, k⟩ := h
  show t_alike K _ [some x, some y, none, none, none] H
  refine ⟨x, rfl, y, rfl, (by show 2 ≤ sizeLine; decide), fun p hp => ⟨(by show 1 ≤ sizeLine; decide), fun L hL => ?_⟩⟩
  have hpL : p ≠ L := ne_of_none upd_same hL
  have hLp : H L = none := by rw [upd_ne (Ne.symm hpL)] at hL; exact hL
  have s0 : Same H (upd (upd H p (.tup [x, y])) L (.lst [.ref p])) := Same.trans (same_new hp) (same_new hL)
  refine ⟨fun m σ H1 => ∃ (s3 s4 : Option V) (es : List Ent), σ = [some x, some y, some (.ref L), s3, s4] ∧ Same H H1 ∧ H1 L = some (.lst (es.map fun e => V.ref e.1)) ∧ Waits K H1 es ∧ m = wts es ∧ m ≤ 1000000, ⟨wt d, none, none, [(p, x, y, d)], rfl, s0, upd_same, ?_, by simp [wts], hw⟩, ?_⟩
  · intro e he
    rw [List.mem_singleton.mp he]
    exact ⟨by rw [upd_ne hpL]; exact upd_same, Dp.tp (Same.tp s0) d x hn hx, Dp.tp (Same.tp s0) d y hn hy, hn⟩
  rintro m σ H1 ⟨s3, s4, es, rfl, hS, hL1, hW, rfl, hm⟩
  refine ⟨_, rfl, _, (es.map fun e => V.ref e.1).length, rfl, .inl ⟨_, SqL.of hL1, rfl⟩, _, _, rfl, rfl, _, rfl, ?_⟩
  refine ifd (fun c => ?_) (fun c => ?_)
  · -- a turn
    have hpos : es ≠ [] := by
      rintro rfl
      exact absurd c (by decide)
    obtain ⟨es', e, rfl⟩ : ∃ es' e, es = es' ++ [e] := ⟨es.dropLast, es.getLast hpos, (List.dropLast_concat_getLast hpos).symm⟩
    obtain ⟨p, a, b, d⟩ := e
    have w := hW (p, a, b, d) (by simp)
    refine ⟨fun σ' H' => ∃ m', m' < wts (es' ++ [(p, a, b, d)]) ∧ _, fun _ _ h => h, ?_⟩
    refine ⟨_, rfl, .inl ⟨rfl, _, SqL.of hL1⟩, L, _, .ref p, rfl, rfl, hL1, ?_, ?_⟩
    · simp
    have e1 : ((es' ++ [(p, a, b, d)]).map fun e => V.ref e.1).dropLast = es'.map fun e => V.ref e.1 := by simp
    rw [e1]
    generalize hH2 : upd H1 L (.lst (es'.map fun e => V.ref e.1)) = H2
    have t12 : Tp K H1 H2 := by rw [← hH2]; exact tp_upd (not_lst hL1)
    have hS2 : Same H H2 := fun c o e => by
      rw [← hH2, upd_ne (ne_of_none e hLp)]
      exact hS c o e
    have hL2 : H2 L = some (.lst (es'.map fun e => V.ref e.1)) := by rw [← hH2]; exact upd_same
    have pn : ∀ {c zs}, H1 c = some (.tup zs) → H2 c = some (.tup zs) := fun {c zs} e => by
      rw [← hH2, upd_ne (ne_of e hL1 (by intro z; cases z))]
      exact e
    have w2 := w.tp t12 (pn w.at_)
    have hW2 : Waits K H2 es' := fun e he => (hW e (by simp [he])).tp t12 (pn (hW e (by simp [he])).at_)
    have hm2 : wts (es' ++ [(p, a, b, d)]) = wts es' + wt d := by simp [wts]
    refine ⟨p, [a, b], rfl, SqT.of w2.at_, rfl, a, _, rfl, b, _, rfl, rfl, ?_⟩
    obtain ⟨⟨b1, k1⟩, ⟨b2, k2⟩, ⟨b3, k3⟩, ⟨b4, k4⟩, ⟨b5, k5⟩⟩ := kit5 w2.no
    refine ne_isi rfl rfl w2.no w2.one w2.two k1 (iteF ?_)
    refine ne_isi rfl rfl w2.no w2.one w2.two k2 (iteF ?_)
    refine ne_isi rfl rfl w2.no w2.one w2.two k3 (iteF ?_)
    refine ne_isi rfl rfl w2.no w2.one w2.two k4 (iteF ?_)
    refine ne_isi rfl rfl w2.no w2.one w2.two k5 (iteF ?_)
    refine ⟨_, rfl, (by show 2 ≤ sizeLine; decide), fun tp htp => ?_⟩
    have t23 : Same H2 (upd H2 tp (.tup [.ty "tuple", .ty "list"])) := same_new htp
    generalize hH3 : upd H2 tp (.tup [.ty "tuple", .ty "list"]) = H3 at t23
    have htp3 : H3 tp = some (.tup [.ty "tuple", .ty "list"]) := by rw [← hH3]; exact upd_same
    have w3 := w2.tp (Same.tp t23) (t23 _ _ w2.at_)
    have hW3 : Waits K H3 es' := fun e he => (hW2 e he).tp (Same.tp t23) (t23 _ _ (hW2 e he).at_)
    have hS3 : Same H H3 := hS2.trans t23
    have hL3 := t23 _ _ hL2
    have nxt : ∀ (H5 : Hp) (s3 s4 : Option V) (es5 : List Ent), Same H H5 → H5 L = some (.lst (es5.map fun e => V.ref e.1)) → Waits K H5 es5 → wts es5 < wts (es' ++ [(p, a, b, d)]) →
        ∃ m', m' < wts (es' ++ [(p, a, b, d)]) ∧ ∃ (t3 t4 : Option V) (es : List Ent), [some x, some y, some (V.ref L), s3, s4] = [some x, some y, some (.ref L), t3, t4] ∧ Same H H5 ∧ H5 L = some (.lst (es.map fun e => V.ref e.1)) ∧ Waits K H5 es ∧ m' = wts es ∧ m' ≤ 1000000 :=
      fun H5 s3 s4 es5 q1 q2 q3 q4 => ⟨_, q4, s3, s4, es5, rfl, q1, q2, q3, rfl, by omega⟩
    have key : (∃ ds, d = .tuple ds) ∨ (SeqAt.shaped d = true ∧ PySem.W.kitAny K (.type (tyN d)) [.type "tuple", .type "list"] = some false) := by
      cases d with
      | list ds => exact nomatch w2.no
      | dict ds => exact nomatch w2.no
      | tuple ds => exact .inl ⟨ds, rfl⟩
      | none => exact .inr ⟨rfl, kitAny_cons (kit_ty (r := false) (by decide +kernel)) (fun _ => kitAny_cons (kit_ty (r := false) (by decide +kernel)) (fun _ => kitAny_nil) (fun z => nomatch z)) (fun z => nomatch z)⟩
      | bool b => exact .inr ⟨rfl, kitAny_cons (kit_ty (a := "bool") (r := false) (by decide +kernel)) (fun _ => kitAny_cons (kit_ty (a := "bool") (r := false) (by decide +kernel)) (fun _ => kitAny_nil) (fun z => nomatch z)) (fun z => nomatch z)⟩
      | int b => exact .inr ⟨rfl, kitAny_cons (kit_ty (a := "int") (r := false) (by decide +kernel)) (fun _ => kitAny_cons (kit_ty (a := "int") (r := false) (by decide +kernel)) (fun _ => kitAny_nil) (fun z => nomatch z)) (fun z => nomatch z)⟩
      | str b => exact .inr ⟨by have n := w2.no; simp only [noL] at n; simp [SeqAt.shaped, n, PyData.depth], kitAny_cons (kit_ty (a := "str") (r := false) (by decide +kernel)) (fun _ => kitAny_cons (kit_ty (a := "str") (r := false) (by decide +kernel)) (fun _ => kitAny_nil) (fun z => nomatch z)) (fun z => nomatch z)⟩
    rcases key with ⟨ds, rfl⟩ | ⟨hsh, hkit⟩
    rotate_left
    · refine ⟨b, tp, [.ty "tuple", .ty "list"], .type (tyN d), [.type "tuple", .type "list"], false, rfl, htp3, .cons (.ty _) (.cons (.ty _) .nil), Dp.ty w3.no w3.two, hkit, _, rfl, iteF ⟨_, rfl, _, rfl, d, d, w3.one, w3.two, hsh, hsh, _, rfl, ?_⟩⟩
      rw [SeqAt.eqv_refl d (SeqAt.canLay_of_shaped hsh)]
      exact iteF (nxt H3 _ _ es' hS3 hL3 hW3 (by rw [hm2]; have := wt_pos d; omega))
    · refine ⟨b, tp, [.ty "tuple", .ty "list"], .type "tuple", [.type "tuple", .type "list"], true, rfl, htp3, .cons (.ty _) (.cons (.ty _) .nil), Dp.ty w3.no w3.two, kitAny_cons (kit_ty (b := "tuple") (r := true) (by decide +kernel)) (fun z => nomatch z) (fun _ => rfl), _, rfl, iteT ?_⟩
      have c1 : Dp K H3 a (.tuple ds) := w3.one
      have c2 : Dp K H3 b (.tuple ds) := w3.two
      cases c1 with
      | tup hs1 ha1 =>
        cases c2 with
        | tup hs2 ha2 =>
          rename_i aa xs bb ys
          have l1 := DpAll.len ha1
          have l2 := DpAll.len ha2
          refine ⟨_, rfl, _, xs.length, rfl, .inr ⟨_, hs1, rfl⟩, _, rfl, _, ys.length, rfl, .inr ⟨_, hs2, rfl⟩, rfl, _, rfl, ?_⟩
          rw [l1, l2]
          refine iteNS rfl ?_
          refine ⟨_, rfl, .inl ⟨rfl, _, SqL.of hL3⟩, _, rfl, _, rfl, aa, bb, xs, ys, rfl, hs1, hs2, by rw [l1, l2], fun q ps H4 hq hps s34 hq4 hlen hget => ?_⟩
          have hL4 := s34 _ _ hL3
          have lp : ps.length = ds.length := by rw [hlen, l1]
          have hwd : wt (.tuple ds) = wtAll ds + 1 := by simp [wt]
          have hLq : L ≠ q := ne_of_none hL3 hq
          have big := wts_len es'
          have big2 : ps.length ≤ wtAll ds := by rw [lp]; exact wtAll_len ds
          refine ⟨L, q, _, _, rfl, rfl, hL4, hq4, ?_, ?_⟩
          · rw [List.length_map, List.length_map]
            exact Nat.le_trans (show es'.length + ps.length ≤ 1000000 by omega) (by decide)
          · have e5 : (es'.map fun e => V.ref e.1) ++ ps.map V.ref = (es' ++ mkE ps xs ys ds).map fun e => V.ref e.1 := by rw [List.map_append, mkE_fst lp l1 l2]
            rw [e5]
            have t45 : Tp K H4 (upd H4 L (.lst ((es' ++ mkE ps xs ys ds).map fun e => V.ref e.1))) := tp_upd (not_lst hL4)
            have t35 := (Same.tp s34).trans t45
            have pn5 : ∀ {c zs}, H4 c = some (.tup zs) → upd H4 L (.lst ((es' ++ mkE ps xs ys ds).map fun e => V.ref e.1)) c = some (.tup zs) := fun {c zs} e => by
              rw [upd_ne (ne_of e hL4 (by intro z; cases z))]
              exact e
            refine nxt _ _ _ (es' ++ mkE ps xs ys ds) (fun c o e => ?_) upd_same (fun e he => ?_) ?_
            · rw [upd_ne (ne_of_none e hLp)]
              exact s34 _ _ (hS3 _ _ e)
            · rcases List.mem_append.mp he with he | he
              · exact (hW3 e he).tp t35 (pn5 (s34 _ _ (hW3 e he).at_))
              · obtain ⟨i, i1, i2, i3, i4⟩ := mkE_mem he
                obtain ⟨u, v, g1, g2, g3⟩ := hget i _ i1
                rw [i2] at g1
                rw [i3] at g2
                cases g1
                cases g2
                have nd : noL e.2.2.2 = true := noLAll_get w3.no i4
                obtain ⟨u', f1, f2⟩ := DpAll.get ha1 i4
                obtain ⟨v', f3, f4⟩ := DpAll.get ha2 i4
                rw [i2] at f1
                rw [i3] at f3
                cases f1
                cases f3
                exact ⟨pn5 g3, Dp.tp t35 _ _ nd f2, Dp.tp t35 _ _ nd f4, nd⟩
            · rw [hm2, hwd]
              have : wts (es' ++ mkE ps xs ys ds) = wts es' + wtAll ds := by
                rw [← mkE_wts lp l1 l2]
                simp [wts]
              omega
  · exact k H1 hS
end Wf

/-! The books that the draws make. -/
namespace Wf
open PySem PySem.Spec L2
def dP (p : Int × Int) : PyData := .tuple [.int p.1, .int p.2]
theorem noL_dP (p : Int × Int) : noL (dP p) = true := rfl
theorem dP_new {K : PySem.W.Frag} {H : Hp} {p : Addr} {x y : Int} (h : H p = some (.tup [.int x, .int y])) : Dp K H (.ref p) (dP (x, y)) := .tup (SqT.of h) (.cons (.int x) (.cons (.int y) .nil))
theorem dP_at {K : PySem.W.Frag} {H : Hp} {v : V} {p : Int × Int} (h : Dp K H v (dP p)) : ∃ a, v = .ref a ∧ SqT K H a [.int p.1, .int p.2] := by
  cases h with
  | tup hs ha =>
    cases ha with
    | cons h1 h2 =>
      cases h2 with
      | cons h3 h4 =>
        cases h4
        cases h1
        cases h3
        exact ⟨_, rfl, hs⟩
/-! ### _law_pair -/
def pairF (f s : Int) (st : Int × Int) (a b : Int) : Int × Int :=
  if f = 0 then (b, a) else if f = 1 then (a, b) else if f = 2 then ((if b < a then b else a), (if b > a then b else a)) else if f = 3 then (b, (2 * b - a) % s) else ((b + st.2) % s, (a + st.1) % s)
def sp_pair (K : PySem.W.Frag) : Sp := fun vs H Q _ => ∃ (f s a b : Int) (v : V) (st : Int × Int), vs = [.int f, .int s, v, .int a, .int b] ∧ Dp K H v (dP st) ∧ 0 ≤ f ∧ f ≤ 4 ∧ 0 < s ∧
  ∀ u H', Same H H' → Dp K H' u (dP (pairF f s st a b)) → Q u H'
def t_pair (K : PySem.W.Frag) : TS :=
  tSeq (tAsg (tVar 2) (gTup K 2 (gCons (gName 6) (gCons (gName 7) (gNil)))))
    (tSeq (tAsg (tLst (tCons (tTup (tCons (tVar 4) (tCons (tVar 3) (tNil)))) (tCons (tTup (tCons (tVar 3) (tCons (tVar 4) (tNil)))) (tCons (tTup (tCons (tCB (qMin2) (tCons (tVar 3) (tCons (tVar 4) (tNil)))) (tCons (tCB (qMax2) (tCons (tVar 3) (tCons (tVar 4) (tNil)))) (tNil)))) (tCons (tTup (tCons (tVar 4) (tCons (tOp qMod (tOp qSub (tOp qMul (tC (.int 2)) (tVar 4)) (tVar 3)) (tVar 1)) (tNil)))) (tCons (tTup (tCons (tOp qMod (tOp qAdd (tVar 4) (tVar 7)) (tVar 1)) (tCons (tOp qMod (tOp qAdd (tVar 3) (tVar 6)) (tVar 1)) (tNil)))) (tNil))))))) (gName 5))
    (tRet (tOp (rIxL K) (tVar 5) (tVar 0))))
theorem pure_pair {K : PySem.W.Frag} (vs : List V) (H : Hp) (Q : VK) (E : XK) (h : sp_pair K vs H Q E) : t_pair K (EndsQ Q) (sN 8 vs) H := by
  obtain ⟨f, s, a, b, v, st, rfl, hv, f0, f4, hs, k⟩ := h
  show t_pair K _ [some (.int f), some (.int s), some v, some (.int a), some (.int b), none, none, none] H
  obtain ⟨x, rfl, hx⟩ := dP_at hv
  refine ⟨_, rfl, x, _, rfl, hx, rfl, _, _, rfl, _, _, rfl, rfl, ?_⟩
  refine ⟨_, rfl, _, rfl, (by show 2 ≤ sizeLine; decide), fun p0 h0 => ?_⟩
  refine ⟨_, rfl, _, rfl, (by show 2 ≤ sizeLine; decide), fun p1 h1 => ?_⟩
  refine ⟨_, rfl, _, rfl, _, _, rfl, _, rfl, _, rfl, _, _, rfl, (by show 2 ≤ sizeLine; decide), fun p2 h2 => ?_⟩
  refine ⟨_, rfl, _, rfl, _, _, rfl, rfl, .inl ⟨by decide, by decide⟩, _, rfl, _, _, rfl, rfl, _, rfl, _, _, rfl, rfl, hs, (by show 2 ≤ sizeLine; decide), fun p3 h3 => ?_⟩
  refine ⟨_, rfl, _, rfl, _, _, rfl, rfl, _, rfl, _, _, rfl, rfl, hs, _, rfl, _, rfl, _, _, rfl, rfl, _, rfl, _, _, rfl, rfl, hs, (by show 2 ≤ sizeLine; decide), fun p4 h4 => ?_⟩
  refine ⟨(by show 5 ≤ sizeLine; decide), fun L hL => ?_⟩
  have s0 := same_new (o := .tup [.int b, .int a]) h0
  have s1 := same_new (o := .tup [.int a, .int b]) h1
  have s2 := same_new (o := .tup [.int (if b < a then b else a), .int (if b > a then b else a)]) h2
  have s3 := same_new (o := .tup [.int b, .int ((2 * b - a) % s)]) h3
  have s4 := same_new (o := .tup [.int ((b + st.2) % s), .int ((a + st.1) % s)]) h4
  have sL := same_new (o := .lst [.ref p0, .ref p1, .ref p2, .ref p3, .ref p4]) hL
  have all := s0.trans (s1.trans (s2.trans (s3.trans (s4.trans sL))))
  have hf : f = 0 ∨ f = 1 ∨ f = 2 ∨ f = 3 ∨ f = 4 := by omega
  rcases hf with rfl | rfl | rfl | rfl | rfl
  · exact ⟨_, rfl, _, rfl, L, _, 0, .ref p0, rfl, rfl, SqL.of upd_same, rfl, k _ _ all (dP_new ((s1.trans (s2.trans (s3.trans (s4.trans sL)))) _ _ upd_same))⟩
  · exact ⟨_, rfl, _, rfl, L, _, 1, .ref p1, rfl, rfl, SqL.of upd_same, rfl, k _ _ all (dP_new ((s2.trans (s3.trans (s4.trans sL))) _ _ upd_same))⟩
  · exact ⟨_, rfl, _, rfl, L, _, 2, .ref p2, rfl, rfl, SqL.of upd_same, rfl, k _ _ all (dP_new ((s3.trans (s4.trans sL)) _ _ upd_same))⟩
  · exact ⟨_, rfl, _, rfl, L, _, 3, .ref p3, rfl, rfl, SqL.of upd_same, rfl, k _ _ all (dP_new ((s4.trans sL) _ _ upd_same))⟩
  · exact ⟨_, rfl, _, rfl, L, _, 4, .ref p4, rfl, rfl, SqL.of upd_same, rfl, k _ _ all (dP_new (sL _ _ upd_same))⟩
theorem atI_neg1 {α : Type} {xs : List α} (h : 0 < xs.length) : atI xs (-1) = xs[xs.length - 1]? := by
  have e : ixN xs.length (-1) = some (xs.length - 1) := by
    unfold ixN
    rw [if_neg (by decide), if_pos (by omega)]
    congr 1
    omega
  unfold atI
  rw [e]
  rfl
/-! ### _law_paces -/
def scan (f : Int) : List Int → List Int
  | [] => [f]
  | n :: ns => f :: scan (f + n) ns
theorem scan_len : ∀ (f : Int) (ns : List Int), (scan f ns).length = ns.length + 1
  | _, [] => rfl
  | f, n :: ns => by simp [scan, scan_len (f + n) ns]
theorem scan_app : ∀ (f : Int) (ns : List Int) (n : Int), scan f (ns ++ [n]) = scan f ns ++ [f + ns.sum + n]
  | f, [], n => by simp [scan]
  | f, m :: ns, n => by
    rw [List.cons_append, scan, scan_app (f + m) ns n, scan, List.cons_append, List.sum_cons]
    congr 3
    omega
theorem scan_last : ∀ (f : Int) (ns : List Int), (scan f ns)[ns.length]? = some (f + ns.sum)
  | f, [] => by simp [scan]
  | f, m :: ns => by
    rw [scan, List.length_cons, List.getElem?_cons_succ, scan_last (f + m) ns, List.sum_cons]
    congr 1
    omega
theorem sum_bounds : ∀ {ns : List Int} {B : Int}, (∀ x ∈ ns, 1 ≤ x ∧ x ≤ B) → (ns.length : Int) ≤ ns.sum ∧ ns.sum ≤ ns.length * B
  | [], _, _ => by simp
  | n :: ns, B, h => by
    have h1 := h n List.mem_cons_self
    have h2 := sum_bounds (fun x hx => h x (List.mem_cons_of_mem _ hx))
    rw [List.sum_cons, List.length_cons]
    have e : ((ns.length + 1 : Nat) : Int) * B = ns.length * B + B := by rw [Int.natCast_add, Int.add_mul]; simp
    rw [e]
    constructor <;> omega
theorem scan_mem : ∀ {ns : List Int} {f x : Int}, (∀ y ∈ ns, 1 ≤ y) → x ∈ scan f ns → f ≤ x ∧ x ≤ f + ns.sum
  | [], f, x, _, h => by
    simp [scan] at h
    simp
    omega
  | n :: ns, f, x, hn, h => by
    have h1 := hn n List.mem_cons_self
    have hn' : ∀ y ∈ ns, 1 ≤ y := fun y hy => hn y (List.mem_cons_of_mem _ hy)
    have hs : 0 ≤ ns.sum := by
      clear h hn
      induction ns with
      | nil => simp
      | cons m ms ih =>
        have := hn' m List.mem_cons_self
        have := ih fun y hy => hn' y (List.mem_cons_of_mem _ hy)
        rw [List.sum_cons]
        omega
    rw [List.sum_cons]
    rcases List.mem_cons.mp h with rfl | h
    · constructor <;> omega
    · have := scan_mem hn' h
      constructor <;> omega
theorem scan_rise : ∀ {ns : List Int} {f : Int}, (∀ y ∈ ns, 1 ≤ y) → (scan f ns).Pairwise (· < ·)
  | [], f, _ => by simp [scan]
  | n :: ns, f, hn => by
    have h1 := hn n List.mem_cons_self
    have hn' : ∀ y ∈ ns, 1 ≤ y := fun y hy => hn y (List.mem_cons_of_mem _ hy)
    rw [scan, List.pairwise_cons]
    refine ⟨fun x hx => ?_, scan_rise hn'⟩
    have := scan_mem hn' hx
    omega
structure PacesOk (m : Int) (ps : List Int) : Prop where
  len : (ps.length : Int) = m
  rise : ps.Pairwise (· < ·)
  lo : ∀ p ∈ ps, -1000 ≤ p ∧ p ≤ 1000
def dI (ps : List Int) : PyData := .tuple (ps.map .int)
theorem dp_ints {K : PySem.W.Frag} {H : Hp} : ∀ ns : List Int, DpAll K H (ns.map V.int) (ns.map PyData.int)
  | [] => .nil
  | n :: ns => .cons (.int n) (dp_ints ns)
theorem noLAll_ints : ∀ ns : List Int, noLAll (ns.map PyData.int) = true
  | [] => rfl
  | n :: ns => by simp [noLAll, noL, noLAll_ints ns]
def sp_paces (K : PySem.W.Frag) : Sp := fun vs H Q _ => ∃ (d l : Addr) (m : Int), vs = [.ref d, .int m] ∧ 1 ≤ m ∧ m ≤ 5 ∧ Deal H d l ∧
  ∀ (v : V) (ps : List Int) (H' : Hp), But [d, l] H H' → Deal H' d l → Dp K H' v (dI ps) → PacesOk m ps → Q v H'
theorem Deal.ne {H : Hp} {d l p : Addr} (h : Deal H d l) (hp : H p = none) : p ≠ d ∧ p ≠ l := by
  obtain ⟨s, m, n, ns, h1, h2, _⟩ := h.ex
  exact ⟨fun e => (by rw [e, h1] at hp; cases hp), fun e => (by rw [e, h2] at hp; cases hp)⟩
theorem But.at {H H' : Hp} {d l p : Addr} {o : HO} (b : But [d, l] H H') (n : p ≠ d ∧ p ≠ l) (h : H p = some o) : H' p = some o := b p o (by simp [n.1, n.2]) h
theorem But.new {ds : List Addr} {H H' : Hp} {p : Addr} {o : HO} (b : But ds H H') (hp : H p = none) : But ds H (upd H' p o) := fun a u n e => by
  rw [upd_ne (ne_of_none e hp)]
  exact b a u n e
theorem Deal.upd {H : Hp} {d l p : Addr} {o : HO} (h : Deal H d l) (n : p ≠ d ∧ p ≠ l) : Deal (upd H p o) d l := by
  obtain ⟨s, m, k, ns, h1, h2, h3⟩ := h.ex
  exact ⟨s, m, k, ns, by rw [upd_ne (Ne.symm n.1)]; exact h1, by rw [upd_ne (Ne.symm n.2)]; exact h2, h3⟩
theorem Deal.noT {H : Hp} {d l : Addr} (h : Deal H d l) : ∀ x ∈ [d, l], NoT H x := by
  obtain ⟨s, m, k, ns, h1, h2, h3⟩ := h.ex
  intro x hx
  rcases List.mem_cons.mp hx with rfl | hx
  · exact not_dK h1
  · rw [List.mem_singleton.mp hx]
    exact not_lst h2
def t_paces (K : PySem.W.Frag) (sp_draw : Sp) : TS :=
  tSeq (tAsg (tLst (tCons (tC (.int 2)) (tCons (tC (.int 9)) (tCons (tC (.int 400)) (tCons (tOp qFdiv (tC (.int 2000)) (tCB (qMax2) (tCons (tC (.int 1)) (tCons (tOp qSub (tVar 1) (tC (.int 1))) (tNil))))) (tNil)))))) (gName 2))
    (tSeq (tAsg (tLc (iRng1 (tCons (tOp qSub (tVar 1) (tC (.int 1))) (tNil))) (gName 6) (tYes) (tOp qAdd (tC (.int 1)) (tCall sp_draw [] E0 (tCons (tVar 0) (tCons (tOp (rIxL K) (tVar 2) (tCall sp_draw [] E0 (tCons (tVar 0) (tCons (tC (.int 4)) (tNil))))) (tNil))))) [6]) (gName 3))
    (tSeq (tAsg (tLst (tCons (tOp qSub (tCall sp_draw [] E0 (tCons (tVar 0) (tCons (tOp qSub (tC (.int 2001)) (tCB (rSum K) (tCons (tVar 3) (tNil)))) (tNil)))) (tC (.int 1000))) (tNil))) (gName 4))
    (tSeq (tFor (iList K (tVar 3)) (gName 5) (tDrop (tBM K "list" rAppend (tVar 4) (tCons (tOp qAdd (tOp (rIxL K) (tVar 4) (tUn qNeg (tC (.int 1)))) (tVar 5)) (tNil)))))
    (tRet (tCB (qTupleOf K) (tCons (tVar 4) (tNil)))))))
theorem pure_paces {K : PySem.W.Frag} (vs : List V) (H : Hp) (Q : VK) (E : XK) (h : sp_paces K vs H Q E) : t_paces K sp_draw (EndsQ Q) (sN 7 vs) H := by
  obtain ⟨d, l, m, rfl, m1, m5, hD, k⟩ := h
  show t_paces K sp_draw _ [some (.ref d), some (.int m), none, none, none, none, none] H
  have hM : 1 ≤ (if m - 1 > 1 then m - 1 else 1) ∧ (if m - 1 > 1 then m - 1 else 1) ≤ 4 := by split <;> omega
  generalize hMe : (if m - 1 > 1 then m - 1 else 1) = M at hM
  refine ⟨_, rfl, _, _, rfl, rfl, _, _, rfl, ?_⟩
  rw [hMe]
  refine ⟨_, _, rfl, rfl, ⟨by omega, by omega⟩, (by show 4 ≤ sizeLine; decide), fun W hW => ?_⟩
  have nW := hD.ne hW
  refine ⟨_, rfl, _, _, rfl, rfl, m - 1, rfl, by omega, by omega, fun D hDn => ?_⟩
  have hDW : W ≠ D := ne_of_none upd_same hDn
  have hD0 : H D = none := by rw [upd_ne (Ne.symm hDW)] at hDn; exact hDn
  have nD := hD.ne hD0
  have hB : 500 ≤ 2000 / M ∧ (m - 1) * (2000 / M) ≤ 2000 ∧ 2000 / M ≤ 2000 := by
    have hm : m = 1 ∨ m = 2 ∨ m = 3 ∨ m = 4 ∨ m = 5 := by omega
    rcases hm with rfl | rfl | rfl | rfl | rfl <;> (simp at hMe; subst hMe; decide)
  obtain ⟨B, hBe⟩ : ∃ B, B = 2000 / M := ⟨_, rfl⟩
  rw [← hBe] at hB
  refine lc_range (lo := 0) (n := (m - 1).toNat) (fun i H1 => But [d, l] H H1 ∧ Deal H1 d l ∧ H1 W = some (.lst [.int 2, .int 9, .int 400, .int B]) ∧ ∃ ns : List Int, H1 D = some (.lst (ns.map V.int)) ∧ ns.length = i ∧ ∀ x ∈ ns, 1 ≤ x ∧ x ≤ B) ?_ ?_ ?_
  · exact ⟨((But.refl _ _).new hW).new hD0, (hD.upd nW).upd nD, by rw [upd_ne hDW, hBe]; exact upd_same, [], upd_same, rfl, fun x hx => (List.not_mem_nil hx).elim⟩
  · rintro i H1 hi ⟨b1, d1, w1, ns, l1, ln, hns⟩
    refine ⟨rfl, ?_⟩
    simp only [tYes, ↓reduceIte]
    refine ⟨_, rfl, _, rfl, _, rfl, d, l, 4, rfl, by decide, by decide, d1, fun q H2 q0 q4 b2 d2 => ?_⟩
    have w2 := b2.at nW w1
    have l2 := b2.at nD l1
    have hq : ∃ z, atI [V.int 2, .int 9, .int 400, .int B] q = some (.int z) ∧ 1 ≤ z ∧ z ≤ B := by
      have hq : q = 0 ∨ q = 1 ∨ q = 2 ∨ q = 3 := by omega
      rcases hq with rfl | rfl | rfl | rfl
      · exact ⟨2, rfl, by omega, by omega⟩
      · exact ⟨9, rfl, by omega, by omega⟩
      · exact ⟨400, rfl, by omega, by omega⟩
      · exact ⟨B, rfl, by omega, by omega⟩
    obtain ⟨z, hz, z1, zB⟩ := hq
    refine ⟨W, _, q, .int z, rfl, rfl, SqL.of w2, hz, d, l, z, rfl, by omega, ?_, d2, fun r H3 r0 r1 b3 d3 => ?_⟩
    · omega
    have w3 := b3.at nW w2
    have l3 := b3.at nD l2
    refine ⟨_, _, rfl, rfl, _, l3, ?_, ?_⟩
    · rw [List.length_map, ln]
      exact Nat.lt_of_le_of_lt (show i ≤ 4 by omega) (by decide)
    · refine ⟨((b1.trans b2).trans b3).new hD0, d3.upd nD, by rw [upd_ne hDW]; exact w3, ns ++ [1 + r], ?_, by simp [ln], fun x hx => ?_⟩
      · rw [upd_same, List.map_append]
        rfl
      · rcases List.mem_append.mp hx with hx | hx
        · exact hns x hx
        · rw [List.mem_singleton.mp hx]
          omega
  · rintro H1 ⟨b1, d1, w1, ns, l1, ln, hns⟩
    have hsum := sum_bounds hns
    have hln : (ns.length : Int) = m - 1 := by omega
    rw [hln] at hsum
    refine ⟨_, rfl, _, rfl, D, ns, rfl, SqL.of l1, _, _, rfl, rfl, d, l, _, rfl, by omega, by omega, d1, fun r H2 r0 r1 b2 d2 => ?_⟩
    refine ⟨_, _, rfl, rfl, (by show 1 ≤ sizeLine; decide), fun F hF => ?_⟩
    have l2 := b2.at nD l1
    have hFD : F ≠ D := fun z => by rw [z, l2] at hF; cases hF
    have nF := d2.ne hF
    have hF0 : H F = none := by
      cases e : H F with
      | none => rfl
      | some o => rw [b2.at nF (b1.at nF e)] at hF; cases hF
    have hne1 : ∀ x ∈ ns, 1 ≤ x := fun x hx => (hns x hx).1
    refine ⟨_, rfl, D, rfl, ⟨_, SqL.of (by rw [upd_ne (Ne.symm hFD)]; exact l2)⟩, for_list (K := K) (a := D) (xs := ns.map V.int) (fun i σ H3 => ∃ s5 : Option V, σ = [some (.ref d), some (.int m), some (.ref W), some (.ref D), some (.ref F), s5, none] ∧ But [d, l] H H3 ∧ Deal H3 d l ∧ H3 D = some (.lst (ns.map V.int)) ∧ H3 F = some (.lst ((scan (r - 1000) (ns.take i)).map V.int))) ?_ ?_ ?_ ?_⟩
    · exact ⟨_, rfl, (b1.trans b2).new hF0, d2.upd nF, by rw [upd_ne (Ne.symm hFD)]; exact l2, upd_same⟩
    · rintro i σ H3 _ ⟨_, _, _, _, h3, _⟩
      exact SqL.of h3
    · rintro i x σ H3 hx ⟨s5, rfl, b3, d3, l3, f3⟩
      rw [List.getElem?_map] at hx
      obtain ⟨z, hz, rfl⟩ := Option.map_eq_some_iff.mp hx
      have hlt : i < ns.length := (List.getElem?_eq_some_iff.mp hz).1
      have etk : ns.take (i + 1) = ns.take i ++ [z] := by rw [List.take_add_one, hz]; rfl
      have elen : (ns.take i).length = i := by rw [List.length_take]; omega
      have eat : atI ((scan (r - 1000) (ns.take i)).map V.int) (-1) = some (.int (r - 1000 + (ns.take i).sum)) := by
        rw [atI_neg1 (by rw [List.length_map, scan_len]; exact Nat.succ_pos _), List.getElem?_map, List.length_map, scan_len, Nat.add_sub_cancel, scan_last]
        rfl
      refine ⟨_, rfl, .inl ⟨rfl, _, SqL.of f3⟩, _, rfl, _, rfl, F, _, -1, _, rfl, rfl, SqL.of f3, eat, _, rfl, _, _, rfl, rfl, F, _, _, rfl, rfl, f3, ?_, ?_⟩
      · rw [List.length_map, scan_len, elen]
        exact Nat.lt_of_le_of_lt (show i + 1 ≤ 5 by omega) (by decide)
      · refine ⟨some (.int z), rfl, b3.new hF0, d3.upd nF, by rw [upd_ne (Ne.symm hFD)]; exact l3, ?_⟩
        rw [upd_same, etk, scan_app, List.map_append]
        rfl
    · rintro σ H3 ⟨s5, rfl, b3, d3, l3, f3⟩
      rw [List.length_map, List.take_length] at f3
      refine ⟨_, rfl, F, _, rfl, .inl ⟨SqL.of f3, fun T hT => ?_⟩⟩
      have nT := d3.ne hT
      have hT0 : H T = none := by
        cases e : H T with
        | none => rfl
        | some o => rw [b3.at nT e] at hT; cases hT
      refine k _ (scan (r - 1000) ns) _ (b3.new hT0) (d3.upd nT) (.tup (SqT.of upd_same) (dp_ints _)) ⟨by rw [scan_len]; omega, scan_rise hne1, fun p hp => ?_⟩
      have := scan_mem hne1 hp
      omega
theorem erase_map {α β : Type} (f : α → β) : ∀ (l : List α) (k : Nat), (l.eraseIdx k).map f = (l.map f).eraseIdx k
  | [], _ => rfl
  | _ :: _, 0 => rfl
  | x :: l, k + 1 => by simp [erase_map f l k]
theorem erase_perm {α : Type} : ∀ {l : List α} {k : Nat} (h : k < l.length), (l[k] :: l.eraseIdx k).Perm l
  | [], _, h => absurd h (Nat.not_lt_zero _)
  | x :: l, 0, _ => .refl _
  | x :: l, k + 1, h => by
    have ih := erase_perm (l := l) (k := k) (by simpa using h)
    simp only [List.getElem_cons_succ, List.eraseIdx_cons_succ]
    exact (List.Perm.swap x _ _).trans (ih.cons x)
/-! ### _law_mixed -/
def iota (n : Int) : List Int := (List.range n.toNat).map fun (i : Nat) => (i : Int)
theorem rgV_iota (n : Int) : rgV 0 n = (iota n).map V.int := by
  unfold rgV iota
  rw [List.map_map, Int.sub_zero]
  apply List.map_congr_left
  intro a _
  show V.int (0 + (a : Int)) = V.int (a : Int)
  rw [Int.zero_add]
def sp_mixed : Sp := fun vs H Q _ => ∃ (d l : Addr) (n : Int), vs = [.ref d, .int n] ∧ 0 ≤ n ∧ n ≤ 1000 ∧ Deal H d l ∧
  ∀ (F : Addr) (ns : List Int) (H' : Hp), But [d, l] H H' → Deal H' d l → H F = none → H' F = some (.lst (ns.map V.int)) → ns.Perm (iota n) → Q (.ref F) H'
theorem But.none_of {H H' : Hp} {d l p : Addr} (b : But [d, l] H H') (n : p ≠ d ∧ p ≠ l) (h : H' p = none) : H p = none := by
  cases e : H p with
  | none => rfl
  | some o => rw [b.at n e] at h; cases h
theorem seqIx {k : Int} {n : Nat} (h0 : 0 ≤ k) (h1 : k < n) : seqIndex? k n = some k.toNat := by
  unfold seqIndex?
  have e : (if k < 0 then k + (n : Int) else k) = k := if_neg (by omega)
  simp only [e]
  rw [if_pos (by simp; omega)]
def t_mixed (K : PySem.W.Frag) (sp_draw : Sp) : TS :=
  tSeq (tPar 3 4 (tCons (tLstRg (tRg1 (tVar 1))) (tCons (tLst (tNil)) (tNil))))
    (tSeq (tFor (iRng1 (tCons (tVar 1) (tNil))) (gName 2) (tDrop (tBM K "list" rAppend (tVar 4) (tCons (tBM K "list" rPopAt (tVar 3) (tCons (tCall sp_draw [] E0 (tCons (tVar 0) (tCons (tCB (qLen K) (tCons (tVar 3) (tNil))) (tNil)))) (tNil))) (tNil)))))
    (tRet (tVar 4)))
theorem pure_mixed {K : PySem.W.Frag} (vs : List V) (H : Hp) (Q : VK) (E : XK) (h : sp_mixed vs H Q E) : t_mixed K sp_draw (EndsQ Q) (sN 5 vs) H := by
  obtain ⟨d, l, n, rfl, n0, n1, hD, k⟩ := h
  show t_mixed K sp_draw _ [some (.ref d), some (.int n), none, none, none] H
  refine ⟨_, rfl, n, rfl, ⟨by decide, by decide, by omega, by omega, by omega⟩, fun L hL => ?_⟩
  rw [rgV_iota]
  refine ⟨(by show 0 ≤ sizeLine; decide), fun F hF => ⟨_, _, rfl, ?_⟩⟩
  have nL := hD.ne hL
  have hLF : L ≠ F := ne_of_none upd_same hF
  have hF0 : H F = none := by rw [upd_ne (Ne.symm hLF)] at hF; exact hF
  have nF := hD.ne hF0
  have li : (iota n).length = n.toNat := by unfold iota; rw [List.length_map, List.length_range]
  refine ⟨_, rfl, n, rfl, by omega, by omega, for_range (lo := 0) (n := n.toNat) (fun i σ H1 => ∃ (s2 : Option V) (ls fs : List Int), σ = [some (.ref d), some (.int n), s2, some (.ref L), some (.ref F)] ∧ But [d, l] H H1 ∧ Deal H1 d l ∧ H1 L = some (.lst (ls.map V.int)) ∧ H1 F = some (.lst (fs.map V.int)) ∧ fs.length = i ∧ (fs ++ ls).Perm (iota n)) ?_ ?_ ?_⟩
  · exact ⟨none, iota n, [], rfl, ((But.refl _ _).new hL).new hF0, (hD.upd nL).upd nF, by rw [upd_ne hLF]; exact upd_same, upd_same, rfl, .refl _⟩
  · rintro i σ H1 hi ⟨s2, ls, fs, rfl, b1, d1, l1, f1, fl, hp⟩
    have hlen : fs.length + ls.length = n.toNat := by rw [← li, ← hp.length_eq, List.length_append]
    refine ⟨_, rfl, .inl ⟨rfl, _, SqL.of f1⟩, _, rfl, .inl ⟨rfl, _, SqL.of l1⟩, _, rfl, _, rfl, _, (ls.map V.int).length, rfl, .inl ⟨_, SqL.of l1, rfl⟩, d, l, _, rfl, by rw [List.length_map]; omega, by rw [List.length_map]; omega, d1, fun q H2 q0 q1 b2 d2 => ?_⟩
    have l2 := b2.at nL l1
    have f2 := b2.at nF f1
    rw [List.length_map] at q1
    have hq : q.toNat < ls.length := by omega
    refine ⟨L, _, q, q.toNat, .int ls[q.toNat], rfl, rfl, l2, by omega, by omega, by rw [List.length_map]; exact seqIx q0 q1, by rw [List.getElem?_map, List.getElem?_eq_getElem hq]; rfl, F, _, _, rfl, rfl, by rw [upd_ne (Ne.symm hLF)]; exact f2, ?_, ?_⟩
    · rw [List.length_map, fl]
      exact Nat.lt_of_le_of_lt (show i ≤ 1000 by omega) (by decide)
    · refine ⟨some (.int (0 + i)), ls.eraseIdx q.toNat, fs ++ [ls[q.toNat]], rfl, ((b1.trans b2).new hL).new hF0, (d2.upd nL).upd nF, ?_, ?_, by simp [fl], ?_⟩
      · rw [upd_ne hLF, upd_same, erase_map]
      · rw [upd_same, List.map_append]
        rfl
      · refine List.Perm.trans ?_ hp
        rw [List.append_assoc]
        exact List.Perm.append_left fs (erase_perm hq)
  · rintro σ H1 ⟨s2, ls, fs, rfl, b1, d1, l1, f1, fl, hp⟩
    have hlen : fs.length + ls.length = n.toNat := by rw [← li, ← hp.length_eq, List.length_append]
    have : ls = [] := List.length_eq_zero_iff.mp (by omega)
    subst this
    rw [List.append_nil] at hp
    exact ⟨_, rfl, k F fs H1 b1 d1 hF0 f1 hp⟩
end Wf

/-! Tables: lists of lists of pairs. -/
namespace Wf
open PySem PySem.Spec L2
abbrev Tab : Type := List (Int × Int)
def InP (s : Int) (p : Int × Int) : Prop := 0 ≤ p.1 ∧ p.1 < s ∧ 0 ≤ p.2 ∧ p.2 < s
structure TabOk (s : Int) (t : Tab) : Prop where
  len : (t.length : Int) = s * s
  inn : ∀ p ∈ t, InP s p
structure TabAt (K : PySem.W.Frag) (H : Hp) (l : Addr) (t : Tab) : Prop where
  ex : ∃ vs, H l = some (.lst vs) ∧ DpAll K H vs (t.map dP)
theorem noLAll_dP : ∀ t : Tab, noLAll (t.map dP) = true
  | [] => rfl
  | p :: t => by simp [noLAll, noL_dP, noLAll_dP t]
theorem TabAt.keep {K : PySem.W.Frag} {H H' : Hp} {l : Addr} {t : Tab} (h : TabAt K H l t) (hl : ∀ o, H l = some o → H' l = some o) (tp : Tp K H H') : TabAt K H' l t := by
  obtain ⟨vs, h1, h2⟩ := h.ex
  exact ⟨vs, hl _ h1, DpAll.tp tp _ _ (noLAll_dP t) h2⟩
theorem pr_mono {α β : Type} {F G : α → β → Prop} : ∀ {as : List α} {bs : List β}, Paired F as bs → (∀ a b, a ∈ as → F a b → G a b) → Paired G as bs
  | _, _, .nil, _ => .nil
  | _, _, .cons h t, k => .cons (k _ _ List.mem_cons_self h) (pr_mono t fun a b ha => k a b (List.mem_cons_of_mem _ ha))
theorem pr_app {α β : Type} {F : α → β → Prop} : ∀ {as cs : List α} {bs ds : List β}, Paired F as bs → Paired F cs ds → Paired F (as ++ cs) (bs ++ ds)
  | _, _, _, _, .nil, h => h
  | _, _, _, _, .cons h t, k => .cons h (pr_app t k)
theorem pr_get {α β : Type} {F : α → β → Prop} : ∀ {as : List α} {bs : List β} {i : Nat} {a : α}, Paired F as bs → as[i]? = some a → ∃ b, bs[i]? = some b ∧ F a b
  | _, _, _, _, .nil, e => by simp at e
  | _, _, 0, _, .cons h _, e => by simp at e; subst e; exact ⟨_, rfl, h⟩
  | _, _, i + 1, _, .cons _ t, e => by
    obtain ⟨b, h1, h2⟩ := pr_get (i := i) t (by simpa using e)
    exact ⟨b, by simpa using h1, h2⟩
theorem pr_len {α β : Type} {F : α → β → Prop} : ∀ {as : List α} {bs : List β}, Paired F as bs → as.length = bs.length
  | _, _, .nil => rfl
  | _, _, .cons _ t => congrArg (· + 1) (pr_len t)
/-- tables that were made since H: the list of them at F, they themselves at ls -/
structure Tabs (K : PySem.W.Frag) (H H1 : Hp) (F : Addr) (ls : List Addr) (ts : List Tab) : Prop where
  lst : H1 F = some (.lst (ls.map V.ref))
  tab : Paired (TabAt K H1) ls ts
  nd : (F :: ls).Nodup
  newF : H F = none
  newL : ∀ x ∈ ls, H x = none
section
variable {K : PySem.W.Frag} {H H1 H2 : Hp} {F d l : Addr} {ls : List Addr} {ts : List Tab}
theorem Tabs.keep (t : Tabs K H H1 F ls ts) (hk : ∀ x o, x ∈ F :: ls → H1 x = some o → H2 x = some o) (tp : Tp K H1 H2) : Tabs K H H2 F ls ts :=
  ⟨hk _ _ List.mem_cons_self t.lst, pr_mono t.tab fun a b ha h => h.keep (fun o e => hk a o (List.mem_cons_of_mem _ ha) e) tp, t.nd, t.newF, t.newL⟩
theorem Tabs.but (t : Tabs K H H1 F ls ts) (hD : Deal H d l) (d1 : Deal H1 d l) (b : But [d, l] H1 H2) : Tabs K H H2 F ls ts :=
  t.keep (fun x o hx e => b.at (hD.ne (by
    rcases List.mem_cons.mp hx with rfl | hx
    · exact t.newF
    · exact t.newL x hx)) e) (b.tp d1.noT)
theorem Tabs.same (t : Tabs K H H1 F ls ts) (s : Same H1 H2) : Tabs K H H2 F ls ts := t.keep (fun x o _ e => s x o e) (Same.tp s)
theorem Tabs.notIn {D : Addr} (ht : Tabs K H H1 F ls ts) (hDn : H1 D = none) : D ∉ F :: ls := fun z => by
  rcases List.mem_cons.mp z with rfl | z
  · rw [ht.lst] at hDn
    cases hDn
  · obtain ⟨i, hi⟩ := List.mem_iff_getElem?.mp z
    obtain ⟨_, _, h2⟩ := pr_get ht.tab hi
    obtain ⟨_, h3, _⟩ := h2.ex
    rw [h3] at hDn
    cases hDn
theorem Tabs.len (t : Tabs K H H1 F ls ts) : ls.length = ts.length := pr_len t.tab
/-- one more table -/
theorem Tabs.push {D : Addr} {t : Tab} (ht : Tabs K H H1 F ls ts) (h : TabAt K H1 D t) (hD : D ∉ F :: ls) (hn : H D = none) : Tabs K H (upd H1 F (.lst (ls.map V.ref ++ [.ref D]))) F (ls ++ [D]) (ts ++ [t]) := by
  have tp : Tp K H1 (upd H1 F (.lst (ls.map V.ref ++ [.ref D]))) := tp_upd (not_lst ht.lst)
  have hF := (List.nodup_cons.mp ht.nd).1
  refine ⟨by rw [upd_same, List.map_append]; rfl, pr_app (pr_mono ht.tab fun a b ha k => k.keep (fun o e => ?_) tp) (.cons (h.keep (fun o e => ?_) tp) .nil), ?_, ht.newF, fun x hx => ?_⟩
  · rw [upd_ne (show a ≠ F from fun z => hF (z ▸ ha))]
    exact e
  · rw [upd_ne (show D ≠ F from fun z => hD (by rw [z]; exact List.mem_cons_self))]
    exact e
  · have e : (F :: (ls ++ [D])) = (F :: ls) ++ [D] := rfl
    rw [e, List.nodup_append]
    exact ⟨ht.nd, by simp, fun a ha b hb => by rw [List.mem_singleton.mp hb]; exact fun z => hD (z ▸ ha)⟩
  · rcases List.mem_append.mp hx with hx | hx
    · exact ht.newL x hx
    · rw [List.mem_singleton.mp hx]
      exact hn
theorem nodup_set {α : Type} {x : α} : ∀ {l : List α} {i : Nat}, l.Nodup → x ∉ l → (l.set i x).Nodup
  | [], _, h, _ => h
  | a :: l, 0, h, hx => List.nodup_cons.mpr ⟨fun z => hx (List.mem_cons_of_mem _ z), (List.nodup_cons.mp h).2⟩
  | a :: l, i + 1, h, hx => by
    have h1 := List.nodup_cons.mp h
    refine List.nodup_cons.mpr ⟨fun z => ?_, nodup_set h1.2 fun z => hx (List.mem_cons_of_mem _ z)⟩
    rcases List.mem_or_eq_of_mem_set z with z | z
    · exact h1.1 z
    · exact hx (z ▸ List.mem_cons_self)
theorem pr_set {α β : Type} {F : α → β → Prop} {a : α} {b : β} (h : F a b) : ∀ {as : List α} {bs : List β} (i : Nat), Paired F as bs → Paired F (as.set i a) (bs.set i b)
  | _, _, _, .nil => .nil
  | _, _, 0, .cons _ t => .cons h t
  | _, _, i + 1, .cons k t => .cons k (pr_set h i t)
/-- one table for another -/
theorem Tabs.put {D : Addr} {t : Tab} {j : Nat} (ht : Tabs K H H1 F ls ts) (h : TabAt K H1 D t) (hD : D ∉ F :: ls) (hn : H D = none) : Tabs K H (upd H1 F (.lst ((ls.map V.ref).set j (.ref D)))) F (ls.set j D) (ts.set j t) := by
  have tp : Tp K H1 (upd H1 F (.lst ((ls.map V.ref).set j (.ref D)))) := tp_upd (not_lst ht.lst)
  have hF := (List.nodup_cons.mp ht.nd)
  have hDF : D ≠ F := fun z => hD (by rw [z]; exact List.mem_cons_self)
  have hDl : D ∉ ls := fun z => hD (List.mem_cons_of_mem _ z)
  refine ⟨by rw [upd_same, List.map_set], pr_set (h.keep (fun o e => by rw [upd_ne hDF]; exact e) tp) j (pr_mono ht.tab fun a b ha k => k.keep (fun o e => ?_) tp), ?_, ht.newF, fun x hx => ?_⟩
  · rw [upd_ne (show a ≠ F from fun z => hF.1 (z ▸ ha))]
    exact e
  · refine List.nodup_cons.mpr ⟨fun z => ?_, nodup_set hF.2 hDl⟩
    rcases List.mem_or_eq_of_mem_set z with z | z
    · exact hF.1 z
    · exact hDF z.symm
  · rcases List.mem_or_eq_of_mem_set hx with hx | hx
    · exact ht.newL x hx
    · rw [hx]
      exact hn
def dTs (ts : List Tab) : PyData := .list (ts.map fun t => .list (t.map dP))
theorem Tabs.dp (ht : Tabs K H H1 F ls ts) : Dp K H1 (.ref F) (dTs ts) := by
  refine .lst (SqL.of ht.lst) ?_
  have := ht.tab
  clear ht
  induction this with
  | nil => exact .nil
  | cons h _ ih =>
    obtain ⟨vs, e1, e2⟩ := h.ex
    exact .cons (.lst (SqL.of e1) e2) ih
end
/-! ### [(draw(size), draw(size)) for n in range(size * size)] -/
theorem lc_drawn {K : PySem.W.Frag} {σ : St} {H : Hp} {d l : Addr} {s : Int} {v : Nat} {Q : VK} (h0 : ∀ x, ((wipe σ [v]).set v x)[0]? = some (some (.ref d))) (h2 : ∀ x, ((wipe σ [v]).set v x)[2]? = some (some (.int s))) (h2' : σ[2]? = some (some (.int s)))
    (hw : ∀ x, wipe ((wipe σ [v]).set v x) [v] = wipe σ [v]) (s1 : 1 ≤ s) (s6 : s ≤ 6) (hD : Deal H d l)
    (q : ∀ (D : Addr) (H' : Hp) (t : Tab), H D = none → But [d, l] H H' → Deal H' d l → TabAt K H' D t → TabOk s t → Q (.ref D) H') :
    tLc (iRng1 (tCons (tOp qMul (tVar 2) (tVar 2)) (tNil))) (gName v) (tYes) (tTup (tCons (tCall sp_draw [] E0 (tCons (tVar 0) (tCons (tVar 2) (tNil)))) (tCons (tCall sp_draw [] E0 (tCons (tVar 0) (tCons (tVar 2) (tNil)))) (tNil)))) [v] σ H Q := by
  have hss : 1 ≤ s * s ∧ s * s ≤ 36 := by
    have : s = 1 ∨ s = 2 ∨ s = 3 ∨ s = 4 ∨ s = 5 ∨ s = 6 := by omega
    rcases this with rfl | rfl | rfl | rfl | rfl | rfl <;> decide
  refine ⟨_, h2', _, h2', _, _, rfl, rfl, .inl ⟨by omega, by omega⟩, s * s, rfl, by omega, by omega, fun D hDn => ?_⟩
  have nD := hD.ne hDn
  refine lc_range (lo := 0) (n := (s * s).toNat) (fun i H1 => But [d, l] H H1 ∧ Deal H1 d l ∧ ∃ t : Tab, TabAt K H1 D t ∧ t.length = i ∧ ∀ p ∈ t, InP s p) ?_ ?_ ?_
  · exact ⟨(But.refl _ _).new hDn, hD.upd nD, [], ⟨[], upd_same, .nil⟩, rfl, fun p hp => (List.not_mem_nil hp).elim⟩
  · rintro i H1 hi ⟨b1, d1, t, ht, hl, hin⟩
    refine ⟨hw _, ?_⟩
    simp only [tYes, ↓reduceIte]
    refine ⟨_, h0 _, _, h2 _, d, l, s, rfl, by omega, by omega, d1, fun a H2 a0 a1 b2 d2 => ?_⟩
    refine ⟨_, h0 _, _, h2 _, d, l, s, rfl, by omega, by omega, d2, fun b H3 c0 c1 b3 d3 => ?_⟩
    refine ⟨(by show 2 ≤ sizeLine; decide), fun p hp => ?_⟩
    have b13 := b2.trans b3
    obtain ⟨vs, e1, e2⟩ := (ht.keep (fun o e => b13.at nD e) (b13.tp d1.noT)).ex
    have np := d3.ne hp
    have hpD : D ≠ p := ne_of_none e1 hp
    have e1' : upd H3 p (.tup [.int a, .int b]) D = some (.lst vs) := by rw [upd_ne hpD]; exact e1
    refine ⟨vs, e1', ?_, ?_⟩
    · rw [DpAll.len e2, List.length_map, hl]
      exact Nat.lt_of_le_of_lt (show i ≤ 36 by omega) (by decide)
    · have hp0 : H p = none := (b1.trans b13).none_of np hp
      refine ⟨((b1.trans b13).new hp0).new hDn, (d3.upd np).upd nD, t ++ [(a, b)], ⟨vs ++ [.ref p], upd_same, ?_⟩, by simp [hl], fun x hx => ?_⟩
      · rw [List.map_append]
        have tp1 : Tp K H3 (upd H3 p (.tup [.int a, .int b])) := Same.tp (same_new hp)
        have tp2 : Tp K (upd H3 p (.tup [.int a, .int b])) (upd (upd H3 p (.tup [.int a, .int b])) D (.lst (vs ++ [.ref p]))) := tp_upd (not_lst e1')
        refine DpAll.append (DpAll.tp (tp1.trans tp2) _ _ (noLAll_dP t) e2) (.cons (dP_new ?_) .nil)
        rw [upd_ne (Ne.symm hpD)]
        exact upd_same
      · rcases List.mem_append.mp hx with hx | hx
        · exact hin x hx
        · rw [List.mem_singleton.mp hx]
          exact ⟨a0, a1, c0, c1⟩
  · rintro H1 ⟨b1, d1, t, ht, hl, hin⟩
    exact q D H1 t hDn b1 d1 ht ⟨by omega, hin⟩
theorem st_asg {te : TE} {g : TG} {D : Ends} {σ : St} {H : Hp} (h : te σ H fun x H1 => g x σ H1 D.nx) : tAsg te g D σ H := h
/-! ### _law_any -/
def nT (m : Int) : Int := m * (m - 1) / 2
/-- tables are told, new ones, by what R says of them -/
def GiveT (K : PySem.W.Frag) (d l : Addr) (H : Hp) (Q : VK) (R : List Tab → Prop) : Prop := ∀ (F : Addr) (ls : List Addr) (ts : List Tab) (H' : Hp), But [d, l] H H' → Deal H' d l → Tabs K H H' F ls ts → R ts → Q (.ref F) H'
structure AllOk (m s : Int) (ts : List Tab) : Prop where
  len : (ts.length : Int) = nT m
  ok : ∀ t ∈ ts, TabOk s t
def sp_any (K : PySem.W.Frag) : Sp := fun vs H Q _ => ∃ (d l : Addr) (m s : Int), vs = [.ref d, .int m, .int s] ∧ 1 ≤ m ∧ m ≤ 5 ∧ 1 ≤ s ∧ s ≤ 6 ∧ Deal H d l ∧ GiveT K d l H Q (AllOk m s)
theorem nT_le {m : Int} (h1 : 1 ≤ m) (h5 : m ≤ 5) : 0 ≤ nT m ∧ nT m ≤ 10 := by
  have : m = 1 ∨ m = 2 ∨ m = 3 ∨ m = 4 ∨ m = 5 := by omega
  rcases this with rfl | rfl | rfl | rfl | rfl <;> decide
def t_any (K : PySem.W.Frag) (sp_draw : Sp) : TS :=
  tSeq (tAsg (tLst (tNil)) (gName 3))
    (tSeq (tFor (iRng1 (tCons (tOp qFdiv (tOp qMul (tVar 1) (tOp qSub (tVar 1) (tC (.int 1)))) (tC (.int 2))) (tNil))) (gName 4) (tDrop (tBM K "list" rAppend (tVar 3) (tCons (tLc (iRng1 (tCons (tOp qMul (tVar 2) (tVar 2)) (tNil))) (gName 5) (tYes) (tTup (tCons (tCall sp_draw [] E0 (tCons (tVar 0) (tCons (tVar 2) (tNil)))) (tCons (tCall sp_draw [] E0 (tCons (tVar 0) (tCons (tVar 2) (tNil)))) (tNil)))) [5]) (tNil)))))
    (tRet (tVar 3)))
theorem pure_any {K : PySem.W.Frag} (vs : List V) (H : Hp) (Q : VK) (E : XK) (h : sp_any K vs H Q E) : t_any K sp_draw (EndsQ Q) (sN 6 vs) H := by
  obtain ⟨d, l, m, s, rfl, m1, m5, s1, s6, hD, k⟩ := h
  show t_any K sp_draw _ [some (.ref d), some (.int m), some (.int s), none, none, none] H
  refine ⟨(by show 0 ≤ sizeLine; decide), fun F hF => ?_⟩
  have nF := hD.ne hF
  have hn := nT_le m1 m5
  refine ⟨_, rfl, _, rfl, _, _, rfl, rfl, _, _, rfl, rfl, .inl ⟨by omega, by omega⟩, _, _, rfl, rfl, ⟨by decide, by decide⟩, nT m, rfl, by omega, by omega,
    for_range (lo := 0) (n := (nT m).toNat) (fun i σ H1 => ∃ (s4 : Option V) (ls : List Addr) (ts : List Tab), σ = [some (.ref d), some (.int m), some (.int s), some (.ref F), s4, none] ∧ But [d, l] H H1 ∧ Deal H1 d l ∧ Tabs K H H1 F ls ts ∧ ts.length = i ∧ ∀ t ∈ ts, TabOk s t) ?_ ?_ ?_⟩
  · exact ⟨none, [], [], rfl, (But.refl _ _).new hF, hD.upd nF, ⟨upd_same, .nil, by simp, hF, fun x hx => (List.not_mem_nil hx).elim⟩, rfl, fun t ht => (List.not_mem_nil ht).elim⟩
  · rintro i σ H1 hi ⟨s4, ls, ts, rfl, b1, d1, ht, hl, hok⟩
    refine ⟨_, rfl, .inl ⟨rfl, _, SqL.of ht.lst⟩, ?_⟩
    refine lc_drawn (K := K) (d := d) (l := l) (s := s) (fun _ => rfl) (fun _ => rfl) rfl (fun _ => rfl) s1 s6 d1 fun D H2 t hDn b2 d2 tt tok => ?_
    have t2 := ht.but hD d1 b2
    have nD := d1.ne hDn
    have hD0 : H D = none := b1.none_of nD hDn
    have hm : D ∉ F :: ls := ht.notIn hDn
    refine ⟨F, _, _, rfl, rfl, t2.lst, ?_, ?_⟩
    · rw [List.length_map, ht.len, hl]
      exact Nat.lt_of_le_of_lt (show i ≤ 10 by omega) (by decide)
    · refine ⟨some (.int (0 + i)), ls ++ [D], ts ++ [t], rfl, (b1.trans b2).new hF, d2.upd nF, t2.push tt hm hD0, by simp [hl], fun x hx => ?_⟩
      rcases List.mem_append.mp hx with hx | hx
      · exact hok x hx
      · rw [List.mem_singleton.mp hx]
        exact tok
  · rintro σ H1 ⟨s4, ls, ts, rfl, b1, d1, ht, hl, hok⟩
    exact ⟨_, rfl, k F ls ts H1 b1 d1 ht ⟨by omega, hok⟩⟩
/-! ### _law_plain -/
def tabF (f s : Int) (st : Int × Int) : Tab := (iota (s * s)).map fun n => pairF f s st (n / s) (n % s)
/-- by plain rules: one form for all tables; or keeping ones, and one any -/
inductive PlainT (m s : Int) : List Tab → Prop
  | all (f : Int) (sts : List (Int × Int)) : 0 ≤ f → f ≤ 4 → (sts.length : Int) = nT m → (∀ x ∈ sts, InP s x) → PlainT m s (sts.map (tabF f s))
  | one (sts : List (Int × Int)) (i : Nat) (t : Tab) : (sts.length : Int) = nT m → i < sts.length → TabOk s t → PlainT m s ((sts.map (tabF 0 s)).set i t)
def sp_plain (K : PySem.W.Frag) : Sp := fun vs H Q _ => ∃ (d l : Addr) (m s : Int), vs = [.ref d, .int m, .int s] ∧ 1 ≤ m ∧ m ≤ 5 ∧ 1 ≤ s ∧ s ≤ 6 ∧ Deal H d l ∧ GiveT K d l H Q (PlainT m s)
theorem ss_le {s : Int} (s1 : 1 ≤ s) (s6 : s ≤ 6) : 1 ≤ s * s ∧ s * s ≤ 36 := by
  have : s = 1 ∨ s = 2 ∨ s = 3 ∨ s = 4 ∨ s = 5 ∨ s = 6 := by omega
  rcases this with rfl | rfl | rfl | rfl | rfl | rfl <;> decide
theorem iota_succ (i : Nat) : (List.range (i + 1)).map (fun (j : Nat) => (j : Int)) = (List.range i).map (fun (j : Nat) => (j : Int)) ++ [(i : Int)] := by rw [List.range_succ, List.map_append]; rfl
/-- [_law_pair(form % 5, size, step, n // size, n % size) for n in range(size * size)] -/
theorem lc_pairs {K : PySem.W.Frag} {σ : St} {H : Hp} {s f : Int} {u : V} {st : Int × Int} {v : Nat} {Q : VK} (h4 : ∀ x, ((wipe σ [v]).set v x)[4]? = some (some (.int f))) (h2 : ∀ x, ((wipe σ [v]).set v x)[2]? = some (some (.int s))) (h6 : ∀ x, ((wipe σ [v]).set v x)[6]? = some (some u)) (hv : ∀ x, ((wipe σ [v]).set v (some x))[v]? = some (some x)) (h2' : σ[2]? = some (some (.int s)))
    (hw : ∀ x, wipe ((wipe σ [v]).set v x) [v] = wipe σ [v]) (s1 : 1 ≤ s) (s6 : s ≤ 6) (hst : Dp K H u (dP st))
    (q : ∀ (D : Addr) (H' : Hp), H D = none → Same H H' → TabAt K H' D (tabF (f % 5) s st) → Q (.ref D) H') :
    tLc (iRng1 (tCons (tOp qMul (tVar 2) (tVar 2)) (tNil))) (gName v) (tYes) (tCall (sp_pair K) [] E0 (tCons (tOp qMod (tVar 4) (tC (.int 5))) (tCons (tVar 2) (tCons (tVar 6) (tCons (tOp qFdiv (tVar v) (tVar 2)) (tCons (tOp qMod (tVar v) (tVar 2)) (tNil))))))) [v] σ H Q := by
  have hss := ss_le s1 s6
  refine ⟨_, h2', _, h2', _, _, rfl, rfl, .inl ⟨by omega, by omega⟩, s * s, rfl, by omega, by omega, fun D hDn => ?_⟩
  refine lc_range (lo := 0) (n := (s * s).toNat) (fun i H1 => Same H H1 ∧ TabAt K H1 D (((List.range i).map fun (j : Nat) => (j : Int)).map fun n => pairF (f % 5) s st (n / s) (n % s))) ?_ ?_ ?_
  · exact ⟨same_new hDn, ⟨[], upd_same, .nil⟩⟩
  · rintro i H1 hi ⟨b1, ht⟩
    refine ⟨hw _, ?_⟩
    simp only [tYes, ↓reduceIte]
    refine ⟨_, h4 _, _, _, rfl, rfl, mp rfl, _, h2 _, _, h6 _, _, hv _, _, h2 _, _, _, rfl, rfl, ⟨by omega, by omega⟩, _, hv _, _, h2 _, _, _, rfl, rfl, (by show 0 < s; omega), f % 5, s, _, _, u, st, rfl, Dp.tp (Same.tp b1) _ _ (noL_dP st) hst, by omega, by omega, by omega, fun w H2 s2 hw2 => ?_⟩
    obtain ⟨vs, e1, e2⟩ := ht.ex
    have e1' := s2 _ _ e1
    have ln : vs.length = i := by rw [DpAll.len e2, List.length_map, List.length_map, List.length_map, List.length_range]
    refine ⟨vs, e1', ?_, ?_⟩
    · rw [ln]
      exact Nat.lt_of_le_of_lt (show i ≤ 36 by omega) (by decide)
    · refine ⟨fun a o e => ?_, ⟨vs ++ [w], upd_same, ?_⟩⟩
      · rw [upd_ne (ne_of_none e hDn)]
        exact s2 _ _ (b1 _ _ e)
      · rw [iota_succ, List.map_append, List.map_append]
        have tp2 : Tp K H2 (upd H2 D (.lst (vs ++ [w]))) := tp_upd (not_lst e1')
        refine DpAll.append (DpAll.tp ((Same.tp s2).trans tp2) _ _ (noLAll_dP _) e2) (.cons ?_ .nil)
        have hw3 := Dp.tp tp2 _ _ (noL_dP _) hw2
        rw [Int.zero_add] at hw3
        exact hw3
  · rintro H1 ⟨b1, ht⟩
    exact q D H1 hDn b1 ht
def t_plain (K : PySem.W.Frag) (sp_draw : Sp) (sp_pair : Sp) : TS :=
  tSeq (tAsg (tTup (tCons (tCall sp_draw [] E0 (tCons (tVar 0) (tCons (tC (.int 6)) (tNil)))) (tCons (tLst (tNil)) (tNil)))) (gTup K 2 (gCons (gName 4) (gCons (gName 5) (gNil)))))
    (tSeq (tFor (iRng1 (tCons (tOp qFdiv (tOp qMul (tVar 1) (tOp qSub (tVar 1) (tC (.int 1)))) (tC (.int 2))) (tNil))) (gName 3) (tSeq (tAsg (tTup (tCons (tCall sp_draw [] E0 (tCons (tVar 0) (tCons (tVar 2) (tNil)))) (tCons (tCall sp_draw [] E0 (tCons (tVar 0) (tCons (tVar 2) (tNil)))) (tNil)))) (gName 6))
    (tDrop (tBM K "list" rAppend (tVar 5) (tCons (tLc (iRng1 (tCons (tOp qMul (tVar 2) (tVar 2)) (tNil))) (gName 8) (tYes) (tCall sp_pair [] E0 (tCons (tOp qMod (tVar 4) (tC (.int 5))) (tCons (tVar 2) (tCons (tVar 6) (tCons (tOp qFdiv (tVar 8) (tVar 2)) (tCons (tOp qMod (tVar 8) (tVar 2)) (tNil))))))) [8]) (tNil))))))
    (tSeq (tIfS (tAnd (tTest (tOp rEq (tVar 4) (tC (.int 5)))) (tTest (tOp (rNeD K) (tVar 5) (tLst (tNil))))) (tSeq (tAsg (tLc (iRng1 (tCons (tOp qMul (tVar 2) (tVar 2)) (tNil))) (gName 8) (tYes) (tTup (tCons (tCall sp_draw [] E0 (tCons (tVar 0) (tCons (tVar 2) (tNil)))) (tCons (tCall sp_draw [] E0 (tCons (tVar 0) (tCons (tVar 2) (tNil)))) (tNil)))) [8]) (gName 7))
    (tAsg (tVar 7) (gSub (tVar 5) (tCall sp_draw [] E0 (tCons (tVar 0) (tCons (tCB (qLen K) (tCons (tVar 5) (tNil))) (tNil)))) rSetL))) (tNext))
    (tRet (tVar 5))))
/-- data whose shape == may be asked of: lists and tuples of such, to a depth -/
theorem lay_map {α : Type} (f : α → PyData) (n : Nat) : ∀ l : List α, (∀ a ∈ l, (f a).canLay0 = true ∧ (f a).depth ≤ n) → PyData.canLayAll0 (l.map f) = true ∧ PyData.depthAll (l.map f) ≤ n
  | [], _ => ⟨rfl, Nat.zero_le _⟩
  | a :: l, h => by
    have h1 := h a List.mem_cons_self
    have h2 := lay_map f n l fun b hb => h b (List.mem_cons_of_mem _ hb)
    rw [List.map_cons]
    constructor
    · show ((f a).canLay0 && PyData.canLayAll0 (l.map f)) = true
      rw [h1.1, h2.1]
      rfl
    · show max (f a).depth (PyData.depthAll (l.map f)) ≤ n
      exact Nat.max_le.mpr ⟨h1.2, h2.2⟩
theorem lay_dP (p : Int × Int) : (dP p).canLay0 = true ∧ (dP p).depth ≤ 1 := ⟨rfl, by show max 0 (max 0 0) + 1 ≤ 1; decide⟩
theorem lay_tab (t : Tab) : (PyData.list (t.map dP)).canLay0 = true ∧ (PyData.list (t.map dP)).depth ≤ 2 := by
  have h := lay_map dP 1 t fun p _ => lay_dP p
  exact ⟨h.1, Nat.succ_le_succ h.2⟩
theorem shaped_ts (ts : List Tab) : SeqAt.shaped (dTs ts) = true := by
  have h := lay_map (fun t => PyData.list (t.map dP)) 2 ts fun t _ => lay_tab t
  have h2 : (dTs ts).depth ≤ 3 := Nat.succ_le_succ h.2
  unfold SeqAt.shaped
  rw [show (dTs ts).canLay0 = true from h.1]
  simp
  omega
theorem pure_plain {K : PySem.W.Frag} (vs : List V) (H : Hp) (Q : VK) (E : XK) (h : sp_plain K vs H Q E) : t_plain K sp_draw (sp_pair K) (EndsQ Q) (sN 9 vs) H := by
  obtain ⟨d, l, m, s, rfl, m1, m5, s1, s6, hD, k⟩ := h
  show t_plain K sp_draw (sp_pair K) _ [some (.ref d), some (.int m), some (.int s), none, none, none, none, none, none] H
  refine ⟨_, rfl, d, l, 6, rfl, by decide, by decide, hD, fun f H0 f0 f6 b0 d0 => ?_⟩
  refine ⟨(by show 0 ≤ sizeLine; decide), fun F hF => ⟨(by show 2 ≤ sizeLine; decide), fun p hp => ?_⟩⟩
  have nF := d0.ne hF
  have hF0 : H F = none := b0.none_of nF hF
  have hpF : F ≠ p := ne_of_none upd_same hp
  have hp0 : H0 p = none := by rw [upd_ne (Ne.symm hpF)] at hp; exact hp
  have np := d0.ne hp0
  have hp00 : H p = none := b0.none_of np hp0
  have hn := nT_le m1 m5
  refine ⟨p, [.int f, .ref F], rfl, SqT.of upd_same, rfl, _, _, rfl, _, _, rfl, rfl, ?_⟩
  refine ⟨_, rfl, _, rfl, _, _, rfl, rfl, _, _, rfl, rfl, .inl ⟨by omega, by omega⟩, _, _, rfl, rfl, ⟨by decide, by decide⟩, nT m, rfl, by omega, by omega,
    for_range (lo := 0) (n := (nT m).toNat) (fun i σ H1 => ∃ (s3 s6 : Option V) (ls : List Addr) (sts : List (Int × Int)), σ = [some (.ref d), some (.int m), some (.int s), s3, some (.int f), some (.ref F), s6, none, none] ∧ But [d, l] H H1 ∧ Deal H1 d l ∧ Tabs K H H1 F ls (sts.map (tabF (f % 5) s)) ∧ sts.length = i ∧ ∀ x ∈ sts, InP s x) ?_ ?_ ?_⟩
  · refine ⟨none, none, [], [], rfl, (b0.new hF0).new hp00, (d0.upd nF).upd np, ⟨?_, .nil, by simp, hF0, fun x hx => (List.not_mem_nil hx).elim⟩, rfl, fun t ht => (List.not_mem_nil ht).elim⟩
    rw [upd_ne hpF]
    exact upd_same
  · rintro i σ H1 hi ⟨s3, s6', ls, sts, rfl, b1, d1, ht, hl, hok⟩
    refine ⟨_, rfl, _, rfl, d, l, s, rfl, by omega, by omega, d1, fun a H2 a0 a1 b2 d2 => ?_⟩
    refine ⟨_, rfl, _, rfl, d, l, s, rfl, by omega, by omega, d2, fun b H3 c0 c1 b3 d3 => ?_⟩
    refine ⟨(by show 2 ≤ sizeLine; decide), fun q hq => ?_⟩
    have t3 := (ht.but hD d1 (b2.trans b3)).same (same_new (o := .tup [.int a, .int b]) hq)
    have nq := d3.ne hq
    have b4 := (b1.trans (b2.trans b3))
    have hq0 : H q = none := b4.none_of nq hq
    refine ⟨_, rfl, .inl ⟨rfl, _, SqL.of t3.lst⟩, ?_⟩
    refine lc_pairs (K := K) (s := s) (f := f) (u := .ref q) (st := (a, b)) (fun _ => rfl) (fun _ => rfl) (fun _ => rfl) (fun _ => rfl) rfl (fun _ => rfl) s1 s6 (dP_new upd_same) fun D H4 hDn s4 td => ?_
    have t4 := t3.same s4
    have hDn3 : H3 D = none := by
      cases e : H3 D with
      | none => rfl
      | some o => rw [same_new hq _ _ e] at hDn; cases hDn
    have nD := d3.ne hDn3
    have hD0 : H D = none := b4.none_of nD hDn3
    have hm : D ∉ F :: ls := t3.notIn hDn
    refine ⟨F, _, _, rfl, rfl, t4.lst, ?_, ?_⟩
    · rw [List.length_map, ht.len, List.length_map, hl]
      exact Nat.lt_of_le_of_lt (show i ≤ 10 by omega) (by decide)
    · refine ⟨some (.int (0 + i)), some (.ref q), ls ++ [D], sts ++ [(a, b)], rfl, But.new (fun x o n e => s4 _ _ (b4.new hq0 x o n e)) hF0, ?_, ?_, by simp [hl], fun x hx => ?_⟩
      · obtain ⟨z1, z2, z3, z4, z5, z6, z7⟩ := (d3.upd nq (o := .tup [.int a, .int b])).ex
        exact Deal.upd ⟨z1, z2, z3, z4, s4 _ _ z5, s4 _ _ z6, z7⟩ nF
      · rw [List.map_append]
        exact t4.push td hm hD0
      · rcases List.mem_append.mp hx with hx | hx
        · exact hok x hx
        · rw [List.mem_singleton.mp hx]
          exact ⟨a0, a1, c0, c1⟩
  · rintro σ H1 ⟨s3, s6', ls, sts, rfl, b1, d1, ht, hl, hok⟩
    have fin : PlainT m s (sts.map (tabF (f % 5) s)) := .all (f % 5) sts (by omega) (by omega) (by omega) hok
    refine ⟨_, rfl, rfl, _, rfl, ?_⟩
    by_cases hf : f = 5
    · subst hf
      simp only [decide_true, ↓reduceIte]
      refine ⟨_, rfl, (by show 0 ≤ sizeLine; decide), fun e he => ?_⟩
      have t2 := ht.same (same_new (o := .lst []) he)
      refine ⟨_, _, t2.dp, .lst (SqL.of upd_same) .nil, shaped_ts _, rfl, _, rfl, ?_⟩
      have ne := d1.ne he
      have he0 : H e = none := b1.none_of ne he
      have b2 : But [d, l] H (upd H1 e (.lst [])) := b1.new he0
      have d2 : Deal (upd H1 e (.lst [])) d l := d1.upd ne
      generalize upd H1 e (.lst []) = H2 at t2 b2 d2
      cases sts with
      | nil => exact ⟨_, rfl, k F ls _ H2 b2 d2 t2 fin⟩
      | cons st0 sts =>
        have hb : (!PyData.eqv (dTs ((st0 :: sts).map (tabF (5 % 5) s))) (PyData.list [])) = true := rfl
        rw [hb]
        simp only [↓reduceIte]
        refine st_seq (st_asg ?_)
        refine lc_drawn (K := K) (d := d) (l := l) (s := s) (fun _ => rfl) (fun _ => rfl) rfl (fun _ => rfl) s1 s6 d2 fun D H3 t hDn b3 d3 tt tok => ?_
        have t3 := t2.but hD d2 b3
        have nD := d2.ne hDn
        have hD0 : H D = none := b2.none_of nD hDn
        have hm : D ∉ F :: ls := t2.notIn hDn
        have hll := ht.len
        rw [List.length_map] at hll
        refine ⟨_, rfl, _, rfl, _, rfl, _, rfl, _, (ls.map V.ref).length, rfl, .inl ⟨_, SqL.of t3.lst, rfl⟩, d, l, _, rfl, ?_, ?_, d3, fun q H4 q0 q1 b4 d4 => ?_⟩
        · rw [List.length_map, hll, List.length_cons]
          omega
        · rw [List.length_map, hll]
          omega
        · rw [List.length_map, hll] at q1
          have t4 := t3.but hD d3 b4
          have tt4 := tt.keep (fun o e => b4.at nD e) (b4.tp d3.noT)
          refine ⟨F, _, q, q.toNat, rfl, rfl, t4.lst, ?_, ?_⟩
          · unfold ixN
            rw [if_pos q0, if_pos (by rw [List.length_map, hll]; exact q1)]
          · refine ⟨_, rfl, k F _ _ _ ((b2.trans (b3.trans b4)).new hF0) (d4.upd nF) (t4.put (j := q.toNat) tt4 hm hD0) ?_⟩
            exact .one (st0 :: sts) q.toNat t (by omega) (by omega) tok
    · have : decide (V.int f = V.int 5) = false := decide_eq_false fun z => hf (V.int.inj z)
      rw [this]
      exact ⟨_, rfl, k F ls _ H1 b1 d1 ht fin⟩
end Wf

/-! Tables side by side, tables with other names. -/
namespace Wf
open PySem PySem.Spec L2
/-- tables to be read -/
structure TL (K : PySem.W.Frag) (H : Hp) (A : Addr) (ls : List Addr) (ts : List Tab) : Prop where
  lst : H A = some (.lst (ls.map V.ref))
  tab : Paired (TabAt K H) ls ts
theorem Tabs.tl {K : PySem.W.Frag} {H H1 : Hp} {F : Addr} {ls : List Addr} {ts : List Tab} (t : Tabs K H H1 F ls ts) : TL K H1 F ls ts := ⟨t.lst, t.tab⟩
theorem TL.same {K : PySem.W.Frag} {H H1 : Hp} {A : Addr} {ls : List Addr} {ts : List Tab} (t : TL K H A ls ts) (s : Same H H1) : TL K H1 A ls ts := ⟨s _ _ t.lst, pr_mono t.tab fun a b _ h => h.keep (fun o e => s _ _ e) (Same.tp s)⟩
theorem ix_lt {x y w : Int} (x0 : 0 ≤ x) (x1 : x < w) (y0 : 0 ≤ y) (y1 : y < w) : 0 ≤ x * w + y ∧ x * w + y < w * w := by
  have h1 : 0 ≤ x * w := Int.mul_nonneg x0 (by omega)
  have h2 : (x + 1) * w ≤ w * w := Int.mul_le_mul_of_nonneg_right (by omega) (by omega)
  have h3 : (x + 1) * w = x * w + w := by rw [Int.add_mul, Int.one_mul]
  constructor <;> omega
theorem atI_ok {α : Type} {xs : List α} {i : Int} (h0 : 0 ≤ i) (h1 : i < xs.length) : atI xs i = some (xs[i.toNat]'(by omega)) := by
  unfold atI ixN
  rw [if_pos h0, if_pos h1]
  show xs[i.toNat]? = _
  exact List.getElem?_eq_getElem _
/-- the pair at a place of a table that is read -/
theorem tab_ix {K : PySem.W.Frag} {H : Hp} {l : Addr} {t : Tab} {i : Int} (h : TabAt K H l t) (h0 : 0 ≤ i) (h1 : i < t.length) : ∃ vs v p, H l = some (.lst vs) ∧ atI vs i = some v ∧ t[i.toNat]? = some p ∧ Dp K H v (dP p) := by
  obtain ⟨vs, e1, e2⟩ := h.ex
  have hl : vs.length = t.length := by rw [DpAll.len e2, List.length_map]
  have hp : t[i.toNat]? = some (t[i.toNat]'(by omega)) := List.getElem?_eq_getElem (by omega)
  obtain ⟨v, f1, f2⟩ := DpAll.get (d := dP (t[i.toNat]'(by omega))) e2 (by rw [List.getElem?_map, hp]; rfl)
  refine ⟨vs, v, _, e1, ?_, hp, f2⟩
  unfold atI ixN
  rw [if_pos h0, if_pos (by rw [hl]; exact h1)]
  exact f1
def sideP (t1 t2 : Tab) (w r : Int) (n : Int) : Int × Int :=
  let c := t1.getD (n / (w * r) / r * w + n % (w * r) / r).toNat (0, 0)
  let g := t2.getD (n / (w * r) % r * r + n % (w * r) % r).toNat (0, 0)
  (c.1 * r + g.1, c.2 * r + g.2)
def sideT (w r : Int) (t1 t2 : Tab) : Tab := (iota (w * r * (w * r))).map (sideP t1 t2 w r)
def sp_side (K : PySem.W.Frag) : Sp := fun vs H Q _ => ∃ (A B : Addr) (la lb : List Addr) (ta tb : List Tab) (w r : Int), vs = [.ref A, .ref B, .int w, .int r] ∧ TL K H A la ta ∧ TL K H B lb tb ∧ ta.length = tb.length ∧ ta.length ≤ 10 ∧ 1 ≤ w ∧ 1 ≤ r ∧ w ≤ 6 ∧ r ≤ 6 ∧ w * r ≤ 6 ∧
  (∀ t ∈ ta, TabOk w t) ∧ (∀ t ∈ tb, TabOk r t) ∧ ∀ (F : Addr) (ls : List Addr) (H' : Hp), Same H H' → Tabs K H H' F ls (List.zipWith (sideT w r) ta tb) → Q (.ref F) H'
def t_side (K : PySem.W.Frag) : TS :=
  tSeq (tPar 4 5 (tCons (tLst (tNil)) (tCons (tOp qMul (tVar 2) (tVar 3)) (tNil))))
    (tSeq (tFor (RZ.iZipA K (tCons (tVar 0) (tCons (tVar 1) (tNil)))) (gTup K 2 (gCons (gName 6) (gCons (gName 7) (gNil)))) (tSeq (tAsg (tLst (tNil)) (gName 8))
    (tSeq (tFor (iRng1 (tCons (tOp qMul (tVar 5) (tVar 5)) (tNil))) (gName 9) (tSeq (tPar 10 11 (tCons (tOp qFdiv (tVar 9) (tVar 5)) (tCons (tOp qMod (tVar 9) (tVar 5)) (tNil))))
    (tSeq (tAsg (tOp (rIxL K) (tVar 6) (tOp qAdd (tOp qMul (tOp qFdiv (tVar 10) (tVar 3)) (tVar 2)) (tOp qFdiv (tVar 11) (tVar 3)))) (gTup K 2 (gCons (gName 12) (gCons (gName 13) (gNil)))))
    (tSeq (tAsg (tOp (rIxL K) (tVar 7) (tOp qAdd (tOp qMul (tOp qMod (tVar 10) (tVar 3)) (tVar 3)) (tOp qMod (tVar 11) (tVar 3)))) (gTup K 2 (gCons (gName 14) (gCons (gName 15) (gNil)))))
    (tDrop (tBM K "list" rAppend (tVar 8) (tCons (tTup (tCons (tOp qAdd (tOp qMul (tVar 12) (tVar 3)) (tVar 14)) (tCons (tOp qAdd (tOp qMul (tVar 13) (tVar 3)) (tVar 15)) (tNil)))) (tNil))))))))
    (tDrop (tBM K "list" rAppend (tVar 4) (tCons (tVar 8) (tNil)))))))
    (tRet (tVar 4)))
theorem pure_side {K : PySem.W.Frag} (vs : List V) (H : Hp) (Q : VK) (E : XK) (h : sp_side K vs H Q E) : t_side K (EndsQ Q) (sN 16 vs) H := by
  obtain ⟨A, B, la, lb, ta, tb, w, r, rfl, hA, hB, hlen, h10, w1, r1, w6, r6, wr6, oka, okb, k⟩ := h
  show t_side K _ [some (.ref A), some (.ref B), some (.int w), some (.int r), none, none, none, none, none, none, none, none, none, none, none, none] H
  have wr1 : 1 ≤ w * r := by
    have := Int.mul_le_mul w1 r1 (by decide) (by omega)
    simpa using this
  refine ⟨(by show 0 ≤ sizeLine; decide), fun F hF => ⟨_, rfl, _, rfl, _, _, rfl, rfl, .inl ⟨by omega, by omega⟩, _, _, rfl, ?_⟩⟩
  have sF := same_new (o := .lst []) hF
  have hab : (la.map V.ref).length = (lb.map V.ref).length := by rw [List.length_map, List.length_map, pr_len hA.tab, pr_len hB.tab, hlen]
  refine ⟨_, rfl, _, rfl, A, B, _, _, rfl, .inl ⟨SqL.of (hA.same sF).lst, SqL.of (hB.same sF).lst, RZ.for_zipL (K := K) hab
    (fun i σ H1 => ∃ (c6 c7 c8 c9 c10 c11 c12 c13 c14 c15 : Option V) (ls : List Addr), σ = [some (.ref A), some (.ref B), some (.int w), some (.int r), some (.ref F), some (.int (w * r)), c6, c7, c8, c9, c10, c11, c12, c13, c14, c15] ∧ Same H H1 ∧ Tabs K H H1 F ls ((List.zipWith (sideT w r) ta tb).take i)) ?_ ?_ ?_ ?_⟩⟩
  · exact ⟨none, none, none, none, none, none, none, none, none, none, [], rfl, sF, ⟨upd_same, .nil, by simp, hF, fun x hx => (List.not_mem_nil hx).elim⟩⟩
  · rintro i σ H1 ⟨c6, c7, c8, c9, c10, c11, c12, c13, c14, c15, ls, rfl, s1, _⟩
    exact ⟨SqL.of (s1 _ _ hA.lst), SqL.of (s1 _ _ hB.lst)⟩
  · rintro i x y T σ H1 hx hy ⟨c6, c7, c8, c9, c10, c11, c12, c13, c14, c15, ls, rfl, s1, ht⟩ hT
    rw [List.getElem?_map] at hx hy
    obtain ⟨a, ha, rfl⟩ := Option.map_eq_some_iff.mp hx
    obtain ⟨b, hb, rfl⟩ := Option.map_eq_some_iff.mp hy
    obtain ⟨t1, ht1, ta1⟩ := pr_get (hA.same s1).tab ha
    obtain ⟨t2, ht2, tb1⟩ := pr_get (hB.same s1).tab hb
    have ok1 := oka t1 (List.mem_of_getElem? ht1)
    have ok2 := okb t2 (List.mem_of_getElem? ht2)
    have sT := same_new (o := .tup [.ref a, .ref b]) hT
    have s2 := s1.trans sT
    have tA := ta1.keep (fun o e => sT _ _ e) (Same.tp sT)
    have tB := tb1.keep (fun o e => sT _ _ e) (Same.tp sT)
    have tF := ht.same sT
    have hTT : upd H1 T (.tup [.ref a, .ref b]) T = some (.tup [.ref a, .ref b]) := upd_same
    generalize upd H1 T (.tup [.ref a, .ref b]) = H2 at s2 tA tB tF hTT
    refine ⟨T, _, rfl, SqT.of hTT, rfl, _, _, rfl, _, _, rfl, rfl, ?_⟩
    refine ⟨(by show 0 ≤ sizeLine; decide), fun P hP => ?_⟩
    have hP0 : H P = none := s2.free hP
    have sP := same_new (o := .lst []) hP
    have hmP : P ∉ F :: ls := tF.notIn hP
    have hSS := ss_le wr1 wr6
    refine ⟨_, rfl, _, rfl, _, _, rfl, rfl, .inl ⟨by omega, by omega⟩, w * r * (w * r), rfl, by omega, by omega,
      for_range (lo := 0) (n := (w * r * (w * r)).toNat) (fun j σ H3 => ∃ (c9 c10 c11 c12 c13 c14 c15 : Option V), σ = [some (.ref A), some (.ref B), some (.int w), some (.int r), some (.ref F), some (.int (w * r)), some (.ref a), some (.ref b), some (.ref P), c9, c10, c11, c12, c13, c14, c15] ∧ Same H2 H3 ∧ TabAt K H3 P (((List.range j).map fun (j : Nat) => (j : Int)).map (sideP t1 t2 w r))) ?_ ?_ ?_⟩
    · exact ⟨_, _, _, _, _, _, _, rfl, sP, ⟨[], upd_same, .nil⟩⟩
    · rintro j σ H3 hj ⟨c9, c10, c11, c12, c13, c14, c15, rfl, s3, tP⟩
      have tA3 := tA.keep (fun o e => s3 _ _ e) (Same.tp s3)
      have tB3 := tB.keep (fun o e => s3 _ _ e) (Same.tp s3)
      have hz : (0 : Int) + (j : Nat) = j := Int.zero_add _
      rw [hz]
      have j0 : (0 : Int) ≤ (j : Int) := Int.natCast_nonneg _
      have jS : (j : Int) < w * r * (w * r) := by omega
      have q1 : 0 ≤ (j : Int) / (w * r) ∧ (j : Int) / (w * r) < w * r := ⟨Int.ediv_nonneg j0 (by omega), Int.ediv_lt_of_lt_mul (by omega) jS⟩
      have q2 := mod_lt (a := (j : Int)) (b := w * r) (by omega)
      have q3 : 0 ≤ (j : Int) / (w * r) / r ∧ (j : Int) / (w * r) / r < w := ⟨Int.ediv_nonneg q1.1 (by omega), Int.ediv_lt_of_lt_mul (by omega) q1.2⟩
      have q4 : 0 ≤ (j : Int) % (w * r) / r ∧ (j : Int) % (w * r) / r < w := ⟨Int.ediv_nonneg q2.1 (by omega), Int.ediv_lt_of_lt_mul (by omega) q2.2⟩
      have q5 := mod_lt (a := (j : Int) / (w * r)) (b := r) (by omega)
      have q6 := mod_lt (a := (j : Int) % (w * r)) (b := r) (by omega)
      have i1 := ix_lt q3.1 q3.2 q4.1 q4.2
      have i2 := ix_lt q5.1 q5.2 q6.1 q6.2
      obtain ⟨vs1, v1, p1, f1, f2, f3, f4⟩ := tab_ix tA3 i1.1 (by rw [ok1.len]; exact i1.2)
      obtain ⟨vs2, v2, p2, g1, g2, g3, g4⟩ := tab_ix tB3 i2.1 (by rw [ok2.len]; exact i2.2)
      obtain ⟨x1, rfl, y1⟩ := dP_at f4
      obtain ⟨x2, rfl, y2⟩ := dP_at g4
      have in1 := ok1.inn p1 (List.mem_of_getElem? f3)
      have in2 := ok2.inn p2 (List.mem_of_getElem? g3)
      unfold InP at in1 in2
      refine ⟨_, rfl, _, rfl, _, _, rfl, rfl, ⟨by omega, by omega⟩, _, rfl, _, rfl, _, _, rfl, rfl, (by show 0 < w * r; omega), _, _, rfl, ?_⟩
      refine ⟨_, rfl, _, rfl, _, rfl, _, _, rfl, rfl, ⟨by omega, by omega⟩, _, rfl, _, _, rfl, rfl, .inr ⟨by omega, by omega⟩, _, rfl, _, rfl, _, _, rfl, rfl, ⟨by omega, by omega⟩, _, _, rfl, rfl, a, vs1, _, _, rfl, rfl, SqL.of f1, f2, x1, _, rfl, y1, rfl, _, _, rfl, _, _, rfl, rfl, ?_⟩
      refine ⟨_, rfl, _, rfl, _, rfl, _, _, rfl, rfl, (by show 0 < r; omega), _, rfl, _, _, rfl, rfl, .inr ⟨by omega, by omega⟩, _, rfl, _, rfl, _, _, rfl, rfl, (by show 0 < r; omega), _, _, rfl, rfl, b, vs2, _, _, rfl, rfl, SqL.of g1, g2, x2, _, rfl, y2, rfl, _, _, rfl, _, _, rfl, rfl, ?_⟩
      obtain ⟨vp, e1, e2⟩ := tP.ex
      refine ⟨_, rfl, .inl ⟨rfl, _, SqL.of e1⟩, _, rfl, _, rfl, _, _, rfl, rfl, .inr ⟨by omega, by omega⟩, _, rfl, _, _, rfl, rfl, _, rfl, _, rfl, _, _, rfl, rfl, .inr ⟨by omega, by omega⟩, _, rfl, _, _, rfl, rfl, (by show 2 ≤ sizeLine; decide), fun z hzn => ?_⟩
      have hPz : P ≠ z := ne_of_none e1 hzn
      have sz := same_new (o := .tup [.int (p1.1 * r + p2.1), .int (p1.2 * r + p2.2)]) hzn
      have hzz : upd H3 z (.tup [.int (p1.1 * r + p2.1), .int (p1.2 * r + p2.2)]) z = some _ := upd_same
      generalize upd H3 z (.tup [.int (p1.1 * r + p2.1), .int (p1.2 * r + p2.2)]) = H4 at sz hzz
      have e1' := sz _ _ e1
      have ln : vp.length = j := by rw [DpAll.len e2, List.length_map, List.length_map, List.length_map, List.length_range]
      refine ⟨P, vp, _, rfl, rfl, e1', ?_, ?_⟩
      · rw [ln]
        exact Nat.lt_of_le_of_lt (show j ≤ 36 by omega) (by decide)
      · refine ⟨_, _, _, _, _, _, _, rfl, fun c o e => ?_, ⟨vp ++ [.ref z], upd_same, ?_⟩⟩
        · rw [upd_ne (ne_of_none e hP)]
          exact sz _ _ (s3 _ _ e)
        · rw [iota_succ, List.map_append, List.map_append]
          have tp2 : Tp K H4 (upd H4 P (.lst (vp ++ [.ref z]))) := tp_upd (not_lst e1')
          refine DpAll.append (DpAll.tp ((Same.tp sz).trans tp2) _ _ (noLAll_dP _) e2) (.cons ?_ .nil)
          have ez : sideP t1 t2 w r (j : Int) = (p1.1 * r + p2.1, p1.2 * r + p2.2) := by
            unfold sideP
            simp only [List.getD, f3, g3, Option.getD_some]
          rw [ez]
          refine dP_new ?_
          rw [upd_ne (Ne.symm hPz)]
          exact hzz
    · rintro σ H3 ⟨c9, c10, c11, c12, c13, c14, c15, rfl, s3, tP⟩
      have tF3 := tF.same s3
      refine ⟨_, rfl, .inl ⟨rfl, _, SqL.of tF3.lst⟩, _, rfl, F, _, _, rfl, rfl, tF3.lst, ?_, ?_⟩
      · rw [List.length_map, ht.len, List.length_take]
        exact Nat.lt_of_le_of_lt (Nat.le_trans (Nat.min_le_right _ _) (show (List.zipWith (sideT w r) ta tb).length ≤ 10 by rw [List.length_zipWith]; omega)) (by decide)
      · refine ⟨_, _, _, _, _, _, _, _, _, _, ls ++ [P], rfl, fun c o e => ?_, ?_⟩
        · rw [upd_ne (ne_of_none e hF)]
          exact s3 _ _ (s2 _ _ e)
        · have ez : (List.zipWith (sideT w r) ta tb)[i]? = some (sideT w r t1 t2) := by
            rw [List.getElem?_zipWith, ht1, ht2]
          rw [List.take_add_one, ez]
          exact tF3.push tP hmP hP0
  · rintro σ H1 ⟨c6, c7, c8, c9, c10, c11, c12, c13, c14, c15, ls, rfl, s1, ht⟩
    have : (List.zipWith (sideT w r) ta tb).take (la.map V.ref).length = List.zipWith (sideT w r) ta tb := List.take_of_length_le (by rw [List.length_zipWith, List.length_map, pr_len hA.tab]; omega)
    rw [this] at ht
    exact ⟨_, rfl, k F ls H1 s1 ht⟩
end Wf

/-! Tables with other names, good tables, books. -/
namespace Wf
open PySem PySem.Spec L2
theorem for_enumL {K : PySem.W.Frag} {a : Addr} {xs : List V} {g : TG} {tb : TS} {D : Ends} {σ : St} {H : Hp} (Pv : Nat → St → Hp → Prop) (h0 : Pv 0 σ H) (hq : ∀ i σ H, Pv i σ H → SqL K H a xs)
    (hs : ∀ (i : Nat) (x : V) (T : Addr) (σ : St) (H : Hp), xs[i]? = some x → Pv i σ H → H T = none → g (.ref T) σ (upd H T (.tup [.int (i : Nat), x])) fun σ2 H2 => tb { D with nx := Pv (i + 1), ct := Pv (i + 1), bk := D.nx } σ2 H2) (hd : ∀ σ H, Pv xs.length σ H → D.nx σ H) :
    ∃ W : Nat → Nat → St → Hp → Prop, (∃ m, W 0 m σ H) ∧ ∀ i m σ H, W i m σ H →
      ((Ite K a).stop i H ∧ D.nx σ H) ∨ ((Ite K a).go i H ∧ ∃ N : St → Hp → Prop, (∀ σ' H', N σ' H' → ∃ m', m' < m ∧ W (i + 1) m' σ' H') ∧ ∀ v H', (Ite K a).yld i H v H' → g v σ H' fun σ2 H2 => tb { D with nx := N, ct := N, bk := D.nx } σ2 H2) := by
  refine ⟨fun i m σ H => m = xs.length - i ∧ i ≤ xs.length ∧ Pv i σ H, ⟨xs.length, rfl, Nat.zero_le _, h0⟩, ?_⟩
  rintro i m σ H ⟨rfl, hi, p⟩
  have q := hq i σ H p
  by_cases hlt : i < xs.length
  · have hx : xs[i]? = some xs[i] := List.getElem?_eq_getElem hlt
    refine .inr ⟨⟨xs, _, q, hx⟩, Pv (i + 1), fun σ' H' p' => ⟨xs.length - (i + 1), by omega, rfl, hlt, p'⟩, fun v H' y => ?_⟩
    obtain ⟨T, x, rfl, hT, rfl, hall⟩ := y
    exact hs i x T σ H (hall xs q) p hT
  · have e : i = xs.length := by omega
    subst e
    exact .inl ⟨⟨xs, q, Nat.le_refl _⟩, hd σ H p⟩
theorem DpAll.set {K : PySem.W.Frag} {H : Hp} {v : V} {d : PyData} (h : Dp K H v d) : ∀ {vs : List V} {ds : List PyData} (i : Nat), DpAll K H vs ds → DpAll K H (vs.set i v) (ds.set i d)
  | _, _, _, .nil => .nil
  | _, _, 0, .cons _ t => .cons h t
  | _, _, i + 1, .cons k t => .cons k (DpAll.set h i t)
/-! ### _law_names_put -/
def nmStep (ns : List Int) (s : Int) (t acc : Tab) (n : Nat) : Tab :=
  acc.set (ns.getD ((n : Int) / s).toNat 0 * s + ns.getD ((n : Int) % s).toNat 0).toNat (ns.getD (t.getD n (0, 0)).1.toNat 0, ns.getD (t.getD n (0, 0)).2.toNat 0)
def nmF (ns : List Int) (s : Int) (t : Tab) (k : Nat) : Tab := (List.range k).foldl (nmStep ns s t) (List.replicate (s * s).toNat (0, 0))
def nameT (s : Int) (ns : List Int) (t : Tab) : Tab := nmF ns s t t.length
theorem nmF_succ (ns : List Int) (s : Int) (t : Tab) (k : Nat) : nmF ns s t (k + 1) = nmStep ns s t (nmF ns s t k) k := by
  unfold nmF
  rw [List.range_succ, List.foldl_append]
  rfl
theorem nmF_len (ns : List Int) (s : Int) (t : Tab) : ∀ k, (nmF ns s t k).length = (s * s).toNat
  | 0 => by unfold nmF; rw [List.range_zero, List.foldl_nil, List.length_replicate]
  | k + 1 => by rw [nmF_succ, nmStep, List.length_set, nmF_len ns s t k]
def sp_names (K : PySem.W.Frag) : Sp := fun vs H Q _ => ∃ (A N : Addr) (la : List Addr) (ta : List Tab) (s : Int) (ns : List Int), vs = [.ref A, .int s, .ref N] ∧ TL K H A la ta ∧ H N = some (.lst (ns.map V.int)) ∧ ta.length ≤ 10 ∧ 1 ≤ s ∧ s ≤ 6 ∧ ns.Perm (iota s) ∧
  (∀ t ∈ ta, TabOk s t) ∧ ∀ (F : Addr) (ls : List Addr) (H' : Hp), Same H H' → Tabs K H H' F ls (ta.map (nameT s ns)) → Q (.ref F) H'
theorem iota_mem {n x : Int} : x ∈ iota n ↔ 0 ≤ x ∧ x < n := by
  unfold iota
  rw [List.mem_map]
  constructor
  · rintro ⟨i, hi, rfl⟩
    rw [List.mem_range] at hi
    constructor <;> omega
  · rintro ⟨h1, h2⟩
    exact ⟨x.toNat, by rw [List.mem_range]; omega, by omega⟩
theorem perm_at {s : Int} {ns : List Int} (hp : ns.Perm (iota s)) {i : Int} (h0 : 0 ≤ i) (h1 : i < s) : atI (ns.map V.int) i = some (.int (ns.getD i.toNat 0)) ∧ 0 ≤ ns.getD i.toNat 0 ∧ ns.getD i.toNat 0 < s := by
  have hl : ns.length = s.toNat := by rw [hp.length_eq]; unfold iota; rw [List.length_map, List.length_range]
  have hi : i.toNat < ns.length := by omega
  have e : ns[i.toNat]? = some ns[i.toNat] := List.getElem?_eq_getElem hi
  have m : ns[i.toNat] ∈ iota s := hp.mem_iff.mp (List.getElem_mem hi)
  have g : ns.getD i.toNat 0 = ns[i.toNat] := by simp [List.getD, e]
  rw [g]
  refine ⟨?_, (iota_mem.mp m).1, (iota_mem.mp m).2⟩
  unfold atI ixN
  rw [if_pos h0, if_pos (by rw [List.length_map]; omega)]
  show (ns.map V.int)[i.toNat]? = _
  rw [List.getElem?_map, e]
  rfl
theorem dp_rep {K : PySem.W.Frag} {H : Hp} {v : V} {d : PyData} (h : Dp K H v d) : ∀ n, DpAll K H (List.replicate n v) (List.replicate n d)
  | 0 => .nil
  | n + 1 => .cons h (dp_rep h n)
theorem rep_flat {α : Type} (v : α) : ∀ n, (List.replicate n [v]).flatten = List.replicate n v
  | 0 => rfl
  | n + 1 => by rw [List.replicate_succ, List.flatten_cons, rep_flat v n]; rfl
def t_names_put (K : PySem.W.Frag) : TS :=
  tSeq (tAsg (tLst (tNil)) (gName 3))
    (tSeq (tFor (iList K (tVar 0)) (gName 4) (tSeq (tAsg (tOp rRep (tLst (tCons (tTup (tCons (tC (.int 0)) (tCons (tC (.int 0)) (tNil)))) (tNil))) (tOp qMul (tVar 1) (tVar 1))) (gName 5))
    (tSeq (tFor (iEnum K (tCons (tVar 4) (tNil))) (gTup K 2 (gCons (gName 6) (gCons (gName 7) (gNil)))) (tSeq (tPar 8 9 (tCons (tOp (rIxL K) (tVar 2) (tOp qFdiv (tVar 6) (tVar 1))) (tCons (tOp (rIxL K) (tVar 2) (tOp qMod (tVar 6) (tVar 1))) (tNil))))
    (tAsg (tTup (tCons (tOp (rIxL K) (tVar 2) (tOp (rIxT K) (tVar 7) (tC (.int 0)))) (tCons (tOp (rIxL K) (tVar 2) (tOp (rIxT K) (tVar 7) (tC (.int 1)))) (tNil)))) (gSub (tVar 5) (tOp qAdd (tOp qMul (tVar 8) (tVar 1)) (tVar 9)) rSetL))))
    (tDrop (tBM K "list" rAppend (tVar 3) (tCons (tVar 5) (tNil)))))))
    (tRet (tVar 3)))
theorem pure_names {K : PySem.W.Frag} (vs : List V) (H : Hp) (Q : VK) (E : XK) (h : sp_names K vs H Q E) : t_names_put K (EndsQ Q) (sN 10 vs) H := by
  obtain ⟨A, N, la, ta, s, ns, rfl, hA, hN, h10, s1, s6, hp, oka, k⟩ := h
  show t_names_put K _ [some (.ref A), some (.int s), some (.ref N), none, none, none, none, none, none, none] H
  have hss := ss_le s1 s6
  refine ⟨(by show 0 ≤ sizeLine; decide), fun F hF => ?_⟩
  have sF := same_new (o := .lst []) hF
  refine ⟨_, rfl, A, rfl, ⟨_, SqL.of (sF _ _ hA.lst)⟩, for_list (K := K) (a := A) (xs := la.map V.ref)
    (fun i σ H1 => ∃ (c4 c5 c6 c7 c8 c9 : Option V) (ls : List Addr), σ = [some (.ref A), some (.int s), some (.ref N), some (.ref F), c4, c5, c6, c7, c8, c9] ∧ Same H H1 ∧ Tabs K H H1 F ls ((ta.map (nameT s ns)).take i)) ?_ ?_ ?_ ?_⟩
  · exact ⟨none, none, none, none, none, none, [], rfl, sF, ⟨upd_same, .nil, by simp, hF, fun x hx => (List.not_mem_nil hx).elim⟩⟩
  · rintro i σ H1 _ ⟨c4, c5, c6, c7, c8, c9, ls, rfl, s1, _⟩
    exact SqL.of (s1 _ _ hA.lst)
  · rintro i x σ H1 hx ⟨c4, c5, c6, c7, c8, c9, ls, rfl, sH1, ht⟩
    rw [List.getElem?_map] at hx
    obtain ⟨a, ha, rfl⟩ := Option.map_eq_some_iff.mp hx
    obtain ⟨t, ht1, ta1⟩ := pr_get (hA.same sH1).tab ha
    have ok1 := oka t (List.mem_of_getElem? ht1)
    refine ⟨(by show 2 ≤ sizeLine; decide), fun p hp0 => ⟨(by show 1 ≤ sizeLine; decide), fun q hq0 => ?_⟩⟩
    have sp := same_new (o := .tup [.int 0, .int 0]) hp0
    have sq := same_new (o := .lst [.ref p]) hq0
    refine ⟨_, rfl, _, rfl, _, _, rfl, rfl, .inl ⟨by omega, by omega⟩, q, s * s, [.ref p], rfl, rfl, upd_same, by omega, by omega, ?_, fun P hP => ?_⟩
    · show 1 * (s * s).toNat ≤ sizeLine
      exact Nat.le_trans (show 1 * (s * s).toNat ≤ 36 by omega) (by decide)
    rw [rep_flat]
    have sP := same_new (o := .lst (List.replicate (s * s).toNat (.ref p))) hP
    have s12 := sp.trans sq
    have s13 := s12.trans sP
    have hpp : upd (upd (upd H1 p (.tup [.int 0, .int 0])) q (.lst [.ref p])) P (.lst (List.replicate (s * s).toNat (.ref p))) p = some (.tup [.int 0, .int 0]) := (sq.trans sP) _ _ upd_same
    have hPP : upd (upd (upd H1 p (.tup [.int 0, .int 0])) q (.lst [.ref p])) P (.lst (List.replicate (s * s).toNat (.ref p))) P = some (.lst (List.replicate (s * s).toNat (.ref p))) := upd_same
    have hP1 : H1 P = none := s12.free hP
    have hP0 : H P = none := sH1.free hP1
    have hmP : P ∉ F :: ls := ht.notIn hP1
    generalize upd (upd (upd H1 p (.tup [.int 0, .int 0])) q (.lst [.ref p])) P (.lst (List.replicate (s * s).toNat (.ref p))) = H2 at s13 hpp hPP
    have s2 := sH1.trans s13
    have tA := ta1.keep (fun o e => s13 _ _ e) (Same.tp s13)
    have tF := ht.same s13
    obtain ⟨va, ea, fa⟩ := tA.ex
    have lva : va.length = t.length := by rw [DpAll.len fa, List.length_map]
    have sBut : ∀ {H3 : Hp}, (∀ c o, c ≠ P → H2 c = some o → H3 c = some o) → H2 P = some (.lst (List.replicate (s * s).toNat (.ref p))) → Tp K H2 H3 := fun {H3} hk h => But.tp (ds := [P]) (fun c o hc e => hk c o (fun z => hc (by rw [z]; exact List.mem_cons_self)) e) fun x hx => by
      rw [List.mem_singleton.mp hx]
      exact not_lst h
    have haP : a ≠ P := by
      obtain ⟨vv, e, _⟩ := ta1.ex
      exact ne_of_none e hP1
    have hNP : N ≠ P := ne_of_none hN hP0
    have hN2 := s2 _ _ hN
    refine ⟨_, rfl, a, va, rfl, SqL.of ea, for_enumL (K := K) (a := a) (xs := va)
      (fun j σ H3 => ∃ (c6 c7 c8 c9 : Option V), σ = [some (.ref A), some (.int s), some (.ref N), some (.ref F), some (.ref a), some (.ref P), c6, c7, c8, c9] ∧ (∀ c o, c ≠ P → H2 c = some o → H3 c = some o) ∧ TabAt K H3 P (nmF ns s t j)) ?_ ?_ ?_ ?_⟩
    · refine ⟨_, _, _, _, rfl, fun c o _ e => e, ⟨_, hPP, ?_⟩⟩
      unfold nmF
      rw [List.range_zero, List.foldl_nil, List.map_replicate]
      exact dp_rep (dP_new hpp) _
    · rintro j σ H3 ⟨c6, c7, c8, c9, rfl, k3, _⟩
      exact SqL.of (k3 _ _ haP ea)
    · rintro j x T σ H3 hx ⟨c6, c7, c8, c9, rfl, k3, tP⟩ hT
      have hjt : j < t.length := by rw [← lva]; exact (List.getElem?_eq_some_iff.mp hx).1
      have et : t[j]? = some t[j] := List.getElem?_eq_getElem hjt
      have jss : (j : Int) < s * s := by rw [← ok1.len]; omega
      have j0 : (0 : Int) ≤ (j : Int) := Int.natCast_nonneg _
      obtain ⟨dx, f1, f2⟩ := DpAll.getV fa hx
      rw [List.getElem?_map, et] at f1
      cases f1
      have in1 := ok1.inn t[j] (List.getElem_mem hjt)
      unfold InP at in1
      have tp3 := sBut k3 hPP
      have sT := same_new (o := .tup [.int (j : Nat), x]) hT
      have f3 := Dp.tp (tp3.trans (Same.tp sT)) _ _ (noL_dP _) f2
      obtain ⟨xa, rfl, hxa⟩ := dP_at f3
      have hTT : upd H3 T (.tup [.int (j : Nat), .ref xa]) T = some (.tup [.int (j : Nat), .ref xa]) := upd_same
      have tP4 := tP.keep (fun o e => sT _ _ e) (Same.tp sT)
      have k4 : ∀ c o, c ≠ P → H2 c = some o → upd H3 T (.tup [.int (j : Nat), .ref xa]) c = some o := fun c o hc e => sT _ _ (k3 c o hc e)
      have hTP : T ≠ P := by
        obtain ⟨vv, e, _⟩ := tP.ex
        exact (ne_of_none e hT).symm
      generalize upd H3 T (.tup [.int (j : Nat), .ref xa]) = H4 at hxa hTT tP4 k4
      have hN4 := k4 _ _ hNP hN2
      have q1 : 0 ≤ (j : Int) / s ∧ (j : Int) / s < s := ⟨Int.ediv_nonneg j0 (by omega), Int.ediv_lt_of_lt_mul (by omega) jss⟩
      have q2 := mod_lt (a := (j : Int)) (b := s) (by omega)
      obtain ⟨g1, g2, g3⟩ := perm_at hp q1.1 q1.2
      obtain ⟨g4, g5, g6⟩ := perm_at hp q2.1 q2.2
      obtain ⟨g7, g8, g9⟩ := perm_at hp in1.1 in1.2.1
      obtain ⟨g10, g11, g12⟩ := perm_at hp in1.2.2.1 in1.2.2.2
      refine ⟨T, _, rfl, SqT.of hTT, rfl, _, _, rfl, _, _, rfl, rfl, ?_⟩
      refine ⟨_, rfl, _, rfl, _, rfl, _, _, rfl, rfl, ⟨by omega, by omega⟩, N, _, _, _, rfl, rfl, SqL.of hN4, g1, _, rfl, _, rfl, _, rfl, _, _, rfl, rfl, (by show 0 < s; omega), N, _, _, _, rfl, rfl, SqL.of hN4, g4, _, _, rfl, ?_⟩
      refine ⟨_, rfl, _, rfl, xa, _, _, _, rfl, rfl, hxa, rfl, N, _, _, _, rfl, rfl, SqL.of hN4, g7, _, rfl, _, rfl, xa, _, _, _, rfl, rfl, hxa, rfl, N, _, _, _, rfl, rfl, SqL.of hN4, g10, (by show 2 ≤ sizeLine; decide), fun z hz => ?_⟩
      have sz := same_new (o := .tup [.int (ns.getD t[j].1.toNat 0), .int (ns.getD t[j].2.toNat 0)]) hz
      have hzz : upd H4 z (.tup [.int (ns.getD t[j].1.toNat 0), .int (ns.getD t[j].2.toNat 0)]) z = some _ := upd_same
      have tP5 := tP4.keep (fun o e => sz _ _ e) (Same.tp sz)
      have k5 : ∀ c o, c ≠ P → H2 c = some o → upd H4 z (.tup [.int (ns.getD t[j].1.toNat 0), .int (ns.getD t[j].2.toNat 0)]) c = some o := fun c o hc e => sz _ _ (k4 c o hc e)
      have hPz : P ≠ z := by
        obtain ⟨vv, e, _⟩ := tP4.ex
        exact ne_of_none e hz
      generalize upd H4 z (.tup [.int (ns.getD t[j].1.toNat 0), .int (ns.getD t[j].2.toNat 0)]) = H5 at hzz tP5 k5
      have ix := ix_lt g2 g3 g5 g6
      obtain ⟨vp, e1, e2⟩ := tP5.ex
      have lvp : vp.length = (s * s).toNat := by rw [DpAll.len e2, List.length_map, nmF_len]
      refine ⟨_, rfl, _, rfl, _, rfl, _, _, rfl, rfl, .inr ⟨by omega, by omega⟩, _, rfl, _, _, rfl, rfl, P, vp, _, (ns.getD ((j : Int) / s).toNat 0 * s + ns.getD ((j : Int) % s).toNat 0).toNat, rfl, rfl, e1, ?_, ?_⟩
      · unfold ixN
        rw [if_pos ix.1, if_pos (by rw [lvp]; omega)]
      · refine ⟨_, _, _, _, rfl, fun c o hc e => ?_, ⟨_, upd_same, ?_⟩⟩
        · rw [upd_ne hc]
          exact k5 c o hc e
        · have tp6 : Tp K H5 (upd H5 P (.lst (vp.set (ns.getD ((j : Int) / s).toNat 0 * s + ns.getD ((j : Int) % s).toNat 0).toNat (.ref z)))) := tp_upd (not_lst e1)
          rw [nmF_succ, nmStep, List.map_set]
          refine DpAll.set ?_ _ (DpAll.tp tp6 _ _ (noLAll_dP _) e2)
          have ez : t.getD j (0, 0) = t[j] := by simp [List.getD, et]
          rw [ez]
          refine dP_new ?_
          rw [upd_ne (Ne.symm hPz)]
          exact hzz
    · rintro σ H3 ⟨c6, c7, c8, c9, rfl, k3, tP⟩
      have tF3 : Tabs K H H3 F ls _ := tF.keep (fun x o hx e => k3 x o (fun z => hmP (z ▸ hx)) e) (sBut k3 hPP)
      rw [lva] at tP
      refine ⟨_, rfl, .inl ⟨rfl, _, SqL.of tF3.lst⟩, _, rfl, F, _, _, rfl, rfl, tF3.lst, ?_, ?_⟩
      · rw [List.length_map, ht.len, List.length_take, List.length_map]
        exact Nat.lt_of_le_of_lt (Nat.le_trans (Nat.min_le_right _ _) h10) (by decide)
      · refine ⟨_, _, _, _, _, _, ls ++ [P], rfl, fun c o e => ?_, ?_⟩
        · rw [upd_ne (ne_of_none e hF)]
          exact k3 _ _ (ne_of_none e hP0) (s2 _ _ e)
        · have ez : (ta.map (nameT s ns))[i]? = some (nameT s ns t) := by rw [List.getElem?_map, ht1]; rfl
          rw [List.take_add_one, ez]
          exact tF3.push tP hmP hP0
  · rintro σ H1 ⟨c4, c5, c6, c7, c8, c9, ls, rfl, s1, ht⟩
    have : (ta.map (nameT s ns)).take (la.map V.ref).length = ta.map (nameT s ns) := List.take_of_length_le (by rw [List.length_map, List.length_map, pr_len hA.tab]; omega)
    rw [this] at ht
    exact ⟨_, rfl, k F ls H1 s1 ht⟩
end Wf

/-! Good tables and books. -/
namespace Wf
open PySem PySem.Spec L2
theorem pairF_in {f s : Int} {st : Int × Int} {a b : Int} (hs : 1 ≤ s) (a0 : 0 ≤ a) (a1 : a < s) (b0 : 0 ≤ b) (b1 : b < s) : InP s (pairF f s st a b) := by
  unfold pairF InP
  have h1 := mod_lt (a := 2 * b - a) (b := s) (by omega)
  have h2 := mod_lt (a := b + st.2) (b := s) (by omega)
  have h3 := mod_lt (a := a + st.1) (b := s) (by omega)
  split
  · exact ⟨b0, b1, a0, a1⟩
  · split
    · exact ⟨a0, a1, b0, b1⟩
    · split
      · dsimp only
        split <;> split <;> exact ⟨by omega, by omega, by omega, by omega⟩
      · split
        · exact ⟨b0, b1, h1.1, h1.2⟩
        · exact ⟨h2.1, h2.2, h3.1, h3.2⟩
theorem iota_len (n : Int) : (iota n).length = n.toNat := by unfold iota; rw [List.length_map, List.length_range]
theorem div_in {s n : Int} (hs : 1 ≤ s) (h0 : 0 ≤ n) (h1 : n < s * s) : (0 ≤ n / s ∧ n / s < s) ∧ (0 ≤ n % s ∧ n % s < s) := ⟨⟨Int.ediv_nonneg h0 (by omega), Int.ediv_lt_of_lt_mul (by omega) h1⟩, mod_lt (by omega)⟩
theorem tabF_ok {f s : Int} {st : Int × Int} (hs : 1 ≤ s) : TabOk s (tabF f s st) := by
  have hss : 0 ≤ s * s := Int.mul_nonneg (by omega) (by omega)
  refine ⟨by unfold tabF; rw [List.length_map, iota_len]; omega, fun p hp => ?_⟩
  obtain ⟨n, hn, rfl⟩ := List.mem_map.mp hp
  obtain ⟨h0, h1⟩ := iota_mem.mp hn
  obtain ⟨⟨x1, x2⟩, x3, x4⟩ := div_in hs h0 h1
  exact pairF_in hs x1 x2 x3 x4
theorem PlainT.ok {m s : Int} {ts : List Tab} (hs : 1 ≤ s) (h : PlainT m s ts) : AllOk m s ts := by
  cases h with
  | all f sts f0 f4 hl hin =>
    refine ⟨by rw [List.length_map]; exact hl, fun t ht => ?_⟩
    obtain ⟨st, _, rfl⟩ := List.mem_map.mp ht
    exact tabF_ok hs
  | one sts i t hl hi ht =>
    refine ⟨by rw [List.length_set, List.length_map]; exact hl, fun x hx => ?_⟩
    rcases List.mem_or_eq_of_mem_set hx with hx | hx
    · obtain ⟨st, _, rfl⟩ := List.mem_map.mp hx
      exact tabF_ok hs
    · rw [hx]
      exact ht
theorem getD_in {s : Int} {t : Tab} (h : TabOk s t) {i : Int} (h0 : 0 ≤ i) (h1 : i < s * s) : InP s (t.getD i.toNat (0, 0)) := by
  have hl := h.len
  have hi : i.toNat < t.length := by omega
  have e : t.getD i.toNat (0, 0) = t[i.toNat] := by simp [List.getD, List.getElem?_eq_getElem hi]
  rw [e]
  exact h.inn _ (List.getElem_mem hi)
theorem sideT_ok {w r : Int} {t1 t2 : Tab} (w1 : 1 ≤ w) (r1 : 1 ≤ r) (h1 : TabOk w t1) (h2 : TabOk r t2) : TabOk (w * r) (sideT w r t1 t2) := by
  have wr1 : 1 ≤ w * r := by
    have := Int.mul_le_mul w1 r1 (by decide) (by omega)
    simpa using this
  have hss : 0 ≤ w * r * (w * r) := Int.mul_nonneg (by omega) (by omega)
  refine ⟨by unfold sideT; rw [List.length_map, iota_len]; omega, fun p hp => ?_⟩
  obtain ⟨n, hn, rfl⟩ := List.mem_map.mp hp
  obtain ⟨n0, n1⟩ := iota_mem.mp hn
  obtain ⟨⟨x1, x2⟩, x3, x4⟩ := div_in wr1 n0 n1
  have q3 : 0 ≤ n / (w * r) / r ∧ n / (w * r) / r < w := ⟨Int.ediv_nonneg x1 (by omega), Int.ediv_lt_of_lt_mul (by omega) x2⟩
  have q4 : 0 ≤ n % (w * r) / r ∧ n % (w * r) / r < w := ⟨Int.ediv_nonneg x3 (by omega), Int.ediv_lt_of_lt_mul (by omega) x4⟩
  have q5 := mod_lt (a := n / (w * r)) (b := r) (by omega)
  have q6 := mod_lt (a := n % (w * r)) (b := r) (by omega)
  have i1 := ix_lt q3.1 q3.2 q4.1 q4.2
  have i2 := ix_lt q5.1 q5.2 q6.1 q6.2
  have g1 := getD_in h1 i1.1 i1.2
  have g2 := getD_in h2 i2.1 i2.2
  unfold sideP
  dsimp only
  generalize t1.getD _ (0, 0) = c at g1
  generalize t2.getD _ (0, 0) = g at g2
  unfold InP at g1 g2 ⊢
  have e : ∀ x y : Int, 0 ≤ x → x < w → 0 ≤ y → y < r → 0 ≤ x * r + y ∧ x * r + y < w * r := fun x y a1 a2 b1 b2 => by
    have e1 : 0 ≤ x * r := Int.mul_nonneg a1 (by omega)
    have e2 : (x + 1) * r ≤ w * r := Int.mul_le_mul_of_nonneg_right (by omega) (by omega)
    have e3 : (x + 1) * r = x * r + r := by rw [Int.add_mul, Int.one_mul]
    constructor <;> omega
  have a := e c.1 g.1 g1.1 g1.2.1 g2.1 g2.2.1
  have b := e c.2 g.2 g1.2.2.1 g1.2.2.2 g2.2.2.1 g2.2.2.2
  exact ⟨a.1, a.2, b.1, b.2⟩
theorem nmF_ok {s : Int} {ns : List Int} {t : Tab} (hs : 1 ≤ s) (hp : ns.Perm (iota s)) (ht : TabOk s t) : ∀ k, k ≤ t.length → ∀ p ∈ nmF ns s t k, InP s p
  | 0, _ => fun p hp => by
    unfold nmF at hp
    rw [List.range_zero, List.foldl_nil] at hp
    rw [(List.mem_replicate.mp hp).2]
    exact ⟨by decide, by omega, by decide, by omega⟩
  | k + 1, hk => fun p hq => by
    rw [nmF_succ, nmStep] at hq
    rcases List.mem_or_eq_of_mem_set hq with hq | hq
    · exact nmF_ok hs hp ht k (by omega) p hq
    · have hkl : (k : Int) < s * s := by rw [← ht.len]; omega
      have g := getD_in ht (Int.natCast_nonneg k) hkl
      rw [Int.toNat_natCast] at g
      have g1 := perm_at hp g.1 g.2.1
      have g2 := perm_at hp g.2.2.1 g.2.2.2
      rw [hq]
      exact ⟨g1.2.1, g1.2.2, g2.2.1, g2.2.2⟩
theorem nameT_ok {s : Int} {ns : List Int} {t : Tab} (hs : 1 ≤ s) (hp : ns.Perm (iota s)) (ht : TabOk s t) : TabOk s (nameT s ns t) := by
  have hss : 0 ≤ s * s := Int.mul_nonneg (by omega) (by omega)
  exact ⟨by unfold nameT; rw [nmF_len]; omega, nmF_ok hs hp ht _ (Nat.le_refl _)⟩
/-- tables that are good by making -/
inductive GoodT (m s : Int) : List Tab → Prop
  | plain {ts : List Tab} : PlainT m s ts → GoodT m s ts
  | side {w r : Int} {ta tb : List Tab} : 1 ≤ w → 1 ≤ r → w * r = s → PlainT m w ta → PlainT m r tb → GoodT m s (List.zipWith (sideT w r) ta tb)
  | name {ts : List Tab} {ns : List Int} : GoodT m s ts → ns.Perm (iota s) → GoodT m s (ts.map (nameT s ns))
theorem GoodT.ok {m s : Int} {ts : List Tab} (hs : 1 ≤ s) (h : GoodT m s ts) : AllOk m s ts := by
  induction h with
  | plain h => exact h.ok hs
  | side w1 r1 e ha hb =>
    have oa := ha.ok w1
    have ob := hb.ok r1
    have la := oa.len
    have lb := ob.len
    refine ⟨by rw [List.length_zipWith]; omega, fun t ht => ?_⟩
    obtain ⟨i, hi⟩ := List.mem_iff_getElem?.mp ht
    rw [List.getElem?_zipWith] at hi
    revert hi
    split
    · rename_i x y hx hy
      intro hi
      cases hi
      rw [← e]
      exact sideT_ok w1 r1 (oa.ok _ (List.mem_of_getElem? hx)) (ob.ok _ (List.mem_of_getElem? hy))
    · intro hi
      cases hi
  | name h hp ih =>
    refine ⟨by rw [List.length_map]; exact ih.len, fun t ht => ?_⟩
    obtain ⟨u, hu, rfl⟩ := List.mem_map.mp ht
    exact nameT_ok hs hp (ih.ok u hu)
def sp_good (K : PySem.W.Frag) : Sp := fun vs H Q _ => ∃ (d l : Addr) (m s : Int), vs = [.ref d, .int m, .int s] ∧ 1 ≤ m ∧ m ≤ 5 ∧ 1 ≤ s ∧ s ≤ 6 ∧ Deal H d l ∧ GiveT K d l H Q (GoodT m s)
def t_good_a (K : PySem.W.Frag) (sp_draw : Sp) : TS := (tAsg (tIf (tTest (tOp rEq (tCall sp_draw [] E0 (tCons (tVar 0) (tCons (tC (.int 2)) (tNil)))) (tC (.int 0)))) (tOp (rIxL K) (tLst (tCons (tC (.int 1)) (tCons (tC (.int 1)) (tCons (tC (.int 1)) (tCons (tC (.int 1)) (tCons (tC (.int 2)) (tCons (tC (.int 1)) (tCons (tOp (rIxL K) (tLst (tCons (tC (.int 2)) (tCons (tC (.int 3)) (tNil)))) (tCall sp_draw [] E0 (tCons (tVar 0) (tCons (tC (.int 2)) (tNil))))) (tNil))))))))) (tVar 2)) (tC (.int 1))) (gName 3))
def t_good_c (K : PySem.W.Frag) (sp_draw : Sp) (sp_mixed : Sp) (sp_names_put : Sp) : TS := (tSeq (tIfS (tTest (tOp rEq (tCall sp_draw [] E0 (tCons (tVar 0) (tCons (tC (.int 2)) (tNil)))) (tC (.int 0)))) (tAsg (tCall sp_names_put [] E0 (tCons (tVar 4) (tCons (tVar 2) (tCons (tCall sp_mixed [] E0 (tCons (tVar 0) (tCons (tVar 2) (tNil)))) (tNil))))) (gName 4)) (tNext))
    (tRet (tVar 4)))
def t_good_b (K : PySem.W.Frag) (sp_draw : Sp) (sp_plain : Sp) (sp_side : Sp) (sp_mixed : Sp) (sp_names_put : Sp) : TS := tSeq (tAsg (tCall sp_plain [] E0 (tCons (tVar 0) (tCons (tVar 1) (tCons (tOp qFdiv (tVar 2) (tVar 3)) (tNil))))) (gName 4))
    (tSeq (tIfS (tTest (tOp qGt (tVar 3) (tC (.int 1)))) (tAsg (tCall sp_side [] E0 (tCons (tCall sp_plain [] E0 (tCons (tVar 0) (tCons (tVar 1) (tCons (tVar 3) (tNil))))) (tCons (tVar 4) (tCons (tVar 3) (tCons (tOp qFdiv (tVar 2) (tVar 3)) (tNil)))))) (gName 4)) (tNext))
    (t_good_c K sp_draw sp_mixed sp_names_put))
def t_good (K : PySem.W.Frag) (sp_draw : Sp) (sp_plain : Sp) (sp_side : Sp) (sp_mixed : Sp) (sp_names_put : Sp) : TS := tSeq (t_good_a K sp_draw) (t_good_b K sp_draw sp_plain sp_side sp_mixed sp_names_put)

theorem GiveT.mono {K : PySem.W.Frag} {d l : Addr} {H H1 : Hp} {Q : VK} {R : List Tab → Prop} (k : GiveT K d l H Q R) (b : But [d, l] H H1) (hD : Deal H d l) (F : Addr) (ls : List Addr) (ts : List Tab) (H' : Hp) (b1 : But [d, l] H1 H') (d1 : Deal H' d l) (t : Tabs K H1 H' F ls ts) (r : R ts) (nd : ∀ x ∈ F :: ls, x ≠ d ∧ x ≠ l) : Q (.ref F) H' :=
  k F ls ts H' (b.trans b1) d1 ⟨t.lst, t.tab, t.nd, b.none_of (nd F List.mem_cons_self) t.newF, fun x hx => b.none_of (nd x (List.mem_cons_of_mem _ hx)) (t.newL x hx)⟩ r
theorem Tabs.apart {K : PySem.W.Frag} {H1 H' : Hp} {F d l : Addr} {ls : List Addr} {ts : List Tab} (t : Tabs K H1 H' F ls ts) (hD : Deal H1 d l) : ∀ x ∈ F :: ls, x ≠ d ∧ x ≠ l := fun x hx => hD.ne (by
  rcases List.mem_cons.mp hx with rfl | hx
  · exact t.newF
  · exact t.newL x hx)
theorem Tabs.back {K : PySem.W.Frag} {H H1 H' : Hp} {F d l : Addr} {ls : List Addr} {ts : List Tab} (t : Tabs K H1 H' F ls ts) (b : But [d, l] H H1) (hD : Deal H1 d l) : Tabs K H H' F ls ts :=
  ⟨t.lst, t.tab, t.nd, b.none_of (t.apart hD F List.mem_cons_self) t.newF, fun x hx => b.none_of (t.apart hD x (List.mem_cons_of_mem _ hx)) (t.newL x hx)⟩
theorem Same.but {ds : List Addr} {H H' : Hp} (s : Same H H') : But ds H H' := fun a o _ e => s a o e
theorem Same.deal {H H' : Hp} {d l : Addr} (s : Same H H') (h : Deal H d l) : Deal H' d l := by
  obtain ⟨z1, z2, z3, z4, z5, z6, z7⟩ := h.ex
  exact ⟨z1, z2, z3, z4, s _ _ z5, s _ _ z6, z7⟩
theorem pure_good {K : PySem.W.Frag} (vs : List V) (H : Hp) (Q : VK) (E : XK) (h : sp_good K vs H Q E) : t_good K sp_draw (sp_plain K) (sp_side K) sp_mixed (sp_names K) (EndsQ Q) (sN 5 vs) H := by
  obtain ⟨d, l, m, s, rfl, m1, m5, s1, s6, hD, k⟩ := h
  show t_good K sp_draw (sp_plain K) (sp_side K) sp_mixed (sp_names K) _ [some (.ref d), some (.int m), some (.int s), none, none] H
  have hn := nT_le m1 m5
  have last : ∀ (z : V) (F : Addr) (ls : List Addr) (ts : List Tab) (H3 : Hp), But [d, l] H H3 → Deal H3 d l → Tabs K H H3 F ls ts → GoodT m s ts → t_good_c K sp_draw sp_mixed (sp_names K) (EndsQ Q) [some (.ref d), some (.int m), some (.int s), some z, some (.ref F)] H3 := by
    intro z F ls ts H3 b3 d3 t3 g3
    have ok3 := g3.ok s1
    have l3 := ok3.len
    refine ⟨_, rfl, d, l, 2, rfl, by decide, by decide, d3, fun c H4 c0 c1 b4 d4 => ⟨rfl, _, rfl, ?_⟩⟩
    have t4 := t3.but hD d3 b4
    by_cases hc : c = 0
    · subst hc
      simp only [decide_true, ↓reduceIte]
      refine ⟨_, rfl, _, rfl, _, rfl, _, rfl, d, l, s, rfl, by omega, by omega, d4, fun N ns H5 b5 d5 hNn hN hp => ?_⟩
      have t5 := t4.but hD d4 b5
      refine ⟨F, N, ls, ts, s, ns, rfl, t5.tl, hN, by omega, s1, s6, hp, ok3.ok, fun F2 ls2 H6 s6' t6 => ?_⟩
      have b6 := b3.trans (b4.trans b5)
      exact ⟨_, rfl, k F2 ls2 _ H6 (b6.trans (Same.but s6')) (Same.deal s6' d5) (t6.back b6 d5) (.name g3 hp)⟩
    · have : decide (V.int c = V.int 0) = false := decide_eq_false fun z => hc (V.int.inj z)
      rw [this]
      exact ⟨_, rfl, k F ls ts H4 (b3.trans b4) d4 t4 g3⟩
  have rest : ∀ (z r : Int) (H1 : Hp), 1 ≤ z → 1 ≤ r → z * r = s → s / z = r → z ≤ 6 → r ≤ 6 → But [d, l] H H1 → Deal H1 d l → t_good_b K sp_draw (sp_plain K) (sp_side K) sp_mixed (sp_names K) (EndsQ Q) [some (.ref d), some (.int m), some (.int s), some (.int z), none] H1 := by
    intro z r H1 z1 r1 zr sz z6 r6 b1 d1
    refine ⟨_, rfl, _, rfl, _, rfl, _, rfl, _, _, rfl, rfl, ⟨by omega, by omega⟩, d, l, m, r, by rw [← sz]; rfl, m1, m5, r1, r6, d1, fun F ls tb H2 b2 d2 t2 pb => ?_⟩
    have t2' := t2.back b1 d1
    have okb := pb.ok r1
    have lb := okb.len
    refine ⟨_, rfl, _, _, rfl, rfl, _, rfl, ?_⟩
    refine ifd (fun c => ?_) (fun c => ?_)
    · refine ⟨_, rfl, _, rfl, _, rfl, d, l, m, z, rfl, m1, m5, z1, z6, d2, fun F2 ls2 ta H3 b3 d3 t3 pa => ?_⟩
      have t3' := t2'.but hD d2 b3
      have oka := pa.ok z1
      have la := oka.len
      refine ⟨_, rfl, _, rfl, _, rfl, _, rfl, _, _, rfl, rfl, ⟨by omega, by omega⟩, F2, F, ls2, ls, ta, tb, z, r, by rw [← sz]; rfl, t3.tl, t3'.tl, by omega, by omega, z1, r1, z6, r6, by omega, oka.ok, okb.ok, fun F4 ls4 H4 s4 t4 => ?_⟩
      have b4 := b1.trans (b2.trans b3)
      exact last (.int z) F4 ls4 _ H4 (b4.trans (Same.but s4)) (Same.deal s4 d3) (t4.back b4 d3) (.side z1 r1 zr pa pb)
    · have hz : z = 1 := by omega
      have hr : r = s := by rw [← zr, hz, Int.one_mul]
      subst hr
      exact last (.int z) F ls tb H2 (b1.trans b2) d2 t2' (.plain pb)
  refine ⟨_, rfl, d, l, 2, rfl, by decide, by decide, hD, fun c H1 c0 c1 b1 d1 => ⟨rfl, _, rfl, ?_⟩⟩
  by_cases hc : c = 0
  · subst hc
    simp only [decide_true, ↓reduceIte]
    refine ⟨(by show 2 ≤ sizeLine; decide), fun L hL => ?_⟩
    have nL := d1.ne hL
    have hL0 : H L = none := b1.none_of nL hL
    refine ⟨_, rfl, d, l, 2, rfl, by decide, by decide, d1.upd nL, fun e H2 e0 e1 b2 d2 => ?_⟩
    have l2 := b2.at nL upd_same
    have b12 : But [d, l] H H2 := (b1.new hL0).trans b2
    have he : ∃ z, atI [V.int 2, .int 3] e = some (.int z) ∧ (z = 2 ∨ z = 3) := by
      have : e = 0 ∨ e = 1 := by omega
      rcases this with rfl | rfl
      · exact ⟨2, rfl, .inl rfl⟩
      · exact ⟨3, rfl, .inr rfl⟩
    obtain ⟨z, hz, hz2⟩ := he
    refine ⟨L, _, e, .int z, rfl, rfl, SqL.of l2, hz, (by show 7 ≤ sizeLine; decide), fun M hM => ?_⟩
    have nM := d2.ne hM
    have hM0 : H M = none := b12.none_of nM hM
    have hs : s = 1 ∨ s = 2 ∨ s = 3 ∨ s = 4 ∨ s = 5 ∨ s = 6 := by omega
    have b3 : But [d, l] H (upd H2 M (.lst [.int 1, .int 1, .int 1, .int 1, .int 2, .int 1, .int z])) := b12.new hM0
    have d3 : Deal (upd H2 M (.lst [.int 1, .int 1, .int 1, .int 1, .int 2, .int 1, .int z])) d l := d2.upd nM
    rcases hs with rfl | rfl | rfl | rfl | rfl | rfl
    · exact ⟨_, rfl, M, _, 1, .int 1, rfl, rfl, SqL.of upd_same, rfl, rest 1 1 _ (by decide) (by decide) rfl rfl (by decide) (by decide) b3 d3⟩
    · exact ⟨_, rfl, M, _, 2, .int 1, rfl, rfl, SqL.of upd_same, rfl, rest 1 2 _ (by decide) (by decide) rfl rfl (by decide) (by decide) b3 d3⟩
    · exact ⟨_, rfl, M, _, 3, .int 1, rfl, rfl, SqL.of upd_same, rfl, rest 1 3 _ (by decide) (by decide) rfl rfl (by decide) (by decide) b3 d3⟩
    · exact ⟨_, rfl, M, _, 4, .int 2, rfl, rfl, SqL.of upd_same, rfl, rest 2 2 _ (by decide) (by decide) rfl rfl (by decide) (by decide) b3 d3⟩
    · exact ⟨_, rfl, M, _, 5, .int 1, rfl, rfl, SqL.of upd_same, rfl, rest 1 5 _ (by decide) (by decide) rfl rfl (by decide) (by decide) b3 d3⟩
    · rcases hz2 with rfl | rfl
      · exact ⟨_, rfl, M, _, 6, .int 2, rfl, rfl, SqL.of upd_same, rfl, rest 2 3 _ (by decide) (by decide) rfl rfl (by decide) (by decide) b3 d3⟩
      · exact ⟨_, rfl, M, _, 6, .int 3, rfl, rfl, SqL.of upd_same, rfl, rest 3 2 _ (by decide) (by decide) rfl rfl (by decide) (by decide) b3 d3⟩
  · have : decide (V.int c = V.int 0) = false := decide_eq_false fun z => hc (V.int.inj z)
    rw [this]
    exact rest 1 s H1 (by decide) s1 (Int.one_mul s) (Int.ediv_one s) (by decide) s6 b1 d1
end Wf

/-! Books. -/
namespace Wf
open PySem PySem.Spec L2
/-- one place of a row that is paired changes -/
theorem pr_chg {α β : Type} {F G : α → β → Prop} {a : α} {b : β} : ∀ {as : List α} {bs : List β} {i : Nat}, Paired F as bs → as.Nodup → as[i]? = some a → G a b → (∀ x y, x ≠ a → F x y → G x y) → Paired G as (bs.set i b)
  | _, _, _, .nil, _, e, _, _ => by simp at e
  | _, _, 0, .cons h t, nd, e, k, f => by
    simp at e
    subst e
    exact .cons k (pr_mono t fun x y hx hy => f x y (fun z => (List.nodup_cons.mp nd).1 (z ▸ hx)) hy)
  | _, _, i + 1, .cons h t, nd, e, k, f => by
    have e' := (by simpa using e : _ = some a)
    exact .cons (f _ _ (fun z => (List.nodup_cons.mp nd).1 (z ▸ List.mem_of_getElem? e')) h) (pr_chg t (List.nodup_cons.mp nd).2 e' k f)
structure Book where
  ps : List Int
  s : Int
  ts : List Tab
def dT (t : Tab) : PyData := .tuple (t.map dP)
def dB (b : Book) : PyData := .tuple [dI b.ps, .int b.s, .tuple (b.ts.map dT)]
theorem noL_dT (t : Tab) : noL (dT t) = true := noLAll_dP t
theorem noLAll_dT : ∀ ts : List Tab, noLAll (ts.map dT) = true
  | [] => rfl
  | t :: ts => by simp [noLAll, noL_dT, noLAll_dT ts]
theorem noL_dI (ps : List Int) : noL (dI ps) = true := noLAll_ints ps
theorem noL_dB (b : Book) : noL (dB b) = true := by
  show (noL (dI b.ps) && (true && (noLAll (b.ts.map dT) && true))) = true
  rw [noL_dI, noLAll_dT]
  rfl
structure BookOk (m : Int) (b : Book) : Prop where
  pac : PacesOk m b.ps
  m1 : 1 ≤ m
  m5 : m ≤ 5
  s1 : 1 ≤ b.s
  s6 : b.s ≤ 6
  tab : AllOk m b.s b.ts
structure BookT (m s form : Int) (ts : List Tab) : Prop where
  ok : AllOk m s ts
  good : form = 1 → GoodT m s ts
  near : form = 2 → ∃ ts0, GoodT m s ts0 ∧ (ts = ts0 ∨ ∃ (i j : Nat) (p : Int × Int) (t : Tab), ts0[i]? = some t ∧ j < t.length ∧ InP s p ∧ ts = ts0.set i (t.set j p))
def sp_book (K : PySem.W.Frag) : Sp := fun vs H Q _ => ∃ (d l : Addr) (m s f : Int), vs = [.ref d, .int m, .int s, .int f] ∧ 1 ≤ m ∧ m ≤ 5 ∧ 1 ≤ s ∧ s ≤ 6 ∧ Deal H d l ∧
  ∀ (v : V) (ps : List Int) (ts : List Tab) (H' : Hp), But [d, l] H H' → Deal H' d l → Dp K H' v (dB ⟨ps, s, ts⟩) → PacesOk m ps → BookT m s f ts → Q v H'
def t_book_c (K : PySem.W.Frag) : TS := tRet (tTup (tCons (tVar 4) (tCons (tVar 2) (tCons (tCB (qTupleOf K) (tCons (tLc (iList K (tVar 5)) (gName 6) (tYes) (tCB (qTupleOf K) (tCons (tVar 6) (tNil))) [6]) (tNil))) (tNil)))))
def t_book_b (K : PySem.W.Frag) (sp_draw : Sp) : TS := (tIfS (tAnd (tTest (tOp rEq (tVar 3) (tC (.int 2)))) (tTest (tOp qGt (tCB (qLen K) (tCons (tVar 5) (tNil))) (tC (.int 0))))) (tSeq (tAsg (tOp (rIxL K) (tVar 5) (tCall sp_draw [] E0 (tCons (tVar 0) (tCons (tCB (qLen K) (tCons (tVar 5) (tNil))) (tNil))))) (gName 6))
    (tAsg (tTup (tCons (tCall sp_draw [] E0 (tCons (tVar 0) (tCons (tVar 2) (tNil)))) (tCons (tCall sp_draw [] E0 (tCons (tVar 0) (tCons (tVar 2) (tNil)))) (tNil)))) (gSub (tVar 6) (tCall sp_draw [] E0 (tCons (tVar 0) (tCons (tCB (qLen K) (tCons (tVar 6) (tNil))) (tNil)))) rSetL))) (tNext))
def t_book (K : PySem.W.Frag) (sp_paces : Sp) (sp_any : Sp) (sp_good : Sp) (sp_draw : Sp) : TS := tSeq (tAsg (tCall sp_paces [] E0 (tCons (tVar 0) (tCons (tVar 1) (tNil)))) (gName 4))
    (tSeq (tAsg (tIf (tTest (tOp rEq (tVar 3) (tC (.int 0)))) (tCall sp_any [] E0 (tCons (tVar 0) (tCons (tVar 1) (tCons (tVar 2) (tNil))))) (tCall sp_good [] E0 (tCons (tVar 0) (tCons (tVar 1) (tCons (tVar 2) (tNil)))))) (gName 5))
    (tSeq (t_book_b K sp_draw)
    (t_book_c K)))

theorem pure_book {K : PySem.W.Frag} (vs : List V) (H : Hp) (Q : VK) (E : XK) (h : sp_book K vs H Q E) : t_book K (sp_paces K) (sp_any K) (sp_good K) sp_draw (EndsQ Q) (sN 7 vs) H := by
  obtain ⟨d, l, m, s, f, rfl, m1, m5, s1, s6, hD, k⟩ := h
  show t_book K (sp_paces K) (sp_any K) (sp_good K) sp_draw _ [some (.ref d), some (.int m), some (.int s), some (.int f), none, none, none] H
  have hn := nT_le m1 m5
  refine ⟨_, rfl, _, rfl, d, l, m, rfl, m1, m5, hD, fun v ps H1 b1 d1 hv pok => ?_⟩
  -- the end: paces and tables as a book
  have last : ∀ (c6 : Option V) (F : Addr) (ls : List Addr) (ts : List Tab) (H3 : Hp), But [d, l] H H3 → Deal H3 d l → Tabs K H1 H3 F ls ts → Dp K H3 v (dI ps) → BookT m s f ts → t_book_c K (EndsQ Q) [some (.ref d), some (.int m), some (.int s), some (.int f), some v, some (.ref F), c6] H3 := by
    intro c6 F ls ts H3 b3 d3 t3 hv3 bt
    have lt := bt.ok.len
    refine ⟨_, rfl, _, rfl, _, rfl, F, rfl, ⟨_, SqL.of t3.lst⟩, fun D hDn => ?_⟩
    refine lc_list (K := K) (a := F) (xs := ls.map V.ref) (fun i H4 => Same H3 H4 ∧ ∃ vs, H4 D = some (.lst vs) ∧ DpAll K H4 vs ((ts.take i).map dT)) ?_ ?_ ?_ ?_
    · exact ⟨same_new hDn, [], upd_same, .nil⟩
    · rintro i H4 _ ⟨s4, _⟩
      exact SqL.of (s4 _ _ t3.lst)
    · rintro i x H4 hx ⟨s4, us, e1, e2⟩
      rw [List.getElem?_map] at hx
      obtain ⟨a, ha, rfl⟩ := Option.map_eq_some_iff.mp hx
      obtain ⟨t, ht1, ta1⟩ := pr_get (t3.same s4).tab ha
      obtain ⟨ws, g1, g2⟩ := ta1.ex
      refine ⟨rfl, ?_⟩
      simp only [tYes, ↓reduceIte]
      refine ⟨_, rfl, a, ws, rfl, .inl ⟨SqL.of g1, fun q hq => ?_⟩⟩
      have sq := same_new (o := .tup ws) hq
      have hqq : upd H4 q (.tup ws) q = some (.tup ws) := upd_same
      have hDq : D ≠ q := ne_of_none e1 hq
      generalize upd H4 q (.tup ws) = H5 at sq hqq
      have e1' := sq _ _ e1
      have lu : us.length = i := by
        rw [DpAll.len e2, List.length_map, List.length_take]
        have := (List.getElem?_eq_some_iff.mp ht1).1
        omega
      refine ⟨us, e1', ?_, ?_⟩
      · rw [lu]
        have := (List.getElem?_eq_some_iff.mp ht1).1
        exact Nat.lt_of_le_of_lt (show i ≤ 10 by omega) (by decide)
      · refine ⟨fun c o e => ?_, us ++ [.ref q], upd_same, ?_⟩
        · rw [upd_ne (ne_of_none e hDn)]
          exact sq _ _ (s4 _ _ e)
        · have tp6 : Tp K H5 (upd H5 D (.lst (us ++ [.ref q]))) := tp_upd (not_lst e1')
          have tp46 := (Same.tp sq).trans tp6
          rw [List.take_add_one, ht1, List.map_append]
          refine DpAll.append (DpAll.tp tp46 _ _ (noLAll_dT _) e2) (.cons (.tup (SqT.of ?_) (DpAll.tp tp46 _ _ (noLAll_dP t) g2)) .nil)
          rw [upd_ne (Ne.symm hDq)]
          exact hqq
    · rintro H4 ⟨s4, us, e1, e2⟩
      have el : ts.take (ls.map V.ref).length = ts := List.take_of_length_le (by rw [List.length_map, t3.len]; exact Nat.le_refl _)
      rw [el] at e2
      refine ⟨D, us, rfl, .inl ⟨SqL.of e1, fun q hq => ?_⟩⟩
      have sq := same_new (o := .tup us) hq
      have hqq : upd H4 q (.tup us) q = some (.tup us) := upd_same
      generalize upd H4 q (.tup us) = H5 at sq hqq
      refine ⟨(by show 3 ≤ sizeLine; decide), fun r hr => ?_⟩
      have sr := same_new (o := .tup [v, .int s, .ref q]) hr
      have s35 := s4.trans (sq.trans sr)
      refine k _ ps ts _ (b3.trans (Same.but s35)) (Same.deal s35 d3) (.tup (SqT.of upd_same) (.cons (Dp.tp (Same.tp s35) _ _ (noL_dI ps) hv3) (.cons (.int s) (.cons (.tup (SqT.of (sr _ _ hqq)) (DpAll.tp (Same.tp (sq.trans sr)) _ _ (noLAll_dT ts) e2)) .nil)))) pok bt
  have mid : ∀ (F : Addr) (ls : List Addr) (ts : List Tab) (H2 : Hp), But [d, l] H H2 → Deal H2 d l → Tabs K H1 H2 F ls ts → Dp K H2 v (dI ps) → AllOk m s ts → (f ≠ 0 → GoodT m s ts) → tSeq (t_book_b K sp_draw) (t_book_c K) (EndsQ Q) [some (.ref d), some (.int m), some (.int s), some (.int f), some v, some (.ref F), none] H2 := by
    intro F ls ts H2 b2 d2 t2 hv2 ok g
    have lt := ok.len
    have plain : BookT m s f ts := ⟨ok, fun e => g (by omega), fun e => ⟨ts, g (by omega), .inl rfl⟩⟩
    refine ⟨_, rfl, rfl, _, rfl, ?_⟩
    by_cases hf : f = 2
    · subst hf
      simp only [decide_true, ↓reduceIte]
      refine ⟨_, rfl, _, (ls.map V.ref).length, rfl, .inl ⟨_, SqL.of t2.lst, rfl⟩, _, _, rfl, rfl, _, rfl, ?_⟩
      refine ifd (fun c => ?_) (fun c => ?_)
      · have cl : 0 < ls.length := by
          rw [List.length_map] at c
          omega
        refine ⟨_, rfl, _, rfl, _, rfl, _, (ls.map V.ref).length, rfl, .inl ⟨_, SqL.of t2.lst, rfl⟩, d, l, _, rfl, by rw [List.length_map]; omega, by rw [List.length_map, t2.len]; omega, d2, fun q H3 q0 q1 b3 d3 => ?_⟩
        rw [List.length_map] at q1
        have t3 := t2.but d1 d2 b3
        have hq : q.toNat < ls.length := by omega
        have ea : ls[q.toNat]? = some ls[q.toNat] := List.getElem?_eq_getElem hq
        generalize ls[q.toNat] = a at ea
        obtain ⟨t, ht1, ta3⟩ := pr_get t3.tab ea
        have okt := ok.ok t (List.mem_of_getElem? ht1)
        have hss := ss_le s1 s6
        have ltt := okt.len
        refine ⟨F, _, q, .ref a, rfl, rfl, SqL.of t3.lst, ?_, ?_⟩
        · unfold atI ixN
          rw [if_pos q0, if_pos (by rw [List.length_map]; exact q1)]
          show (ls.map V.ref)[q.toNat]? = _
          rw [List.getElem?_map, ea]
          rfl
        · refine ⟨_, rfl, _, rfl, d, l, s, rfl, by omega, by omega, d3, fun x H4 x0 x1 b4 d4 => ?_⟩
          refine ⟨_, rfl, _, rfl, d, l, s, rfl, by omega, by omega, d4, fun y H5 y0 y1 b5 d5 => ?_⟩
          refine ⟨(by show 2 ≤ sizeLine; decide), fun p hp => ?_⟩
          have t5 := t3.but d1 d3 (b4.trans b5)
          have sp := same_new (o := .tup [.int x, .int y]) hp
          have hpp : upd H5 p (.tup [.int x, .int y]) p = some (.tup [.int x, .int y]) := upd_same
          have b6 : But [d, l] H (upd H5 p (.tup [.int x, .int y])) := (b2.trans (b3.trans (b4.trans b5))).trans (Same.but sp)
          have d6 : Deal (upd H5 p (.tup [.int x, .int y])) d l := Same.deal sp d5
          have hv6 : Dp K (upd H5 p (.tup [.int x, .int y])) v (dI ps) := Dp.tp (((b3.trans (b4.trans b5)).tp d2.noT).trans (Same.tp sp)) _ _ (noL_dI ps) hv2
          have t6 := t5.same sp
          generalize upd H5 p (.tup [.int x, .int y]) = H6 at hpp b6 d6 hv6 t6
          obtain ⟨t', ht1', ta6⟩ := pr_get t6.tab ea
          rw [ht1] at ht1'
          cases ht1'
          obtain ⟨va, e1, e2⟩ := ta6.ex
          have lva : va.length = t.length := by rw [DpAll.len e2, List.length_map]
          refine ⟨_, rfl, _, rfl, _, rfl, _, va.length, rfl, .inl ⟨_, SqL.of e1, rfl⟩, d, l, _, rfl, by omega, by omega, d6, fun z H7 z0 z1 b7 d7 => ?_⟩
          have t7 := t6.but d1 d6 b7
          have na := t6.apart d1 a (List.mem_cons_of_mem _ (List.mem_of_getElem? ea))
          have e1' := b7.at na e1
          have tp7 : Tp K H6 H7 := b7.tp d6.noT
          have np := d6
          have hp7 : H7 p = some (.tup [.int x, .int y]) := by
            have : SqT K H7 p [.int x, .int y] := tp7 _ _ (SqT.of hpp)
            refine b7.at ⟨fun w => ?_, fun w => ?_⟩ hpp
            · exact (d6.noT d (by simp)) _ (.inl (w ▸ hpp))
            · exact (d6.noT l (by simp)) _ (.inl (w ▸ hpp))
          have e27 := DpAll.tp tp7 _ _ (noLAll_dP t) e2
          refine ⟨a, va, z, z.toNat, rfl, rfl, e1', ?_, ?_⟩
          · unfold ixN
            rw [if_pos z0, if_pos z1]
          · have tp8 : Tp K H7 (upd H7 a (.lst (va.set z.toNat (.ref p)))) := tp_upd (not_lst e1')
            have hF := List.nodup_cons.mp t7.nd
            have hFa : F ≠ a := fun w => hF.1 (w ▸ List.mem_of_getElem? ea)
            have ta8 : TabAt K (upd H7 a (.lst (va.set z.toNat (.ref p)))) a (t.set z.toNat (x, y)) := by
              refine ⟨_, upd_same, ?_⟩
              rw [List.map_set]
              refine DpAll.set (dP_new ?_) _ (DpAll.tp tp8 _ _ (noLAll_dP t) e27)
              rw [upd_ne (show p ≠ a from ne_of hp7 e1' (by intro w; cases w))]
              exact hp7
            have t8 : Tabs K H1 (upd H7 a (.lst (va.set z.toNat (.ref p)))) F ls (ts.set q.toNat (t.set z.toNat (x, y))) := by
              refine ⟨by rw [upd_ne hFa]; exact t7.lst, ?_, t7.nd, t7.newF, t7.newL⟩
              refine pr_chg t7.tab hF.2 ea ta8 fun c b hc hb => hb.keep (fun o e => ?_) tp8
              rw [upd_ne hc]
              exact e
            have okz : TabOk s (t.set z.toNat (x, y)) := ⟨by rw [List.length_set]; exact okt.len, fun w hw => by
              rcases List.mem_or_eq_of_mem_set hw with hw | hw
              · exact okt.inn w hw
              · rw [hw]
                exact ⟨x0, x1, y0, y1⟩⟩
            have na7 := d7.noT
            refine last _ F ls _ _ (fun c o hc e => ?_) (d7.upd na) t8 (Dp.tp (tp7.trans tp8) _ _ (noL_dI ps) hv6) ⟨⟨by rw [List.length_set]; exact lt, fun w hw => ?_⟩, fun e => absurd e (by decide), fun _ => ⟨ts, g (by decide), .inr ⟨q.toNat, z.toNat, (x, y), t, ht1, by omega, ⟨x0, x1, y0, y1⟩, rfl⟩⟩⟩
            · have := t6.newL a (List.mem_of_getElem? ea)
              rw [upd_ne (show c ≠ a from fun w => by rw [w] at e; rw [b1.at na e] at this; cases this)]
              exact (b6.trans b7) c o hc e
            · rcases List.mem_or_eq_of_mem_set hw with hw | hw
              · exact ok.ok w hw
              · rw [hw]
                exact okz
      · exact last none F ls ts H2 b2 d2 t2 hv2 plain
    · have : decide (V.int f = V.int 2) = false := decide_eq_false fun z => hf (V.int.inj z)
      rw [this]
      exact last none F ls ts H2 b2 d2 t2 hv2 plain
  refine ⟨_, rfl, rfl, _, rfl, ?_⟩
  by_cases hf : f = 0
  · subst hf
    simp only [decide_true, ↓reduceIte]
    refine ⟨_, rfl, _, rfl, _, rfl, d, l, m, s, rfl, m1, m5, s1, s6, d1, fun F ls ts H2 b2 d2 t2 ok => ?_⟩
    exact mid F ls ts H2 (b1.trans b2) d2 t2 (Dp.tp (b2.tp d1.noT) _ _ (noL_dI ps) hv) ok fun z => absurd rfl z
  · have : decide (V.int f = V.int 0) = false := decide_eq_false fun z => hf (V.int.inj z)
    rw [this]
    refine ⟨_, rfl, _, rfl, _, rfl, d, l, m, s, rfl, m1, m5, s1, s6, d1, fun F ls ts H2 b2 d2 t2 gt => ?_⟩
    exact mid F ls ts H2 (b1.trans b2) d2 t2 (Dp.tp (b2.tp d1.noT) _ _ (noL_dI ps) hv) (gt.ok s1) fun _ => gt
end Wf

/-! The deal made. -/
namespace Wf
open PySem PySem.Spec L2
def sp_deal (K : PySem.W.Frag) : Sp := fun vs H Q _ => ∃ (a : Addr) (b : Int) (ns : List Int), vs = [.ref a, .int b] ∧ SqL K H a (ns.map V.int) ∧ 0 ≤ b ∧ b ≤ 63 ∧ ns.length ≤ 1000 ∧
  ∀ (d l : Addr) (H' : Hp), Same H H' → H d = none → H l = none → Deal H' d l → Q (.ref d) H'
theorem cut_ints (ns : List Int) (lo hi : Option Int) : ∃ ms : List Int, cutV (ns.map V.int) lo hi = ms.map V.int ∧ ms.length ≤ ns.length := by
  refine ⟨(ns.drop (HT.sIx (ns.map V.int).length 0 lo)).take (HT.sIx (ns.map V.int).length (ns.map V.int).length hi - HT.sIx (ns.map V.int).length 0 lo), ?_, ?_⟩
  · unfold cutV
    rw [List.map_take, List.map_drop]
  · rw [List.length_take, List.length_drop]
    omega
theorem putK_new {kvs : List (Key × V)} {k : Key} {v : V} (h : valV kvs k = none) : putK kvs k v = kvs ++ [(k, v)] := by
  unfold putK
  rw [valV_any, h]
  rfl
def four (s m n l : V) : List (Key × V) := [(Sum.inr "seed", s), (Sum.inr "many", m), (Sum.inr "now", n), (Sum.inr "left", l)]
theorem merge4 (s m n l : V) : mergeK [] (four s m n l) = four s m n l := by
  unfold four
  unfold mergeK
  simp only [List.foldl]
  rw [putK_new (kvs := []) valV_nil]
  simp only [List.nil_append]
  rw [putK_new (kvs := [(Sum.inr (Str.ofString "seed"), s)]) ((valV_neg (key_ne (by decide +kernel))).trans valV_nil)]
  simp only [List.cons_append, List.nil_append]
  rw [putK_new (kvs := [(Sum.inr (Str.ofString "seed"), s), (Sum.inr (Str.ofString "many"), m)]) ((valV_neg (key_ne (by decide +kernel))).trans ((valV_neg (key_ne (by decide +kernel))).trans valV_nil))]
  simp only [List.cons_append, List.nil_append]
  rw [putK_new (kvs := [(Sum.inr (Str.ofString "seed"), s), (Sum.inr (Str.ofString "many"), m), (Sum.inr (Str.ofString "now"), n)]) ((valV_neg (key_ne (by decide +kernel))).trans ((valV_neg (key_ne (by decide +kernel))).trans ((valV_neg (key_ne (by decide +kernel))).trans valV_nil)))]
  rfl
def t_deal (K : PySem.W.Frag) : TS :=
  tSeq (tAsg (tLc (iList K (tSl (rSlL K) (tVar 0) (tPart (tVar 1)) (tPart (tC (.int 63))))) (gName 4) (tYes) (tCB (qMax2) (tCons (tVar 4) (tCons (tOp qSub (tC (.int 0)) (tVar 4)) (tNil)))) [4]) (gName 2))
    (tSeq (tAsg (tOp qAdd (tC (.int 104729)) (tOp qMul (tC (.int 31)) (tVar 1))) (gName 3))
    (tSeq (tFor (iList K (tVar 2)) (gName 4) (tAsg (tOp qMod (tOp qAdd (tOp qAdd (tOp qMul (tVar 3) (tC (.int 69623))) (tOp qMod (tVar 4) (tC (.int 2147483629)))) (tC (.int 1))) (tC (.int 2147483647))) (gName 3)))
    (tRet (tDisp ((tC (.str "seed"), tOp qAdd (tVar 3) (tC (.int 1))) :: ((tC (.str "many"), tC (.int 0)) :: ((tC (.str "now"), tC (.int 0)) :: ((tC (.str "left"), Wf.tLstRev K (tLc (iList K (tVar 2)) (gName 4) (tTest (tOp qGe (tVar 4) (tOp qPow (tC (.int 10)) (tC (.int 18))))) (tVar 4) [4])) :: ([])))))))))
theorem pure_deal {K : PySem.W.Frag} (vs : List V) (H : Hp) (Q : VK) (E : XK) (h : sp_deal K vs H Q E) : t_deal K (EndsQ Q) (sN 5 vs) H := by
  obtain ⟨a, b, ns, rfl, hS, b0, b1, hns, k⟩ := h
  show t_deal K _ [some (.ref a), some (.int b), none, none, none] H
  refine ⟨_, rfl, _, rfl, _, rfl, 63, rfl, a, _, rfl, hS, fun p hp => ?_⟩
  obtain ⟨ms, e, hms⟩ := cut_ints ns (some b) (some 63)
  rw [e]
  have sp := same_new (o := .lst (ms.map V.int)) hp
  have hpp : upd H p (.lst (ms.map V.int)) p = some (.lst (ms.map V.int)) := upd_same
  generalize upd H p (.lst (ms.map V.int)) = H1 at sp hpp
  refine ⟨p, rfl, ⟨_, SqL.of hpp⟩, fun D hD => ?_⟩
  have hDp : p ≠ D := ne_of_none hpp hD
  have hD0 : H D = none := sp.free hD
  refine lc_list (K := K) (a := p) (xs := ms.map V.int) (fun i H2 => Same H1 H2 ∧ ∃ zs : List Int, H2 D = some (.lst (zs.map V.int)) ∧ zs.length = i ∧ ∀ z ∈ zs, 0 ≤ z) ?_ ?_ ?_ ?_
  · exact ⟨same_new hD, [], upd_same, rfl, fun z hz => (List.not_mem_nil hz).elim⟩
  · rintro i H2 _ ⟨s2, _⟩
    exact SqL.of (s2 _ _ hpp)
  · rintro i x H2 hx ⟨s2, zs, e1, hl, hz⟩
    rw [List.getElem?_map] at hx
    obtain ⟨y, hy, rfl⟩ := Option.map_eq_some_iff.mp hx
    refine ⟨rfl, ?_⟩
    simp only [tYes, ↓reduceIte]
    refine ⟨_, rfl, _, rfl, _, _, rfl, rfl, _, _, rfl, _, e1, ?_, ?_⟩
    · rw [List.length_map, hl]
      have := (List.getElem?_eq_some_iff.mp hy).1
      exact Nat.lt_of_le_of_lt (show i ≤ 1000 by omega) (by decide)
    · refine ⟨fun c o e => ?_, zs ++ [if 0 - y > y then 0 - y else y], ?_, by simp [hl], fun z hq => ?_⟩
      · rw [upd_ne (ne_of_none e hD)]
        exact s2 _ _ e
      · rw [upd_same, List.map_append]
        rfl
      · rcases List.mem_append.mp hq with hq | hq
        · exact hz z hq
        · rw [List.mem_singleton.mp hq]
          split <;> omega
  · rintro H2 ⟨s2, zs, e1, hl, hz⟩
    refine ⟨_, rfl, _, _, rfl, rfl, .inl ⟨by decide, by decide⟩, _, _, rfl, rfl, ?_⟩
    refine ⟨_, rfl, D, rfl, ⟨_, SqL.of e1⟩, for_list (K := K) (a := D) (xs := zs.map V.int) (fun i σ H3 => ∃ (w : Int) (c4 : Option V), σ = [some (.ref a), some (.int b), some (.ref D), some (.int w), c4] ∧ H3 = H2) ?_ ?_ ?_ ?_⟩
    · exact ⟨_, none, rfl, rfl⟩
    · rintro i σ H3 _ ⟨w, c4, rfl, rfl⟩
      exact SqL.of e1
    · rintro i x σ H3 hx ⟨w, c4, rfl, rfl⟩
      rw [List.getElem?_map] at hx
      obtain ⟨y, hy, rfl⟩ := Option.map_eq_some_iff.mp hx
      exact ⟨_, rfl, _, _, rfl, rfl, .inr ⟨by decide, by decide⟩, _, rfl, _, _, rfl, rfl, mp rfl, _, _, rfl, rfl, _, _, rfl, rfl, _, _, rfl, rfl, mp rfl, _, _, rfl, rfl⟩
    · rintro σ H3 ⟨w, c4, rfl, rfl⟩
      intro d hd
      refine ⟨_, rfl, _, _, rfl, rfl, ?_⟩
      have sd := same_new (o := .dK []) hd
      have hdd : upd H3 d (.dK []) d = some (.dK []) := upd_same
      generalize upd H3 d (.dK []) = H4 at sd hdd
      have e4 := sd _ _ e1
      refine ⟨_, rfl, D, rfl, ⟨_, SqL.of e4⟩, fun G hG => ?_⟩
      refine lc_list (K := K) (a := D) (xs := zs.map V.int) (fun i H5 => Same H4 H5 ∧ ∃ gs : List Int, H5 G = some (.lst (gs.map V.int)) ∧ gs.length ≤ i ∧ ∀ z ∈ gs, 0 ≤ z) ?_ ?_ ?_ ?_
      · exact ⟨same_new hG, [], upd_same, Nat.le_refl _, fun z hz => (List.not_mem_nil hz).elim⟩
      · rintro i H5 _ ⟨s5, _⟩
        exact SqL.of (s5 _ _ e4)
      · rintro i x H5 hx ⟨s5, gs, g1, gl, gz⟩
        rw [List.getElem?_map] at hx
        obtain ⟨y, hy, rfl⟩ := Option.map_eq_some_iff.mp hx
        refine ⟨rfl, _, rfl, _, _, rfl, rfl, ⟨by decide, by decide, by decide⟩, _, _, rfl, rfl, _, rfl, ?_⟩
        refine ifd (fun c => ?_) (fun c => ?_)
        · refine ⟨_, rfl, _, g1, ?_, ?_⟩
          · rw [List.length_map]
            have := (List.getElem?_eq_some_iff.mp hy).1
            rw [List.length_map] at hl
            exact Nat.lt_of_le_of_lt (show gs.length ≤ 1000 by omega) (by decide)
          · refine ⟨fun c o e => ?_, gs ++ [y], ?_, by simp; omega, fun z hq => ?_⟩
            · rw [upd_ne (ne_of_none e hG)]
              exact s5 _ _ e
            · rw [upd_same, List.map_append]
              rfl
            · rcases List.mem_append.mp hq with hq | hq
              · exact gz z hq
              · rw [List.mem_singleton.mp hq]
                exact hz y (List.mem_of_getElem? hy)
        · exact ⟨s5, gs, g1, by omega, gz⟩
      · rintro H5 ⟨s5, gs, g1, gl, gz⟩
        refine ⟨G, _, rfl, SqL.of g1, fun L hL => ?_⟩
        have sL := same_new (o := .lst (gs.map V.int).reverse) hL
        have hdL := s5 _ _ hdd
        have hLd : d ≠ L := ne_of_none hdL hL
        refine ⟨by rw [upd_ne hLd]; exact hdL, four (.int (w + 1)) (.int 0) (.int 0) (.ref L), rfl, (by show 4 ≤ 15; decide), ?_⟩
        rw [merge4]
        have hL0 : H L = none := (sp.trans (s2.trans (sd.trans s5))).free hL
        have hd0 : H d = none := (sp.trans s2).free hd
        refine k d L _ (fun c o e => ?_) hd0 hL0 ⟨w + 1, 0, 0, gs.reverse, upd_same, ?_, by decide, fun z hq => gz z (List.mem_reverse.mp hq)⟩
        · rw [upd_ne (ne_of_none e hd0), upd_ne (ne_of_none e hL0)]
          exact (sp.trans (s2.trans (sd.trans s5))) _ _ e
        · rw [upd_ne (Ne.symm hLd), upd_same, List.map_reverse]
end Wf

/-! Tuples as data: places, slices, sums; the program's pair_at and with_pair. -/
namespace Wf
open PySem PySem.Spec L2
section
variable {K : PySem.W.Frag} {H : Hp} {Q : VK} {t x y : V} {ds es : List PyData} {d : PyData}
theorem dp_tup (h : Dp K H t (.tuple ds)) : ∃ a xs, t = .ref a ∧ SqT K H a xs ∧ DpAll K H xs ds := by
  cases h with
  | tup hs ha => exact ⟨_, _, rfl, hs, ha⟩
theorem ixN_map {α β : Type} {xs : List α} {ys : List β} (h : xs.length = ys.length) (i : Int) : ixN xs.length i = ixN ys.length i := by rw [h]
theorem ix_data {i : Int} (h : Dp K H t (.tuple ds)) (hi : atI ds i = some d) (q : ∀ x, Dp K H x d → Q x H) : rIxT K t (.int i) H Q := by
  obtain ⟨a, xs, rfl, hs, ha⟩ := dp_tup h
  unfold atI at hi
  cases e : ixN ds.length i with
  | none => rw [e] at hi; cases hi
  | some j =>
    rw [e] at hi
    obtain ⟨v, h1, h2⟩ := DpAll.get ha (show ds[j]? = some d from hi)
    refine ⟨a, xs, i, v, rfl, rfl, hs, ?_, q v h2⟩
    unfold atI
    rw [DpAll.len ha, e]
    exact h1
theorem DpAll.drop : ∀ {vs : List V} {ds : List PyData} (n : Nat), DpAll K H vs ds → DpAll K H (vs.drop n) (ds.drop n)
  | _, _, 0, h => h
  | _, _, _ + 1, .nil => .nil
  | _, _, n + 1, .cons _ h => DpAll.drop n h
theorem DpAll.take : ∀ {vs : List V} {ds : List PyData} (n : Nat), DpAll K H vs ds → DpAll K H (vs.take n) (ds.take n)
  | _, _, 0, _ => .nil
  | _, _, _ + 1, .nil => .nil
  | _, _, n + 1, .cons h t => .cons h (DpAll.take n t)
def cutD (ds : List PyData) (lo hi : Option Int) : List PyData := (ds.drop (HT.sIx ds.length 0 lo)).take (HT.sIx ds.length ds.length hi - HT.sIx ds.length 0 lo)
theorem noLAll_sub : ∀ {ds es : List PyData}, (∀ e ∈ es, e ∈ ds) → noLAll ds = true → noLAll es = true
  | ds, [], _, _ => rfl
  | ds, e :: es, h, n => by
    obtain ⟨i, hi⟩ := List.mem_iff_getElem?.mp (h e List.mem_cons_self)
    show (noL e && noLAll es) = true
    rw [noLAll_get n hi, noLAll_sub (fun x hx => h x (List.mem_cons_of_mem _ hx)) n]
    rfl
theorem noLAll_app : ∀ {ds es : List PyData}, noLAll ds = true → noLAll es = true → noLAll (ds ++ es) = true
  | [], _, _, h => h
  | d :: ds, es, h, k => by
    have h' := Bool.and_eq_true_iff.mp (show (noL d && noLAll ds) = true from h)
    show (noL d && noLAll (ds ++ es)) = true
    rw [h'.1, noLAll_app h'.2 k]
    rfl
theorem sl_data {lo hi : Option Int} (h : Dp K H t (.tuple ds)) (n : noLAll ds = true) (q : ∀ r H', Same H H' → Dp K H' r (.tuple (cutD ds lo hi)) → Q r H') : rSlA K t lo hi H Q := by
  obtain ⟨a, xs, rfl, hs, ha⟩ := dp_tup h
  have hl := DpAll.len ha
  have hc : DpAll K H (cutV xs lo hi) (cutD ds lo hi) := by
    unfold cutV cutD
    rw [hl]
    exact DpAll.take _ (DpAll.drop _ ha)
  have nc : noLAll (cutD ds lo hi) = true := noLAll_sub (fun e he => List.mem_of_mem_drop (List.mem_of_mem_take he)) n
  refine ⟨a, xs, rfl, hs, fun c => ?_, fun c p hp => ?_⟩
  · have e : cutV xs lo hi = xs := by
      unfold cutV
      rw [c.1, c.2]
      simp
    rw [e] at hc
    exact q _ H (Same.refl H) (.tup hs hc)
  · have s := same_new (o := .tup (cutV xs lo hi)) hp
    exact q _ _ s (.tup (SqT.of upd_same) (DpAll.tp (Same.tp s) _ _ nc hc))
theorem cat_data (h1 : Dp K H x (.tuple ds)) (h2 : Dp K H y (.tuple es)) (n1 : noLAll ds = true) (n2 : noLAll es = true) (hz : ds.length + es.length ≤ 1000000) (q : ∀ r H', Same H H' → Dp K H' r (.tuple (ds ++ es)) → Q r H') : rCatA K x y H Q := by
  obtain ⟨a, xs, rfl, hs, ha⟩ := dp_tup h1
  obtain ⟨b, ys, rfl, ht, hb⟩ := dp_tup h2
  have l1 := DpAll.len ha
  have l2 := DpAll.len hb
  refine ⟨a, b, xs, ys, rfl, rfl, hs, ht, Nat.le_trans (show xs.length + ys.length ≤ 1000000 by omega) (by decide), fun e => ?_, fun e1 e2 => ?_, fun e1 e2 p hp => ?_⟩
  · subst e
    have : ds = [] := List.length_eq_zero_iff.mp l1.symm
    subst this
    exact q _ H (Same.refl H) (.tup ht hb)
  · subst e2
    have : es = [] := List.length_eq_zero_iff.mp l2.symm
    subst this
    rw [List.append_nil] at q
    exact q _ H (Same.refl H) (.tup hs ha)
  · have s := same_new (o := .tup (xs ++ ys)) hp
    exact q _ _ s (.tup (SqT.of upd_same) (DpAll.tp (Same.tp s) _ _ (noLAll_app n1 n2) (DpAll.append ha hb)))
end
/-! ### put_in -/
def sp_put (K : PySem.W.Frag) : Sp := fun vs H Q _ => ∃ (t x : V) (i : Int) (ds : List PyData) (d : PyData), vs = [t, .int i, x] ∧ Dp K H t (.tuple ds) ∧ Dp K H x d ∧ 0 ≤ i ∧ i < ds.length ∧ ds.length ≤ 1000 ∧ noLAll ds = true ∧ noL d = true ∧
  ∀ r H', Same H H' → Dp K H' r (.tuple (ds.set i.toNat d)) → Q r H'
theorem set_cut {ds : List PyData} {i : Int} {d : PyData} (h0 : 0 ≤ i) (h1 : i < ds.length) : cutD ds none (some i) ++ [d] ++ cutD ds (some (i + 1)) none = ds.set i.toNat d := by
  have e1 : HT.sIx ds.length 0 none = 0 := rfl
  have e2 : HT.sIx ds.length ds.length (some i) = i.toNat := by
    show (if i < 0 then _ else min i.toNat ds.length) = _
    rw [if_neg (by omega)]
    omega
  have e3 : HT.sIx ds.length 0 (some (i + 1)) = i.toNat + 1 := by
    show (if i + 1 < 0 then _ else min (i + 1).toNat ds.length) = _
    rw [if_neg (by omega)]
    omega
  have e4 : HT.sIx ds.length ds.length none = ds.length := rfl
  unfold cutD
  rw [e1, e2, e3, e4, List.drop_zero, Nat.sub_zero]
  have e5 : (ds.drop (i.toNat + 1)).take (ds.length - (i.toNat + 1)) = ds.drop (i.toNat + 1) := List.take_of_length_le (by rw [List.length_drop]; omega)
  rw [e5, List.set_eq_take_append_cons_drop, if_pos (by omega), List.append_assoc]
  rfl
def t_put_in (K : PySem.W.Frag) : TS :=
  tRet (tOp (rCatA K) (tOp (rCatA K) (tSl (rSlA K) (tVar 0) (tNoPart) (tPart (tVar 1))) (tTup (tCons (tVar 2) (tNil)))) (tSl (rSlA K) (tVar 0) (tPart (tOp qAdd (tVar 1) (tC (.int 1)))) (tNoPart)))
theorem pure_put {K : PySem.W.Frag} (vs : List V) (H : Hp) (Q : VK) (E : XK) (h : sp_put K vs H Q E) : t_put_in K (EndsQ Q) (sN 3 vs) H := by
  obtain ⟨t, x, i, ds, d, rfl, ht, hx, i0, i1, l3, n1, n2, k⟩ := h
  show t_put_in K _ [some t, some (.int i), some x] H
  refine ⟨_, rfl, _, rfl, i, rfl, ?_⟩
  refine sl_data ht n1 fun r1 H1 s1 h1 => ?_
  have nA : noLAll (cutD ds none (some i)) = true := noLAll_sub (fun e he => List.mem_of_mem_drop (List.mem_of_mem_take he)) n1
  have nB : noLAll (cutD ds (some (i + 1)) none) = true := noLAll_sub (fun e he => List.mem_of_mem_drop (List.mem_of_mem_take he)) n1
  have lA : (cutD ds none (some i)).length ≤ ds.length := by unfold cutD; rw [List.length_take, List.length_drop]; omega
  have lB : (cutD ds (some (i + 1)) none).length ≤ ds.length := by unfold cutD; rw [List.length_take, List.length_drop]; omega
  refine ⟨_, rfl, (by show 1 ≤ sizeLine; decide), fun p hp => ?_⟩
  have sp := same_new (o := .tup [x]) hp
  have hpp : upd H1 p (.tup [x]) p = some (.tup [x]) := upd_same
  generalize upd H1 p (.tup [x]) = H2 at sp hpp
  have s2 := s1.trans sp
  refine cat_data (Dp.tp (Same.tp sp) _ _ nA h1) (.tup (SqT.of hpp) (.cons (Dp.tp (Same.tp s2) _ _ n2 hx) .nil)) nA (by show (noL d && true) = true; rw [n2]; rfl) (by simp; omega) fun r3 H3 s3 h3 => ?_
  have s23 := s2.trans s3
  refine ⟨_, rfl, _, rfl, _, _, rfl, rfl, _, rfl, ?_⟩
  dsimp only [tNoPart]
  refine sl_data (Dp.tp (Same.tp s23) _ _ n1 ht) n1 fun r4 H4 s4 h4 => ?_
  have nC : noLAll (cutD ds none (some i) ++ [d]) = true := noLAll_app nA (by show (noL d && true) = true; rw [n2]; rfl)
  refine cat_data (Dp.tp (Same.tp s4) _ _ nC h3) h4 nC nB (by simp; omega) fun r5 H5 s5 h5 => ?_
  rw [set_cut i0 i1] at h5
  exact k r5 H5 (s23.trans (s4.trans s5)) h5
end Wf

/-! pair_at, with_pair; what the law says of them. -/
namespace Wf
open PySem PySem.Spec L2
def tnum (u v : Int) : Int := u * (u - 1) / 2 + v
def sp_tnum : Sp := fun vs H Q _ => ∃ u v : Int, vs = [.int u, .int v] ∧ 0 ≤ u ∧ u ≤ 1000 ∧ Q (.int (tnum u v)) H
def t_table_number (K : PySem.W.Frag) : TS :=
  tRet (tOp qAdd (tOp qFdiv (tOp qMul (tVar 0) (tOp qSub (tVar 0) (tC (.int 1)))) (tC (.int 2))) (tVar 1))
theorem pure_tnum {K : PySem.W.Frag} (vs : List V) (H : Hp) (Q : VK) (E : XK) (h : sp_tnum vs H Q E) : t_table_number K (EndsQ Q) (sN 2 vs) H := by
  obtain ⟨u, v, rfl, u0, u1, k⟩ := h
  show t_table_number K _ [some (.int u), some (.int v)] H
  exact ⟨_, rfl, _, rfl, _, _, rfl, rfl, _, _, rfl, rfl, .inl ⟨by omega, by omega⟩, _, _, rfl, rfl, ⟨by decide, by decide⟩, _, rfl, _, _, rfl, rfl, k⟩
/-- a place of a book -/
structure Pl (m s u v a b : Int) : Prop where
  u0 : 1 ≤ u
  u1 : u < m
  v0 : 0 ≤ v
  v1 : v < u
  a0 : 0 ≤ a
  a1 : a < s
  b0 : 0 ≤ b
  b1 : b < s
theorem tnum_lt {m u v : Int} (m5 : m ≤ 5) (u0 : 1 ≤ u) (u1 : u < m) (v0 : 0 ≤ v) (v1 : v < u) : 0 ≤ tnum u v ∧ tnum u v < nT m := by
  unfold tnum nT
  have hm : m = 2 ∨ m = 3 ∨ m = 4 ∨ m = 5 := by omega
  have hu : u = 1 ∨ u = 2 ∨ u = 3 ∨ u = 4 := by omega
  rcases hu with rfl | rfl | rfl | rfl <;> rcases hm with rfl | rfl | rfl | rfl <;> simp <;> omega
def Book.tab (B : Book) (u v : Int) : Tab := B.ts.getD (tnum u v).toNat []
def Book.at (B : Book) (u v a b : Int) : Int × Int := (B.tab u v).getD (a * B.s + b).toNat (0, 0)
def Book.put (B : Book) (u v a b : Int) (p : Int × Int) : Book := { B with ts := B.ts.set (tnum u v).toNat ((B.tab u v).set (a * B.s + b).toNat p) }
section
variable {K : PySem.W.Frag} {H : Hp} {t : V} {B : Book} {m u v a b : Int}
theorem Book.row (ok : BookOk m B) (pl : Pl m B.s u v a b) : B.ts[(tnum u v).toNat]? = some (B.tab u v) ∧ TabOk B.s (B.tab u v) := by
  have h := tnum_lt ok.m5 pl.u0 pl.u1 pl.v0 pl.v1
  have hl := ok.tab.len
  have hi : (tnum u v).toNat < B.ts.length := by omega
  have e : B.ts[(tnum u v).toNat]? = some B.ts[(tnum u v).toNat] := List.getElem?_eq_getElem hi
  have g : B.tab u v = B.ts[(tnum u v).toNat] := by unfold Book.tab; simp [List.getD, e]
  rw [g]
  exact ⟨e, ok.tab.ok _ (List.getElem_mem hi)⟩
theorem Book.cell (ok : BookOk m B) (pl : Pl m B.s u v a b) : (B.tab u v)[(a * B.s + b).toNat]? = some (B.at u v a b) ∧ InP B.s (B.at u v a b) := by
  have ht := (Book.row ok pl).2
  have hl := ht.len
  have hx := ix_lt pl.a0 pl.a1 pl.b0 pl.b1
  have hi : (a * B.s + b).toNat < (B.tab u v).length := by omega
  have e : (B.tab u v)[(a * B.s + b).toNat]? = some (B.tab u v)[(a * B.s + b).toNat] := List.getElem?_eq_getElem hi
  have g : B.at u v a b = (B.tab u v)[(a * B.s + b).toNat] := by unfold Book.at; simp [List.getD, e]
  rw [g]
  exact ⟨e, ht.inn _ (List.getElem_mem hi)⟩
theorem atI_map {α β : Type} {xs : List α} {f : α → β} {i : Int} {x : α} (h0 : 0 ≤ i) (h : xs[i.toNat]? = some x) : atI (xs.map f) i = some (f x) := by
  have hi := (List.getElem?_eq_some_iff.mp h).1
  unfold atI ixN
  rw [if_pos h0, if_pos (by rw [List.length_map]; omega)]
  show (xs.map f)[i.toNat]? = _
  rw [List.getElem?_map, h]
  rfl
/-- t[j], t in a slot, j written -/
theorem ix_vc {σ : St} {i : Nat} {j : Int} {Q : VK} {ds : List PyData} {d : PyData} (hi : σ[i]? = some (some t)) (h : Dp K H t (.tuple ds)) (hj : atI ds j = some d) (q : ∀ x, Dp K H x d → Q x H) : tOp (rIxT K) (tVar i) (tC (.int j)) σ H Q := ⟨t, hi, ix_data h hj q⟩
/-- book[2][number][a * sorts + b] -/
theorem ix_tab {Q : VK} (ok : BookOk m B) (pl : Pl m B.s u v a b) (h : Dp K H t (.tuple (B.ts.map dT))) (q : ∀ x, Dp K H x (dT (B.tab u v)) → Q x H) : rIxT K t (.int (tnum u v)) H Q :=
  ix_data h (atI_map (tnum_lt ok.m5 pl.u0 pl.u1 pl.v0 pl.v1).1 (Book.row ok pl).1) q
theorem ix_cell {Q : VK} (ok : BookOk m B) (pl : Pl m B.s u v a b) (h : Dp K H t (dT (B.tab u v))) (q : ∀ x, Dp K H x (dP (B.at u v a b)) → Q x H) : rIxT K t (.int (a * B.s + b)) H Q :=
  ix_data h (atI_map (ix_lt pl.a0 pl.a1 pl.b0 pl.b1).1 (Book.cell ok pl).1) q
end
def sp_pairat (K : PySem.W.Frag) : Sp := fun vs H Q _ => ∃ (t : V) (B : Book) (m u v a b : Int), vs = [t, .int u, .int v, .int a, .int b] ∧ Dp K H t (dB B) ∧ BookOk m B ∧ Pl m B.s u v a b ∧ ∀ x, Dp K H x (dP (B.at u v a b)) → Q x H
def t_pair_at (K : PySem.W.Frag) (sp_table_number : Sp) : TS :=
  tSeq (tPar 5 6 (tCons (tOp (rIxT K) (tVar 0) (tC (.int 1))) (tCons (tOp (rIxT K) (tVar 0) (tC (.int 2))) (tNil))))
    (tRet (tOp (rIxT K) (tOp (rIxT K) (tVar 6) (tCall sp_table_number [] E0 (tCons (tVar 1) (tCons (tVar 2) (tNil))))) (tOp qAdd (tOp qMul (tVar 3) (tVar 5)) (tVar 4))))
theorem pure_pairat {K : PySem.W.Frag} (vs : List V) (H : Hp) (Q : VK) (E : XK) (h : sp_pairat K vs H Q E) : t_pair_at K sp_tnum (EndsQ Q) (sN 7 vs) H := by
  obtain ⟨t, B, m, u, v, a, b, rfl, hB, ok, pl, k⟩ := h
  show t_pair_at K sp_tnum _ [some t, some (.int u), some (.int v), some (.int a), some (.int b), none, none] H
  refine ix_vc rfl hB rfl fun x hx => ix_vc rfl hB rfl fun y hy => ⟨_, _, rfl, ?_⟩
  cases hx
  have := pl.u0
  have := pl.u1
  have := ok.m5
  have := pl.a0
  have := pl.a1
  have := ok.s6
  refine ⟨_, rfl, _, rfl, _, rfl, u, v, rfl, by omega, by omega, ?_⟩
  refine ix_tab ok pl hy fun z hz => ⟨_, rfl, _, rfl, _, _, rfl, rfl, .inl ⟨by omega, by omega⟩, _, rfl, _, _, rfl, rfl, ?_⟩
  exact ix_cell ok pl hz k
def sp_toldpair (K : PySem.W.Frag) : Sp := sp_pairat K
def t_told_pair (K : PySem.W.Frag) : TS :=
  tRet (tOp (rIxT K) (tOp (rIxT K) (tOp (rIxT K) (tVar 0) (tC (.int 2))) (tOp qAdd (tOp qFdiv (tOp qMul (tVar 1) (tOp qSub (tVar 1) (tC (.int 1)))) (tC (.int 2))) (tVar 2))) (tOp qAdd (tOp qMul (tVar 3) (tOp (rIxT K) (tVar 0) (tC (.int 1)))) (tVar 4)))
theorem pure_toldpair {K : PySem.W.Frag} (vs : List V) (H : Hp) (Q : VK) (E : XK) (h : sp_toldpair K vs H Q E) : t_told_pair K (EndsQ Q) (sN 5 vs) H := by
  obtain ⟨t, B, m, u, v, a, b, rfl, hB, ok, pl, k⟩ := h
  show t_told_pair K _ [some t, some (.int u), some (.int v), some (.int a), some (.int b)] H
  have := pl.u0
  have := pl.u1
  have := ok.m5
  have := pl.a0
  have := pl.a1
  have := ok.s6
  refine ix_vc rfl hB rfl fun y hy => ⟨_, rfl, _, rfl, _, _, rfl, rfl, _, _, rfl, rfl, .inl ⟨by omega, by omega⟩, _, _, rfl, rfl, ⟨by decide, by decide⟩, _, rfl, _, _, rfl, rfl, ?_⟩
  refine ix_tab ok pl hy fun z hz => ⟨_, rfl, ix_vc rfl hB rfl fun x hx => ?_⟩
  cases hx
  exact ⟨_, _, rfl, rfl, .inl ⟨by omega, by omega⟩, _, rfl, _, _, rfl, rfl, ix_cell ok pl hz k⟩
def sp_withpair (K : PySem.W.Frag) : Sp := fun vs H Q _ => ∃ (t x : V) (B : Book) (m u v a b : Int) (p : Int × Int), vs = [t, .int u, .int v, .int a, .int b, x] ∧ Dp K H t (dB B) ∧ Dp K H x (dP p) ∧ BookOk m B ∧ Pl m B.s u v a b ∧ ∀ r H', Same H H' → Dp K H' r (dB (B.put u v a b p)) → Q r H'
def t_with_pair (K : PySem.W.Frag) (sp_table_number : Sp) (sp_put_in : Sp) : TS :=
  tSeq (tAsg (tVar 0) (gTup K 3 (gCons (gName 8) (gCons (gName 9) (gCons (gName 10) (gNil))))))
    (tSeq (tAsg (tCall sp_table_number [] E0 (tCons (tVar 1) (tCons (tVar 2) (tNil)))) (gName 6))
    (tSeq (tAsg (tCall sp_put_in [] E0 (tCons (tOp (rIxT K) (tVar 10) (tVar 6)) (tCons (tOp qAdd (tOp qMul (tVar 3) (tVar 9)) (tVar 4)) (tCons (tVar 5) (tNil))))) (gName 7))
    (tRet (tTup (tCons (tVar 8) (tCons (tVar 9) (tCons (tCall sp_put_in [] E0 (tCons (tVar 10) (tCons (tVar 6) (tCons (tVar 7) (tNil))))) (tNil))))))))
theorem pure_withpair {K : PySem.W.Frag} (vs : List V) (H : Hp) (Q : VK) (E : XK) (h : sp_withpair K vs H Q E) : t_with_pair K sp_tnum (sp_put K) (EndsQ Q) (sN 11 vs) H := by
  obtain ⟨t, x, B, m, u, v, a, b, p, rfl, hB, hx, ok, pl, k⟩ := h
  show t_with_pair K sp_tnum (sp_put K) _ [some t, some (.int u), some (.int v), some (.int a), some (.int b), some x, none, none, none, none, none] H
  have := pl.u0
  have := pl.u1
  have := ok.m5
  have := pl.a0
  have := pl.a1
  have := ok.s6
  have := ok.s1
  have hn := nT_le ok.m1 ok.m5
  have tl := tnum_lt ok.m5 pl.u0 pl.u1 pl.v0 pl.v1
  have ll := ok.tab.len
  obtain ⟨w, ws, rfl, hs, ha⟩ := dp_tup hB
  cases ha with
  | cons h1 ha =>
    cases ha with
    | cons h2 ha =>
      cases ha with
      | cons h3 ha =>
        cases ha
        cases h2
        rename_i v1 v3
        refine ⟨_, rfl, w, _, rfl, hs, rfl, _, _, rfl, _, _, rfl, _, _, rfl, rfl, ?_⟩
        refine ⟨_, rfl, _, rfl, u, v, rfl, by omega, by omega, ?_⟩
        refine ⟨_, rfl, _, rfl, ix_tab ok pl h3 fun y hy => ?_⟩
        have rw_ := Book.row ok pl
        have hx := ix_lt pl.a0 pl.a1 pl.b0 pl.b1
        have hss := ss_le ok.s1 ok.s6
        have lt := rw_.2.len
        refine ⟨_, rfl, _, rfl, _, _, rfl, rfl, .inl ⟨by omega, by omega⟩, _, rfl, _, _, rfl, rfl, _, rfl, y, x, _, _, _, rfl, hy, ‹Dp K H x (dP p)›, hx.1, by rw [List.length_map]; omega, by rw [List.length_map]; omega, noLAll_dP _, noL_dP p, fun r1 H1 s1 h1' => ?_⟩
        rw [← List.map_set] at h1'
        refine ⟨_, rfl, _, rfl, _, rfl, _, rfl, _, rfl, v3, r1, _, _, _, rfl, Dp.tp (Same.tp s1) _ _ (noLAll_dT _) h3, h1', tl.1, by rw [List.length_map]; omega, by rw [List.length_map]; omega, noLAll_dT _, noL_dT _, fun r2 H2 s2 h2' => ?_⟩
        have e : (B.ts.map dT).set (tnum u v).toNat (PyData.tuple (((B.tab u v).set (a * B.s + b).toNat p).map dP)) = (B.put u v a b p).ts.map dT := by
          exact List.map_set.symm
        rw [e] at h2'
        refine ⟨(by show 3 ≤ sizeLine; decide), fun q hq => ?_⟩
        have sq := same_new (o := .tup [v1, .int B.s, r2]) hq
        have s3 := s1.trans (s2.trans sq)
        exact k _ _ s3 (.tup (SqT.of upd_same) (.cons (Dp.tp (Same.tp s3) _ _ (noL_dI _) h1) (.cons (.int _) (.cons (Dp.tp (Same.tp sq) _ _ (noLAll_dT _) h2') .nil))))
end Wf

/-! law k03: what is due, right, the law. -/
namespace Wf
open PySem PySem.Spec L2
theorem nT_succ (i : Int) : nT (i + 1) = nT i + i := by
  unfold nT
  have e : (i + 1) * (i + 1 - 1) = i * (i - 1) + i * 2 := by
    rw [Int.add_sub_cancel, Int.add_mul, Int.mul_sub, Int.one_mul, Int.mul_one]
    omega
  rw [e, Int.add_mul_ediv_right _ _ (by decide)]
theorem tnum_inj {m u v i j : Int} (m5 : m ≤ 5) (u0 : 1 ≤ u) (u1 : u < m) (v0 : 0 ≤ v) (v1 : v < u) (i0 : 0 ≤ i) (i1 : i < m) (j0 : 0 ≤ j) (j1 : j < i) (h : nT i + j = tnum u v) : i = u ∧ j = v := by
  unfold tnum nT at h
  have hi : i = 1 ∨ i = 2 ∨ i = 3 ∨ i = 4 := by omega
  have hu : u = 1 ∨ u = 2 ∨ u = 3 ∨ u = 4 := by omega
  rcases hu with rfl | rfl | rfl | rfl <;> rcases hi with rfl | rfl | rfl | rfl <;> simp at h <;> omega
def t_due_c (K : PySem.W.Frag) : TS := (tSeq (tDrop (tBM K "list" rAppend (tVar 7) (tCons (tCB (qTupleOf K) (tCons (tVar 10) (tNil))) (tNil))))
    (tAsg (tOp qAdd (tVar 8) (tC (.int 1))) (gName 8)))
def t_due (K : PySem.W.Frag) : TS :=
  tSeq (tPar 7 8 (tCons (tLst (tNil)) (tCons (tC (.int 0)) (tNil))))
    (tSeq (tFor (iRng1 (tCons (tCB (qLen K) (tCons (tOp (rIxT K) (tVar 0) (tC (.int 0))) (tNil))) (tNil))) (gName 6) (tFor (iRng1 (tCons (tVar 6) (tNil))) (gName 9) (tSeq (tAsg (tCB (qListOf K) (tCons (tOp (rIxT K) (tOp (rIxT K) (tVar 0) (tC (.int 2))) (tVar 8)) (tNil))) (gName 10))
    (tSeq (tIfS (tTest (tOp (rEqD K) (tTup (tCons (tVar 6) (tCons (tVar 9) (tNil)))) (tTup (tCons (tVar 1) (tCons (tVar 2) (tNil)))))) (tAsg (tVar 5) (gSub (tVar 10) (tOp qAdd (tOp qMul (tVar 3) (tOp (rIxT K) (tVar 0) (tC (.int 1)))) (tVar 4)) rSetL)) (tNext))
    (t_due_c K)))))
    (tRet (tTup (tCons (tOp (rIxT K) (tVar 0) (tC (.int 0))) (tCons (tOp (rIxT K) (tVar 0) (tC (.int 1))) (tCons (tCB (qTupleOf K) (tCons (tVar 7) (tNil))) (tNil)))))))
structure Rows (K : PySem.W.Frag) (H : Hp) (F : Addr) (ts : List Tab) : Prop where
  ex : ∃ vs, H F = some (.lst vs) ∧ DpAll K H vs (ts.map dT)
theorem Rows.same {K : PySem.W.Frag} {H H' : Hp} {F : Addr} {ts : List Tab} (h : Rows K H F ts) (s : Same H H') : Rows K H' F ts := by
  obtain ⟨vs, e1, e2⟩ := h.ex
  exact ⟨vs, s _ _ e1, DpAll.tp (Same.tp s) _ _ (noLAll_dT _) e2⟩
theorem pure_due {K : PySem.W.Frag} (vs : List V) (H : Hp) (Q : VK) (E : XK) (h : sp_withpair K vs H Q E) : t_due K (EndsQ Q) (sN 11 vs) H := by
  obtain ⟨t, x, B, m, u, v, a, b, p, rfl, hB, hx, ok, pl, k⟩ := h
  show t_due K _ [some t, some (.int u), some (.int v), some (.int a), some (.int b), some x, none, none, none, none, none] H
  have u0 := pl.u0
  have u1 := pl.u1
  have m5 := ok.m5
  have m1 := ok.m1
  have a0 := pl.a0
  have a1 := pl.a1
  have s6 := ok.s6
  have s1 := ok.s1
  have hn := nT_le ok.m1 ok.m5
  have tl := tnum_lt ok.m5 pl.u0 pl.u1 pl.v0 pl.v1
  have ll := ok.tab.len
  have hxi := ix_lt pl.a0 pl.a1 pl.b0 pl.b1
  have hss := ss_le ok.s1 ok.s6
  have nb := noL_dB B
  have lput : (B.put u v a b p).ts.length = B.ts.length := by unfold Book.put; rw [List.length_set]
  refine ⟨(by show 0 ≤ sizeLine; decide), fun F hF => ⟨_, _, rfl, ?_⟩⟩
  have sF := same_new (o := .lst []) hF
  have hFF : upd H F (.lst []) F = some (.lst []) := upd_same
  generalize upd H F (.lst []) = H0 at sF hFF
  have hB0 := Dp.tp (Same.tp sF) _ _ nb hB
  refine ix_vc rfl hB0 rfl fun w hw => ?_
  obtain ⟨wa, ws, rfl, hws, hwa⟩ := dp_tup hw
  have lw : ((ws.length : Nat) : Int) = m := by rw [DpAll.len hwa, List.length_map]; exact ok.pac.len
  refine ⟨_, ws.length, rfl, .inr ⟨_, hws, rfl⟩, (ws.length : Int), rfl, by omega, by omega, ?_⟩
  refine for_range (lo := 0) (n := ((ws.length : Nat) : Int).toNat) (fun i σ H1 => ∃ (c6 c9 c10 : Option V), σ = [some t, some (.int u), some (.int v), some (.int a), some (.int b), some x, c6, some (.ref F), some (.int (nT i)), c9, c10] ∧ Same H H1 ∧ Rows K H1 F ((B.put u v a b p).ts.take (nT i).toNat)) ?_ ?_ ?_
  · exact ⟨none, none, none, rfl, sF, ⟨[], hFF, .nil⟩⟩
  · rintro i σ H1 hi ⟨c6, c9, c10, rfl, sH1, rows⟩
    rw [Int.zero_add]
    have im : (i : Int) < m := by omega
    have ni := nT_succ (i : Int)
    have nim : nT i + i ≤ nT m := by
      rw [← ni]
      unfold nT
      have hm : m = 1 ∨ m = 2 ∨ m = 3 ∨ m = 4 ∨ m = 5 := by omega
      have hi : (i : Int) = 0 ∨ (i : Int) = 1 ∨ (i : Int) = 2 ∨ (i : Int) = 3 ∨ (i : Int) = 4 := by omega
      rcases hi with hi | hi | hi | hi | hi <;> rw [hi] <;> rcases hm with rfl | rfl | rfl | rfl | rfl <;> first | decide | omega
    have n0 : 0 ≤ nT i := by
      unfold nT
      have hi : (i : Int) = 0 ∨ (i : Int) = 1 ∨ (i : Int) = 2 ∨ (i : Int) = 3 ∨ (i : Int) = 4 := by omega
      rcases hi with hi | hi | hi | hi | hi <;> rw [hi] <;> decide
    refine ⟨_, rfl, (i : Int), rfl, by omega, by omega, ?_⟩
    refine for_range (lo := 0) (n := ((i : Nat) : Int).toNat) (fun j σ H2 => ∃ (c9 c10 : Option V), σ = [some t, some (.int u), some (.int v), some (.int a), some (.int b), some x, some (.int (i : Int)), some (.ref F), some (.int (nT i + j)), c9, c10] ∧ Same H H2 ∧ Rows K H2 F ((B.put u v a b p).ts.take (nT i + j).toNat)) ?_ ?_ ?_
    · refine ⟨c9, c10, ?_, sH1, ?_⟩
      · rw [show nT (i : Int) + ((0 : Nat) : Int) = nT i by omega]
        rfl
      · rw [show nT (i : Int) + ((0 : Nat) : Int) = nT i by omega]
        exact rows
    · rintro j σ H2 hj ⟨c9, c10, rfl, sH2, rows⟩
      rw [Int.zero_add]
      have hB2 := Dp.tp (Same.tp sH2) _ _ nb hB
      have hidx : (nT i + j).toNat < B.ts.length := by omega
      have er : B.ts[(nT i + j).toNat]? = some B.ts[(nT i + j).toNat] := List.getElem?_eq_getElem hidx
      have okr := ok.tab.ok _ (List.getElem_mem hidx)
      generalize B.ts[(nT i + j).toNat] = row at er okr
      have lrow := okr.len
      refine ix_vc rfl hB2 rfl fun y hy => ⟨_, rfl, ?_⟩
      refine ix_data hy (atI_map (by omega) er) fun z hz => ?_
      obtain ⟨za, zs, rfl, hzs, hza⟩ := dp_tup hz
      refine ⟨za, zs, rfl, .inr hzs, fun L hL => ?_⟩
      have sL := same_new (o := .lst zs) hL
      have hLL : upd H2 L (.lst zs) L = some (.lst zs) := upd_same
      have hL0 : H L = none := sH2.free hL
      generalize upd H2 L (.lst zs) = H3 at sL hLL
      have zd := DpAll.tp (Same.tp sL) _ _ (noLAll_dP row) hza
      have sH3 := sH2.trans sL
      have lz : zs.length = row.length := by rw [DpAll.len hza, List.length_map]
      have rows3 := rows.same sL
      -- the row goes to the end of the found ones
      have tail : ∀ (H5 : Hp) (us : List V) (row' : Tab), (∀ c o, c ≠ L → H3 c = some o → H5 c = some o) → H5 L = some (.lst us) → DpAll K H5 us (row'.map dP) → (B.put u v a b p).ts[(nT i + j).toNat]? = some row' →
          t_due_c K { nx := fun σ H2 => ∃ (c9 c10 : Option V), σ = [some t, some (.int u), some (.int v), some (.int a), some (.int b), some x, some (.int (i : Int)), some (.ref F), some (.int (nT i + ((j + 1 : Nat) : Int))), c9, c10] ∧ Same H H2 ∧ Rows K H2 F ((B.put u v a b p).ts.take (nT i + ((j + 1 : Nat) : Int)).toNat), rt := Q } [some t, some (.int u), some (.int v), some (.int a), some (.int b), some x, some (.int (i : Int)), some (.ref F), some (.int (nT i + j)), some (.int (j : Int)), some (.ref L)] H5 := by
        intro H5 us row' kp hL5 hd5 e5
        have but : But [L] H3 H5 := fun c o hc e => kp c o (fun z => hc (by rw [z]; exact List.mem_cons_self)) e
        have tp5 : Tp K H3 H5 := but.tp fun d hd => by rw [List.mem_singleton.mp hd]; exact not_lst hLL
        obtain ⟨fs, f1, f2⟩ := rows3.ex
        have fL : F ≠ L := ne_of_none (rows.ex.choose_spec.1) hL
        have f15 := kp _ _ fL f1
        have lf : fs.length = (nT i + j).toNat := by
          rw [DpAll.len f2, List.length_map, List.length_take, lput]
          omega
        refine ⟨_, rfl, .inl ⟨rfl, _, SqL.of f15⟩, _, rfl, L, us, rfl, .inl ⟨SqL.of hL5, fun q hq => ?_⟩⟩
        have sq := same_new (o := .tup us) hq
        have hqq : upd H5 q (.tup us) q = some (.tup us) := upd_same
        generalize upd H5 q (.tup us) = H6 at sq hqq
        have f16 := sq _ _ f15
        have hFq : F ≠ q := ne_of_none f15 hq
        refine ⟨F, fs, _, rfl, rfl, f16, ?_, _, rfl, _, _, rfl, rfl, some (.int (j : Int)), some (.ref L), ?_, ?_, ?_⟩
        · rw [lf]
          exact Nat.lt_of_le_of_lt (show (nT i + j).toNat ≤ 10 by omega) (by decide)
        · rw [show nT (i : Int) + ((j + 1 : Nat) : Int) = nT i + j + 1 by omega]
          rfl
        · intro c o e
          rw [upd_ne (ne_of_none e hF)]
          have cL : c ≠ L := ne_of_none e hL0
          exact sq _ _ (kp _ _ cL (sH3 _ _ e))
        · have tp7 : Tp K H6 (upd H6 F (.lst (fs ++ [.ref q]))) := tp_upd (not_lst f16)
          refine ⟨fs ++ [.ref q], upd_same, ?_⟩
          rw [show (nT (i : Int) + ((j + 1 : Nat) : Int)).toNat = (nT i + j).toNat + 1 by omega, List.take_add_one, e5, List.map_append]
          refine DpAll.append (DpAll.tp (tp5.trans ((Same.tp sq).trans tp7)) _ _ (noLAll_dT _) f2) (.cons (.tup (SqT.of ?_) (DpAll.tp ((Same.tp sq).trans tp7) _ _ (noLAll_dP _) hd5)) .nil)
          rw [upd_ne (Ne.symm hFq)]
          exact hqq
      refine ⟨_, rfl, _, rfl, (by show 2 ≤ sizeLine; decide), fun q1 hq1 => ⟨_, rfl, _, rfl, (by show 2 ≤ sizeLine; decide), fun q2 hq2 => ?_⟩⟩
      have s1 := same_new (o := .tup [.int (i : Int), .int (j : Int)]) hq1
      have hqq1 : upd H3 q1 (.tup [.int (i : Int), .int (j : Int)]) q1 = some _ := upd_same
      generalize upd H3 q1 (.tup [.int (i : Int), .int (j : Int)]) = H4 at s1 hqq1 hq2
      have s2 := same_new (o := .tup [.int u, .int v]) hq2
      have hqq2 : upd H4 q2 (.tup [.int u, .int v]) q2 = some _ := upd_same
      generalize upd H4 q2 (.tup [.int u, .int v]) = H5 at s2 hqq2
      have s35 := s1.trans s2
      refine ⟨dP ((i : Int), (j : Int)), dP (u, v), .tup (SqT.of (s2 _ _ hqq1)) (.cons (.int _) (.cons (.int _) .nil)), .tup (SqT.of hqq2) (.cons (.int _) (.cons (.int _) .nil)), rfl, rfl, _, rfl, ?_⟩
      have sH5 := sH3.trans s35
      by_cases hc : (i : Int) = u ∧ (j : Int) = v
      · have ev : PyData.eqv (dP ((i : Int), (j : Int))) (dP (u, v)) = true := by
          rw [hc.1, hc.2]
          simp [dP, PyData.eqv, PyData.eqvAll]
        rw [ev]
        have en : (nT i + j).toNat = (tnum u v).toNat := by rw [hc.1, hc.2]; rfl
        have rt := (Book.row ok pl).1
        rw [← en, er] at rt
        have rt' : row = B.tab u v := Option.some.inj rt
        show tAsg (tVar 5) (gSub (tVar 10) _ rSetL) _ _ _
        refine ⟨_, rfl, _, rfl, _, rfl, ix_vc rfl (Dp.tp (Same.tp sH5) _ _ nb hB) rfl fun y2 hy2 => ?_⟩
        cases hy2
        have tp6 : Tp K H5 (upd H5 L (.lst (zs.set (a * B.s + b).toNat x))) := tp_upd (not_lst (s35 _ _ hLL))
        refine ⟨_, _, rfl, rfl, .inl ⟨by omega, by omega⟩, _, rfl, _, _, rfl, rfl, L, zs, _, (a * B.s + b).toNat, rfl, rfl, s35 _ _ hLL, ?_, ?_⟩
        · unfold ixN
          rw [if_pos hxi.1, if_pos (by omega)]
        · refine tail _ (zs.set (a * B.s + b).toNat x) (row.set (a * B.s + b).toNat p) (fun c o hcL e => by rw [upd_ne hcL]; exact s35 _ _ e) upd_same ?_ ?_
          · rw [List.map_set]
            exact DpAll.set (Dp.tp ((Same.tp sH5).trans tp6) _ _ (noL_dP p) hx) _ (DpAll.tp ((Same.tp s35).trans tp6) _ _ (noLAll_dP row) zd)
          · show (B.ts.set (tnum u v).toNat ((B.tab u v).set (a * B.s + b).toNat p))[(nT i + j).toNat]? = _
            rw [en, rt', List.getElem?_set_self (by omega)]
      · have ev : PyData.eqv (dP ((i : Int), (j : Int))) (dP (u, v)) = false := by
          have : ¬ ((i : Int) = u ∧ (j : Int) = v) := hc
          simp [dP, PyData.eqv, PyData.eqvAll]
          exact fun h => fun h' => this ⟨h, h'⟩
        rw [ev]
        refine tail H5 zs row (fun c o _ e => s35 _ _ e) (s35 _ _ hLL) (DpAll.tp (Same.tp s35) _ _ (noLAll_dP row) zd) ?_
        show (B.ts.set (tnum u v).toNat ((B.tab u v).set (a * B.s + b).toNat p))[(nT i + j).toNat]? = _
        rw [List.getElem?_set_ne, er]
        intro en
        exact hc (tnum_inj ok.m5 pl.u0 pl.u1 pl.v0 pl.v1 (by omega) im (by omega) (by omega) (by omega))
    · rintro σ H2 ⟨c9, c10, rfl, sH2, rows⟩
      refine ⟨some (.int (i : Int)), c9, c10, ?_, sH2, ?_⟩
      · rw [show nT ((i + 1 : Nat) : Int) = nT i + (((i : Nat) : Int).toNat : Int) by rw [Int.natCast_add]; exact ni.trans (by omega)]
      · rw [show nT ((i + 1 : Nat) : Int) = nT i + (((i : Nat) : Int).toNat : Int) by rw [Int.natCast_add]; exact ni.trans (by omega)]
        exact rows
  · rintro σ H1 ⟨c6, c9, c10, rfl, sH1, rows⟩
    have hB1 := Dp.tp (Same.tp sH1) _ _ nb hB
    obtain ⟨us, e1, e2⟩ := rows.ex
    have et : (B.put u v a b p).ts.take (nT (((ws.length : Nat) : Int).toNat : Int)).toNat = (B.put u v a b p).ts := List.take_of_length_le (by rw [lput, show (((ws.length : Nat) : Int).toNat : Int) = m by omega]; omega)
    rw [et] at e2
    refine ix_vc rfl hB1 rfl fun y1 hy1 => ix_vc rfl hB1 rfl fun y2 hy2 => ?_
    cases hy2
    refine ⟨_, rfl, F, us, rfl, .inl ⟨SqL.of e1, fun q hq => ?_⟩⟩
    have sq := same_new (o := .tup us) hq
    have hqq : upd H1 q (.tup us) q = some (.tup us) := upd_same
    generalize upd H1 q (.tup us) = H2 at sq hqq
    refine ⟨(by show 3 ≤ sizeLine; decide), fun r hr => ?_⟩
    have sr := same_new (o := .tup [y1, .int B.s, .ref q]) hr
    have s12 := sq.trans sr
    refine k _ _ (sH1.trans s12) (.tup (SqT.of upd_same) (.cons (Dp.tp (Same.tp s12) _ _ (noL_dI _) hy1) (.cons (.int _) (.cons (.tup (SqT.of (sr _ _ hqq)) (DpAll.tp (Same.tp s12) _ _ (noLAll_dT _) e2)) .nil))))
end Wf

/-! Data of small numbers and tuples: shown, short, of small weight and depth. -/
namespace Wf
open PySem PySem.Spec L2
mutual
/-- numbers near nothing and tuples of such -/
def tame : PyData → Bool
  | .none | .bool _ => true
  | .int i => decide (-1000000 ≤ i ∧ i ≤ 1000000)
  | .tuple ds => tameAll ds
  | .str _ | .list _ | .dict _ => false
def tameAll : List PyData → Bool
  | [] => true
  | d :: ds => tame d && tameAll ds
end
theorem log2_small {n : Nat} (h : n ≤ 1000000) : n.log2 < 1920 := by
  by_cases h0 : n = 0
  · subst h0
    decide
  · have := (Nat.log2_lt h0 (k := 20)).mpr (Nat.lt_of_le_of_lt h (by decide))
    omega
mutual
theorem tame_ok : ∀ d : PyData, tame d = true → d.showable = true ∧ d.leavesShort 13 = true ∧ d.bulk + 1 ≤ wt d ∧ noL d = true
  | .none, _ => ⟨rfl, rfl, Nat.le_refl _, rfl⟩
  | .bool _, _ => ⟨rfl, rfl, Nat.le_refl _, rfl⟩
  | .int i, h => by
    have h' : -1000000 ≤ i ∧ i ≤ 1000000 := of_decide_eq_true (show decide (-1000000 ≤ i ∧ i ≤ 1000000) = true from h)
    refine ⟨?_, ?_, Nat.le_refl _, rfl⟩
    · show decide (i.natAbs.log2 < 1920) = true
      exact decide_eq_true (log2_small (by omega))
    · show decide ((PyData.shown (.int i)).length ≤ 13) = true
      exact decide_eq_true (PyData.shown_int_le2 (by omega) (by omega))
  | .tuple ds, h => by
    have h' := tameAll_ok ds h
    exact ⟨h'.1, h'.2.1, Nat.succ_le_succ h'.2.2.1, h'.2.2.2⟩
  | .str _, h => nomatch h
  | .list _, h => nomatch h
  | .dict _, h => nomatch h
theorem tameAll_ok : ∀ ds : List PyData, tameAll ds = true → PyData.showableAll ds = true ∧ PyData.leavesShortAll 13 ds = true ∧ PyData.bulkAll ds ≤ wtAll ds ∧ noLAll ds = true
  | [], _ => ⟨rfl, rfl, Nat.le_refl _, rfl⟩
  | d :: ds, h => by
    have h' := Bool.and_eq_true_iff.mp (show (tame d && tameAll ds) = true from h)
    have h1 := tame_ok d h'.1
    have h2 := tameAll_ok ds h'.2
    refine ⟨?_, ?_, ?_, ?_⟩
    · show (d.showable && PyData.showableAll ds) = true
      rw [h1.1, h2.1]
      rfl
    · show (d.leavesShort 13 && PyData.leavesShortAll 13 ds) = true
      rw [h1.2.1, h2.2.1]
      rfl
    · show d.bulk + 1 + PyData.bulkAll ds ≤ wt d + wtAll ds
      exact Nat.add_le_add h1.2.2.1 h2.2.2.1
    · show (noL d && noLAll ds) = true
      rw [h1.2.2.2, h2.2.2.2]
      rfl
end
theorem tame_map {α : Type} (f : α → PyData) (n c : Nat) : ∀ l : List α, (∀ a ∈ l, tame (f a) = true ∧ (f a).depth ≤ n ∧ wt (f a) ≤ c) → tameAll (l.map f) = true ∧ PyData.depthAll (l.map f) ≤ n ∧ wtAll (l.map f) ≤ c * l.length
  | [], _ => ⟨rfl, Nat.zero_le _, Nat.zero_le _⟩
  | a :: l, h => by
    have h1 := h a List.mem_cons_self
    have h2 := tame_map f n c l fun b hb => h b (List.mem_cons_of_mem _ hb)
    rw [List.map_cons]
    refine ⟨?_, ?_, ?_⟩
    · show (tame (f a) && tameAll (l.map f)) = true
      rw [h1.1, h2.1]
      rfl
    · show max (f a).depth (PyData.depthAll (l.map f)) ≤ n
      exact Nat.max_le.mpr ⟨h1.2.1, h2.2.1⟩
    · show wt (f a) + wtAll (l.map f) ≤ c * (l.length + 1)
      rw [Nat.mul_add, Nat.mul_one, Nat.add_comm]
      exact Nat.add_le_add h2.2.2 h1.2.2
theorem tame_int {i : Int} (h0 : -1000000 ≤ i) (h1 : i ≤ 1000000) : tame (.int i) = true := decide_eq_true ⟨h0, h1⟩
theorem tame_ints {ns : List Int} (h : ∀ n ∈ ns, -1000000 ≤ n ∧ n ≤ 1000000) : tame (dI ns) = true ∧ (dI ns).depth ≤ 1 ∧ wt (dI ns) ≤ ns.length + 1 := by
  have h1 := tame_map PyData.int 0 1 ns fun n hn => ⟨tame_int (h n hn).1 (h n hn).2, Nat.le_refl _, Nat.le_refl _⟩
  refine ⟨h1.1, Nat.succ_le_succ h1.2.1, ?_⟩
  show wtAll (ns.map PyData.int) + 1 ≤ _
  have := h1.2.2
  omega
theorem tame_dP {s : Int} {p : Int × Int} (h : InP s p) (hs : s ≤ 1000) : tame (dP p) = true ∧ (dP p).depth ≤ 1 ∧ wt (dP p) ≤ 3 := by
  unfold InP at h
  refine ⟨?_, by show max 0 (max 0 0) + 1 ≤ 1; decide, Nat.le_refl _⟩
  show (tame (.int p.1) && (tame (.int p.2) && true)) = true
  rw [tame_int (by omega) (by omega), tame_int (by omega) (by omega)]
  rfl
theorem tame_dT {s : Int} {t : Tab} (h : TabOk s t) (s1 : 1 ≤ s) (hs : s ≤ 6) : tame (dT t) = true ∧ (dT t).depth ≤ 2 ∧ wt (dT t) ≤ 109 := by
  have h1 := tame_map dP 1 3 t fun p hp => tame_dP (h.inn p hp) (by omega)
  refine ⟨h1.1, Nat.succ_le_succ h1.2.1, ?_⟩
  show wtAll (t.map dP) + 1 ≤ _
  have h2 := h1.2.2
  have h3 := h.len
  have h4 := ss_le s1 hs
  omega
theorem tame_dB {m : Int} {B : Book} (h : BookOk m B) : tame (dB B) = true ∧ (dB B).depth ≤ 4 ∧ wt (dB B) ≤ 2000 := by
  have h1 := tame_ints (ns := B.ps) fun n hn => ⟨by have := h.pac.lo n hn; omega, by have := h.pac.lo n hn; omega⟩
  have h2 := tame_map dT 2 109 B.ts fun t ht => tame_dT (h.tab.ok t ht) h.s1 h.s6
  have := h.s1
  have := h.s6
  refine ⟨?_, ?_, ?_⟩
  · show (tame (dI B.ps) && (tame (.int B.s) && (tameAll (B.ts.map dT) && true))) = true
    rw [h1.1, tame_int (by omega) (by omega), h2.1]
    rfl
  · show max (dI B.ps).depth (max 0 (max (PyData.depthAll (B.ts.map dT) + 1) 0)) + 1 ≤ 4
    have := h1.2.1
    have := h2.2.1
    omega
  · show wt (dI B.ps) + (1 + (wtAll (B.ts.map dT) + 1 + 0)) + 1 ≤ 2000
    have := h1.2.2
    have := h2.2.2
    have := h.pac.len
    have := h.tab.len
    have := h.m5
    have := nT_le h.m1 h.m5
    omega
/-- what repr asks of a book -/
theorem shown_dB {m : Int} {B : Book} (h : BookOk m B) : (dB B).showable = true ∧ (dB B).depth ≤ 60 ∧ (dB B).shown.length ≤ sizeLine := by
  have h1 := tame_dB h
  have h2 := tame_ok _ h1.1
  refine ⟨h2.1, by omega, PyData.shown_fits_bulk (B := 13) (by decide) (by decide) h2.2.1 ?_⟩
  have : (2 : Nat) ^ 20 = 1048576 := by decide
  omega
end Wf

/-! for k, x in enumerate(t), t a tuple -/
namespace Wf
open PySem PySem.Spec
open AutoSeq1 (wpAny_loadPart')
theorem meets_enumT (l : Addr) (ws : Array Value) (n : Nat) (dd : Option Addr) (sl : Array (Option Value)) :
    Meets (Builtin.«enumerate.__new__» ⟨[.type "enumerate", .ref l], []⟩) (fun _ R s => s.heap.get? l = some { cls := .type "tuple", dict := dd, data := .seq ws n, slots := sl } ∧
      R (.ok (.ret (.ref (s.heap.push { cls := .type "tuple_iterator", data := .fields #[.ref l, .int 0 0] }).objs.size)))
        { s with heap := (s.heap.push { cls := .type "tuple_iterator", data := .fields #[.ref l, .int 0 0] }).push { cls := .type "enumerate", data := .fields #[.none, .bool false, .ref s.heap.objs.size, rawInt 0, .none, .none] } }) :=
  .of_wp fun prog w A R s hq => by
    obtain ⟨hp, gn, dr, tk, os⟩ := s; obtain ⟨hl, hq⟩ := hq
    have hsubE := sub_enumerate
    have hL : Heap.IsTuple (Shared.heap ⟨hp, gn, dr, tk, os⟩) l ws := ⟨_, hl, rfl, n, rfl⟩
    wp_walk using wpAny_loadPart' hl
    refine wpAny_stack_any fun stk => wpAny_pure ?_
    split
    · rename_i cc _ _ _ _ _
      cases (cc == Value.type "enumerate") <;> (wp_walk using wpAny_loadPart' hl, wpAny_pyIter_tuple hL; exact ⟨_, rfl, hq⟩)
    · wp_walk using wpAny_loadPart' hl, wpAny_pyIter_tuple hL
      exact ⟨_, rfl, hq⟩
section
variable {prog : Program} {w : World} {A : Around} {E : Value → Shared → Prop} {s : Shared}
theorem call_enumT {l : Addr} {ws : Array Value} {Q : Value → Shared → Prop} (hL : s.heap.IsTuple l ws)
    (k : ∀ h', IsEnum h' (s.heap.objs.size + 1) s.heap.objs.size 0 .none → h'.IsTupleIter s.heap.objs.size l 0 → h'.objs.size = s.heap.objs.size + 2 →
      (∀ b o, s.heap.get? b = some o → h'.get? b = some o) → Q (.ref (s.heap.objs.size + 1)) { s with heap := h' }) :
    wpAny (model prog w) A (call (.type "enumerate") [.ref l]) Q E s := by
  obtain ⟨⟨c, dd, dt, sl⟩, hl, hc, n, hd⟩ := hL
  replace hc : c = .type "tuple" := hc
  replace hd : dt = .seq ws n := hd
  subst hc hd
  refine callType_new F.called_enumerate (by decide) (F.typeCall_enumerate_1 _) (F.newCall_enumerate_1 _) (fun ob => F.args_object_init_2 ob _) F.entry_enumerate_new
    (meets_enumT l ws n dd sl) ⟨hl, ?_⟩
  have z1 : (s.heap.push { cls := .type "tuple_iterator", data := .fields #[.ref l, .int 0 0] }).objs.size = s.heap.objs.size + 1 := Heap.size_push ..
  show _ ∧ _
  rw [z1]
  have en : IsEnum ((s.heap.push { cls := .type "tuple_iterator", data := .fields #[.ref l, .int 0 0] }).push
      { cls := .type "enumerate", data := .fields #[.none, .bool false, .ref s.heap.objs.size, rawInt 0, .none, .none] }) (s.heap.objs.size + 1) s.heap.objs.size 0 .none := by
    have g := Heap.get?_push_size (s.heap.push { cls := .type "tuple_iterator", data := .fields #[.ref l, .int 0 0] })
      (o := { cls := .type "enumerate", data := .fields #[.none, .bool false, .ref s.heap.objs.size, rawInt 0, .none, .none] }) rfl
    rw [z1] at g
    exact g
  exact ⟨⟨_, en, rfl⟩, k _ en ⟨_, Heap.get?_push_of_some _ (Heap.get?_push_size _ rfl), rfl, rfl⟩ (by rw [Heap.size_push, z1]) fun b o e => Heap.get?_push_of_some _ (Heap.get?_push_of_some _ e)⟩
theorem enumT_end {e it l : Addr} {i : Nat} {ws : Array Value} {c : Int} {old : Value} {Q : Option Value → Shared → Prop} (hh : A.handled = none)
    (en : IsEnum s.heap e it c old) (hit : s.heap.IsTupleIter it l i) (hl : s.heap.IsTuple l ws) (hx : ws[i]? = none)
    (k : ∀ h', Heap.ExtBut it s.heap h' → Q none { s with heap := h' }) : wpAny (model prog w) A (pyNext (.ref e)) Q E s := by
  have ty : s.TypeIs (.ref e) "enumerate" := ⟨_, en, rfl⟩
  unfold pyNext
  refine wpAny_bind (wpAny_attempt (wpAny_callSpecial?_slot (name := Str.ofString "__next__") ty F.slot_enumerate_next (wpAny_call_entry F.slot_enumerate_next ty F.entry_enumerate_next ?_ (F.args_enumerate_next_1 _))))
  show wpAny _ _ (field (.ref e) 2 >>= _) _ _ _
  refine wpAny_bind (wpAny_field en rfl (x := .ref it) rfl (wpAny_bind (wpAny_nextOf_tuple_end hh hit hl hx fun h' x eb hx' => ?_)))
  obtain ⟨o, ho, hc⟩ := hx'
  exact wpAny_bind (wpAny_isInstance (T := "StopIteration") (b := true) ⟨o, ho, hc⟩ isSubtype_stop (wpAny_pure (k _ eb)))
end
end Wf
namespace Wf
open PySem PySem.Spec PyProof.Rows L2
/-- what is walked: the tuple at a, each thing in a new pair with its number -/
def ItT (K : PySem.W.Frag) (a : Addr) : It :=
  ⟨fun i H => ∃ (xs : List V) (x : V), SqT K H a xs ∧ xs[i]? = some x, fun i H v H' => ∃ T x, v = .ref T ∧ H T = none ∧ H' = upd H T (.tup [.int (i : Nat), x]) ∧ ∀ xs, SqT K H a xs → xs[i]? = some x, fun i H => ∃ xs : List V, SqT K H a xs ∧ xs.length ≤ i⟩
theorem apart_cls {h : Heap} {a b : Addr} {o u : Obj} {m n : String} (ha : h.get? a = some o) (hb : h.get? b = some u) (ho : o.cls = .type m) (hu : u.cls = .type n) (d : m ≠ n) : a ≠ b := fun e => by
  subst e
  rw [ha] at hb
  cases hb
  rw [ho] at hu
  exact d (by injection hu)
theorem turn_enumT {P : Program} {w : World} {K : PySem.W.Frag} {elts : List Expr} {kk : Nat} {tpos : Pos} (a e it : Addr) :
    Turn P w K (.Tuple elts kk tpos) (ItT K a) [e, it] e (fun i h => (∃ old, IsEnum h e it ((i : Nat) : Int) old) ∧ h.IsTupleIter it a i ∧ e ≠ it) where
  mem := by simp
  obj := fun i h st b hb => by
    obtain ⟨⟨old, en⟩, ⟨o, ho, hc, hd⟩, _⟩ := st
    have eb : b = e ∨ b = it := by simpa using hb
    rcases eb with rfl | rfl
    · exact ⟨_, en, fun v q => nomatch q⟩
    · exact ⟨o, ho, fun v q => by rw [hd] at q; cases q⟩
  keep := fun i h h' st kp => let ⟨⟨old, en⟩, hi, ne⟩ := st; ⟨⟨old, kp e (by simp) _ en⟩, hi.at fun o q => kp it (by simp) o q, ne⟩
  item := by
    intro X hP hw hK hc i pins s σ H E I hf st hg
    subst hP hw hK
    obtain ⟨⟨old, en⟩, hit, ne⟩ := st
    obtain ⟨xs, x, hq, hx⟩ := hg
    obtain ⟨its, rv, p, hz⟩ := I.tuple hq
    have pT : s.heap.IsTuple a its.toArray := p
    obtain ⟨u, hu, ru⟩ := rv.get hx
    have lx : i < xs.length := (List.getElem?_eq_some_iff.mp hx).1
    have lr := rv.length
    have hel : e < s.heap.objs.size := Heap.lt_size en
    have hil : it < s.heap.objs.size := by obtain ⟨_, q, _⟩ := hit; exact Heap.lt_size q
    have ae : e ≠ a := by
      obtain ⟨o, ho, hoc, _⟩ := pT
      exact apart_cls en ho rfl hoc (by decide)
    have ai : a ≠ it := by
      obtain ⟨o, ho, hoc, _⟩ := pT
      obtain ⟨o2, ho2, hoc2, _⟩ := hit
      exact apart_cls ho ho2 hoc hoc2 (by decide)
    refine wpAny_pyNext_enum_itemD (Draws.tuple (show X.A.in1.handled = none from I.ok.hd hc) it a ai its.toArray) en ⟨hit, pT⟩ (by simp; omega) ne (by simp [ne, ae]) fun y h' tk hy ho hst hT hsz hk => ?_
    have yu : y = u := by
      have : its[i]? = some y := by simpa using hy
      rw [hu] at this
      exact (Option.some.inj this).symm
    subst yu
    refine ⟨_, rfl, wpAny_letOwnedTupleGo_enum (s := { s with heap := h', toks := tk + 1 }) ho fun h2 en2 sb => ?_⟩
    have hT2 : h2.get? s.heap.objs.size = some { cls := .type "tuple", data := .seq #[.int i tk, y] } := (sb.2 _ (Nat.ne_of_gt hel)).trans hT
    have ok2 : ObjOk X.prog X.w (upd H s.heap.objs.size (.tup [.int (i : Nat), x])) h2 s.heap.objs.size (.tup [.int (i : Nat), x]) :=
      ⟨by show 2 ≤ sizeLine; decide, [.int i tk, y], .cons ⟨_, rfl⟩ (.cons ru .nil), ⟨_, hT2, rfl, _, rfl⟩⟩
    have I2 : Inv X pins σ (upd H s.heap.objs.size (.tup [.int (i : Nat), x])) { s with heap := h2, toks := tk + 1 } :=
      I.turnedNew (ch := [e, it]) (fun b ob hb q => (sb.2 b (fun z => hb (by simp [z]))).trans (hk b ob (fun z => hb (by simp [z])) (fun z => hb (by simp [z])) q)) hf (Nat.le_refl _) ok2
    refine ⟨.ref s.heap.objs.size, _, I2, rfl, ⟨_, x, rfl, I.hok.fresh (Nat.le_refl _), rfl, fun ys hy2 => by rw [I.tuple_inj hy2 hq]; exact hx⟩, ⟨⟨y, ?_⟩, hst.1.at fun o q => (sb.2 it (Ne.symm ne)).trans q, ne⟩, fun b hb => ?_⟩
    · rw [show ((i + 1 : Nat) : Int) = (i : Int) + 1 by omega]
      exact en2
    · have lb : b < s.heap.objs.size := by
        have eb : b = e ∨ b = it := by simpa using hb
        rcases eb with rfl | rfl
        · exact hel
        · exact hil
      rw [upd_ne (Nat.ne_of_lt lb)]
      exact (hf b hb).1
  done := by
    intro X hP hw hK hc i pins s σ H E I hf st hg
    subst hP hw hK
    obtain ⟨⟨old, en⟩, hit, ne⟩ := st
    obtain ⟨xs, hq, hx⟩ := hg
    obtain ⟨its, rv, p, hz⟩ := I.tuple hq
    have pT : s.heap.IsTuple a its.toArray := p
    obtain ⟨f0, f1, f2, f3, f4, f5⟩ := hf it (by simp)
    have lr := rv.length
    have ai : a ≠ it := by
      obtain ⟨o, ho, hoc, _⟩ := pT
      obtain ⟨o2, ho2, hoc2, _⟩ := hit
      exact apart_cls ho ho2 hoc hoc2 (by decide)
    refine enumT_end (I.ok.hd hc) en hit pT (by simp; omega) fun h' eb => ⟨rfl, I.turned (t' := s.toks) (fun b o hb q => eb b o hb q) f0 f1 f3 f4 f5⟩
  self := fun A i s Q E st h => let ⟨⟨_, en⟩, _⟩ := st; wpAny_pyIter_enum en h
def iEnumT (K : PySem.W.Frag) (ta : TA) : TI := fun σ H R => ta σ H fun vs H1 => ∃ a xs, vs = [.ref a] ∧ SqT K H1 a xs ∧ R (ItT K a) H1
theorem pi_enumT {X : Cx} {e : Expr} {ta : TA} {p pos tpos : Pos} {elts : List Expr} {kk : Nat} (hg : Gl X "enumerate") (hm : X.mg "enumerate" = none) (ha : PA X [e] ta) (hs : starEach [e] X.env = [(false, eval e X.env)] := by rfl) :
    PI X (.Tuple elts kk tpos) (.Call (.Name "enumerate" p) [e] [] pos) (iEnumT X.K ta) := by
  refine ⟨fun pins s σ H R I hr => ?_⟩
  refine Call_ (ld_blt I hg hm boot_enumerate (PyProof.Rows.callWith_type1 (thn (ha.run pos pins s σ H _ I hr) fun us s1 ⟨vs, H1, I1, r1, a, xs, ev, hq, q⟩ => ?_) hs rfl))
  subst ev
  cases r1 with
  | cons r rr =>
    cases rr
    cases r
    obtain ⟨its, rv, pt, hz⟩ := I1.tuple hq
    refine call_enumT (show s1.heap.IsTuple a its.toArray from pt) fun h' en hit hsz hk => wpAny_pyIter_enum en ?_
    have I2 : Inv X pins σ H1 { s1 with heap := h' } := I1.kept (t' := s1.toks) hk
    refine ⟨s1.heap.objs.size + 1, [s1.heap.objs.size + 1, s1.heap.objs.size], _, _, H1, rfl, I2, turn_enumT a (s1.heap.objs.size + 1) s1.heap.objs.size, ⟨⟨.none, en⟩, hit, Nat.succ_ne_self _⟩, fun b hb => ?_, q⟩
    have le : s1.heap.objs.size ≤ b := by
      have eb : b = s1.heap.objs.size + 1 ∨ b = s1.heap.objs.size := by simpa using hb
      rcases eb with rfl | rfl
      · exact Nat.le_add_right _ _
      · exact Nat.le_refl _
    exact I1.fpOk le (I1.hok.fresh le)
theorem for_enumT {K : PySem.W.Frag} {a : Addr} {xs : List V} {g : TG} {tb : TS} {D : Ends} {σ : L2.St} {H : Hp} (Pv : Nat → L2.St → Hp → Prop) (h0 : Pv 0 σ H) (hq : ∀ i σ H, Pv i σ H → SqT K H a xs)
    (hs : ∀ (i : Nat) (x : V) (T : Addr) (σ : L2.St) (H : Hp), xs[i]? = some x → Pv i σ H → H T = none → g (.ref T) σ (upd H T (.tup [.int (i : Nat), x])) fun σ2 H2 => tb { D with nx := Pv (i + 1), ct := Pv (i + 1), bk := D.nx } σ2 H2) (hd : ∀ σ H, Pv xs.length σ H → D.nx σ H) :
    ∃ W : Nat → Nat → L2.St → Hp → Prop, (∃ m, W 0 m σ H) ∧ ∀ i m σ H, W i m σ H →
      ((ItT K a).stop i H ∧ D.nx σ H) ∨ ((ItT K a).go i H ∧ ∃ N : L2.St → Hp → Prop, (∀ σ' H', N σ' H' → ∃ m', m' < m ∧ W (i + 1) m' σ' H') ∧ ∀ v H', (ItT K a).yld i H v H' → g v σ H' fun σ2 H2 => tb { D with nx := N, ct := N, bk := D.nx } σ2 H2) := by
  refine ⟨fun i m σ H => m = xs.length - i ∧ i ≤ xs.length ∧ Pv i σ H, ⟨xs.length, rfl, Nat.zero_le _, h0⟩, ?_⟩
  rintro i m σ H ⟨rfl, hi, p⟩
  have q := hq i σ H p
  by_cases hlt : i < xs.length
  · have hx : xs[i]? = some xs[i] := List.getElem?_eq_getElem hlt
    refine .inr ⟨⟨xs, _, q, hx⟩, Pv (i + 1), fun σ' H' p' => ⟨xs.length - (i + 1), by omega, rfl, hlt, p'⟩, fun v H' y => ?_⟩
    obtain ⟨T, x, rfl, hT, rfl, hall⟩ := y
    exact hs i x T σ H (hall xs q) p hT
  · have e : i = xs.length := by omega
    subst e
    exact .inl ⟨⟨xs, q, Nat.le_refl _⟩, hd σ H p⟩
end Wf

/-! Own errors over an own base over ValueError: their __init__, raised, caught. -/
namespace Wf
open PySem PySem.Spec PyProof.Rows L2
/-- the base class x, at C0, whose __init__ is ValueError's -/
structure BaseC (K : PySem.W.Frag) (mg : Str → Option Value) (x : Str) (C0 : Addr) : Prop where
  g : mg x = some (.ref C0)
  rd : PySem.W.readsIn K C0 (.type "type") = true
  ga : PySem.W.specialIn K (.ref C0) "__getattribute__" = some (some (.builtin "type.__getattribute__"))
  at_ : PySem.W.findCls K (.ref C0) (.type "type") "__init__" = some (.val (.builtin "ValueError.__init__"))
section
variable {X : Cx} {e : Expr} {es : List Expr} {ta : TA} {p1 p2 pos : Pos} {x : Str} {C0 : Addr}
/-- x.__init__(self, ..) -/
theorem pe_binit {pl : Sem Bool} (T : BaseC X.K X.mg x C0) (hg : Gl X x) (ha : PA X (e :: es) ta) (hdb : (x == ("__debug__" : Str)) = false := by decide)
    (hc : eval (.Call (.Attribute (.Name x p1) "__init__" p2) (e :: es) [] pos) X.env = (do
      let ov ← eval (.Name x p1) X.env
      standAt p2.atName
      let (f, first) ← holding [ov] (getMethod ov "__init__" pl)
      callWith pos f first (backTo pos (starEach (e :: es) X.env)) (backToKw pos (keywordEach [] X.env))) := by rfl)
    (he : starEach (e :: es) X.env = (false, eval e X.env) :: starEach es X.env := by rfl) (hpl : (backTo pos (starEach es X.env)).any (·.1) = false := by rfl) :
    PE X (.Call (.Attribute (.Name x p1) "__init__" p2) (e :: es) [] pos) (tVeI X.K ta) := by
  refine ⟨fun pins s σ H Q I h => ?_⟩
  refine PySem.W.methodCall_KW (ld_glob I hg T.g ?_ hdb) hc
  refine PySem.W.method_cls I.kIn T.ga (PySem.W.cls_value I.kIn T.rd T.at_ (by decide +kernel) ?_)
  show wpAny _ _ (callWith pos (Value.builtin "ValueError.__init__") [] (backTo pos (starEach (e :: es) X.env)) []) _ _ _
  refine PyProof.Rows.callWith_method1 (thn (ha.run pos pins _ σ H _ (I.tok _) h) fun us s1 ⟨vs, H1, I1, r1, a, C, ws, ev, hl, O, ea, q⟩ => ?_) he hpl
  subst ev
  cases r1 with
  | @cons _ u0 _ ur ra rw' =>
    obtain rfl : u0 = Value.ref a := ra
    have hlen : ur.length ≤ sizeLine := by
      rw [← Paired.length rw', sizeLine_eq]
      omega
    exact oinit_ok O I1 ea hlen fun s' J => ⟨.non, H1, J, rfl, q⟩
end
/-! ### readings may be widened -/
def up (ta : TA) : TA := fun σ H Q => ∃ Q' : List V → Hp → Prop, ta σ H Q' ∧ ∀ vs H1, Q' vs H1 → Q vs H1
theorem pa_up {X : Cx} {es : List Expr} {ta : TA} (h : PA X es ta) : PA X es (up ta) := by
  refine ⟨fun pos pins s σ H Q I q => ?_⟩
  obtain ⟨Q', h1, h2⟩ := q
  exact thn (h.run pos pins s σ H Q' I h1) fun us s1 ⟨vs, H1, I1, r1, q1⟩ => ⟨vs, H1, I1, r1, h2 vs H1 q1⟩
/-! ### __init__(self, f1, f2): the base's, then both fields -/
def sp_init2 (K : PySem.W.Frag) (C : Addr) (f1 f2 : Str) : Sp := fun vs H Q _ => ∃ (a : Addr) (w n : V), vs = [.ref a, w, n] ∧ H a = some (exo a C none) ∧
  ∀ dx, H dx = none → dx ≠ a → Q .non (upd (upd (upd H dx (exd dx [(f1, w)])) a (exo a C (some dx))) dx (exd dx [(f2, n), (f1, w)]))
def t_init2 (K : PySem.W.Frag) (f1 f2 txt : Str) : TS := tSeq (tDrop (tVeI K (tCons (tVar 0) (tCons (tC (.str txt)) tNil)))) (tSeq (tOst K f1 (tVar 0) (tVar 1)) (tOst K f2 (tVar 0) (tVar 2)))
theorem pure_init2 {K : PySem.W.Frag} {C : Addr} {f1 f2 txt : Str} (O : OexC K C) (n1 : PySem.W.findIn K (.ref C) f1 = some none) (n2 : PySem.W.findIn K (.ref C) f2 = some none) (vs : List V) (H : Hp) (Q : VK) (E : XK) (h : sp_init2 K C f1 f2 vs H Q E) :
    t_init2 K f1 f2 txt (EndsQ Q) (sN 3 vs) H := by
  obtain ⟨a, w, n, rfl, ha, k⟩ := h
  show t_init2 K f1 f2 txt _ [some (.ref a), some w, some n] H
  refine ⟨_, rfl, a, C, [.str txt], rfl, (by show 1 ≤ 1000; decide), O, ha, ?_⟩
  refine ⟨_, rfl, _, rfl, a, C, rfl, O, n1, .inl ⟨ha, fun dx hd ne => ?_⟩⟩
  refine ⟨_, rfl, _, rfl, a, C, rfl, O, n2, .inr ⟨dx, [(f1, w)], upd_same, ?_, (by show 1 ≤ 900; decide), k dx hd ne⟩⟩
  rw [upd_ne ne]
  exact upd_same
/-- an error class x at C with two fields -/
structure Err2 (P : Program) (w : World) (K : PySem.W.Frag) (mg : Str → Option Value) (base : Heap) (x f1 f2 : Str) (C : Addr) : Prop where
  g : mg x = some (.ref C)
  o : OexC K C
  ini : ∃ fI fd, PySem.W.findIn K (.ref C) "__init__" = some (some (.ref fI)) ∧ PySem.W.typeIn K (.ref fI) = some (.type "function") ∧ FnOk P w K mg base CX0 1 fI fd ["self", f1, f2] (sp_init2 K C f1 f2) ∧ Binds K fd ["self", f1, f2] []
/-- raise x(e, e2) -/
def tRz2 (C : Addr) (f1 f2 : Str) (W : WX) (ta : TA) : TS := fun _ σ H => ta σ H fun vs H1 => ∃ w n, vs = [w, n] ∧ ∀ d, H1 d = none → W (.ref C) (some d) σ (upd H1 d (.xd [(f2, n), (f1, w)]))
theorem ps_rz2 {X : Cx} {x f1 f2 : Str} {C : Addr} {W : WX} {e1 e2 : Expr} {ta : TA} {p pos pos2 : Pos} {j : Nat} (T : Err2 X.prog X.w X.K X.mg X.base x f1 f2 C) (hr : Room j X.A) (hc : X.calm = true) (tk : Takes X W) (hg : Gl X x) (ha : PA X [e1, e2] ta) (hk : 2 ≤ j := by decide)
    (hdb : (x == ("__debug__" : Str)) = false := by decide) (he : starEach (e1 :: [e2]) X.env = (false, eval e1 X.env) :: starEach [e2] X.env := by rfl) (hpl : (backTo pos (starEach [e2] X.env)).any (·.1) = false := by rfl) :
    PS X (.Raise (some (.Call (.Name x p) [e1, e2] [] pos)) none pos2) (tRz2 C f1 f2 W ta) := by
  obtain ⟨fI, fd, iC, tI, F, hb⟩ := T.ini
  have R := ps_raise (pos := pos2) hc tk (pmk_oex (p := p) (pos := pos) T.o iC tI F (hr.mono hk) hb .nil pass0 hg T.g (pa_up ha) hdb he hpl)
  refine ⟨fun pins s σ H D I h => R.run pins s σ H D I ⟨_, h, fun vs H1 q => ?_⟩⟩
  obtain ⟨w, n, rfl, q⟩ := q
  refine ⟨by show 2 ≤ 1000; decide, fun a ha1 => ⟨a, w, n, rfl, upd_same, fun dx hd ne => ⟨rfl, dx, [(f2, n), (f1, w)], ?_, upd_same, ?_, ?_⟩⟩⟩
  · rw [upd_ne (Ne.symm ne), upd_same]
  · rw [upd_ne ne] at hd
    exact hd
  · have hd1 : H1 dx = none := by
      rw [upd_ne ne] at hd
      exact hd
    have ef : upd (del (upd (upd (upd (upd H1 a (exo a C none)) dx (exd dx [(f1, w)])) a (exo a C (some dx))) dx (exd dx [(f2, n), (f1, w)])) a) dx (.xd [(f2, n), (f1, w)]) = upd H1 dx (.xd [(f2, n), (f1, w)]) := by
      funext b
      by_cases h1 : b = dx
      · rw [h1, upd_same, upd_same]
      · rw [upd_ne h1, upd_ne h1]
        by_cases h2 : b = a
        · rw [h2, del_same, ha1]
        · rw [del_ne h2, upd_ne h1, upd_ne h2, upd_ne h1, upd_ne h2]
    rw [ef]
    exact q dx hd1
/-! ### calls of defs that may raise -/
abbrev CalX (P : Program) (w : World) (K : PySem.W.Frag) (mg : Str → Option Value) (base : Heap) (k : Nat) (x : Str) (ps : List Str) (sp : Sp) : Prop := Cal P w K mg base (L2.CX P w) k x ps sp
theorem pe_calX {X : Cx} {k j : Nat} {x : Str} {ps : List Str} {sp : Sp} {W : WX} {E : XK} {e : Expr} {es : List Expr} {t : TA} {p pos : Pos} (C : CalX X.prog X.w X.K X.mg X.base k x ps sp) (hr : Room j X.A) (tk : Takes X W) (hW : ∀ cls d σ H, E cls d H → W cls d σ H) (hg : Gl X x) (ha : PA X (e :: es) t) (hk : k ≤ j := by decide)
    (hdb : (x == ("__debug__" : Str)) = false := by decide) (he : starEach (e :: es) X.env = (false, eval e X.env) :: starEach es X.env := by rfl) (hpl : (backTo pos (starEach es X.env)).any (·.1) = false := by rfl) :
    PE X (.Call (.Name x p) (e :: es) [] pos) (tCall sp [] E t) := by
  obtain ⟨f, fd, G, m, kp, b⟩ := C.ex
  exact pe_call G (hr.mono hk) hg m kp b .nil (passes_call tk hW) ha hdb he hpl
/-- .. in the body of a try -/
theorem pe_calT {X : Cx} {k j : Nat} {x : Str} {ps : List Str} {sp : Sp} {W : WX} {e : Expr} {es : List Expr} {t : TA} {p pos : Pos} (C : CalX X.prog X.w X.K X.mg X.base k x ps sp) (hr : Room j X.A) (tk : Takes X W) (hg : Gl X x) (ha : PA X (e :: es) t) (hk : k ≤ j := by decide)
    (hdb : (x == ("__debug__" : Str)) = false := by decide) (he : starEach (e :: es) X.env = (false, eval e X.env) :: starEach es X.env := by rfl) (hpl : (backTo pos (starEach es X.env)).any (·.1) = false := by rfl) :
    PE X (.Call (.Name x p) (e :: es) [] pos) (tCallS sp (WE W) t) := by
  obtain ⟨f, fd, G, m, kp, b⟩ := C.ex
  exact pe_callS G (hr.mono hk) hg m kp b (fun σ => passAt tk σ) ha hdb he hpl
/-! ### isinstance of the caught error, its fields told -/
structure IsC (K : PySem.W.Frag) (C : Addr) : Prop where
  cl : (PySem.W.clsIn K C).isSome = true
  ga : PySem.W.findIn K (.ref C) "__getattribute__" = some (some (.builtin "BaseException.__getattribute__"))
  gg : PySem.W.findIn K (.ref C) "__getattr__" = some none
  su : PySem.W.subIn K (.ref C) (.type "BaseException") = some true
  ha : PySem.W.findIn K (.ref C) "__class__" = some (some (.builtin "object.__class__"))
  hn : PySem.W.specialIn K (.builtin "object.__class__") "__get__" = some (some (.builtin "getset_descriptor.__get__"))
  ht : PySem.W.takesIn K (.builtin "object.__class__") = some true
  hm : PySem.W.mroIn K C (.type "object") = some true
def rIsX (K : PySem.W.Frag) (a : Addr) (cls : Value) (d : Option Addr) : List V → Hp → VK → Prop := fun xs H Q => ∃ (C dd : Addr) (fs : List (Str × V)) (c : V) (b : Bool), cls = .ref C ∧ IsC K C ∧ d = some dd ∧ H dd = some (.xd fs) ∧
  ((∃ u, xs = [.ref a, c] ∧ ClsV c u ∧ PySem.W.kitOne K (.ref C) u = some b) ∨ ∃ tp cs us, xs = [.ref a, .ref tp] ∧ H tp = some (.tup cs) ∧ Paired ClsV cs us ∧ PySem.W.kitAny K (.ref C) us = some b) ∧ Q (.bl b) H
theorem call_isX {X : Cx} {a : Addr} {cls : Value} {d : Option Addr} {oe : Obj} {pn : List (Addr × Obj)} (hz : Zc cls d oe) (hf : ∃ vs, oe.data = .fields vs) : CallR (X.suite a ((a, oe) :: pn)) (.builtin "isinstance") (rIsX X.K a cls d) := by
  intro pins s σ H xs us Q I r h
  obtain ⟨C, dd, fs, c, b, rfl, T, rfl, hdd, alt, q⟩ := h
  obtain ⟨ha, _⟩ := I.pin (a, oe) (List.mem_append_left _ List.mem_cons_self)
  obtain ⟨vs, hd⟩ := hf
  have hx : ObjOk X.prog X.w H s.heap dd (.xd fs) := I.hok dd _ hdd
  obtain ⟨mA, hns, hr⟩ := hx
  obtain ⟨od, ho, hl⟩ := lookIn_ns hns
  have J : PySem.W.InstAt s.heap a oe C (some od) := ⟨ha, hz.1, by unfold PySem.W.notCls; rw [hd] <;> rfl, by rw [hz.2]; exact ho⟩
  have Z := PySem.W.kitx_exc (x := a) (ox := oe) (od := some od) T.cl T.ga T.gg T.su T.ha T.hn T.ht T.hm
  rcases alt with ⟨u, rfl, kc, e⟩ | ⟨tp, cs, ws, rfl, hT, kc, e⟩
  · obtain ⟨u1, u2, rfl, r1, r2⟩ := vals2 r
    cases (show u1 = Value.ref a from r1)
    have e2 := kc.eq r2
    subst e2
    exact PySem.W.kia_one Z I.kIn J e (fun z => nomatch z) fun tk => ⟨.bl b, H, I.tok tk, rfl, q⟩
  · obtain ⟨u1, u2, rfl, r1, r2⟩ := vals2 r
    cases (show u1 = Value.ref a from r1)
    cases (show u2 = Value.ref tp from r2)
    obtain ⟨_, its, rv, o, h1, h2, n, h3⟩ := (show ObjOk X.prog X.w H s.heap tp (.tup cs) from I.hok tp _ hT)
    have e3 := ClsV.all kc rv
    subst e3
    obtain ⟨oc, odd, dt, sl⟩ := o
    simp only at h2 h3
    subst h2 h3
    exact PySem.W.kia_tup Z I.kIn J h1 e (fun z => nomatch z) fun tk => ⟨.bl b, H, I.tok tk, rfl, q⟩
end Wf

/-! By value: what a def does, told of data alone. Things that never change are data; a list of one's own is told by its items, by the slot that holds it. -/
namespace Pv
open PySem PySem.Spec L2 Wf
/-- what stands and stays below a def, and the tables of code -/
structure Bas where
  hp : Hp
  ht : Hp
  T : List NdefX.NTab
/-- tables of code grow -/
structure TbG (T : List NdefX.NTab) (H H' : Hp) : Prop where
  ts : NdefX.TabsN T H → NdefX.TabsN T H'
  st : ∀ a ps, H a = some (.tbl ps) → ∃ qs, H' a = some (.tbl qs)
theorem TbG.refl {T : List NdefX.NTab} {H : Hp} : TbG T H H := ⟨fun h => h, fun _ ps h => ⟨ps, h⟩⟩
theorem TbG.trans {T : List NdefX.NTab} {H H1 H2 : Hp} (a : TbG T H H1) (b : TbG T H1 H2) : TbG T H H2 := ⟨fun h => b.ts (a.ts h), fun x ps h => by
  obtain ⟨qs, h1⟩ := a.st x ps h
  exact b.st x qs h1⟩
theorem TbG.same {T : List NdefX.NTab} {H H' : Hp} (s : Same H H') : TbG T H H' := ⟨fun t => t.ext s, fun _ ps h => ⟨ps, s _ _ h⟩⟩
instance : CoeFun Bas fun _ => Hp := ⟨Bas.hp⟩
variable {B : Bas} {T : List NdefX.NTab}
/-! ### data: None, truths, numbers, texts, tuples, lists that change no more -/
mutual
inductive Dq (K : PySem.W.Frag) (G : Hp) : V → PyData → Prop
  | non : Dq K G .non .none
  | bl (b : Bool) : Dq K G (.bl b) (.bool b)
  | int (i : Int) : Dq K G (.int i) (.int i)
  | str (x : Str) : Dq K G (.str x) (.str x)
  | lst {a : Addr} {xs : List V} {ds : List PyData} : G a = some (.lst xs) → DqAll K G xs ds → Dq K G (.ref a) (.list ds)
  | tup {a : Addr} {xs : List V} {ds : List PyData} : SqT K G a xs → DqAll K G xs ds → Dq K G (.ref a) (.tuple ds)
inductive DqAll (K : PySem.W.Frag) (G : Hp) : List V → List PyData → Prop
  | nil : DqAll K G [] []
  | cons {v : V} {vs : List V} {d : PyData} {ds : List PyData} : Dq K G v d → DqAll K G vs ds → DqAll K G (v :: vs) (d :: ds)
end
/-- an error's fields -/
inductive Fl (K : PySem.W.Frag) (G : Hp) : List (Str × V) → List (Str × PyData) → Prop
  | nil : Fl K G [] []
  | cons {x : Str} {v : V} {d : PyData} {us : List (Str × V)} {fs : List (Str × PyData)} : Dq K G v d → Fl K G us fs → Fl K G ((x, v) :: us) ((x, d) :: fs)
/-- a lambda that holds nothing: its name, parameters, body, scope, where its code object stands -/
structure LF where
  qual : Str
  params : Arguments
  body : Expr
  scope : Scope
  c : Addr
def LamO (f : Addr) (F : LF) : HO := .ext fun h => ∃ pm ctv : Value, h.get? f = some (PySem.W.kla_obj "<lambda>" F.qual F.params F.body F.scope [] pm F.c ctv)
theorem lamO_ne {f : Addr} {F : LF} (ps : Array Value) : LamO f F ≠ .tbl ps := fun z => by
  unfold LamO at z
  cases z
/-- a thing of one's own: a list of data, the dict of draws, the script; a tuple whose object is known; a lambda; a dict by tuples of numbers -/
inductive O where
  | lst (ds : List PyData)
  | deal
  | scr (ns : List Int)
  | ptl (ds : List PyData)
  | lam (F : LF)
  | dic (ks : List (List Int)) (ds : List PyData)
def dicK (ks : List (List Int)) (us : List V) : List (List Key × V) := (ks.map fun k => k.map Sum.inl).zip us
/-- what a slot holds: not known; data; a thing of one's own (pin: a parameter's, the slot is not stored to); a caught error -/
inductive Sl where
  | un
  | im (d : PyData)
  | ow (pin : Bool) (o : O)
  | ex (a dd C : Addr) (fs : List (Str × PyData))
/-- what an expression gives: data; a new thing of one's own; what slot i holds -/
inductive R where
  | im (d : PyData)
  | ow (o : O)
  | at (i : Nat)
section
variable (K : PySem.W.Frag)
def RO (G H : Hp) (m : Addr → Prop) (v : V) : O → Prop
  | .lst ds => ∃ a us, v = .ref a ∧ m a ∧ H a = some (.lst us) ∧ DqAll K G us ds
  | .deal => ∃ d l, v = .ref d ∧ m d ∧ m l ∧ Deal H d l
  | .scr ns => ∃ a, v = .ref a ∧ ((∃ o, m a ∧ H a = some (.frz o (.lst (ns.map V.int)))) ∨ ∀ H1, SqL K H1 a (ns.map V.int))
  | .ptl ds => ∃ p o us, v = .ref p ∧ G p = some (.frz o (.tup us)) ∧ o.cls = .type "tuple" ∧ o.dict = none ∧ DqAll K G us ds
  | .lam F => ∃ f, v = .ref f ∧ G f = some (LamO f F) ∧ G F.c = some (LamX.CodeO F.c F.qual)
  | .dic ks ds => ∃ a us, v = .ref a ∧ m a ∧ H a = some (.dT (dicK ks us)) ∧ us.length = ks.length ∧ DqAll K G us ds
def SlR (G H : Hp) (m : Addr → Prop) (o : Option (Option V)) : Sl → Prop
  | .un => True
  | .im d => ∃ v, o = some (some v) ∧ Dq K G v d
  | .ow _ ob => ∃ v, o = some (some v) ∧ RO K G H m v ob
  | .ex a dd _ fs => o = some (some (.ref a)) ∧ ∃ us, G dd = some (.xd us) ∧ Fl K G us fs
def RR (G H : Hp) (σ : St) (m : Addr → Prop) (v : V) : R → Prop
  | .im d => Dq K G v d
  | .ow o => RO K G H m v o
  | .at i => σ[i]? = some (some v)
/-- no table of code -/
def NT (o : HO) : Prop := ∀ ps, o ≠ .tbl ps
/-- a thing that nobody owns: a tuple, a code object, a lambda -/
def RdX (H : Hp) (a : Addr) : Option (List V) → Prop
  | some xs => Rd H a (.tup xs)
  | none => ∃ φ, H a = some (.ext φ)
def NoX (H : Hp) (a : Addr) : Prop := ∀ xs, ¬ RdX H a xs
theorem NoX.t {H : Hp} {a : Addr} (n : NoX H a) : NoT H a := fun xs => n (some xs)
theorem RdX.same {H H' : Hp} {a : Addr} {o : HO} (e : H a = some o) (e2 : H' a = some o) : ∀ {xs : Option (List V)}, RdX H' a xs → RdX H a xs
  | some xs, z => by
    rcases z with z | ⟨ob, z⟩
    · rw [e2] at z; cases z; exact .inl e
    · rw [e2] at z; cases z; exact .inr ⟨ob, e⟩
  | none, ⟨φ, z⟩ => ⟨φ, by rw [e2] at z; rw [e, z]⟩
theorem NoX.same {H H' : Hp} {a : Addr} {o : HO} (e : H a = some o) (e2 : H' a = some o) (n : NoX H a) : NoX H' a := fun xs z => n xs (RdX.same e e2 z)
theorem NoX.of {H : Hp} {a : Addr} {o : HO} (e : H a = some o) (n1 : ∀ xs, o ≠ .tup xs) (n2 : ∀ ob xs, o ≠ .frz ob (.tup xs)) (n3 : ∀ φ, o ≠ .ext φ) : NoX H a
  | some xs, z => by
    rcases z with z | ⟨ob, z⟩
    · rw [e] at z; cases z; exact n1 _ rfl
    · rw [e] at z; cases z; exact n2 _ _ rfl
  | none, ⟨φ, z⟩ => by rw [e] at z; cases z; exact n3 _ rfl
theorem NoX.tbl {H : Hp} {a : Addr} {ps : Array Value} (e : H a = some (.tbl ps)) : NoX H a := NoX.of e (fun _ z => by cases z) (fun _ _ z => by cases z) fun _ z => by cases z
theorem NoX.lst {H : Hp} {a : Addr} {ps : List V} (e : H a = some (.lst ps)) : NoX H a := NoX.of e (fun _ z => by cases z) (fun _ _ z => by cases z) fun _ z => by cases z
theorem RdX.upd {H : Hp} {a p : Addr} {o : HO} (h : a ≠ p) : ∀ {xs : Option (List V)}, RdX (upd H p o) a xs → RdX H a xs
  | some xs, z => by
    rcases z with z | ⟨ob, z⟩
    · rw [upd_ne h] at z; exact .inl z
    · rw [upd_ne h] at z; exact .inr ⟨ob, z⟩
  | none, ⟨φ, z⟩ => ⟨φ, by rw [upd_ne h] at z; exact z⟩
theorem RdX.ne {H : Hp} {a : Addr} : ∀ {xs : Option (List V)}, RdX H a xs → H a ≠ none
  | some xs, z, e => by
    rcases z with z | ⟨ob, z⟩ <;> · rw [e] at z; cases z
  | none, ⟨φ, z⟩, e => by rw [e] at z; cases z
structure BsOk (B : Bas) (G H : Hp) (w : Addr → Option Nat) : Prop where
  to : ∀ a o, B a = some o → H a = some o ∧ w a = none ∧ NT o
  tt : TbG B.T B.ht H
  ta : NdefX.TabsN B.T B.ht
  gt : ∀ a ps, G a ≠ some (.tbl ps)
/-- G: what never changes any more; w: whose an address is (2 i: slot i's, 2 j + 1: value j's) -/
structure Rep (B : Bas) (G H : Hp) (σ : St) (δ : List Sl) (vs : List V) (rs : List R) (w : Addr → Option Nat) : Prop where
  sub : Same G H
  out : ∀ a i, w a = some i → G a = none ∧ H a ≠ none ∧ NoX H a
  len : σ.length = δ.length
  sl : ∀ i s, δ[i]? = some s → SlR K G H (fun a => w a = some (2 * i)) σ[i]? s
  tlen : vs.length = rs.length
  tm : ∀ j v r, vs[j]? = some v → rs[j]? = some r → RR K G H σ (fun a => w a = some (2 * j + 1)) v r
  bs : BsOk B G H w
end
def Pn (δ δ' : List Sl) : Prop := ∀ (i : Nat) (o : O), δ[i]? = some (Sl.ow true o) → ∃ o', δ'[i]? = some (Sl.ow true o')
/-- a step: what is public stays so, what is not ours stays as it is, but tables of code -/
structure Stp (T : List NdefX.NTab) (G H : Hp) (w : Addr → Option Nat) (δ : List Sl) (G' H' : Hp) (w' : Addr → Option Nat) (δ' : List Sl) : Prop where
  g : Same G G'
  b : ∀ a o, w a = none → H a = some o → H' a = some o ∨ ∃ ps qs, o = .tbl ps ∧ H' a = some (.tbl qs)
  n : ∀ a i, w' a = some i → w a ≠ none ∨ H a = none
  p : ∀ a o, G' a = some o → G a = some o ∨ H a = none ∨ w a ≠ none ∨ ∃ xs, RdX H a xs
  pn : Pn δ δ'
  t : TbG T H H'
  q : ∀ a ps, G' a = some (.tbl ps) → G a = some (.tbl ps)
/-- a step that leaves the tables as they are -/
structure StpO (G H : Hp) (w : Addr → Option Nat) (δ : List Sl) (G' H' : Hp) (w' : Addr → Option Nat) (δ' : List Sl) : Prop where
  g : Same G G'
  b : ∀ a o, w a = none → H a = some o → H' a = some o
  n : ∀ a i, w' a = some i → w a ≠ none ∨ H a = none
  p : ∀ a o, G' a = some o → G a = some o ∨ H a = none ∨ w a ≠ none ∨ ∃ xs, RdX H a xs
  pn : Pn δ δ'
theorem w_stay {H : Hp} {w w' : Addr → Option Nat} (n : ∀ a i, w' a = some i → w a ≠ none ∨ H a = none) {a : Addr} {o : HO} (h1 : w a = none) (h2 : H a = some o) : w' a = none := by
  cases e : w' a with
  | none => rfl
  | some i =>
    rcases n a i e with z | z
    · exact absurd h1 z
    · rw [h2] at z; cases z
theorem Stp.of {G H G' H' : Hp} {w w' : Addr → Option Nat} {δ δ' : List Sl} (s : StpO G H w δ G' H' w' δ') (t : TbG T H H' := by exact TbG.refl) (q : ∀ a ps, G' a = some (.tbl ps) → G a = some (.tbl ps) := by exact fun _ _ h => h) : Stp T G H w δ G' H' w' δ' :=
  ⟨s.g, fun a o h1 h2 => .inl (s.b a o h1 h2), s.n, s.p, s.pn, t, q⟩
theorem q_new {G : Hp} {p : Addr} {o : HO} (n : NT o) : ∀ a ps, upd G p o a = some (.tbl ps) → G a = some (.tbl ps) := fun a ps h => by
  by_cases e : a = p
  · subst e; rw [upd_same] at h; cases h; exact absurd rfl (n ps)
  · rwa [upd_ne e] at h
theorem tabs_new {H : Hp} {p : Addr} {o : HO} (h : H p = none) : TbG T H (upd H p o) := .same (same_new h)
theorem tabs_put {H : Hp} {D : Addr} {xs ys : List V} (h : H D = some (.lst xs)) : TbG T H (upd H D (.lst ys)) := ⟨fun t p hp => by
  obtain ⟨ps, h1, h2, h3⟩ := t p hp
  refine ⟨ps, by rw [upd_ne (fun z => by rw [z, h] at h1; cases h1)]; exact h1, h2, fun pos cv hc => ?_⟩
  obtain ⟨c, e1, e2⟩ := h3 pos cv hc
  exact ⟨c, e1, by rw [upd_ne (fun z => by rw [z, h] at e2; cases e2)]; exact e2⟩, fun a ps e => ⟨ps, by rw [upd_ne (fun z => by rw [z, h] at e; cases e)]; exact e⟩⟩
theorem Stp.bN {G H G' H' : Hp} {w w' : Addr → Option Nat} {δ δ' : List Sl} (s : Stp T G H w δ G' H' w' δ') (a : Addr) (o : HO) (hn : NT o) (hw : w a = none) (h : H a = some o) : H' a = some o := by
  rcases s.b a o hw h with z | ⟨ps, _, z, _⟩
  · exact z
  · exact absurd z (hn ps)
theorem Stp.nn {G H G' H' : Hp} {w w' : Addr → Option Nat} {δ δ' : List Sl} (s : Stp T G H w δ G' H' w' δ') (a : Addr) (hw : w a = none) (h : H a ≠ none) (t : NoX H a) : H' a ≠ none ∧ NoX H' a := by
  cases e : H a with
  | none => exact absurd e h
  | some o =>
    rcases s.b a o hw e with z | ⟨ps, qs, _, z⟩
    · exact ⟨by rw [z]; exact Option.some_ne_none _, t.same e z⟩
    · exact ⟨by rw [z]; exact Option.some_ne_none _, NoX.tbl z⟩
theorem Pn.refl (δ : List Sl) : Pn δ δ := fun _ o h => ⟨o, h⟩
theorem Pn.trans {a b c : List Sl} (x : Pn a b) (y : Pn b c) : Pn a c := fun i o h => by
  obtain ⟨o1, h1⟩ := x i o h
  exact y i o1 h1
theorem Stp.refl {G H : Hp} {w : Addr → Option Nat} {δ : List Sl} : Stp T G H w δ G H w δ :=
  .of ⟨fun _ _ h => h, fun _ _ _ h => h, fun a i h => .inl (by rw [h]; exact Option.some_ne_none _), fun _ _ h => .inl h, .refl _⟩
theorem Stp.bs {G H G' H' : Hp} {w w' : Addr → Option Nat} {δ δ' : List Sl} (s : Stp B.T G H w δ G' H' w' δ') (h : BsOk B G H w) : BsOk B G' H' w' :=
  ⟨fun a o hb => by
    obtain ⟨h1, h2, h3⟩ := h.to a o hb
    exact ⟨s.bN a o h3 h2 h1, w_stay s.n h2 h1, h3⟩, h.tt.trans s.t, h.ta, fun a ps e => h.gt a ps (s.q a ps e)⟩
theorem Stp.trans {G H G1 H1 G2 H2 : Hp} {w w1 w2 : Addr → Option Nat} {δ δ1 δ2 : List Sl} (a : Stp T G H w δ G1 H1 w1 δ1) (b : Stp T G1 H1 w1 δ1 G2 H2 w2 δ2) : Stp T G H w δ G2 H2 w2 δ2 := by
  have no : ∀ x o, w x = none → H x = some o → w1 x = none := fun x o h1 h2 => by
    cases e : w1 x with
    | none => rfl
    | some i =>
      rcases a.n x i e with z | z
      · exact absurd h1 z
      · rw [h2] at z; cases z
  have none1 : ∀ x, H1 x = none → w x ≠ none ∨ H x = none := fun x h => by
    cases e : w x with
    | some i => exact .inl (Option.some_ne_none _)
    | none =>
      cases e2 : H x with
      | none => exact .inr rfl
      | some o =>
        rcases a.b x o e e2 with z | ⟨_, _, _, z⟩ <;> · rw [z] at h; cases h
  have w1n : ∀ x, w1 x ≠ none → w x ≠ none ∨ H x = none := fun x h => by
    cases e : w1 x with
    | none => exact absurd e h
    | some i => exact a.n x i e
  refine ⟨fun x o h => b.g x o (a.g x o h), fun x o h1 h2 => ?_, fun x i h => ?_, fun x o h => ?_, a.pn.trans b.pn, a.t.trans b.t, fun x ps h => a.q x ps (b.q x ps h)⟩
  · rcases a.b x o h1 h2 with z | ⟨ps, qs, z1, z2⟩
    · exact b.b x o (no x o h1 h2) z
    · rcases b.b x _ (no x o h1 h2) z2 with y | ⟨_, rs, _, y⟩
      · exact .inr ⟨ps, qs, z1, y⟩
      · exact .inr ⟨ps, rs, z1, y⟩
  · rcases b.n x i h with z | z
    · exact w1n x z
    · exact none1 x z
  · rcases b.p x o h with z | z | z | ⟨xs, z⟩
    · exact a.p x o z
    · rcases none1 x z with q | q
      · exact .inr (.inr (.inl q))
      · exact .inr (.inl q)
    · rcases w1n x z with q | q
      · exact .inr (.inr (.inl q))
      · exact .inr (.inl q)
    · cases e : w x with
      | some i => exact .inr (.inr (.inl (Option.some_ne_none _)))
      | none =>
        cases e2 : H x with
        | none => exact .inr (.inl rfl)
        | some u =>
          refine .inr (.inr (.inr ⟨xs, ?_⟩))
          rcases a.b x u e e2 with e3 | ⟨_, _, _, e3⟩
          · exact RdX.same e2 e3 z
          · exact absurd z (NoX.tbl e3 xs)
/-! ### data stays -/
mutual
theorem dp_mono {K : PySem.W.Frag} {G G' : Hp} (s : Same G G') : ∀ (d : PyData) (v : V), Dq K G v d → Dq K G' v d
  | .none, _, h => by cases h; exact .non
  | .bool b, _, h => by cases h; exact .bl b
  | .int i, _, h => by cases h; exact .int i
  | .str x, _, h => by cases h; exact .str x
  | .dict _, _, h => by cases h
  | .list ds, _, h => by
    cases h with
    | lst hs ha =>
      exact .lst (s _ _ hs) (dpAll_mono s ds _ ha)
  | .tuple ds, _, h => by
    cases h with
    | tup hs ha => exact .tup (Same.tp s _ _ hs) (dpAll_mono s ds _ ha)
theorem dpAll_mono {K : PySem.W.Frag} {G G' : Hp} (s : Same G G') : ∀ (ds : List PyData) (vs : List V), DqAll K G vs ds → DqAll K G' vs ds
  | [], _, h => by cases h; exact .nil
  | d :: ds, _, h => by
    cases h with
    | cons h1 h2 => exact .cons (dp_mono s d _ h1) (dpAll_mono s ds _ h2)
end
theorem Fl.mono {K : PySem.W.Frag} {G G' : Hp} (s : Same G G') : ∀ {us : List (Str × V)} {fs : List (Str × PyData)}, Fl K G us fs → Fl K G' us fs
  | _, _, .nil => .nil
  | _, _, .cons h1 h2 => .cons (dp_mono s _ _ h1) (Fl.mono s h2)
theorem RO.monoN {K : PySem.W.Frag} {G G' H H' : Hp} {m m' : Addr → Prop} {v : V} {o : O} (s : Same G G') (hh : ∀ a u, NT u → m a → H a = some u → H' a = some u) (hm : ∀ a u, m a → H a = some u → m' a) (h : RO K G H m v o) : RO K G' H' m' v o := by
  cases o with
  | lst ds =>
    obtain ⟨a, us, e, ma, ha, hd⟩ := h
    exact ⟨a, us, e, hm a _ ma ha, hh a _ nofun ma ha, dpAll_mono s _ _ hd⟩
  | deal =>
    obtain ⟨d, l, e, md, ml, hd⟩ := h
    obtain ⟨z1, z2, z3, z4, h1, h2, h3⟩ := hd.ex
    exact ⟨d, l, e, hm d _ md h1, hm l _ ml h2, z1, z2, z3, z4, hh d _ nofun md h1, hh l _ nofun ml h2, h3⟩
  | scr ns =>
    obtain ⟨a, e, ⟨o, ma, h⟩ | h⟩ := h
    · exact ⟨a, e, .inl ⟨o, hm a _ ma h, hh a _ nofun ma h⟩⟩
    · exact ⟨a, e, .inr h⟩
  | ptl ds =>
    obtain ⟨p, o, us, e, hp, h1, h2, hd⟩ := h
    exact ⟨p, o, us, e, s _ _ hp, h1, h2, dpAll_mono s _ _ hd⟩
  | lam F =>
    obtain ⟨f, e, h1, h2⟩ := h
    exact ⟨f, e, s _ _ h1, s _ _ h2⟩
  | dic ks ds =>
    obtain ⟨a, us, e, ma, ha, hl, hd⟩ := h
    exact ⟨a, us, e, hm a _ ma ha, hh a _ nofun ma ha, hl, dpAll_mono s _ _ hd⟩
theorem RO.mono {K : PySem.W.Frag} {G G' H H' : Hp} {m m' : Addr → Prop} {v : V} {o : O} (s : Same G G') (hh : ∀ a u, m a → H a = some u → H' a = some u) (hm : ∀ a u, m a → H a = some u → m' a) (h : RO K G H m v o) : RO K G' H' m' v o := h.monoN s (fun a u _ => hh a u) hm
theorem SlR.mono {K : PySem.W.Frag} {G G' H H' : Hp} {m m' : Addr → Prop} {o : Option (Option V)} {s : Sl} (g : Same G G') (hh : ∀ a u, m a → H a = some u → H' a = some u) (hm : ∀ a u, m a → H a = some u → m' a) (h : SlR K G H m o s) : SlR K G' H' m' o s := by
  cases s with
  | un => trivial
  | im d =>
    obtain ⟨v, e, h⟩ := h
    exact ⟨v, e, dp_mono g d v h⟩
  | ow p ob =>
    obtain ⟨v, e, h⟩ := h
    exact ⟨v, e, h.mono g hh hm⟩
  | ex a dd C fs =>
    obtain ⟨e, us, h1, h2⟩ := h
    exact ⟨e, us, g _ _ h1, h2.mono g⟩
theorem RR.mono {K : PySem.W.Frag} {G G' H H' : Hp} {σ : St} {m m' : Addr → Prop} {v : V} {r : R} (g : Same G G') (hh : ∀ a u, m a → H a = some u → H' a = some u) (hm : ∀ a u, m a → H a = some u → m' a) (h : RR K G H σ m v r) : RR K G' H' σ m' v r := by
  cases r with
  | im d => exact dp_mono g d v h
  | ow ob => exact RO.mono g hh hm h
  | «at» i => exact h
theorem RR.monoN {K : PySem.W.Frag} {G G' H H' : Hp} {σ : St} {m m' : Addr → Prop} {v : V} {r : R} (g : Same G G') (hh : ∀ a u, NT u → m a → H a = some u → H' a = some u) (hm : ∀ a u, m a → H a = some u → m' a) (h : RR K G H σ m v r) : RR K G' H' σ m' v r := by
  cases r with
  | im d => exact dp_mono g d v h
  | ow ob => exact RO.monoN g hh hm h
  | «at» i => exact h
theorem SlR.monoN {K : PySem.W.Frag} {G G' H H' : Hp} {m m' : Addr → Prop} {o : Option (Option V)} {s : Sl} (g : Same G G') (hh : ∀ a u, NT u → m a → H a = some u → H' a = some u) (hm : ∀ a u, m a → H a = some u → m' a) (h : SlR K G H m o s) : SlR K G' H' m' o s := by
  cases s with
  | un => trivial
  | im d =>
    obtain ⟨v, e, h⟩ := h
    exact ⟨v, e, dp_mono g d v h⟩
  | ow p ob =>
    obtain ⟨v, e, h⟩ := h
    exact ⟨v, e, h.monoN g hh hm⟩
  | ex a dd C fs =>
    obtain ⟨e, us, h1, h2⟩ := h
    exact ⟨e, us, g _ _ h1, h2.mono g⟩
/-! ### the frame: values that wait -/
def evn : Option Nat → Option Nat
  | some n => if n % 2 = 0 then some n else none
  | none => none
theorem evn_some {o : Option Nat} {n : Nat} : evn o = some n ↔ o = some n ∧ n % 2 = 0 := by
  cases o with
  | none => simp [evn]
  | some m =>
    unfold evn
    dsimp only
    split
    · constructor
      · intro h; cases h; exact ⟨rfl, by assumption⟩
      · rintro ⟨h, _⟩; exact h
    · constructor
      · intro h; cases h
      · rintro ⟨h, h2⟩; cases h; exact absurd h2 (by assumption)
theorem evn_ne {o : Option Nat} (h : evn o ≠ none) : o ≠ none := by
  intro e; subst e; exact h rfl
theorem Stp.drop {G H : Hp} {w : Addr → Option Nat} {δ : List Sl} : Stp T G H w δ G H (fun a => evn (w a)) δ :=
  .of ⟨fun _ _ h => h, fun _ _ _ h => h, fun a i h => .inl (by rw [(evn_some.mp h).1]; exact Option.some_ne_none _), fun _ _ h => .inl h, .refl _⟩
theorem Rep.drop {K : PySem.W.Frag} {G H : Hp} {σ : St} {δ : List Sl} {vs : List V} {rs : List R} {w : Addr → Option Nat} (r : Rep K B G H σ δ vs rs w) : Rep K B G H σ δ [] [] fun a => evn (w a) where
  sub := r.sub
  out := fun a i h => r.out a i (evn_some.mp h).1
  len := r.len
  sl := fun i s h => (r.sl i s h).mono (fun _ _ h => h) (fun _ _ _ h => h) fun a u ma _ => evn_some.mpr ⟨ma, by omega⟩
  tlen := rfl
  tm := fun j v r h => by simp at h
  bs := (Stp.drop (T := B.T) (δ := δ)).bs (G := G) r.bs
def shf (k : Nat) : Option Nat → Option Nat
  | some n => if n % 2 = 0 then some n else some (n + 2 * k)
  | none => none
def both (k : Nat) (w w' : Addr → Option Nat) (a : Addr) : Option Nat := match w a with
  | some n => if n % 2 = 0 then shf k (w' a) else some n
  | none => shf k (w' a)
theorem both_odd {k : Nat} {w w' : Addr → Option Nat} {a : Addr} {n : Nat} (h : w a = some n) (ho : n % 2 = 1) : both k w w' a = some n := by
  unfold both; rw [h]; dsimp only; rw [if_neg (by omega)]
theorem both_evn {k : Nat} {w w' : Addr → Option Nat} {a : Addr} (h : ∀ n, w a = some n → n % 2 = 0) : both k w w' a = shf k (w' a) := by
  unfold both
  cases e : w a with
  | none => rfl
  | some n => dsimp only; rw [if_pos (h n e)]
theorem shf_some {k n : Nat} {o : Option Nat} (h : shf k o = some n) : ∃ m, o = some m ∧ n = if m % 2 = 0 then m else m + 2 * k := by
  cases o with
  | none => cases h
  | some m =>
    refine ⟨m, rfl, ?_⟩
    unfold shf at h
    dsimp only at h
    split at h <;> cases h <;> simp [*]
theorem Rep.frame {K : PySem.W.Frag} {G H G' H' : Hp} {σ : St} {δ δ' : List Sl} {vs vs1 : List V} {rs rs1 : List R} {w w' : Addr → Option Nat} (r : Rep K B G H σ δ vs rs w) (s : Stp B.T G H (fun a => evn (w a)) δ G' H' w' δ') (r' : Rep K B G' H' σ δ' vs1 rs1 w') :
    ∃ w2, Stp B.T G H w δ G' H' w2 δ' ∧ Rep K B G' H' σ δ' (vs ++ vs1) (rs ++ rs1) w2 := by
  have odd : ∀ a n, w a = some n → n % 2 = 1 → w' a = none ∧ G' a = none ∧ (H' a ≠ none ∧ NoX H' a) ∧ ∀ u, NT u → H a = some u → H' a = some u := fun a n h ho => by
    have e0 : evn (w a) = none := by
      cases e : evn (w a) with
      | none => rfl
      | some m =>
        have := evn_some.mp e
        rw [h] at this
        have z := this.1
        cases z
        omega
    obtain ⟨g0, h0, n0⟩ := r.out a n h
    refine ⟨?_, ?_, s.nn a e0 h0 n0, fun u hn hu => s.bN a u hn e0 hu⟩
    · cases e : w' a with
      | none => rfl
      | some i =>
        rcases s.n a i e with z | z
        · exact absurd e0 z
        · exact absurd z h0
    · cases e : G' a with
      | none => rfl
      | some o =>
        rcases s.p a o e with z | z | z | ⟨xs, z⟩
        · rw [g0] at z; cases z
        · exact absurd z h0
        · exact absurd e0 z
        · exact absurd z (n0 xs)
  have evw : ∀ a i, w' a = some i → ∀ n, w a = some n → n % 2 = 0 := fun a i h n hn => by
    by_cases ho : n % 2 = 1
    · rw [(odd a n hn ho).1] at h; cases h
    · omega
  have st : Stp B.T G H w δ G' H' (both rs.length w w') δ' := by
    refine ⟨s.g, fun a o hw ha => s.b a o (by show evn (w a) = none; rw [hw]; rfl) ha, fun a i h => ?_, fun a o h => ?_, s.pn, s.t, s.q⟩
    · cases e : w a with
      | some n => exact .inl (Option.some_ne_none _)
      | none =>
        have e1 : both rs.length w w' a = shf rs.length (w' a) := both_evn fun n hn => by rw [e] at hn; cases hn
        rw [e1] at h
        obtain ⟨m, hm, _⟩ := shf_some h
        rcases s.n a m hm with z | z
        · have z' := evn_ne z
          rw [e] at z'
          exact .inl z'
        · exact .inr z
    · rcases s.p a o h with z | z | z | z
      · exact .inl z
      · exact .inr (.inl z)
      · exact .inr (.inr (.inl (evn_ne z)))
      · exact .inr (.inr (.inr z))
  refine ⟨both rs.length w w', st, r'.sub, fun a i h => ?_, r'.len, fun i sl h => ?_, by rw [List.length_append, List.length_append, r.tlen, r'.tlen], fun j v q hv hr => ?_, st.bs r.bs⟩
  · by_cases ho : ∃ n, w a = some n ∧ n % 2 = 1
    · obtain ⟨n, hn, ho⟩ := ho
      obtain ⟨_, g, hh, _⟩ := odd a n hn ho
      exact ⟨g, hh⟩
    · have e1 : both rs.length w w' a = shf rs.length (w' a) := both_evn fun n hn => by
        by_cases z : n % 2 = 1
        · exact absurd ⟨n, hn, z⟩ ho
        · omega
      rw [e1] at h
      obtain ⟨m, hm, _⟩ := shf_some h
      exact r'.out a m hm
  · refine (r'.sl i sl h).mono (fun _ _ h => h) (fun _ _ _ h => h) fun a u ma _ => ?_
    rw [both_evn (evw a _ ma)]
    unfold shf
    rw [ma]
    dsimp only
    rw [if_pos (by omega)]
  · by_cases hj : j < vs.length
    · rw [List.getElem?_append_left hj] at hv
      rw [List.getElem?_append_left (by rw [← r.tlen]; exact hj)] at hr
      exact (r.tm j v q hv hr).monoN s.g (fun a u hn ma hu => (odd a _ ma (by omega)).2.2.2 u hn hu) fun a u ma _ => both_odd ma (by omega)
    · have hj : vs.length ≤ j := by omega
      rw [List.getElem?_append_right hj] at hv
      rw [List.getElem?_append_right (by rw [← r.tlen]; exact hj), ← r.tlen] at hr
      refine (r'.tm (j - vs.length) v q hv hr).mono (fun _ _ h => h) (fun _ _ _ h => h) fun a u ma _ => ?_
      rw [both_evn (evw a _ ma)]
      unfold shf
      rw [ma]
      dsimp only
      rw [if_neg (by omega), r.tlen.symm]
      congr 1
      omega
end Pv

namespace Pv
open PySem PySem.Spec L2 Wf
variable {B : Bas}
/-! ### judgements told of data -/
abbrev QE := R → List Sl → Prop
abbrev PX := List Sl → QE → Prop
abbrev PL := List Sl → (List R → List Sl → Prop) → Prop
abbrev PB := List Sl → (Bool → List Sl → Prop) → Prop
section
variable (K : PySem.W.Frag) (B : Bas)
def LE (p : PX) : TE := fun σ H Q => ∃ G w δ Qp, Rep K B G H σ δ [] [] w ∧ p δ Qp ∧ ∀ r δ' v H' G' w', Qp r δ' → Stp B.T G H w δ G' H' w' δ' → Rep K B G' H' σ δ' [v] [r] w' → Q v H'
def LA (n : Nat) (p : PL) : TA := fun σ H Q => ∃ G w δ Qp, Rep K B G H σ δ [] [] w ∧ p δ Qp ∧ ∀ rs δ' vs H' G' w', Qp rs δ' → rs.length = n → Stp B.T G H w δ G' H' w' δ' → Rep K B G' H' σ δ' vs rs w' → Q vs H'
def LB (p : PB) : TT := fun σ H Q => ∃ G w δ Qp, Rep K B G H σ δ [] [] w ∧ p δ Qp ∧ ∀ b δ' H' G' w', Qp b δ' → Stp B.T G H w δ G' H' w' δ' → Rep K B G' H' σ δ' [] [] w' → Q b H'
end
/-- an operation by values -/
def LC (K : PySem.W.Frag) (q : List R → PX) (r : List V → Hp → VK → Prop) : Prop := ∀ {B : Bas} (G H : Hp) (σ : St) (δ : List Sl) (vs : List V) (rs : List R) (w : Addr → Option Nat) (Qp : QE) (Q : VK), Rep K B G H σ δ vs rs w → q rs δ Qp →
  (∀ r δ' v H' G' w', Qp r δ' → Stp B.T G H w δ G' H' w' δ' → Rep K B G' H' σ δ' [v] [r] w' → Q v H') → r vs H Q
def JE (X : Cx) (B : Bas) (e : Expr) (p : PX) : Prop := PE X e (LE X.K B p)
def JA (X : Cx) (B : Bas) (es : List Expr) (p : PL) : Prop := PA X es (LA X.K B es.length p)
def JB (X : Cx) (B : Bas) (e : Expr) (p : PB) : Prop := PT X e (LB X.K B p)
section
variable {X : Cx}
theorem PE_wk {e : Expr} {t t' : TE} (h : PE X e t) (k : ∀ σ H Q, t' σ H Q → t σ H Q) : PE X e t' := ⟨fun pins s σ H Q I q => h.run pins s σ H Q I (k σ H Q q)⟩
theorem PT_wk {e : Expr} {t t' : TT} (h : PT X e t) (k : ∀ σ H Q, t' σ H Q → t σ H Q) : PT X e t' := ⟨fun pins s σ H Q I q => h.run pins s σ H Q I (k σ H Q q)⟩
theorem PW_wk {e : Expr} {t t' : TT} (h : PW X e t) (k : ∀ σ H Q, t' σ H Q → t σ H Q) : PW X e t' := ⟨fun wh pins s σ H Q I q => h.run wh pins s σ H Q I (k σ H Q q)⟩
theorem PA_wk {es : List Expr} {t t' : TA} (h : PA X es t) (k : ∀ σ H Q, t' σ H Q → t σ H Q) : PA X es t' := ⟨fun pos pins s σ H Q I q => h.run pos pins s σ H Q I (k σ H Q q)⟩
theorem PS_wk {st : Stmt} {t t' : TS} (h : PS X st t) (k : ∀ D σ H, t' D σ H → t D σ H) : PS X st t' := ⟨fun pins s σ H D I q => h.run pins s σ H D I (k D σ H q)⟩
theorem PSs_wk {st : List Stmt} {t t' : TS} (h : PSs X st t) (k : ∀ D σ H, t' D σ H → t D σ H) : PSs X st t' := ⟨fun pins s σ H D I q => h.run pins s σ H D I (k D σ H q)⟩
end
/-! ### results -/
theorem noT_upd {H : Hp} {a p : Addr} {o : HO} (h : a ≠ p) (n : NoX H a) : NoX (upd H p o) a := fun xs z => n xs (RdX.upd h z)
section
variable {K : PySem.W.Frag} {G H : Hp} {σ : St} {δ : List Sl} {vs : List V} {rs : List R} {w : Addr → Option Nat}
/-- data is given, nothing is changed -/
theorem Rep.ret (r : Rep K B G H σ δ vs rs w) {v : V} {d : PyData} (h : Dq K G v d) : Rep K B G H σ δ [v] [.im d] fun a => evn (w a) := by
  have r0 := r.drop
  refine ⟨r0.sub, r0.out, r0.len, r0.sl, rfl, fun j u q hu hq => ?_, r0.bs⟩
  match j with
  | 0 =>
    simp only [List.getElem?_cons_zero, Option.some.injEq] at hu hq
    subst hu hq
    exact h
  | j + 1 => simp at hu
theorem Rep.at_ (r : Rep K B G H σ δ vs rs w) {i : Nat} {v : V} (h : σ[i]? = some (some v)) : Rep K B G H σ δ [v] [.at i] fun a => evn (w a) := by
  have r0 := r.drop
  refine ⟨r0.sub, r0.out, r0.len, r0.sl, rfl, fun j u q hu hq => ?_, r0.bs⟩
  match j with
  | 0 =>
    simp only [List.getElem?_cons_zero, Option.some.injEq] at hu hq
    subst hu hq
    exact h
  | j + 1 => simp at hu
/-- a new thing that never changes -/
theorem Rep.retNew (r : Rep K B G H σ δ vs rs w) {p : Addr} {o : HO} {d : PyData} (hp : H p = none) (h : Dq K (upd G p o) (.ref p) d) (hn : NT o := by exact nofun) :
    Stp B.T G H w δ (upd G p o) (upd H p o) (fun a => evn (w a)) δ ∧ Rep K B (upd G p o) (upd H p o) σ δ [.ref p] [.im d] fun a => evn (w a) := by
  have gp : G p = none := by
    cases e : G p with
    | none => rfl
    | some u => rw [r.sub p u e] at hp; cases hp
  have np : ∀ a i, w a = some i → a ≠ p := fun a i hw z => (r.out a i hw).2.1 (by rw [z]; exact hp)
  have sg : Same G (upd G p o) := same_new gp
  have r0 := r.drop
  have st : Stp B.T G H w δ (upd G p o) (upd H p o) (fun a => evn (w a)) δ := by
    refine .of ⟨sg, fun a u _ ha => by rw [upd_ne (ne_of_none ha hp)]; exact ha, fun a i h => .inl (by rw [(evn_some.mp h).1]; exact Option.some_ne_none _), fun a u ha => ?_, .refl _⟩ (tabs_new hp) (q_new hn)
    by_cases e : a = p
    · subst e; exact .inr (.inl hp)
    · rw [upd_ne e] at ha; exact .inl ha
  refine ⟨st, fun a u ha => ?_, fun a i h => ?_, r0.len, fun i s h => ?_, rfl, fun j u q hu hq => ?_, st.bs r.bs⟩
  · by_cases e : a = p
    · subst e; rw [upd_same] at ha ⊢; exact ha
    · rw [upd_ne e] at ha ⊢; exact r.sub a u ha
  · have h' := (evn_some.mp h).1
    have hne := np a i h'
    have ho := r.out a i h'
    rw [upd_ne hne, upd_ne hne]
    exact ⟨ho.1, ho.2.1, noT_upd hne ho.2.2⟩
  · exact (r0.sl i s h).mono sg (fun a u ma hu => by rw [upd_ne (ne_of_none hu hp)]; exact hu) fun a u ma _ => ma
  · match j with
    | 0 =>
      simp only [List.getElem?_cons_zero, Option.some.injEq] at hu hq
      subst hu hq
      exact h
    | j + 1 => simp at hu
/-- a new list of one's own -/
theorem Rep.retLst (r : Rep K B G H σ δ vs rs w) {p : Addr} {us : List V} {ds : List PyData} (hp : H p = none) (h : DqAll K G us ds) :
    ∃ w', Stp B.T G H w δ G (upd H p (.lst us)) w' δ ∧ Rep K B G (upd H p (.lst us)) σ δ [.ref p] [.ow (.lst ds)] w' := by
  have gp : G p = none := by
    cases e : G p with
    | none => rfl
    | some u => rw [r.sub p u e] at hp; cases hp
  have r0 := r.drop
  have st : Stp B.T G H w δ G (upd H p (.lst us)) (fun a => if a = p then some 1 else evn (w a)) δ := by
    refine .of ⟨fun _ _ h => h, fun a u _ ha => by rw [upd_ne (ne_of_none ha hp)]; exact ha, fun a i h => ?_, fun a u ha => .inl ha, .refl _⟩ (tabs_new hp)
    by_cases e : a = p
    · subst e; exact .inr hp
    · simp only [e, if_false] at h
      exact .inl (by rw [(evn_some.mp h).1]; exact Option.some_ne_none _)
  refine ⟨_, st, fun a u ha => ?_, fun a i h => ?_, r0.len, fun i s h => ?_, rfl, fun j u q hu hq => ?_, st.bs r.bs⟩
  · by_cases e : a = p
    · subst e; rw [gp] at ha; cases ha
    · rw [upd_ne e]; exact r.sub a u ha
  · by_cases e : a = p
    · subst e; rw [upd_same]; exact ⟨gp, Option.some_ne_none _, NoX.lst upd_same⟩
    · simp only [e, if_false] at h
      have ho := r0.out a i h
      rw [upd_ne e]
      exact ⟨ho.1, ho.2.1, noT_upd e ho.2.2⟩
  · refine (r0.sl i s h).mono (fun _ _ h => h) (fun a u ma hu => by rw [upd_ne (ne_of_none hu hp)]; exact hu) fun a u ma hu => ?_
    rw [if_neg (ne_of_none hu hp)]
    exact ma
  · match j with
    | 0 =>
      simp only [List.getElem?_cons_zero, Option.some.injEq] at hu hq
      subst hu hq
      exact ⟨p, us, rfl, by simp, upd_same, h⟩
    | j + 1 => simp at hu
end
/-! ### what is read -/
def dat (δ : List Sl) : R → Option PyData
  | .im d => some d
  | .ow (.lst ds) => some (.list ds)
  | .ow (.ptl ds) => some (.tuple ds)
  | .ow _ => none
  | .at i => match δ[i]? with
    | some (.im d) => some d
    | some (.ow _ (.lst ds)) => some (.list ds)
    | some (.ow _ (.ptl ds)) => some (.tuple ds)
    | _ => none
section
variable {K : PySem.W.Frag} {G H : Hp} {σ : St} {δ : List Sl} {vs : List V} {rs : List R} {w : Addr → Option Nat}
mutual
theorem dq_dp (s : Same G H) : ∀ (d : PyData) (v : V), Dq K G v d → Dp K H v d
  | .none, _, h => by cases h; exact .non
  | .bool b, _, h => by cases h; exact .bl b
  | .int i, _, h => by cases h; exact .int i
  | .str x, _, h => by cases h; exact .str x
  | .dict _, _, h => by cases h
  | .list ds, _, h => by
    cases h with
    | lst hs ha => exact .lst (SqL.of (s _ _ hs)) (dqAll_dp s ds _ ha)
  | .tuple ds, _, h => by
    cases h with
    | tup hs ha => exact .tup (Same.tp s _ _ hs) (dqAll_dp s ds _ ha)
theorem dqAll_dp (s : Same G H) : ∀ (ds : List PyData) (vs : List V), DqAll K G vs ds → DpAll K H vs ds
  | [], _, h => by cases h; exact .nil
  | d :: ds, _, h => by
    cases h with
    | cons h1 h2 => exact .cons (dq_dp s d _ h1) (dqAll_dp s ds _ h2)
end
/-- what is to be read of a value -/
def Vw (K : PySem.W.Frag) (G H : Hp) (v : V) (d : PyData) : Prop := Dq K G v d ∨ ∃ a us ds, v = .ref a ∧ H a = some (.lst us) ∧ DqAll K G us ds ∧ d = .list ds
theorem ptl_dq {K : PySem.W.Frag} {G : Hp} {v : V} {ds : List PyData} (h : ∃ p o us, v = .ref p ∧ G p = some (.frz o (.tup us)) ∧ o.cls = .type "tuple" ∧ o.dict = none ∧ DqAll K G us ds) : Dq K G v (.tuple ds) := by
  obtain ⟨p, o, us, rfl, hp, _, _, hd⟩ := h
  exact .tup (.inl (.inr ⟨o, hp⟩)) hd
/-- what a value is: data, public; or a list, its items public -/
theorem Rep.dat (r : Rep K B G H σ δ vs rs w) {j : Nat} {v : V} {q : R} {d : PyData} (hv : vs[j]? = some v) (hq : rs[j]? = some q) (hd : dat δ q = some d) :
    Dq K G v d ∨ ∃ a us ds, v = .ref a ∧ H a = some (.lst us) ∧ DqAll K G us ds ∧ d = .list ds := by
  have t := r.tm j v q hv hq
  cases q with
  | im d' => cases hd; exact .inl t
  | ow o =>
    cases o with
    | lst ds =>
      cases hd
      obtain ⟨a, us, e, _, ha, hds⟩ := t
      exact .inr ⟨a, us, ds, e, ha, hds, rfl⟩
    | deal => cases hd
    | scr ns => cases hd
    | ptl ds => cases hd; exact .inl (ptl_dq t)
    | lam F => cases hd
    | dic ks ds => cases hd
  | «at» i =>
    have t' : σ[i]? = some (some v) := t
    simp only [Pv.dat] at hd
    revert hd
    split
    · rename_i d' e
      intro hd; cases hd
      obtain ⟨u, hu, hd'⟩ := r.sl i _ e
      rw [t'] at hu
      cases hu
      exact .inl hd'
    · rename_i b ds e
      intro hd; cases hd
      obtain ⟨u, hu, a, us, e1, _, ha, hds⟩ := r.sl i _ e
      rw [t'] at hu
      cases hu
      exact .inr ⟨a, us, ds, e1, ha, hds, rfl⟩
    · rename_i b ds e
      intro hd; cases hd
      obtain ⟨u, hu, t2⟩ := r.sl i _ e
      rw [t'] at hu
      cases hu
      exact .inl (ptl_dq t2)
    · intro hd; cases hd
theorem Vw.dp {v : V} {d : PyData} (s : Same G H) (h : Vw K G H v d) : Dp K H v d := by
  rcases h with h | ⟨a, us, ds, rfl, ha, hds, rfl⟩
  · exact dq_dp s _ _ h
  · exact .lst (SqL.of ha) (dqAll_dp s _ _ hds)
theorem Vw.seqL {v : V} {ds : List PyData} (s : Same G H) (h : Vw K G H v (.list ds)) : ∃ a us, v = .ref a ∧ H a = some (.lst us) ∧ DqAll K G us ds := by
  rcases h with h | ⟨a, us, ds', rfl, ha, hds, e⟩
  · cases h with
    | lst hs ha => exact ⟨_, _, rfl, s _ _ hs, ha⟩
  · cases e
    exact ⟨a, us, rfl, ha, hds⟩
theorem Vw.seqT {v : V} {ds : List PyData} (s : Same G H) (h : Vw K G H v (.tuple ds)) : ∃ a us, v = .ref a ∧ SqT K H a us ∧ DqAll K G us ds ∧ Dq K G v (.tuple ds) := by
  rcases h with h | ⟨a, us, ds', rfl, ha, hds, e⟩
  · cases h with
    | tup hs ha => exact ⟨_, _, rfl, Same.tp s _ _ hs, ha, .tup hs ha⟩
  · cases e
theorem Vw.int {v : V} {i : Int} (h : Vw K G H v (.int i)) : v = .int i := by
  rcases h with h | ⟨a, us, ds', rfl, ha, hds, e⟩
  · cases h; rfl
  · cases e
theorem Vw.bool {v : V} {i : Bool} (h : Vw K G H v (.bool i)) : v = .bl i := by
  rcases h with h | ⟨a, us, ds', rfl, ha, hds, e⟩
  · cases h; rfl
  · cases e
theorem Vw.str {v : V} {i : Str} (h : Vw K G H v (.str i)) : v = .str i := by
  rcases h with h | ⟨a, us, ds', rfl, ha, hds, e⟩
  · cases h; rfl
  · cases e
theorem Rep.dpH (r : Rep K B G H σ δ vs rs w) {j : Nat} {v : V} {q : R} {d : PyData} (hv : vs[j]? = some v) (hq : rs[j]? = some q) (hd : Pv.dat δ q = some d) : Dp K H v d := Vw.dp r.sub (r.dat hv hq hd)
end
/-! ### names, constants, arguments -/
def pVar (i : Nat) : PX := fun δ Q => match δ[i]? with
  | some (.im d) => Q (.im d) δ
  | some (.ow _ _) => Q (.at i) δ
  | _ => False
def pK (d : PyData) : PX := fun δ Q => Q (.im d) δ
def pNil : PL := fun δ Q => Q [] δ
def pCons (p : PX) (ps : PL) : PL := fun δ Q => p δ fun r δ1 => ps δ1 fun rs δ2 => Q (r :: rs) δ2
/-- an operation over values that are there -/
def pC (q : List R → PX) (ps : PL) : PX := fun δ Q => ps δ fun rs δ1 => q rs δ1 Q
section
variable {X : Cx}
theorem je_var {i : Nat} {x : Str} {pos : Pos} (hN : X.N[i]? = some x) (hv : Vis X.env.scope x) (hd : (x == ("__debug__" : Str)) = false := by decide) (hcd : (x == ("__classdict__" : Str)) = false := by decide) : JE X B (.Name x pos) (pVar i) := by
  refine PE_wk (pe_var (i := i) hN hv hd hcd) fun σ H Q ⟨G, w, δ, Qp, rep, h, k⟩ => ?_
  unfold pVar at h
  revert h
  split
  · rename_i d e
    intro h
    obtain ⟨v, hv, hd⟩ := rep.sl i _ e
    exact ⟨v, hv, k _ _ v H G _ h .drop (rep.ret hd)⟩
  · rename_i b o e
    intro h
    obtain ⟨v, hv, hd⟩ := rep.sl i _ e
    exact ⟨v, hv, k _ _ v H G _ h .drop (rep.at_ hv)⟩
  · intro h; exact h.elim
theorem je_c {e : Expr} {v : V} {d : PyData} (h : PE X e (tC v)) (hd : ∀ G, Dq X.K G v d) : JE X B e (pK d) :=
  PE_wk h fun σ H Q ⟨G, w, δ, Qp, rep, q, k⟩ => k _ _ v H G _ q .drop (rep.ret (hd G))
theorem je_int {i j pos} : JE X B (.Constant (.int i) j pos) (pK (.int i)) := je_c pe_int fun _ => .int i
theorem je_bl {b j pos} : JE X B (.Constant (.bool b) j pos) (pK (.bool b)) := je_c pe_bl fun _ => .bl b
theorem je_non {j pos} : JE X B (.Constant .none j pos) (pK .none) := je_c pe_non fun _ => .non
theorem je_str {x j pos} : JE X B (.Constant (.str x) j pos) (pK (.str x)) := je_c pe_str fun _ => .str x
theorem je_gi {x : Str} {n : Int} {pos : Pos} (h : ∃ t, X.mg x = some (.int n t)) (hg : Gl X x) (hd : (x == ("__debug__" : Str)) = false := by decide) : JE X B (.Name x pos) (pK (.int n)) := by
  obtain ⟨t, h⟩ := h
  exact je_c (pe_glob (v := .int n) hg h ⟨t, rfl⟩ hd) fun _ => .int n
theorem ja_nil : JA X B [] pNil := PA_wk pa_nil fun σ H Q ⟨G, w, δ, Qp, rep, q, k⟩ => k [] δ [] H G _ q rfl .drop rep.drop
theorem ja_cons {e : Expr} {es : List Expr} {p : PX} {ps : PL} (h : JE X B e p) (hs : JA X B es ps) (he : starEach (e :: es) X.env = (false, eval e X.env) :: starEach es X.env := by rfl) : JA X B (e :: es) (pCons p ps) := by
  refine PA_wk (pa_cons h hs he) fun σ H Q ⟨G, w, δ, Qp, rep, q, k⟩ => ?_
  refine ⟨G, w, δ, _, rep, q, fun r δ1 v H1 G1 w1 q1 s1 rep1 => ?_⟩
  refine ⟨G1, _, δ1, _, rep1.drop, q1, fun rs δ2 vs H2 G2 w2 q2 l2 s2 rep2 => ?_⟩
  obtain ⟨w3, s3, rep3⟩ := rep1.frame s2 rep2
  exact k _ δ2 _ H2 G2 w3 q2 (congrArg (· + 1) l2) (s1.trans s3) rep3
/-- a binary operator -/
def ap2 (r : R2) : List V → Hp → VK → Prop
  | [x, y], H, Q => r x y H Q
  | _, _, _ => False
def ap1 (r : V → Hp → VK → Prop) : List V → Hp → VK → Prop
  | [x], H, Q => r x H Q
  | _, _, _ => False
theorem lc_two {a b : PX} {q : List R → PX} {r : R2} {σ : St} {H : Hp} {Q : VK} (hl : LC X.K q (ap2 r)) (h : LE X.K B (pC q (pCons a (pCons b pNil))) σ H Q) : LE X.K B a σ H fun x H1 => LE X.K B b σ H1 fun y H2 => r x y H2 Q := by
  obtain ⟨G, w, δ, Qp, rep, q, k⟩ := h
  refine ⟨G, w, δ, _, rep, q, fun ra δ1 x H1 G1 w1 q1 s1 rep1 => ?_⟩
  refine ⟨G1, _, δ1, _, rep1.drop, q1, fun rb δ2 y H2 G2 w2 q2 s2 rep2 => ?_⟩
  obtain ⟨w3, s3, rep3⟩ := rep1.frame s2 rep2
  exact hl G2 H2 σ δ2 [x, y] [ra, rb] w3 Qp Q rep3 q2 fun r δ' v H' G' w' hq hs hr => k r δ' v H' G' w' hq ((s1.trans s3).trans hs) hr
theorem je_op {a b : Expr} {op : Operator} {pos : Pos} {pa pb : PX} {q : List R → PX} {r : R2} (ho : OpR X (binaryOp op) r) (hl : LC X.K q (ap2 r)) (ha : JE X B a pa) (hb : JE X B b pb) : JE X B (.BinOp a op b pos) (pC q (pCons pa (pCons pb pNil))) :=
  PE_wk (pe_op ho ha hb) fun σ H Q h => lc_two hl h
theorem je_cmp {a b : Expr} {op : CmpOp} {pos : Pos} {pa pb : PX} {q : List R → PX} {r : R2} (ho : OpR X (compareOp op) r) (hl : LC X.K q (ap2 r)) (ha : JE X B a pa) (hb : JE X B b pb) (hm : behindInMarks op b = false) : JE X B (.Compare a [op] [b] pos) (pC q (pCons pa (pCons pb pNil))) :=
  PE_wk (pe_cmpR ho ha hb hm) fun σ H Q h => lc_two hl h
theorem je_un {a : Expr} {op : UnaryOp} {pos : Pos} {pa : PX} {q : List R → PX} {r : V → Hp → VK → Prop} (ho : UnR X (unaryOp op) r) (hl : LC X.K q (ap1 r)) (ha : JE X B a pa) : JE X B (.UnaryOp op a pos) (pC q (pCons pa pNil)) :=
  PE_wk (pe_un ho ha) fun σ H Q ⟨G, w, δ, Qp, rep, q, k⟩ => ⟨G, w, δ, _, rep, q, fun ra δ1 x H1 G1 w1 q1 s1 rep1 =>
    hl G1 H1 σ δ1 [x] [ra] w1 Qp Q rep1 q1 fun r δ' v H' G' w' hq hs hr => k r δ' v H' G' w' hq (s1.trans hs) hr⟩
theorem lc_args {n : Nat} {ps : PL} {q : List R → PX} {r : List V → Hp → VK → Prop} {σ : St} {H : Hp} {Q : VK} (hl : LC X.K q r) (h : LE X.K B (pC q ps) σ H Q) : tCB r (LA X.K B n ps) σ H Q := by
  obtain ⟨G, w, δ, Qp, rep, q, k⟩ := h
  exact ⟨G, w, δ, _, rep, q, fun rs δ1 vs H1 G1 w1 q1 _ s1 rep1 => hl G1 H1 σ δ1 vs rs w1 Qp Q rep1 q1 fun r δ' v H' G' w' hq hs hr => k r δ' v H' G' w' hq (s1.trans hs) hr⟩
/-- a constant's place taken by values in one's hand -/
theorem je_wk {e : Expr} {p p' : PX} (h : JE X B e p) (k : ∀ δ Q, p' δ Q → p δ Q) : JE X B e p' :=
  PE_wk h fun σ H Q ⟨G, w, δ, Qp, rep, q, kk⟩ => ⟨G, w, δ, Qp, rep, k δ Qp q, kk⟩
/-! ### tests -/
def pT (p : PX) : PB := fun δ Q => p δ fun r δ1 => ∃ b, dat δ1 r = some (.bool b) ∧ Q b δ1
theorem dp_bool {K : PySem.W.Frag} {H : Hp} {v : V} {b : Bool} (h : Dp K H v (.bool b)) : v = .bl b := by cases h; rfl
theorem jb_val {e : Expr} {p : PX} (h : JE X B e p) (he : ∀ whole, isTrue e X.env whole = (do let v ← whole; standAt e.pos; holding [v] (truthy v)) := by intro _; rfl) : JB X B e (pT p) := by
  refine PT_wk (pt_val h he) fun σ H Q ⟨G, w, δ, Qp, rep, q, k⟩ => ?_
  refine ⟨G, w, δ, _, rep, q, fun r δ1 v H1 G1 w1 q1 s1 rep1 => ?_⟩
  obtain ⟨b, hd, q1⟩ := q1
  exact ⟨b, dp_bool (rep1.dpH (j := 0) rfl rfl hd), k b δ1 H1 G1 _ q1 (s1.trans .drop) rep1.drop⟩
theorem jb_cmp {a b : Expr} {op : CmpOp} {pos : Pos} {pa pb : PX} {q : List R → PX} {r : R2} (ho : OpR X (compareOp op) r) (hl : LC X.K q (ap2 r)) (ha : JE X B a pa) (hb : JE X B b pb) (hm : behindInMarks op b = false) : JB X B (.Compare a [op] [b] pos) (pT (pC q (pCons pa (pCons pb pNil)))) := by
  refine PT_wk (pt_cmpR ho ha hb hm) fun σ H Q ⟨G, w, δ, Qp, rep, q, k⟩ => ?_
  refine lc_two hl ⟨G, w, δ, _, rep, q, fun r δ1 v H1 G1 w1 q1 s1 rep1 => ?_⟩
  obtain ⟨b, hd, q1⟩ := q1
  exact ⟨b, dp_bool (rep1.dpH (j := 0) rfl rfl hd), k b δ1 H1 G1 _ q1 (s1.trans .drop) rep1.drop⟩
def pAnd (p q : PB) : PB := fun δ Q => p δ fun b δ1 => if b = true then q δ1 Q else Q false δ1
def pOr (p q : PB) : PB := fun δ Q => p δ fun b δ1 => if b = true then Q true δ1 else q δ1 Q
def pNot (p : PB) : PB := fun δ Q => p δ fun b δ1 => Q (!b) δ1
def JW (X : Cx) (B : Bas) (e : Expr) (p : PB) : Prop := PW X e (LB X.K B p)
theorem jw_pt {e : Expr} {p : PB} (h : JW X B e p) : JB X B e p := PW.pt h
theorem jw_and1 {a : Expr} {pos : Pos} {p : PB} (h : JB X B a p) : JW X B (.BoolOp .And [a] pos) p := pw_and1 h
theorem jw_or1 {a : Expr} {pos : Pos} {p : PB} (h : JB X B a p) : JW X B (.BoolOp .Or [a] pos) p := pw_or1 h
theorem jw_and {a b : Expr} {rest : List Expr} {pos : Pos} {p q : PB} (ha : JB X B a p) (hb : JW X B (.BoolOp .And (b :: rest) pos) q) : JW X B (.BoolOp .And (a :: b :: rest) pos) (pAnd p q) := by
  refine PW_wk (pw_and ha hb) fun σ H Q ⟨G, w, δ, Qp, rep, h, k⟩ => ?_
  refine ⟨G, w, δ, _, rep, h, fun b δ1 H1 G1 w1 q1 s1 rep1 => ?_⟩
  cases b with
  | true => exact ⟨G1, w1, δ1, Qp, rep1, q1, fun b δ2 H2 G2 w2 q2 s2 rep2 => k b δ2 H2 G2 w2 q2 (s1.trans s2) rep2⟩
  | false => exact k false δ1 H1 G1 w1 q1 s1 rep1
theorem jw_or {a b : Expr} {rest : List Expr} {pos : Pos} {p q : PB} (ha : JB X B a p) (hb : JW X B (.BoolOp .Or (b :: rest) pos) q) : JW X B (.BoolOp .Or (a :: b :: rest) pos) (pOr p q) := by
  refine PW_wk (pw_or ha hb) fun σ H Q ⟨G, w, δ, Qp, rep, h, k⟩ => ?_
  refine ⟨G, w, δ, _, rep, h, fun b δ1 H1 G1 w1 q1 s1 rep1 => ?_⟩
  cases b with
  | false => exact ⟨G1, w1, δ1, Qp, rep1, q1, fun b δ2 H2 G2 w2 q2 s2 rep2 => k b δ2 H2 G2 w2 q2 (s1.trans s2) rep2⟩
  | true => exact k true δ1 H1 G1 w1 q1 s1 rep1
theorem jb_not {a : Expr} {pos : Pos} {p : PB} (h : JB X B a p) : JB X B (.UnaryOp .Not a pos) (pNot p) := by
  refine PT_wk (pt_not h) fun σ H Q ⟨G, w, δ, Qp, rep, h, k⟩ => ?_
  exact ⟨G, w, δ, _, rep, h, fun b δ1 H1 G1 w1 q1 s1 rep1 => k (!b) δ1 H1 G1 w1 q1 s1 rep1⟩
/-- and, or, not as values: truths -/
def pAndV (p q : PX) : PX := fun δ Q => p δ fun r δ1 => ∃ b, dat δ1 r = some (.bool b) ∧ if b = true then q δ1 Q else Q (.im (.bool false)) δ1
def pOrV (p q : PX) : PX := fun δ Q => p δ fun r δ1 => ∃ b, dat δ1 r = some (.bool b) ∧ if b = true then Q (.im (.bool true)) δ1 else q δ1 Q
def pNotV (p : PX) : PX := fun δ Q => p δ fun r δ1 => ∃ b, dat δ1 r = some (.bool b) ∧ Q (.im (.bool (!b))) δ1
theorem LE.go {K : PySem.W.Frag} {q : PX} {σ : St} {G H G1 H1 : Hp} {w w1 : Addr → Option Nat} {δ δ1 : List Sl} {vs : List V} {rs : List R} {Qp : QE} {Q : VK} (s1 : Stp B.T G H w δ G1 H1 w1 δ1) (rep1 : Rep K B G1 H1 σ δ1 vs rs w1) (h : q δ1 Qp)
    (k : ∀ r δ' v H' G' w', Qp r δ' → Stp B.T G H w δ G' H' w' δ' → Rep K B G' H' σ δ' [v] [r] w' → Q v H') : LE K B q σ H1 Q :=
  ⟨G1, _, δ1, Qp, rep1.drop, h, fun r δ2 v H2 G2 w2 q2 s2 rep2 => k r δ2 v H2 G2 w2 q2 ((s1.trans .drop).trans s2) rep2⟩
theorem je_one {op} {a : Expr} {pos : Pos} {p : PX} (h : JE X B a p) : JE X B (.BoolOp op [a] pos) p := pe_one h
theorem je_and {a b : Expr} {rest : List Expr} {pos : Pos} {p q : PX} (ha : JE X B a p) (hb : JE X B (.BoolOp .And (b :: rest) pos) q) : JE X B (.BoolOp .And (a :: b :: rest) pos) (pAndV p q) := by
  refine PE_wk (pe_and ha hb) fun σ H Q ⟨G, w, δ, Qp, rep, h, k⟩ => ?_
  refine ⟨G, w, δ, _, rep, h, fun r δ1 v H1 G1 w1 q1 s1 rep1 => ?_⟩
  obtain ⟨b, hd, q1⟩ := q1
  refine ⟨b, dp_bool (rep1.dpH (j := 0) rfl rfl hd), ?_⟩
  cases b with
  | true => exact LE.go s1 rep1 q1 k
  | false => exact k _ δ1 _ H1 G1 _ q1 (s1.trans .drop) (rep1.ret (.bl false))
theorem je_or {a b : Expr} {rest : List Expr} {pos : Pos} {p q : PX} (ha : JE X B a p) (hb : JE X B (.BoolOp .Or (b :: rest) pos) q) : JE X B (.BoolOp .Or (a :: b :: rest) pos) (pOrV p q) := by
  refine PE_wk (pe_or ha hb) fun σ H Q ⟨G, w, δ, Qp, rep, h, k⟩ => ?_
  refine ⟨G, w, δ, _, rep, h, fun r δ1 v H1 G1 w1 q1 s1 rep1 => ?_⟩
  obtain ⟨b, hd, q1⟩ := q1
  refine ⟨b, dp_bool (rep1.dpH (j := 0) rfl rfl hd), ?_⟩
  cases b with
  | false => exact LE.go s1 rep1 q1 k
  | true => exact k _ δ1 _ H1 G1 _ q1 (s1.trans .drop) (rep1.ret (.bl true))
theorem je_not {a : Expr} {pos : Pos} {p : PX} (h : JE X B a p) : JE X B (.UnaryOp .Not a pos) (pNotV p) := by
  refine PE_wk (pe_not h) fun σ H Q ⟨G, w, δ, Qp, rep, h, k⟩ => ?_
  refine ⟨G, w, δ, _, rep, h, fun r δ1 v H1 G1 w1 q1 s1 rep1 => ?_⟩
  obtain ⟨b, hd, q1⟩ := q1
  exact ⟨b, dp_bool (rep1.dpH (j := 0) rfl rfl hd), k _ δ1 _ H1 G1 _ q1 (s1.trans .drop) (rep1.ret (.bl _))⟩
def pIfE (c : PB) (a b : PX) : PX := fun δ Q => c δ fun t δ1 => if t = true then a δ1 Q else b δ1 Q
theorem je_ifExp {c a b : Expr} {pos : Pos} {pc : PB} {pa pb : PX} (hc : JB X B c pc) (ha : JE X B a pa) (hb : JE X B b pb) : JE X B (.IfExp c a b pos) (pIfE pc pa pb) := by
  refine PE_wk (pe_ifExp hc ha hb) fun σ H Q ⟨G, w, δ, Qp, rep, h, k⟩ => ?_
  refine ⟨G, w, δ, _, rep, h, fun t δ1 H1 G1 w1 q1 s1 rep1 => ?_⟩
  cases t with
  | true => exact LE.go s1 rep1 q1 k
  | false => exact LE.go s1 rep1 q1 k
end
end Pv

/-! Books looked at: what is amiss, first of all. -/
namespace Wf
open PySem PySem.Spec L2
def isB : PyData → Bool
  | .bool _ => true
  | _ => false
def isI : PyData → Bool
  | .int _ => true
  | _ => false
def isT : PyData → Bool
  | .tuple _ => true
  | _ => false
theorem kb_bool {d : PyData} (n : noL d = true) : kitB (tyN d) "bool" = some (isB d) := by
  cases d with
  | none => decide +kernel
  | bool b => show kitB "bool" _ = some true; decide +kernel
  | int b => show kitB "int" _ = some false; decide +kernel
  | str b => show kitB "str" _ = some false; decide +kernel
  | tuple b => show kitB "tuple" _ = some false; decide +kernel
  | list b => exact nomatch n
  | dict b => exact nomatch n
theorem kb_int {d : PyData} (n : noL d = true) : kitB (tyN d) "int" = some (isB d || isI d) := by
  cases d with
  | none => decide +kernel
  | bool b => show kitB "bool" _ = some true; decide +kernel
  | int b => show kitB "int" _ = some true; decide +kernel
  | str b => show kitB "str" _ = some false; decide +kernel
  | tuple b => show kitB "tuple" _ = some false; decide +kernel
  | list b => exact nomatch n
  | dict b => exact nomatch n
theorem kb_tup {d : PyData} (n : noL d = true) : kitB (tyN d) "tuple" = some (isT d) := by
  cases d with
  | none => decide +kernel
  | bool b => show kitB "bool" _ = some false; decide +kernel
  | int b => show kitB "int" _ = some false; decide +kernel
  | str b => show kitB "str" _ = some false; decide +kernel
  | tuple b => show kitB "tuple" _ = some true; decide +kernel
  | list b => exact nomatch n
  | dict b => exact nomatch n
/-! ### what is asked -/
def isWh (lo hi : Int) : PyData → Bool
  | .int i => decide (lo ≤ i) && decide (i ≤ hi)
  | _ => false
def isTu (n : Int) : PyData → Bool
  | .tuple ds => decide ((ds.length : Int) = n)
  | _ => false
def isPr (s : Int) : PyData → Bool
  | .tuple [a, b] => isWh 0 (s - 1) a && isWh 0 (s - 1) b
  | _ => false
/-- the first pace that is amiss -/
def amissP : Int → Nat → List PyData → Option Nat
  | _, _, [] => none
  | lo, k, .int i :: ds => if (decide (lo ≤ i) && decide (i ≤ 1000)) = true then amissP (i + 1) (k + 1) ds else some k
  | _, k, _ :: _ => some k
def paceA : PyData → Option Nat
  | .tuple ds => if 1 ≤ ds.length ∧ ds.length ≤ 5 then amissP (-1000) 0 ds else some 0
  | _ => some 0
/-- the first pair that is amiss -/
def amissT (s : Int) : Nat → List PyData → Option Nat
  | _, [] => none
  | n, d :: ds => if isPr s d = true then amissT s (n + 1) ds else some n
def tableA (s : Int) (k : Nat) : PyData → Option (Str × Int)
  | .tuple ds => if (ds.length : Int) = s * s then (amissT s 0 ds).map fun n => (("pair" : Str), (k : Int) * (s * s) + n) else some ("table", (k : Int))
  | _ => some ("table", (k : Int))
def amissB (s : Int) : Nat → List PyData → Option (Str × Int)
  | _, [] => none
  | k, d :: ds => match tableA s k d with
    | some a => some a
    | none => amissB s (k + 1) ds
def tabsA (m s : Int) : PyData → Option (Str × Int)
  | .tuple ts => if (ts.length : Int) = nT m then amissB s 0 ts else some ("tables", 0)
  | _ => some ("tables", 0)
def lenD : PyData → Int
  | .tuple ds => ds.length
  | _ => 0
def bookA : PyData → Option (Str × Int)
  | .tuple [p, s, t] => match paceA p with
    | some k => some ("paces", (k : Int))
    | none => match s with
      | .int s' => if (decide (1 ≤ s') && decide (s' ≤ 6)) = true then tabsA (lenD p) s' t else some ("sorts", 0)
      | _ => some ("sorts", 0)
  | _ => some ("form", 0)
section
variable {K : PySem.W.Frag}
/-! ### is_whole, is_tuple_of, tables_due, is_pair -/
def sp_iswh (K : PySem.W.Frag) : Sp := fun vs H Q _ => ∃ (v : V) (d : PyData) (lo hi : Int), vs = [v, .int lo, .int hi] ∧ Dp K H v d ∧ noL d = true ∧ Q (.bl (isWh lo hi d)) H
def sp_isnum (K : PySem.W.Frag) : Sp := fun vs H Q _ => ∃ (v : V) (d : PyData), vs = [v] ∧ Dp K H v d ∧ noL d = true ∧ Q (.bl (isI d)) H
def t_is_number (K : PySem.W.Frag) : TS :=
  tRet (tAndV (tCB (rIsi K) (tCons (tVar 0) (tCons (tC (.ty "int")) (tNil)))) (tNotV (tCB (rIsi K) (tCons (tVar 0) (tCons (tC (.ty "bool")) (tNil))))))
theorem pure_isnum (vs : List V) (H : Hp) (Q : VK) (E : XK) (h : sp_isnum K vs H Q E) : t_is_number K (EndsQ Q) (sN 1 vs) H := by
  obtain ⟨v, d, rfl, hd, n, k⟩ := h
  show t_is_number K _ [some v] H
  refine cb_isi rfl n hd (kb_int n) ⟨_, rfl, ?_⟩
  cases d with
  | bool b => exact cb_isi rfl n hd (kb_bool n) ⟨_, rfl, k⟩
  | int i => exact cb_isi rfl n hd (kb_bool n) ⟨_, rfl, k⟩
  | none => exact k
  | str x => exact k
  | tuple x => exact k
  | list x => exact nomatch n
  | dict x => exact nomatch n
def t_is_whole (K : PySem.W.Frag) (sp_is_number : Sp) : TS :=
  tRet (tAndV (tCall sp_is_number [] E0 (tCons (tVar 0) (tNil))) (tChain qLe qLe (tVar 1) (tVar 0) (tVar 2)))
theorem pure_iswh (vs : List V) (H : Hp) (Q : VK) (E : XK) (h : sp_iswh K vs H Q E) : t_is_whole K (sp_isnum K) (EndsQ Q) (sN 3 vs) H := by
  obtain ⟨v, d, lo, hi, rfl, hd, n, k⟩ := h
  show t_is_whole K _ _ [some v, some (.int lo), some (.int hi)] H
  refine ⟨_, rfl, v, d, rfl, hd, n, _, rfl, ?_⟩
  cases d with
  | bool b => exact k
  | int i =>
    cases hd
    refine ⟨_, rfl, _, rfl, _, _, rfl, rfl, _, rfl, ?_⟩
    refine ifd (fun c => ?_) (fun c => ?_)
    · refine ⟨_, rfl, _, _, rfl, rfl, ?_⟩
      have e : isWh lo hi (.int i) = decide (i ≤ hi) := by simp [isWh, c]
      rw [e] at k
      exact k
    · have e : isWh lo hi (.int i) = false := by simp [isWh, c]
      rw [e] at k
      exact k
  | none => exact k
  | str x => exact k
  | tuple x => exact k
  | list x => exact nomatch n
  | dict x => exact nomatch n
def sp_istu (K : PySem.W.Frag) : Sp := fun vs H Q _ => ∃ (v : V) (d : PyData) (m : Int), vs = [v, .int m] ∧ Dp K H v d ∧ noL d = true ∧ Q (.bl (isTu m d)) H
def t_is_tuple_of (K : PySem.W.Frag) : TS :=
  tRet (tAndV (tCB (rIsi K) (tCons (tVar 0) (tCons (tC (.ty "tuple")) (tNil)))) (tOp rEq (tCB (qLen K) (tCons (tVar 0) (tNil))) (tVar 1)))
theorem pure_istu (vs : List V) (H : Hp) (Q : VK) (E : XK) (h : sp_istu K vs H Q E) : t_is_tuple_of K (EndsQ Q) (sN 2 vs) H := by
  obtain ⟨v, d, m, rfl, hd, n, k⟩ := h
  show t_is_tuple_of K _ [some v, some (.int m)] H
  refine cb_isi rfl n hd (kb_tup n) ⟨_, rfl, ?_⟩
  cases d with
  | tuple ds =>
    obtain ⟨a, xs, rfl, hs, ha⟩ := dp_tup hd
    have ll := DpAll.len ha
    refine ⟨_, rfl, _, xs.length, rfl, .inr ⟨_, hs, rfl⟩, _, rfl, rfl, ?_⟩
    have e : isTu m (.tuple ds) = decide (V.int (xs.length : Int) = V.int m) := by
      show decide ((ds.length : Int) = m) = _
      rw [ll]
      by_cases c : (ds.length : Int) = m
      · rw [decide_eq_true c, decide_eq_true (by rw [c])]
      · rw [decide_eq_false c, decide_eq_false (fun z => c (by injection z))]
    rw [e] at k
    exact k
  | bool b => exact k
  | int b => exact k
  | none => exact k
  | str b => exact k
  | list x => exact nomatch n
  | dict x => exact nomatch n
def sp_tdue : Sp := fun vs H Q _ => ∃ m : Int, vs = [.int m] ∧ 0 ≤ m ∧ m ≤ 1000 ∧ Q (.int (nT m)) H
def t_tables_due (K : PySem.W.Frag) : TS :=
  tRet (tOp qFdiv (tOp qMul (tVar 0) (tOp qSub (tVar 0) (tC (.int 1)))) (tC (.int 2)))
theorem pure_tdue (vs : List V) (H : Hp) (Q : VK) (E : XK) (h : sp_tdue vs H Q E) : t_tables_due K (EndsQ Q) (sN 1 vs) H := by
  obtain ⟨m, rfl, m0, m1, k⟩ := h
  show t_tables_due K _ [some (.int m)] H
  exact ⟨_, rfl, _, rfl, _, _, rfl, rfl, _, _, rfl, rfl, .inl ⟨by omega, by omega⟩, _, _, rfl, rfl, ⟨by decide, by decide⟩, k⟩
def sp_ispr (K : PySem.W.Frag) : Sp := fun vs H Q _ => ∃ (v : V) (d : PyData) (s : Int), vs = [v, .int s] ∧ Dp K H v d ∧ noL d = true ∧ Q (.bl (isPr s d)) H
def t_is_pair (K : PySem.W.Frag) (sp_is_tuple_of : Sp) (sp_is_whole : Sp) : TS :=
  tSeq (tIfS (tNot (tB (tCall sp_is_tuple_of [] E0 (tCons (tVar 0) (tCons (tC (.int 2)) (tNil)))))) (tRet (tC (.bl false))) (tNext))
    (tSeq (tAsg (tVar 0) (gTup K 2 (gCons (gName 2) (gCons (gName 3) (gNil)))))
    (tRet (tAndV (tCall sp_is_whole [] E0 (tCons (tVar 2) (tCons (tC (.int 0)) (tCons (tOp qSub (tVar 1) (tC (.int 1))) (tNil))))) (tCall sp_is_whole [] E0 (tCons (tVar 3) (tCons (tC (.int 0)) (tCons (tOp qSub (tVar 1) (tC (.int 1))) (tNil))))))))
theorem pr_of_tu {d : PyData} {s : Int} (h : isTu 2 d = false) : isPr s d = false := by
  match d with
  | .tuple [] => rfl
  | .tuple [_] => rfl
  | .tuple [_, _] => exact absurd h (by simp [isTu])
  | .tuple (_ :: _ :: _ :: _) => rfl
  | .none => rfl
  | .bool _ => rfl
  | .int _ => rfl
  | .str _ => rfl
  | .list _ => rfl
  | .dict _ => rfl
theorem two_of_tu {d : PyData} (h : isTu 2 d = true) : ∃ a b, d = .tuple [a, b] := by
  match d with
  | .tuple [] => exact absurd h (by simp [isTu])
  | .tuple [_] => exact absurd h (by simp [isTu])
  | .tuple [a, b] => exact ⟨a, b, rfl⟩
  | .tuple (_ :: _ :: _ :: _) =>
    simp [isTu] at h
    omega
  | .none => exact nomatch h
  | .bool _ => exact nomatch h
  | .int _ => exact nomatch h
  | .str _ => exact nomatch h
  | .list _ => exact nomatch h
  | .dict _ => exact nomatch h
theorem pure_ispr (vs : List V) (H : Hp) (Q : VK) (E : XK) (h : sp_ispr K vs H Q E) : t_is_pair K (sp_istu K) (sp_iswh K) (EndsQ Q) (sN 4 vs) H := by
  obtain ⟨v, d, s, rfl, hd, n, k⟩ := h
  show t_is_pair K _ _ _ [some v, some (.int s), none, none] H
  refine ⟨_, rfl, v, d, 2, rfl, hd, n, _, rfl, ?_⟩
  cases e : isTu 2 d with
  | false =>
    rw [pr_of_tu e] at k
    exact k
  | true =>
    obtain ⟨a, b, rfl⟩ := two_of_tu e
    obtain ⟨t, xs, rfl, hs, ha⟩ := dp_tup hd
    have n' : (noL a && (noL b && true)) = true := n
    simp only [Bool.and_eq_true, and_true] at n'
    cases ha with
    | cons h1 ha =>
      cases ha with
      | cons h2 ha =>
        cases ha
        rename_i x y
        refine ⟨_, rfl, t, [x, y], rfl, hs, rfl, _, _, rfl, _, _, rfl, rfl, ?_⟩
        refine ⟨_, rfl, _, rfl, _, _, rfl, rfl, x, a, 0, s - 1, rfl, h1, n'.1, _, rfl, ?_⟩
        cases e1 : isWh 0 (s - 1) a with
        | false =>
          have e2 : isPr s (.tuple [a, b]) = false := by simp [isPr, e1]
          rw [e2] at k
          exact k
        | true =>
          have e2 : isPr s (.tuple [a, b]) = isWh 0 (s - 1) b := by simp [isPr, e1]
          rw [e2] at k
          exact ⟨_, rfl, _, rfl, _, _, rfl, rfl, y, b, 0, s - 1, rfl, h2, n'.2, k⟩
end
end Wf

/-! look_table, look_paces, look_book. -/
namespace Wf
open PySem PySem.Spec L2
theorem drop_at {α : Type} {l : List α} {i : Nat} {x : α} (h : l[i]? = some x) : l.drop i = x :: l.drop (i + 1) := by
  obtain ⟨h1, h2⟩ := List.getElem?_eq_some_iff.mp h
  rw [List.drop_eq_getElem_cons h1, h2]
theorem ifn {p A B : Prop} [Decidable p] (h1 : p → B) (h2 : ¬ p → A) : if (!decide p) = true then A else B := by
  by_cases c : p
  · rw [decide_eq_true c]
    exact h1 c
  · rw [decide_eq_false c]
    exact h2 c
theorem drop_end {α : Type} {l : List α} {n : Nat} (h : l.length ≤ n) : l.drop n = [] := List.drop_eq_nil_of_le h
/-- an error of the class at C with these fields leaves -/
def RzE (C : Addr) (H : Hp) (E : XK) (w : Str) (n : Int) : Prop := ∀ (dd : Addr) (H' : Hp), Same H H' → H dd = none → H' dd = some (.xd [("at", .int n), ("word", .str w)]) → E (.ref C) (some dd) H'
theorem RzE.go {C : Addr} {H H1 : Hp} {E : XK} {w : Str} {n : Int} (r : RzE C H E w n) (s : Same H H1) : ∀ dd, H1 dd = none → E (.ref C) (some dd) (upd H1 dd (.xd [("at", .int n), ("word", .str w)])) := fun dd hd =>
  r dd _ (s.trans (same_new hd)) (s.free hd) upd_same
theorem RzE.same {C : Addr} {H H1 : Hp} {E : XK} {w : Str} {n : Int} (r : RzE C H E w n) (s : Same H H1) : RzE C H1 E w n := fun dd H' s' hd he => r dd H' (s.trans s') (s.free hd) he
section
variable {K : PySem.W.Frag} {C : Addr}
def sp_ltab (K : PySem.W.Frag) (C : Addr) : Sp := fun vs H Q E => ∃ (v : V) (d : PyData) (k : Nat) (s : Int), vs = [v, .int (k : Int), .int s] ∧ Dp K H v d ∧ noL d = true ∧ k ≤ 1000 ∧ 1 ≤ s ∧ s ≤ 6 ∧
  (tableA s k d = none → ∀ H', Same H H' → Q .non H') ∧ ∀ w n, tableA s k d = some (w, n) → RzE C H E w n
def t_look_table (K : PySem.W.Frag) (cNoBook : Addr) (E : XK) (sp_is_tuple_of : Sp) (sp_is_pair : Sp) : TS :=
  tSeq (tAsg (tOp qMul (tVar 2) (tVar 2)) (gName 3))
    (tSeq (tIfS (tNot (tB (tCall sp_is_tuple_of [] E0 (tCons (tVar 0) (tCons (tVar 3) (tNil)))))) (tRz2 cNoBook "word" "at" (fun cls d _ H => E cls d H) (tCons (tC (.str "table")) (tCons (tVar 1) (tNil)))) (tNext))
    (tFor (iEnumT K (tCons (tVar 0) (tNil))) (gTup K 2 (gCons (gName 4) (gCons (gName 5) (gNil)))) (tIfS (tNot (tB (tCall sp_is_pair [] E0 (tCons (tVar 5) (tCons (tVar 2) (tNil)))))) (tRz2 cNoBook "word" "at" (fun cls d _ H => E cls d H) (tCons (tC (.str "pair")) (tCons (tOp qAdd (tOp qMul (tVar 1) (tVar 3)) (tVar 4)) (tNil)))) (tNext))))
theorem pure_ltab (vs : List V) (H : Hp) (Q : VK) (E : XK) (h : sp_ltab K C vs H Q E) : t_look_table K C E (sp_istu K) (sp_ispr K) (EndsQ Q) (sN 6 vs) H := by
  obtain ⟨v, d, k, s, rfl, hd, n, k3, s1, s6, kN, kS⟩ := h
  show t_look_table K C E _ _ _ [some v, some (.int (k : Int)), some (.int s), none, none, none] H
  have hss := ss_le s1 s6
  refine ⟨_, rfl, _, rfl, _, _, rfl, rfl, .inl ⟨by omega, by omega⟩, ?_⟩
  refine ⟨_, rfl, _, rfl, v, d, _, rfl, hd, n, _, rfl, ?_⟩
  cases e : isTu (s * s) d with
  | false =>
    have ea : tableA s k d = some (("table" : Str), (k : Int)) := by
      cases d with
      | tuple ds => exact if_neg (of_decide_eq_false (show decide ((ds.length : Int) = s * s) = false from e))
      | _ => rfl
    exact ⟨_, rfl, _, _, rfl, (kS _ _ ea).go (Same.refl H)⟩
  | true =>
    cases d with
    | tuple ds =>
      have el : (ds.length : Int) = s * s := of_decide_eq_true (show decide ((ds.length : Int) = s * s) = true from e)
      have ea : tableA s k (.tuple ds) = (amissT s 0 ds).map fun n => (("pair" : Str), (k : Int) * (s * s) + n) := if_pos el
      obtain ⟨a, xs, rfl, hs, ha⟩ := dp_tup hd
      have lx := DpAll.len ha
      refine ⟨_, rfl, a, xs, rfl, hs, for_enumT (K := K) (a := a) (xs := xs) (fun j σ H1 => ∃ (c4 c5 : Option V), σ = [some (.ref a), some (.int (k : Int)), some (.int s), some (.int (s * s)), c4, c5] ∧ Same H H1 ∧ amissT s j (ds.drop j) = amissT s 0 ds) ?_ ?_ ?_ ?_⟩
      · exact ⟨none, none, rfl, Same.refl H, rfl⟩
      · rintro j σ H1 ⟨_, _, _, sH, _⟩
        exact Same.tp sH _ _ hs
      · rintro j x T σ H1 hx ⟨c4, c5, rfl, sH, ai⟩ hT
        obtain ⟨d', hd', hx'⟩ := DpAll.getV ha hx
        have n' : noL d' = true := noLAll_get n hd'
        have sT := same_new (o := .tup [.int (j : Int), x]) hT
        have sH2 := sH.trans sT
        refine ⟨T, _, rfl, SqT.of upd_same, rfl, _, _, rfl, _, _, rfl, rfl, ?_⟩
        generalize upd H1 T (.tup [.int (j : Int), x]) = H2 at sT sH2
        refine ⟨_, rfl, _, rfl, x, d', s, rfl, Dp.tp (Same.tp sH2) _ _ n' hx', n', _, rfl, ?_⟩
        rw [drop_at hd'] at ai
        have hj : j < ds.length := (List.getElem?_eq_some_iff.mp hd').1
        cases e1 : isPr s d' with
        | false =>
          have e2 : amissT s 0 ds = some j := by
            rw [← ai]
            show (if isPr s d' = true then _ else some j) = some j
            rw [e1]
            rfl
          have e3 := kS ("pair" : Str) ((k : Int) * (s * s) + j) (by rw [ea, e2]; rfl)
          exact ⟨_, rfl, _, rfl, _, _, rfl, rfl, .inl ⟨by omega, by omega⟩, _, rfl, _, _, rfl, rfl, _, _, rfl, e3.go sH2⟩
        | true =>
          refine ⟨_, _, rfl, sH2, ?_⟩
          rw [← ai]
          show _ = (if isPr s d' = true then _ else some j)
          rw [e1]
          rfl
      · rintro σ H1 ⟨_, _, _, sH, ai⟩
        refine kN ?_ H1 sH
        rw [drop_end (by omega)] at ai
        rw [ea, ← ai]
        rfl
    | none => exact nomatch e
    | bool b => exact nomatch e
    | int b => exact nomatch e
    | str b => exact nomatch e
    | list b => exact nomatch e
    | dict b => exact nomatch e
def sp_lpac (K : PySem.W.Frag) (C : Addr) : Sp := fun vs H Q E => ∃ (v : V) (d : PyData), vs = [v] ∧ Dp K H v d ∧ noL d = true ∧
  (paceA d = none → ∀ H', Same H H' → Q .non H') ∧ ∀ k, paceA d = some k → RzE C H E "paces" (k : Int)
def t_look_paces (K : PySem.W.Frag) (cNoBook : Addr) (E : XK) (sp_is_whole : Sp) : TS :=
  tSeq (tIfS (tOr (tNot (tB (tCB (rIsi K) (tCons (tVar 0) (tCons (tC (.ty "tuple")) (tNil)))))) (tNot (tTest (tChain qLe qLe (tC (.int 1)) (tCB (qLen K) (tCons (tVar 0) (tNil))) (tC (.int 5)))))) (tRz2 cNoBook "word" "at" (fun cls d _ H => E cls d H) (tCons (tC (.str "paces")) (tCons (tC (.int 0)) (tNil)))) (tNext))
    (tSeq (tAsg (tUn qNeg (tC (.int 1000))) (gName 1))
    (tFor (iEnumT K (tCons (tVar 0) (tNil))) (gTup K 2 (gCons (gName 2) (gCons (gName 3) (gNil)))) (tSeq (tIfS (tNot (tB (tCall sp_is_whole [] E0 (tCons (tVar 3) (tCons (tVar 1) (tCons (tC (.int 1000)) (tNil))))))) (tRz2 cNoBook "word" "at" (fun cls d _ H => E cls d H) (tCons (tC (.str "paces")) (tCons (tVar 2) (tNil)))) (tNext))
    (tAsg (tOp qAdd (tVar 3) (tC (.int 1))) (gName 1)))))
theorem amissP_no {lo : Int} {k : Nat} {d : PyData} {ds : List PyData} (h : isWh lo 1000 d = false) : amissP lo k (d :: ds) = some k := by
  cases d with
  | int i =>
    show (if (decide (lo ≤ i) && decide (i ≤ 1000)) = true then _ else some k) = _
    rw [show (decide (lo ≤ i) && decide (i ≤ 1000)) = false from h]
    rfl
  | _ => rfl
theorem wh_int {lo hi : Int} {d : PyData} (h : isWh lo hi d = true) : ∃ i, d = .int i ∧ lo ≤ i ∧ i ≤ hi := by
  cases d with
  | int i =>
    have h' : (decide (lo ≤ i) && decide (i ≤ hi)) = true := h
    simp at h'
    exact ⟨i, rfl, h'.1, h'.2⟩
  | _ => exact nomatch h
theorem amissP_yes {lo : Int} {k : Nat} {i : Int} {ds : List PyData} (h : isWh lo 1000 (.int i) = true) : amissP lo k (.int i :: ds) = amissP (i + 1) (k + 1) ds := if_pos h
theorem pure_lpac (vs : List V) (H : Hp) (Q : VK) (E : XK) (h : sp_lpac K C vs H Q E) : t_look_paces K C E (sp_iswh K) (EndsQ Q) (sN 4 vs) H := by
  obtain ⟨v, d, rfl, hd, n, kN, kS⟩ := h
  show t_look_paces K C E _ _ [some v, none, none, none] H
  refine cb_isi rfl n hd (kb_tup n) ⟨_, rfl, ?_⟩
  cases d with
  | tuple ds =>
    obtain ⟨a, xs, rfl, hs, ha⟩ := dp_tup hd
    have lx := DpAll.len ha
    refine ⟨_, rfl, _, xs.length, rfl, .inr ⟨_, hs, rfl⟩, _, _, rfl, rfl, _, rfl, ?_⟩
    have bad : ¬ (1 ≤ ds.length ∧ ds.length ≤ 5) → tRz2 C "word" "at" (fun cls d _ H => E cls d H) (tCons (tC (.str "paces")) (tCons (tC (.int 0)) (tNil))) (EndsQ Q) [some (.ref a), none, none, none] H := fun c =>
      ⟨_, _, rfl, (kS 0 (if_neg c)).go (Same.refl H)⟩
    refine ifd (fun c1 => ⟨_, _, rfl, rfl, _, rfl, ?_⟩) (fun c1 => ⟨_, rfl, bad (by omega)⟩)
    refine ifn (fun c2 => ?_) (fun c2 => bad (by omega))
    have ea : paceA (.tuple ds) = amissP (-1000) 0 ds := if_pos ⟨by omega, by omega⟩
    refine ⟨_, rfl, ?_⟩
    refine ⟨_, rfl, a, xs, rfl, hs, for_enumT (K := K) (a := a) (xs := xs) (fun j σ H1 => ∃ (lo : Int) (c2 c3 : Option V), σ = [some (.ref a), some (.int lo), c2, c3] ∧ Same H H1 ∧ amissP lo j (ds.drop j) = amissP (-1000) 0 ds) ?_ ?_ ?_ ?_⟩
    · exact ⟨_, none, none, rfl, Same.refl H, rfl⟩
    · rintro j σ H1 ⟨_, _, _, _, sH, _⟩
      exact Same.tp sH _ _ hs
    · rintro j x T σ H1 hx ⟨lo, c2, c3, rfl, sH, ai⟩ hT
      obtain ⟨d', hd', hx'⟩ := DpAll.getV ha hx
      have n' : noL d' = true := noLAll_get n hd'
      have sT := same_new (o := .tup [.int (j : Int), x]) hT
      have sH2 := sH.trans sT
      refine ⟨T, _, rfl, SqT.of upd_same, rfl, _, _, rfl, _, _, rfl, rfl, ?_⟩
      generalize upd H1 T (.tup [.int (j : Int), x]) = H2 at sT sH2
      have hx2 := Dp.tp (Same.tp sH2) _ _ n' hx'
      refine ⟨_, rfl, _, rfl, x, d', lo, 1000, rfl, hx2, n', _, rfl, ?_⟩
      rw [drop_at hd'] at ai
      cases e1 : isWh lo 1000 d' with
      | false =>
        have e2 : paceA (.tuple ds) = some j := by rw [ea, ← ai, amissP_no e1]
        exact ⟨_, rfl, _, _, rfl, (kS j e2).go sH2⟩
      | true =>
        obtain ⟨i, rfl, _, _⟩ := wh_int e1
        cases hx2
        refine ⟨_, rfl, _, _, rfl, rfl, _, _, _, rfl, sH2, ?_⟩
        rw [← ai, amissP_yes e1]
    · rintro σ H1 ⟨_, _, _, _, sH, ai⟩
      refine kN ?_ H1 sH
      rw [drop_end (by omega)] at ai
      rw [ea, ← ai]
      rfl
  | bool b => exact ⟨_, _, rfl, (kS 0 rfl).go (Same.refl H)⟩
  | int b => exact ⟨_, _, rfl, (kS 0 rfl).go (Same.refl H)⟩
  | none => exact ⟨_, _, rfl, (kS 0 rfl).go (Same.refl H)⟩
  | str b => exact ⟨_, _, rfl, (kS 0 rfl).go (Same.refl H)⟩
  | list x => exact nomatch n
  | dict x => exact nomatch n
def sp_look (K : PySem.W.Frag) (C : Addr) : Sp := fun vs H Q E => ∃ (v : V) (d : PyData), vs = [v] ∧ Dp K H v d ∧ noL d = true ∧
  (bookA d = none → ∀ H', Same H H' → Q (.bl true) H') ∧ ∀ w n, bookA d = some (w, n) → RzE C H E w n
def t_look_book (K : PySem.W.Frag) (cNoBook : Addr) (E : XK) (sp_is_tuple_of : Sp) (sp_look_paces : Sp) (sp_is_whole : Sp) (sp_tables_due : Sp) (sp_look_table : Sp) : TS :=
  tSeq (tIfS (tNot (tB (tCall sp_is_tuple_of [] E0 (tCons (tVar 0) (tCons (tC (.int 3)) (tNil)))))) (tRz2 cNoBook "word" "at" (fun cls d _ H => E cls d H) (tCons (tC (.str "form")) (tCons (tC (.int 0)) (tNil)))) (tNext))
    (tSeq (tAsg (tVar 0) (gTup K 3 (gCons (gName 1) (gCons (gName 2) (gCons (gName 3) (gNil))))))
    (tSeq (tDrop (tCall sp_look_paces [] E (tCons (tVar 1) (tNil))))
    (tSeq (tIfS (tNot (tB (tCall sp_is_whole [] E0 (tCons (tVar 2) (tCons (tC (.int 1)) (tCons (tC (.int 6)) (tNil))))))) (tRz2 cNoBook "word" "at" (fun cls d _ H => E cls d H) (tCons (tC (.str "sorts")) (tCons (tC (.int 0)) (tNil)))) (tNext))
    (tSeq (tIfS (tNot (tB (tCall sp_is_tuple_of [] E0 (tCons (tVar 3) (tCons (tCall sp_tables_due [] E0 (tCons (tCB (qLen K) (tCons (tVar 1) (tNil))) (tNil))) (tNil)))))) (tRz2 cNoBook "word" "at" (fun cls d _ H => E cls d H) (tCons (tC (.str "tables")) (tCons (tC (.int 0)) (tNil)))) (tNext))
    (tSeq (tFor (iEnumT K (tCons (tVar 3) (tNil))) (gTup K 2 (gCons (gName 4) (gCons (gName 5) (gNil)))) (tDrop (tCall sp_look_table [] E (tCons (tVar 5) (tCons (tVar 4) (tCons (tVar 2) (tNil)))))))
    (tRet (tC (.bl true))))))))
theorem form_of {d : PyData} (h : isTu 3 d = false) : bookA d = some (("form" : Str), 0) := by
  match d with
  | .tuple [] => rfl
  | .tuple [_] => rfl
  | .tuple [_, _] => rfl
  | .tuple [_, _, _] => exact absurd h (by simp [isTu])
  | .tuple (_ :: _ :: _ :: _ :: _) => rfl
  | .none => rfl
  | .bool _ => rfl
  | .int _ => rfl
  | .str _ => rfl
  | .list _ => rfl
  | .dict _ => rfl
theorem three_of {d : PyData} (h : isTu 3 d = true) : ∃ a b c, d = .tuple [a, b, c] := by
  match d with
  | .tuple [] => exact absurd h (by simp [isTu])
  | .tuple [_] => exact absurd h (by simp [isTu])
  | .tuple [_, _] => exact absurd h (by simp [isTu])
  | .tuple [a, b, c] => exact ⟨a, b, c, rfl⟩
  | .tuple (_ :: _ :: _ :: _ :: _) =>
    simp [isTu] at h
    omega
  | .none => exact nomatch h
  | .bool _ => exact nomatch h
  | .int _ => exact nomatch h
  | .str _ => exact nomatch h
  | .list _ => exact nomatch h
  | .dict _ => exact nomatch h
theorem paceA_tup {p : PyData} (h : paceA p = none) : ∃ ds, p = .tuple ds ∧ 1 ≤ ds.length ∧ ds.length ≤ 5 := by
  cases p with
  | tuple ds =>
    by_cases c : 1 ≤ ds.length ∧ ds.length ≤ 5
    · exact ⟨ds, rfl, c⟩
    · exact absurd h (by rw [show paceA (.tuple ds) = some 0 from if_neg c]; exact fun z => nomatch z)
  | _ => exact nomatch h
theorem tabs_no {m s : Int} {t : PyData} (h : isTu (nT m) t = false) : tabsA m s t = some (("tables" : Str), 0) := by
  cases t with
  | tuple ts => exact if_neg (of_decide_eq_false (show decide ((ts.length : Int) = nT m) = false from h))
  | _ => rfl
theorem tabs_yes {m s : Int} {t : PyData} (h : isTu (nT m) t = true) : ∃ ts, t = .tuple ts ∧ (ts.length : Int) = nT m ∧ tabsA m s t = amissB s 0 ts := by
  cases t with
  | tuple ts =>
    have e := of_decide_eq_true (show decide ((ts.length : Int) = nT m) = true from h)
    exact ⟨ts, rfl, e, if_pos e⟩
  | _ => exact nomatch h
theorem pure_look (vs : List V) (H : Hp) (Q : VK) (E : XK) (h : sp_look K C vs H Q E) : t_look_book K C E (sp_istu K) (sp_lpac K C) (sp_iswh K) sp_tdue (sp_ltab K C) (EndsQ Q) (sN 6 vs) H := by
  obtain ⟨v, d, rfl, hd, n, kN, kS⟩ := h
  show t_look_book K C E _ _ _ _ _ _ [some v, none, none, none, none, none] H
  refine ⟨_, rfl, v, d, 3, rfl, hd, n, _, rfl, ?_⟩
  cases e0 : isTu 3 d with
  | false => exact ⟨_, _, rfl, (kS _ _ (form_of e0)).go (Same.refl H)⟩
  | true =>
    obtain ⟨p, s, t, rfl⟩ := three_of e0
    obtain ⟨b, xs, rfl, hs, ha⟩ := dp_tup hd
    have n' : (noL p && (noL s && (noL t && true))) = true := n
    simp only [Bool.and_eq_true, and_true] at n'
    cases ha with
    | cons h1 ha =>
      cases ha with
      | cons h2 ha =>
        cases ha with
        | cons h3 ha =>
          cases ha
          rename_i vp vs vt
          refine ⟨_, rfl, b, [vp, vs, vt], rfl, hs, rfl, _, _, rfl, _, _, rfl, _, _, rfl, rfl, ?_⟩
          refine ⟨_, rfl, vp, p, rfl, h1, n'.1, fun ep H1 s1 => ?_, fun k ek => ?_⟩
          · have h1' := Dp.tp (Same.tp s1) _ _ n'.1 h1
            have h2' := Dp.tp (Same.tp s1) _ _ n'.2.1 h2
            have h3' := Dp.tp (Same.tp s1) _ _ n'.2.2 h3
            refine ⟨_, rfl, vs, s, 1, 6, rfl, h2', n'.2.1, _, rfl, ?_⟩
            cases e1 : isWh 1 6 s with
            | false =>
              have eb : bookA (.tuple [p, s, t]) = some (("sorts" : Str), 0) := by
                show (match paceA p with | some k => _ | none => _) = _
                rw [ep]
                cases s with
                | int i =>
                  show (if (decide (1 ≤ i) && decide (i ≤ 6)) = true then _ else _) = _
                  rw [show (decide (1 ≤ i) && decide (i ≤ 6)) = false from e1]
                  rfl
                | _ => rfl
              exact ⟨_, _, rfl, (kS _ _ eb).go s1⟩
            | true =>
              obtain ⟨i, rfl, i1, i6⟩ := wh_int e1
              obtain ⟨ds, rfl, d1, d5⟩ := paceA_tup ep
              cases h2
              have eb : bookA (.tuple [.tuple ds, .int i, t]) = tabsA (ds.length : Int) i t := by
                show (match paceA (.tuple ds) with | some k => _ | none => _) = _
                rw [ep]
                exact if_pos e1
              obtain ⟨pa, ps, rfl, hps, hpa⟩ := dp_tup h1'
              have lp := DpAll.len hpa
              have hnT := nT_le (m := (ds.length : Int)) (by omega) (by omega)
              refine ⟨_, rfl, _, rfl, _, ps.length, rfl, .inr ⟨_, hps, rfl⟩, _, rfl, by omega, by omega, ?_⟩
              refine ⟨vt, t, _, rfl, h3', n'.2.2, _, rfl, ?_⟩
              rw [lp]
              cases e2 : isTu (nT (ds.length : Int)) t with
              | false => exact ⟨_, _, rfl, (kS _ _ (by rw [eb, tabs_no e2])).go s1⟩
              | true =>
                obtain ⟨ts, rfl, lt, et⟩ := tabs_yes (s := i) e2
                obtain ⟨ta, tvs, rfl, hts, hta⟩ := dp_tup h3'
                have ltv := DpAll.len hta
                have nts : noLAll ts = true := n'.2.2
                refine ⟨_, rfl, ta, tvs, rfl, hts, for_enumT (K := K) (a := ta) (xs := tvs) (fun j σ H2 => ∃ (c4 c5 : Option V), σ = [some (.ref b), some (.ref pa), some (.int i), some (.ref ta), c4, c5] ∧ Same H1 H2 ∧ amissB i j (ts.drop j) = amissB i 0 ts) ?_ ?_ ?_ ?_⟩
                · exact ⟨none, none, rfl, Same.refl H1, rfl⟩
                · rintro j σ H2 ⟨_, _, _, sH, _⟩
                  exact Same.tp sH _ _ hts
                · rintro j x T σ H2 hx ⟨c4, c5, rfl, sH, ai⟩ hT
                  obtain ⟨d', hd', hx'⟩ := DpAll.getV hta hx
                  have nd : noL d' = true := noLAll_get nts hd'
                  have sT := same_new (o := .tup [.int (j : Int), x]) hT
                  have sH2 := sH.trans sT
                  refine ⟨T, _, rfl, SqT.of upd_same, rfl, _, _, rfl, _, _, rfl, rfl, ?_⟩
                  generalize upd H2 T (.tup [.int (j : Int), x]) = H3 at sT sH2
                  rw [drop_at hd'] at ai
                  have hj : j < ts.length := (List.getElem?_eq_some_iff.mp hd').1
                  refine ⟨_, rfl, _, rfl, _, rfl, x, d', j, i, rfl, Dp.tp (Same.tp sH2) _ _ nd hx', nd, by omega, i1, i6, fun en H4 s4 => ?_, fun w m em => ?_⟩
                  · refine ⟨_, _, rfl, sH2.trans s4, ?_⟩
                    rw [← ai]
                    show _ = (match tableA i j d' with | some a => some a | none => amissB i (j + 1) (ts.drop (j + 1)))
                    rw [en]
                  · have e3 : amissB i 0 ts = some (w, m) := by
                      rw [← ai]
                      show (match tableA i j d' with | some a => some a | none => amissB i (j + 1) (ts.drop (j + 1))) = _
                      rw [em]
                    exact (kS w m (by rw [eb, et, e3])).same (s1.trans sH2)
                · rintro σ H2 ⟨_, _, rfl, sH, ai⟩
                  refine kN ?_ H2 (s1.trans sH)
                  rw [drop_end (by omega)] at ai
                  rw [eb, et, ← ai]
                  rfl
          · refine kS _ _ ?_
            show (match paceA p with | some k => _ | none => _) = _
            rw [ek]
end
end Wf

/-! A def within a def that is handed on: its captured cells stand still while another def calls it. -/
namespace Wf
open PySem PySem.Spec PyProof.Rows L2 LamX NdefX
theorem frames_of {h base base' : Heap} : ∀ {l : List Env}, h.FunFrames base l → (∀ b ∈ frs l, base'.get? b = none) → h.FunFrames base' l
  | [], f, _ => trivial
  | e :: l, f, n => by
    obtain ⟨hk, ⟨L, o, hf, hn, ho, hd⟩, hr⟩ := f
    have hm : ∀ b, b ∈ L :: frs l → b ∈ frs (e :: l) := fun b hb => by
      unfold frs
      rw [List.filterMap_cons, hf]
      exact hb
    exact ⟨hk, ⟨L, o, hf, n L (hm L List.mem_cons_self), ho, hd⟩, frames_of hr fun b hb => n b (hm b (List.mem_cons_of_mem _ hb))⟩
/-- the base that holds these cells too -/
theorem widen {X : Cx} {pins : List (Addr × Obj)} {σ : L2.St} {H : Hp} {s : Shared} {cl : List (Str × Addr)} (I : L2.Inv X pins σ H s) (hst : X.stack = X.env :: X.outer) (hfr : X.env.frame = some X.env.locals)
    (hc : ∀ y c, cl.lookup y = some c → X.env.cells.lookup y = some c ∧ X.fn y = true) :
    ∃ base' : Heap, Env0 X.prog X.w X.K X.mg base' X.A X.stack s H ∧ ∀ y c o, cl.lookup y = some c → s.heap.get? c = some o → base'.get? c = some o := by
  classical
  have e0 := I.env0
  let isC : Addr → Prop := fun b => ∃ y, cl.lookup y = some b
  let Hh : Hp := fun b => if (X.base.get? b).isSome = true ∨ isC b then none else some (.tbl #[])
  have hin : ∀ b o, X.base.get? b = some o → (hidT s.heap Hh).get? b = some o := fun b o e => by
    refine hidT_get (e0.bs b o e).1 ?_
    show (if _ then _ else _) = none
    rw [if_pos (.inl (by rw [e]; rfl))]
  have hcin : ∀ y c o, cl.lookup y = some c → s.heap.get? c = some o → (hidT s.heap Hh).get? c = some o := fun y c o e eo => by
    refine hidT_get eo ?_
    show (if _ then _ else _) = none
    rw [if_pos (.inr ⟨y, e⟩)]
  have hof : ∀ b o, (hidT s.heap Hh).get? b = some o → s.heap.get? b = some o ∧ ((X.base.get? b).isSome = true ∨ isC b) := fun b o e => by
    obtain ⟨h1, h2⟩ := of_hidT e
    refine ⟨h1, ?_⟩
    by_cases q : (X.base.get? b).isSome = true ∨ isC b
    · exact q
    · have h2' : (if (X.base.get? b).isSome = true ∨ isC b then none else some (HO.tbl #[])) = none := h2
      rw [if_neg q] at h2'
      cases h2'
  refine ⟨hidT s.heap Hh, ⟨e0.frames, ⟨fun b o e => hin b o (e0.mod.kin b o e), e0.mod.glob.keeps hin, ?_, e0.mod.nolimit.keeps hin⟩, fun b o e => ?_, Nat.le_of_eq (hidT_size _ _), ?_, e0.frf, e0.hok, e0.bare⟩, hcin⟩
  · obtain ⟨mb, h1, h2⟩ := e0.mod.blt
    exact ⟨mb, h1.keeps hin, h2⟩
  · obtain ⟨h1, h2⟩ := hof b o e
    refine ⟨h1, ?_⟩
    rcases h2 with h2 | ⟨y, hy⟩
    · obtain ⟨o', ho'⟩ := Option.isSome_iff_exists.mp h2
      exact (e0.bs b o' ho').2
    · exact I.freeC y b (hc y b hy).1
  · refine frames_of e0.funs fun b hb => ?_
    cases e : (hidT s.heap Hh).get? b with
    | none => rfl
    | some o =>
      obtain ⟨h1, h2⟩ := hof b o e
      rcases h2 with h2 | ⟨y, hy⟩
      · have := (e0.funs.mem hb).1
        rw [this] at h2
        cases h2
      · have hyc := hc y b hy
        have ge := I.ok.cab y b hyc.2 hyc.1
        rw [hst] at hb
        have hb' : b = X.env.locals ∨ b ∈ frs X.outer := by
          unfold frs at hb
          rw [List.filterMap_cons, hfr] at hb
          exact List.mem_cons.mp hb
        rcases hb' with hb' | hb'
        · exact absurd hb' (I.cne y b hyc.1)
        · obtain ⟨_, o2, ho2, _⟩ := I.ok.funs.mem hb'
          exact absurd (Heap.lt_size ho2) (Nat.not_lt.mpr ge)
/-- what the cells hold, told by the base alone -/
def CellsB (base : Heap) (cl : List (Str × Addr)) (fr : List Str) (ws : List (Option V)) : Prop := ∀ (h : Heap) (H : Hp), (∀ b o, base.get? b = some o → h.get? b = some o ∧ H b = none) → CellsAt cl fr ws h H
theorem cellsB_of {base : Heap} {cl : List (Str × Addr)} {fr : List Str} {ws : List (Option V)} {h : Heap} {H : Hp} (C : CellsAt cl fr ws h H) (hb : ∀ y c o, cl.lookup y = some c → h.get? c = some o → base.get? c = some o) : CellsB base cl fr ws := fun h' H' k => by
  refine ⟨C.len, fun y c e => ?_, C.inj, fun i y e => ?_⟩
  · obtain ⟨_, v, o, ho, hd⟩ := C.all y c e
    obtain ⟨k1, k2⟩ := k c o (hb y c o e ho)
    exact ⟨k2, v, o, k1, hd⟩
  · obtain ⟨c, hc, hv⟩ := C.has i y e
    refine ⟨c, hc, fun v ev => ?_⟩
    obtain ⟨u, ru, o, ho, hd⟩ := hv v ev
    exact ⟨u, ru, o, (k c o (hb y c o hc ho)).1, hd⟩
/-! ### a call of what a slot holds -/
def tCallF (P : Program) (w : World) (K : PySem.W.Frag) (mg : Str → Option Value) (base : Heap) (k i : Nat) (t : TA) : TE := fun σ H Q => ∃ (f : Addr) (F : NF), σ[i]? = some (some (.ref f)) ∧ H f = some (FnO f F) ∧
  t σ H fun vs H1 => H1 f = some (FnO f F) ∧ H1 F.c = some (CodeO F.c F.qual) ∧ ∃ (ps fr : List Str) (ws : List (Option V)) (sp : List (Option V) → Sp), NOk P w K mg base CX0 k f F ps fr sp ∧ CellsB base F.cl fr ws ∧ sp ws vs H1 Q E0
theorem pe_callF {X : Cx} {k j i : Nat} {x : Str} {e : Expr} {es : List Expr} {t : TA} {p pos : Pos} (hr : Room j X.A) (hk : k ≤ j) (hN : X.N[i]? = some x) (hv : Vis X.env.scope x) (ha : PA X (e :: es) t)
    (hd : (x == ("__debug__" : Str)) = false := by decide) (hcd : (x == ("__classdict__" : Str)) = false := by decide)
    (he : starEach (e :: es) X.env = (false, eval e X.env) :: starEach es X.env := by rfl) (hpl : (backTo pos (starEach es X.env)).any (·.1) = false := by rfl) :
    PE X (.Call (.Name x p) (e :: es) [] pos) (tCallF X.prog X.w X.K X.mg X.base k i t) := by
  refine ⟨fun pins s σ H Q I q => ?_⟩
  obtain ⟨f, F, hs, hf, ht⟩ := q
  refine wpAny_Call_Name_kw (thn ((pe_var (pos := p) hN hv hd hcd).run pins s σ H (fun v H1 => v = .ref f ∧ H1 = H) I ⟨.ref f, hs, rfl, rfl⟩) fun u s1 ⟨v, H1, I1, r1, ev, eH⟩ => ?_)
  subst ev
  rw [eH] at I1
  obtain rfl : u = Value.ref f := r1
  refine PySem.W.callWith_F (first := []) (fnAt_of I1 hf) (thn (ha.run pos pins s1 σ H _ I1 ht) fun us s2 ⟨vs, H2, I2, r, h1, h2, ps, fr, ws, sp, Fn, CB, q⟩ => ⟨fnAt_of I2 h1, ?_⟩) he hpl
  refine wpAny_call (codeAny_mono (Fn.run X.A X.stack s2 H2 us vs ws Q E0 (hr.mono hk) I2.env0 h1 h2 (CB s2.heap H2 I2.bs) r q) fun rr s' hq => ?_)
  cases rr with
  | error er => exact False.elim hq
  | ok fl =>
    cases fl with
    | ret u => exact I2.after hq
    | next => exact False.elim hq
    | brk => exact False.elim hq
    | cont => exact False.elim hq
/-! ### tuple.index of numbers -/
def rTIndex (K : PySem.W.Frag) : V → List V → Hp → VK → Prop := fun x xs H Q => ∃ (p : Addr) (ns : List Int) (k : Int), x = .ref p ∧ xs = [.int k] ∧ SqT K H p (ns.map V.int) ∧ k ∈ ns ∧ Q (.int (ns.idxOf k : Nat)) H
theorem ints_are : ∀ {ns : List Int} {its : List Value}, Vals (ns.map V.int) its → IntsAre its ns
  | [], [], _ => .nil
  | n :: ns, u :: its, h => by
    cases h with
    | cons h1 h2 =>
      obtain ⟨t, rfl⟩ := h1
      exact .cons n t (ints_are h2)
theorem mt_tindex {X : Cx} : MtM X "tuple.index" (rTIndex X.K) := by
  intro pins s σ H x xs v us Q I rx rs q
  obtain ⟨p, ns, k, rfl, rfl, hq, hk, q⟩ := q
  cases rx
  cases rs with
  | cons r1 r2 =>
    cases r2
    obtain ⟨t, rfl⟩ := r1
    obtain ⟨its, r, pl, hz⟩ := I.tuple hq
    exact PySem.SeqAt.tuple_index_ints (show s.heap.IsTuple p its.toArray from pl) (ints_are r) hk ⟨.int (ns.idxOf k : Nat), H, I.tok _, ⟨_, rfl⟩, q⟩
/-! ### heaps: all but tables of code -/
theorem same_ext {H H' : Hp} (s : Same H H') : ExtN H H' := fun b o h _ => s b o h
theorem ExtN.tp {K : PySem.W.Frag} {H H' : Hp} (e : ExtN H H') : Tp K H H' := fun a xs h => by
  rcases h with (h | ⟨o, h⟩) | h
  · exact .inl (.inl (e _ _ h fun ps z => nomatch z))
  · exact .inl (.inr ⟨o, e _ _ h fun ps z => nomatch z⟩)
  · exact .inr h
/-! ### made_table -/
/-- pair by pair, row by row -/
def rowsF (n : Nat) (g : Int → Int → Int × Int) (m : Nat) : Tab := (List.range m).map fun (j : Nat) => g ((j / n : Nat) : Int) ((j % n : Nat) : Int)
theorem rowsF_succ {n m : Nat} {g : Int → Int → Int × Int} : rowsF n g (m + 1) = rowsF n g m ++ [g ((m / n : Nat) : Int) ((m % n : Nat) : Int)] := by
  unfold rowsF
  rw [List.range_succ, List.map_append]
  rfl
theorem rowsF_len {n m : Nat} {g : Int → Int → Int × Int} : (rowsF n g m).length = m := by
  unfold rowsF
  rw [List.length_map, List.length_range]
theorem rowsF_get {n m : Nat} {g : Int → Int → Int × Int} {j : Nat} (h : j < m) : (rowsF n g m)[j]? = some (g ((j / n : Nat) : Int) ((j % n : Nat) : Int)) := by
  unfold rowsF
  rw [List.getElem?_map, List.getElem?_range h]
  rfl
def sp_made (P : Program) (w : World) (K : PySem.W.Frag) (mg : Str → Option Value) (base : Heap) : Sp := fun vs H Q _ => ∃ (n : Nat) (f : Addr) (F : NF) (ps fr : List Str) (ws : List (Option V)) (sp : List (Option V) → Sp) (g : Int → Int → Int × Int),
  vs = [.int (n : Int), .ref f] ∧ n ≤ 6 ∧ H f = some (FnO f F) ∧ H F.c = some (CodeO F.c F.qual) ∧ NOk P w K mg base CX0 1 f F ps fr sp ∧ CellsB base F.cl fr ws ∧
  (∀ (a b : Nat) (H1 : Hp) (Q1 : VK), a < n → b < n → Same H H1 → (∀ r H2, Same H1 H2 → Dp K H2 r (dP (g (a : Int) (b : Int))) → Q1 r H2) → sp ws [.int (a : Int), .int (b : Int)] H1 Q1 E0) ∧
  ∀ r H', Same H H' → Dp K H' r (dT (rowsF n g (n * n))) → Q r H'
def t_made_table (P : Program) (w : World) (K : PySem.W.Frag) (mg : Str → Option Value) (base : Heap) : TS :=
  tRet (tCB (qTupleOf K) (tCons (tLc2 (iRng1 (tCons (tVar 0) (tNil))) (gName 2) (tYes) (iRng1 (tCons (tVar 0) (tNil))) (gName 3) (tYes) (tCallF P w K mg base 1 1 (tCons (tVar 2) (tCons (tVar 3) (tNil)))) [2, 3] [3]) (tNil)))
theorem pure_made {P : Program} {w : World} {K : PySem.W.Frag} {mg : Str → Option Value} {base : Heap} (vs : List V) (H : Hp) (Q : VK) (E : XK) (h : sp_made P w K mg base vs H Q E) : t_made_table P w K mg base (EndsQ Q) (sN 4 vs) H := by
  obtain ⟨n, f, F, ps, fr, ws, sp, g, rfl, n6, hf, hc, Fn, CB, call, k⟩ := h
  show t_made_table P w K mg base _ [some (.int (n : Int)), some (.ref f), none, none] H
  refine ⟨_, rfl, (n : Int), rfl, by omega, by omega, fun D hD => ?_⟩
  refine ⟨fun i m H1 => m = n - i ∧ i ≤ n ∧ Same H H1 ∧ ∃ us, H1 D = some (.lst us) ∧ DpAll K H1 us ((rowsF n g (i * n)).map dP), ⟨n, rfl, Nat.zero_le _, same_new hD, [], upd_same, by rw [Nat.zero_mul]; exact .nil⟩, ?_⟩
  rintro i m H1 ⟨rfl, hi, s1, us, e1, e2⟩
  by_cases hlt : i < n
  · refine .inr ⟨by show i < ((n : Int)).toNat; omega, fun H2 => i + 1 ≤ n ∧ Same H H2 ∧ ∃ us, H2 D = some (.lst us) ∧ DpAll K H2 us ((rowsF n g ((i + 1) * n)).map dP), fun H2 q => ⟨n - (i + 1), by omega, rfl, q⟩, ?_⟩
    rintro x H2 ⟨rfl, rfl⟩
    refine ⟨rfl, ?_⟩
    simp only [tYes, ↓reduceIte]
    refine ⟨_, rfl, (n : Int), rfl, by omega, by omega, ?_⟩
    refine ⟨fun j m H3 => m = n - j ∧ j ≤ n ∧ Same H H3 ∧ ∃ us, H3 D = some (.lst us) ∧ DpAll K H3 us ((rowsF n g (i * n + j)).map dP), ⟨n, rfl, Nat.zero_le _, s1, us, e1, e2⟩, ?_⟩
    rintro j m H3 ⟨rfl, hj, s3, us3, g1, g2⟩
    by_cases hlj : j < n
    · refine .inr ⟨by show j < ((n : Int)).toNat; omega, fun H4 => j + 1 ≤ n ∧ Same H H4 ∧ ∃ us, H4 D = some (.lst us) ∧ DpAll K H4 us ((rowsF n g (i * n + (j + 1))).map dP), fun H4 q => ⟨n - (j + 1), by omega, rfl, q⟩, ?_⟩
      rintro y H4 ⟨rfl, rfl⟩
      refine ⟨rfl, ?_⟩
      simp only [tYes, ↓reduceIte]
      refine ⟨f, F, rfl, s3 _ _ hf, _, rfl, _, rfl, s3 _ _ hf, s3 _ _ hc, ps, fr, ws, sp, Fn, CB, ?_⟩
      rw [Int.zero_add, Int.zero_add]
      refine call i j _ _ hlt hlj s3 fun r H5 s5 hr => ?_
      have h1 : i * n + j < n * n := by
        have : (i + 1) * n ≤ n * n := Nat.mul_le_mul_right n hlt
        rw [Nat.add_mul, Nat.one_mul] at this
        omega
      have h36 : n * n ≤ 36 := Nat.mul_le_mul n6 n6
      refine ⟨us3, s5 _ _ g1, ?_, by omega, fun c o ec => ?_, us3 ++ [r], upd_same, ?_⟩
      · rw [DpAll.len g2, List.length_map, rowsF_len]
        exact Nat.lt_of_le_of_lt (show i * n + j ≤ 36 by omega) (by decide)
      · rw [upd_ne (ne_of_none ec hD)]
        exact s5 _ _ (s3 _ _ ec)
      · have tp : Tp K H5 (upd H5 D (.lst (us3 ++ [r]))) := tp_upd (not_lst (s5 _ _ g1))
        have ed : (i * n + j) / n = i := by
          rw [Nat.mul_comm, Nat.mul_add_div (by omega), Nat.div_eq_of_lt hlj, Nat.add_zero]
        have em : (i * n + j) % n = j := by
          rw [Nat.mul_comm, Nat.mul_add_mod, Nat.mod_eq_of_lt hlj]
        rw [← Nat.add_assoc, rowsF_succ, List.map_append, ed, em]
        exact DpAll.append (DpAll.tp ((Same.tp s5).trans tp) _ _ (noLAll_dP _) g2) (.cons (Dp.tp tp _ _ (noL_dP _) hr) .nil)
    · have ej : j = n := by omega
      subst ej
      refine .inl ⟨by show ((j : Int)).toNat ≤ j; omega, by omega, s3, us3, g1, ?_⟩
      rw [Nat.add_mul, Nat.one_mul]
      exact g2
  · have ei : i = n := by omega
    subst ei
    refine .inl ⟨by show ((i : Int)).toNat ≤ i; omega, ?_⟩
    refine ⟨D, us, rfl, .inl ⟨SqL.of e1, fun q hq => ?_⟩⟩
    have sq := same_new (o := .tup us) hq
    exact k _ _ (s1.trans sq) (.tup (SqT.of upd_same) (DpAll.tp (Same.tp sq) _ _ (noLAll_dP _) e2))
/-! ### made_table(n, f), f a def made here -/
def tMade (K : PySem.W.Frag) (mk : Addr → NF) (js : List Nat) (sp : List (Option V) → Sp) (t : TA) : TE := fun σ H Q => t σ H fun vs H1 => ∃ (n : Nat) (f c' : Addr) (g : Int → Int → Int × Int), vs = [.int (n : Int), .ref f] ∧ n ≤ 6 ∧ H1 f = some (FnO f (mk c')) ∧ H1 (mk c').c = some (CodeO (mk c').c (mk c').qual) ∧
  (∀ (a b : Nat) (H2 : Hp) (Q1 : VK), a < n → b < n → Same H1 H2 → (∀ r H3, Same H2 H3 → Dp K H3 r (dP (g (a : Int) (b : Int))) → Q1 r H3) → sp (js.map (slotAt σ)) [.int (a : Int), .int (b : Int)] H2 Q1 E0) ∧
  ∀ r H', Same H1 H' → Dp K H' r (dT (rowsF n g (n * n))) → Q r H'
theorem pe_made {X : Cx} {k j : Nat} {x : Str} {mk : Addr → NF} {cl : List (Str × Addr)} {ps fr pm : List Str} {js : List Nat} {sp : List (Option V) → Sp} {e : Expr} {es : List Expr} {t : TA} {p pos : Pos} (C : ∀ base' : Heap, Cal X.prog X.w X.K X.mg base' CX0 k x pm (sp_made X.prog X.w X.K X.mg base')) (hr : Room j X.A)
    (Fn : ∀ (base' : Heap) (f c' : Addr), NOk X.prog X.w X.K X.mg base' CX0 1 f (mk c') ps fr sp) (hcl : ∀ c', (mk c').cl = cl) (cp : X.Ok → Caps X cl fr js) (hst : X.stack = X.env :: X.outer) (hfr : X.env.frame = some X.env.locals) (hfn : ∀ y, X.fn y = true) (hg : Gl X x) (ha : PA X (e :: es) t) (hk : k ≤ j := by decide)
    (hdb : (x == ("__debug__" : Str)) = false := by decide) (he : starEach (e :: es) X.env = (false, eval e X.env) :: starEach es X.env := by rfl) (hpl : (backTo pos (starEach es X.env)).any (·.1) = false := by rfl) :
    PE X (.Call (.Name x p) (e :: es) [] pos) (tMade X.K mk js sp t) := by
  obtain ⟨f, fd, _, m, kp, _⟩ := (C X.base).ex
  refine ⟨fun pins s σ H Q I q0 => wpAny_Call_Name_kw (ld_glob I hg m ?_ hdb)⟩
  refine PySem.W.callWith_K (h₀ := X.base) I.ok.mod.kin kp (thn (ha.run pos pins s σ H _ I q0) fun us s1 hh => ?_) he hpl
  obtain ⟨vs, H1, I1, r, n, f1, c', g, ev, n6, hf1, hc1, cal, q⟩ := hh
  refine ⟨I1.kIn, ?_⟩
  subst ev
  have CA := cells_of I1 (cp I1.ok)
  obtain ⟨base', E1, hb⟩ := widen (cl := cl) I1 hst hfr fun y c hy => ⟨(cp I1.ok).sub y c hy, hfn y⟩
  obtain ⟨f2, fd2, G, m2, kp2, b2⟩ := (C base').ex
  have ef : f2 = f := by
    rw [m] at m2
    injection m2 with z
    injection z with z'
    exact z'.symm
  subst ef
  have q' : sp_made X.prog X.w X.K X.mg base' [.int (n : Int), .ref f1] H1 Q E0 := ⟨n, f1, mk c', ps, fr, js.map (slotAt σ), sp, g, rfl, n6, hf1, hc1, Fn base' f1 c', by rw [hcl c']; exact cellsB_of CA hb, cal, q⟩
  have hl : (us ++ []).length = pm.length := by rw [List.append_nil, ← r.length]; exact G.len _ _ _ _ q'
  have bb : BindsTo s1 fd2 ⟨us, []⟩ (pm.zip us) := by
    have := b2 s1 us I1.kIn hl
    rwa [List.append_nil] at this
  refine wpAny_call (codeAny_mono (G.run X.A X.stack s1 H1 ⟨us, []⟩ us _ Q E0 (hr.mono hk) E1 bb r q') fun rr s' hq => ?_)
  cases rr with
  | error er => exact False.elim hq
  | ok fl =>
    cases fl with
    | ret u => exact I1.after hq
    | next => exact False.elim hq
    | brk => exact False.elim hq
    | cont => exact False.elim hq
/-- the rule of a def whose code object is known -/
theorem okC {P : Program} {w : World} {K : PySem.W.Frag} {mg : Str → Option Value} {base : Heap} {CX : CXT} {k : Nat} {f c : Addr} {fd : FuncData} {ps N : List Str} {sp : Sp} {x qual : Str} {params : Arguments} {body : List Stmt} {scope : Scope} {dvs : List V} {kws : List (Str × V)}
    (F : FunD K x qual params body scope dvs kws f fd) (hc : fd.code = .ref c) (S : FnScope N ps scope) (len : ∀ vs H Q E, sp vs H Q E → vs.length = ps.length)
    (hb : ∀ (A : Around) (outer : List Env) (s : Shared) (H : Hp) (vs : List V) (Q : VK) (E : XK), Room k (A.deeper (envOfC qual scope s.heap.objs.size f (.ref c))) → sp vs H Q E →
      ∃ t, PSs (cxOf CX P w K mg base N qual scope f (.ref c) A outer s H E) body t ∧ t (EndsQ Q) (start N vs) H) : FnOk P w K mg base CX (k + 1) f fd ps sp := by
  obtain ⟨oc, od, dV, kV, doc, pm, an, cdv, ct, osl, rfl, lk, hcd, _, _⟩ := F.ex
  have ec : cdv = .ref c := hc
  subst ec
  exact fn_of lk hcd S len fun A outer s H vs Q E hr hsp => hb A outer s H vs Q E hr hsp
/-! ### tuples whose object is known -/
/-- x is a tuple of these numbers, its object known -/
structure NmT (H : Hp) (x : V) (ns : List Int) : Prop where
  ex : ∃ (p : Addr) (o : Obj), x = .ref p ∧ H p = some (.frz o (.tup (ns.map V.int))) ∧ o.cls = .type "tuple" ∧ o.dict = none
theorem NmT.ext {H H' : Hp} {x : V} {ns : List Int} (h : NmT H x ns) (e : ExtN H H') : NmT H' x ns := by
  obtain ⟨p, o, rfl, h1, h2, h3⟩ := h.ex
  exact ⟨p, o, rfl, e _ _ h1 (fun ps z => nomatch z), h2, h3⟩
theorem NmT.sq {K : PySem.W.Frag} {H : Hp} {x : V} {ns : List Int} (h : NmT H x ns) : ∃ p, x = .ref p ∧ SqT K H p (ns.map V.int) := by
  obtain ⟨p, o, rfl, h1, _, _⟩ := h.ex
  exact ⟨p, rfl, .inl (.inr ⟨o, h1⟩)⟩
theorem NmT.dp {K : PySem.W.Frag} {H : Hp} {x : V} {ns : List Int} (h : NmT H x ns) : Dp K H x (dI ns) := by
  obtain ⟨p, rfl, hs⟩ := h.sq (K := K)
  exact .tup hs (dp_ints ns)
def qTupF (K : PySem.W.Frag) : List V → Hp → VK → Prop := fun xs H Q => ∃ p ys, xs = [.ref p] ∧ SqL K H p ys ∧ ∀ (l : Addr) (o : Obj), H l = none → o.cls = .type "tuple" → o.dict = none → Q (.ref l) (upd H l (.frz o (.tup ys)))
theorem call_tupF {X : Cx} : CallR X (.type "tuple") (qTupF X.K) := by
  intro pins s σ H xs us Q I r q
  obtain ⟨p, ys, rfl, hq, q⟩ := q
  cases r with
  | cons rx rr =>
    cases rr
    cases rx
    obtain ⟨its, r', pl, hz⟩ := I.list hq
    have hlen := r'.length
    refine call_tuple_list pl.isList (fun h' kp => ?_) (by simp only [List.size_toArray] <;> omega)
    have I1 : L2.Inv X pins σ H { s with heap := h' } := I.kept (t' := s.toks) kp
    have hget : (h'.push { cls := .type "tuple", data := .seq its.toArray }).get? h'.objs.size = some { cls := .type "tuple", data := .seq its.toArray } := Heap.get?_push_size _ rfl
    have I2 := I1.laid (t' := s.toks) (o := .frz { cls := .type "tuple", data := .seq its.toArray } (.tup ys)) (fun b o e => Heap.get?_push_of_some _ e) (Nat.le_refl _) ⟨hget, hz, its, r', IsTup.new _ _⟩
    exact ⟨.ref h'.objs.size, _, I2, rfl, q _ _ (I1.hok.fresh (Nat.le_refl _)) rfl rfl⟩
def tTIx (K : PySem.W.Frag) (to : TE) (t : TA) : TE := fun σ H Q => to σ H fun x H1 => (∃ ns, NmT H1 x ns) ∧ t σ H1 fun xs H2 => rTIndex K x xs H2 Q
theorem pe_tix {X : Cx} {o e : Expr} {to : TE} {t : TA} {apos cpos : Pos} (ho : PE X o to) (ha : PA X [e] t) (hbase : attributeBase o "index" X.env (eval o X.env) = eval o X.env := by rfl)
    (hfew : ((backTo cpos (starEach [e] X.env)).all (fun x => !x.1) && (backToKw cpos (keywordEach [] X.env)).all (fun x => x.1.isSome)
      && decide ([e].length + ([] : List Keyword).length + (if ([] : List Keyword).isEmpty then 0 else 1) < 30)) = true := by rfl)
    (hline : (apos.endLine == cpos.line) = true := by rfl) (hs : starEach [e] X.env = (false, eval e X.env) :: starEach [] X.env := by rfl) (hplain : (backTo cpos (starEach [] X.env)).any (·.1) = false := by rfl) :
    PE X (.Call (.Attribute o "index" apos) [e] [] cpos) (tTIx X.K to t) := by
  refine ⟨fun pins s σ H Q I q => ?_⟩
  refine wpAny_Call_method_late hbase hfew hline rfl (thn (ho.run pins s σ H _ I q) fun v s1 ⟨x, H1, I1, r1, ⟨ns, nt⟩, q1⟩ => ?_)
  obtain ⟨p, ob, rfl, h1, h2, h3⟩ := nt.ex
  cases (show v = Value.ref p from r1)
  have hg : s1.heap.get? p = some ob := (I1.hok p _ h1).1
  refine ⟨"tuple", "tuple.index", PySem.F.plainAttrs_tuple, PySem.F.slot_tuple_index, PySem.F.type_tuple_index, ⟨ob, hg, h2⟩, fun a ea => by cases ea; exact ⟨ob, hg, h3⟩, ?_⟩
  have hA := ha.run cpos pins s1 σ H1 _ I1 q1
  rw [hs] at hA ⊢
  refine Calls.callWith_builtin (by show (false || (backTo cpos (starEach [] X.env)).any (·.1)) = false; rw [hplain] <;> rfl) (Calls.evalArgs_plain ?_)
  exact thn hA fun us s2 ⟨vs, H2, I2, r2, q2⟩ => mt_tindex pins s2 σ H2 (.ref p) vs (.ref p) us Q I2 rfl r2 q2
end Wf

/-! t * n, t a tuple that is not empty, n from 0 on. -/
namespace Wf
open PySem PySem.Spec PyProof.Rows L2
theorem mul_one (l : Addr) (ws : Array Value) (n : Nat) (dd : Option Addr) (sl : Array (Option Value)) (u : Tok) :
    Meets (Builtin.«tuple.__mul__» ⟨[.ref l, .int 1 u], []⟩) (fun _ R s => s.heap.get? l = some { cls := .type "tuple", dict := dd, data := .seq ws n, slots := sl } ∧ R (.ok (.ret (Value.ref l))) s) :=
  .of_wp fun prog w A R s q => by
    obtain ⟨hp, gn, dr, tk, os⟩ := s
    obtain ⟨hl, q⟩ := q
    have ix := AutoSeq1.idx_int
    have c1 : (ws.isEmpty || (1 : Int) == 1) = true := by rw [Bool.or_comm]; rfl
    wp_walk using wpAny_loadPart' hl
    repeat (first
      | (refine wpAny_ite_true (decide_eq_true c1) ?_; wp_walk using wpAny_loadPart' hl)
      | (refine wpAny_ite_true c1 ?_; wp_walk using wpAny_loadPart' hl))
    exact ⟨_, rfl, q⟩
theorem mul_none (l : Addr) (ws : Array Value) (n : Nat) (dd : Option Addr) (sl : Array (Option Value)) (u : Tok) (he : ws.isEmpty = false) :
    Meets (Builtin.«tuple.__mul__» ⟨[.ref l, .int 0 u], []⟩) (fun _ R s => s.heap.get? l = some { cls := .type "tuple", dict := dd, data := .seq ws n, slots := sl } ∧
      R (.ok (.ret (Value.ref s.heap.objs.size))) { s with heap := s.heap.push { cls := Value.type "tuple", data := Data.seq #[] }, toks := s.toks }) :=
  .of_wp fun prog w A R s q => by
    obtain ⟨hp, gn, dr, tk, os⟩ := s
    obtain ⟨hl, q⟩ := q
    have ix := AutoSeq1.idx_int
    have c1 : (ws.isEmpty || (0 : Int) == 1) = false := by rw [he]; rfl
    wp_walk using wpAny_loadPart' hl
    repeat (first
      | (refine wpAny_ite_false (decide_eq_false (by rw [c1]; exact Bool.false_ne_true)) ?_; wp_walk using wpAny_loadPart' hl)
      | (refine wpAny_ite_true (decide_eq_true rfl) ?_; wp_walk using wpAny_loadPart' hl))
    exact ⟨_, rfl, q⟩
def rRepA (K : PySem.W.Frag) : R2 := fun x y H Q => ∃ l k xs, x = .ref l ∧ y = .int k ∧ SqT K H l xs ∧ xs ≠ [] ∧ 0 ≤ k ∧ k ≤ 1000 ∧ xs.length ≤ 1000 ∧ (k = 1 → Q (.ref l) H) ∧ (k ≠ 1 → ∀ p, H p = none → Q (.ref p) (upd H p (.tup (List.replicate k.toNat xs).flatten)))
theorem op_repA {X : Cx} : OpR X (binaryOp .Mult) (rRepA X.K) := by
  intro pins s σ H x y v u Q I rx ry q
  obtain ⟨l, k, xs, rfl, rfl, hT, hne, k0, k1, hz, q1, q2⟩ := q
  by_cases c2 : 2 ≤ k
  · exact op_repT pins s σ H _ _ v u Q I rx ry ⟨l, k, xs, rfl, rfl, hT, hne, c2, k1, hz, q2 (by omega)⟩
  · cases rx
    obtain ⟨t, rfl⟩ := ry
    obtain ⟨its, r, ⟨⟨cls, dd, dt, sl⟩, ho, hc, n, hd⟩, hs⟩ := I.tuple hT
    simp only at hc hd
    subst hc hd
    have hk : k = 0 ∨ k = 1 := by omega
    have hle : its.length = xs.length := r.length.symm
    rcases hk with rfl | rfl
    · have he : its.toArray.isEmpty = false := by
        cases its with
        | nil => exact absurd (List.eq_nil_of_length_eq_zero hle.symm) hne
        | cons a b => rfl
      refine wpAny_binaryOp_repeat_ref (T := "tuple") (U := "int") (by decide) ⟨_, ho, rfl⟩ (fun s' => typeIs_int s' 0 t) noFill_tuple_mul F.fills_int_mul F.slot_int_rmul repeat_tuple F.slot_int_index.lookup
        (call_meets F.slot_int_rmul (typeIs_int s 0 t) F.entry_int_rmul (F.args_int_rmul_2 _ _) (int_rmul_tuple 0 t l its.toArray n dd sl) ⟨ho, rfl, ⟨_, ho, rfl⟩, call_meets F.slot_tuple_mul ⟨_, ho, rfl⟩ F.entry_tuple_mul (F.args_tuple_mul_2 _ _) (mul_none l its.toArray n dd sl t he) ⟨ho, ?_⟩⟩)
      refine ⟨.ref s.heap.objs.size, _, I.laid (t' := s.toks) (o := .tup []) (fun b ob e => Heap.get?_push_of_some _ e) (Nat.le_refl _) ?_, rfl, q2 (by decide) _ (I.hok.fresh (Nat.le_refl _))⟩
      exact ⟨Nat.zero_le _, [], .nil, IsTup.new _ _⟩
    · refine wpAny_binaryOp_repeat_ref (T := "tuple") (U := "int") (by decide) ⟨_, ho, rfl⟩ (fun s' => typeIs_int s' 1 t) noFill_tuple_mul F.fills_int_mul F.slot_int_rmul repeat_tuple F.slot_int_index.lookup
        (call_meets F.slot_int_rmul (typeIs_int s 1 t) F.entry_int_rmul (F.args_int_rmul_2 _ _) (int_rmul_tuple 1 t l its.toArray n dd sl) ⟨ho, rfl, ⟨_, ho, rfl⟩, call_meets F.slot_tuple_mul ⟨_, ho, rfl⟩ F.entry_tuple_mul (F.args_tuple_mul_2 _ _) (mul_one l its.toArray n dd sl t) ⟨ho, ?_⟩⟩)
      exact ⟨.ref l, H, I, rfl, q1 rfl⟩
/-- as data: (d,) * n -/
theorem rep_data {K : PySem.W.Frag} {H : Hp} {Q : VK} {x : V} {d : PyData} {k : Int} (h : Dp K H x (.tuple [d])) (n : noL d = true) (k0 : 0 ≤ k) (k1 : k ≤ 1000) (q : ∀ r H', Same H H' → Dp K H' r (.tuple (List.replicate k.toNat d)) → Q r H') : rRepA K x (.int k) H Q := by
  obtain ⟨a, xs, rfl, hs, ha⟩ := dp_tup h
  cases ha with
  | cons h1 ha =>
    cases ha
    rename_i v
    refine ⟨a, k, [v], rfl, rfl, hs, by simp, k0, k1, (by show 1 ≤ 1000; decide), fun e => ?_, fun e p hp => ?_⟩
    · subst e
      exact q _ H (Same.refl H) (.tup hs (.cons h1 .nil))
    · have s := same_new (o := .tup (List.replicate k.toNat [v]).flatten) hp
      refine q _ _ s (.tup (SqT.of upd_same) ?_)
      have e2 : ∀ m : Nat, (List.replicate m [v]).flatten = List.replicate m v := fun m => by
        induction m with
        | zero => rfl
        | succ m ih => rw [List.replicate_succ, List.flatten_cons, ih]; rfl
      rw [e2] at s ⊢
      exact dp_rep (Dp.tp (Same.tp s) _ _ n h1) _
end Wf

namespace Pv
open PySem PySem.Spec L2 Wf
variable {B : Bas}
/-! ### operations that read data and give data -/
def dats (δ : List Sl) : List R → Option (List PyData)
  | [] => some []
  | r :: rs => match dat δ r with
    | none => none
    | some d => match dats δ rs with
      | none => none
      | some ds => some (d :: ds)
inductive Vws (K : PySem.W.Frag) (G H : Hp) : List V → List PyData → Prop
  | nil : Vws K G H [] []
  | cons {v : V} {vs : List V} {d : PyData} {ds : List PyData} : Vw K G H v d → Vws K G H vs ds → Vws K G H (v :: vs) (d :: ds)
section
variable {K : PySem.W.Frag} {G H : Hp} {σ : St} {δ : List Sl} {w : Addr → Option Nat}
theorem vws_of : ∀ (rs : List R) (vs : List V) (ds : List PyData), vs.length = rs.length → (∀ (j : Nat) v q d, vs[j]? = some v → rs[j]? = some q → Pv.dat δ q = some d → Vw K G H v d) → dats δ rs = some ds → Vws K G H vs ds
  | [], [], ds, _, _, h => by
    cases h; exact .nil
  | [], v :: vs, ds, hl, _, _ => by simp at hl
  | r :: rs, [], ds, hl, _, _ => by simp at hl
  | r :: rs, v :: vs, ds, hl, hv, h => by
    unfold dats at h
    revert h
    split
    · intro h; cases h
    · rename_i d e
      split
      · intro h; cases h
      · rename_i ds' e'
        intro h; cases h
        exact .cons (hv 0 v r d rfl rfl e) (vws_of rs vs ds' (by simpa using hl) (fun j v' q d' h1 h2 h3 => hv (j + 1) v' q d' (by simpa using h1) (by simpa using h2) h3) e')
theorem Rep.vws {vs : List V} {rs : List R} {ds : List PyData} (r : Rep K B G H σ δ vs rs w) (h : dats δ rs = some ds) : Vws K G H vs ds :=
  vws_of rs vs ds r.tlen (fun _ _ _ _ hv hq hd => r.dat hv hq hd) h
end
/-- the value v of the data d: one that is there, or a new tuple -/
def Res (K : PySem.W.Frag) (G H : Hp) (v : V) (H' : Hp) (d : PyData) : Prop := (H' = H ∧ Dq K G v d) ∨ ∃ p us l, v = .ref p ∧ H p = none ∧ H' = upd H p (.tup us) ∧ DqAll K G us l ∧ d = .tuple l
theorem Res.old {K : PySem.W.Frag} {G H : Hp} {v : V} {d : PyData} (h : Dq K G v d) : Res K G H v H d := .inl ⟨rfl, h⟩
theorem Res.int {K : PySem.W.Frag} {G H : Hp} {i : Int} : Res K G H (.int i) H (.int i) := .inl ⟨rfl, .int i⟩
theorem Res.bool {K : PySem.W.Frag} {G H : Hp} {i : Bool} : Res K G H (.bl i) H (.bool i) := .inl ⟨rfl, .bl i⟩
theorem Res.str {K : PySem.W.Frag} {G H : Hp} {i : Str} : Res K G H (.str i) H (.str i) := .inl ⟨rfl, .str i⟩
def qD (f : List PyData → (PyData → Prop) → Prop) : List R → PX := fun rs δ Q => match dats δ rs with
  | some ds => f ds fun d => Q (.im d) δ
  | none => False
def qL (f : List PyData → (List PyData → Prop) → Prop) : List R → PX := fun rs δ Q => match dats δ rs with
  | some ds => f ds fun l => Q (.ow (.lst l)) δ
  | none => False
theorem dq_newTup {K : PySem.W.Frag} {G H : Hp} {p : Addr} {us : List V} {l : List PyData} (s : Same G H) (hp : H p = none) (h : DqAll K G us l) : Dq K (upd G p (.tup us)) (.ref p) (.tuple l) := by
  have gp : G p = none := by
    cases e : G p with
    | none => rfl
    | some u => rw [s p u e] at hp; cases hp
  exact .tup (SqT.of upd_same) (dpAll_mono (same_new gp) _ _ h)
theorem lc_im {K : PySem.W.Frag} {f : List PyData → (PyData → Prop) → Prop} {r : List V → Hp → VK → Prop}
    (h : ∀ G H vs ds Q, Same G H → Vws K G H vs ds → f ds (fun d => ∀ v H', Res K G H v H' d → Q v H') → (∀ k k' : PyData → Prop, (∀ d, k d → k' d) → f ds k → f ds k') → r vs H Q) (mono : ∀ ds (k k' : PyData → Prop), (∀ d, k d → k' d) → f ds k → f ds k') : LC K (qD f) r := by
  intro B G H σ δ vs rs w Qp Q rep q k
  unfold qD at q
  revert q
  split
  · rename_i ds e
    intro q
    refine h G H vs ds Q rep.sub (rep.vws e) (mono ds _ _ (fun d hd v H' res => ?_) q) (mono ds)
    rcases res with ⟨rfl, hq⟩ | ⟨p, us, l, rfl, hp, rfl, hus, rfl⟩
    · exact k _ δ v _ G _ hd .drop (rep.ret hq)
    · obtain ⟨s1, r1⟩ := rep.retNew hp (dq_newTup rep.sub hp hus)
      exact k _ δ _ _ _ _ hd s1 r1
  · intro q; exact q.elim
theorem lc_own {K : PySem.W.Frag} {f : List PyData → (List PyData → Prop) → Prop} {r : List V → Hp → VK → Prop}
    (h : ∀ G H vs ds Q, Same G H → Vws K G H vs ds → f ds (fun l => ∀ us p, DqAll K G us l → H p = none → Q (.ref p) (upd H p (.lst us))) → r vs H Q) (mono : ∀ ds (k k' : List PyData → Prop), (∀ d, k d → k' d) → f ds k → f ds k') : LC K (qL f) r := by
  intro B G H σ δ vs rs w Qp Q rep q k
  unfold qL at q
  revert q
  split
  · rename_i ds e
    intro q
    refine h G H vs ds Q rep.sub (rep.vws e) (mono ds _ _ (fun l hd us p hus hp => ?_) q)
    obtain ⟨w', s1, r1⟩ := rep.retLst hp hus
    exact k _ δ _ _ _ _ hd s1 r1
  · intro q; exact q.elim
/-- one of two readings -/
def qOr (q q' : List R → PX) : List R → PX := fun rs δ Q => q rs δ Q ∨ q' rs δ Q
theorem lc_or {K : PySem.W.Frag} {q q' : List R → PX} {r r' : R2} (h : LC K q (ap2 r)) (h' : LC K q' (ap2 r')) : LC K (qOr q q') (ap2 fun x y H Q => r x y H Q ∨ r' x y H Q) := by
  intro B G H σ δ vs rs w Qp Q rep hq k
  match vs, hq with
  | [x, y], .inl hq => exact .inl (h G H σ δ [x, y] rs w Qp Q rep hq k)
  | [x, y], .inr hq => exact .inr (h' G H σ δ [x, y] rs w Qp Q rep hq k)
  | [], .inl hq => exact h G H σ δ [] rs w Qp Q rep hq k
  | [], .inr hq => exact h' G H σ δ [] rs w Qp Q rep hq k
  | [x], .inl hq => exact h G H σ δ [x] rs w Qp Q rep hq k
  | [x], .inr hq => exact h' G H σ δ [x] rs w Qp Q rep hq k
  | x :: y :: z :: vs, .inl hq => exact h G H σ δ (x :: y :: z :: vs) rs w Qp Q rep hq k
  | x :: y :: z :: vs, .inr hq => exact h' G H σ δ (x :: y :: z :: vs) rs w Qp Q rep hq k
theorem op_or {X : Cx} {f : Value → Value → Sem Value} {r r' : R2} (h : OpR X f r) (h' : OpR X f r') : OpR X f (fun x y H Q => r x y H Q ∨ r' x y H Q) := by
  intro pins s σ H x y v u Q I rx ry q
  rcases q with q | q
  · exact h pins s σ H x y v u Q I rx ry q
  · exact h' pins s σ H x y v u Q I rx ry q
/-! ### arithmetic -/
def fI2 (C : Int → Int → Prop) (g : Int → Int → PyData) : List PyData → (PyData → Prop) → Prop
  | [.int a, .int b], k => C a b ∧ k (g a b)
  | _, _ => False
theorem fI2_mono {C : Int → Int → Prop} {g : Int → Int → PyData} : ∀ ds (k k' : PyData → Prop), (∀ d, k d → k' d) → fI2 C g ds k → fI2 C g ds k' := by
  intro ds k k' h q
  unfold fI2 at q ⊢
  split at q
  · exact ⟨q.1, h _ q.2⟩
  · exact q.elim
theorem lc_I2 {K : PySem.W.Frag} {C : Int → Int → Prop} {g : Int → Int → PyData} {gv : Int → Int → V} (hg : ∀ a b G, Dq K G (gv a b) (g a b)) : LC K (qD (fI2 C g)) (ap2 (rI C gv)) := by
  refine lc_im (fun G H vs ds Q s hv q _ => ?_) fI2_mono
  unfold fI2 at q
  split at q
  · cases hv with
    | cons h1 hv =>
      cases hv with
      | cons h2 hv =>
        cases hv
        exact ⟨_, _, h1.int, h2.int, q.1, q.2 _ _ (.old (hg _ _ G))⟩
  · exact q.elim
def T2 (_ _ : Int) : Prop := True
theorem rI_0 {g : Int → Int → V} {x y : V} {H : Hp} {Q : VK} (h : rI T2 g x y H Q) : rI0 g x y H Q := by
  obtain ⟨i, j, h1, h2, _, q⟩ := h
  exact ⟨i, j, h1, h2, q⟩
theorem lc_wk {K : PySem.W.Frag} {q : List R → PX} {r r' : R2} (h : LC K q (ap2 r)) (k : ∀ x y H Q, r x y H Q → r' x y H Q) : LC K q (ap2 r') := by
  intro B G H σ δ vs rs w Qp Q rep hq kk
  match vs with
  | [x, y] => exact k x y H Q (h G H σ δ [x, y] rs w Qp Q rep hq kk)
  | [] => exact h G H σ δ [] rs w Qp Q rep hq kk
  | [x] => exact h G H σ δ [x] rs w Qp Q rep hq kk
  | x :: y :: z :: vs => exact h G H σ δ (x :: y :: z :: vs) rs w Qp Q rep hq kk
theorem lc_I0 {K : PySem.W.Frag} {g : Int → Int → PyData} {gv : Int → Int → V} (hg : ∀ a b G, Dq K G (gv a b) (g a b)) : LC K (qD (fI2 T2 g)) (ap2 (rI0 gv)) := lc_wk (lc_I2 hg) fun _ _ _ _ h => rI_0 h
/-- sums: numbers, tuples, texts, lists -/
def fCat : List PyData → (PyData → Prop) → Prop
  | [.tuple a, .tuple b], k => a.length + b.length ≤ sizeLine ∧ k (.tuple (a ++ b))
  | _, _ => False
def fCatL : List PyData → (List PyData → Prop) → Prop
  | [.list a, .list b], k => a.length + b.length ≤ sizeLine ∧ k (a ++ b)
  | _, _ => False
def fCatS : List PyData → (PyData → Prop) → Prop
  | [.str a, .str b], k => a.length + b.length ≤ sizeLine ∧ k (.str (a ++ b))
  | _, _ => False
theorem dqAll_len {K : PySem.W.Frag} {G : Hp} : ∀ {us : List V} {ds : List PyData}, DqAll K G us ds → us.length = ds.length
  | _, _, .nil => rfl
  | _, _, .cons _ h => congrArg (· + 1) (dqAll_len h)
theorem dqAll_append {K : PySem.W.Frag} {G : Hp} : ∀ {us us' : List V} {ds ds' : List PyData}, DqAll K G us ds → DqAll K G us' ds' → DqAll K G (us ++ us') (ds ++ ds')
  | _, _, _, _, .nil, h => h
  | _, _, _, _, .cons h1 h2, h => .cons h1 (dqAll_append h2 h)
theorem dqAll_nil {K : PySem.W.Frag} {G : Hp} {us : List V} (h : DqAll K G us []) : us = [] := by cases h; rfl
theorem dqAll_nil' {K : PySem.W.Frag} {G : Hp} {ds : List PyData} (h : DqAll K G [] ds) : ds = [] := by cases h; rfl
theorem lc_cat {K : PySem.W.Frag} : LC K (qD fCat) (ap2 (rCatA K)) := by
  refine lc_im (fun G H vs ds Q s hv q _ => ?_) (fun ds k k' h q => ?_)
  · unfold fCat at q
    split at q
    · cases hv with
      | cons h1 hv =>
        cases hv with
        | cons h2 hv =>
          cases hv
          obtain ⟨p1, u1, rfl, t1, d1, e1⟩ := h1.seqT s
          obtain ⟨p2, u2, rfl, t2, d2, e2⟩ := h2.seqT s
          have l1 := dqAll_len d1
          have l2 := dqAll_len d2
          refine ⟨p1, p2, u1, u2, rfl, rfl, t1, t2, by omega, fun z => ?_, fun z1 z2 => ?_, fun z1 z2 p hp => ?_⟩
          · subst z
            rw [dqAll_nil' d1, List.nil_append] at q
            exact q.2 _ _ (.old e2)
          · subst z2
            rw [dqAll_nil' d2, List.append_nil] at q
            exact q.2 _ _ (.old e1)
          · exact q.2 _ _ (.inr ⟨p, _, _, rfl, hp, rfl, dqAll_append d1 d2, rfl⟩)
    · exact q.elim
  · unfold fCat at q ⊢
    split at q
    · exact ⟨q.1, h _ q.2⟩
    · exact q.elim
theorem lc_catS {K : PySem.W.Frag} : LC K (qD fCatS) (ap2 fun x y H Q => ∃ i j, x = .str i ∧ y = .str j ∧ i.length + j.length ≤ sizeLine ∧ Q (.str (i ++ j)) H) := by
  refine lc_im (fun G H vs ds Q s hv q _ => ?_) (fun ds k k' h q => ?_)
  · unfold fCatS at q
    split at q
    · cases hv with
      | cons h1 hv =>
        cases hv with
        | cons h2 hv =>
          cases hv
          exact ⟨_, _, h1.str, h2.str, q.1, q.2 _ _ .str⟩
    · exact q.elim
  · unfold fCatS at q ⊢
    split at q
    · exact ⟨q.1, h _ q.2⟩
    · exact q.elim
theorem lc_catL {K : PySem.W.Frag} : LC K (qL fCatL) (ap2 rCat) := by
  refine lc_own (fun G H vs ds Q s hv q => ?_) (fun ds k k' h q => ?_)
  · unfold fCatL at q
    split at q
    · cases hv with
      | cons h1 hv =>
        cases hv with
        | cons h2 hv =>
          cases hv
          obtain ⟨p1, u1, rfl, t1, d1⟩ := h1.seqL s
          obtain ⟨p2, u2, rfl, t2, d2⟩ := h2.seqL s
          have l1 := dqAll_len d1
          have l2 := dqAll_len d2
          exact ⟨p1, p2, u1, u2, rfl, rfl, t1, t2, by omega, fun p hp => q.2 _ p (dqAll_append d1 d2) hp⟩
    · exact q.elim
  · unfold fCatL at q ⊢
    split at q
    · exact ⟨q.1, h _ q.2⟩
    · exact q.elim
/-- the plus of any two -/
def qAddU : List R → PX := fun rs δ Q => match dats δ rs with
  | some [.int a, .int b] => Q (.im (.int (a + b))) δ
  | some [.tuple a, .tuple b] => a.length + b.length ≤ sizeLine ∧ Q (.im (.tuple (a ++ b))) δ
  | some [.list a, .list b] => a.length + b.length ≤ sizeLine ∧ Q (.ow (.lst (a ++ b))) δ
  | some [.str a, .str b] => a.length + b.length ≤ sizeLine ∧ Q (.im (.str (a ++ b))) δ
  | _ => False
theorem LC.wq {K : PySem.W.Frag} {q q' : List R → PX} {r : List V → Hp → VK → Prop} (h : LC K q r) (k : ∀ rs δ Q, q' rs δ Q → q rs δ Q) : LC K q' r := fun {B} G H σ δ vs rs w Qp Q rep hq kk => h G H σ δ vs rs w Qp Q rep (k rs δ Qp hq) kk
def rAddU (K : PySem.W.Frag) : R2 := fun x y H Q => qAdd x y H Q ∨ (rCatA K x y H Q ∨ (rCat x y H Q ∨ ∃ i j, x = .str i ∧ y = .str j ∧ i.length + j.length ≤ sizeLine ∧ Q (.str (i ++ j)) H))
theorem op_addU {X : Cx} : OpR X (binaryOp .Add) (rAddU X.K) := op_or op_add (op_or op_catA (op_or op_cat op_add_str))
theorem lc_addU {K : PySem.W.Frag} : LC K qAddU (ap2 (rAddU K)) := by
  refine LC.wq (lc_or (lc_I0 (g := fun a b => .int (a + b)) fun a b G => .int _) (lc_or lc_cat (lc_or lc_catL lc_catS))) fun rs δ Q h => ?_
  unfold qAddU at h
  split at h
  · rename_i a b e
    exact .inl (by unfold qD; rw [e]; exact ⟨trivial, h⟩)
  · rename_i a b e
    exact .inr (.inl (by unfold qD; rw [e]; exact h))
  · rename_i a b e
    exact .inr (.inr (.inl (by unfold qL; rw [e]; exact h)))
  · rename_i a b e
    exact .inr (.inr (.inr (by unfold qD; rw [e]; exact h)))
  · exact h.elim
section
variable {X : Cx} {a b : Expr} {pos : Pos} {pa pb : PX}
def pAdd (pa pb : PX) : PX := pC qAddU (pCons pa (pCons pb pNil))
theorem je_add (ha : JE X B a pa) (hb : JE X B b pb) : JE X B (.BinOp a .Add b pos) (pAdd pa pb) := je_op op_addU lc_addU ha hb
def pSub (pa pb : PX) : PX := pC (qD (fI2 T2 fun a b => .int (a - b))) (pCons pa (pCons pb pNil))
theorem je_sub (ha : JE X B a pa) (hb : JE X B b pb) : JE X B (.BinOp a .Sub b pos) (pSub pa pb) := je_op op_sub (lc_I0 fun a b G => .int _) ha hb
/-- one factor below 2 ^ 64, or both together below a million bits -/
def CMu (i j : Int) : Prop := CMul i j ∨ CMulW i j
def fRepL : List PyData → (List PyData → Prop) → Prop
  | [.list a, .int n], k => -(2 ^ 63) ≤ n ∧ n < 2 ^ 63 ∧ a.length * n.toNat ≤ sizeLine ∧ k (List.replicate n.toNat a).flatten
  | _, _ => False
def fRepT : List PyData → (PyData → Prop) → Prop
  | [.tuple a, .int n], k => a ≠ [] ∧ 0 ≤ n ∧ n ≤ 1000 ∧ a.length ≤ 1000 ∧ k (.tuple (List.replicate n.toNat a).flatten)
  | _, _ => False
theorem dqAll_rep {K : PySem.W.Frag} {G : Hp} {us : List V} {ds : List PyData} (h : DqAll K G us ds) : ∀ n : Nat, DqAll K G (List.replicate n us).flatten (List.replicate n ds).flatten
  | 0 => .nil
  | n + 1 => by
    rw [List.replicate_succ, List.replicate_succ, List.flatten_cons, List.flatten_cons]
    exact dqAll_append h (dqAll_rep h n)
theorem lc_repL {K : PySem.W.Frag} : LC K (qL fRepL) (ap2 rRep) := by
  refine lc_own (fun G H vs ds Q s hv q => ?_) (fun ds k k' h q => ?_)
  · unfold fRepL at q
    split at q
    · cases hv with
      | cons h1 hv =>
        cases hv with
        | cons h2 hv =>
          cases hv
          obtain ⟨p1, u1, rfl, t1, d1⟩ := h1.seqL s
          have l1 := dqAll_len d1
          exact ⟨p1, _, u1, rfl, h2.int, t1, q.1, q.2.1, by rw [l1]; exact q.2.2.1, fun p hp => q.2.2.2 _ p (dqAll_rep d1 _) hp⟩
    · exact q.elim
  · unfold fRepL at q ⊢
    split at q
    · exact ⟨q.1, q.2.1, q.2.2.1, h _ q.2.2.2⟩
    · exact q.elim
theorem lc_repT {K : PySem.W.Frag} : LC K (qD fRepT) (ap2 (rRepA K)) := by
  refine lc_im (fun G H vs ds Q s hv q _ => ?_) (fun ds k k' h q => ?_)
  · unfold fRepT at q
    split at q
    · rename_i a n k
      cases hv with
      | cons h1 hv =>
        cases hv with
        | cons h2 hv =>
          cases hv
          obtain ⟨p1, u1, rfl, t1, d1, e1⟩ := h1.seqT s
          have l1 := dqAll_len d1
          obtain ⟨q1, q2, q3, q4, q5⟩ := q
          refine ⟨p1, _, u1, rfl, h2.int, t1, fun z => ?_, q2, q3, by omega, fun z => ?_, fun z p hp => ?_⟩
          · subst z; exact q1 (dqAll_nil' d1)
          · subst z
            refine q5 _ _ (.old ?_)
            show Dq K G _ (.tuple (List.replicate 1 a).flatten)
            rw [List.replicate_one, List.flatten_cons, List.flatten_nil, List.append_nil]
            exact e1
          · exact q5 _ _ (.inr ⟨p, _, _, rfl, hp, rfl, dqAll_rep d1 _, rfl⟩)
    · exact q.elim
  · unfold fRepT at q ⊢
    split at q
    · exact ⟨q.1, q.2.1, q.2.2.1, q.2.2.2.1, h _ q.2.2.2.2⟩
    · exact q.elim
def qMulU : List R → PX := fun rs δ Q => match dats δ rs with
  | some [.int a, .int b] => CMu a b ∧ Q (.im (.int (a * b))) δ
  | some [.list a, .int n] => -(2 ^ 63) ≤ n ∧ n < 2 ^ 63 ∧ a.length * n.toNat ≤ sizeLine ∧ Q (.ow (.lst (List.replicate n.toNat a).flatten)) δ
  | some [.tuple a, .int n] => a ≠ [] ∧ 0 ≤ n ∧ n ≤ 1000 ∧ a.length ≤ 1000 ∧ Q (.im (.tuple (List.replicate n.toNat a).flatten)) δ
  | _ => False
def rMulU (K : PySem.W.Frag) : R2 := fun x y H Q => (qMul x y H Q ∨ rI CMulW (fun i j => .int (i * j)) x y H Q) ∨ (rRep x y H Q ∨ rRepA K x y H Q)
theorem op_mulU : OpR X (binaryOp .Mult) (rMulU X.K) := op_or (op_or op_mul op_mulW) (op_or op_rep op_repA)
theorem lc_mulU {K : PySem.W.Frag} : LC K qMulU (ap2 (rMulU K)) := by
  refine LC.wq (lc_or (lc_or (lc_I2 (C := CMul) (g := fun a b => .int (a * b)) fun a b G => .int _) (lc_I2 (C := CMulW) (g := fun a b => .int (a * b)) fun a b G => .int _)) (lc_or lc_repL lc_repT)) fun rs δ Q h => ?_
  unfold qMulU at h
  split at h
  · rename_i a b e
    rcases h with ⟨h1 | h1, h⟩
    · exact .inl (.inl (by unfold qD; rw [e]; exact ⟨h1, h⟩))
    · exact .inl (.inr (by unfold qD; rw [e]; exact ⟨h1, h⟩))
  · rename_i a b e
    exact .inr (.inl (by unfold qL; rw [e]; exact h))
  · rename_i a b e
    exact .inr (.inr (by unfold qD; rw [e]; exact h))
  · exact h.elim
def pMul (pa pb : PX) : PX := pC qMulU (pCons pa (pCons pb pNil))
theorem je_mul (ha : JE X B a pa) (hb : JE X B b pb) : JE X B (.BinOp a .Mult b pos) (pMul pa pb) := je_op op_mulU lc_mulU ha hb
def pFdiv (pa pb : PX) : PX := pC (qD (fI2 CDivW fun a b => .int (a / b))) (pCons pa (pCons pb pNil))
theorem je_fdiv (ha : JE X B a pa) (hb : JE X B b pb) : JE X B (.BinOp a .FloorDiv b pos) (pFdiv pa pb) := je_op op_fdivW (lc_I2 fun a b G => .int _) ha hb
def CMod (_ j : Int) : Prop := 0 < j
def pMod (pa pb : PX) : PX := pC (qD (fI2 CMod fun a b => .int (a % b))) (pCons pa (pCons pb pNil))
theorem je_mod (ha : JE X B a pa) (hb : JE X B b pb) : JE X B (.BinOp a .Mod b pos) (pMod pa pb) := je_op op_mod (lc_I2 fun a b G => .int _) ha hb
def pPow (pa pb : PX) : PX := pC (qD (fI2 CPow fun a b => .int (a ^ b.toNat))) (pCons pa (pCons pb pNil))
theorem je_pow (ha : JE X B a pa) (hb : JE X B b pb) : JE X B (.BinOp a .Pow b pos) (pPow pa pb) := je_op op_pow (lc_I2 fun a b G => .int _) ha hb
def fNeg : List PyData → (PyData → Prop) → Prop
  | [.int a], k => k (.int (-a))
  | _, _ => False
theorem lc_neg {K : PySem.W.Frag} : LC K (qD fNeg) (ap1 qNeg) := by
  refine lc_im (fun G H vs ds Q s hv q _ => ?_) (fun ds k k' h q => ?_)
  · unfold fNeg at q
    split at q
    · cases hv with
      | cons h1 hv =>
        cases hv
        exact ⟨_, h1.int, q _ _ .int⟩
    · exact q.elim
  · unfold fNeg at q ⊢
    split at q
    · exact h _ q
    · exact q.elim
def pNeg (pa : PX) : PX := pC (qD fNeg) (pCons pa pNil)
theorem je_neg (ha : JE X B a pa) : JE X B (.UnaryOp .USub a pos) (pNeg pa) := je_un un_neg lc_neg ha
/-! ### comparisons -/
def pCmp (f : Int → Int → Bool) (pa pb : PX) : PX := pC (qD (fI2 T2 fun a b => .bool (f a b))) (pCons pa (pCons pb pNil))
abbrev pLt := pCmp fun a b => decide (a < b)
abbrev pLe := pCmp fun a b => decide (a ≤ b)
abbrev pGt := pCmp fun a b => decide (b < a)
abbrev pGe := pCmp fun a b => decide (b ≤ a)
theorem je_lt (ha : JE X B a pa) (hb : JE X B b pb) : JE X B (.Compare a [.Lt] [b] pos) (pLt pa pb) := je_cmp op_lt (lc_I0 fun a b G => .bl _) ha hb (nomark _)
theorem je_le (ha : JE X B a pa) (hb : JE X B b pb) : JE X B (.Compare a [.LtE] [b] pos) (pLe pa pb) := je_cmp op_le (lc_I0 fun a b G => .bl _) ha hb (nomark _)
theorem je_gt (ha : JE X B a pa) (hb : JE X B b pb) : JE X B (.Compare a [.Gt] [b] pos) (pGt pa pb) := je_cmp op_gt (lc_I0 fun a b G => .bl _) ha hb (nomark _)
theorem je_ge (ha : JE X B a pa) (hb : JE X B b pb) : JE X B (.Compare a [.GtE] [b] pos) (pGe pa pb) := je_cmp op_ge (lc_I0 fun a b G => .bl _) ha hb (nomark _)
theorem jb_lt (ha : JE X B a pa) (hb : JE X B b pb) : JB X B (.Compare a [.Lt] [b] pos) (pT (pLt pa pb)) := jb_cmp op_lt (lc_I0 fun a b G => .bl _) ha hb (nomark _)
theorem jb_le (ha : JE X B a pa) (hb : JE X B b pb) : JB X B (.Compare a [.LtE] [b] pos) (pT (pLe pa pb)) := jb_cmp op_le (lc_I0 fun a b G => .bl _) ha hb (nomark _)
theorem jb_gt (ha : JE X B a pa) (hb : JE X B b pb) : JB X B (.Compare a [.Gt] [b] pos) (pT (pGt pa pb)) := jb_cmp op_gt (lc_I0 fun a b G => .bl _) ha hb (nomark _)
theorem jb_ge (ha : JE X B a pa) (hb : JE X B b pb) : JB X B (.Compare a [.GtE] [b] pos) (pT (pGe pa pb)) := jb_cmp op_ge (lc_I0 fun a b G => .bl _) ha hb (nomark _)
/-- equal: of any data -/
def eqd (x y : PyData) : Bool := PyData.eqv x y
def fEq (neg : Bool) : List PyData → (PyData → Prop) → Prop
  | [.int a, .int b], k => k (.bool (if neg then !decide (a = b) else decide (a = b)))
  | [.str a, .str b], k => k (.bool (if neg then !decide (a = b) else decide (a = b)))
  | [a, b], k => SeqAt.shaped a = true ∧ SeqAt.shaped b = true ∧ k (.bool (if neg then !eqd a b else eqd a b))
  | _, _ => False
theorem fEq_mono {neg : Bool} : ∀ ds (k k' : PyData → Prop), (∀ d, k d → k' d) → fEq neg ds k → fEq neg ds k' := by
  intro ds k k' h q
  unfold fEq at q ⊢
  split at q
  · exact h _ q
  · exact h _ q
  · exact ⟨q.1, q.2.1, h _ q.2.2⟩
  · exact q.elim
def rEqU (K : PySem.W.Frag) : R2 := fun x y H Q => rEq x y H Q ∨ rEqD K x y H Q
def rNeU (K : PySem.W.Frag) : R2 := fun x y H Q => rNe x y H Q ∨ rNeD K x y H Q
theorem dec_int {a b : Int} : decide (V.int a = V.int b) = decide (a = b) := by
  by_cases h : a = b
  · subst h; simp
  · rw [decide_eq_false h, decide_eq_false fun z => h (V.int.inj z)]
theorem dec_str {a b : Str} : decide (V.str a = V.str b) = decide (a = b) := by
  by_cases h : a = b
  · subst h; simp
  · rw [decide_eq_false h, decide_eq_false fun z => h (V.str.inj z)]
theorem lc_eqU {K : PySem.W.Frag} : LC K (qD (fEq false)) (ap2 (rEqU K)) := by
  refine lc_im (fun G H vs ds Q s hv q _ => ?_) fEq_mono
  unfold fEq at q
  split at q
  · cases hv with
    | cons h1 hv =>
      cases hv with
      | cons h2 hv =>
        cases hv
        refine .inl ⟨by rw [h1.int, h2.int]; rfl, ?_⟩
        rw [h1.int, h2.int, dec_int]
        exact q _ _ .bool
  · cases hv with
    | cons h1 hv =>
      cases hv with
      | cons h2 hv =>
        cases hv
        refine .inl ⟨by rw [h1.str, h2.str]; rfl, ?_⟩
        rw [h1.str, h2.str, dec_str]
        exact q _ _ .bool
  · cases hv with
    | cons h1 hv =>
      cases hv with
      | cons h2 hv =>
        cases hv
        exact .inr ⟨_, _, h1.dp s, h2.dp s, q.1, q.2.1, q.2.2 _ _ .bool⟩
  · exact q.elim
theorem lc_neU {K : PySem.W.Frag} : LC K (qD (fEq true)) (ap2 (rNeU K)) := by
  refine lc_im (fun G H vs ds Q s hv q _ => ?_) fEq_mono
  unfold fEq at q
  split at q
  · cases hv with
    | cons h1 hv =>
      cases hv with
      | cons h2 hv =>
        cases hv
        refine .inl ⟨by rw [h1.int, h2.int]; rfl, ?_⟩
        rw [h1.int, h2.int, dec_int]
        exact q _ _ .bool
  · cases hv with
    | cons h1 hv =>
      cases hv with
      | cons h2 hv =>
        cases hv
        refine .inl ⟨by rw [h1.str, h2.str]; rfl, ?_⟩
        rw [h1.str, h2.str, dec_str]
        exact q _ _ .bool
  · cases hv with
    | cons h1 hv =>
      cases hv with
      | cons h2 hv =>
        cases hv
        exact .inr ⟨_, _, h1.dp s, h2.dp s, q.1, q.2.1, q.2.2 _ _ .bool⟩
  · exact q.elim
theorem op_eqU (hu : X.A.units + 64 < cLine) : OpR X (compareOp .Eq) (rEqU X.K) := op_or op_eq (op_eqD hu)
theorem op_neU (hu : X.A.units + 64 < cLine) : OpR X (compareOp .NotEq) (rNeU X.K) := op_or op_ne (op_neD hu)
def pEq (neg : Bool) (pa pb : PX) : PX := pC (qD (fEq neg)) (pCons pa (pCons pb pNil))
theorem je_eq {j : Nat} (hr : Room j X.A) (ha : JE X B a pa) (hb : JE X B b pb) : JE X B (.Compare a [.Eq] [b] pos) (pEq false pa pb) := je_cmp (op_eqU hr.units) lc_eqU ha hb (nomark _)
theorem je_ne {j : Nat} (hr : Room j X.A) (ha : JE X B a pa) (hb : JE X B b pb) : JE X B (.Compare a [.NotEq] [b] pos) (pEq true pa pb) := je_cmp (op_neU hr.units) lc_neU ha hb (nomark _)
theorem jb_eq {j : Nat} (hr : Room j X.A) (ha : JE X B a pa) (hb : JE X B b pb) : JB X B (.Compare a [.Eq] [b] pos) (pT (pEq false pa pb)) := jb_cmp (op_eqU hr.units) lc_eqU ha hb (nomark _)
theorem jb_ne {j : Nat} (hr : Room j X.A) (ha : JE X B a pa) (hb : JE X B b pb) : JB X B (.Compare a [.NotEq] [b] pos) (pT (pEq true pa pb)) := jb_cmp (op_neU hr.units) lc_neU ha hb (nomark _)
/-! ### items -/
def fIx : List PyData → (PyData → Prop) → Prop
  | [.list ds, .int i], k => ∃ d, atI ds i = some d ∧ k d
  | [.tuple ds, .int i], k => ∃ d, atI ds i = some d ∧ k d
  | _, _ => False
theorem dqAll_get {K : PySem.W.Frag} {G : Hp} : ∀ {us : List V} {ds : List PyData} {i : Nat} {d : PyData}, DqAll K G us ds → ds[i]? = some d → ∃ v, us[i]? = some v ∧ Dq K G v d
  | _, _, _, _, .nil, e => by simp at e
  | _, _, 0, _, .cons h _, e => by simp at e; subst e; exact ⟨_, rfl, h⟩
  | _, _, i + 1, _, .cons _ h, e => by
    obtain ⟨v, e1, e2⟩ := dqAll_get (i := i) h (by simpa using e)
    exact ⟨v, by simpa using e1, e2⟩
theorem dqAll_at {K : PySem.W.Frag} {G : Hp} {us : List V} {ds : List PyData} {i : Int} {d : PyData} (h : DqAll K G us ds) (e : atI ds i = some d) : ∃ v, atI us i = some v ∧ Dq K G v d := by
  unfold atI at e ⊢
  rw [dqAll_len h]
  cases q : ixN ds.length i with
  | none => rw [q] at e; cases e
  | some j =>
    rw [q] at e
    exact dqAll_get h e
theorem lc_ix {K : PySem.W.Frag} : LC K (qD fIx) (ap2 (rIx K)) := by
  refine lc_im (fun G H vs ds Q s hv q _ => ?_) (fun ds k k' h q => ?_)
  · unfold fIx at q
    split at q
    · cases hv with
      | cons h1 hv =>
        cases hv with
        | cons h2 hv =>
          cases hv
          obtain ⟨d, e, q⟩ := q
          obtain ⟨p1, u1, rfl, t1, d1⟩ := h1.seqL s
          obtain ⟨v, e2, hd⟩ := dqAll_at d1 e
          exact .inl ⟨p1, u1, _, v, rfl, h2.int, SqL.of t1, e2, q _ _ (.old hd)⟩
    · cases hv with
      | cons h1 hv =>
        cases hv with
        | cons h2 hv =>
          cases hv
          obtain ⟨d, e, q⟩ := q
          obtain ⟨p1, u1, rfl, t1, d1, _⟩ := h1.seqT s
          obtain ⟨v, e2, hd⟩ := dqAll_at d1 e
          exact .inr (.inl ⟨p1, u1, _, v, rfl, h2.int, t1, e2, q _ _ (.old hd)⟩)
    · exact q.elim
  · unfold fIx at q ⊢
    split at q
    · obtain ⟨d, e, q⟩ := q; exact ⟨d, e, h _ q⟩
    · obtain ⟨d, e, q⟩ := q; exact ⟨d, e, h _ q⟩
    · exact q.elim
def pIx (pa pb : PX) : PX := pC (qD fIx) (pCons pa (pCons pb pNil))
theorem je_ix (ha : JE X B a pa) (hb : JE X B b pb) (hs : PlainIx b) : JE X B (.Subscript a b pos) (pIx pa pb) := PE_wk (pe_ix ix_seq ha hb hs) fun σ H Q h => lc_two lc_ix h
end
/-! ### is -/
section
variable {X : Cx} {a b : Expr} {pos : Pos} {pa pb : PX}
end
end Pv

namespace Pv
open PySem PySem.Spec L2 Wf
variable {B : Bas}
/-! ### a list of one's own that changes no more -/
def fz (δ : List Sl) : R → Option (PyData × List Sl)
  | .im d => some (d, δ)
  | .ow (.lst ds) => some (.list ds, δ)
  | .ow (.ptl ds) => some (.tuple ds, δ)
  | .ow _ => none
  | .at i => match δ[i]? with
    | some (.im d) => some (d, δ)
    | some (.ow false (.lst ds)) => some (.list ds, δ.set i (.im (.list ds)))
    | some (.ow _ (.ptl ds)) => some (.tuple ds, δ)
    | _ => none
def fzAll : List Sl → List R → Option (List PyData × List Sl)
  | δ, [] => some ([], δ)
  | δ, r :: rs => match fz δ r with
    | none => none
    | some (d, δ1) => match fzAll δ1 rs with
      | none => none
      | some (ds, δ2) => some (d :: ds, δ2)
section
variable {K : PySem.W.Frag} {G H : Hp} {σ : St} {δ : List Sl} {vs : List V} {rs : List R} {w : Addr → Option Nat}
/-- what was n's, now nobody's, its list public -/
def freed (w : Addr → Option Nat) (n : Nat) (a : Addr) : Option Nat := if w a = some n then none else w a
theorem freed_ne {w : Addr → Option Nat} {n m : Nat} {a : Addr} (h : w a = some m) (hn : m ≠ n) : freed w n a = some m := by
  unfold freed
  rw [if_neg (by rw [h]; intro z; cases z; exact hn rfl)]
  exact h
theorem of_freed {w : Addr → Option Nat} {n m : Nat} {a : Addr} (h : freed w n a = some m) : w a = some m ∧ m ≠ n := by
  unfold freed at h
  split at h
  · cases h
  · rename_i z
    exact ⟨h, fun e => z (by rw [h, e])⟩
theorem Rep.frees (r : Rep K B G H σ δ vs rs w) {n : Nat} {a : Addr} {us : List V} {δ' : List Sl} (ha : H a = some (.lst us)) (hw : w a = some n) (pn : Pn δ δ') :
    Same G (upd G a (.lst us)) ∧ Stp B.T G H w δ (upd G a (.lst us)) H (freed w n) δ' ∧ Same (upd G a (.lst us)) H ∧ (∀ x i, freed w n x = some i → upd G a (.lst us) x = none ∧ H x ≠ none ∧ NoX H x) := by
  have g0 := (r.out a n hw).1
  have sg : Same G (upd G a (.lst us)) := same_new g0
  refine ⟨sg, .of ⟨sg, fun _ _ _ h => h, fun x i h => .inl (by rw [(of_freed h).1]; exact Option.some_ne_none _), fun x o h => ?_, pn⟩ .refl (q_new nofun), fun x o h => ?_, fun x i h => ?_⟩
  · by_cases e : x = a
    · subst e; exact .inr (.inr (.inl (by rw [hw]; exact Option.some_ne_none _)))
    · rw [upd_ne e] at h; exact .inl h
  · by_cases e : x = a
    · subst e; rw [upd_same] at h; cases h; exact ha
    · rw [upd_ne e] at h; exact r.sub x o h
  · obtain ⟨h1, h2⟩ := of_freed h
    have e : x ≠ a := fun z => by subst z; rw [hw] at h1; cases h1; exact h2 rfl
    rw [upd_ne e]
    exact r.out x i h1
theorem pn_set {δ : List Sl} {i : Nat} {s : Sl} (h : ∀ o, δ[i]? ≠ some (.ow true o)) : Pn δ (δ.set i s) := fun j o hj => by
  by_cases e : i = j
  · subst e; exact absurd hj (h o)
  · exact ⟨o, by rw [List.getElem?_set_ne e]; exact hj⟩
theorem Rep.fz1 (r : Rep K B G H σ δ vs rs w) {j : Nat} {v : V} {q : R} {d : PyData} {δ' : List Sl} (hv : vs[j]? = some v) (hq : rs[j]? = some q) (h : fz δ q = some (d, δ')) :
    ∃ G' w', Stp B.T G H w δ G' H w' δ' ∧ Rep K B G' H σ δ' vs (rs.set j (.im d)) w' := by
  have hj : j < rs.length := (List.getElem?_eq_some_iff.mp hq).1
  have t := r.tm j v q hv hq
  have others : ∀ {G' : Hp} {w' : Addr → Option Nat}, Same G G' → (∀ a k, w a = some k → k ≠ 2 * j + 1 → k % 2 = 1 → w' a = some k) → Dq K G' v d → ∀ (k : Nat) u p, vs[k]? = some u → (rs.set j (.im d))[k]? = some p → RR K G' H σ (fun a => w' a = some (2 * k + 1)) u p := by
    intro G' w' sg hw' hd k u p hu hp
    by_cases e : j = k
    · subst e
      rw [List.getElem?_set_self hj] at hp
      cases hp
      rw [hv] at hu
      cases hu
      exact hd
    · rw [List.getElem?_set_ne e] at hp
      exact (r.tm k u p hu hp).mono sg (fun _ _ _ h => h) fun a o ma _ => hw' a _ ma (by omega) (by omega)
  cases q with
  | im d' =>
    cases h
    exact ⟨G, w, .refl, r.sub, r.out, r.len, r.sl, by rw [List.length_set]; exact r.tlen, others (fun _ _ h => h) (fun a k h _ _ => h) t, r.bs⟩
  | ow o =>
    cases o with
    | lst ds =>
      cases h
      obtain ⟨a, us, rfl, ma, ha, hds⟩ := t
      obtain ⟨sg, st, sh, ho⟩ := r.frees (δ' := δ) ha ma (.refl _)
      refine ⟨_, _, st, sh, ho, r.len, fun i s hs => ?_, by rw [List.length_set]; exact r.tlen, others sg (fun a k h1 h2 _ => freed_ne h1 h2) (.lst upd_same (dpAll_mono sg _ _ hds)), st.bs r.bs⟩
      exact (r.sl i s hs).mono sg (fun _ _ _ h => h) fun a o mb _ => freed_ne mb (by omega)
    | deal => cases h
    | scr ns => cases h
    | lam F => cases h
    | dic ks ds => cases h
    | ptl ds =>
      cases h
      exact ⟨G, w, .refl, r.sub, r.out, r.len, r.sl, by rw [List.length_set]; exact r.tlen, others (fun _ _ h => h) (fun a k h _ _ => h) (ptl_dq t), r.bs⟩
  | «at» i =>
    have t' : σ[i]? = some (some v) := t
    simp only [fz] at h
    revert h
    split
    · rename_i d' e
      intro h
      cases h
      obtain ⟨u, hu, hd⟩ := r.sl i _ e
      rw [t'] at hu
      cases hu
      exact ⟨G, w, .refl, r.sub, r.out, r.len, r.sl, by rw [List.length_set]; exact r.tlen, others (fun _ _ h => h) (fun a k h _ _ => h) hd, r.bs⟩
    · rename_i ds e
      intro h
      cases h
      obtain ⟨u, hu, a, us, rfl, ma, ha, hds⟩ := r.sl i _ e
      rw [t'] at hu
      cases hu
      obtain ⟨sg, st, sh, ho⟩ := r.frees (δ' := δ.set i (.im (.list ds))) ha ma (pn_set fun o z => by rw [e] at z; cases z)
      have hd : Dq K (upd G a (.lst us)) (.ref a) (.list ds) := .lst upd_same (dpAll_mono sg _ _ hds)
      refine ⟨_, _, st, sh, ho, by rw [List.length_set]; exact r.len, fun k s hs => ?_, by rw [List.length_set]; exact r.tlen, others sg (fun a k h1 h2 h3 => freed_ne h1 (by omega)) hd, st.bs r.bs⟩
      by_cases ek : i = k
      · subst ek
        rw [List.getElem?_set_self (List.getElem?_eq_some_iff.mp e).1] at hs
        cases hs
        exact ⟨_, t', hd⟩
      · rw [List.getElem?_set_ne ek] at hs
        exact (r.sl k s hs).mono sg (fun _ _ _ h => h) fun a o mb _ => freed_ne mb (by omega)
    · rename_i b ds e
      intro h
      cases h
      obtain ⟨u, hu, hd⟩ := r.sl i _ e
      rw [t'] at hu
      cases hu
      exact ⟨G, w, .refl, r.sub, r.out, r.len, r.sl, by rw [List.length_set]; exact r.tlen, others (fun _ _ h => h) (fun a k h _ _ => h) (ptl_dq hd), r.bs⟩
    · intro h; cases h
theorem Rep.fzGo : ∀ (rs2 : List R) (rs1 : List R) {G : Hp} {δ δ' : List Sl} {w : Addr → Option Nat} {ds : List PyData}, Rep K B G H σ δ vs (rs1 ++ rs2) w → fzAll δ rs2 = some (ds, δ') → ∃ G' w', Stp B.T G H w δ G' H w' δ' ∧ Rep K B G' H σ δ' vs (rs1 ++ ds.map .im) w'
  | [], rs1, G, δ, δ', w, ds, r, h => by
    cases h
    exact ⟨G, w, .refl, r⟩
  | q :: rs2, rs1, G, δ, δ', w, ds, r, h => by
    unfold fzAll at h
    revert h
    split
    · intro h; cases h
    · rename_i d δ1 e
      split
      · intro h; cases h
      · rename_i ds' δ2 e2
        intro h
        cases h
        have hq : (rs1 ++ q :: rs2)[rs1.length]? = some q := by simp
        have hl : rs1.length < vs.length := by rw [r.tlen, List.length_append, List.length_cons]; omega
        obtain ⟨G1, w1, s1, r1⟩ := r.fz1 (v := vs[rs1.length]) (List.getElem?_eq_getElem hl) hq e
        have e3 : (rs1 ++ q :: rs2).set rs1.length (.im d) = (rs1 ++ [.im d]) ++ rs2 := by
          rw [List.set_append_right _ _ (Nat.le_refl _), Nat.sub_self, List.set_cons_zero, List.append_assoc]
          rfl
        rw [e3] at r1
        obtain ⟨G2, w2, s2, r2⟩ := Rep.fzGo rs2 (rs1 ++ [.im d]) r1 e2
        refine ⟨G2, w2, s1.trans s2, ?_⟩
        rw [List.append_assoc] at r2
        exact r2
theorem Rep.fzs (r : Rep K B G H σ δ vs rs w) {ds : List PyData} {δ' : List Sl} (h : fzAll δ rs = some (ds, δ')) : ∃ G' w', Stp B.T G H w δ G' H w' δ' ∧ Rep K B G' H σ δ' vs (ds.map .im) w' := by
  have := Rep.fzGo rs [] (by simpa using r) h
  simpa using this
theorem Rep.ims {ds : List PyData} (r : Rep K B G H σ δ vs (ds.map .im) w) : DqAll K G vs ds := by
  have hl : vs.length = ds.length := by have := r.tlen; rwa [List.length_map] at this
  have go : ∀ (vs : List V) (ds : List PyData), vs.length = ds.length → (∀ (j : Nat) v d, vs[j]? = some v → ds[j]? = some d → Dq K G v d) → DqAll K G vs ds := by
    intro vs
    induction vs with
    | nil =>
      intro ds hl _
      cases ds with
      | nil => exact .nil
      | cons => simp at hl
    | cons v vs ih =>
      intro ds hl h
      cases ds with
      | nil => simp at hl
      | cons d ds => exact .cons (h 0 v d rfl rfl) (ih ds (by simpa using hl) fun j v' d' h1 h2 => h (j + 1) v' d' (by simpa using h1) (by simpa using h2))
  refine go vs ds hl fun j v d hv hd => ?_
  exact r.tm j v (.im d) hv (by rw [List.getElem?_map, hd]; rfl)
end
/-! ### displays -/
def qTup : List R → PX := fun rs δ Q => match fzAll δ rs with
  | some (ds, δ') => Q (.im (.tuple ds)) δ'
  | none => False
def qLst : List R → PX := fun rs δ Q => match fzAll δ rs with
  | some (ds, δ') => Q (.ow (.lst ds)) δ'
  | none => False
section
variable {X : Cx}
def pTup (ps : PL) : PX := pC qTup ps
def pLst (ps : PL) : PX := pC qLst ps
theorem je_tup {es : List Expr} {ps : PL} {x1} {pos : Pos} (h : JA X B es ps) (hl : es.length ≤ sizeLine := by decide) : JE X B (.Tuple es x1 pos) (pTup ps) := by
  refine PE_wk (pe_tup h) fun σ H Q ⟨G, w, δ, Qp, rep, q, k⟩ => ?_
  refine ⟨G, w, δ, _, rep, q, fun rs δ1 vs H1 G1 w1 q1 l1 s1 rep1 => ?_⟩
  unfold qTup at q1
  revert q1
  split
  · rename_i ds δ2 e
    intro q1
    obtain ⟨G2, w2, s2, r2⟩ := rep1.fzs e
    refine ⟨by rw [rep1.tlen, l1]; exact hl, fun p hp => ?_⟩
    obtain ⟨s3, r3⟩ := r2.retNew hp (dq_newTup r2.sub hp r2.ims)
    exact k _ _ _ _ _ _ q1 ((s1.trans s2).trans s3) r3
  · intro q1; exact q1.elim
theorem je_lst {es : List Expr} {ps : PL} {pos : Pos} (h : JA X B es ps) (hl : es.length ≤ sizeLine := by decide) : JE X B (.List es pos) (pLst ps) := by
  refine PE_wk (pe_lst h) fun σ H Q ⟨G, w, δ, Qp, rep, q, k⟩ => ?_
  refine ⟨G, w, δ, _, rep, q, fun rs δ1 vs H1 G1 w1 q1 l1 s1 rep1 => ?_⟩
  unfold qLst at q1
  revert q1
  split
  · rename_i ds δ2 e
    intro q1
    obtain ⟨G2, w2, s2, r2⟩ := rep1.fzs e
    refine ⟨by rw [rep1.tlen, l1]; exact hl, fun p hp => ?_⟩
    obtain ⟨w3, s3, r3⟩ := r2.retLst hp r2.ims
    exact k _ _ _ _ _ _ q1 ((s1.trans s2).trans s3) r3
  · intro q1; exact q1.elim
/-! ### built-ins -/
theorem lc_im1 {K : PySem.W.Frag} {f : PyData → (PyData → Prop) → Prop} {r : List V → Hp → VK → Prop} (h : ∀ G H v d Q, Same G H → Vw K G H v d → f d (fun e => ∀ u H', Res K G H u H' e → Q u H') → r [v] H Q) (mono : ∀ d (k k' : PyData → Prop), (∀ e, k e → k' e) → f d k → f d k') :
    LC K (qD fun ds k => match ds with | [d] => f d k | _ => False) r := by
  refine lc_im (fun G H vs ds Q s hv q _ => ?_) (fun ds k k' hk q => ?_)
  · match ds, hv, q with
    | [d], .cons h1 .nil, q => exact h G H _ d Q s h1 q
    | [], _, q => exact q.elim
    | _ :: _ :: _, _, q => exact q.elim
  · match ds, q with
    | [d], q => exact mono d k k' hk q
    | [], q => exact q.elim
    | _ :: _ :: _, q => exact q.elim
theorem lc_im2 {K : PySem.W.Frag} {f : PyData → PyData → (PyData → Prop) → Prop} {r : List V → Hp → VK → Prop} (h : ∀ G H v u d e Q, Same G H → Vw K G H v d → Vw K G H u e → f d e (fun e => ∀ u H', Res K G H u H' e → Q u H') → r [v, u] H Q) (mono : ∀ d e (k k' : PyData → Prop), (∀ e, k e → k' e) → f d e k → f d e k') :
    LC K (qD fun ds k => match ds with | [d, e] => f d e k | _ => False) r := by
  refine lc_im (fun G H vs ds Q s hv q _ => ?_) (fun ds k k' hk q => ?_)
  · match ds, hv, q with
    | [d, e], .cons h1 (.cons h2 .nil), q => exact h G H _ _ d e Q s h1 h2 q
    | [], _, q => exact q.elim
    | [_], _, q => exact q.elim
    | _ :: _ :: _ :: _, _, q => exact q.elim
  · match ds, q with
    | [d, e], q => exact mono d e k k' hk q
    | [], q => exact q.elim
    | [_], q => exact q.elim
    | _ :: _ :: _ :: _, q => exact q.elim
theorem lc_own1 {K : PySem.W.Frag} {f : PyData → (List PyData → Prop) → Prop} {r : List V → Hp → VK → Prop} (h : ∀ G H v d Q, Same G H → Vw K G H v d → f d (fun l => ∀ us p, DqAll K G us l → H p = none → Q (.ref p) (upd H p (.lst us))) → r [v] H Q) (mono : ∀ d (k k' : List PyData → Prop), (∀ e, k e → k' e) → f d k → f d k') :
    LC K (qL fun ds k => match ds with | [d] => f d k | _ => False) r := by
  refine lc_own (fun G H vs ds Q s hv q => ?_) (fun ds k k' hk q => ?_)
  · match ds, hv, q with
    | [d], .cons h1 .nil, q => exact h G H _ d Q s h1 q
    | [], _, q => exact q.elim
    | _ :: _ :: _, _, q => exact q.elim
  · match ds, q with
    | [d], q => exact mono d k k' hk q
    | [], q => exact q.elim
    | _ :: _ :: _, q => exact q.elim
abbrev q1 (f : PyData → (PyData → Prop) → Prop) : List R → PX := qD fun ds k => match ds with | [d] => f d k | _ => False
abbrev q2 (f : PyData → PyData → (PyData → Prop) → Prop) : List R → PX := qD fun ds k => match ds with | [d, e] => f d e k | _ => False
abbrev q1L (f : PyData → (List PyData → Prop) → Prop) : List R → PX := qL fun ds k => match ds with | [d] => f d k | _ => False
def fLen : PyData → (PyData → Prop) → Prop
  | .list ds, k => k (.int ds.length)
  | .tuple ds, k => k (.int ds.length)
  | .str x, k => x.length ≤ sizeLine ∧ k (.int x.length)
  | _, _ => False
theorem lc_len {K : PySem.W.Frag} : LC K (q1 fLen) (qLen K) := by
  refine lc_im1 (fun G H v d Q s hv q => ?_) (fun d k k' hk q => ?_)
  · cases d with
    | list ds =>
      obtain ⟨a, us, rfl, ha, hds⟩ := hv.seqL s
      exact ⟨_, ds.length, rfl, .inl ⟨us, SqL.of ha, (dqAll_len hds).symm⟩, q _ _ .int⟩
    | tuple ds =>
      obtain ⟨a, us, rfl, ha, hds, _⟩ := hv.seqT s
      exact ⟨_, ds.length, rfl, .inr ⟨us, ha, (dqAll_len hds).symm⟩, q _ _ .int⟩
    | str x => exact ⟨v, x.length, rfl, by rw [hv.str]; exact ⟨q.1, rfl⟩, q.2 _ _ .int⟩
    | none => exact q.elim
    | bool b => exact q.elim
    | int i => exact q.elim
    | dict kvs => exact q.elim
  · cases d with
    | list ds => exact hk _ q
    | tuple ds => exact hk _ q
    | str x => exact ⟨q.1, hk _ q.2⟩
    | none => exact q.elim
    | bool b => exact q.elim
    | int i => exact q.elim
    | dict kvs => exact q.elim
variable {e : Expr} {es : List Expr} {p pos : Pos}
/-- a built-in by its name -/
theorem je_cb {x : Str} {id : String} {ps : PL} {q : List R → PX} {r : List V → Hp → VK → Prop} (hc : CallR X (.builtin id) r) (hl : LC X.K q r) (hg : Gl X x) (hm : X.mg x = none) (hv : bootBuiltins x = some (.builtin id)) (ha : JA X B (e :: es) ps) (hn : x ≠ "__name__" := by decide) (hdb : (x == ("__debug__" : Str)) = false := by decide)
    (he : starEach (e :: es) X.env = (false, eval e X.env) :: starEach es X.env := by rfl) (hpl : (backTo pos (starEach es X.env)).any (·.1) = false := by rfl) : JE X B (.Call (.Name x p) (e :: es) [] pos) (pC q ps) :=
  PE_wk (pe_callB hc hg hm hv ha hn hdb he hpl) fun σ H Q h => lc_args hl h
theorem je_ct {x : Str} {T : String} {ps : PL} {q : List R → PX} {r : List V → Hp → VK → Prop} (hc : CallR X (.type T) r) (hl : LC X.K q r) (hg : Gl X x) (hm : X.mg x = none) (hv : bootBuiltins x = some (.type T)) (ha : JA X B (e :: es) ps) (hn : x ≠ "__name__" := by decide) (hdb : (x == ("__debug__" : Str)) = false := by decide)
    (he : starEach (e :: es) X.env = (false, eval e X.env) :: starEach es X.env := by rfl) (hpl : (backTo pos (starEach es X.env)).any (·.1) = false := by rfl) : JE X B (.Call (.Name x p) (e :: es) [] pos) (pC q ps) :=
  PE_wk (pe_callTy hc hg hm hv ha hn hdb he hpl) fun σ H Q h => lc_args hl h
def fMax2 : PyData → PyData → (PyData → Prop) → Prop
  | .int i, .int j, k => k (.int (if j > i then j else i))
  | _, _, _ => False
def fMin2 : PyData → PyData → (PyData → Prop) → Prop
  | .int i, .int j, k => k (.int (if j < i then j else i))
  | _, _, _ => False
theorem lc_max2 {K : PySem.W.Frag} : LC K (q2 fMax2) qMax2 := by
  refine lc_im2 (fun G H v u d e Q s hv hu q => ?_) (fun d e k k' hk q => ?_)
  · unfold fMax2 at q
    split at q
    · exact ⟨_, _, by rw [hv.int, hu.int], q _ _ .int⟩
    · exact q.elim
  · unfold fMax2 at q ⊢
    split at q
    · exact hk _ q
    · exact q.elim
theorem lc_min2 {K : PySem.W.Frag} : LC K (q2 fMin2) qMin2 := by
  refine lc_im2 (fun G H v u d e Q s hv hu q => ?_) (fun d e k k' hk q => ?_)
  · unfold fMin2 at q
    split at q
    · exact ⟨_, _, by rw [hv.int, hu.int], q _ _ .int⟩
    · exact q.elim
  · unfold fMin2 at q ⊢
    split at q
    · exact hk _ q
    · exact q.elim
def fInt1 : PyData → (PyData → Prop) → Prop
  | .int i, k => k (.int i)
  | .bool b, k => k (.int (if b then 1 else 0))
  | _, _ => False
theorem lc_int1 {K : PySem.W.Frag} : LC K (q1 fInt1) qInt1 := by
  refine lc_im1 (fun G H v d Q s hv q => ?_) (fun d k k' hk q => ?_)
  · unfold fInt1 at q
    split at q
    · exact .inl ⟨_, by rw [hv.int], q _ _ .int⟩
    · exact .inr ⟨_, by rw [hv.bool], q _ _ .int⟩
    · exact q.elim
  · unfold fInt1 at q ⊢
    split at q
    · exact hk _ q
    · exact hk _ q
    · exact q.elim
def fListOf : PyData → (List PyData → Prop) → Prop
  | .list ds, k => k ds
  | .tuple ds, k => k ds
  | _, _ => False
theorem lc_listOf {K : PySem.W.Frag} : LC K (q1L fListOf) (qListOf K) := by
  refine lc_own1 (fun G H v d Q s hv q => ?_) (fun d k k' hk q => ?_)
  · unfold fListOf at q
    split at q
    · obtain ⟨a, us, rfl, ha, hds⟩ := hv.seqL s
      exact ⟨a, us, rfl, .inl (SqL.of ha), fun l hl => q us l hds hl⟩
    · obtain ⟨a, us, rfl, ha, hds, _⟩ := hv.seqT s
      exact ⟨a, us, rfl, .inr ha, fun l hl => q us l hds hl⟩
    · exact q.elim
  · unfold fListOf at q ⊢
    split at q
    · exact hk _ q
    · exact hk _ q
    · exact q.elim
def fTupleOf : PyData → (PyData → Prop) → Prop
  | .list ds, k => k (.tuple ds)
  | .tuple ds, k => k (.tuple ds)
  | _, _ => False
theorem lc_tupleOf {K : PySem.W.Frag} : LC K (q1 fTupleOf) (qTupleOf K) := by
  refine lc_im1 (fun G H v d Q s hv q => ?_) (fun d k k' hk q => ?_)
  · unfold fTupleOf at q
    split at q
    · obtain ⟨a, us, rfl, ha, hds⟩ := hv.seqL s
      exact ⟨a, us, rfl, .inl ⟨SqL.of ha, fun l hl => q _ _ (.inr ⟨l, us, _, rfl, hl, rfl, hds, rfl⟩)⟩⟩
    · obtain ⟨a, us, rfl, ha, hds, e1⟩ := hv.seqT s
      exact ⟨a, us, rfl, .inr ⟨ha, q _ _ (.old e1)⟩⟩
    · exact q.elim
  · unfold fTupleOf at q ⊢
    split at q
    · exact hk _ q
    · exact hk _ q
    · exact q.elim
def intsOf : List PyData → Option (List Int)
  | [] => some []
  | .int i :: ds => (intsOf ds).map (i :: ·)
  | _ :: _ => none
theorem ints_some : ∀ {ds : List PyData} {ns : List Int}, intsOf ds = some ns → ds = ns.map .int
  | [], _, h => by cases h; rfl
  | .int i :: ds, ns, h => by
    simp only [intsOf, Option.map_eq_some_iff] at h
    obtain ⟨ms, h1, rfl⟩ := h
    rw [ints_some h1]
    rfl
  | .none :: _, _, h => by cases h
  | .bool _ :: _, _, h => by cases h
  | .str _ :: _, _, h => by cases h
  | .list _ :: _, _, h => by cases h
  | .tuple _ :: _, _, h => by cases h
  | .dict _ :: _, _, h => by cases h
theorem ints_map (ns : List Int) : intsOf (ns.map .int) = some ns := by
  induction ns with
  | nil => rfl
  | cons n ns ih => simp only [List.map_cons, intsOf, ih, Option.map_some]
theorem dqAll_ints {K : PySem.W.Frag} {G : Hp} : ∀ {us : List V} {ns : List Int}, DqAll K G us (ns.map .int) → us = ns.map V.int
  | _, [], h => by cases h; rfl
  | _, n :: ns, h => by
    cases h with
    | cons h1 h2 =>
      cases h1
      rw [dqAll_ints h2]
      rfl
def fSum : PyData → (PyData → Prop) → Prop
  | .list ds, k => ∃ ns, intsOf ds = some ns ∧ k (.int ns.sum)
  | _, _ => False
theorem lc_sum {K : PySem.W.Frag} : LC K (q1 fSum) (rSum K) := by
  refine lc_im1 (fun G H v d Q s hv q => ?_) (fun d k k' hk q => ?_)
  · unfold fSum at q
    split at q
    · obtain ⟨ns, hn, q⟩ := q
      obtain ⟨a, us, rfl, ha, hds⟩ := hv.seqL s
      rw [ints_some hn] at hds
      exact ⟨a, ns, rfl, by rw [← dqAll_ints hds]; exact SqL.of ha, q _ _ .int⟩
    · exact q.elim
  · unfold fSum at q ⊢
    split at q
    · obtain ⟨ns, hn, q⟩ := q; exact ⟨ns, hn, hk _ q⟩
    · exact q.elim
/-! ### isinstance(e, T) -/
def tyD : PyData → String
  | .none => "NoneType" | .bool _ => "bool" | .int _ => "int" | .str _ => "str" | .tuple _ => "tuple" | .list _ => "list" | .dict _ => "dict"
def isT (a T : String) : Bool := a == T || (a == "bool" && T == "int")
def isD (T : String) (d : PyData) : Bool := isT (tyD d) T
theorem dp_ty {K : PySem.W.Frag} {H : Hp} {d : PyData} {v : V} (h : Dp K H v d) (hl : ∀ ds, d = .list ds → ∃ a us, v = .ref a ∧ H a = some (.lst us)) : TyX K H v (.type (tyD d)) := by
  cases h with
  | non => exact .base .non
  | bl b => exact .base (.bl b)
  | int i => exact .base (.int i)
  | str x => exact .base (.str x)
  | lst hs ha =>
    obtain ⟨a, us, e, h⟩ := hl _ rfl
    cases e
    exact .base (.lst h)
  | tup hs ha =>
    rcases hs with (h | ⟨o, h⟩) | ⟨o, its, m, hk, hc, _⟩
    · exact .base (.tup h)
    · exact .fTuple h
    · exact .kTuple hk hc
def TyOk (T : String) : Prop := T = "bool" ∨ T = "int" ∨ T = "str" ∨ T = "tuple" ∨ T = "list"
theorem kit_is {T : String} (hT : TyOk T) (d : PyData) (hd : ∀ kvs, d ≠ .dict kvs) : kitB (tyD d) T = some (isD T d) := by
  cases d with
  | none => rcases hT with rfl | rfl | rfl | rfl | rfl <;> (show kitB "NoneType" _ = some (isT "NoneType" _)) <;> decide +kernel
  | bool b => rcases hT with rfl | rfl | rfl | rfl | rfl <;> (show kitB "bool" _ = some (isT "bool" _)) <;> decide +kernel
  | int b => rcases hT with rfl | rfl | rfl | rfl | rfl <;> (show kitB "int" _ = some (isT "int" _)) <;> decide +kernel
  | str b => rcases hT with rfl | rfl | rfl | rfl | rfl <;> (show kitB "str" _ = some (isT "str" _)) <;> decide +kernel
  | tuple b => rcases hT with rfl | rfl | rfl | rfl | rfl <;> (show kitB "tuple" _ = some (isT "tuple" _)) <;> decide +kernel
  | list b => rcases hT with rfl | rfl | rfl | rfl | rfl <;> (show kitB "list" _ = some (isT "list" _)) <;> decide +kernel
  | dict b => exact absurd rfl (hd b)
end
end Pv

namespace Pv
open PySem PySem.Spec L2 Wf
variable {B : Bas}
/-- a new thing beside, that never changes -/
theorem Rep.lay {K : PySem.W.Frag} {G H : Hp} {σ : St} {δ : List Sl} {vs : List V} {rs : List R} {w : Addr → Option Nat} (r : Rep K B G H σ δ vs rs w) {p : Addr} {o : HO} (hp : H p = none) (hn : NT o := by exact nofun) :
    Stp B.T G H w δ (upd G p o) (upd H p o) w δ ∧ Rep K B (upd G p o) (upd H p o) σ δ vs rs w := by
  have gp : G p = none := by
    cases e : G p with
    | none => rfl
    | some u => rw [r.sub p u e] at hp; cases hp
  have sg : Same G (upd G p o) := same_new gp
  have kp : ∀ a u, H a = some u → upd H p o a = some u := fun a u ha => by rw [upd_ne (ne_of_none ha hp)]; exact ha
  have st : Stp B.T G H w δ (upd G p o) (upd H p o) w δ := by
    refine .of ⟨sg, fun a u _ ha => kp a u ha, fun a i h => .inl (by rw [h]; exact Option.some_ne_none _), fun a u ha => ?_, .refl _⟩ (tabs_new hp) (q_new hn)
    by_cases e : a = p
    · subst e; exact .inr (.inl hp)
    · rw [upd_ne e] at ha; exact .inl ha
  refine ⟨st, fun a u ha => ?_, fun a i h => ?_, r.len, fun i s h => ?_, r.tlen, fun j v q hv hq => ?_, st.bs r.bs⟩
  · by_cases e : a = p
    · subst e; rw [upd_same] at ha ⊢; exact ha
    · rw [upd_ne e] at ha ⊢; exact r.sub a u ha
  · have ho := r.out a i h
    have hne : a ≠ p := fun z => ho.2.1 (by rw [z]; exact hp)
    rw [upd_ne hne, upd_ne hne]
    exact ⟨ho.1, ho.2.1, noT_upd hne ho.2.2⟩
  · exact (r.sl i s h).mono sg (fun a u _ hu => kp a u hu) fun a u ma _ => ma
  · exact (r.tm j v q hv hq).mono sg (fun a u _ hu => kp a u hu) fun a u ma _ => ma
section
variable {X : Cx} {a b e : Expr} {es : List Expr} {p pos p2 : Pos} {pa pb : PX}
/-! ### isinstance -/
def pIsi (T : String) (p : PX) : PX := fun δ Q => p δ fun r δ1 => ∃ d, dat δ1 r = some d ∧ Q (.im (.bool (isD T d))) δ1
theorem dq_nodict {K : PySem.W.Frag} {G H : Hp} {v : V} {d : PyData} (h : Vw K G H v d) : ∀ kvs, d ≠ .dict kvs := by
  intro kvs z
  subst z
  rcases h with h | ⟨_, _, _, _, _, _, z⟩
  · cases h
  · cases z
theorem vw_ty {K : PySem.W.Frag} {G H : Hp} {v : V} {d : PyData} (s : Same G H) (h : Vw K G H v d) : TyX K H v (.type (tyD d)) :=
  dp_ty (h.dp s) fun ds z => by
    subst z
    obtain ⟨a, us, e, ha, _⟩ := h.seqL s
    exact ⟨a, us, e, ha⟩
theorem je_isi {T : String} {x : Str} {pt : Pos} (hT : TyOk T) (hg : Gl X "isinstance") (hm : X.mg "isinstance" = none) (ht : PE X (.Name x pt) (tC (.ty T))) (ha : JE X B e pa) (he : starEach [e, .Name x pt] X.env = (false, eval e X.env) :: starEach [.Name x pt] X.env := by rfl) (he2 : starEach [.Name x pt] X.env = (false, eval (.Name x pt) X.env) :: starEach [] X.env := by rfl) (hpl : (backTo pos (starEach [.Name x pt] X.env)).any (·.1) = false := by rfl) :
    JE X B (.Call (.Name "isinstance" p) [e, .Name x pt] [] pos) (pIsi T pa) := by
  refine PE_wk (pe_callB call_isi hg hm (by decide +kernel) (pa_cons ha (pa_cons ht pa_nil he2) he) (by decide) (by decide) he hpl) fun σ H Q ⟨G, w, δ, Qp, rep, q, k⟩ => ?_
  refine ⟨G, w, δ, _, rep, q, fun r δ1 v H1 G1 w1 q1 s1 rep1 => ?_⟩
  obtain ⟨d, hd, q1⟩ := q1
  have hv := rep1.dat (j := 0) rfl rfl hd
  exact ⟨v, .ty T, _, _, _, rfl, .ty T, vw_ty rep1.sub hv, kit_ty (kit_is hT d (dq_nodict hv)), k _ δ1 _ H1 G1 _ q1 (s1.trans .drop) (rep1.ret (.bl _))⟩
def pIsiT (Ts : List String) (p : PX) : PX := fun δ Q => p δ fun r δ1 => ∃ d, dat δ1 r = some d ∧ Q (.im (.bool (Ts.any fun T => isD T d))) δ1
theorem kit_any {K : PySem.W.Frag} {d : PyData} (hd : ∀ kvs, d ≠ .dict kvs) : ∀ (Ts : List String), (∀ T ∈ Ts, TyOk T) → PySem.W.kitAny K (.type (tyD d)) (Ts.map .type) = some (Ts.any fun T => isD T d)
  | [], _ => rfl
  | T :: Ts, h => by
    have e := kit_ty (K := K) (kit_is (h T List.mem_cons_self) d hd)
    show PySem.W.kitAny K (.type (tyD d)) (.type T :: Ts.map .type) = _
    unfold PySem.W.kitAny
    rw [e]
    cases hb : isD T d with
    | true => simp [hb]
    | false =>
      simp only [List.any_cons, hb, Bool.false_or]
      exact kit_any hd Ts fun T' h' => h T' (List.mem_cons_of_mem _ h')
theorem clsv_map : ∀ Ts : List String, Paired ClsV (Ts.map V.ty) (Ts.map Value.type)
  | [] => .nil
  | T :: Ts => .cons (.ty T) (clsv_map Ts)
theorem je_isiT {Ts : List String} {tp : Expr} (hT : ∀ T ∈ Ts, TyOk T) (hg : Gl X "isinstance") (hm : X.mg "isinstance" = none) (ht : PE X tp (tTup (fun _ H Q => Q (Ts.map V.ty) H))) (hz : Ts.length ≤ sizeLine) (ha : JE X B e pa) (he : starEach [e, tp] X.env = (false, eval e X.env) :: starEach [tp] X.env := by rfl) (he2 : starEach [tp] X.env = (false, eval tp X.env) :: starEach [] X.env := by rfl) (hpl : (backTo pos (starEach [tp] X.env)).any (·.1) = false := by rfl) :
    JE X B (.Call (.Name "isinstance" p) [e, tp] [] pos) (pIsiT Ts pa) := by
  refine PE_wk (pe_callB call_isiT hg hm (by decide +kernel) (pa_cons ha (pa_cons ht pa_nil he2) he) (by decide) (by decide) he hpl) fun σ H Q ⟨G, w, δ, Qp, rep, q, k⟩ => ?_
  refine ⟨G, w, δ, _, rep, q, fun r δ1 v H1 G1 w1 q1 s1 rep1 => ?_⟩
  obtain ⟨d, hd, q1⟩ := q1
  have hv := rep1.dat (j := 0) rfl rfl hd
  refine ⟨by rw [List.length_map]; exact hz, fun p hp => ?_⟩
  obtain ⟨s2, r2⟩ := rep1.lay (o := .tup (Ts.map V.ty)) hp
  have hv2 := r2.dat (j := 0) rfl rfl hd
  exact ⟨v, p, Ts.map V.ty, _, _, _, rfl, upd_same, clsv_map Ts, vw_ty r2.sub hv2, kit_any (dq_nodict hv) Ts hT, k _ δ1 _ _ _ _ q1 (s1.trans (s2.trans .drop)) (r2.ret (.bl _))⟩
/-! ### is -/
theorem is_bool_gen {M : Model} {A : Around} {Q : Value → Shared → Prop} {E : Value → Shared → Prop} {s : Shared} {v : Value} {t : Bool} (hb : ∀ id, v ≠ .builtin id) (h : Q (.bool (v == .bool t)) s) : wpAny M A (compareOp .Is v (.bool t)) Q E s := by
  cases v <;> first | exact absurd rfl (hb _) | exact wpAny_pure h
theorem isnot_bool_gen {M : Model} {A : Around} {Q : Value → Shared → Prop} {E : Value → Shared → Prop} {s : Shared} {v : Value} {t : Bool} (hb : ∀ id, v ≠ .builtin id) (h : Q (.bool (!(v == .bool t))) s) : wpAny M A (compareOp .IsNot v (.bool t)) Q E s := by
  cases v <;> first | exact absurd rfl (hb _) | exact wpAny_pure h
theorem rel_nob {x : V} {v : Value} (r : RelV x v) : ∀ id, v ≠ .builtin id := by
  intro id
  cases x with
  | bl c => cases r; exact fun z => nomatch z
  | non => cases r; exact fun z => nomatch z
  | int _ => obtain ⟨t, rfl⟩ := r; exact fun z => nomatch z
  | str _ => obtain ⟨t, rfl⟩ := r; exact fun z => nomatch z
  | byt _ => obtain ⟨t, rfl⟩ := r; exact fun z => nomatch z
  | flt _ => obtain ⟨t, rfl⟩ := r; exact fun z => nomatch z
  | ref _ => cases r; exact fun z => nomatch z
  | ty _ => cases r; exact fun z => nomatch z
theorem rel_bool {x : V} {v : Value} {t : Bool} (r : RelV x v) : (v == Value.bool t) = decide (x = .bl t) := by
  cases x with
  | bl c => cases r; cases c <;> cases t <;> rfl
  | non => cases r; rfl
  | int _ => obtain ⟨t, rfl⟩ := r; rfl
  | str _ => obtain ⟨t, rfl⟩ := r; rfl
  | byt _ => obtain ⟨t, rfl⟩ := r; rfl
  | flt _ => obtain ⟨t, rfl⟩ := r; rfl
  | ref _ => cases r; rfl
  | ty _ => cases r; rfl
def rIsC : R2 := fun x y H Q => (y = .non ∧ Q (.bl (decide (x = .non))) H) ∨ ∃ t, y = .bl t ∧ Q (.bl (decide (x = .bl t))) H
def rNotC : R2 := fun x y H Q => (y = .non ∧ Q (.bl (!decide (x = .non))) H) ∨ ∃ t, y = .bl t ∧ Q (.bl (!decide (x = .bl t))) H
theorem op_isC : OpR X (compareOp .Is) rIsC := by
  refine op_or op_isN1 ?_
  intro pins s σ H x y v u Q I rx ry h
  obtain ⟨t, rfl, q⟩ := h
  cases (show u = Value.bool t from ry)
  exact is_bool_gen (rel_nob rx) ⟨.bl _, H, I, by rw [rel_bool rx]; rfl, q⟩
theorem op_notC : OpR X (compareOp .IsNot) rNotC := by
  refine op_or op_notN1 ?_
  intro pins s σ H x y v u Q I rx ry h
  obtain ⟨t, rfl, q⟩ := h
  cases (show u = Value.bool t from ry)
  exact isnot_bool_gen (rel_nob rx) ⟨.bl _, H, I, by rw [rel_bool rx]; rfl, q⟩
def isC : PyData → PyData → Bool
  | .none, .none => true
  | .bool a, .bool b => a == b
  | _, _ => false
def fIs (neg : Bool) : PyData → PyData → (PyData → Prop) → Prop
  | d, .none, k => k (.bool (if neg then !isC d .none else isC d .none))
  | d, .bool t, k => k (.bool (if neg then !isC d (.bool t) else isC d (.bool t)))
  | _, _, _ => False
theorem vw_non {K : PySem.W.Frag} {G H : Hp} {v : V} {d : PyData} (h : Vw K G H v d) : decide (v = .non) = isC d .none := by
  rcases h with h | ⟨a, us, ds, rfl, _, _, rfl⟩
  · cases h <;> rfl
  · rfl
theorem vw_bl {K : PySem.W.Frag} {G H : Hp} {v : V} {d : PyData} {t : Bool} (h : Vw K G H v d) : decide (v = .bl t) = isC d (.bool t) := by
  rcases h with h | ⟨a, us, ds, rfl, _, _, rfl⟩
  · cases h with
    | bl b => cases b <;> cases t <;> rfl
    | _ => rfl
  · rfl
theorem fIs_mono {neg : Bool} : ∀ d e (k k' : PyData → Prop), (∀ e, k e → k' e) → fIs neg d e k → fIs neg d e k' := by
  intro d e k k' hk q
  unfold fIs at q ⊢
  split at q
  · exact hk _ q
  · exact hk _ q
  · exact q.elim
theorem vw_none {K : PySem.W.Frag} {G H : Hp} {v : V} (h : Vw K G H v .none) : v = .non := by
  rcases h with h | ⟨a, us, ds, rfl, _, _, z⟩
  · cases h; rfl
  · cases z
theorem lc_is {K : PySem.W.Frag} : LC K (q2 (fIs false)) (ap2 rIsC) := by
  refine lc_im2 (fun G H v u d e Q s hv hu q => ?_) fIs_mono
  unfold fIs at q
  split at q
  · exact .inl ⟨vw_none hu, by rw [vw_non hv]; exact q _ _ .bool⟩
  · exact .inr ⟨_, hu.bool, by rw [vw_bl hv]; exact q _ _ .bool⟩
  · exact q.elim
theorem lc_isnot {K : PySem.W.Frag} : LC K (q2 (fIs true)) (ap2 rNotC) := by
  refine lc_im2 (fun G H v u d e Q s hv hu q => ?_) fIs_mono
  unfold fIs at q
  split at q
  · exact .inl ⟨vw_none hu, by rw [vw_non hv]; exact q _ _ .bool⟩
  · exact .inr ⟨_, hu.bool, by rw [vw_bl hv]; exact q _ _ .bool⟩
  · exact q.elim
def pIs (neg : Bool) (pa pb : PX) : PX := pC (q2 (fIs neg)) (pCons pa (pCons pb pNil))
theorem je_is (ha : JE X B a pa) (hb : JE X B b pb) : JE X B (.Compare a [.Is] [b] pos) (pIs false pa pb) := je_cmp op_isC lc_is ha hb (nomark _)
theorem je_isnot (ha : JE X B a pa) (hb : JE X B b pb) : JE X B (.Compare a [.IsNot] [b] pos) (pIs true pa pb) := je_cmp op_notC lc_isnot ha hb (nomark _)
theorem jb_is (ha : JE X B a pa) (hb : JE X B b pb) : JB X B (.Compare a [.Is] [b] pos) (pT (pIs false pa pb)) := jb_cmp op_isC lc_is ha hb (nomark _)
theorem jb_isnot (ha : JE X B a pa) (hb : JE X B b pb) : JB X B (.Compare a [.IsNot] [b] pos) (pT (pIs true pa pb)) := jb_cmp op_notC lc_isnot ha hb (nomark _)
/-! ### a < b < c -/
def pChain (q q' : List R → PX) (pa pb pc : PX) : PX := fun δ Q => pa δ fun ra δ1 => pb δ1 fun rb δ2 => ∃ y, rb = .im y ∧ q [ra, .im y] δ2 fun r δ3 => ∃ t, dat δ3 r = some (.bool t) ∧
  if t = true then pc δ3 fun rc δ4 => q' [.im y, rc] δ4 Q else Q (.im (.bool false)) δ3
theorem je_chain {c : Expr} {op op' : CmpOp} {pc : PX} {q q' : List R → PX} {r r' : R2} (ho : OpR X (compareOp op) r) (ho' : OpR X (compareOp op') r') (hl : LC X.K q (ap2 r)) (hl' : LC X.K q' (ap2 r')) (ha : JE X B a pa) (hb : JE X B b pb) (hc : JE X B c pc) (hm : lastMarks [op, op'] [b, c] = false := by rfl) :
    JE X B (.Compare a [op, op'] [b, c] pos) (pChain q q' pa pb pc) := by
  refine PE_wk (pe_chain ho ho' ha hb hc hm) fun σ H Q ⟨G, w, δ, Qp, rep, h, k⟩ => ?_
  refine ⟨G, w, δ, _, rep, h, fun ra δ1 x H1 G1 w1 q1 s1 rep1 => ?_⟩
  refine ⟨G1, _, δ1, _, rep1.drop, q1, fun rb δ2 y H2 G2 w2 q2 s2 rep2 => ?_⟩
  obtain ⟨w3, s3, rep3⟩ := rep1.frame s2 rep2
  obtain ⟨dy, rfl, q2⟩ := q2
  have hy : Dq X.K G2 y dy := rep2.tm 0 y (.im dy) rfl rfl
  refine hl G2 H2 σ δ2 [x, y] [ra, .im dy] w3 _ _ rep3 q2 fun r δ3 z H3 G3 w4 q3 s4 rep4 => ?_
  obtain ⟨t, ht, q3⟩ := q3
  refine ⟨t, dp_bool (rep4.dpH (j := 0) rfl rfl ht), ?_⟩
  have s5 := (s1.trans s3).trans s4
  cases t with
  | false => exact k _ δ3 _ H3 G3 _ q3 (s5.trans .drop) (rep4.ret (.bl false))
  | true =>
    have r5 := rep4.ret (dp_mono s4.g _ _ hy)
    refine ⟨G3, _, δ3, _, r5.drop, q3, fun rc δ4 v H4 G4 w5 q4 s6 rep6 => ?_⟩
    obtain ⟨w6, s7, rep7⟩ := r5.frame s6 rep6
    exact hl' G4 H4 σ δ4 [y, v] [.im dy, rc] w6 Qp Q rep7 q4 fun r δ' u H' G' w' hq hs hr => k r δ' u H' G' w' hq (((s5.trans .drop).trans s7).trans hs) hr
theorem jb_chain {c : Expr} {op op' : CmpOp} {pc : PX} {q q' : List R → PX} {r r' : R2} (ho : OpR X (compareOp op) r) (ho' : OpR X (compareOp op') r') (hl : LC X.K q (ap2 r)) (hl' : LC X.K q' (ap2 r')) (ha : JE X B a pa) (hb : JE X B b pb) (hc : JE X B c pc) (hm : lastMarks [op, op'] [b, c] = false := by rfl) :
    JB X B (.Compare a [op, op'] [b, c] pos) (pT (pChain q q' pa pb pc)) := by
  refine PT_wk (pt_chain ho ho' ha hb hc hm) fun σ H Q ⟨G, w, δ, Qp, rep, h, k⟩ => ?_
  refine ⟨G, w, δ, _, rep, h, fun ra δ1 x H1 G1 w1 q1 s1 rep1 => ?_⟩
  refine ⟨G1, _, δ1, _, rep1.drop, q1, fun rb δ2 y H2 G2 w2 q2 s2 rep2 => ?_⟩
  obtain ⟨w3, s3, rep3⟩ := rep1.frame s2 rep2
  obtain ⟨dy, rfl, q2⟩ := q2
  have hy : Dq X.K G2 y dy := rep2.tm 0 y (.im dy) rfl rfl
  refine hl G2 H2 σ δ2 [x, y] [ra, .im dy] w3 _ _ rep3 q2 fun r δ3 z H3 G3 w4 q3 s4 rep4 => ?_
  obtain ⟨t, ht, q3⟩ := q3
  refine ⟨t, dp_bool (rep4.dpH (j := 0) rfl rfl ht), ?_⟩
  have s5 := (s1.trans s3).trans s4
  cases t with
  | false =>
    obtain ⟨b, hb, q3⟩ := q3
    exact ⟨b, by cases hb; rfl, k b δ3 H3 G3 _ q3 (s5.trans .drop) rep4.drop⟩
  | true =>
    have r5 := rep4.ret (dp_mono s4.g _ _ hy)
    refine ⟨G3, _, δ3, _, r5.drop, q3, fun rc δ4 v H4 G4 w5 q4 s6 rep6 => ?_⟩
    obtain ⟨w6, s7, rep7⟩ := r5.frame s6 rep6
    refine hl' G4 H4 σ δ4 [y, v] [.im dy, rc] w6 _ _ rep7 q4 fun r δ' u H' G' w' hq hs hr => ?_
    obtain ⟨b, hb, hq⟩ := hq
    exact ⟨b, dp_bool (hr.dpH (j := 0) rfl rfl hb), k b δ' H' G' _ hq ((((s5.trans .drop).trans s7).trans hs).trans .drop) hr.drop⟩
abbrev qLtD := qD (fI2 T2 fun a b => .bool (decide (a < b)))
abbrev qLeD := qD (fI2 T2 fun a b => .bool (decide (a ≤ b)))
abbrev qEqD := qD (fEq false)
theorem lc_lt {K : PySem.W.Frag} : LC K qLtD (ap2 qLt) := lc_I0 fun a b G => .bl _
theorem lc_le {K : PySem.W.Frag} : LC K qLeD (ap2 qLe) := lc_I0 fun a b G => .bl _
/-! ### slices -/
def POx := List Sl → (Option Int → List Sl → Prop) → Prop
def oNone : POx := fun δ Q => Q none δ
def oSome (p : PX) : POx := fun δ Q => p δ fun r δ1 => ∃ i, dat δ1 r = some (.int i) ∧ Q (some i) δ1
def LO (K : PySem.W.Frag) (B : Bas) (p : POx) : TO := fun σ H Q => ∃ G w δ Qp, Rep K B G H σ δ [] [] w ∧ p δ Qp ∧ ∀ b δ' H' G' w', Qp b δ' → Stp B.T G H w δ G' H' w' δ' → Rep K B G' H' σ δ' [] [] w' → Q b H'
def JO (X : Cx) (B : Bas) (e : Option Expr) (p : POx) : Prop := PO X e (LO X.K B p)
theorem PO_wk {e : Option Expr} {t t' : TO} (h : PO X e t) (k : ∀ σ H Q, t' σ H Q → t σ H Q) : PO X e t' := ⟨fun pins s σ H Q I q => h.run pins s σ H Q I (k σ H Q q)⟩
theorem jo_none : JO X B none oNone := PO_wk po_none fun σ H Q ⟨G, w, δ, Qp, rep, q, k⟩ => k none δ H G w q .refl rep
theorem dp_int {K : PySem.W.Frag} {H : Hp} {v : V} {i : Int} (h : Dp K H v (.int i)) : v = .int i := by cases h; rfl
theorem jo_some (ha : JE X B a pa) : JO X B (some a) (oSome pa) := PO_wk (po_some ha) fun σ H Q ⟨G, w, δ, Qp, rep, q, k⟩ => ⟨G, w, δ, _, rep, q, fun r δ1 v H1 G1 w1 q1 s1 rep1 => by
  obtain ⟨i, hi, q1⟩ := q1
  exact ⟨i, dp_int (rep1.dpH (j := 0) rfl rfl hi), k _ δ1 H1 G1 _ q1 (s1.trans .drop) rep1.drop⟩⟩
def cutD {α : Type} (xs : List α) (lo hi : Option Int) : List α := (xs.drop (HT.sIx xs.length 0 lo)).take (HT.sIx xs.length xs.length hi - HT.sIx xs.length 0 lo)
theorem dqAll_drop {K : PySem.W.Frag} {G : Hp} : ∀ (n : Nat) {us : List V} {ds : List PyData}, DqAll K G us ds → DqAll K G (us.drop n) (ds.drop n)
  | 0, _, _, h => h
  | _ + 1, _, _, .nil => .nil
  | n + 1, _, _, .cons _ h => dqAll_drop n h
theorem dqAll_take {K : PySem.W.Frag} {G : Hp} : ∀ (n : Nat) {us : List V} {ds : List PyData}, DqAll K G us ds → DqAll K G (us.take n) (ds.take n)
  | 0, _, _, _ => .nil
  | _ + 1, _, _, .nil => .nil
  | n + 1, _, _, .cons h1 h => .cons h1 (dqAll_take n h)
theorem dqAll_cut {K : PySem.W.Frag} {G : Hp} {us : List V} {ds : List PyData} {lo hi : Option Int} (h : DqAll K G us ds) : DqAll K G (cutV us lo hi) (cutD ds lo hi) := by
  unfold cutV cutD
  rw [dqAll_len h]
  exact dqAll_take _ (dqAll_drop _ h)
def pSlice (pa : PX) (lo hi : POx) : PX := fun δ Q => pa δ fun ra δ1 => lo δ1 fun l δ2 => hi δ2 fun u δ3 => match dat δ3 ra with
  | some (.tuple ds) => Q (.im (.tuple (cutD ds l u))) δ3
  | some (.list ds) => Q (.ow (.lst (cutD ds l u))) δ3
  | _ => False
def rSlU (K : PySem.W.Frag) : V → Option Int → Option Int → Hp → VK → Prop := fun x lo hi H Q => rSlA K x lo hi H Q ∨ rSlL K x lo hi H Q
theorem sl_u : L2.SlR X (rSlU X.K) := by
  intro pins s σ H x v vl vu lo hi sl Q I rx hs pl pu h
  rcases h with h | h
  · exact sl_tupA pins s σ H x v vl vu lo hi sl Q I rx hs pl pu h
  · exact sl_list pins s σ H x v vl vu lo hi sl Q I rx hs pl pu h
theorem cut_whole {α : Type} {xs : List α} {lo hi : Option Int} (h : HT.sIx xs.length 0 lo = 0 ∧ HT.sIx xs.length xs.length hi = xs.length) : cutD xs lo hi = xs := by
  unfold cutD
  rw [h.1, h.2, Nat.sub_zero, List.drop_zero, List.take_length]
theorem je_slice {lo hi : Option Expr} {pl ph : POx} (ha : JE X B a pa) (hl : JO X B lo pl) (hh : JO X B hi ph) : JE X B (.Subscript a (.Slice lo hi none p2) pos) (pSlice pa pl ph) := by
  refine PE_wk (pe_slice sl_u ha hl hh) fun σ H Q ⟨G, w, δ, Qp, rep, h, k⟩ => ?_
  refine ⟨G, w, δ, _, rep, h, fun ra δ1 x H1 G1 w1 q1 s1 rep1 => ?_⟩
  refine ⟨G1, _, δ1, _, rep1.drop, q1, fun l δ2 H2 G2 w2 q2 s2 rep2 => ?_⟩
  obtain ⟨w3, s3, rep3⟩ := rep1.frame s2 rep2
  refine ⟨G2, _, δ2, _, rep3.drop, q2, fun u δ3 H3 G3 w4 q3 s4 rep4 => ?_⟩
  obtain ⟨w5, s5, rep5⟩ := rep3.frame s4 rep4
  have s6 := (s1.trans s3).trans s5
  revert q3
  split
  · rename_i ds e
    intro q3
    obtain ⟨p1, u1, rfl, t1, d1, e1⟩ := Vw.seqT rep5.sub (rep5.dat (j := 0) rfl rfl e)
    refine .inl ⟨p1, u1, rfl, t1, fun hw => ?_, fun hw p hp => ?_⟩
    · rw [dqAll_len d1] at hw
      rw [cut_whole hw] at q3
      exact k _ δ3 _ H3 G3 _ q3 (s6.trans .drop) (rep5.ret e1)
    · obtain ⟨s7, r7⟩ := rep5.retNew hp (dq_newTup rep5.sub hp (dqAll_cut (lo := l) (hi := u) d1))
      exact k _ δ3 _ _ _ _ q3 (s6.trans s7) r7
  · rename_i ds e
    intro q3
    obtain ⟨p1, u1, rfl, t1, d1⟩ := Vw.seqL rep5.sub (rep5.dat (j := 0) rfl rfl e)
    refine .inr ⟨p1, u1, rfl, SqL.of t1, fun p hp => ?_⟩
    obtain ⟨w7, s7, r7⟩ := rep5.retLst hp (dqAll_cut (lo := l) (hi := u) d1)
    exact k _ δ3 _ _ _ _ q3 (s6.trans s7) r7
  · intro q3; exact q3.elim
/-! ### in, not in: lists of data -/
def fIn (neg : Bool) : PyData → PyData → (PyData → Prop) → Prop
  | d, .list ds, k => SeqAt.shaped d = true ∧ SeqAt.shaped (.list ds) = true ∧ k (.bool (if neg then !ds.any fun z => PyData.eqv z d else ds.any fun z => PyData.eqv z d))
  | _, _, _ => False
theorem fIn_mono {neg : Bool} : ∀ d e (k k' : PyData → Prop), (∀ e, k e → k' e) → fIn neg d e k → fIn neg d e k' := by
  intro d e k k' hk q
  unfold fIn at q ⊢
  split at q
  · exact ⟨q.1, q.2.1, hk _ q.2.2⟩
  · exact q.elim
theorem lc_in {K : PySem.W.Frag} : LC K (q2 (fIn false)) (ap2 (rInD K)) := by
  refine lc_im2 (fun G H v u d e Q s hv hu q => ?_) fIn_mono
  unfold fIn at q
  split at q
  · exact ⟨_, _, hv.dp s, hu.dp s, q.1, q.2.1, q.2.2 _ _ .bool⟩
  · exact q.elim
theorem lc_notIn {K : PySem.W.Frag} : LC K (q2 (fIn true)) (ap2 (rNotInD K)) := by
  refine lc_im2 (fun G H v u d e Q s hv hu q => ?_) fIn_mono
  unfold fIn at q
  split at q
  · exact ⟨_, _, hv.dp s, hu.dp s, q.1, q.2.1, q.2.2 _ _ .bool⟩
  · exact q.elim
def pIn (neg : Bool) (pa pb : PX) : PX := pC (q2 (fIn neg)) (pCons pa (pCons pb pNil))
/-! ### list(range(..)), tuple(range(..)) -/
def rgD (a b : Int) : List PyData := (List.range (b - a).toNat).map fun (i : Nat) => PyData.int (a + (i : Nat))
theorem dq_rg {K : PySem.W.Frag} {G : Hp} (a b : Int) : DqAll K G (rgV a b) (rgD a b) := by
  unfold rgV rgD
  induction (List.range (b - a).toNat) with
  | nil => exact .nil
  | cons n ns ih => exact .cons (.int _) ih
def PRx := List Sl → (Int → Int → List Sl → Prop) → Prop
def pRg1 (p : PX) : PRx := fun δ Q => p δ fun r δ1 => ∃ n, dat δ1 r = some (.int n) ∧ Q 0 n δ1
def pRg2 (p q : PX) : PRx := fun δ Q => p δ fun r δ1 => q δ1 fun r' δ2 => ∃ i j, dat δ2 r = some (.int i) ∧ dat δ2 r' = some (.int j) ∧ Q i j δ2
def pLstRg (p : PRx) : PX := fun δ Q => p δ fun a b δ1 => RgOk a b ∧ Q (.ow (.lst (rgD a b))) δ1
def pTupRg (p : PRx) : PX := fun δ Q => p δ fun a b δ1 => RgOk a b ∧ Q (.im (.tuple (rgD a b))) δ1
def LR (K : PySem.W.Frag) (B : Bas) (p : PRx) : St → Hp → (Int → Int → Hp → Prop) → Prop := fun σ H Q => ∃ G w δ Qp, Rep K B G H σ δ [] [] w ∧ p δ Qp ∧ ∀ a b δ' H' G' w', Qp a b δ' → Stp B.T G H w δ G' H' w' δ' → Rep K B G' H' σ δ' [] [] w' → Q a b H'
def JR (X : Cx) (B : Bas) (e : Expr) (p : PRx) : Prop := PRg X e (LR X.K B p)
theorem PRg_wk {e : Expr} {t t' : St → Hp → (Int → Int → Hp → Prop) → Prop} (h : PRg X e t) (k : ∀ σ H Q, t' σ H Q → t σ H Q) : PRg X e t' := fun pins s σ H Q I q => h pins s σ H Q I (k σ H Q q)
theorem jr_1 (hg : Gl X "range") (hm : X.mg "range" = none) (ha : JE X B a pa) (na : starEach [a] X.env = (false, eval a X.env) :: starEach [] X.env := by rfl) : JR X B (.Call (.Name "range" p) [a] [] pos) (pRg1 pa) :=
  PRg_wk (prg_1 hg hm ha na) fun σ H Q ⟨G, w, δ, Qp, rep, q, k⟩ => ⟨G, w, δ, _, rep, q, fun r δ1 v H1 G1 w1 q1 s1 rep1 => by
    obtain ⟨i, hi, q1⟩ := q1
    exact ⟨i, dp_int (rep1.dpH (j := 0) rfl rfl hi), k _ _ δ1 H1 G1 _ q1 (s1.trans .drop) rep1.drop⟩⟩
theorem jr_2 (hg : Gl X "range") (hm : X.mg "range" = none) (ha : JE X B a pa) (hb : JE X B b pb) (na : starEach [a, b] X.env = (false, eval a X.env) :: starEach [b] X.env := by rfl) (nb : starEach [b] X.env = (false, eval b X.env) :: starEach [] X.env := by rfl) (hp : (backTo pos (starEach [b] X.env)).any (·.1) = false := by rfl) : JR X B (.Call (.Name "range" p) [a, b] [] pos) (pRg2 pa pb) :=
  PRg_wk (prg_2 hg hm ha hb na nb hp) fun σ H Q ⟨G, w, δ, Qp, rep, q, k⟩ => ⟨G, w, δ, _, rep, q, fun r δ1 v H1 G1 w1 q1 s1 rep1 => ⟨G1, _, δ1, _, rep1.drop, q1, fun r2 δ2 u H2 G2 w2 q2 s2 rep2 => by
    obtain ⟨w3, s3, rep3⟩ := rep1.frame s2 rep2
    obtain ⟨i, j, hi, hj, q2⟩ := q2
    exact ⟨i, j, dp_int (rep3.dpH (j := 0) rfl rfl hi), dp_int (rep3.dpH (j := 1) rfl rfl hj), k _ _ δ2 H2 G2 _ q2 ((s1.trans s3).trans .drop) rep3.drop⟩⟩⟩
theorem je_lstRg {pr : PRx} (hc : X.calm = true) (hg : Gl X "list") (hm : X.mg "list" = none) (he : JR X B e pr) (na : starEach [e] X.env = (false, eval e X.env) :: starEach [] X.env := by rfl) : JE X B (.Call (.Name "list" p) [e] [] pos) (pLstRg pr) :=
  PE_wk (pe_listRg hc hg hm he na) fun σ H Q ⟨G, w, δ, Qp, rep, q, k⟩ => ⟨G, w, δ, _, rep, q, fun i j δ1 H1 G1 w1 q1 s1 rep1 => ⟨q1.1, fun p hp => by
    obtain ⟨w7, s7, r7⟩ := rep1.retLst hp (dq_rg i j)
    exact k _ δ1 _ _ _ _ q1.2 (s1.trans s7) r7⟩⟩
theorem je_tupRg {pr : PRx} (hc : X.calm = true) (hg : Gl X "tuple") (hm : X.mg "tuple" = none) (he : JR X B e pr) (na : starEach [e] X.env = (false, eval e X.env) :: starEach [] X.env := by rfl) : JE X B (.Call (.Name "tuple" p) [e] [] pos) (pTupRg pr) :=
  PE_wk (pe_tupRg hc hg hm he na) fun σ H Q ⟨G, w, δ, Qp, rep, q, k⟩ => ⟨G, w, δ, _, rep, q, fun i j δ1 H1 G1 w1 q1 s1 rep1 => ⟨q1.1, fun p hp => by
    obtain ⟨s7, r7⟩ := rep1.retNew hp (dq_newTup rep1.sub hp (dq_rg i j))
    exact k _ δ1 _ _ _ _ q1.2 (s1.trans s7) r7⟩⟩
end
end Pv

namespace Pv
open PySem PySem.Spec L2 Wf
variable {B : Bas}
/-! ### storing -/
def slOf : R → Sl
  | .im d => .im d
  | .ow o => .ow false o
  | .at _ => .un
def isAt : R → Bool
  | .at _ => true
  | _ => false
/-- what a slot holds, as data for good -/
def rz (δ : List Sl) : R → Option (R × List Sl)
  | .at i => match δ[i]? with
    | some (.im d) => some (.im d, δ)
    | some (.ow false (.lst ds)) => some (.im (.list ds), δ.set i (.im (.list ds)))
    | some (.ow _ (.ptl ds)) => some (.ow (.ptl ds), δ)
    | _ => none
  | r => some (r, δ)
def rzAll : List Sl → List R → Option (List R × List Sl)
  | δ, [] => some ([], δ)
  | δ, r :: rs => match rz δ r with
    | none => none
    | some (q, δ1) => match rzAll δ1 rs with
      | none => none
      | some (qs, δ2) => some (q :: qs, δ2)
/-- slot i gets r -/
def setS (i : Nat) (r : R) (δ : List Sl) (Q : List Sl → Prop) : Prop := match δ[i]? with
  | none => False
  | some (.ow true _) => False
  | some _ => Q (δ.set i (slOf r))
def setAll : List Nat → List R → List Sl → (List Sl → Prop) → Prop
  | [], [], δ, Q => Q δ
  | i :: is, r :: rs, δ, Q => setS i r δ fun δ' => setAll is rs δ' Q
  | _, _, _, _ => False
def Pin (σ : St) (δ : List Sl) (σ' : St) : Prop := ∀ (i : Nat) (o : O), δ[i]? = some (Sl.ow true o) → σ'[i]? = σ[i]?
theorem Pin.refl {σ : St} {δ : List Sl} : Pin σ δ σ := fun _ _ _ => rfl
theorem Pin.trans {σ σ1 σ2 : St} {δ δ1 : List Sl} (a : Pin σ δ σ1) (n : Pn δ δ1) (b : Pin σ1 δ1 σ2) : Pin σ δ σ2 := fun i o h => by
  obtain ⟨o', h'⟩ := n i o h
  exact (b i o' h').trans (a i o h)
section
variable {K : PySem.W.Frag} {G H : Hp} {σ : St} {δ : List Sl} {vs : List V} {rs : List R} {w : Addr → Option Nat}
theorem Rep.rz1 (r : Rep K B G H σ δ vs rs w) {j : Nat} {q q' : R} {δ' : List Sl} (hq : rs[j]? = some q) (h : rz δ q = some (q', δ')) :
    ∃ G' w', Stp B.T G H w δ G' H w' δ' ∧ Rep K B G' H σ δ' vs (rs.set j q') w' := by
  have hj : j < rs.length := (List.getElem?_eq_some_iff.mp hq).1
  have hjv : j < vs.length := by rw [r.tlen]; exact hj
  have same : rs.set j q = rs := by
    apply List.ext_getElem?
    intro k
    by_cases e : j = k
    · subst e; rw [List.getElem?_set_self hj]; exact hq.symm
    · rw [List.getElem?_set_ne e]
  cases q with
  | im d => cases h; exact ⟨G, w, .refl, by rw [same]; exact r⟩
  | ow o => cases h; exact ⟨G, w, .refl, by rw [same]; exact r⟩
  | «at» i =>
    simp only [rz] at h
    revert h
    split
    · rename_i d e
      intro h
      cases h
      exact r.fz1 (List.getElem?_eq_getElem hjv) hq (by simp only [fz, e])
    · rename_i ds e
      intro h
      cases h
      exact r.fz1 (List.getElem?_eq_getElem hjv) hq (by simp only [fz, e])
    · rename_i b ds e
      intro h
      cases h
      obtain ⟨u, hu, hd⟩ := r.sl i _ e
      have t' : σ[i]? = some (some vs[j]) := r.tm j _ _ (List.getElem?_eq_getElem hjv) hq
      rw [t'] at hu
      cases hu
      refine ⟨G, w, .refl, r.sub, r.out, r.len, r.sl, by rw [List.length_set]; exact r.tlen, fun k x p hx hp => ?_, r.bs⟩
      by_cases ek : j = k
      · subst ek
        rw [List.getElem?_set_self hj] at hp
        cases hp
        rw [List.getElem?_eq_getElem hjv] at hx
        cases hx
        exact hd
      · rw [List.getElem?_set_ne ek] at hp
        exact r.tm k x p hx hp
    · intro h; cases h
theorem Rep.rzGo : ∀ (rs2 : List R) (rs1 : List R) {G : Hp} {δ δ' : List Sl} {w : Addr → Option Nat} {qs : List R}, Rep K B G H σ δ vs (rs1 ++ rs2) w → rzAll δ rs2 = some (qs, δ') → ∃ G' w', Stp B.T G H w δ G' H w' δ' ∧ Rep K B G' H σ δ' vs (rs1 ++ qs) w'
  | [], rs1, G, δ, δ', w, qs, r, h => by
    cases h
    exact ⟨G, w, .refl, r⟩
  | q :: rs2, rs1, G, δ, δ', w, qs, r, h => by
    unfold rzAll at h
    revert h
    split
    · intro h; cases h
    · rename_i q' δ1 e
      split
      · intro h; cases h
      · rename_i qs' δ2 e2
        intro h
        cases h
        have hq : (rs1 ++ q :: rs2)[rs1.length]? = some q := by simp
        obtain ⟨G1, w1, s1, r1⟩ := r.rz1 hq e
        have e3 : (rs1 ++ q :: rs2).set rs1.length q' = (rs1 ++ [q']) ++ rs2 := by
          rw [List.set_append_right _ _ (Nat.le_refl _), Nat.sub_self, List.set_cons_zero, List.append_assoc]
          rfl
        rw [e3] at r1
        obtain ⟨G2, w2, s2, r2⟩ := Rep.rzGo rs2 (rs1 ++ [q']) r1 e2
        refine ⟨G2, w2, s1.trans s2, ?_⟩
        rw [List.append_assoc] at r2
        exact r2
theorem rz_noAt {δ δ' : List Sl} {q q' : R} (h : rz δ q = some (q', δ')) : isAt q' = false := by
  cases q with
  | im d => cases h; rfl
  | ow o => cases h; rfl
  | «at» i =>
    simp only [rz] at h
    revert h
    split
    · intro h; cases h; rfl
    · intro h; cases h; rfl
    · intro h; cases h; rfl
    · intro h; cases h
theorem rzAll_noAt : ∀ {rs qs : List R} {δ δ' : List Sl}, rzAll δ rs = some (qs, δ') → ∀ q ∈ qs, isAt q = false
  | [], _, _, _, h => by cases h; intro q hq; cases hq
  | r :: rs, qs, δ, δ', h => by
    unfold rzAll at h
    revert h
    split
    · intro h; cases h
    · rename_i q' δ1 e
      split
      · intro h; cases h
      · rename_i qs' δ2 e2
        intro h
        cases h
        intro q hq
        rcases List.mem_cons.mp hq with rfl | hq
        · exact rz_noAt e
        · exact rzAll_noAt e2 q hq
theorem Rep.rzs (r : Rep K B G H σ δ vs rs w) {qs : List R} {δ' : List Sl} (h : rzAll δ rs = some (qs, δ')) : ∃ G' w', Stp B.T G H w δ G' H w' δ' ∧ Rep K B G' H σ δ' vs qs w' := by
  have := Rep.rzGo rs [] (by simpa using r) h
  simpa using this
def moved (i : Nat) (w : Addr → Option Nat) (a : Addr) : Option Nat := match w a with
  | none => none
  | some n => if n = 1 then some (2 * i) else if n % 2 = 1 then some (n - 2) else if n = 2 * i then none else some n
theorem of_moved {i : Nat} {w : Addr → Option Nat} {a : Addr} {m : Nat} (h : moved i w a = some m) : ∃ n, w a = some n := by
  unfold moved at h
  cases e : w a with
  | none => rw [e] at h; cases h
  | some n => exact ⟨n, rfl⟩
/-- the first value goes to slot i -/
theorem Rep.sto {v : V} {q : R} (r : Rep K B G H σ δ (v :: vs) (q :: rs) w) {i : Nat} {Q : List Sl → Prop} (h : setS i q δ Q) (hq : isAt q = false) (hrs : ∀ p ∈ rs, isAt p = false) :
    ∃ w', Q (δ.set i (slOf q)) ∧ Stp B.T G H w δ G H w' (δ.set i (slOf q)) ∧ Rep K B G H (σ.set i (some v)) (δ.set i (slOf q)) vs rs w' ∧ Pin σ δ (σ.set i (some v)) := by
  have hd : ∃ s, δ[i]? = some s ∧ (∀ o, s ≠ .ow true o) ∧ Q (δ.set i (slOf q)) := by
    unfold setS at h
    revert h
    split
    · intro h; exact h.elim
    · intro h; exact h.elim
    · rename_i s hn e
      intro h
      exact ⟨s, e, fun o z => hn o z, h⟩
  obtain ⟨s, hs, hp, hQ⟩ := hd
  have hi : i < δ.length := (List.getElem?_eq_some_iff.mp hs).1
  have hiσ : i < σ.length := by rw [r.len]; exact hi
  have np : ∀ o, δ[i]? ≠ some (.ow true o) := fun o z => by rw [hs] at z; cases z; exact hp o rfl
  have st : Stp B.T G H w δ G H (moved i w) (δ.set i (slOf q)) := .of ⟨fun _ _ h => h, fun _ _ _ h => h, fun a m h => by
    obtain ⟨n, hn⟩ := of_moved h
    exact .inl (by rw [hn]; exact Option.some_ne_none _), fun a o h => .inl h, pn_set np⟩
  refine ⟨moved i w, hQ, st, ⟨r.sub, fun a m h => ?_, by rw [List.length_set, List.length_set]; exact r.len, fun k s' hk => ?_, by have := r.tlen; simpa using this, fun j u p hu hp' => ?_, st.bs r.bs⟩, fun k o hk => ?_⟩
  · obtain ⟨n, hn⟩ := of_moved h
    exact r.out a n hn
  · by_cases e : i = k
    · subst e
      rw [List.getElem?_set_self hi] at hk
      cases hk
      have t := r.tm 0 v q rfl rfl
      cases q with
      | im d => exact ⟨v, List.getElem?_set_self hiσ, t⟩
      | ow o =>
        refine ⟨v, List.getElem?_set_self hiσ, RO.mono (fun _ _ h => h) (fun _ _ _ h => h) (fun a u ma _ => ?_) t⟩
        show moved i w a = _
        unfold moved
        rw [ma]
        rfl
      | «at» _ => cases hq
    · rw [List.getElem?_set_ne e] at hk
      rw [List.getElem?_set_ne e]
      refine (r.sl k s' hk).mono (fun _ _ h => h) (fun _ _ _ h => h) fun a u ma _ => ?_
      show moved i w a = _
      unfold moved
      rw [ma]
      dsimp only
      rw [if_neg (by omega), if_neg (by omega), if_neg (by omega)]
  · have t := r.tm (j + 1) u p (by simpa using hu) (by simpa using hp')
    have hno : isAt p = false := hrs p (List.mem_of_getElem? hp')
    cases p with
    | im d => exact t
    | ow o =>
      refine RO.mono (fun _ _ h => h) (fun _ _ _ h => h) (fun a u ma _ => ?_) t
      show moved i w a = _
      unfold moved
      rw [ma]
      dsimp only
      rw [if_neg (by omega), if_pos (by omega)]
      congr 1
    | «at» _ => cases hno
  · by_cases e : i = k
    · subst e; exact absurd hk (np o)
    · rw [List.getElem?_set_ne e]
/-- several slots get several values -/
theorem Rep.stos : ∀ (is : List Nat) {σ : St} {δ : List Sl} {vs : List V} {qs : List R} {w : Addr → Option Nat} {Q : List Sl → Prop}, Rep K B G H σ δ vs qs w → setAll is qs δ Q → (∀ q ∈ qs, isAt q = false) →
    ∃ δ' w', Q δ' ∧ Stp B.T G H w δ G H w' δ' ∧ Rep K B G H ((is.zip vs).foldl (fun σ p => σ.set p.1 (some p.2)) σ) δ' [] [] w' ∧ Pin σ δ ((is.zip vs).foldl (fun σ p => σ.set p.1 (some p.2)) σ) ∧ is.length = vs.length
  | [], σ, δ, vs, qs, w, Q, r, h, hq => by
    cases qs with
    | nil =>
      have hv : vs = [] := List.eq_nil_of_length_eq_zero (by have := r.tlen; simpa using this)
      subst hv
      exact ⟨δ, w, h, .refl, r, .refl, rfl⟩
    | cons => exact h.elim
  | i :: is, σ, δ, vs, qs, w, Q, r, h, hq => by
    cases qs with
    | nil => exact h.elim
    | cons q qs =>
      cases vs with
      | nil => have := r.tlen; simp at this
      | cons v vs =>
        obtain ⟨w1, h1, s1, r1, p1⟩ := r.sto (show setS i q δ _ from h) (hq q List.mem_cons_self) fun p hp => hq p (List.mem_cons_of_mem _ hp)
        obtain ⟨δ2, w2, h2, s2, r2, p2, hl⟩ := Rep.stos is r1 h1 fun p hp => hq p (List.mem_cons_of_mem _ hp)
        exact ⟨δ2, w2, h2, s1.trans s2, r2, p1.trans s1.pn p2, congrArg (· + 1) hl⟩
/-- what slot i holds is handed on -/
def taken (i : Nat) (w : Addr → Option Nat) (a : Addr) : Option Nat := match w a with
  | none => none
  | some n => if n = 2 * i then some 1 else if n % 2 = 1 then none else some n
def mv (δ : List Sl) : R → Option (R × List Sl)
  | .at i => match δ[i]? with
    | some (.im d) => some (.im d, δ)
    | some (.ow false o) => some (.ow o, δ.set i .un)
    | _ => none
  | r => some (r, δ)
theorem Rep.mv1 {v : V} {q q' : R} {δ' : List Sl} (r : Rep K B G H σ δ [v] [q] w) (h : mv δ q = some (q', δ')) : ∃ w', Stp B.T G H w δ G H w' δ' ∧ Rep K B G H σ δ' [v] [q'] w' ∧ isAt q' = false := by
  cases q with
  | im d => cases h; exact ⟨w, .refl, r, rfl⟩
  | ow o => cases h; exact ⟨w, .refl, r, rfl⟩
  | «at» i =>
    have t : σ[i]? = some (some v) := r.tm 0 v (.at i) rfl rfl
    simp only [mv] at h
    revert h
    split
    · rename_i d e
      intro h
      cases h
      obtain ⟨u, hu, hd⟩ := r.sl i _ e
      rw [t] at hu
      cases hu
      exact ⟨_, .drop, r.ret hd, rfl⟩
    · rename_i o e
      intro h
      cases h
      obtain ⟨u, hu, hd⟩ := r.sl i _ e
      rw [t] at hu
      cases hu
      have ot : ∀ a m, taken i w a = some m → ∃ n, w a = some n := fun a m h => by
        unfold taken at h
        cases e : w a with
        | none => rw [e] at h; cases h
        | some n => exact ⟨n, rfl⟩
      have st : Stp B.T G H w δ G H (taken i w) (δ.set i .un) := .of ⟨fun _ _ h => h, fun _ _ _ h => h, fun a m h => by
        obtain ⟨n, hn⟩ := ot a m h
        exact .inl (by rw [hn]; exact Option.some_ne_none _), fun a o h => .inl h, pn_set fun o z => by rw [e] at z; cases z⟩
      refine ⟨taken i w, st, ⟨r.sub, fun a m h => ?_, by rw [List.length_set]; exact r.len, fun k s' hk => ?_, rfl, fun j u p hu hp' => ?_, st.bs r.bs⟩, rfl⟩
      · obtain ⟨n, hn⟩ := ot a m h
        exact r.out a n hn
      · by_cases ek : i = k
        · subst ek
          rw [List.getElem?_set_self (List.getElem?_eq_some_iff.mp e).1] at hk
          cases hk
          trivial
        · rw [List.getElem?_set_ne ek] at hk
          refine (r.sl k s' hk).mono (fun _ _ h => h) (fun _ _ _ h => h) fun a u ma _ => ?_
          show taken i w a = _
          unfold taken
          rw [ma]
          dsimp only
          rw [if_neg (by omega), if_neg (by omega)]
      · match j with
        | 0 =>
          simp only [List.getElem?_cons_zero, Option.some.injEq] at hu hp'
          subst hu hp'
          refine RO.mono (fun _ _ h => h) (fun _ _ _ h => h) (fun a u ma _ => ?_) hd
          show taken i w a = _
          unfold taken
          rw [ma]
          dsimp only
          rw [if_pos rfl]
        | j + 1 => simp at hu
    · intro h; cases h
end
/-! ### statements -/
structure PEn where
  nx : List Sl → Prop
  rt : R → List Sl → Prop
  bk : List Sl → Prop := fun _ => False
  ct : List Sl → Prop := fun _ => False
abbrev PSx := PEn → List Sl → Prop
structure EOk (K : PySem.W.Frag) (B : Bas) (G H : Hp) (w : Addr → Option Nat) (σ : St) (δ : List Sl) (E : PEn) (D : Ends) : Prop where
  nx : ∀ δ' σ' H' G' w', E.nx δ' → Stp B.T G H w δ G' H' w' δ' → Rep K B G' H' σ' δ' [] [] w' → Pin σ δ σ' → D.nx σ' H'
  rt : ∀ r δ' v σ' H' G' w', E.rt r δ' → isAt r = false → Stp B.T G H w δ G' H' w' δ' → Rep K B G' H' σ' δ' [v] [r] w' → Pin σ δ σ' → D.rt v H'
  bk : ∀ δ' σ' H' G' w', E.bk δ' → Stp B.T G H w δ G' H' w' δ' → Rep K B G' H' σ' δ' [] [] w' → Pin σ δ σ' → D.bk σ' H'
  ct : ∀ δ' σ' H' G' w', E.ct δ' → Stp B.T G H w δ G' H' w' δ' → Rep K B G' H' σ' δ' [] [] w' → Pin σ δ σ' → D.ct σ' H'
theorem EOk.later {K : PySem.W.Frag} {G H G1 H1 : Hp} {w w1 : Addr → Option Nat} {σ σ1 : St} {δ δ1 : List Sl} {E : PEn} {D : Ends} (e : EOk K B G H w σ δ E D) (s : Stp B.T G H w δ G1 H1 w1 δ1) (p : Pin σ δ σ1) : EOk K B G1 H1 w1 σ1 δ1 E D :=
  ⟨fun δ' σ' H' G' w' h s' r p' => e.nx δ' σ' H' G' w' h (s.trans s') r (p.trans s.pn p'), fun q δ' v σ' H' G' w' h ha s' r p' => e.rt q δ' v σ' H' G' w' h ha (s.trans s') r (p.trans s.pn p'),
    fun δ' σ' H' G' w' h s' r p' => e.bk δ' σ' H' G' w' h (s.trans s') r (p.trans s.pn p'), fun δ' σ' H' G' w' h s' r p' => e.ct δ' σ' H' G' w' h (s.trans s') r (p.trans s.pn p')⟩
def LS (K : PySem.W.Frag) (B : Bas) (p : PSx) : TS := fun D σ H => ∃ G w δ E, Rep K B G H σ δ [] [] w ∧ p E δ ∧ EOk K B G H w σ δ E D
def JS (X : Cx) (B : Bas) (st : Stmt) (p : PSx) : Prop := PS X st (LS X.K B p)
def JSs (X : Cx) (B : Bas) (st : List Stmt) (p : PSx) : Prop := PSs X st (LS X.K B p)
def pNext : PSx := fun E δ => E.nx δ
def pSeq (a b : PSx) : PSx := fun E δ => a { E with nx := fun δ' => b E δ' } δ
def pBreak : PSx := fun E δ => E.bk δ
def pCont : PSx := fun E δ => E.ct δ
def pExpr (p : PX) : PSx := fun E δ => p δ fun _ δ1 => E.nx δ1
def pRet (p : PX) : PSx := fun E δ => p δ fun r δ1 => ∃ q δ2, mv δ1 r = some (q, δ2) ∧ E.rt q δ2
def pRetN : PSx := fun E δ => E.rt (.im .none) δ
def pIf (c : PB) (a b : PSx) : PSx := fun E δ => c δ fun t δ1 => if t = true then a E δ1 else b E δ1
def pSet (i : Nat) (p : PX) : PSx := fun E δ => p δ fun r δ1 => ∃ q δ2, rz δ1 r = some (q, δ2) ∧ setS i q δ2 E.nx
def pPar (is : List Nat) (ps : PL) : PSx := fun E δ => ps δ fun rs δ1 => ∃ qs δ2, rzAll δ1 rs = some (qs, δ2) ∧ setAll is qs δ2 E.nx
section
variable {X : Cx} {st : Stmt} {sts : List Stmt} {a b : PSx} {e : Expr} {pa : PX} {pos : Pos}
theorem jss_nil : JSs X B [] pNext := PSs_wk pss_nil fun D σ H ⟨G, w, δ, E, rep, h, ek⟩ => ek.nx δ σ H G w h .refl rep .refl
theorem jss_cons (h1 : JS X B st a) (h2 : JSs X B sts b) : JSs X B (st :: sts) (pSeq a b) := PSs_wk (pss_cons h1 h2) fun D σ H ⟨G, w, δ, E, rep, h, ek⟩ =>
  ⟨G, w, δ, _, rep, h, ⟨fun δ' σ' H' G' w' hb s r p => ⟨G', w', δ', E, r, hb, ek.later s p⟩, ek.rt, ek.bk, ek.ct⟩⟩
theorem jss_one (h1 : JS X B st a) : JSs X B [st] a := pss_one h1
theorem js_pass : JS X B (.Pass pos) pNext := PS_wk ps_pass fun D σ H ⟨G, w, δ, E, rep, h, ek⟩ => ek.nx δ σ H G w h .refl rep .refl
theorem js_break : JS X B (.Break pos) pBreak := PS_wk ps_break fun D σ H ⟨G, w, δ, E, rep, h, ek⟩ => ek.bk δ σ H G w h .refl rep .refl
theorem js_continue : JS X B (.Continue pos) pCont := PS_wk ps_continue fun D σ H ⟨G, w, δ, E, rep, h, ek⟩ => ek.ct δ σ H G w h .refl rep .refl
theorem js_expr (he : JE X B e pa) (hs : swapsWith e none pos.line X.env = pure false := by rfl) : JS X B (.Expr e pos) (pExpr pa) := PS_wk (ps_expr he hs) fun D σ H ⟨G, w, δ, E, rep, h, ek⟩ =>
  ⟨G, w, δ, _, rep, h, fun r δ1 v H1 G1 w1 q1 s1 rep1 => ek.nx δ1 σ H1 G1 _ q1 (s1.trans .drop) rep1.drop .refl⟩
theorem js_ret (he : JE X B e pa) : JS X B (.Return (some e) pos) (pRet pa) := PS_wk (ps_ret he) fun D σ H ⟨G, w, δ, E, rep, h, ek⟩ =>
  ⟨G, w, δ, _, rep, h, fun r δ1 v H1 G1 w1 q1 s1 rep1 => by
    obtain ⟨q, δ2, hm, q1⟩ := q1
    obtain ⟨w2, s2, r2, ha⟩ := rep1.mv1 hm
    exact ek.rt q δ2 v σ H1 G1 w2 q1 ha (s1.trans s2) r2 .refl⟩
theorem js_retN : JS X B (.Return none pos) pRetN := PS_wk ps_retN fun D σ H ⟨G, w, δ, E, rep, h, ek⟩ => ek.rt _ δ .non σ H G _ h rfl .drop (rep.ret .non) .refl
theorem js_if {c : Expr} {x y : List Stmt} {pc : PB} (hc : JB X B c pc) (ha : JSs X B x a) (hb : JSs X B y b) : JS X B (.If c x y pos) (pIf pc a b) := PS_wk (ps_if hc ha hb) fun D σ H ⟨G, w, δ, E, rep, h, ek⟩ =>
  ⟨G, w, δ, _, rep, h, fun t δ1 H1 G1 w1 q1 s1 rep1 => by
    cases t with
    | true => exact ⟨G1, w1, δ1, E, rep1, q1, ek.later s1 .refl⟩
    | false => exact ⟨G1, w1, δ1, E, rep1, q1, ek.later s1 .refl⟩⟩
theorem set_lift {i : Nat} {p : PX} {D : Ends} {σ : St} {H : Hp} (h : LS X.K B (pSet i p) D σ H) : tAsg (LE X.K B p) (gName i) D σ H := by
  obtain ⟨G, w, δ, E, rep, h, ek⟩ := h
  refine ⟨G, w, δ, _, rep, h, fun r δ1 v H1 G1 w1 q1 s1 rep1 => ?_⟩
  obtain ⟨q, δ2, hz, q1⟩ := q1
  obtain ⟨G2, w2, s2, r2⟩ := rep1.rz1 (j := 0) rfl hz
  obtain ⟨w3, q3, s3, r3, p3⟩ := r2.sto q1 (rz_noAt hz) (fun p hp => by cases hp)
  exact ek.nx _ _ H1 G2 w3 q3 ((s1.trans s2).trans s3) r3 ((Pin.refl (σ := σ)).trans (s1.trans s2).pn p3)
theorem js_set {i : Nat} {x : Str} {pos' : Pos} (hN : X.N.Nodup) (hi : X.N[i]? = some x) (hx : Loc X.env.scope x) (he : JE X B e pa) (hs : swapsWith e (some (.Name x pos')) pos.line X.env = pure false := by rfl) (hf : X.fn x = true ∨ X.env.scope.names.lookup x = some .local := by first | exact .inl rfl | exact .inr rfl | assumption) :
    JS X B (.Assign [.Name x pos'] e pos) (pSet i pa) := PS_wk (ps_set hN hi hx he hs hf) fun D σ H ⟨G, w, δ, E, rep, h, ek⟩ =>
  ⟨G, w, δ, _, rep, h, fun r δ1 v H1 G1 w1 q1 s1 rep1 => by
    obtain ⟨q, δ2, hz, q1⟩ := q1
    obtain ⟨G2, w2, s2, r2⟩ := rep1.rz1 (j := 0) rfl hz
    obtain ⟨w3, q3, s3, r3, p3⟩ := r2.sto q1 (rz_noAt hz) (fun p hp => by cases hp)
    exact ek.nx _ _ H1 G2 w3 q3 ((s1.trans s2).trans s3) r3 ((Pin.refl (σ := σ)).trans (s1.trans s2).pn p3)⟩
theorem js_par2 {i j : Nat} {x y : Str} {e1 e2 : Expr} {ps : PL} {px py pt : Pos} {kt k2 pt2} (hc : X.calm = true) (hN : X.N.Nodup) (hi : X.N[i]? = some x) (hj : X.N[j]? = some y) (hij : i ≠ j)
    (hx : X.env.scope.names.lookup x = some .local) (hy : X.env.scope.names.lookup y = some .local) (ha : JA X B [e1, e2] ps)
    (hw : swappedStores [.Tuple [.Name x px, .Name y py] kt pt] (.Tuple [e1, e2] k2 pt2) X.env = pure (some [x, y]))
    (hs : swapsWithSole [.Tuple [.Name x px, .Name y py] kt pt] (.Tuple [e1, e2] k2 pt2) pos.line X.env = pure false := by rfl) :
    JS X B (.Assign [.Tuple [.Name x px, .Name y py] kt pt] (.Tuple [e1, e2] k2 pt2) pos) (pPar [i, j] ps) := PS_wk (ps_par hc hN hi hj hij hx hy ha hw hs) fun D σ H ⟨G, w, δ, E, rep, h, ek⟩ =>
  ⟨G, w, δ, _, rep, h, fun rs δ1 vs H1 G1 w1 q1 l1 s1 rep1 => by
    obtain ⟨qs, δ2, hz, q1⟩ := q1
    obtain ⟨G2, w2, s2, r2⟩ := rep1.rzs hz
    obtain ⟨δ3, w3, q3, s3, r3, p3, hl⟩ := Rep.stos [i, j] r2 q1 (rzAll_noAt hz)
    match vs, hl with
    | [v, u], _ => exact ⟨v, u, rfl, ek.nx _ _ H1 G2 w3 q3 ((s1.trans s2).trans s3) r3 ((Pin.refl (σ := σ)).trans (s1.trans s2).pn p3)⟩⟩
theorem js_par3 {i j l : Nat} {x y z : Str} {e1 e2 e3 : Expr} {ps : PL} {px py pz pt : Pos} {kt k2 pt2} (hc : X.calm = true) (hN : X.N.Nodup) (hi : X.N[i]? = some x) (hj : X.N[j]? = some y) (hk : X.N[l]? = some z) (hij : i ≠ j) (hil : i ≠ l) (hjl : j ≠ l)
    (hx : X.env.scope.names.lookup x = some .local) (hy : X.env.scope.names.lookup y = some .local) (hz : X.env.scope.names.lookup z = some .local) (ha : JA X B [e1, e2, e3] ps)
    (hw : swappedStores [.Tuple [.Name x px, .Name y py, .Name z pz] kt pt] (.Tuple [e1, e2, e3] k2 pt2) X.env = pure (some [x, y, z]))
    (hs : swapsWithSole [.Tuple [.Name x px, .Name y py, .Name z pz] kt pt] (.Tuple [e1, e2, e3] k2 pt2) pos.line X.env = pure false := by rfl) :
    JS X B (.Assign [.Tuple [.Name x px, .Name y py, .Name z pz] kt pt] (.Tuple [e1, e2, e3] k2 pt2) pos) (pPar [i, j, l] ps) := PS_wk (ps_par3 hc hN hi hj hk hij hil hjl hx hy hz ha hw hs) fun D σ H ⟨G, w, δ, E, rep, h, ek⟩ =>
  ⟨G, w, δ, _, rep, h, fun rs δ1 vs H1 G1 w1 q1 l1 s1 rep1 => by
    obtain ⟨qs, δ2, hz, q1⟩ := q1
    obtain ⟨G2, w2, s2, r2⟩ := rep1.rzs hz
    obtain ⟨δ3, w3, q3, s3, r3, p3, hl⟩ := Rep.stos [i, j, l] r2 q1 (rzAll_noAt hz)
    match vs, hl with
    | [v, u, t], _ => exact ⟨v, u, t, rfl, ek.nx _ _ H1 G2 w3 q3 ((s1.trans s2).trans s3) r3 ((Pin.refl (σ := σ)).trans (s1.trans s2).pn p3)⟩⟩
end
/-! ### targets of data -/
abbrev PGx := PyData → List Sl → (List Sl → Prop) → Prop
abbrev PGxs := List PyData → List Sl → (List Sl → Prop) → Prop
def gN (i : Nat) : PGx := fun d δ Q => setS i (.im d) δ Q
def gsN : PGxs := fun ds δ Q => ds = [] ∧ Q δ
def gsC (g : PGx) (gs : PGxs) : PGxs := fun ds δ Q => match ds with
  | d :: ds => g d δ fun δ' => gs ds δ' Q
  | [] => False
def gT (n : Nat) (gs : PGxs) : PGx := fun d δ Q => match d with
  | .tuple ds => ds.length = n ∧ gs ds δ Q
  | _ => False
/-- only the slots ts are stored to -/
def Tch (ts : List Nat) (σ σ' : St) : Prop := σ'.length = σ.length ∧ ∀ k, k ∉ ts → σ'[k]? = σ[k]?
theorem Tch.refl {ts : List Nat} {σ : St} : Tch ts σ σ := ⟨rfl, fun _ _ => rfl⟩
theorem Tch.trans {ts us : List Nat} {σ σ1 σ2 : St} (a : Tch ts σ σ1) (b : Tch us σ1 σ2) : Tch (ts ++ us) σ σ2 := ⟨b.1.trans a.1, fun k hk => (b.2 k fun z => hk (List.mem_append_right _ z)).trans (a.2 k fun z => hk (List.mem_append_left _ z))⟩
def LG (K : PySem.W.Frag) (B : Bas) (ts : List Nat) (g : PGx) : TG := fun v σ H Q => ∃ G w δ d Qp, Rep K B G H σ δ [] [] w ∧ Dq K G v d ∧ g d δ Qp ∧ ∀ δ' σ' H' G' w', Qp δ' → Stp B.T G H w δ G' H' w' δ' → Rep K B G' H' σ' δ' [] [] w' → Pin σ δ σ' → Tch ts σ σ' → Q σ' H'
def LGs (K : PySem.W.Frag) (B : Bas) (ts : List Nat) (g : PGxs) : TGs := fun vs σ H Q => ∃ G w δ ds Qp, Rep K B G H σ δ [] [] w ∧ DqAll K G vs ds ∧ g ds δ Qp ∧ ∀ δ' σ' H' G' w', Qp δ' → Stp B.T G H w δ G' H' w' δ' → Rep K B G' H' σ' δ' [] [] w' → Pin σ δ σ' → Tch ts σ σ' → Q σ' H'
section
variable {X : Cx} {pos : Pos}
theorem PG_wk {e : Expr} {t t' : TG} (h : PG X e t) (k : ∀ v σ H Q, t' v σ H Q → t v σ H Q) : PG X e t' := ⟨fun pins s σ H v u Q I r q => h.run pins s σ H v u Q I r (k v σ H Q q)⟩
theorem PGs_wk {es : List Expr} {t t' : TGs} (h : PGs X es t) (k : ∀ v σ H Q, t' v σ H Q → t v σ H Q) : PGs X es t' := ⟨fun pins s σ H v u Q I r q => h.run pins s σ H v u Q I r (k v σ H Q q)⟩
def JG (X : Cx) (B : Bas) (e : Expr) (ts : List Nat) (g : PGx) : Prop := PG X e (LG X.K B ts g)
def JGs (X : Cx) (B : Bas) (es : List Expr) (ts : List Nat) (g : PGxs) : Prop := PGs X es (LGs X.K B ts g)
theorem jg_name {i : Nat} {x : Str} (hN : X.N.Nodup) (hi : X.N[i]? = some x) (hx : Loc X.env.scope x) (hf : X.fn x = true ∨ X.env.scope.names.lookup x = some .local := by first | exact .inl rfl | exact .inr rfl | assumption) : JG X B (.Name x pos) [i] (gN i) :=
  PG_wk (pg_name hN hi hx hf) fun v σ H Q ⟨G, w, δ, d, Qp, rep, hd, h, k⟩ => by
    obtain ⟨w3, q3, s3, r3, p3⟩ := (rep.ret hd).sto (show setS i (.im d) δ Qp from h) rfl (fun p hp => by cases hp)
    exact k _ _ H G w3 q3 (Stp.drop.trans s3) r3 p3 ⟨List.length_set, fun k hk => List.getElem?_set_ne fun z => hk (by rw [z]; exact List.mem_singleton.mpr rfl)⟩
theorem jgs_nil : JGs X B [] [] gsN := PGs_wk pgs_nil fun vs σ H Q ⟨G, w, δ, ds, Qp, rep, hd, h, k⟩ => by
  obtain ⟨rfl, h⟩ := h
  exact ⟨dqAll_nil hd, k δ σ H G w h .refl rep .refl .refl⟩
theorem jgs_cons {e : Expr} {es : List Expr} {ts us : List Nat} {g : PGx} {gs : PGxs} (h1 : JG X B e ts g) (h2 : JGs X B es us gs)
    (hs : (assignEach (e :: es) X.env).map (·.2) = assign e X.env :: (assignEach es X.env).map (·.2) := by rfl) : JGs X B (e :: es) (ts ++ us) (gsC g gs) := PGs_wk (pgs_cons h1 h2 hs) fun vs σ H Q ⟨G, w, δ, ds, Qp, rep, hd, h, k⟩ => by
  cases hd with
  | nil => exact h.elim
  | cons h1 h2 =>
    exact ⟨_, _, rfl, G, w, δ, _, _, rep, h1, h, fun δ' σ' H' G' w' hq s r p t => ⟨G', w', δ', _, Qp, r, dpAll_mono s.g _ _ h2, hq, fun δ2 σ2 H2 G2 w2 hq2 s2 r2 p2 t2 => k δ2 σ2 H2 G2 w2 hq2 (s.trans s2) r2 (p.trans s.pn p2) (t.trans t2)⟩⟩
theorem jg_tup {es : List Expr} {k : Nat} {ts : List Nat} {g : PGxs} {n : Nat} (hc : X.calm = true) (h : JGs X B es ts g)
    (hn : (assignEach es X.env).length = n := by rfl) (hst : (assignEach es X.env).findIdx? (·.1) = none := by rfl) : JG X B (.Tuple es k pos) ts (gT n g) := PG_wk (pg_tup hc h hn hst) fun v σ H Q ⟨G, w, δ, d, Qp, rep, hd, h, k⟩ => by
  unfold gT at h
  revert h
  split
  · intro h
    cases hd with
    | tup hs ha => exact ⟨_, _, rfl, Same.tp rep.sub _ _ hs, (dqAll_len ha).trans h.1, G, w, δ, _, Qp, rep, ha, h.2, k⟩
  · intro h; exact h.elim
/-- target = data -/
def pAsg (p : PX) (g : PGx) : PSx := fun E δ => p δ fun r δ1 => ∃ d δ2, fz δ1 r = some (d, δ2) ∧ g d δ2 E.nx
theorem js_asg {tg e : Expr} {p : PX} {ts : List Nat} {g : PGx} (he : JE X B e p) (hg : JG X B tg ts g) (hs : swapsWithSole [tg] e pos.line X.env = pure false := by rfl) (hw : swappedStores [tg] e X.env = pure none := by rfl)
    (h1 : (assignEach [tg] X.env).map (·.2) = [assign tg X.env] := by rfl) : JS X B (.Assign [tg] e pos) (pAsg p g) := PS_wk (ps_asg he hg hs hw h1) fun D σ H ⟨G, w, δ, E, rep, h, ek⟩ =>
  ⟨G, w, δ, _, rep, h, fun r δ1 v H1 G1 w1 q1 s1 rep1 => by
    obtain ⟨d, δ2, hz, q1⟩ := q1
    obtain ⟨G2, w2, s2, r2⟩ := rep1.fz1 (j := 0) rfl rfl hz
    have hd : Dq X.K G2 v d := r2.tm 0 v (.im d) rfl rfl
    exact ⟨G2, _, δ2, d, _, r2.drop, hd, q1, fun δ' σ' H' G' w' hq s r p _ => ek.nx δ' σ' H' G' w' hq (((s1.trans s2).trans .drop).trans s) r ((Pin.refl (σ := σ)).trans ((s1.trans s2).trans .drop).pn p)⟩⟩
/-- a, b, .. = x, y, .. by a tuple -/
theorem js_parT {is : List Nat} {xs : List Str} {tgs es : List Expr} {ps : PL} {pt : Pos} {kt k2 pt2} {gs : TGs} (ha : JA X B es ps) (hg : PG X (.Tuple tgs kt pt) (gTup X.K is.length gs)) (hgs : ∀ vs σ H Q, is.length = vs.length → Q ((is.zip vs).foldl (fun σ p => σ.set p.1 (some p.2)) σ) H → gs vs σ H Q) (hl : es.length ≤ sizeLine := by decide)
    (hs : swapsWithSole [.Tuple tgs kt pt] (.Tuple es k2 pt2) pos.line X.env = pure false := by rfl) (hw : swappedStores [.Tuple tgs kt pt] (.Tuple es k2 pt2) X.env = pure none := by rfl) (h1 : (assignEach [.Tuple tgs kt pt] X.env).map (·.2) = [assign (.Tuple tgs kt pt) X.env] := by rfl) :
    JS X B (.Assign [.Tuple tgs kt pt] (.Tuple es k2 pt2) pos) (pPar is ps) := PS_wk (ps_asg (pe_tup ha) hg hs hw h1) fun D σ H ⟨G, w, δ, E, rep, h, ek⟩ =>
  ⟨G, w, δ, _, rep, h, fun rs δ1 vs H1 G1 w1 q1 l1 s1 rep1 => ⟨by rw [rep1.tlen, l1]; exact hl, fun p hp => by
    obtain ⟨qs, δ2, hz, q1⟩ := q1
    obtain ⟨G2, w2, s2, r2⟩ := rep1.rzs hz
    obtain ⟨s3, r3⟩ := r2.lay (o := .tup vs) hp
    obtain ⟨δ4, w4, q4, s4, r4, p4, hl⟩ := Rep.stos is r3 q1 (rzAll_noAt hz)
    refine ⟨p, vs, rfl, SqT.of upd_same, hl.symm, hgs vs σ _ _ hl ?_⟩
    exact ek.nx _ _ _ _ w4 q4 (((s1.trans s2).trans s3).trans s4) r4 ((Pin.refl (σ := σ)).trans ((s1.trans s2).trans s3).pn p4)⟩⟩
end
end Pv

namespace Pv
open PySem PySem.Spec L2 Wf
variable {B : Bas}
/-! ### a list of one's own is changed -/
section
variable {K : PySem.W.Frag} {G H : Hp} {σ : St} {δ : List Sl} {vs : List V} {rs : List R} {w : Addr → Option Nat}
theorem Rep.own (r : Rep K B G H σ δ vs rs w) {i : Nat} {b : Bool} {ds : List PyData} (h : δ[i]? = some (.ow b (.lst ds))) : ∃ a us, σ[i]? = some (some (.ref a)) ∧ w a = some (2 * i) ∧ H a = some (.lst us) ∧ DqAll K G us ds := by
  obtain ⟨v, hv, a, us, rfl, ma, ha, hd⟩ := r.sl i _ h
  exact ⟨a, us, hv, ma, ha, hd⟩
theorem Rep.wr (r : Rep K B G H σ δ vs rs w) {i : Nat} {b : Bool} {ds ds' : List PyData} {a : Addr} {us us' : List V} (h : δ[i]? = some (.ow b (.lst ds))) (hσ : σ[i]? = some (some (.ref a))) (hw : w a = some (2 * i)) (ha : H a = some (.lst us)) (hd : DqAll K G us' ds') :
    Stp B.T G H w δ G (upd H a (.lst us')) w (δ.set i (.ow b (.lst ds'))) ∧ Rep K B G (upd H a (.lst us')) σ (δ.set i (.ow b (.lst ds'))) vs rs w := by
  have hi : i < δ.length := (List.getElem?_eq_some_iff.mp h).1
  have ne : ∀ x n, w x = some n → n ≠ 2 * i → x ≠ a := fun x n hx hn z => by subst z; rw [hw] at hx; cases hx; exact hn rfl
  have g0 := (r.out a _ hw).1
  have st : Stp B.T G H w δ G (upd H a (.lst us')) w (δ.set i (.ow b (.lst ds'))) := by
    refine .of ⟨fun _ _ h => h, fun x o hx ho => ?_, fun x n hx => .inl (by rw [hx]; exact Option.some_ne_none _), fun _ _ h => .inl h, fun k o hk => ?_⟩ (tabs_put ha)
    · rw [upd_ne (fun z => by subst z; rw [hw] at hx; cases hx)]
      exact ho
    · by_cases e : i = k
      · subst e
        rw [h] at hk
        cases hk
        exact ⟨_, List.getElem?_set_self hi⟩
      · exact ⟨o, by rw [List.getElem?_set_ne e]; exact hk⟩
  refine ⟨st, fun x o hx => ?_, fun x n hx => ?_, by rw [List.length_set]; exact r.len, fun k s hk => ?_, r.tlen, fun j v q hv hq => ?_, st.bs r.bs⟩
  · have : x ≠ a := fun z => by subst z; rw [g0] at hx; cases hx
    rw [upd_ne this]
    exact r.sub x o hx
  · obtain ⟨h1, h2, h3⟩ := r.out x n hx
    by_cases e : x = a
    · subst e
      rw [upd_same]
      exact ⟨h1, Option.some_ne_none _, NoX.lst upd_same⟩
    · rw [upd_ne e]
      exact ⟨h1, h2, noT_upd e h3⟩
  · by_cases e : i = k
    · subst e
      rw [List.getElem?_set_self hi] at hk
      cases hk
      exact ⟨_, hσ, a, us', rfl, hw, upd_same, hd⟩
    · rw [List.getElem?_set_ne e] at hk
      refine (r.sl k s hk).mono (fun _ _ h => h) (fun x u mx hu => ?_) fun x u mx _ => mx
      rw [upd_ne (ne x _ mx (by omega))]
      exact hu
  · refine (r.tm j v q hv hq).mono (fun _ _ h => h) (fun x u mx hu => ?_) fun x u mx _ => mx
    rw [upd_ne (ne x _ mx (by omega))]
    exact hu
end
/-- a method of one's own list: its items, the arguments; what is told, the items then -/
def pMt (f : List PyData → List PyData → (PyData → List PyData → Prop) → Prop) (po : PX) (ps : PL) : PX := fun δ Q => po δ fun ro δ1 => ∃ i b0 ds0, ro = .at i ∧ δ1[i]? = some (.ow b0 (.lst ds0)) ∧ ps δ1 fun rs δ2 => ∃ as δ3 b ds, fzAll δ2 rs = some (as, δ3) ∧ δ3[i]? = some (.ow b (.lst ds)) ∧
  f ds as fun d ds' => Q (.im d) (δ3.set i (.ow b (.lst ds')))
def MtV (K : PySem.W.Frag) (f : List PyData → List PyData → (PyData → List PyData → Prop) → Prop) (r : V → List V → Hp → VK → Prop) : Prop :=
  ∀ (G H : Hp) (a : Addr) (us vs : List V) (ds as : List PyData) (Qp : PyData → List PyData → Prop) (Q : VK), H a = some (.lst us) → DqAll K G us ds → DqAll K G vs as → f ds as Qp → (∀ d ds' v us', Qp d ds' → Dq K G v d → DqAll K G us' ds' → Q v (upd H a (.lst us'))) → r (.ref a) vs H Q
section
variable {X : Cx} {o e : Expr} {es : List Expr} {po : PX} {ps : PL} {name : Str} {apos cpos pos : Pos} {id : String} {r : V → List V → Hp → VK → Prop} {f : List PyData → List PyData → (PyData → List PyData → Prop) → Prop}
theorem mt_go {Q : VK} {σ : St} {G H G1 H1 : Hp} {w w1 : Addr → Option Nat} {δ δ1 : List Sl} {Qp : QE} {x : V} {i : Nat} (hm : MtV X.K f r)
    (k : ∀ r δ' v H' G' w', Qp r δ' → Stp B.T G H w δ G' H' w' δ' → Rep X.K B G' H' σ δ' [v] [r] w' → Q v H') (s1 : Stp B.T G H w δ G1 H1 w1 δ1) {vs : List V} {rs : List R} (rep1 : Rep X.K B G1 H1 σ δ1 vs rs w1) (hx : σ[i]? = some (some x))
    {as : List PyData} {δ3 : List Sl} {b : Bool} {ds : List PyData} (e1 : fzAll δ1 rs = some (as, δ3)) (e2 : δ3[i]? = some (.ow b (.lst ds))) (q : f ds as fun d ds' => Qp (.im d) (δ3.set i (.ow b (.lst ds')))) : r x vs H1 Q := by
  obtain ⟨G2, w2, s2, r2⟩ := rep1.fzs e1
  obtain ⟨a, us, hσ, hw, ha, hd⟩ := r2.own e2
  rw [hx] at hσ
  cases hσ
  refine hm G2 H1 a us vs ds as _ Q ha hd r2.ims q fun d ds' v us' hq hv hu => ?_
  obtain ⟨s3, r3⟩ := r2.wr e2 hx hw ha hu
  exact k _ _ v _ G2 _ hq (((s1.trans s2).trans s3).trans .drop) (r3.ret hv)
theorem je_mt (pa : PlainAttrs "list") (slot : Slot "list" name id) (hty : typeOf (.builtin id) = pure (.type "method_descriptor")) (hm : MtR X id r) (hv : MtV X.K f r) (ho : JE X B o po) (ha : JA X B (e :: es) ps)
    (hbase : attributeBase o name X.env (eval o X.env) = eval o X.env := by rfl)
    (hfew : ((backTo cpos (starEach (e :: es) X.env)).all (fun x => !x.1) && (backToKw cpos (keywordEach [] X.env)).all (fun x => x.1.isSome)
      && decide ((e :: es).length + ([] : List Keyword).length + (if ([] : List Keyword).isEmpty then 0 else 1) < 30)) = true := by rfl)
    (hline : (apos.endLine == cpos.line) = true := by rfl) (hs : starEach (e :: es) X.env = (false, eval e X.env) :: starEach es X.env := by rfl) (hplain : (backTo cpos (starEach es X.env)).any (·.1) = false := by rfl) :
    JE X B (.Call (.Attribute o name apos) (e :: es) [] cpos) (pMt f po ps) := by
  refine PE_wk (pe_bm pa slot hty hm ho ha hbase hfew hline hs hplain) fun σ H Q ⟨G, w, δ, Qp, rep, q, k⟩ => ?_
  refine ⟨G, w, δ, _, rep, q, fun ro δ1 x H1 G1 w1 q1 s1 rep1 => ?_⟩
  obtain ⟨i, b0, ds0, rfl, e0, q1⟩ := q1
  have hx : σ[i]? = some (some x) := rep1.tm 0 x (.at i) rfl rfl
  obtain ⟨a0, us0, hσ0, _, ha0, _⟩ := rep1.own e0
  rw [hx] at hσ0
  cases hσ0
  refine ⟨.inl ⟨rfl, us0, SqL.of ha0⟩, G1, _, δ1, _, rep1.drop, q1, fun rs δ2 vs H2 G2 w2 q2 _ s2 rep2 => ?_⟩
  obtain ⟨as, δ3, b, ds, e1, e2, q2⟩ := q2
  exact mt_go hv k ((s1.trans .drop).trans s2) rep2 hx e1 e2 q2
theorem je_mt0 (pa : PlainAttrs "list") (slot : Slot "list" name id) (hty : typeOf (.builtin id) = pure (.type "method_descriptor")) (hm : MtR X id r) (hv : MtV X.K f r) (ho : JE X B o po)
    (hbase : attributeBase o name X.env (eval o X.env) = eval o X.env := by rfl) (hline : (apos.endLine == cpos.line) = true := by rfl) : JE X B (.Call (.Attribute o name apos) [] [] cpos) (pMt f po pNil) := by
  refine PE_wk (pe_bm0 pa slot hty hm ho hbase hline) fun σ H Q ⟨G, w, δ, Qp, rep, q, k⟩ => ?_
  refine ⟨G, w, δ, _, rep, q, fun ro δ1 x H1 G1 w1 q1 s1 rep1 => ?_⟩
  obtain ⟨i, b0, ds0, rfl, e0, as, δ3, b, ds, e1, e2, q1⟩ := q1
  have hx : σ[i]? = some (some x) := rep1.tm 0 x (.at i) rfl rfl
  obtain ⟨a0, us0, hσ0, _, ha0, _⟩ := rep1.own e0
  rw [hx] at hσ0
  cases hσ0
  exact ⟨.inl ⟨rfl, us0, SqL.of ha0⟩, mt_go hv k (s1.trans .drop) rep1.drop hx e1 e2 q1⟩
def mAppend : List PyData → List PyData → (PyData → List PyData → Prop) → Prop
  | ds, [d], k => ds.length < sizeLine ∧ k .none (ds ++ [d])
  | _, _, _ => False
theorem mv_append {K : PySem.W.Frag} : MtV K mAppend rAppend := by
  intro G H a us vs ds as Qp Q ha hu hv q k
  match as, hv, q with
  | [d], .cons h1 .nil, q => exact ⟨a, us, _, rfl, rfl, ha, by rw [dqAll_len hu]; exact q.1, k _ _ _ _ q.2 .non (dqAll_append hu (.cons h1 .nil))⟩
  | [], _, q => exact q.elim
  | _ :: _ :: _, _, q => exact q.elim
def mPop : List PyData → List PyData → (PyData → List PyData → Prop) → Prop
  | ds, [], k => ∃ d, ds[ds.length - 1]? = some d ∧ k d ds.dropLast
  | _, _, _ => False
theorem dqAll_dropLast {K : PySem.W.Frag} {G : Hp} {us : List V} {ds : List PyData} (h : DqAll K G us ds) : DqAll K G us.dropLast ds.dropLast := by
  rw [List.dropLast_eq_take, List.dropLast_eq_take, dqAll_len h]
  exact dqAll_take _ h
theorem mv_pop {K : PySem.W.Frag} : MtV K mPop rPop := by
  intro G H a us vs ds as Qp Q ha hu hv q k
  match as, hv, q with
  | [], .nil, ⟨d, e, q⟩ =>
    obtain ⟨v, hv, hd⟩ := dqAll_get hu e
    exact ⟨a, us, v, rfl, rfl, ha, by rw [dqAll_len hu]; exact hv, k _ _ _ _ q hd (dqAll_dropLast hu)⟩
  | _ :: _, _, q => exact q.elim
def mPopAt : List PyData → List PyData → (PyData → List PyData → Prop) → Prop
  | ds, [.int i], k => -(2 ^ 63) ≤ i ∧ i < 2 ^ 63 ∧ ∃ j d, ixN ds.length i = some j ∧ ds[j]? = some d ∧ k d (ds.eraseIdx j)
  | _, _, _ => False
theorem dqAll_erase {K : PySem.W.Frag} {G : Hp} : ∀ (n : Nat) {us : List V} {ds : List PyData}, DqAll K G us ds → DqAll K G (us.eraseIdx n) (ds.eraseIdx n)
  | _, _, _, .nil => .nil
  | 0, _, _, .cons _ h => h
  | n + 1, _, _, .cons h1 h => .cons h1 (dqAll_erase n h)
theorem mv_popAt {K : PySem.W.Frag} : MtV K mPopAt rPopAt := by
  intro G H a us vs ds as Qp Q ha hu hv q k
  unfold mPopAt at q
  split at q
  · obtain ⟨b1, b2, j, d, e1, e2, q⟩ := q
    cases hv with
    | cons h1 hv =>
      cases hv
      cases h1
      obtain ⟨v, hv, hd⟩ := dqAll_get hu e2
      obtain ⟨z1, z2, z3, z4⟩ := ixN_seq e1
      have hl := dqAll_len hu
      exact ⟨a, us, _, j, v, rfl, rfl, ha, b1, b2, by rw [hl]; exact z1, hv, k _ _ _ _ q hd (dqAll_erase _ hu)⟩
  · exact q.elim
def mExtend : List PyData → List PyData → (PyData → List PyData → Prop) → Prop
  | ds, [.list es], k => ds.length + es.length ≤ sizeLine ∧ k .none (ds ++ es)
  | _, _, _ => False
/-- xs.extend(ys): ys another list, public or one's own -/
theorem ext_go {K : PySem.W.Frag} {G H : Hp} {a : Addr} {us vs : List V} {ds as : List PyData} {Qp : PyData → List PyData → Prop} {Q : VK} (s : Same G H) (ha : H a = some (.lst us)) (hu : DqAll K G us ds) (hv : DqAll K G vs as) (q : mExtend ds as Qp) (k : ∀ d ds' v us', Qp d ds' → Dq K G v d → DqAll K G us' ds' → Q v (upd H a (.lst us'))) : rExtend (.ref a) vs H Q := by
  unfold mExtend at q
  split at q
  · cases hv with
    | cons h1 hv =>
      cases hv
      cases h1 with
      | lst hs h2 => exact ⟨a, _, us, _, rfl, rfl, ha, s _ _ hs, by rw [dqAll_len hu, dqAll_len h2]; exact q.1, k _ _ _ _ q.2 .non (dqAll_append hu h2)⟩
  · exact q.elim
theorem je_extend (ho : JE X B o po) (ha : JA X B [e] ps) (hbase : attributeBase o "extend" X.env (eval o X.env) = eval o X.env := by rfl)
    (hfew : ((backTo cpos (starEach [e] X.env)).all (fun x => !x.1) && (backToKw cpos (keywordEach [] X.env)).all (fun x => x.1.isSome)
      && decide ([e].length + ([] : List Keyword).length + (if ([] : List Keyword).isEmpty then 0 else 1) < 30)) = true := by rfl)
    (hline : (apos.endLine == cpos.line) = true := by rfl) (hs : starEach [e] X.env = (false, eval e X.env) :: starEach [] X.env := by rfl) (hplain : (backTo cpos (starEach [] X.env)).any (·.1) = false := by rfl) :
    JE X B (.Call (.Attribute o "extend" apos) [e] [] cpos) (pMt mExtend po ps) := by
  refine PE_wk (pe_bm PySem.F.plainAttrs_list PySem.F.slot_list_extend PySem.F.type_list_extend mt_extend ho ha hbase hfew hline hs hplain) fun σ H Q ⟨G, w, δ, Qp, rep, q, k⟩ => ?_
  refine ⟨G, w, δ, _, rep, q, fun ro δ1 x H1 G1 w1 q1 s1 rep1 => ?_⟩
  obtain ⟨i, b0, ds0, rfl, e0, q1⟩ := q1
  have hx : σ[i]? = some (some x) := rep1.tm 0 x (.at i) rfl rfl
  obtain ⟨a0, us0, hσ0, _, ha0, _⟩ := rep1.own e0
  rw [hx] at hσ0
  cases hσ0
  refine ⟨.inl ⟨rfl, us0, SqL.of ha0⟩, G1, _, δ1, _, rep1.drop, q1, fun rs δ2 vs H2 G2 w2 q2 _ s2 rep2 => ?_⟩
  obtain ⟨as, δ3, b, ds, e1, e2, q2⟩ := q2
  obtain ⟨G3, w3, s3, r3⟩ := rep2.fzs e1
  obtain ⟨a, us, hσ, hw, ha, hd⟩ := r3.own e2
  rw [hx] at hσ
  cases hσ
  refine ext_go r3.sub ha hd r3.ims q2 fun d ds' v us' hq hv hu => ?_
  obtain ⟨s4, r4⟩ := r3.wr e2 hx hw ha hu
  exact k _ _ v _ G3 _ hq (((((s1.trans .drop).trans s2).trans s3).trans s4).trans .drop) (r4.ret hv)
def mInsert : List PyData → List PyData → (PyData → List PyData → Prop) → Prop
  | ds, [.int i, d], k => ds.length < sizeLine ∧ 0 ≤ i ∧ i < 2 ^ 63 ∧ k .none (ds.take i.toNat ++ [d] ++ ds.drop i.toNat)
  | _, _, _ => False
theorem mv_insert {K : PySem.W.Frag} : MtV K mInsert (fun x vs H Q => ∃ (l : Addr) (xs : List V) (i : Int) (y : V), x = .ref l ∧ vs = [.int i, y] ∧ H l = some (.lst xs) ∧ xs.length < sizeLine ∧ 0 ≤ i ∧ i < 2 ^ 63 ∧ Q .non (upd H l (.lst (xs.take i.toNat ++ [y] ++ xs.drop i.toNat)))) := by
  intro G H a us vs ds as Qp Q ha hu hv q k
  unfold mInsert at q
  split at q
  · cases hv with
    | cons h1 hv =>
      cases hv with
      | cons h2 hv =>
        cases hv
        cases h1
        exact ⟨a, us, _, _, rfl, rfl, ha, by rw [dqAll_len hu]; exact q.1, q.2.1, q.2.2.1, k _ _ _ _ q.2.2.2 .non (dqAll_append (dqAll_append (dqAll_take _ hu) (.cons h2 .nil)) (dqAll_drop _ hu))⟩
  · exact q.elim
/-! ### x[i] = .. -/
def gSx (po pi : PX) : PGx := fun d δ Q => po δ fun ro δ1 => pi δ1 fun ri δ2 => ∃ i n b ds j, ro = .at i ∧ dat δ2 ri = some (.int n) ∧ δ2[i]? = some (.ow b (.lst ds)) ∧ ixN ds.length n = some j ∧ Q (δ2.set i (.ow b (.lst (ds.set j d))))
theorem dqAll_set {K : PySem.W.Frag} {G : Hp} {v : V} {d : PyData} (h : Dq K G v d) : ∀ (n : Nat) {us : List V} {ds : List PyData}, DqAll K G us ds → DqAll K G (us.set n v) (ds.set n d)
  | _, _, _, .nil => .nil
  | 0, _, _, .cons _ h2 => .cons h h2
  | n + 1, _, _, .cons h1 h2 => .cons h1 (dqAll_set h n h2)
theorem jg_sub {i : Expr} {pi : PX} (ho : JE X B o po) (hi : JE X B i pi)
    (ha : ∀ v, assign (.Subscript o i pos) X.env v = (do
      let ov ← holding [v] (eval o X.env)
      let iv ← holding [v, ov] (eval i X.env)
      standAt pos
      holding [v, ov, iv] (setItem ov iv v)
      release [v, ov, iv] []) := by intro _; rfl) : JG X B (.Subscript o i pos) [] (gSx po pi) := by
  refine PG_wk (pg_sub ho hi set_list ha) fun v σ H Q ⟨G, w, δ, d, Qp, rep, hd, h, k⟩ => ?_
  refine ⟨G, w, δ, _, rep, h, fun ro δ1 x H1 G1 w1 q1 s1 rep1 => ?_⟩
  refine ⟨G1, _, δ1, _, rep1.drop, q1, fun ri δ2 y H2 G2 w2 q2 s2 rep2 => ?_⟩
  obtain ⟨i, n, b, ds, j, rfl, hn, e2, hj, q2⟩ := q2
  have hx : σ[i]? = some (some x) := rep1.tm 0 x (.at i) rfl rfl
  obtain ⟨a, us, hσ, hw, ha, hds⟩ := rep2.own e2
  rw [hx] at hσ
  cases hσ
  have hv := dp_mono (s1.g) _ _ hd
  have hv2 := dp_mono s2.g _ _ hv
  refine ⟨a, us, n, j, rfl, dp_int (rep2.dpH (j := 0) rfl rfl hn), ha, by rw [dqAll_len hds]; exact hj, ?_⟩
  obtain ⟨s4, r4⟩ := rep2.wr e2 hx hw ha (dqAll_set hv2 j hds)
  exact k _ σ _ G2 _ q2 ((((s1.trans .drop).trans s2).trans s4).trans .drop) r4.drop .refl .refl
end
/-! ### what is walked -/
structure ItD (K : PySem.W.Frag) (G : Hp) (J : It) (ds : List PyData) : Prop where
  go : ∀ G' H' (i : Nat), Same G G' → Same G' H' → i < ds.length → J.go i H'
  yld : ∀ G' H' (i : Nat) x H2, Same G G' → Same G' H' → i < ds.length → J.yld i H' x H2 → ∃ d, ds[i]? = some d ∧ Res K G' H' x H2 d
  stop : ∀ G' H', Same G G' → Same G' H' → J.stop ds.length H'
abbrev PIx := List Sl → (List PyData → List Sl → Prop) → Prop
def LI (K : PySem.W.Frag) (B : Bas) (p : PIx) : TI := fun σ H R => ∃ G w δ Qp, Rep K B G H σ δ [] [] w ∧ p δ Qp ∧ ∀ ds δ' J H' G' w', Qp ds δ' → Stp B.T G H w δ G' H' w' δ' → Rep K B G' H' σ δ' [] [] w' → ItD K G' J ds → R J H'
def JI (X : Cx) (B : Bas) (tg iter : Expr) (p : PIx) : Prop := PI X tg iter (LI X.K B p)
theorem PI_wk {X : Cx} {tg iter : Expr} {t t' : TI} (h : PI X tg iter t) (k : ∀ σ H R, t' σ H R → t σ H R) : PI X tg iter t' := ⟨fun pins s σ H R I q => h.run pins s σ H R I (k σ H R q)⟩
theorem itd_list {K : PySem.W.Frag} {G : Hp} {a : Addr} {us : List V} {ds : List PyData} (ha : G a = some (.lst us)) (hd : DqAll K G us ds) : ItD K G (Itl K a) ds where
  go := fun G' H' i sg sh hi => by
    have hl := dqAll_len hd
    exact ⟨us, us[i]'(by omega), SqL.of (sh _ _ (sg _ _ ha)), by simp⟩
  yld := fun G' H' i x H2 sg sh hi y => by
    obtain ⟨rfl, y⟩ := y
    obtain ⟨v, hv, hq⟩ := dqAll_get hd (List.getElem?_eq_getElem hi)
    have e := y us (SqL.of (sh _ _ (sg _ _ ha)))
    rw [hv] at e
    cases e
    exact ⟨_, List.getElem?_eq_getElem hi, .old (dp_mono sg _ _ hq)⟩
  stop := fun G' H' sg sh => ⟨us, SqL.of (sh _ _ (sg _ _ ha)), by rw [dqAll_len hd]; exact Nat.le_refl _⟩
theorem itd_tup {K : PySem.W.Frag} {G : Hp} {a : Addr} {us : List V} {ds : List PyData} (ha : SqT K G a us) (hd : DqAll K G us ds) : ItD K G (Itt K a) ds where
  go := fun G' H' i sg sh hi => by
    have hl := dqAll_len hd
    exact ⟨us, us[i]'(by omega), Same.tp sh _ _ (Same.tp sg _ _ ha), by simp⟩
  yld := fun G' H' i x H2 sg sh hi y => by
    obtain ⟨rfl, y⟩ := y
    obtain ⟨v, hv, hq⟩ := dqAll_get hd (List.getElem?_eq_getElem hi)
    have e := y us (Same.tp sh _ _ (Same.tp sg _ _ ha))
    rw [hv] at e
    cases e
    exact ⟨_, List.getElem?_eq_getElem hi, .old (dp_mono sg _ _ hq)⟩
  stop := fun G' H' sg sh => ⟨us, Same.tp sh _ _ (Same.tp sg _ _ ha), by rw [dqAll_len hd]; exact Nat.le_refl _⟩
theorem itd_rng {K : PySem.W.Frag} {G : Hp} {a b : Int} : ItD K G (Itr a (b - a).toNat) (rgD a b) where
  go := fun G' H' i _ _ hi => by
    unfold rgD at hi
    rw [List.length_map, List.length_range] at hi
    exact hi
  yld := fun G' H' i x H2 _ _ hi y => by
    obtain ⟨rfl, rfl⟩ := y
    unfold rgD at hi ⊢
    rw [List.length_map, List.length_range] at hi
    exact ⟨.int (a + (i : Nat)), by rw [List.getElem?_map, List.getElem?_range hi]; rfl, .int⟩
  stop := fun G' H' _ _ => by
    unfold rgD
    rw [List.length_map, List.length_range]
    exact Nat.le_refl _
section
variable {X : Cx} {tg l a b : Expr} {pl pa pb : PX} {p pos : Pos}
/-- a list or a tuple -/
def iSeqU (K : PySem.W.Frag) (tl : TE) : TI := fun σ H R => tl σ H fun x H1 => ∃ a, x = .ref a ∧ (((∃ xs, SqL K H1 a xs) ∧ R (Itl K a) H1) ∨ ((∃ xs, SqT K H1 a xs) ∧ R (Itt K a) H1))
theorem pi_seqU {tl : TE} (hl : PE X l tl) : PI X tg l (iSeqU X.K tl) := by
  refine ⟨fun pins s σ H R I h => ?_⟩
  refine thn (hl.run pins s σ H _ I h) fun v s1 ⟨x, H1, I1, r1, q1⟩ => ?_
  obtain ⟨a, e, ⟨⟨xs, hq⟩, q⟩ | ⟨⟨xs, hq⟩, q⟩⟩ := q1
  · subst e
    cases r1
    obtain ⟨its, rv, p, hz⟩ := I1.list hq
    refine wpAny_pyIter_list p.isList ?_
    refine ⟨s1.heap.objs.size, [s1.heap.objs.size], _, _, H1, rfl, I1.kept (t' := s1.toks) fun b o e => Heap.get?_push_of_some _ e, turn_list a _, ⟨_, Heap.get?_push_size _ rfl, rfl, rfl⟩, fun b hb => ?_, q⟩
    have e : b = s1.heap.objs.size := by simpa using hb
    subst e
    exact I1.fpOk (Nat.le_refl _) (I1.hok.fresh (Nat.le_refl _))
  · subst e
    cases r1
    obtain ⟨its, rv, p, hz⟩ := I1.tuple hq
    refine wpAny_pyIter_tuple (show s1.heap.IsTuple a its.toArray from p) ?_
    refine ⟨s1.heap.objs.size, [s1.heap.objs.size], _, _, H1, rfl, I1.kept (t' := s1.toks) fun b o e => Heap.get?_push_of_some _ e, turn_tuple a _, ⟨_, Heap.get?_push_size _ rfl, rfl, rfl⟩, fun b hb => ?_, q⟩
    have e : b = s1.heap.objs.size := by simpa using hb
    subst e
    exact I1.fpOk (Nat.le_refl _) (I1.hok.fresh (Nat.le_refl _))
def seqD : PyData → Option (List PyData)
  | .list ds => some ds
  | .tuple ds => some ds
  | _ => none
def iSeq (p : PX) : PIx := fun δ Q => p δ fun r δ1 => ∃ d δ2 ds, fz δ1 r = some (d, δ2) ∧ seqD d = some ds ∧ Q ds δ2
theorem ji_seq (hl : JE X B l pl) : JI X B tg l (iSeq pl) := PI_wk (pi_seqU hl) fun σ H R ⟨G, w, δ, Qp, rep, q, k⟩ =>
  ⟨G, w, δ, _, rep, q, fun r δ1 v H1 G1 w1 q1 s1 rep1 => by
    obtain ⟨d, δ2, ds, hz, hs, q1⟩ := q1
    obtain ⟨G2, w2, s2, r2⟩ := rep1.fz1 (j := 0) rfl rfl hz
    have hd : Dq X.K G2 v d := r2.tm 0 v (.im d) rfl rfl
    cases d with
    | list es =>
      cases hs
      cases hd with
      | lst ha hds => exact ⟨_, rfl, .inl ⟨⟨_, SqL.of (r2.sub _ _ ha)⟩, k ds δ2 _ H1 G2 _ q1 ((s1.trans s2).trans .drop) r2.drop (itd_list ha hds)⟩⟩
    | tuple es =>
      cases hs
      cases hd with
      | tup ha hds => exact ⟨_, rfl, .inr ⟨⟨_, Same.tp r2.sub _ _ ha⟩, k ds δ2 _ H1 G2 _ q1 ((s1.trans s2).trans .drop) r2.drop (itd_tup ha hds)⟩⟩
    | none => cases hs
    | bool _ => cases hs
    | int _ => cases hs
    | str _ => cases hs
    | dict _ => cases hs⟩
def iRg (ps : PL) : PIx := fun δ Q => ps δ fun rs δ1 => match dats δ1 rs with
  | some [.int n] => -(2 ^ 62) ≤ n ∧ n < 2 ^ 62 ∧ Q (rgD 0 n) δ1
  | some [.int i, .int j] => (-(2 ^ 62) ≤ i ∧ i < 2 ^ 62 ∧ -(2 ^ 62) ≤ j ∧ j < 2 ^ 62) ∧ Q (rgD i j) δ1
  | _ => False
theorem vws1 {K : PySem.W.Frag} {G H : Hp} {vs : List V} {i : Int} (h : Vws K G H vs [.int i]) : vs = [.int i] := by
  cases h with
  | cons h1 h => cases h; rw [h1.int]
theorem vws2 {K : PySem.W.Frag} {G H : Hp} {vs : List V} {i j : Int} (h : Vws K G H vs [.int i, .int j]) : vs = [.int i, .int j] := by
  cases h with
  | cons h1 h =>
    cases h with
    | cons h2 h => cases h; rw [h1.int, h2.int]
theorem vws_len {K : PySem.W.Frag} {G H : Hp} : ∀ {vs : List V} {ds : List PyData}, Vws K G H vs ds → vs.length = ds.length
  | _, _, .nil => rfl
  | _, _, .cons _ h => congrArg (· + 1) (vws_len h)
theorem ji_rng1 {ps : PL} (hg : Gl X "range") (hm : X.mg "range" = none) (ha : JA X B [a] ps) (hs : starEach [a] X.env = [(false, eval a X.env)] := by rfl) : JI X B tg (.Call (.Name "range" p) [a] [] pos) (iRg ps) := by
  refine PI_wk (pi_range1 hg hm ha hs) fun σ H R ⟨G, w, δ, Qp, rep, q, k⟩ => ?_
  refine ⟨G, w, δ, _, rep, q, fun rs δ1 vs H1 G1 w1 q1 l1 s1 rep1 => ?_⟩
  revert q1
  split
  · rename_i n e
    rintro ⟨b1, b2, q1⟩
    refine ⟨n, vws1 (rep1.vws e), b1, b2, k _ δ1 _ H1 G1 _ q1 (s1.trans .drop) rep1.drop ?_⟩
    have := itd_rng (K := X.K) (G := G1) (a := 0) (b := n)
    rwa [Int.sub_zero] at this
  · rename_i i j e
    intro q1
    have := vws_len (rep1.vws e)
    rw [rep1.tlen, l1] at this
    simp at this
  · intro q1; exact q1.elim
theorem ji_rng2 {ps : PL} (hg : Gl X "range") (hm : X.mg "range" = none) (ha : JA X B [a, b] ps) (hs : starEach [a, b] X.env = [(false, eval a X.env), (false, eval b X.env)] := by rfl) (hs2 : starEach [b] X.env = [(false, eval b X.env)] := by rfl) : JI X B tg (.Call (.Name "range" p) [a, b] [] pos) (iRg ps) := by
  refine PI_wk (pi_range2 hg hm ha hs hs2) fun σ H R ⟨G, w, δ, Qp, rep, q, k⟩ => ?_
  refine ⟨G, w, δ, _, rep, q, fun rs δ1 vs H1 G1 w1 q1 l1 s1 rep1 => ?_⟩
  revert q1
  split
  · rename_i n e
    intro q1
    have := vws_len (rep1.vws e)
    rw [rep1.tlen, l1] at this
    simp at this
  · rename_i i j e
    rintro ⟨b1, q1⟩
    exact ⟨i, j, vws2 (rep1.vws e), b1, k _ δ1 _ H1 G1 _ q1 (s1.trans .drop) rep1.drop itd_rng⟩
  · intro q1; exact q1.elim
/-! ### for, while -/
/-- the slots ts are forgotten -/
def wp1 : Bool → Sl → Sl
  | true, .ow true o => .ow true o
  | true, _ => .un
  | false, s => s
def wpG (ts : List Nat) : Nat → List Sl → List Sl
  | _, [] => []
  | n, s :: δ => wp1 (ts.elem n) s :: wpG ts (n + 1) δ
def wipeT (δ : List Sl) (ts : List Nat) : List Sl := wpG ts 0 δ
theorem wpG_get (ts : List Nat) : ∀ (δ : List Sl) (n i : Nat), (wpG ts n δ)[i]? = (δ[i]?).map fun s => wp1 (ts.elem (n + i)) s
  | [], n, i => by simp [wpG]
  | s :: δ, n, 0 => by simp [wpG]
  | s :: δ, n, i + 1 => by
    simp only [wpG, List.getElem?_cons_succ, wpG_get ts δ (n + 1) i]
    have : n + 1 + i = n + (i + 1) := by omega
    rw [this]
theorem wpG_len (ts : List Nat) : ∀ (δ : List Sl) (n : Nat), (wpG ts n δ).length = δ.length
  | [], _ => rfl
  | s :: δ, n => by simp only [wpG, List.length_cons, wpG_len ts δ (n + 1)]
theorem wipeT_len (δ : List Sl) (ts : List Nat) : (wipeT δ ts).length = δ.length := wpG_len ts δ 0
theorem wipeT_get {δ : List Sl} {i : Nat} {s : Sl} {ts : List Nat} (h : (wipeT δ ts)[i]? = some s) : s = .un ∨ δ[i]? = some s := by
  unfold wipeT at h
  rw [wpG_get] at h
  obtain ⟨s', h1, rfl⟩ := Option.map_eq_some_iff.mp h
  cases hb : ts.elem (0 + i) with
  | false => exact .inr h1
  | true =>
    cases s' with
    | un => exact .inl rfl
    | im d => exact .inl rfl
    | ex a dd C fs => exact .inl rfl
    | ow b o =>
      cases b with
      | true => exact .inr h1
      | false => exact .inl rfl
theorem wipeT_pin {δ : List Sl} {i : Nat} {o : O} (h : δ[i]? = some (Sl.ow true o)) (ts : List Nat) : (wipeT δ ts)[i]? = some (Sl.ow true o) := by
  unfold wipeT
  rw [wpG_get, h]
  cases hb : ts.elem (0 + i) with
  | false => rfl
  | true => rfl
theorem Rep.wipe {K : PySem.W.Frag} {G H : Hp} {σ : St} {δ : List Sl} {w : Addr → Option Nat} (r : Rep K B G H σ δ [] [] w) (ts : List Nat) : Rep K B G H σ (wipeT δ ts) [] [] w := ⟨r.sub, r.out, by rw [wipeT_len]; exact r.len, fun i s h => by
  rcases wipeT_get h with rfl | h
  · trivial
  · exact r.sl i s h, rfl, fun j v q hv => by simp at hv, r.bs⟩
theorem Stp.wipe {G H G' H' : Hp} {w w' : Addr → Option Nat} {δ δ' : List Sl} (s : Stp B.T G H w δ G' H' w' δ') (ts : List Nat) : Stp B.T G H w δ G' H' w' (wipeT δ' ts) := ⟨s.g, s.b, s.n, s.p, fun i o h => by
  obtain ⟨o', h'⟩ := s.pn i o h
  exact ⟨o', wipeT_pin h' ts⟩, s.t, s.q⟩
/-- turn by turn, by a word I; ts: the slots that no later turn reads -/
def loopI (step : PyData → PSx) (ts : List Nat) (E : PEn) (ds : List PyData) (δ : List Sl) : Prop := ∃ I : Nat → List Sl → Prop, I 0 δ ∧
  (∀ (i : Nat) d δ, ds[i]? = some d → I i δ → step d ⟨fun δ' => I (i + 1) (wipeT δ' ts), E.rt, fun δ' => E.nx (wipeT δ' ts), fun δ' => I (i + 1) (wipeT δ' ts)⟩ δ) ∧ ∀ δ, I ds.length δ → E.nx δ
def loopL (step : PyData → PSx) (ts : List Nat) (E : PEn) : List PyData → List Sl → Prop
  | [], δ => E.nx δ
  | d :: ds, δ => step d ⟨fun δ' => loopL step ts E ds (wipeT δ' ts), E.rt, fun δ' => E.nx (wipeT δ' ts), fun δ' => loopL step ts E ds (wipeT δ' ts)⟩ δ
theorem loop_by {step : PyData → PSx} {ts : List Nat} {E : PEn} {ds : List PyData} {δ : List Sl} (h : loopL step ts E ds δ) : loopI step ts E ds δ :=
  ⟨fun i δ => loopL step ts E (ds.drop i) δ, h, fun i d δ hd q => by
    obtain ⟨hi, e⟩ := List.getElem?_eq_some_iff.mp hd
    have q : loopL step ts E (ds.drop i) δ := q
    rw [List.drop_eq_getElem_cons hi, e] at q
    exact q, fun δ q => by
    have q : loopL step ts E (ds.drop ds.length) δ := q
    rw [List.drop_length] at q
    exact q⟩
def pFor (ts : List Nat) (it : PIx) (g : PGx) (body : PSx) : PSx := fun E δ => it δ fun ds δ1 => loopI (fun d E δ => g d δ fun δ' => body E δ') ts E ds (wipeT δ1 ts)
theorem Rep.res {K : PySem.W.Frag} {G H H2 : Hp} {σ : St} {δ : List Sl} {vs : List V} {rs : List R} {w : Addr → Option Nat} {x : V} {d : PyData} (r : Rep K B G H σ δ vs rs w) (h : Res K G H x H2 d) : ∃ G2, Stp B.T G H w δ G2 H2 w δ ∧ Rep K B G2 H2 σ δ vs rs w ∧ Dq K G2 x d := by
  rcases h with ⟨rfl, h⟩ | ⟨p, us, l, rfl, hp, rfl, hd, rfl⟩
  · exact ⟨G, .refl, r, h⟩
  · obtain ⟨s1, r1⟩ := r.lay (o := .tup us) hp
    exact ⟨_, s1, r1, dq_newTup r.sub hp hd⟩
theorem js_for {iter : Expr} {body : List Stmt} {pi : PIx} {ts ts' : List Nat} {g : PGx} {pb : PSx} (hp : PassesOwn (model X.prog X.w) X.A X.env X.xe) (hc : X.calm = true) (hi : JI X B tg iter pi) (hg : JG X B tg ts' g) (hb : JSs X B body pb)
    (hs : ∀ x, foldedSetIterable iter X.env x = pure x := by intro _; rfl) : JS X B (.For tg iter body [] pos) (pFor ts pi g pb) := by
  refine PS_wk (ps_for hp hc hi hg hb (by assumption)) fun D σ H ⟨G, w, δ, E, rep, h, ek⟩ => ?_
  refine ⟨G, w, δ, _, rep, h, fun ds δ1 J H1 G1 w1 q1 s1 rep1 itd => ?_⟩
  obtain ⟨I, i0, is, ie⟩ := q1
  refine ⟨fun i m σ' H' => m = ds.length - i ∧ i ≤ ds.length ∧ ∃ G' w' δ', Stp B.T G H w δ G' H' w' δ' ∧ Same G1 G' ∧ Rep X.K B G' H' σ' δ' [] [] w' ∧ Pin σ δ σ' ∧ I i δ', ⟨ds.length, rfl, Nat.zero_le _, G1, w1, _, s1.wipe ts, fun _ _ h => h, rep1.wipe ts, .refl, i0⟩, ?_⟩
  rintro i m σ' H' ⟨rfl, hi, G', w', δ', st, sg, rp, pn, q⟩
  by_cases hlt : i < ds.length
  · have q := is i _ δ' (List.getElem?_eq_getElem hlt) q
    refine .inr ⟨itd.go G' H' i sg rp.sub hlt, fun σ2 H2 => i + 1 ≤ ds.length ∧ ∃ G' w' δ', Stp B.T G H w δ G' H2 w' δ' ∧ Same G1 G' ∧ Rep X.K B G' H2 σ2 δ' [] [] w' ∧ Pin σ δ σ2 ∧ I (i + 1) δ', fun σ2 H2 z => ⟨ds.length - (i + 1), by omega, rfl, z⟩, fun x H2 y => ?_⟩
    obtain ⟨d, hd, res⟩ := itd.yld G' H' i x H2 sg rp.sub hlt y
    rw [List.getElem?_eq_getElem hlt] at hd
    cases hd
    obtain ⟨G2, s2, r2, hq⟩ := rp.res res
    refine ⟨G2, w', δ', _, _, r2, hq, q, fun δ3 σ3 H3 G3 w3 q3 s3 r3 p3 _ => ⟨G3, w3, δ3, _, r3, q3, ?_⟩⟩
    have st3 := (st.trans s2).trans s3
    have pn3 : Pin σ δ σ3 := pn.trans (st.trans s2).pn p3
    have nx : ∀ δ4 σ4 H4 G4 w4, I (i + 1) (wipeT δ4 ts) → Stp B.T G3 H3 w3 δ3 G4 H4 w4 δ4 → Rep X.K B G4 H4 σ4 δ4 [] [] w4 → Pin σ3 δ3 σ4 → i + 1 ≤ ds.length ∧ ∃ G' w' δ', Stp B.T G H w δ G' H4 w' δ' ∧ Same G1 G' ∧ Rep X.K B G' H4 σ4 δ' [] [] w' ∧ Pin σ δ σ4 ∧ I (i + 1) δ' :=
      fun δ4 σ4 H4 G4 w4 hl s4 r4 p4 => ⟨hlt, G4, w4, _, (st3.trans s4).wipe ts, fun a o ha => s4.g a o (s3.g a o (s2.g a o (sg a o ha))), r4.wipe ts, pn3.trans st3.pn p4, hl⟩
    exact ⟨nx, (ek.later st3 pn3).rt, fun δ4 σ4 H4 G4 w4 hl s4 r4 p4 => ek.nx _ σ4 H4 G4 w4 hl ((st3.trans s4).wipe ts) (r4.wipe ts) (pn3.trans st3.pn p4), nx⟩
  · have ei : i = ds.length := by omega
    subst ei
    exact .inl ⟨itd.stop G' H' sg rp.sub, ek.nx δ' σ' H' G' w' (ie δ' q) st rp pn⟩
/-- while: by a word and a number that falls -/
def pWhile (ts : List Nat) (c : PB) (body : PSx) : PSx := fun E δ => ∃ I : Nat → List Sl → Prop, (∃ m, I m (wipeT δ ts)) ∧ ∀ m δ, I m δ → c δ fun t δ1 => if t = true then body ⟨fun δ' => ∃ m', m' < m ∧ I m' (wipeT δ' ts), E.rt, fun δ' => E.nx (wipeT δ' ts), fun δ' => ∃ m', m' < m ∧ I m' (wipeT δ' ts)⟩ δ1 else E.nx δ1
theorem js_while {c : Expr} {body : List Stmt} {ts : List Nat} {pc : PB} {pb : PSx} (hp : PassesOwn (model X.prog X.w) X.A X.env X.xe) (hc : JB X B c pc) (hb : JSs X B body pb) : JS X B (.While c body [] pos) (pWhile ts pc pb) := by
  refine PS_wk (ps_while hp hc hb) fun D σ H ⟨G, w, δ, E, rep, ⟨I, ⟨n, h⟩, is⟩, ek⟩ => ?_
  refine ⟨fun m σ' H' => ∃ G' w' δ', Stp B.T G H w δ G' H' w' δ' ∧ Rep X.K B G' H' σ' δ' [] [] w' ∧ Pin σ δ σ' ∧ I m δ', ⟨n, G, w, _, (Stp.refl (δ := δ)).wipe ts, rep.wipe ts, .refl, h⟩, ?_⟩
  rintro m σ' H' ⟨G', w', δ', st, rp, pn, q⟩
  refine ⟨G', w', δ', _, rp, is m δ' q, fun t δ1 H1 G1 w1 q1 s1 rep1 => ?_⟩
  cases t with
  | false => exact ek.nx δ1 σ' H1 G1 w1 q1 (st.trans s1) rep1 pn
  | true =>
    refine ⟨fun σ2 H2 => ∃ m', m' < m ∧ ∃ G' w' δ', Stp B.T G H w δ G' H2 w' δ' ∧ Rep X.K B G' H2 σ2 δ' [] [] w' ∧ Pin σ δ σ2 ∧ I m' δ', fun σ2 H2 z => z, G1, w1, δ1, _, rep1, q1, ?_⟩
    have st3 := st.trans s1
    have nx : ∀ δ4 σ4 H4 G4 w4, (∃ m', m' < m ∧ I m' (wipeT δ4 ts)) → Stp B.T G1 H1 w1 δ1 G4 H4 w4 δ4 → Rep X.K B G4 H4 σ4 δ4 [] [] w4 → Pin σ' δ1 σ4 → ∃ m', m' < m ∧ ∃ G' w' δ', Stp B.T G H w δ G' H4 w' δ' ∧ Rep X.K B G' H4 σ4 δ' [] [] w' ∧ Pin σ δ σ4 ∧ I m' δ' :=
      fun δ4 σ4 H4 G4 w4 ⟨m', hm, hl⟩ s4 r4 p4 => ⟨m', hm, G4, w4, _, (st3.trans s4).wipe ts, r4.wipe ts, pn.trans st3.pn p4, hl⟩
    exact ⟨nx, (ek.later st3 pn).rt, fun δ4 σ4 H4 G4 w4 hl s4 r4 p4 => ek.nx _ σ4 H4 G4 w4 hl ((st3.trans s4).wipe ts) (r4.wipe ts) (pn.trans st3.pn p4), nx⟩
end
end Pv

namespace Pv
open PySem PySem.Spec L2 Wf
variable {B : Bas}
theorem RR.noAt {K : PySem.W.Frag} {G H : Hp} {σ σ' : St} {m : Addr → Prop} {v : V} {r : R} (h : RR K G H σ m v r) (n : isAt r = false) : RR K G H σ' m v r := by
  cases r with
  | im d => exact h
  | ow o => exact h
  | «at» i => cases n
theorem Rep.reσ {K : PySem.W.Frag} {G H : Hp} {σ σ' : St} {δ δ' : List Sl} {vs : List V} {rs : List R} {w : Addr → Option Nat} (r : Rep K B G H σ δ vs rs w) (hl : σ'.length = δ'.length) (hs : ∀ (i : Nat) s, δ'[i]? = some s → s = .un ∨ (δ[i]? = some s ∧ σ'[i]? = σ[i]?)) (hn : ∀ q ∈ rs, isAt q = false) : Rep K B G H σ' δ' vs rs w where
  sub := r.sub
  out := r.out
  len := hl
  sl := fun i s h => by
    rcases hs i s h with rfl | ⟨h1, h2⟩
    · trivial
    · rw [h2]; exact r.sl i s h1
  tlen := r.tlen
  tm := fun j v q hv hq => (r.tm j v q hv hq).noAt (hn q (List.mem_of_getElem? hq))
  bs := r.bs
/-- the frame where slots were stored to -/
theorem Rep.frameS {K : PySem.W.Frag} {G H G' H' : Hp} {σ σ' : St} {δ δ' : List Sl} {vs vs1 : List V} {rs rs1 : List R} {w w' : Addr → Option Nat} (r : Rep K B G H σ δ vs rs w) (hn : ∀ q ∈ rs, isAt q = false) (s : Stp B.T G H (fun a => evn (w a)) δ G' H' w' δ') (r' : Rep K B G' H' σ' δ' vs1 rs1 w') :
    ∃ w2, Stp B.T G H w δ G' H' w2 δ' ∧ Rep K B G' H' σ' δ' (vs ++ vs1) (rs ++ rs1) w2 := by
  -- the same addresses
  have odd : ∀ a n, w a = some n → n % 2 = 1 → w' a = none := fun a n h ho => by
    have e0 : evn (w a) = none := by
      cases e : evn (w a) with
      | none => rfl
      | some m =>
        have := evn_some.mp e
        rw [h] at this
        have z := this.1
        cases z
        omega
    obtain ⟨g0, h0, n0⟩ := r.out a n h
    cases e : w' a with
    | none => rfl
    | some i =>
      rcases s.n a i e with z | z
      · exact absurd e0 z
      · exact absurd z h0
  have evw : ∀ a i, w' a = some i → ∀ n, w a = some n → n % 2 = 0 := fun a i h n hn => by
    by_cases ho : n % 2 = 1
    · rw [odd a n hn ho] at h; cases h
    · omega
  have st : Stp B.T G H w δ G' H' (both rs.length w w') δ' := by
    refine ⟨s.g, fun a o hw ha => s.b a o (by show evn (w a) = none; rw [hw]; rfl) ha, fun a i h => ?_, fun a o h => ?_, s.pn, s.t, s.q⟩
    · cases e : w a with
      | some n => exact .inl (Option.some_ne_none _)
      | none =>
        have e1 : both rs.length w w' a = shf rs.length (w' a) := both_evn fun n hn => by rw [e] at hn; cases hn
        rw [e1] at h
        obtain ⟨m, hm, _⟩ := shf_some h
        rcases s.n a m hm with z | z
        · have z' := evn_ne z
          rw [e] at z'
          exact .inl z'
        · exact .inr z
    · rcases s.p a o h with z | z | z | z
      · exact .inl z
      · exact .inr (.inl z)
      · exact .inr (.inr (.inl (evn_ne z)))
      · exact .inr (.inr (.inr z))
  refine ⟨both rs.length w w', st, r'.sub, fun a i h => ?_, r'.len, fun i sl h => ?_, by rw [List.length_append, List.length_append, r.tlen, r'.tlen], fun j v q hv hr => ?_, st.bs r.bs⟩
  · by_cases ho : ∃ n, w a = some n ∧ n % 2 = 1
    · obtain ⟨n, hn', ho⟩ := ho
      have e0 : evn (w a) = none := by
        rw [hn']
        unfold evn
        dsimp only
        rw [if_neg (by omega)]
      obtain ⟨g0, h0, n0⟩ := r.out a n hn'
      refine ⟨?_, s.nn a e0 h0 n0⟩
      cases e3 : G' a with
      | none => rfl
      | some o =>
        rcases s.p a o e3 with z | z | z | ⟨xs, z⟩
        · rw [g0] at z; cases z
        · exact absurd z h0
        · exact absurd e0 z
        · exact absurd z (n0 xs)
    · have e1 : both rs.length w w' a = shf rs.length (w' a) := both_evn fun n hn => by
        by_cases z : n % 2 = 1
        · exact absurd ⟨n, hn, z⟩ ho
        · omega
      rw [e1] at h
      obtain ⟨m, hm, _⟩ := shf_some h
      exact r'.out a m hm
  · refine (r'.sl i sl h).mono (fun _ _ h => h) (fun _ _ _ h => h) fun a u ma _ => ?_
    rw [both_evn (evw a _ ma)]
    unfold shf
    rw [ma]
    dsimp only
    rw [if_pos (by omega)]
  · by_cases hj : j < vs.length
    · rw [List.getElem?_append_left hj] at hv
      rw [List.getElem?_append_left (by rw [← r.tlen]; exact hj)] at hr
      refine ((r.tm j v q hv hr).noAt (σ' := σ') (hn q (List.mem_of_getElem? hr))).monoN s.g (fun a u hnt ma hu => ?_) fun a u ma _ => both_odd ma (by omega)
      refine s.bN a u hnt ?_ hu
      show evn (w a) = none
      rw [ma]
      unfold evn
      dsimp only
      rw [if_neg (by omega)]
    · have hj : vs.length ≤ j := by omega
      rw [List.getElem?_append_right hj] at hv
      rw [List.getElem?_append_right (by rw [← r.tlen]; exact hj), ← r.tlen] at hr
      refine (r'.tm (j - vs.length) v q hv hr).mono (fun _ _ h => h) (fun _ _ _ h => h) fun a u ma _ => ?_
      rw [both_evn (evw a _ ma)]
      unfold shf
      rw [ma]
      dsimp only
      rw [if_neg (by omega), r.tlen.symm]
      congr 1
      omega
/-! ### comprehensions -/
def wipeS (δ : List Sl) : List Nat → List Sl
  | [] => δ
  | v :: vs => (wipeS δ vs).set v .un
def noPin (δ : List Sl) (vs : List Nat) : Prop := ∀ v ∈ vs, ∀ o, δ[v]? ≠ some (.ow true o)
def restS (δ0 δ : List Sl) : List Nat → List Sl
  | [] => δ
  | v :: vs => match δ0[v]? with
    | some (.im d) => (restS δ0 δ vs).set v (.im d)
    | _ => (restS δ0 δ vs).set v .un
theorem wipeS_len (δ : List Sl) : ∀ vs, (wipeS δ vs).length = δ.length
  | [] => rfl
  | v :: vs => by unfold wipeS; rw [List.length_set, wipeS_len δ vs]
theorem wipeS_get {δ : List Sl} {i : Nat} {s : Sl} : ∀ {vs : List Nat}, (wipeS δ vs)[i]? = some s → s = .un ∨ (δ[i]? = some s ∧ i ∉ vs)
  | [], h => .inr ⟨h, by simp⟩
  | v :: vs, h => by
    unfold wipeS at h
    by_cases hi : v = i
    · subst hi
      by_cases hv : v < (wipeS δ vs).length
      · rw [List.getElem?_set_self hv] at h; cases h; exact .inl rfl
      · rw [List.getElem?_eq_none (by simpa using hv)] at h; cases h
    · rw [List.getElem?_set_ne hi] at h
      rcases wipeS_get h with e | ⟨h1, h2⟩
      · exact .inl e
      · exact .inr ⟨h1, by simp only [List.mem_cons, not_or]; exact ⟨fun e => hi e.symm, h2⟩⟩
theorem wipeS_ne {δ : List Sl} {i : Nat} : ∀ {vs : List Nat}, i ∉ vs → (wipeS δ vs)[i]? = δ[i]?
  | [], _ => rfl
  | v :: vs, h => by
    simp only [List.mem_cons, not_or] at h
    unfold wipeS
    rw [List.getElem?_set_ne (Ne.symm h.1)]
    exact wipeS_ne h.2
theorem wipe_ne {σ : St} {i : Nat} : ∀ {vs : List Nat}, i ∉ vs → (wipe σ vs)[i]? = σ[i]?
  | [], _ => rfl
  | v :: vs, h => by
    simp only [List.mem_cons, not_or] at h
    unfold wipe
    rw [List.getElem?_set_ne (Ne.symm h.1)]
    exact wipe_ne h.2
theorem wipe_in {σ : St} {i : Nat} : ∀ {vs : List Nat}, i ∈ vs → i < σ.length → (wipe σ vs)[i]? = some none
  | [], h, _ => by cases h
  | v :: vs, h, hl => by
    unfold wipe
    by_cases e : v = i
    · subst e
      rw [List.getElem?_set_self (by rw [wipe_length]; exact hl)]
    · rw [List.getElem?_set_ne e]
      rcases List.mem_cons.mp h with z | z
      · exact absurd z.symm e
      · exact wipe_in z hl
theorem wipe_eq {σ σ' : St} {vs ts : List Nat} (t : Tch ts (wipe σ vs) σ') (h : ∀ i ∈ ts, i ∈ vs) : wipe σ' vs = wipe σ vs := by
  have hl : σ'.length = σ.length := by rw [t.1, wipe_length]
  apply List.ext_getElem?
  intro i
  by_cases hi : i ∈ vs
  · by_cases hb : i < σ.length
    · rw [wipe_in hi hb, wipe_in hi (by omega)]
    · rw [List.getElem?_eq_none (by rw [wipe_length]; omega), List.getElem?_eq_none (by rw [wipe_length]; omega)]
  · rw [wipe_ne hi, wipe_ne hi, t.2 i fun z => hi (h i z), wipe_ne hi]
theorem pn_wipe {δ : List Sl} {vs : List Nat} (h : noPin δ vs) : Pn δ (wipeS δ vs) := fun i o hi => by
  have : i ∉ vs := fun z => h i z o hi
  exact ⟨o, by rw [wipeS_ne this]; exact hi⟩
theorem restS_ne {δ0 δ : List Sl} {i : Nat} : ∀ {vs : List Nat}, i ∉ vs → (restS δ0 δ vs)[i]? = δ[i]?
  | [], _ => rfl
  | v :: vs, h => by
    simp only [List.mem_cons, not_or] at h
    unfold restS
    split
    · rw [List.getElem?_set_ne (Ne.symm h.1)]; exact restS_ne h.2
    · rw [List.getElem?_set_ne (Ne.symm h.1)]; exact restS_ne h.2
theorem restS_len {δ0 δ : List Sl} : ∀ vs, (restS δ0 δ vs).length = δ.length
  | [] => rfl
  | v :: vs => by
    unfold restS
    split
    · rw [List.length_set, restS_len vs]
    · rw [List.length_set, restS_len vs]
theorem restS_in {δ0 δ : List Sl} {i : Nat} {s : Sl} : ∀ {vs : List Nat}, i ∈ vs → (restS δ0 δ vs)[i]? = some s → s = .un ∨ ∃ d, s = .im d ∧ δ0[i]? = some (.im d)
  | [], h, _ => by cases h
  | v :: vs, h, hs => by
    unfold restS at hs
    by_cases e : v = i
    · subst e
      revert hs
      split
      · rename_i d e0
        intro hs
        by_cases hb : v < (restS δ0 δ vs).length
        · rw [List.getElem?_set_self hb] at hs; cases hs; exact .inr ⟨d, rfl, e0⟩
        · rw [List.getElem?_eq_none (by simpa using hb)] at hs; cases hs
      · intro hs
        by_cases hb : v < (restS δ0 δ vs).length
        · rw [List.getElem?_set_self hb] at hs; cases hs; exact .inl rfl
        · rw [List.getElem?_eq_none (by simpa using hb)] at hs; cases hs
    · have hm : i ∈ vs := by
        rcases List.mem_cons.mp h with z | z
        · exact absurd z.symm e
        · exact z
      revert hs
      split
      · intro hs; rw [List.getElem?_set_ne e] at hs; exact restS_in hm hs
      · intro hs; rw [List.getElem?_set_ne e] at hs; exact restS_in hm hs
/-- turn by turn, by a word I over what is made so far -/
def compI (g : PGx) (tt : PB) (elt : PX) (vs : List Nat) (Kk : List PyData → List Sl → Prop) (ds : List PyData) (δ : List Sl) : Prop := ∃ I : Nat → List PyData → List Sl → Prop, I 0 [] δ ∧
  (∀ (i : Nat) d acc δ, ds[i]? = some d → I i acc δ → g d δ fun δ2 => tt δ2 fun b δ3 => if b = true then elt δ3 fun r δ4 => ∃ e δ5, fz δ4 r = some (e, δ5) ∧ acc.length < sizeLine ∧ I (i + 1) (acc ++ [e]) (wipeS δ5 vs) else I (i + 1) acc (wipeS δ3 vs)) ∧ ∀ acc δ, I ds.length acc δ → Kk acc δ
def pComp (it : PIx) (g : PGx) (tt : PB) (elt : PX) (vs : List Nat) : PX := fun δ Q => it δ fun ds δ1 => noPin δ1 vs ∧ compI g tt elt vs (fun acc δ2 => Q (.ow (.lst acc)) (restS δ1 δ2 vs)) ds (wipeS δ1 vs)
def pYes : PB := fun δ Q => Q true δ
theorem Stp.reδ {G H G' H' : Hp} {w w' : Addr → Option Nat} {δ δ' δ2 : List Sl} (s : Stp B.T G H w δ G' H' w' δ') (p : Pn δ δ2) : Stp B.T G H w δ G' H' w' δ2 := ⟨s.g, s.b, s.n, s.p, p, s.t, s.q⟩
section
variable {K : PySem.W.Frag} {G H : Hp} {σ : St} {δ : List Sl} {vs : List V} {rs : List R} {w : Addr → Option Nat}
theorem Rep.wrT {D : Addr} {ds ds' : List PyData} {us' : List V} (r : Rep K B G H σ δ (.ref D :: vs) (.ow (.lst ds) :: rs) w) (hd : DqAll K G us' ds') :
    ∃ us, H D = some (.lst us) ∧ DqAll K G us ds ∧ Stp B.T G H w δ G (upd H D (.lst us')) w δ ∧ Rep K B G (upd H D (.lst us')) σ δ (.ref D :: vs) (.ow (.lst ds') :: rs) w := by
  obtain ⟨a, us, e, ma, ha, hus⟩ := r.tm 0 _ _ rfl rfl
  cases e
  have hw : w D = some 1 := ma
  have ne : ∀ x n, w x = some n → n ≠ 1 → x ≠ D := fun x n hx hn z => by subst z; rw [hw] at hx; cases hx; exact hn rfl
  have g0 := (r.out D _ hw).1
  have st : Stp B.T G H w δ G (upd H D (.lst us')) w δ := by
    refine .of ⟨fun _ _ h => h, fun x o hx ho => ?_, fun x n hx => .inl (by rw [hx]; exact Option.some_ne_none _), fun _ _ h => .inl h, .refl _⟩ (tabs_put ha)
    rw [upd_ne (fun z => by subst z; rw [hw] at hx; cases hx)]
    exact ho
  refine ⟨us, ha, hus, st, fun x o hx => ?_, fun x n hx => ?_, r.len, fun k s hk => ?_, r.tlen, fun j v q hv hq => ?_, st.bs r.bs⟩
  · have : x ≠ D := fun z => by subst z; rw [g0] at hx; cases hx
    rw [upd_ne this]
    exact r.sub x o hx
  · obtain ⟨h1, h2, h3⟩ := r.out x n hx
    by_cases e : x = D
    · subst e
      rw [upd_same]
      exact ⟨h1, Option.some_ne_none _, NoX.lst upd_same⟩
    · rw [upd_ne e]
      exact ⟨h1, h2, noT_upd e h3⟩
  · refine (r.sl k s hk).mono (fun _ _ h => h) (fun x u mx hu => ?_) fun x u mx _ => mx
    rw [upd_ne (ne x _ mx (by omega))]
    exact hu
  · match j with
    | 0 =>
      simp only [List.getElem?_cons_zero, Option.some.injEq] at hv hq
      subst hv hq
      exact ⟨D, us', rfl, hw, upd_same, hd⟩
    | j + 1 =>
      refine (r.tm (j + 1) v q (by simpa using hv) (by simpa using hq)).mono (fun _ _ h => h) (fun x u mx hu => ?_) fun x u mx _ => mx
      rw [upd_ne (ne x _ mx (by omega))]
      exact hu
theorem Rep.first {v : V} {q : R} (r : Rep K B G H σ δ (v :: vs) (q :: rs) w) : Rep K B G H σ δ [v] [q] w := ⟨r.sub, r.out, r.len, r.sl, rfl, fun j u p hu hp => by
  match j with
  | 0 => exact r.tm 0 u p (by simpa using hu) (by simpa using hp)
  | j + 1 => simp at hu, r.bs⟩
end
def JTs (X : Cx) (B : Bas) (ifs : List Expr) (p : PB) : Prop := PTs X ifs (LB X.K B p)
theorem PTs_wk {X : Cx} {ifs : List Expr} {t t' : TT} (h : PTs X ifs t) (k : ∀ σ H Q, t' σ H Q → t σ H Q) : PTs X ifs t' := ⟨fun pins s σ H Q I q => h.run pins s σ H Q I (k σ H Q q)⟩
theorem jts_nil {X : Cx} : JTs X B [] pYes := PTs_wk pts_nil fun σ H Q ⟨G, w, δ, Qp, rep, q, k⟩ => k true δ H G w q .refl rep
theorem jts_one {X : Cx} {c : Expr} {p : PB} (h : JB X B c p) : JTs X B [c] p := pts_one h
theorem lc_lift {K : PySem.W.Frag} {pi : PIx} {ts vs : List Nat} {g : PGx} {tt : PB} {elt : PX} {σ : St} {H : Hp} {Q : VK} (hts : ∀ i ∈ ts, i ∈ vs) (h : LE K B (pComp pi g tt elt vs) σ H Q) : tLc (LI K B pi) (LG K B ts g) (LB K B tt) (LE K B elt) vs σ H Q := by
  obtain ⟨G, w, δ, Qp, rep, q, k⟩ := h
  refine ⟨G, w, δ, _, rep, q, fun ds δ1 J H1 G1 w1 q1 s1 rep1 itd D hD => ?_⟩
  obtain ⟨np, I, i0, is, ie⟩ := q1
  obtain ⟨w2, s2, r2⟩ := rep1.retLst (us := []) (ds := []) hD .nil
  have noA : ∀ acc : List PyData, ∀ p ∈ [R.ow (.lst acc)], isAt p = false := fun acc p hp => by rw [List.mem_singleton.mp hp]; rfl
  have ni : ∀ (i : Nat) o, δ[i]? = some (Sl.ow true o) → i ∉ vs := fun i o hi => by
    obtain ⟨o1, h1⟩ := s1.pn i o hi
    exact fun z => np i z o1 h1
  have pnw : ∀ {G' H' : Hp} {w' : Addr → Option Nat} {δ' : List Sl}, Stp B.T G H w δ G' H' w' δ' → Stp B.T G H w δ G' H' w' (wipeS δ' vs) := fun s => s.reδ fun i o hi => by
    obtain ⟨o1, h1⟩ := s.pn i o hi
    exact ⟨o1, by rw [wipeS_ne (ni i o hi)]; exact h1⟩
  refine ⟨fun i m H' => m = ds.length - i ∧ i ≤ ds.length ∧ ∃ G' w' δ' acc, Stp B.T G H w δ G' H' w' δ' ∧ Same G1 G' ∧ Rep K B G' H' (wipe σ vs) δ' [.ref D] [.ow (.lst acc)] w' ∧ I i acc δ', ⟨ds.length, rfl, Nat.zero_le _, G1, w2, wipeS δ1 vs, [], pnw (s1.trans s2), fun _ _ h => h, r2.reσ (by rw [wipe_length, wipeS_len]; exact r2.len) (fun i s hi => ?_) (noA _), i0⟩, ?_⟩
  · rcases wipeS_get hi with e | ⟨e1, e2⟩
    · exact .inl e
    · exact .inr ⟨e1, wipe_ne e2⟩
  rintro i m H' ⟨rfl, hi, G', w', δ', acc, st, sg, rp, q⟩
  by_cases hlt : i < ds.length
  · have q := is i _ acc δ' (List.getElem?_eq_getElem hlt) q
    refine .inr ⟨itd.go G' H' i sg rp.sub hlt, fun H2 => i + 1 ≤ ds.length ∧ ∃ G' w' δ' acc, Stp B.T G H w δ G' H2 w' δ' ∧ Same G1 G' ∧ Rep K B G' H2 (wipe σ vs) δ' [.ref D] [.ow (.lst acc)] w' ∧ I (i + 1) acc δ', fun H2 z => ⟨ds.length - (i + 1), by omega, rfl, z⟩, fun x H2 y => ?_⟩
    obtain ⟨d, hd, res⟩ := itd.yld G' H' i x H2 sg rp.sub hlt y
    rw [List.getElem?_eq_getElem hlt] at hd
    cases hd
    obtain ⟨G2, s2, r2, hq⟩ := rp.res res
    refine ⟨G2, _, δ', _, _, r2.drop, hq, q, fun δ3 σ3 H3 G3 w3 q3 s3 r3 p3 t3 => ⟨wipe_eq t3 hts, ?_⟩⟩
    obtain ⟨w4, s4, r4⟩ := r2.frameS (noA _) s3 r3
    have back : ∀ {G9 H9 : Hp} {w9 : Addr → Option Nat} {δ9 : List Sl} {acc9 : List PyData}, Rep K B G9 H9 σ3 δ9 [.ref D] [.ow (.lst acc9)] w9 → Rep K B G9 H9 (wipe σ vs) (wipeS δ9 vs) [.ref D] [.ow (.lst acc9)] w9 := fun {G9 H9 w9 δ9 acc9} r9 => by
      refine r9.reσ ?_ (fun k s hk => ?_) (noA _)
      · rw [wipe_length, wipeS_len, ← r9.len, t3.1, wipe_length]
      · rcases wipeS_get hk with e | ⟨e1, e2⟩
        · exact .inl e
        · exact .inr ⟨e1, (t3.2 k fun z => e2 (hts k z)).symm⟩
    refine ⟨G3, _, δ3, _, r4.drop, q3, fun b δ5 H5 G5 w5 q5 s5 r5 => ?_⟩
    obtain ⟨w6, s6, r6⟩ := r4.frame s5 r5
    have st6 := ((st.trans s2).trans s4).trans s6
    have sg6 : Same G1 G5 := fun a o ha => s6.g a o (s4.g a o (s2.g a o (sg a o ha)))
    cases b with
    | false => exact ⟨hlt, G5, w6, _, acc, pnw st6, sg6, back r6, q5⟩
    | true =>
      refine ⟨G5, _, δ5, _, r6.drop, q5, fun r δ7 y H7 G7 w7 q7 s7 r7 => ?_⟩
      obtain ⟨w8, s8, r8⟩ := r6.frame s7 r7
      obtain ⟨e, δ9, hz, hl, q7⟩ := q7
      obtain ⟨G9, w9, s9, r9⟩ := r8.fz1 (j := 1) rfl rfl hz
      have r9' : Rep K B G9 H7 σ3 δ9 [.ref D, y] [.ow (.lst acc), .im e] w9 := r9
      have hy : Dq K G9 y e := r9'.tm 1 y (.im e) rfl rfl
      obtain ⟨a, us, ea, ma, ha, hus⟩ := r9'.tm 0 (.ref D) (.ow (.lst acc)) rfl rfl
      cases ea
      obtain ⟨us2, h2, h3, s10, r10⟩ := r9'.wrT (dqAll_append hus (.cons hy .nil))
      refine ⟨us, ha, by rw [dqAll_len hus]; exact hl, hlt, G9, w9, _, acc ++ [e], pnw (((st6.trans s8).trans s9).trans s10), fun a o h => s9.g a o (s8.g a o (sg6 a o h)), back r10.first, q7⟩
  · have ei : i = ds.length := by omega
    subst ei
    refine .inl ⟨itd.stop G' H' sg rp.sub, k _ _ _ H' G' w' (ie acc δ' q) (st.reδ fun j o hj => ?_) ⟨rp.sub, rp.out, by rw [restS_len, ← rp.len, wipe_length], fun j s hj => ?_, rp.tlen, fun j v p hv hp => (rp.tm j v p hv hp).noAt (noA _ p (List.mem_of_getElem? hp)), rp.bs⟩⟩
    · obtain ⟨o1, h1⟩ := st.pn j o hj
      exact ⟨o1, by rw [restS_ne (ni j o hj)]; exact h1⟩
    · by_cases hm : j ∈ vs
      · rcases restS_in hm hj with rfl | ⟨d, rfl, e0⟩
        · trivial
        · obtain ⟨v, hv, hd⟩ := rep1.sl j _ e0
          exact ⟨v, hv, dp_mono sg _ _ hd⟩
      · rw [restS_ne hm] at hj
        have := rp.sl j s hj
        rwa [wipe_ne hm] at this
section
variable {X : Cx}
theorem je_lc {elt tg iter : Expr} {ifs : List Expr} {scope : Scope} {own : List (Str × Nat)} {pos : Pos} {pi : PIx} {ts : List Nat} {g : PGx} {tt : PB} {pe : PX} (hc : X.calm = true) (hN : X.N.Nodup) (hi : JI X B tg iter pi) (ok : BlkOk X.N X.env.scope scope own)
    (hg : ∀ (s : Shared) (H : Hp) (C : Addr) (cl : List (Str × Addr)) (fp : List Addr), JG (X.blk s H scope (compEnvC scope cl C X.env) fp) B tg ts g) (ht : ∀ (s : Shared) (H : Hp) (C : Addr) (cl : List (Str × Addr)) (fp : List Addr), JTs (X.blk s H scope (compEnvC scope cl C X.env) fp) B ifs tt)
    (he : ∀ (s : Shared) (H : Hp) (C : Addr) (cl : List (Str × Addr)) (fp : List Addr), JE (X.blk s H scope (compEnvC scope cl C X.env) fp) B elt pe) (hts : ∀ i ∈ ts, i ∈ own.map (·.2) := by decide) (hs : ∀ x, foldedSetIterable iter X.env x = pure x := by intro _; rfl) :
    JE X B (.ListComp elt [⟨tg, iter, ifs, 0⟩] scope pos) (pComp pi g tt pe (own.map (·.2))) := PE_wk (pe_lc (g := LG X.K B ts g) (tt := LB X.K B tt) (te := LE X.K B pe) hc hN hi ok hg ht he hs) fun σ H Q h => lc_lift hts h
theorem js_setLc {i : Nat} {y : Str} {py : Pos} {elt tg iter : Expr} {ifs : List Expr} {scope : Scope} {own : List (Str × Nat)} {pos spos : Pos} {pi : PIx} {ts : List Nat} {g : PGx} {tt : PB} {pe : PX} (hc : X.calm = true) (hN : X.N.Nodup) (hy : X.N[i]? = some y) (hyl : X.env.scope.names.lookup y = some .local)
    (hsw : swapsWith (.ListComp elt [⟨tg, iter, ifs, 0⟩] scope pos) (some (.Name y py)) spos.line X.env = pure true) (hi : JI X B tg iter pi) (ok : BlkOk X.N X.env.scope scope own)
    (hg : ∀ (s : Shared) (H : Hp) (C : Addr) (cl : List (Str × Addr)) (fp : List Addr), JG (X.blk s H scope (compEnvC scope cl C X.env) fp) B tg ts g) (ht : ∀ (s : Shared) (H : Hp) (C : Addr) (cl : List (Str × Addr)) (fp : List Addr), JTs (X.blk s H scope (compEnvC scope cl C X.env) fp) B ifs tt)
    (he : ∀ (s : Shared) (H : Hp) (C : Addr) (cl : List (Str × Addr)) (fp : List Addr), JE (X.blk s H scope (compEnvC scope cl C X.env) fp) B elt pe) (hts : ∀ i ∈ ts, i ∈ own.map (·.2) := by decide) (hs : ∀ x, foldedSetIterable iter X.env x = pure x := by intro _; rfl) :
    JS X B (.Assign [.Name y py] (.ListComp elt [⟨tg, iter, ifs, 0⟩] scope pos) spos) (pSet i (pComp pi g tt pe (own.map (·.2)))) := PS_wk (ps_setLc (g := LG X.K B ts g) (tt := LB X.K B tt) (te := LE X.K B pe) hc hN hy hyl hsw hi ok hg ht he hs) fun D σ H h => lc_lift hts (set_lift h)
end
end Pv

namespace Pv
open PySem PySem.Spec L2 Wf
variable {B : Bas}
/-! ### defs -/
abbrev EX := Addr → List (Str × PyData) → Prop
/-- what a def does: its arguments (data, or a thing of the caller's), what is told and how these things stand then; what is raised -/
abbrev PSp := List Sl → QE → EX → Prop
/-- no tables -/
def nTb : Option HO → Option HO
  | some (.tbl _) => none
  | o => o
theorem nTb_some {x : Option HO} {o : HO} (h : nTb x = some o) : x = some o ∧ NT o := by
  cases x with
  | none => cases h
  | some u => cases u <;> first | (cases h; done) | exact ⟨h, fun ps z => by subst z; cases h⟩
theorem nTb_of {x : Option HO} {o : HO} (h : x = some o) (n : NT o) : nTb x = some o := by
  subst h
  cases o <;> first | rfl | exact absurd rfl (n _)
def B0h (H : Hp) (w : Addr → Option Nat) : Hp := fun a => match w a with
  | none => nTb (H a)
  | some _ => none
def B0 (T : List NdefX.NTab) (H : Hp) (w : Addr → Option Nat) : Bas := ⟨B0h H w, H, T⟩
theorem B0_some {T : List NdefX.NTab} {H : Hp} {w : Addr → Option Nat} {a : Addr} {o : HO} (h : B0 T H w a = some o) : H a = some o ∧ w a = none ∧ NT o := by
  have h : B0h H w a = some o := h
  unfold B0h at h
  split at h
  · rename_i e
    obtain ⟨h1, h2⟩ := nTb_some h
    exact ⟨h1, e, h2⟩
  · cases h
/-- an error's fields, as they stand -/
inductive FlP (K : PySem.W.Frag) (H : Hp) : List (Str × V) → List (Str × PyData) → Prop
  | nil : FlP K H [] []
  | cons {x : Str} {v : V} {d : PyData} {us : List (Str × V)} {fs : List (Str × PyData)} : Dp K H v d → noL d = true → FlP K H us fs → FlP K H ((x, v) :: us) ((x, d) :: fs)
/-- what is wanted of an error that leaves -/
def XOk (K : PySem.W.Frag) (B : Bas) (Ep : EX) (E : XK) : Prop := ∀ C fs us d H', Ep C fs → Same B.hp H' → TbG B.T B.ht H' → B d = none → H' d = some (.xd us) → FlP K H' us fs → E (.ref C) (some d) H'
def LSp (K : PySem.W.Frag) (T : List NdefX.NTab) (ps : PSp) : Sp := fun vs H Q E => ∃ G w as Qp Ep, Rep K (B0 T H w) G H (vs.map some) as [] [] w ∧ (∀ s ∈ as, s = .un ∨ (∃ d, s = .im d) ∨ ∃ o, s = .ow true o) ∧ ps as Qp Ep ∧
  (∀ r δ' v H' G' w', Qp r δ' → isAt r = false → Stp T G H w as G' H' w' δ' → Rep K (B0 T H w) G' H' (vs.map some) δ' [v] [r] w' → Q v H') ∧ XOk K (B0 T H w) Ep E
def outs : List Sl → List Sl → List Sl
  | [], _ => []
  | .ow true _ :: as, d :: ds => d :: outs as ds
  | _ :: as, _ :: ds => .un :: outs as ds
  | _ :: as, [] => .un :: outs as []
theorem outs_len : ∀ (as ds : List Sl), (outs as ds).length = as.length
  | [], _ => rfl
  | .ow true _ :: as, d :: ds => by simp only [outs, List.length_cons, outs_len as ds]
  | .ow false _ :: as, d :: ds => by simp only [outs, List.length_cons, outs_len as ds]
  | .un :: as, d :: ds => by simp only [outs, List.length_cons, outs_len as ds]
  | .im _ :: as, d :: ds => by simp only [outs, List.length_cons, outs_len as ds]
  | .ex _ _ _ _ :: as, d :: ds => by simp only [outs, List.length_cons, outs_len as ds]
  | a :: as, [] => by
    have e : outs (a :: as) [] = .un :: outs as [] := by
      cases a with
      | un => rfl
      | im d => rfl
      | ex _ _ _ _ => rfl
      | ow b o => cases b <;> rfl
    rw [e, List.length_cons, List.length_cons, outs_len as []]
theorem outs_get : ∀ (as ds : List Sl) (i : Nat) {s : Sl}, (outs as ds)[i]? = some s → s = .un ∨ ((∃ o, as[i]? = some (.ow true o)) ∧ ds[i]? = some s)
  | [], _, _, s, h => by simp [outs] at h
  | .ow true o :: as, d :: ds, 0, s, h => by
    simp only [outs, List.getElem?_cons_zero, Option.some.injEq] at h
    exact .inr ⟨⟨o, rfl⟩, by simp [h]⟩
  | .ow true o :: as, d :: ds, i + 1, s, h => by
    rcases outs_get as ds i (by simpa [outs] using h) with e | ⟨⟨o', e1⟩, e2⟩
    · exact .inl e
    · exact .inr ⟨⟨o', by simpa using e1⟩, by simpa using e2⟩
  | .ow false o :: as, d :: ds, 0, s, h => by simp only [outs, List.getElem?_cons_zero, Option.some.injEq] at h; exact .inl h.symm
  | .un :: as, d :: ds, 0, s, h => by simp only [outs, List.getElem?_cons_zero, Option.some.injEq] at h; exact .inl h.symm
  | .im _ :: as, d :: ds, 0, s, h => by simp only [outs, List.getElem?_cons_zero, Option.some.injEq] at h; exact .inl h.symm
  | .ex _ _ _ _ :: as, d :: ds, 0, s, h => by simp only [outs, List.getElem?_cons_zero, Option.some.injEq] at h; exact .inl h.symm
  | .ow false o :: as, d :: ds, i + 1, s, h => by
    rcases outs_get as ds i (by simpa [outs] using h) with e | ⟨⟨o', e1⟩, e2⟩
    · exact .inl e
    · exact .inr ⟨⟨o', by simpa using e1⟩, by simpa using e2⟩
  | .un :: as, d :: ds, i + 1, s, h => by
    rcases outs_get as ds i (by simpa [outs] using h) with e | ⟨⟨o', e1⟩, e2⟩
    · exact .inl e
    · exact .inr ⟨⟨o', by simpa using e1⟩, by simpa using e2⟩
  | .im _ :: as, d :: ds, i + 1, s, h => by
    rcases outs_get as ds i (by simpa [outs] using h) with e | ⟨⟨o', e1⟩, e2⟩
    · exact .inl e
    · exact .inr ⟨⟨o', by simpa using e1⟩, by simpa using e2⟩
  | .ex _ _ _ _ :: as, d :: ds, i + 1, s, h => by
    rcases outs_get as ds i (by simpa [outs] using h) with e | ⟨⟨o', e1⟩, e2⟩
    · exact .inl e
    · exact .inr ⟨⟨o', by simpa using e1⟩, by simpa using e2⟩
  | a :: as, [], i, s, h => by
    have e : outs (a :: as) [] = .un :: outs as [] := by
      cases a with
      | un => rfl
      | im d => rfl
      | ex _ _ _ _ => rfl
      | ow b o => cases b <;> rfl
    rw [e] at h
    match i with
    | 0 => simp only [List.getElem?_cons_zero, Option.some.injEq] at h; exact .inl h.symm
    | i + 1 =>
      rcases outs_get as [] i (by simpa using h) with e | ⟨_, e2⟩
      · exact .inl e
      · simp at e2
theorem outs_own : ∀ (as ds : List Sl) (i : Nat) {o : O} {s : Sl}, as[i]? = some (.ow true o) → ds[i]? = some s → (outs as ds)[i]? = some s
  | [], _, _, _, _, h, _ => by simp at h
  | _ :: _, [], _, _, _, _, h => by simp at h
  | a :: as, d :: ds, 0, o, s, h, h2 => by
    simp only [List.getElem?_cons_zero, Option.some.injEq] at h h2
    subst h h2
    rfl
  | a :: as, d :: ds, i + 1, o, s, h, h2 => by
    have ih := outs_own as ds i (o := o) (s := s) (by simpa using h) (by simpa using h2)
    cases a with
    | un => simpa [outs] using ih
    | im d => simpa [outs] using ih
    | ex _ _ _ _ => simpa [outs] using ih
    | ow b o => cases b <;> simpa [outs] using ih
def endsP (as : List Sl) (Qp : QE) : PEn := { nx := fun δ => Qp (.im .none) (outs as δ), rt := fun r δ => Qp r (outs as δ) }
/-- a def's body keeps its promise -/
theorem fn_lift {K : PySem.W.Frag} {N : List Str} {ps : PSp} {p : EX → PSx} {vs : List V} {H : Hp} {Q : VK} {E : XK} {m : Nat} (hN : N.length = m) (hp : ∀ as Qp Ep, ps as Qp Ep → p Ep (endsP as Qp) (as ++ List.replicate (m - as.length) .un)) {T : List NdefX.NTab} (h : LSp K T ps vs H Q E) (hl : vs.length ≤ m) :
    ∃ (Bh Bt : Hp) (Ep : EX), XOk K ⟨Bh, Bt, T⟩ Ep E ∧ LS K ⟨Bh, Bt, T⟩ (p Ep) { nx := fun _ H' => Q .non H', rt := Q } (L2.start N vs) H := by
  obtain ⟨G, w, as, Qp, Ep, rep, hk, hps, k, x⟩ := h
  have la : vs.length = as.length := by have := rep.len; rwa [List.length_map] at this
  refine ⟨B0h H w, H, Ep, x, G, w, as ++ List.replicate (m - as.length) .un, endsP as Qp, ?_, hp as Qp Ep hps, ?_⟩
  · refine ⟨rep.sub, rep.out, ?_, fun i s hi => ?_, rfl, fun j v r hv => by simp at hv, rep.bs⟩
    · unfold L2.start
      rw [List.length_append, List.length_append, List.length_map, List.length_replicate, List.length_replicate, la, hN]
    · by_cases hi2 : i < as.length
      · rw [List.getElem?_append_left hi2] at hi
        have := rep.sl i s hi
        unfold L2.start
        rw [List.getElem?_append_left (by rw [List.length_map, la]; exact hi2)]
        exact this
      · rw [List.getElem?_append_right (by omega)] at hi
        have e : s = .un := by
          have := List.getElem?_eq_some_iff.mp hi
          obtain ⟨h1, h2⟩ := this
          simpa using h2.symm
        subst e
        trivial
  · have fin : ∀ (r : R) δ' v σ' H' G' w', isAt r = false → Stp T G H w (as ++ List.replicate (m - as.length) .un) G' H' w' δ' → Rep K (B0 T H w) G' H' σ' δ' [v] [r] w' → Pin (L2.start N vs) (as ++ List.replicate (m - as.length) .un) σ' →
        Stp T G H w as G' H' w' (outs as δ') ∧ Rep K (B0 T H w) G' H' (vs.map some) (outs as δ') [v] [r] w' := by
      intro r δ' v σ' H' G' w' hr st rp pn
      have inA : ∀ (i : Nat) o, as[i]? = some (Sl.ow true o) → (as ++ List.replicate (m - as.length) .un)[i]? = some (Sl.ow true o) := fun i o h => by
        rw [List.getElem?_append_left (List.getElem?_eq_some_iff.mp h).1]
        exact h
      refine ⟨⟨st.g, st.b, st.n, st.p, fun i o hi => ?_, st.t, st.q⟩, rp.sub, rp.out, by rw [outs_len, List.length_map, la], fun i s hi => ?_, rfl, fun j u q hu hq => ?_, rp.bs⟩
      · obtain ⟨o', ho'⟩ := st.pn i o (inA i o hi)
        exact ⟨o', outs_own as δ' i hi ho'⟩
      · rcases outs_get as δ' i hi with rfl | ⟨⟨o, e1⟩, e2⟩
        · trivial
        · have e3 := rp.sl i s e2
          have e4 := pn i o (inA i o e1)
          have hi2 : i < as.length := (List.getElem?_eq_some_iff.mp e1).1
          unfold L2.start at e4
          rw [List.getElem?_append_left (by rw [List.length_map, la]; exact hi2)] at e4
          rwa [e4] at e3
      · exact (rp.tm j u q hu hq).noAt (by
          match j with
          | 0 => simp only [List.getElem?_cons_zero, Option.some.injEq] at hq; rw [← hq]; exact hr
          | j + 1 => simp at hq)
    refine ⟨fun δ' σ' H' G' w' h st rp pn => ?_, fun r δ' v σ' H' G' w' h hr st rp pn => ?_, fun δ' σ' H' G' w' h => h.elim, fun δ' σ' H' G' w' h => h.elim⟩
    · obtain ⟨s1, r1⟩ := fin (.im .none) δ' .non σ' H' G' _ rfl (st.trans .drop) (rp.ret .non) pn
      exact k _ _ _ H' G' _ h rfl s1 r1
    · obtain ⟨s1, r1⟩ := fin r δ' v σ' H' G' w' hr st rp pn
      exact k _ _ _ H' G' w' h hr s1 r1
/-! ### calls -/
def argOf (δ : List Sl) : R → Option Sl
  | .im d => some (.im d)
  | .ow o => some (.ow true o)
  | .at i => match δ[i]? with
    | some (.im d) => some (.im d)
    | some (.ow _ o) => some (.ow true o)
    | _ => none
def argsOf (δ : List Sl) : List R → Option (List Sl)
  | [] => some []
  | r :: rs => match argOf δ r with
    | none => none
    | some a => match argsOf δ rs with
      | none => none
      | some as => some (a :: as)
/-- which slots are handed on -/
def atIx (δ : List Sl) : List R → List Nat
  | [] => []
  | .at i :: rs => match δ[i]? with
    | some (.ow _ _) => i :: atIx δ rs
    | _ => atIx δ rs
  | _ :: rs => atIx δ rs
def put1 (δ : List Sl) : R → Sl → List Sl
  | .at i, .ow true o => match δ[i]? with
    | some (.ow b _) => δ.set i (.ow b o)
    | _ => δ
  | _, _ => δ
def putB (δ : List Sl) : List R → List Sl → List Sl
  | [], _ => δ
  | _ :: _, [] => δ
  | r :: rs, s :: ss => putB (put1 δ r s) rs ss
def pCall (ps : PSp) (pa : PL) (Ep : EX) : PX := fun δ Q => pa δ fun rs δ1 => ∃ as, argsOf δ1 rs = some as ∧ (atIx δ1 rs).Nodup ∧ ps as (fun r os => Q r (putB δ1 rs os)) Ep
theorem argsOf_len : ∀ {δ : List Sl} {rs : List R} {as : List Sl}, argsOf δ rs = some as → as.length = rs.length
  | _, [], _, h => by cases h; rfl
  | δ, r :: rs, as, h => by
    unfold argsOf at h
    revert h
    split
    · intro h; cases h
    · split
      · intro h; cases h
      · rename_i as' e'
        intro h
        cases h
        rw [List.length_cons, List.length_cons, argsOf_len e']
theorem argsOf_get : ∀ {δ : List Sl} {rs : List R} {as : List Sl} {j : Nat} {s : Sl}, argsOf δ rs = some as → as[j]? = some s → ∃ r, rs[j]? = some r ∧ argOf δ r = some s
  | _, [], _, _, _, h, hs => by cases h; simp at hs
  | δ, r :: rs, as, j, s, h, hs => by
    unfold argsOf at h
    revert h
    split
    · intro h; cases h
    · rename_i a e
      split
      · intro h; cases h
      · rename_i as' e'
        intro h
        cases h
        match j with
        | 0 => simp only [List.getElem?_cons_zero, Option.some.injEq] at hs; subst hs; exact ⟨r, rfl, e⟩
        | j + 1 =>
          obtain ⟨r', h1, h2⟩ := argsOf_get (j := j) e' (by simpa using hs)
          exact ⟨r', by simpa using h1, h2⟩
def isOw (δ : List Sl) (i : Nat) : Prop := ∃ b o, δ[i]? = some (.ow b o)
theorem put1_len (δ : List Sl) (r : R) (s : Sl) : (put1 δ r s).length = δ.length := by
  unfold put1
  split
  · split
    · rw [List.length_set]
    · rfl
  · rfl
theorem put1_at {δ : List Sl} {i : Nat} {b : Bool} {o o' : O} (h : δ[i]? = some (.ow b o)) : put1 δ (.at i) (.ow true o') = δ.set i (.ow b o') := by
  unfold put1
  dsimp only
  rw [h]
theorem put1_ow {δ : List Sl} {r : R} {s : Sl} {i : Nat} {b : Bool} {o : O} (h : δ[i]? = some (.ow b o)) : ∃ o', (put1 δ r s)[i]? = some (.ow b o') := by
  unfold put1
  split
  · rename_i k o'
    split
    · rename_i b' o'' e
      by_cases ei : k = i
      · subst ei
        rw [h] at e
        cases e
        exact ⟨o', List.getElem?_set_self (List.getElem?_eq_some_iff.mp h).1⟩
      · exact ⟨o, by rw [List.getElem?_set_ne ei]; exact h⟩
    · exact ⟨o, h⟩
  · exact ⟨o, h⟩
theorem put1_ne {δ : List Sl} {r : R} {s : Sl} {i : Nat} (h : r ≠ .at i) : (put1 δ r s)[i]? = δ[i]? := by
  unfold put1
  split
  · rename_i k o'
    split
    · exact List.getElem?_set_ne fun z => h (by rw [z])
    · rfl
  · rfl
theorem put1_nw {δ : List Sl} {r : R} {s : Sl} {i : Nat} (h : ¬ isOw δ i) : (put1 δ r s)[i]? = δ[i]? := by
  unfold put1
  split
  · rename_i k o'
    split
    · rename_i b o e
      exact List.getElem?_set_ne fun z => h ⟨b, o, by rw [← z]; exact e⟩
    · rfl
  · rfl
theorem isOw_put {δ : List Sl} {r : R} {s : Sl} {i : Nat} : isOw (put1 δ r s) i ↔ isOw δ i := by
  constructor
  · intro h
    by_cases hw : isOw δ i
    · exact hw
    · obtain ⟨b, o, e⟩ := h
      rw [put1_nw hw] at e
      exact ⟨b, o, e⟩
  · rintro ⟨b, o, e⟩
    obtain ⟨o', e'⟩ := put1_ow (r := r) (s := s) e
    exact ⟨b, o', e'⟩
theorem mem_atIx : ∀ {δ : List Sl} {rs : List R} {i : Nat}, i ∈ atIx δ rs ↔ isOw δ i ∧ R.at i ∈ rs
  | δ, [], i => by simp [atIx]
  | δ, .im d :: rs, i => by simp [atIx, mem_atIx (δ := δ) (rs := rs) (i := i)]
  | δ, .ow o :: rs, i => by simp [atIx, mem_atIx (δ := δ) (rs := rs) (i := i)]
  | δ, .at k :: rs, i => by
    unfold atIx
    split
    · rename_i b o e
      rw [List.mem_cons, mem_atIx (δ := δ) (rs := rs) (i := i), List.mem_cons]
      constructor
      · rintro (rfl | ⟨h1, h2⟩)
        · exact ⟨⟨b, o, e⟩, .inl rfl⟩
        · exact ⟨h1, .inr h2⟩
      · rintro ⟨h1, h2 | h2⟩
        · cases h2; exact .inl rfl
        · exact .inr ⟨h1, h2⟩
    · rename_i hn
      rw [mem_atIx (δ := δ) (rs := rs) (i := i), List.mem_cons]
      constructor
      · rintro ⟨h1, h2⟩; exact ⟨h1, .inr h2⟩
      · rintro ⟨h1, h2 | h2⟩
        · cases h2
          obtain ⟨b, o, e⟩ := h1
          exact absurd e (hn b o)
        · exact ⟨h1, h2⟩
theorem putB_len : ∀ {rs : List R} {δ : List Sl} {ss : List Sl}, (putB δ rs ss).length = δ.length
  | [], _, _ => by simp [putB]
  | _ :: _, _, [] => by simp [putB]
  | r :: rs, δ, s :: ss => by
    show (putB (put1 δ r s) rs ss).length = _
    rw [putB_len, put1_len]
theorem putB_ne : ∀ {rs : List R} {δ ss : List Sl} {k : Nat}, (¬ isOw δ k ∨ R.at k ∉ rs) → (putB δ rs ss)[k]? = δ[k]?
  | [], _, _, _, _ => by simp [putB]
  | _ :: _, _, [], _, _ => by simp [putB]
  | r :: rs, δ, s :: ss, k, h => by
    show (putB (put1 δ r s) rs ss)[k]? = _
    rcases h with h | h
    · rw [putB_ne (.inl fun z => h (isOw_put.mp z)), put1_nw h]
    · simp only [List.mem_cons, not_or] at h
      rw [putB_ne (.inr h.2), put1_ne (Ne.symm h.1)]
theorem putB_at : ∀ {rs : List R} {δ ss : List Sl} {j k : Nat} {b : Bool} {o o' : O}, (∀ (i j : Nat) k, isOw δ k → rs[i]? = some (.at k) → rs[j]? = some (.at k) → i = j) → rs[j]? = some (.at k) → δ[k]? = some (.ow b o) → ss[j]? = some (.ow true o') → (putB δ rs ss)[k]? = some (.ow b o')
  | [], _, _, _, _, _, _, _, _, h, _, _ => by simp at h
  | _ :: _, _, [], _, _, _, _, _, _, _, _, h => by simp at h
  | r :: rs, δ, s :: ss, 0, k, b, o, o', hu, h, hk, hs => by
    simp only [List.getElem?_cons_zero, Option.some.injEq] at h hs
    subst h hs
    show (putB (put1 δ (.at k) (.ow true o')) rs ss)[k]? = _
    have hn : R.at k ∉ rs := fun z => by
      obtain ⟨j, hj⟩ := List.mem_iff_getElem?.mp z
      have := hu 0 (j + 1) k ⟨b, o, hk⟩ rfl (by simpa using hj)
      omega
    rw [putB_ne (.inr hn), put1_at hk, List.getElem?_set_self (List.getElem?_eq_some_iff.mp hk).1]
  | r :: rs, δ, s :: ss, j + 1, k, b, o, o', hu, h, hk, hs => by
    show (putB (put1 δ r s) rs ss)[k]? = _
    have hr : r ≠ .at k := fun z => by
      have := hu 0 (j + 1) k ⟨b, o, hk⟩ (by simp [z]) h
      omega
    exact putB_at (j := j) (fun i j' k' hw h1 h2 => by
      have := hu (i + 1) (j' + 1) k' (isOw_put.mp hw) (by simpa using h1) (by simpa using h2)
      omega) (by simpa using h) (by rw [put1_ne hr]; exact hk) (by simpa using hs)
theorem uniq_of_nodup : ∀ {δ : List Sl} {rs : List R}, (atIx δ rs).Nodup → ∀ (i j : Nat) k, isOw δ k → rs[i]? = some (.at k) → rs[j]? = some (.at k) → i = j
  | δ, [], _, i, j, k, _, h, _ => by simp at h
  | δ, r :: rs, hn, i, j, k, hw, h1, h2 => by
    have tail : (atIx δ rs).Nodup := by
      cases r with
      | im d => exact hn
      | ow o => exact hn
      | «at» m =>
        unfold atIx at hn
        revert hn
        split
        · intro hn; exact (List.nodup_cons.mp hn).2
        · intro hn; exact hn
    have noHead : r = .at k → R.at k ∉ rs := fun e z => by
      subst e
      obtain ⟨b, o, e⟩ := hw
      have e2 : atIx δ (.at k :: rs) = k :: atIx δ rs := by simp only [atIx, e]
      rw [e2] at hn
      exact (List.nodup_cons.mp hn).1 (mem_atIx.mpr ⟨⟨b, o, e⟩, z⟩)
    match i, j with
    | 0, 0 => rfl
    | 0, j + 1 => exact absurd (List.mem_of_getElem? (show rs[j]? = some (.at k) by simpa using h2)) (noHead (by simpa using h1))
    | i + 1, 0 => exact absurd (List.mem_of_getElem? (show rs[i]? = some (.at k) by simpa using h1)) (noHead (by simpa using h2))
    | i + 1, j + 1 => rw [uniq_of_nodup tail i j k hw (by simpa using h1) (by simpa using h2)]
/-- where slot i is handed on -/
def idxAt (i : Nat) : List R → Option Nat
  | [] => none
  | .at k :: rs => if k = i then some 0 else (idxAt i rs).map (· + 1)
  | _ :: rs => (idxAt i rs).map (· + 1)
theorem idxAt_some : ∀ {rs : List R} {i j : Nat}, idxAt i rs = some j → rs[j]? = some (.at i)
  | [], _, _, h => by cases h
  | .at k :: rs, i, j, h => by
    unfold idxAt at h
    split at h
    · rename_i e; cases h; subst e; rfl
    · obtain ⟨m, h1, rfl⟩ := Option.map_eq_some_iff.mp h
      simpa using idxAt_some h1
  | .im d :: rs, i, j, h => by
    obtain ⟨m, h1, rfl⟩ := Option.map_eq_some_iff.mp (show (idxAt i rs).map (· + 1) = some j from h)
    simpa using idxAt_some h1
  | .ow o :: rs, i, j, h => by
    obtain ⟨m, h1, rfl⟩ := Option.map_eq_some_iff.mp (show (idxAt i rs).map (· + 1) = some j from h)
    simpa using idxAt_some h1
theorem idxAt_mem : ∀ {rs : List R} {i : Nat}, R.at i ∈ rs → ∃ j, idxAt i rs = some j
  | [], _, h => by cases h
  | .at k :: rs, i, h => by
    unfold idxAt
    split
    · exact ⟨0, rfl⟩
    · rename_i hk
      have : R.at i ∈ rs := by
        rcases List.mem_cons.mp h with z | z
        · cases z; exact absurd rfl hk
        · exact z
      obtain ⟨j, e⟩ := idxAt_mem this
      exact ⟨j + 1, by rw [e]; rfl⟩
  | .im d :: rs, i, h => by
    have : R.at i ∈ rs := by
      rcases List.mem_cons.mp h with z | z
      · cases z
      · exact z
    obtain ⟨j, e⟩ := idxAt_mem this
    exact ⟨j + 1, by show (idxAt i rs).map (· + 1) = _; rw [e]; rfl⟩
  | .ow o :: rs, i, h => by
    have : R.at i ∈ rs := by
      rcases List.mem_cons.mp h with z | z
      · cases z
      · exact z
    obtain ⟨j, e⟩ := idxAt_mem this
    exact ⟨j + 1, by show (idxAt i rs).map (· + 1) = _; rw [e]; rfl⟩
def wcOf (rs : List R) (w : Addr → Option Nat) (a : Addr) : Option Nat := match w a with
  | none => none
  | some n => if n % 2 = 1 then some (n - 1) else (idxAt (n / 2) rs).map (2 * ·)
def wbOf (rs : List R) (w w' : Addr → Option Nat) (a : Addr) : Option Nat := match w' a with
  | some m => if m % 2 = 1 then some m else match rs[m / 2]? with
    | some (.at i) => some (2 * i)
    | _ => none
  | none => match wcOf rs w a with
    | none => evn (w a)
    | some _ => none
theorem call_lift {K : PySem.W.Frag} {ps : PSp} {pa : PL} {Ep : EX} {E : XK} {n : Nat} {σ : St} {H : Hp} {Q : VK} (hx : XOk K B Ep E) (h : LE K B (pCall ps pa Ep) σ H Q) : tCall (LSp K B.T ps) [] E (LA K B n pa) σ H Q := by
  obtain ⟨G, w, δ, Qp, rep, q, k⟩ := h
  refine ⟨G, w, δ, _, rep, q, fun rs δ1 vs H1 G1 w1 q1 _ s1 rep1 => ?_⟩
  obtain ⟨as, ha, hnd, q1⟩ := q1
  have uq := uniq_of_nodup hnd
  have la : vs.length = as.length := rep1.tlen.trans (argsOf_len ha).symm
  have wc_some : ∀ a m, wcOf rs w1 a = some m → ∃ n, w1 a = some n := fun a m hm => by
    unfold wcOf at hm
    cases e : w1 a with
    | none => rw [e] at hm; cases hm
    | some n => exact ⟨n, rfl⟩
  have wc_odd : ∀ a (j : Nat), w1 a = some (2 * j + 1) → wcOf rs w1 a = some (2 * j) := fun a j h => by
    unfold wcOf
    rw [h]
    dsimp only
    rw [if_pos (by omega)]
    congr 1
  have wc_at : ∀ a (i j : Nat), isOw δ1 i → rs[j]? = some (.at i) → w1 a = some (2 * i) → wcOf rs w1 a = some (2 * j) := fun a i j hw hj h => by
    obtain ⟨j', e⟩ := idxAt_mem (List.mem_of_getElem? hj)
    have := uq j j' i hw hj (idxAt_some e)
    subst this
    unfold wcOf
    rw [h]
    dsimp only
    rw [if_neg (by omega), show 2 * i / 2 = i by omega, e]
    rfl
  have toB : ∀ a o, B a = some o → B0 B.T H1 (wcOf rs w1) a = some o := fun a o ho => by
    have := rep1.bs.to a o ho
    show B0h H1 (wcOf rs w1) a = some o
    unfold B0h
    have e : wcOf rs w1 a = none := by unfold wcOf; rw [this.2.1]
    rw [e]
    exact nTb_of this.1 this.2.2
  have noB : ∀ d, B0 B.T H1 (wcOf rs w1) d = none → B d = none := fun d h => by
    cases e : B d with
    | none => rfl
    | some o => rw [toB d o e] at h; cases h
  rw [List.append_nil]
  refine ⟨G1, wcOf rs w1, as, _, Ep, ⟨rep1.sub, fun a m hm => ?_, by rw [List.length_map]; exact la, fun j s hs => ?_, rfl, fun j v r hv => by simp at hv, ⟨fun a o ho => B0_some ho, .refl, rep1.bs.tt.ts rep1.bs.ta, rep1.bs.gt⟩⟩, fun s hs => ?_, q1, fun r os v H2 G2 w2 hq hr st rp => ?_, fun C fs us d H2 he hs htb hbd hd hf => hx C fs us d H2 he (fun a o ho => hs a o (toB a o ho)) (rep1.bs.tt.trans htb) (noB d hbd) hd hf⟩
  · obtain ⟨n, hn⟩ := wc_some a m hm
    exact rep1.out a n hn
  · obtain ⟨r, hr, he⟩ := argsOf_get ha hs
    have hj : j < vs.length := by rw [la]; exact (List.getElem?_eq_some_iff.mp hs).1
    have hv : vs[j]? = some vs[j] := List.getElem?_eq_getElem hj
    have hm : (vs.map some)[j]? = some (some vs[j]) := by rw [List.getElem?_map, hv]; rfl
    have t := rep1.tm j _ r hv hr
    cases r with
    | im d => cases he; exact ⟨_, hm, t⟩
    | ow o => cases he; exact ⟨_, hm, RO.mono (fun _ _ h => h) (fun _ _ _ h => h) (fun a u ma _ => wc_odd a j ma) t⟩
    | «at» i =>
      have t' : σ[i]? = some (some vs[j]) := t
      simp only [argOf] at he
      revert he
      split
      · rename_i d e
        intro he
        cases he
        obtain ⟨v, hv', hd⟩ := rep1.sl i _ e
        rw [t'] at hv'
        cases hv'
        exact ⟨_, hm, hd⟩
      · rename_i b o e
        intro he
        cases he
        obtain ⟨v, hv', hd⟩ := rep1.sl i _ e
        rw [t'] at hv'
        cases hv'
        exact ⟨_, hm, RO.mono (fun _ _ h => h) (fun _ _ _ h => h) (fun a u ma _ => wc_at a i j ⟨b, o, e⟩ hr ma) hd⟩
      · intro he; cases he
  · obtain ⟨j, hj⟩ := List.mem_iff_getElem?.mp hs
    obtain ⟨r, hr, he⟩ := argsOf_get ha hj
    cases r with
    | im d => cases he; exact .inr (.inl ⟨d, rfl⟩)
    | ow o => cases he; exact .inr (.inr ⟨o, rfl⟩)
    | «at» i =>
      simp only [argOf] at he
      revert he
      split
      · intro he; cases he; exact .inr (.inl ⟨_, rfl⟩)
      · intro he; cases he; exact .inr (.inr ⟨_, rfl⟩)
      · intro he; cases he
  · -- behind the call
    have nw : ∀ a m n, w2 a = some m → wcOf rs w1 a = none → w1 a = some n → False := fun a m n h1 h2 h3 => by
      rcases st.n a m h1 with z | z
      · exact z h2
      · exact (rep1.out a n h3).2.1 z
    have st' : Stp B.T G1 H1 w1 δ1 G2 H2 (wbOf rs w1 w2) (putB δ1 rs os) := by
      refine ⟨st.g, fun a o hw ho => st.b a o (by unfold wcOf; rw [hw]) ho, fun a m hm => ?_, fun a o ho => ?_, fun i o hi => ?_, st.t, st.q⟩
      · cases e : w1 a with
        | some n => exact .inl (Option.some_ne_none _)
        | none =>
          cases e2 : w2 a with
          | none =>
            unfold wbOf at hm
            have e3 : wcOf rs w1 a = none := by unfold wcOf; rw [e]
            rw [e2, e3, e] at hm
            cases hm
          | some m2 =>
            rcases st.n a m2 e2 with z | z
            · exact absurd (by unfold wcOf; rw [e]) z
            · exact .inr z
      · rcases st.p a o ho with z | z | z | z
        · exact .inl z
        · exact .inr (.inl z)
        · refine .inr (.inr (.inl fun e => z ?_))
          unfold wcOf
          rw [e]
        · exact .inr (.inr (.inr z))
      · by_cases hm : R.at i ∈ rs
        · obtain ⟨j, hj⟩ := List.mem_iff_getElem?.mp hm
          have hja : j < as.length := by rw [argsOf_len ha]; exact (List.getElem?_eq_some_iff.mp hj).1
          obtain ⟨r, hr', he⟩ := argsOf_get ha (List.getElem?_eq_getElem hja)
          rw [hj] at hr'
          cases hr'
          simp only [argOf, hi, Option.some.injEq] at he
          obtain ⟨o', ho'⟩ := st.pn j o (by rw [List.getElem?_eq_getElem hja, he])
          exact ⟨o', putB_at uq hj hi ho'⟩
        · exact ⟨o, by rw [putB_ne (.inr hm)]; exact hi⟩
    refine k r _ v H2 G2 _ hq (s1.trans st') ⟨rp.sub, fun a m hm => ?_, by rw [putB_len]; exact rep1.len, fun i s hs => ?_, rfl, fun j u p hu hp => ?_, st'.bs rep1.bs⟩
    · cases e2 : w2 a with
      | some m2 => exact rp.out a m2 e2
      | none =>
        unfold wbOf at hm
        rw [e2] at hm
        dsimp only at hm
        revert hm
        split
        · rename_i e3
          intro hm
          have hn := (evn_some.mp hm).1
          obtain ⟨g0, h0, n0⟩ := rep1.out a m hn
          refine ⟨?_, st.nn a e3 h0 n0⟩
          cases e6 : G2 a with
          | none => rfl
          | some o =>
            rcases st.p a o e6 with z | z | z | ⟨xs, z⟩
            · rw [g0] at z; cases z
            · exact absurd z h0
            · exact absurd e3 z
            · exact absurd z (n0 xs)
        · intro hm; cases hm
    · by_cases hm : isOw δ1 i ∧ R.at i ∈ rs
      · obtain ⟨⟨b, o, e⟩, hm⟩ := hm
        obtain ⟨j, hj⟩ := List.mem_iff_getElem?.mp hm
        have hja : j < as.length := by rw [argsOf_len ha]; exact (List.getElem?_eq_some_iff.mp hj).1
        obtain ⟨r', hr', he⟩ := argsOf_get ha (List.getElem?_eq_getElem hja)
        rw [hj] at hr'
        cases hr'
        simp only [argOf, e, Option.some.injEq] at he
        obtain ⟨o', ho'⟩ := st.pn j o (by rw [List.getElem?_eq_getElem hja, he])
        rw [putB_at uq hj e ho'] at hs
        cases hs
        obtain ⟨v', hv', hd⟩ := rp.sl j _ ho'
        have hjv : j < vs.length := by rw [la]; exact hja
        rw [List.getElem?_map, List.getElem?_eq_getElem hjv] at hv'
        cases hv'
        have t : σ[i]? = some (some vs[j]) := rep1.tm j _ (.at i) (List.getElem?_eq_getElem hjv) hj
        refine ⟨_, t, RO.mono (fun _ _ h => h) (fun _ _ _ h => h) (fun a u ma _ => ?_) hd⟩
        show wbOf rs w1 w2 a = _
        unfold wbOf
        rw [ma]
        dsimp only
        rw [if_neg (by omega), show 2 * j / 2 = j by omega, hj]
      · have hne : ¬ isOw δ1 i ∨ R.at i ∉ rs := by
          by_cases z : isOw δ1 i
          · exact .inr fun z2 => hm ⟨z, z2⟩
          · exact .inl z
        rw [putB_ne hne] at hs
        have sl := rep1.sl i s hs
        cases s with
        | un => trivial
        | im d =>
          obtain ⟨v', hv', hd⟩ := sl
          exact ⟨v', hv', dp_mono st.g _ _ hd⟩
        | ex a dd C fs =>
          obtain ⟨h1, us, h2, h3⟩ := sl
          exact ⟨h1, us, st.g _ _ h2, h3.mono st.g⟩
        | ow b o =>
          have hni : R.at i ∉ rs := hne.elim (fun z => absurd ⟨b, o, hs⟩ z) id
          have wcn : ∀ a, w1 a = some (2 * i) → wcOf rs w1 a = none := fun a h => by
            unfold wcOf
            rw [h]
            dsimp only
            rw [if_neg (by omega), show 2 * i / 2 = i by omega]
            cases e : idxAt i rs with
            | none => rfl
            | some j => exact absurd (List.mem_of_getElem? (idxAt_some e)) hni
          obtain ⟨v', hv', hd⟩ := sl
          refine ⟨v', hv', RO.monoN st.g (fun a u hnt ma hu => st.bN a u hnt (wcn a ma) hu) (fun a u ma hu => ?_) hd⟩
          show wbOf rs w1 w2 a = _
          unfold wbOf
          cases e2 : w2 a with
          | some m => exact (nw a m _ e2 (wcn a ma) ma).elim
          | none =>
            dsimp only
            rw [wcn a ma]
            exact evn_some.mpr ⟨ma, by omega⟩
    · match j with
      | 0 =>
        simp only [List.getElem?_cons_zero, Option.some.injEq] at hu hp
        subst hu hp
        have t := rp.tm 0 v r rfl rfl
        cases r with
        | im d => exact t
        | ow o =>
          refine RO.mono (fun _ _ h => h) (fun _ _ _ h => h) (fun a u ma _ => ?_) t
          show wbOf rs w1 w2 a = _
          unfold wbOf
          rw [ma]
          rfl
        | «at» i => cases hr
      | j + 1 => simp at hu
end Pv

namespace Pv
open PySem PySem.Spec L2 Wf
variable {B : Bas}
section
variable {X : Cx} {tg l a b e e2 : Expr} {es : List Expr} {pl pa pb : PX} {p pos : Pos}
/-! ### words -/
theorem jv (i : Nat) {x : Str} {pos : Pos} (hN : X.N[i]? = some x := by rfl) (hv : Vis X.env.scope x := by first | exact Or.inl rfl | exact Or.inr (Or.inl rfl) | exact Or.inr (Or.inr rfl)) (hd : (x == ("__debug__" : Str)) = false := by decide)
    (hcd : (x == ("__classdict__" : Str)) = false := by decide) : JE X B (.Name x pos) (pVar i) := je_var hN hv hd hcd
/-- as data for good -/
def pFz (p : PX) : PX := fun δ Q => p δ fun r δ1 => ∃ d δ2, fz δ1 r = some (d, δ2) ∧ Q (.im d) δ2
theorem je_fz (h : JE X B e pa) : JE X B e (pFz pa) := PE_wk h fun σ H Q ⟨G, w, δ, Qp, rep, q, k⟩ => ⟨G, w, δ, _, rep, q, fun r δ1 v H1 G1 w1 q1 s1 rep1 => by
  obtain ⟨d, δ2, hz, q1⟩ := q1
  obtain ⟨G2, w2, s2, r2⟩ := rep1.fz1 (j := 0) rfl rfl hz
  exact k _ _ v H1 G2 w2 q1 (s1.trans s2) r2⟩
/-! ### enumerate -/
def enD (n : Nat) : List PyData → List PyData
  | [] => []
  | d :: ds => .tuple [.int (n : Int), d] :: enD (n + 1) ds
theorem enD_len : ∀ (n : Nat) (ds : List PyData), (enD n ds).length = ds.length
  | _, [] => rfl
  | n, d :: ds => by simp only [enD, List.length_cons, enD_len (n + 1) ds]
theorem enD_get : ∀ (n : Nat) (ds : List PyData) (i : Nat), (enD n ds)[i]? = (ds[i]?).map fun d => .tuple [.int ((n + i : Nat) : Int), d]
  | n, [], i => by simp [enD]
  | n, d :: ds, 0 => by simp [enD]
  | n, d :: ds, i + 1 => by
    simp only [enD, List.getElem?_cons_succ, enD_get (n + 1) ds i]
    have : n + 1 + i = n + (i + 1) := by omega
    rw [this]
theorem itd_enumL {K : PySem.W.Frag} {G : Hp} {a : Addr} {us : List V} {ds : List PyData} (ha : G a = some (.lst us)) (hd : DqAll K G us ds) : ItD K G (Ite K a) (enD 0 ds) where
  go := fun G' H' i sg sh hi => by
    rw [enD_len] at hi
    have hl := dqAll_len hd
    exact ⟨us, us[i]'(by omega), SqL.of (sh _ _ (sg _ _ ha)), by simp⟩
  yld := fun G' H' i x H2 sg sh hi y => by
    rw [enD_len] at hi
    obtain ⟨T, z, rfl, hT, rfl, y⟩ := y
    obtain ⟨v, hv, hq⟩ := dqAll_get hd (List.getElem?_eq_getElem hi)
    have e := y us (SqL.of (sh _ _ (sg _ _ ha)))
    rw [hv] at e
    cases e
    refine ⟨_, by rw [enD_get, List.getElem?_eq_getElem hi]; rfl, .inr ⟨T, _, _, rfl, hT, rfl, .cons ?_ (.cons (dp_mono sg _ _ hq) .nil), rfl⟩⟩
    rw [Nat.zero_add]
    exact .int _
  stop := fun G' H' sg sh => ⟨us, SqL.of (sh _ _ (sg _ _ ha)), by rw [enD_len, dqAll_len hd]; exact Nat.le_refl _⟩
theorem itd_enumT {K : PySem.W.Frag} {G : Hp} {a : Addr} {us : List V} {ds : List PyData} (ha : SqT K G a us) (hd : DqAll K G us ds) : ItD K G (ItT K a) (enD 0 ds) where
  go := fun G' H' i sg sh hi => by
    rw [enD_len] at hi
    have hl := dqAll_len hd
    exact ⟨us, us[i]'(by omega), Same.tp sh _ _ (Same.tp sg _ _ ha), by simp⟩
  yld := fun G' H' i x H2 sg sh hi y => by
    rw [enD_len] at hi
    obtain ⟨T, z, rfl, hT, rfl, y⟩ := y
    obtain ⟨v, hv, hq⟩ := dqAll_get hd (List.getElem?_eq_getElem hi)
    have e := y us (Same.tp sh _ _ (Same.tp sg _ _ ha))
    rw [hv] at e
    cases e
    refine ⟨_, by rw [enD_get, List.getElem?_eq_getElem hi]; rfl, .inr ⟨T, _, _, rfl, hT, rfl, .cons ?_ (.cons (dp_mono sg _ _ hq) .nil), rfl⟩⟩
    rw [Nat.zero_add]
    exact .int _
  stop := fun G' H' sg sh => ⟨us, Same.tp sh _ _ (Same.tp sg _ _ ha), by rw [enD_len, dqAll_len hd]; exact Nat.le_refl _⟩
def iEnumU (K : PySem.W.Frag) (ta : TA) : TI := fun σ H R => ta σ H fun vs H1 => ∃ a xs, vs = [.ref a] ∧ ((SqL K H1 a xs ∧ R (Ite K a) H1) ∨ (SqT K H1 a xs ∧ R (ItT K a) H1))
open PyProof.Rows in
theorem pi_enumU {ta : TA} {tpos : Pos} {elts : List Expr} {kk : Nat} (hg : Gl X "enumerate") (hm : X.mg "enumerate" = none) (ha : PA X [e] ta) (hs : starEach [e] X.env = [(false, eval e X.env)] := by rfl) :
    PI X (.Tuple elts kk tpos) (.Call (.Name "enumerate" p) [e] [] pos) (iEnumU X.K ta) := by
  refine ⟨fun pins s σ H R I h => ?_⟩
  refine Call_ (ld_blt I hg hm boot_enumerate (PyProof.Rows.callWith_type1 (thn (ha.run pos pins s σ H _ I h) fun us s1 ⟨vs, H1, I1, r1, q1⟩ => ?_) hs rfl))
  obtain ⟨a, xs, ex, ⟨hq, q⟩ | ⟨hq, q⟩⟩ := q1
  · subst ex
    cases r1 with
    | cons r rr =>
      cases rr
      cases r
      obtain ⟨its, rv, p', hz⟩ := I1.list hq
      refine call_enumerate_list p'.isList fun h' he hit hsz hk => wpAny_pyIter_enum he ?_
      have I2 : Inv X pins σ H1 { s1 with heap := h' } := I1.kept (t' := s1.toks) hk
      refine ⟨s1.heap.objs.size + 1, [s1.heap.objs.size + 1, s1.heap.objs.size], _, _, H1, rfl, I2, turn_enum a (s1.heap.objs.size + 1) s1.heap.objs.size, ⟨⟨.none, he⟩, hit, Nat.succ_ne_self _⟩, fun b hb => ?_, q⟩
      have e' : b = s1.heap.objs.size + 1 ∨ b = s1.heap.objs.size := by simpa using hb
      have hle : s1.heap.objs.size ≤ b := by
        rcases e' with z | z
        · rw [z]; exact Nat.le_add_right _ _
        · rw [z]; exact Nat.le_refl _
      exact I1.fpOk hle (I1.hok.fresh hle)
  · subst ex
    cases r1 with
    | cons r rr =>
      cases rr
      cases r
      obtain ⟨its, rv, pt, hz⟩ := I1.tuple hq
      refine call_enumT (show s1.heap.IsTuple a its.toArray from pt) fun h' en hit hsz hk => wpAny_pyIter_enum en ?_
      have I2 : Inv X pins σ H1 { s1 with heap := h' } := I1.kept (t' := s1.toks) hk
      refine ⟨s1.heap.objs.size + 1, [s1.heap.objs.size + 1, s1.heap.objs.size], _, _, H1, rfl, I2, turn_enumT a (s1.heap.objs.size + 1) s1.heap.objs.size, ⟨⟨.none, en⟩, hit, Nat.succ_ne_self _⟩, fun b hb => ?_, q⟩
      have le : s1.heap.objs.size ≤ b := by
        have eb : b = s1.heap.objs.size + 1 ∨ b = s1.heap.objs.size := by simpa using hb
        rcases eb with rfl | rfl
        · exact Nat.le_add_right _ _
        · exact Nat.le_refl _
      exact I1.fpOk le (I1.hok.fresh le)
def iEn (ps : PL) : PIx := fun δ Q => ps δ fun rs δ1 => ∃ d δ2 ds, fzAll δ1 rs = some ([d], δ2) ∧ seqD d = some ds ∧ Q (enD 0 ds) δ2
theorem vals1 {K : PySem.W.Frag} {G : Hp} {vs : List V} {d : PyData} (h : DqAll K G vs [d]) : ∃ v, vs = [v] ∧ Dq K G v d := by
  cases h with
  | cons h1 h2 => cases h2; exact ⟨_, rfl, h1⟩
theorem ji_enum {ps : PL} {tpos : Pos} {elts : List Expr} {kk : Nat} (hg : Gl X "enumerate") (hm : X.mg "enumerate" = none) (ha : JA X B [e] ps) (hs : starEach [e] X.env = [(false, eval e X.env)] := by rfl) :
    JI X B (.Tuple elts kk tpos) (.Call (.Name "enumerate" p) [e] [] pos) (iEn ps) := PI_wk (pi_enumU hg hm ha hs) fun σ H R ⟨G, w, δ, Qp, rep, q, k⟩ =>
  ⟨G, w, δ, _, rep, q, fun rs δ1 vs H1 G1 w1 q1 _ s1 rep1 => by
    obtain ⟨d, δ2, ds, hz, hs, q1⟩ := q1
    obtain ⟨G2, w2, s2, r2⟩ := rep1.fzs hz
    obtain ⟨v, rfl, hd⟩ := vals1 (r2.ims)
    cases d with
    | list es =>
      cases hs
      cases hd with
      | lst ha hds => exact ⟨_, _, rfl, .inl ⟨SqL.of (r2.sub _ _ ha), k _ δ2 _ H1 G2 _ q1 ((s1.trans s2).trans .drop) r2.drop (itd_enumL ha hds)⟩⟩
    | tuple es =>
      cases hs
      cases hd with
      | tup ha hds => exact ⟨_, _, rfl, .inr ⟨Same.tp r2.sub _ _ ha, k _ δ2 _ H1 G2 _ q1 ((s1.trans s2).trans .drop) r2.drop (itd_enumT ha hds)⟩⟩
    | none => cases hs
    | bool _ => cases hs
    | int _ => cases hs
    | str _ => cases hs
    | dict _ => cases hs⟩
/-! ### zip -/
def zipD : List PyData → List PyData → List PyData
  | x :: xs, y :: ys => .tuple [x, y] :: zipD xs ys
  | _, _ => []
theorem zipD_len : ∀ (xs ys : List PyData), (zipD xs ys).length = min xs.length ys.length
  | [], _ => by simp [zipD]
  | _ :: _, [] => by simp [zipD]
  | x :: xs, y :: ys => by simp only [zipD, List.length_cons, zipD_len xs ys]; omega
theorem zipD_get : ∀ (xs ys : List PyData) (i : Nat) {x y : PyData}, xs[i]? = some x → ys[i]? = some y → (zipD xs ys)[i]? = some (.tuple [x, y])
  | [], _, _, _, _, h, _ => by simp at h
  | _ :: _, [], _, _, _, _, h => by simp at h
  | x :: xs, y :: ys, 0, _, _, h1, h2 => by simp at h1 h2; subst h1 h2; rfl
  | x :: xs, y :: ys, i + 1, _, _, h1, h2 => by
    simp only [zipD, List.getElem?_cons_succ]
    exact zipD_get xs ys i (by simpa using h1) (by simpa using h2)
theorem itd_zipL {K : PySem.W.Frag} {G : Hp} {a b : Addr} {us ws : List V} {ds es : List PyData} (ha : G a = some (.lst us)) (hd : DqAll K G us ds) (hb : G b = some (.lst ws)) (he : DqAll K G ws es) : ItD K G (Itz K a b) (zipD ds es) where
  go := fun G' H' i sg sh hi => by
    rw [zipD_len] at hi
    have hl := dqAll_len hd
    have hm := dqAll_len he
    exact ⟨us, ws, us[i]'(by omega), ws[i]'(by omega), SqL.of (sh _ _ (sg _ _ ha)), SqL.of (sh _ _ (sg _ _ hb)), by simp, by simp⟩
  yld := fun G' H' i x H2 sg sh hi y => by
    rw [zipD_len] at hi
    have hi1 : i < ds.length := by omega
    have hi2 : i < es.length := by omega
    obtain ⟨T, z, z', rfl, hT, rfl, y, y'⟩ := y
    obtain ⟨v, hv, hq⟩ := dqAll_get hd (List.getElem?_eq_getElem hi1)
    obtain ⟨v', hv', hq'⟩ := dqAll_get he (List.getElem?_eq_getElem hi2)
    have e := y us (SqL.of (sh _ _ (sg _ _ ha)))
    rw [hv] at e
    cases e
    have e := y' ws (SqL.of (sh _ _ (sg _ _ hb)))
    rw [hv'] at e
    cases e
    exact ⟨_, zipD_get ds es i (List.getElem?_eq_getElem hi1) (List.getElem?_eq_getElem hi2), .inr ⟨T, _, _, rfl, hT, rfl, .cons (dp_mono sg _ _ hq) (.cons (dp_mono sg _ _ hq') .nil), rfl⟩⟩
  stop := fun G' H' sg sh => ⟨us, ws, SqL.of (sh _ _ (sg _ _ ha)), SqL.of (sh _ _ (sg _ _ hb)), by rw [zipD_len, dqAll_len hd, dqAll_len he]; omega⟩
theorem itd_zipT {K : PySem.W.Frag} {G : Hp} {a b : Addr} {us ws : List V} {ds es : List PyData} (ha : SqT K G a us) (hd : DqAll K G us ds) (hb : SqT K G b ws) (he : DqAll K G ws es) : ItD K G (RZ.ItzT K a b) (zipD ds es) where
  go := fun G' H' i sg sh hi => by
    rw [zipD_len] at hi
    have hl := dqAll_len hd
    have hm := dqAll_len he
    exact ⟨us, ws, us[i]'(by omega), ws[i]'(by omega), Same.tp sh _ _ (Same.tp sg _ _ ha), Same.tp sh _ _ (Same.tp sg _ _ hb), by simp, by simp⟩
  yld := fun G' H' i x H2 sg sh hi y => by
    rw [zipD_len] at hi
    have hi1 : i < ds.length := by omega
    have hi2 : i < es.length := by omega
    obtain ⟨T, z, z', rfl, hT, rfl, y, y'⟩ := y
    obtain ⟨v, hv, hq⟩ := dqAll_get hd (List.getElem?_eq_getElem hi1)
    obtain ⟨v', hv', hq'⟩ := dqAll_get he (List.getElem?_eq_getElem hi2)
    have e := y us (Same.tp sh _ _ (Same.tp sg _ _ ha))
    rw [hv] at e
    cases e
    have e := y' ws (Same.tp sh _ _ (Same.tp sg _ _ hb))
    rw [hv'] at e
    cases e
    exact ⟨_, zipD_get ds es i (List.getElem?_eq_getElem hi1) (List.getElem?_eq_getElem hi2), .inr ⟨T, _, _, rfl, hT, rfl, .cons (dp_mono sg _ _ hq) (.cons (dp_mono sg _ _ hq') .nil), rfl⟩⟩
  stop := fun G' H' sg sh => ⟨us, ws, Same.tp sh _ _ (Same.tp sg _ _ ha), Same.tp sh _ _ (Same.tp sg _ _ hb), by rw [zipD_len, dqAll_len hd, dqAll_len he]; omega⟩
/-- two lists, or two tuples -/
def iZp (ps : PL) : PIx := fun δ Q => ps δ fun rs δ1 => ∃ d e δ2, fzAll δ1 rs = some ([d, e], δ2) ∧ ((∃ ds es, d = .list ds ∧ e = .list es ∧ Q (zipD ds es) δ2) ∨ ∃ ds es, d = .tuple ds ∧ e = .tuple es ∧ Q (zipD ds es) δ2)
theorem ji_zip {ps : PL} {tpos : Pos} {elts : List Expr} {kk : Nat} (hg : Gl X "zip") (hm : X.mg "zip" = none) (ha : JA X B [e, e2] ps)
    (hs : starEach [e, e2] X.env = (false, eval e X.env) :: starEach [e2] X.env := by rfl) (hpl : (backTo pos (starEach [e2] X.env)).any (·.1) = false := by rfl) :
    JI X B (.Tuple elts kk tpos) (.Call (.Name "zip" p) [e, e2] [] pos) (iZp ps) := PI_wk (RZ.pi_zipA hg hm ha hs hpl) fun σ H R ⟨G, w, δ, Qp, rep, q, k⟩ =>
  ⟨G, w, δ, _, rep, q, fun rs δ1 vs H1 G1 w1 q1 _ s1 rep1 => by
    obtain ⟨d, e, δ2, hz, alt⟩ := q1
    obtain ⟨G2, w2, s2, r2⟩ := rep1.fzs hz
    have hd := r2.ims
    cases hd with
    | cons h1 hd =>
      cases hd with
      | cons h2 hd =>
        cases hd
        rcases alt with ⟨ds, es, rfl, rfl, q1⟩ | ⟨ds, es, rfl, rfl, q1⟩
        · cases h1 with
          | lst ha hds =>
            cases h2 with
            | lst hb hes => exact ⟨_, _, _, _, rfl, .inl ⟨SqL.of (r2.sub _ _ ha), SqL.of (r2.sub _ _ hb), k _ δ2 _ H1 G2 _ q1 ((s1.trans s2).trans .drop) r2.drop (itd_zipL ha hds hb hes)⟩⟩
        · cases h1 with
          | tup ha hds =>
            cases h2 with
            | tup hb hes => exact ⟨_, _, _, _, rfl, .inr ⟨Same.tp r2.sub _ _ ha, Same.tp r2.sub _ _ hb, k _ δ2 _ H1 G2 _ q1 ((s1.trans s2).trans .drop) r2.drop (itd_zipT ha hds hb hes)⟩⟩⟩
/-! ### defs of the module -/
def noX : EX := fun _ _ => False
theorem xok_no {K : PySem.W.Frag} {E : XK} : XOk K B noX E := fun _ _ _ _ _ h => h.elim
theorem je_cal {k j : Nat} {x : Str} {pn : List Str} {psp : PSp} {ps : PL} (C : Cal X.prog X.w X.K X.mg X.base CX0 k x pn (LSp X.K B.T psp)) (hr : Room j X.A) (hg : Gl X x) (ha : JA X B (e :: es) ps) (hk : k ≤ j := by decide)
    (hdb : (x == ("__debug__" : Str)) = false := by decide) (he : starEach (e :: es) X.env = (false, eval e X.env) :: starEach es X.env := by rfl) (hpl : (backTo pos (starEach es X.env)).any (·.1) = false := by rfl) :
    JE X B (.Call (.Name x p) (e :: es) [] pos) (pCall psp ps noX) := PE_wk (pe_cal C hr hg ha hk hdb he hpl) fun σ H Q h => call_lift xok_no h
theorem je_calG {k j : Nat} {x : Str} {pn : List Str} {psp : PSp} {ps : PL} (C : CalG X.prog X.w X.K X.mg X.base CX0 k x pn (LSp X.K B.T psp)) (hr : Room j X.A) (hG : X.A.guards = some []) (hg : Gl X x) (ha : JA X B (e :: es) ps) (hk : k ≤ j := by decide)
    (hdb : (x == ("__debug__" : Str)) = false := by decide) (he : starEach (e :: es) X.env = (false, eval e X.env) :: starEach es X.env := by rfl) (hpl : (backTo pos (starEach es X.env)).any (·.1) = false := by rfl) :
    JE X B (.Call (.Name x p) (e :: es) [] pos) (pCall psp ps noX) := PE_wk (pe_calG C hr hG hg ha hk hdb he hpl) fun σ H Q h => call_lift xok_no h
/-- .. that may raise; the error leaves this def too -/
theorem je_calX {k j : Nat} {x : Str} {pn : List Str} {psp : PSp} {ps : PL} {W : WX} {E : XK} {Ep : EX} (C : CalX X.prog X.w X.K X.mg X.base k x pn (LSp X.K B.T psp)) (hr : Room j X.A) (tk : Takes X W) (hW : ∀ cls d σ H, E cls d H → W cls d σ H) (hx : XOk X.K B Ep E) (hg : Gl X x) (ha : JA X B (e :: es) ps) (hk : k ≤ j := by decide)
    (hdb : (x == ("__debug__" : Str)) = false := by decide) (he : starEach (e :: es) X.env = (false, eval e X.env) :: starEach es X.env := by rfl) (hpl : (backTo pos (starEach es X.env)).any (·.1) = false := by rfl) :
    JE X B (.Call (.Name x p) (e :: es) [] pos) (pCall psp ps Ep) := PE_wk (pe_calX C hr tk hW hg ha hk hdb he hpl) fun σ H Q h => call_lift hx h
/-! ### repr -/
def fRepr : PyData → (PyData → Prop) → Prop
  | .tuple ds, k => (PyData.tuple ds).showable = true ∧ (PyData.tuple ds).depth ≤ 60 ∧ (PyData.tuple ds).shown.length ≤ sizeLine ∧ k (.str (PyData.tuple ds).shown)
  | _, _ => False
theorem lc_repr {K : PySem.W.Frag} : LC K (q1 fRepr) (rRepr K) := by
  refine lc_im1 (fun G H v d Q s hv q => ?_) (fun d k k' hk q => ?_)
  · unfold fRepr at q
    split at q
    · obtain ⟨a, us, rfl, ha, hds, e1⟩ := hv.seqT s
      exact ⟨a, _, rfl, hv.dp s, q.1, q.2.1, q.2.2.1, q.2.2.2 _ _ .str⟩
    · exact q.elim
  · unfold fRepr at q ⊢
    split at q
    · exact ⟨q.1, q.2.1, q.2.2.1, hk _ q.2.2.2⟩
    · exact q.elim
end
/-! ### a def keeps its promise -/
theorem fn_ok {T : List NdefX.NTab} {P : Program} {w : World} {K : PySem.W.Frag} {mg : Str → Option Value} {base : Heap} {CX : CXT} {k : Nat} {f : Addr} {fd : FuncData} {x qual : Str} {params : Arguments} {body : List Stmt} {scope : Scope} {dvs : List V} {kws : List (Str × V)} {N prm : List Str} {psp : PSp} {p : EX → PSx} {m n : Nat}
    (F : FunD K x qual params body scope dvs kws f fd) (S : FnScope N prm scope) (hN : N.length = m) (hn : prm.length = n) (hnm : n ≤ m) (hlen : ∀ as Qp Ep, psp as Qp Ep → as.length = n)
    (hb : ∀ (cdv : Value) (A : Around) (outer : List Env) (s : Shared) (H : Hp) (E : XK) (Bh Bt : Hp) (Ep : EX), Room k (A.deeper (PyProof.Rows.envOfC qual scope s.heap.objs.size f cdv)) → XOk K ⟨Bh, Bt, T⟩ Ep E → JSs (cxOf CX P w K mg base N qual scope f cdv A outer s H E) ⟨Bh, Bt, T⟩ body (p Ep))
    (hp : ∀ as Qp Ep, psp as Qp Ep → p Ep (endsP as Qp) (as ++ List.replicate (m - n) .un)) : FnOk P w K mg base CX (k + 1) f fd prm (LSp K T psp) := by
  have ln : ∀ vs H Q E, LSp K T psp vs H Q E → vs.length = n := fun vs H Q E ⟨G, w, as, Qp, Ep, rep, _, h, _⟩ => by
    have := rep.len
    rw [List.length_map, hlen as Qp Ep h] at this
    exact this
  refine F.ok S (fun vs H Q E h => by rw [hn]; exact ln vs H Q E h) fun cdv A outer s H vs Q E hr h => ?_
  obtain ⟨Bh, Bt, Ep, hx, hl⟩ := fn_lift (N := N) (p := p) hN (fun as Qp Ep h => by rw [hlen as Qp Ep h]; exact hp as Qp Ep h) h (by rw [ln vs H Q E h]; exact hnm)
  exact ⟨_, hb cdv A outer s H E Bh Bt Ep hr hx, hl⟩
theorem JSs.nox {X : Cx} {st : List Stmt} {p : PSx} (h : JSs X.nox B st p) : JSs X B st p := PSs.nox h
end Pv

/-! errors of one field -/
namespace Wf
open PySem PySem.Spec PyProof.Rows L2
def sp_init1 (K : PySem.W.Frag) (C : Addr) (f1 : Str) : Sp := fun vs H Q _ => ∃ (a : Addr) (w : V), vs = [.ref a, w] ∧ H a = some (exo a C none) ∧
  ∀ dx, H dx = none → dx ≠ a → Q .non (upd (upd H dx (exd dx [(f1, w)])) a (exo a C (some dx)))
def t_init1 (K : PySem.W.Frag) (f1 txt : Str) : TS := tSeq (tDrop (tVeI K (tCons (tVar 0) (tCons (tC (.str txt)) tNil)))) (tOst K f1 (tVar 0) (tVar 1))
theorem pure_init1 {K : PySem.W.Frag} {C : Addr} {f1 txt : Str} (O : OexC K C) (n1 : PySem.W.findIn K (.ref C) f1 = some none) (vs : List V) (H : Hp) (Q : VK) (E : XK) (h : sp_init1 K C f1 vs H Q E) :
    t_init1 K f1 txt (EndsQ Q) (sN 2 vs) H := by
  obtain ⟨a, w, rfl, ha, k⟩ := h
  show t_init1 K f1 txt _ [some (.ref a), some w] H
  refine ⟨_, rfl, a, C, [.str txt], rfl, (by show 1 ≤ 1000; decide), O, ha, ?_⟩
  exact ⟨_, rfl, _, rfl, a, C, rfl, O, n1, .inl ⟨ha, fun dx hd ne => k dx hd ne⟩⟩
structure Err1 (P : Program) (w : World) (K : PySem.W.Frag) (mg : Str → Option Value) (base : Heap) (x f1 : Str) (C : Addr) : Prop where
  g : mg x = some (.ref C)
  o : OexC K C
  ini : ∃ fI fd, PySem.W.findIn K (.ref C) "__init__" = some (some (.ref fI)) ∧ PySem.W.typeIn K (.ref fI) = some (.type "function") ∧ FnOk P w K mg base CX0 1 fI fd ["self", f1] (sp_init1 K C f1) ∧ Binds K fd ["self", f1] []
def tRz1 (C : Addr) (f1 : Str) (W : WX) (ta : TA) : TS := fun _ σ H => ta σ H fun vs H1 => ∃ w, vs = [w] ∧ ∀ d, H1 d = none → W (.ref C) (some d) σ (upd H1 d (.xd [(f1, w)]))
theorem ps_rz1 {X : Cx} {x f1 : Str} {C : Addr} {W : WX} {e1 : Expr} {ta : TA} {p pos pos2 : Pos} {j : Nat} (T : Err1 X.prog X.w X.K X.mg X.base x f1 C) (hr : Room j X.A) (hc : X.calm = true) (tk : Takes X W) (hg : Gl X x) (ha : PA X [e1] ta) (hk : 2 ≤ j := by decide)
    (hdb : (x == ("__debug__" : Str)) = false := by decide) (he : starEach (e1 :: []) X.env = (false, eval e1 X.env) :: starEach [] X.env := by rfl) (hpl : (backTo pos (starEach [] X.env)).any (·.1) = false := by rfl) :
    PS X (.Raise (some (.Call (.Name x p) [e1] [] pos)) none pos2) (tRz1 C f1 W ta) := by
  obtain ⟨fI, fd, iC, tI, F, hb⟩ := T.ini
  have R := ps_raise (pos := pos2) hc tk (pmk_oex (p := p) (pos := pos) T.o iC tI F (hr.mono hk) hb .nil pass0 hg T.g (pa_up ha) hdb he hpl)
  refine ⟨fun pins s σ H D I h => R.run pins s σ H D I ⟨_, h, fun vs H1 q => ?_⟩⟩
  obtain ⟨w, rfl, q⟩ := q
  refine ⟨by show 1 ≤ 1000; decide, fun a ha1 => ⟨a, w, rfl, upd_same, fun dx hd ne => ⟨rfl, dx, [(f1, w)], upd_same, ?_, ?_, ?_⟩⟩⟩
  · rw [upd_ne ne, upd_same]
  · rw [upd_ne ne] at hd
    exact hd
  · have hd1 : H1 dx = none := by
      rw [upd_ne ne] at hd
      exact hd
    have ef : upd (del (upd (upd (upd H1 a (exo a C none)) dx (exd dx [(f1, w)])) a (exo a C (some dx))) a) dx (.xd [(f1, w)]) = upd H1 dx (.xd [(f1, w)]) := by
      funext b
      by_cases h1 : b = dx
      · rw [h1, upd_same, upd_same]
      · rw [upd_ne h1, upd_ne h1]
        by_cases h2 : b = a
        · rw [h2, del_same, ha1]
        · rw [del_ne h2, upd_ne h2, upd_ne h1, upd_ne h2]
    rw [ef]
    exact q dx hd1
end Wf
namespace Pv
open PySem PySem.Spec L2 Wf
variable {B : Bas}
/-! ### raise -/
def pRaise (C : Addr) (fs : List Str) (ps : PL) (Ep : EX) : PSx := fun _ δ => ps δ fun rs δ1 => ∃ ds δ2, fzAll δ1 rs = some (ds, δ2) ∧ noLAll ds = true ∧ Ep C ((fs.zip ds).reverse)
theorem raise_ok {K : PySem.W.Frag} {G H : Hp} {σ : St} {δ : List Sl} {vs : List V} {rs : List R} {w : Addr → Option Nat} {C : Addr} {Ep : EX} {E : XK} {d : Addr} {us : List (Str × V)} {fs : List (Str × PyData)} (hx : XOk K B Ep E) (rep : Rep K B G H σ δ vs rs w) (he : Ep C fs) (hd : H d = none) (hf : FlP K (upd H d (.xd us)) us fs) : E (.ref C) (some d) (upd H d (.xd us)) :=
  hx C fs us d _ he (fun a o ha => by
    have := (rep.bs.to a o ha).1
    rw [upd_ne (ne_of_none this hd)]
    exact this) (rep.bs.tt.trans (tabs_new hd)) (by
    cases e : B d with
    | none => rfl
    | some o => rw [(rep.bs.to d o e).1] at hd; cases hd) upd_same hf
theorem dq_upd {K : PySem.W.Frag} {G H : Hp} {d : Addr} {o : HO} {v : V} {x : PyData} (s : Same G H) (hd : H d = none) (h : Dq K G v x) : Dp K (upd H d o) v x :=
  dq_dp (fun a u ha => by rw [upd_ne (ne_of_none (s a u ha) hd)]; exact s a u ha) _ _ h
theorem noLAll_1 {d : PyData} (h : noLAll [d] = true) : noL d = true := by
  have : (noL d && true) = true := h
  simpa using this
theorem noLAll_2 {d e : PyData} (h : noLAll [d, e] = true) : noL d = true ∧ noL e = true := by
  have : (noL d && (noL e && true)) = true := h
  simpa using this
section
variable {X : Cx} {p pos pos2 : Pos}
theorem js_rz1 {x f1 : Str} {C : Addr} {E : XK} {Ep : EX} {e1 : Expr} {ps : PL} {j : Nat} (T : Err1 X.prog X.w X.K X.mg X.base x f1 C) (hr : Room j X.A) (hc : X.calm = true) (tk : Takes X fun cls d _ H => E cls d H) (hx : XOk X.K B Ep E) (hg : Gl X x) (ha : JA X B [e1] ps) (hk : 2 ≤ j := by decide)
    (hdb : (x == ("__debug__" : Str)) = false := by decide) (he : starEach (e1 :: []) X.env = (false, eval e1 X.env) :: starEach [] X.env := by rfl) (hpl : (backTo pos (starEach [] X.env)).any (·.1) = false := by rfl) :
    JS X B (.Raise (some (.Call (.Name x p) [e1] [] pos)) none pos2) (pRaise C [f1] ps Ep) := PS_wk (ps_rz1 T hr hc tk hg ha hk hdb he hpl) fun D σ H ⟨G, w, δ, E', rep, h, ek⟩ =>
  ⟨G, w, δ, _, rep, h, fun rs δ1 vs H1 G1 w1 q1 l1 s1 rep1 => by
    obtain ⟨ds, δ2, hz, hn, q1⟩ := q1
    obtain ⟨G2, w2, s2, r2⟩ := rep1.fzs hz
    have hd := r2.ims
    have hl : vs.length = 1 := rep1.tlen.trans l1
    match vs, ds, hd, hl, hn, q1 with
    | [v], [d], .cons h1 .nil, _, hn, q1 => exact ⟨v, rfl, fun dd hdd => raise_ok hx r2 q1 hdd (.cons (dq_upd r2.sub hdd h1) (noLAll_1 hn) .nil)⟩⟩
theorem js_rz2 {x f1 f2 : Str} {C : Addr} {E : XK} {Ep : EX} {e1 e2 : Expr} {ps : PL} {j : Nat} (T : Err2 X.prog X.w X.K X.mg X.base x f1 f2 C) (hr : Room j X.A) (hc : X.calm = true) (tk : Takes X fun cls d _ H => E cls d H) (hx : XOk X.K B Ep E) (hg : Gl X x) (ha : JA X B [e1, e2] ps) (hk : 2 ≤ j := by decide)
    (hdb : (x == ("__debug__" : Str)) = false := by decide) (he : starEach (e1 :: [e2]) X.env = (false, eval e1 X.env) :: starEach [e2] X.env := by rfl) (hpl : (backTo pos (starEach [e2] X.env)).any (·.1) = false := by rfl) :
    JS X B (.Raise (some (.Call (.Name x p) [e1, e2] [] pos)) none pos2) (pRaise C [f1, f2] ps Ep) := PS_wk (ps_rz2 T hr hc tk hg ha hk hdb he hpl) fun D σ H ⟨G, w, δ, E', rep, h, ek⟩ =>
  ⟨G, w, δ, _, rep, h, fun rs δ1 vs H1 G1 w1 q1 l1 s1 rep1 => by
    obtain ⟨ds, δ2, hz, hn, q1⟩ := q1
    obtain ⟨G2, w2, s2, r2⟩ := rep1.fzs hz
    have hd := r2.ims
    have hl : vs.length = 2 := rep1.tlen.trans l1
    match vs, ds, hd, hl, hn, q1 with
    | [v, u], [d, e], .cons h1 (.cons h2 .nil), _, hn, q1 => exact ⟨v, u, rfl, fun dd hdd => raise_ok hx r2 q1 hdd (.cons (dq_upd r2.sub hdd h2) (noLAll_2 hn).2 (.cons (dq_upd r2.sub hdd h1) (noLAll_2 hn).1 .nil))⟩⟩
end
/-! ### all tuples are public -/
open Classical in
noncomputable def pubT (G H : Hp) (x : Option (Addr × HO)) : Hp := fun a => match x with
  | some (d, o) => if a = d then some o else match G a with
    | some u => some u
    | none => if ∃ xs, RdX H a xs then H a else none
  | none => match G a with
    | some u => some u
    | none => if ∃ xs, RdX H a xs then H a else none
open Classical in
theorem pubT_some {G H : Hp} {x : Option (Addr × HO)} {a : Addr} {o : HO} (h : pubT G H x a = some o) : (∃ u, x = some (a, u) ∧ o = u) ∨ G a = some o ∨ (H a = some o ∧ ∃ xs, RdX H a xs) := by
  unfold pubT at h
  have go : (match G a with
    | some u => some u
    | none => if ∃ xs, RdX H a xs then H a else none) = some o → G a = some o ∨ (H a = some o ∧ ∃ xs, RdX H a xs) := fun h => by
    cases e : G a with
    | some u => rw [e] at h; exact .inl h
    | none =>
      rw [e] at h
      dsimp only at h
      split at h
      · rename_i z; exact .inr ⟨h, z⟩
      · cases h
  cases x with
  | none => exact .inr (go h)
  | some p =>
    obtain ⟨d, u⟩ := p
    dsimp only at h
    split at h
    · rename_i e; subst e; cases h; exact .inl ⟨_, rfl, rfl⟩
    · exact .inr (go h)
open Classical in
theorem pubT_g {G H : Hp} {x : Option (Addr × HO)} (hx : ∀ d u, x = some (d, u) → G d = none) : Same G (pubT G H x) := fun a o h => by
  unfold pubT
  cases x with
  | none => rw [h]
  | some p =>
    obtain ⟨d, u⟩ := p
    dsimp only
    rw [if_neg (fun e => by subst e; rw [hx a u rfl] at h; cases h), h]
open Classical in
theorem pubT_tup {K : PySem.W.Frag} {G H : Hp} {x : Option (Addr × HO)} (s : Same G H) (hx : ∀ d u, x = some (d, u) → NoT H d) {a : Addr} {xs : List V} (h : SqT K H a xs) : SqT K (pubT G H x) a xs := by
  rcases h with h | h
  · refine .inl ?_
    have e : pubT G H x a = H a := by
      have body : (match G a with
        | some u => some u
        | none => if ∃ xs, RdX H a xs then H a else none) = H a := by
        cases e : G a with
        | some u => exact (s a u e).symm
        | none => dsimp only; rw [if_pos ⟨some xs, h⟩]
      unfold pubT
      cases x with
      | none => exact body
      | some p =>
        obtain ⟨d, u⟩ := p
        dsimp only
        rw [if_neg (fun e => by subst e; exact hx a u rfl xs h)]
        exact body
    rcases h with h | ⟨o, h⟩
    · exact .inl (by rw [e]; exact h)
    · exact .inr ⟨o, by rw [e]; exact h⟩
  · exact .inr h
mutual
theorem dp_pub {K : PySem.W.Frag} {G H : Hp} {x : Option (Addr × HO)} (s : Same G H) (hx : ∀ d u, x = some (d, u) → NoT H d) : ∀ (d : PyData) (v : V), noL d = true → Dp K H v d → Dq K (pubT G H x) v d
  | .none, _, _, h => by cases h; exact .non
  | .bool b, _, _, h => by cases h; exact .bl b
  | .int i, _, _, h => by cases h; exact .int i
  | .str x, _, _, h => by cases h; exact .str x
  | .list _, _, n, _ => nomatch n
  | .dict _, _, _, h => by cases h
  | .tuple ds, _, n, h => by
    cases h with
    | tup hs ha => exact .tup (pubT_tup s hx hs) (dpAll_pub s hx ds _ n ha)
theorem dpAll_pub {K : PySem.W.Frag} {G H : Hp} {x : Option (Addr × HO)} (s : Same G H) (hx : ∀ d u, x = some (d, u) → NoT H d) : ∀ (ds : List PyData) (vs : List V), noLAll ds = true → DpAll K H vs ds → DqAll K (pubT G H x) vs ds
  | [], _, _, h => by cases h; exact .nil
  | d :: ds, _, n, h => by
    have n2 : (noL d && noLAll ds) = true := n
    rw [Bool.and_eq_true] at n2
    cases h with
    | cons h1 h2 => exact .cons (dp_pub s hx d _ n2.1 h1) (dpAll_pub s hx ds _ n2.2 h2)
end
/-- all that stood stands; new things beside, the tuples public now -/
theorem Rep.pub {K : PySem.W.Frag} {G H H2 : Hp} {σ : St} {δ : List Sl} {w : Addr → Option Nat} (r : Rep K B G H σ δ [] [] w) {x : Option (Addr × HO)} (s : ∀ a o, NT o → H a = some o → H2 a = some o) (tg : TbG B.T H H2) (hx : ∀ d u, x = some (d, u) → H d = none ∧ H2 d = some u ∧ NT u) :
    Stp B.T G H w δ (pubT G H2 x) H2 w δ ∧ Rep K B (pubT G H2 x) H2 σ δ [] [] w := by
  have gx : ∀ d u, x = some (d, u) → G d = none := fun d u e => by
    cases e2 : G d with
    | none => rfl
    | some o => have := r.sub d o e2; rw [(hx d u e).1] at this; cases this
  have sg := pubT_g (H := H2) gx
  have both : ∀ a o, H a = some o → H2 a = some o ∨ ∃ ps qs, o = .tbl ps ∧ H2 a = some (.tbl qs) := fun a o h => by
    by_cases hn : NT o
    · exact .inl (s a o hn h)
    · have : ∃ ps, o = .tbl ps := Classical.byContradiction fun z => hn fun ps e => z ⟨ps, e⟩
      obtain ⟨ps, rfl⟩ := this
      obtain ⟨qs, h2⟩ := tg.st a ps h
      exact .inr ⟨ps, qs, rfl, h2⟩
  have ngt : ∀ {a : Addr} {o : HO}, G a = some o → NT o := fun {a o} h ps e => r.bs.gt a ps (by rw [h, e])
  have st : Stp B.T G H w δ (pubT G H2 x) H2 w δ := by
    refine ⟨sg, fun a o _ h => both a o h, fun a i h => .inl (by rw [h]; exact Option.some_ne_none _), fun a o h => ?_, .refl _, tg, fun a ps h => ?_⟩
    rotate_left
    · rcases pubT_some h with ⟨u, e, z⟩ | h | ⟨h, xs, hr⟩
      · exact absurd z.symm ((hx a u e).2.2 ps)
      · exact h
      · exact absurd hr (NoX.tbl h xs)
    rcases pubT_some h with ⟨u, e, _⟩ | h | ⟨h, xs, hr⟩
    · exact .inr (.inl (hx a u e).1)
    · exact .inl h
    · cases e : H a with
      | none => exact .inr (.inl rfl)
      | some u =>
        refine .inr (.inr (.inr ⟨xs, ?_⟩))
        rcases both a u e with e2 | ⟨_, _, _, e2⟩
        · exact RdX.same e e2 hr
        · exact absurd hr (NoX.tbl e2 xs)
  refine ⟨st, fun a o h => ?_, fun a i h => ?_, r.len, fun i sl h => ((r.sl i sl h).monoN sg (fun a u hn _ hu => s a u hn hu) fun a u ma _ => ma), rfl, fun j v q hv => by simp at hv, st.bs r.bs⟩
  · rcases pubT_some h with ⟨u, e, rfl⟩ | h | ⟨h, _⟩
    · exact (hx a _ e).2.1
    · exact s a o (ngt h) (r.sub a o h)
    · exact h
  · obtain ⟨g0, h0, n0⟩ := r.out a i h
    cases e : H a with
    | none => exact absurd e h0
    | some u =>
      have n2 : H2 a ≠ none ∧ NoX H2 a := by
        rcases both a u e with e2 | ⟨_, _, _, e2⟩
        · exact ⟨by rw [e2]; exact Option.some_ne_none _, n0.same e e2⟩
        · exact ⟨by rw [e2]; exact Option.some_ne_none _, NoX.tbl e2⟩
      refine ⟨?_, n2⟩
      cases e3 : pubT G H2 x a with
      | none => rfl
      | some o =>
        rcases pubT_some e3 with ⟨u', e', _⟩ | h' | ⟨_, xs, hr⟩
        · have := (hx a u' e').1; rw [e] at this; cases this
        · rw [g0] at h'; cases h'
        · exact absurd hr (n2.2 xs)
theorem flp_fl {K : PySem.W.Frag} {G H : Hp} {x : Option (Addr × HO)} (s : Same G H) (hx : ∀ d u, x = some (d, u) → NoT H d) : ∀ {us : List (Str × V)} {fs : List (Str × PyData)}, FlP K H us fs → Fl K (pubT G H x) us fs
  | _, _, .nil => .nil
  | _, _, .cons h1 h2 h3 => .cons (dp_pub s hx _ _ h2 h1) (flp_fl s hx h3)
/-! ### try: name = an expression with one call that may raise -/
abbrev HX := Addr → List (Str × PyData) → List Sl → Prop
abbrev PXx := List Sl → QE → HX → Prop
def LEx (K : PySem.W.Frag) (B : Bas) (W : WX) (p : PXx) : TE := fun σ H Q => ∃ G w δ Qp Hd, Rep K B G H σ δ [] [] w ∧ p δ Qp Hd ∧ (∀ r δ' v H' G' w', Qp r δ' → Stp B.T G H w δ G' H' w' δ' → Rep K B G' H' σ δ' [v] [r] w' → Q v H') ∧
  ∀ C fs us d δ' H' G' w', Hd C fs δ' → Stp B.T G H w δ G' H' w' δ' → Rep K B G' H' σ δ' [] [] w' → G' d = some (.xd us) → Fl K G' us fs → W (.ref C) (some d) σ H'
def JX (X : Cx) (B : Bas) (W : WX) (e : Expr) (p : PXx) : Prop := PE X e (LEx X.K B W p)
/-- all arguments are data -/
def imsOf : List R → Option (List PyData)
  | [] => some []
  | .im d :: rs => (imsOf rs).map (d :: ·)
  | _ :: _ => none
theorem imsOf_eq : ∀ {rs : List R} {ds : List PyData}, imsOf rs = some ds → rs = ds.map .im
  | [], _, h => by cases h; rfl
  | .im d :: rs, ds, h => by
    obtain ⟨es, h1, rfl⟩ := Option.map_eq_some_iff.mp (show (imsOf rs).map (d :: ·) = some ds from h)
    rw [imsOf_eq h1]
    rfl
  | .ow o :: rs, _, h => by cases h
  | .at i :: rs, _, h => by cases h
def xCall (ps : PSp) (pa : PL) : PXx := fun δ Q Hd => pa δ fun rs δ1 => ∃ ds, imsOf rs = some ds ∧ ps (ds.map .im) (fun r _ => Q r δ1) fun C fs => Hd C fs δ1
theorem xcall_lift {K : PySem.W.Frag} {W : WX} {ps : PSp} {pa : PL} {n : Nat} {σ : St} {H : Hp} {Q : VK} (h : LEx K B W (xCall ps pa) σ H Q) : tCallS (LSp K B.T ps) (WE W) (LA K B n pa) σ H Q := by
  obtain ⟨G, w, δ, Qp, Hd, rep, q, k, x⟩ := h
  refine ⟨G, w, δ, _, rep, q, fun rs δ1 vs H1 G1 w1 q1 _ s1 rep1 => ?_⟩
  obtain ⟨ds, hi, q1⟩ := q1
  have er := imsOf_eq hi
  subst er
  have hd := rep1.ims
  have hl := dqAll_len hd
  have bs0 : BsOk (B0 B.T H1 (fun _ => none)) G1 H1 (fun _ => none) := ⟨fun a o h => B0_some h, .refl, rep1.bs.tt.ts rep1.bs.ta, rep1.bs.gt⟩
  refine ⟨G1, fun _ => none, ds.map .im, _, _, ⟨rep1.sub, fun a i h => (nomatch h), by rw [List.length_map, List.length_map]; exact hl, fun j s hs => ?_, rfl, fun j v r hv => by simp at hv, bs0⟩, fun s hs => ?_, q1, fun r os v H2 G2 w2 hq hr st rp => ?_, fun C fs us d H2 he hs htb hbd hdd hf => ?_⟩
  · rw [List.getElem?_map] at hs
    obtain ⟨d, h1, rfl⟩ := Option.map_eq_some_iff.mp hs
    obtain ⟨v, hv, hq⟩ := dqAll_get hd h1
    exact ⟨v, by rw [List.getElem?_map, hv]; rfl, hq⟩
  · obtain ⟨d, _, rfl⟩ := List.mem_map.mp hs
    exact .inr (.inl ⟨d, rfl⟩)
  · -- nothing of ours was handed on: frame
    have same : ∀ a o, NT o → H1 a = some o → H2 a = some o := fun a o hn ha => st.bN a o hn rfl ha
    have rd := rep1.drop
    have w2n : ∀ a i, evn (w1 a) = some i → w2 a = none := fun a i h => by
      cases e : w2 a with
      | none => rfl
      | some m =>
        rcases st.n a m e with z | z
        · exact absurd rfl z
        · exact absurd z (rd.out a i h).2.1
    have out2 : ∀ a i, evn (w1 a) = some i → G2 a = none ∧ H2 a ≠ none ∧ NoX H2 a := fun a i h => by
      obtain ⟨g0, h0, n0⟩ := rd.out a i h
      refine ⟨?_, st.nn a rfl h0 n0⟩
      cases e6 : G2 a with
      | none => rfl
      | some o =>
        rcases st.p a o e6 with z | z | z | ⟨xs, z⟩
        · rw [g0] at z; cases z
        · exact absurd z h0
        · exact absurd rfl z
        · exact absurd z (n0 xs)
    let wf : Addr → Option Nat := fun a => match w2 a with
      | some m => if m % 2 = 1 then some m else none
      | none => evn (w1 a)
    have st' : Stp B.T G1 H1 w1 δ1 G2 H2 wf δ1 := by
      refine ⟨st.g, fun a o _ ho => st.b a o rfl ho, fun a m hm => ?_, fun a o ho => ?_, .refl _, st.t, st.q⟩
      · cases e2 : w2 a with
        | some m2 =>
          rcases st.n a m2 e2 with z | z
          · exact absurd rfl z
          · exact .inr z
        | none =>
          have hm' : evn (w1 a) = some m := by
            have : wf a = evn (w1 a) := by show (match w2 a with | some m => if m % 2 = 1 then some m else none | none => evn (w1 a)) = _; rw [e2]
            rw [← this]; exact hm
          exact .inl (by rw [(evn_some.mp hm').1]; exact Option.some_ne_none _)
      · rcases st.p a o ho with z | z | z | z
        · exact .inl z
        · exact .inr (.inl z)
        · exact absurd rfl z
        · exact .inr (.inr (.inr z))
    refine k r δ1 v H2 G2 wf hq (s1.trans st') ⟨rp.sub, fun a m hm => ?_, rep1.len, fun i s hs => ?_, rfl, fun j u p hu hp => ?_, st'.bs rep1.bs⟩
    · cases e2 : w2 a with
      | some m2 => exact rp.out a m2 e2
      | none =>
        have hm' : evn (w1 a) = some m := by
          have : wf a = evn (w1 a) := by show (match w2 a with | some m => if m % 2 = 1 then some m else none | none => evn (w1 a)) = _; rw [e2]
          rw [← this]; exact hm
        exact out2 a m hm'
    · refine (rd.sl i s hs).monoN st.g (fun a u hn ma hu => same a u hn hu) fun a u ma hu => ?_
      have ma' : evn (w1 a) = some (2 * i) := ma
      show (match w2 a with | some m => if m % 2 = 1 then some m else none | none => evn (w1 a)) = _
      rw [w2n a _ ma']
      exact ma'
    · match j with
      | 0 =>
        simp only [List.getElem?_cons_zero, Option.some.injEq] at hu hp
        subst hu hp
        have t := rp.tm 0 v r rfl rfl
        cases r with
        | im d => exact t
        | ow o =>
          refine RO.mono (fun _ _ h => h) (fun _ _ _ h => h) (fun a u ma _ => ?_) t
          show (match w2 a with | some m => if m % 2 = 1 then some m else none | none => evn (w1 a)) = _
          rw [ma]
          rfl
        | «at» i => cases hr
      | j + 1 => simp at hu
  · -- an error: all stands
    have same : ∀ a o, NT o → H1 a = some o → H2 a = some o := fun a o hn ha => hs a o (nTb_of ha hn)
    have hd1 : H1 d = none := by
      have hb : nTb (H1 d) = none := hbd
      cases e : H1 d with
      | none => rfl
      | some o =>
        by_cases hn : NT o
        · rw [nTb_of e hn] at hb; cases hb
        · have : ∃ ps, o = .tbl ps := Classical.byContradiction fun z => hn fun ps e => z ⟨ps, e⟩
          obtain ⟨ps, rfl⟩ := this
          obtain ⟨qs, h2⟩ := htb.st d ps e
          rw [hdd] at h2
          cases h2
    have rd := rep1.drop
    have hx : ∀ d' u, some (d, HO.xd us) = some (d', u) → H1 d' = none ∧ H2 d' = some u ∧ NT u := fun d' u e => by cases e; exact ⟨hd1, hdd, nofun⟩
    obtain ⟨s2, r2⟩ := rd.pub (x := some (d, .xd us)) same htb hx
    have nt : ∀ d' u, some (d, HO.xd us) = some (d', u) → NoT H2 d' := fun d' u e => by
      cases e
      intro xs z
      rcases z with z | ⟨ob, z⟩ <;> rw [hdd] at z <;> cases z
    refine x C fs us d δ1 H2 _ _ he ((s1.trans .drop).trans s2) r2 ?_ (flp_fl (fun a o h => same a o (fun ps e => rep1.bs.gt a ps (by rw [h, e])) (rep1.sub a o h)) nt hf)
    unfold pubT
    dsimp only
    rw [if_pos rfl]
end Pv

namespace Pv
open PySem PySem.Spec L2 Wf
variable {B : Bas}
section
variable {X : Cx} {W : WX} {e e1 e2 a b c : Expr} {es : List Expr} {p pos : Pos}
theorem jx_call {k j : Nat} {x : Str} {pn : List Str} {psp : PSp} {ps : PL} (C : CalX X.prog X.w X.K X.mg X.base k x pn (LSp X.K B.T psp)) (hr : Room j X.A) (tk : Takes X W) (hg : Gl X x) (ha : JA X B (e :: es) ps) (hk : k ≤ j := by decide)
    (hdb : (x == ("__debug__" : Str)) = false := by decide) (he : starEach (e :: es) X.env = (false, eval e X.env) :: starEach es X.env := by rfl) (hpl : (backTo pos (starEach es X.env)).any (·.1) = false := by rfl) :
    JX X B W (.Call (.Name x p) (e :: es) [] pos) (xCall psp ps) := PE_wk (pe_calT C hr tk hg ha hk hdb he hpl) fun σ H Q h => xcall_lift h
/-- (a, f(..)) -/
def xTup2 (p1 : PX) (p2 : PXx) : PXx := fun δ Q Hd => p1 δ fun r1 δ1 => p2 δ1 (fun r2 δ2 => ∃ ds δ3, fzAll δ2 [r1, r2] = some (ds, δ3) ∧ Q (.im (.tuple ds)) δ3) Hd
theorem jx_tup2 {p1 : PX} {p2 : PXx} {x1} (h1 : JE X B e1 p1) (h2 : JX X B W e2 p2) (hs : starEach [e1, e2] X.env = (false, eval e1 X.env) :: starEach [e2] X.env := by rfl) (hs2 : starEach [e2] X.env = (false, eval e2 X.env) :: starEach [] X.env := by rfl) :
    JX X B W (.Tuple [e1, e2] x1 pos) (xTup2 p1 p2) := by
  refine PE_wk (pe_tup (pa_cons h1 (pa_cons h2 pa_nil hs2) hs)) fun σ H Q ⟨G, w, δ, Qp, Hd, rep, q, k, x⟩ => ?_
  refine ⟨G, w, δ, _, rep, q, fun r1 δ1 v1 H1 G1 w1 q1 s1 rep1 => ?_⟩
  refine ⟨G1, _, δ1, _, _, rep1.drop, q1, fun r2 δ2 v2 H2 G2 w2 q2 s2 rep2 => ?_, fun C fs us d δ' H' G' w' hd st rp hg hf => x C fs us d δ' H' G' w' hd ((s1.trans .drop).trans st) rp hg hf⟩
  obtain ⟨w3, s3, rep3⟩ := rep1.frame s2 rep2
  obtain ⟨ds, δ3, hz, q2⟩ := q2
  obtain ⟨G4, w4, s4, r4⟩ := rep3.fzs hz
  refine ⟨by show 2 ≤ sizeLine; decide, fun p hp => ?_⟩
  obtain ⟨s5, r5⟩ := r4.retNew hp (dq_newTup r4.sub hp r4.ims)
  exact k _ _ _ _ _ _ q2 (((s1.trans s3).trans s4).trans s5) r5
def xIf (c : PB) (a b : PXx) : PXx := fun δ Q Hd => c δ fun t δ1 => if t = true then a δ1 Q Hd else b δ1 Q Hd
theorem jx_if {pc : PB} {pa pb : PXx} (hc : JB X B c pc) (ha : JX X B W a pa) (hb : JX X B W b pb) : JX X B W (.IfExp c a b pos) (xIf pc pa pb) := by
  refine PE_wk (pe_ifExp hc ha hb) fun σ H Q ⟨G, w, δ, Qp, Hd, rep, h, k, x⟩ => ?_
  refine ⟨G, w, δ, _, rep, h, fun t δ1 H1 G1 w1 q1 s1 rep1 => ?_⟩
  cases t with
  | true => exact ⟨G1, w1, δ1, _, _, rep1, q1, fun r δ' v H' G' w' hq hs hr => k r δ' v H' G' w' hq (s1.trans hs) hr, fun C fs us d δ' H' G' w' hd st rp hg hf => x C fs us d δ' H' G' w' hd (s1.trans st) rp hg hf⟩
  | false => exact ⟨G1, w1, δ1, _, _, rep1, q1, fun r δ' v H' G' w' hq hs hr => k r δ' v H' G' w' hq (s1.trans hs) hr, fun C fs us d δ' H' G' w' hd st rp hg hf => x C fs us d δ' H' G' w' hd (s1.trans st) rp hg hf⟩
end
/-- try: slot j = p; except .. as slot i: su -/
def pTry (i j : Nat) (cat : Addr → Prop) (p : PXx) (su : Addr → Value → Option Addr → PSx) : PSx := fun E δ => p δ (fun r δ1 => ∃ q δ2, rz δ1 r = some (q, δ2) ∧ setS j q δ2 E.nx) fun C fs δ' => cat C ∧ match δ'[i]? with
  | none => False
  | some (.ow true _) => False
  | some _ => ∀ a dd, su a (.ref C) (some dd) ⟨fun δ2 => E.nx (δ2.set i .un), E.rt, fun δ2 => E.bk (δ2.set i .un), fun δ2 => E.ct (δ2.set i .un)⟩ (δ'.set i (.ex a dd C fs))
theorem js_try {X : Cx} {i j : Nat} {x n y : Str} {cat : Addr → Prop} {c : Value} {p : PXx} {su : Addr → Value → Option Addr → PSx} {e : Expr} {b₀ : Stmt} {suite : List Stmt} {np py pos pos' pos2 : Pos} (hs : X.stack = X.env :: X.outer) (hf : X.env.frame = some X.env.locals) (hN : X.N.Nodup) (hi : X.N[i]? = some n) (hln : X.env.kindOf n = some .local) (hc : Names X x c)
    (hj : X.N[j]? = some y) (hy : Loc X.env.scope y) (hcat : ∀ C, cat C → PySem.W.exmOne X.K (.ref C) c = some true)
    (he : ∀ (W : WX) (pn : List (Addr × Obj)) (xe : Value → Shared → Prop), Takes (X.tr pn xe) W → JX (X.tr pn xe) B W e p)
    (hsu : ∀ (a : Addr) (oe : Obj) (cls : Value) (d : Option Addr) (pn : List (Addr × Obj)), Zc cls d oe → (∃ vs, oe.data = .fields vs) → JSs (X.suite a ((a, oe) :: pn)) B (b₀ :: suite) (su a cls d))
    (hsw : swapsWith e (some (.Name y py)) pos2.line X.env = pure false := by rfl) (hfn : X.fn y = true ∨ X.env.scope.names.lookup y = some .local := by first | exact .inl rfl | exact .inr rfl | assumption) :
    JS X B (.Try [.Assign [.Name y py] e pos2] [.ExceptHandler (some (.Name x np)) (some n) (b₀ :: suite) pos'] [] [] pos) (pTry i j cat p su) := by
  refine PS_wk (ps_try_as (i := i) (tb := fun W => tAsg (LEx X.K B W p) (gName j)) (ts := fun a cls d => LS X.K B (su a cls d)) (Wout := fun _ _ _ _ => False) hs hf hN hi hln hc L2.takes0 (fun W pn xe tk _ => pss_one (ps_set (i := j) hN hj hy (he W pn xe tk) hsw hfn)) hsu) fun D σ H ⟨G, w, δ, E, rep, h, ek⟩ => ?_
  refine ⟨G, w, δ, _, _, rep, h, fun r δ1 v H1 G1 w1 q1 s1 rep1 => ?_, fun C fs us d δ' H' G' w' hd st rp hg hfl => ?_⟩
  · obtain ⟨q, δ2, hz, q1⟩ := q1
    obtain ⟨G2, w2, s2, r2⟩ := rep1.rz1 (j := 0) rfl hz
    obtain ⟨w3, q3, s3, r3, p3⟩ := r2.sto q1 (rz_noAt hz) (fun p hp => by cases hp)
    exact ek.nx _ _ H1 G2 w3 q3 ((s1.trans s2).trans s3) r3 ((Pin.refl (σ := σ)).trans (s1.trans s2).pn p3)
  · obtain ⟨hc1, hd⟩ := hd
    refine ⟨true, hcat C hc1, fun _ a ha => ?_, fun z => nomatch z⟩
    have hdi : ∃ s, δ'[i]? = some s ∧ (∀ o, s ≠ .ow true o) ∧ ∀ a dd, su a (.ref C) (some dd) ⟨fun δ2 => E.nx (δ2.set i .un), E.rt, fun δ2 => E.bk (δ2.set i .un), fun δ2 => E.ct (δ2.set i .un)⟩ (δ'.set i (.ex a dd C fs)) := by
      revert hd
      split
      · intro h; exact h.elim
      · intro h; exact h.elim
      · rename_i s hn e
        intro h
        exact ⟨s, e, fun o z => hn o z, h⟩
    obtain ⟨s, e1, e2, hsu'⟩ := hdi
    have hil : i < δ'.length := (List.getElem?_eq_some_iff.mp e1).1
    have hiσ : i < σ.length := by rw [rp.len]; exact hil
    have np' : ∀ o, δ'[i]? ≠ some (.ow true o) := fun o z => by rw [e1] at z; cases z; exact e2 o rfl
    have np0 : ∀ (k : Nat) o, δ[k]? = some (Sl.ow true o) → i ≠ k := fun k o hk z => by
      subst z
      obtain ⟨o', h'⟩ := st.pn i o hk
      exact np' o' h'
    have stx : Stp B.T G H w δ G' H' w' (δ'.set i (.ex a d C fs)) := st.reδ (st.pn.trans (pn_set np'))
    have rx : Rep X.K B G' H' (σ.set i (some (.ref a))) (δ'.set i (.ex a d C fs)) [] [] w' := ⟨rp.sub, rp.out, by rw [List.length_set, List.length_set]; exact rp.len, fun k s' hk => by
      by_cases ek' : i = k
      · subst ek'
        rw [List.getElem?_set_self hil] at hk
        cases hk
        exact ⟨List.getElem?_set_self hiσ, us, hg, hfl⟩
      · rw [List.getElem?_set_ne ek'] at hk
        rw [List.getElem?_set_ne ek']
        exact rp.sl k s' hk, rfl, fun j v q hv => by simp at hv, rp.bs⟩
    have pinx : Pin σ δ (σ.set i (some (.ref a))) := fun k o hk => List.getElem?_set_ne (np0 k o hk)
    have fin : ∀ {G2 H2 : Hp} {w2 : Addr → Option Nat} {δ2 : List Sl} {σ2 : St}, Stp B.T G' H' w' (δ'.set i (.ex a d C fs)) G2 H2 w2 δ2 → Rep X.K B G2 H2 σ2 δ2 [] [] w2 → Pin (σ.set i (some (.ref a))) (δ'.set i (.ex a d C fs)) σ2 → Stp B.T G H w δ G2 H2 w2 (δ2.set i .un) ∧ Rep X.K B G2 H2 (σ2.set i none) (δ2.set i .un) [] [] w2 ∧ Pin σ δ (σ2.set i none) := fun {G2 H2 w2 δ2 σ2} s2 r2 p2 => by
      have sa := stx.trans s2
      refine ⟨sa.reδ fun k o hk => ?_, ⟨r2.sub, r2.out, by rw [List.length_set, List.length_set]; exact r2.len, fun k s' hk => ?_, rfl, fun j v q hv => by simp at hv, r2.bs⟩, fun k o hk => ?_⟩
      · obtain ⟨o', h'⟩ := sa.pn k o hk
        exact ⟨o', by rw [List.getElem?_set_ne (np0 k o hk)]; exact h'⟩
      · by_cases ek' : i = k
        · subst ek'
          by_cases hb : i < δ2.length
          · rw [List.getElem?_set_self hb] at hk
            cases hk
            trivial
          · rw [List.getElem?_eq_none (by rw [List.length_set]; omega)] at hk; cases hk
        · rw [List.getElem?_set_ne ek'] at hk
          rw [List.getElem?_set_ne ek']
          exact r2.sl k s' hk
      · rw [List.getElem?_set_ne (np0 k o hk)]
        exact (pinx.trans stx.pn p2) k o hk
    refine ⟨G', w', _, _, rx, hsu' a d, ⟨fun δ2 σ2 H2 G2 w2 h2 s2 r2 p2 => ?_, fun r δ2 v σ2 H2 G2 w2 h2 ha2 s2 r2 p2 => ?_, fun δ2 σ2 H2 G2 w2 h2 s2 r2 p2 => ?_, fun δ2 σ2 H2 G2 w2 h2 s2 r2 p2 => ?_⟩⟩
    · obtain ⟨f1, f2, f3⟩ := fin s2 r2 p2
      exact ek.nx _ _ H2 G2 w2 h2 f1 f2 f3
    · exact ek.rt r δ2 v σ2 H2 G2 w2 h2 ha2 (stx.trans s2) r2 (pinx.trans stx.pn p2)
    · obtain ⟨f1, f2, f3⟩ := fin s2 r2 p2
      exact ek.bk _ _ H2 G2 w2 h2 f1 f2 f3
    · obtain ⟨f1, f2, f3⟩ := fin s2 r2 p2
      exact ek.ct _ _ H2 G2 w2 h2 f1 f2 f3
/-! ### what is asked of the caught error -/
section
variable {X : Cx} {a : Addr} {oe : Obj} {cls : Value} {d : Option Addr} {pn : List (Addr × Obj)} {e : Expr} {p pos pt : Pos}
/-- isinstance(n, one class) -/
def pIsX (sb : Addr → Option Bool) (a : Addr) (cls : Value) (d : Option Addr) (i : Nat) : PX := fun δ Q => ∃ dd C fs b, δ[i]? = some (.ex a dd C fs) ∧ cls = .ref C ∧ d = some dd ∧ sb C = some b ∧ Q (.im (.bool b)) δ
theorem rep_ex {K : PySem.W.Frag} {G H : Hp} {σ : St} {δ : List Sl} {vs : List V} {rs : List R} {w : Addr → Option Nat} (r : Rep K B G H σ δ vs rs w) {i : Nat} {a dd C : Addr} {fs : List (Str × PyData)} (h : δ[i]? = some (.ex a dd C fs)) : σ[i]? = some (some (.ref a)) ∧ ∃ us, H dd = some (.xd us) ∧ Fl K G us fs := by
  obtain ⟨h1, us, h2, h3⟩ := r.sl i _ h
  exact ⟨h1, us, r.sub _ _ h2, h3⟩
theorem je_isX {i : Nat} {n x2 : Str} {C2 : Addr} {sb : Addr → Option Bool} {pn2 : Pos} (hz : Zc cls d oe) (hf : ∃ vs, oe.data = .fields vs) (hsb : ∀ C b, sb C = some b → IsC X.K C ∧ PySem.W.kitOne X.K (.ref C) (.ref C2) = some b) (hcv : ClsV (.ref C2) (.ref C2)) (hg : Gl X "isinstance") (hm : X.mg "isinstance" = none)
    (hn : PE (X.suite a ((a, oe) :: pn)) (.Name n pn2) (tVar i)) (ht : PE (X.suite a ((a, oe) :: pn)) (.Name x2 pt) (tC (.ref C2))) (he : starEach [.Name n pn2, .Name x2 pt] X.env = (false, eval (.Name n pn2) X.env) :: starEach [.Name x2 pt] X.env := by rfl) (he2 : starEach [.Name x2 pt] X.env = (false, eval (.Name x2 pt) X.env) :: starEach [] X.env := by rfl) (hpl : (backTo pos (starEach [.Name x2 pt] X.env)).any (·.1) = false := by rfl) :
    JE (X.suite a ((a, oe) :: pn)) B (.Call (.Name "isinstance" p) [.Name n pn2, .Name x2 pt] [] pos) (pIsX sb a cls d i) := by
  refine PE_wk (pe_callB (call_isX hz hf) hg hm (by decide +kernel) (pa_cons hn (pa_cons ht pa_nil he2) he) (by decide) (by decide) he hpl) fun σ H Q ⟨G, w, δ, Qp, rep, q, k⟩ => ?_
  obtain ⟨dd, C, fs, b, h1, h2, h3, h4, q⟩ := q
  obtain ⟨e1, us, e2, e3⟩ := rep_ex rep h1
  obtain ⟨f1, f2⟩ := hsb C b h4
  exact ⟨_, e1, C, dd, us, .ref C2, b, h2, f1, h3, e2, .inl ⟨_, rfl, hcv, f2⟩, k _ δ _ H G _ q .drop (rep.ret (.bl b))⟩
/-- isinstance(n, several classes) -/
theorem je_isXT {i : Nat} {n : Str} {Cs : List Addr} {tp : Expr} {sb : Addr → Option Bool} {pn2 : Pos} (hz : Zc cls d oe) (hf : ∃ vs, oe.data = .fields vs) (hsb : ∀ C b, sb C = some b → IsC X.K C ∧ PySem.W.kitAny X.K (.ref C) (Cs.map .ref) = some b) (hcv : ∀ C ∈ Cs, ClsV (.ref C) (.ref C)) (hg : Gl X "isinstance") (hm : X.mg "isinstance" = none)
    (hn : PE (X.suite a ((a, oe) :: pn)) (.Name n pn2) (tVar i)) (ht : PE (X.suite a ((a, oe) :: pn)) tp (tTup (fun _ H Q => Q (Cs.map V.ref) H))) (hzz : Cs.length ≤ sizeLine) (he : starEach [.Name n pn2, tp] X.env = (false, eval (.Name n pn2) X.env) :: starEach [tp] X.env := by rfl) (he2 : starEach [tp] X.env = (false, eval tp X.env) :: starEach [] X.env := by rfl) (hpl : (backTo pos (starEach [tp] X.env)).any (·.1) = false := by rfl) :
    JE (X.suite a ((a, oe) :: pn)) B (.Call (.Name "isinstance" p) [.Name n pn2, tp] [] pos) (pIsX sb a cls d i) := by
  refine PE_wk (pe_callB (call_isX hz hf) hg hm (by decide +kernel) (pa_cons hn (pa_cons ht pa_nil he2) he) (by decide) (by decide) he hpl) fun σ H Q ⟨G, w, δ, Qp, rep, q, k⟩ => ?_
  obtain ⟨dd, C, fs, b, h1, h2, h3, h4, q⟩ := q
  obtain ⟨e1, us, e2, e3⟩ := rep_ex rep h1
  obtain ⟨f1, f2⟩ := hsb C b h4
  refine ⟨_, e1, by rw [List.length_map]; exact hzz, fun t ht' => ?_⟩
  obtain ⟨s2, r2⟩ := rep.lay (o := .tup (Cs.map V.ref)) ht'
  have pr : ∀ Cs : List Addr, (∀ C ∈ Cs, ClsV (.ref C) (.ref C)) → Paired ClsV (Cs.map V.ref) (Cs.map Value.ref) := fun Cs => by
    induction Cs with
    | nil => intro _; exact .nil
    | cons C Cs ih => intro h; exact .cons (h C List.mem_cons_self) (ih fun C' h' => h C' (List.mem_cons_of_mem _ h'))
  exact ⟨C, dd, us, .ref t, b, h2, f1, h3, by rw [upd_ne (ne_of_none e2 ht')]; exact e2, .inr ⟨t, Cs.map V.ref, Cs.map Value.ref, rfl, upd_same, pr Cs hcv, f2⟩, k _ δ _ _ _ _ q (s2.trans .drop) (r2.ret (.bl b))⟩
/-- n.f -/
def pXf (C : Addr) (a : Addr) (cls : Value) (d : Option Addr) (i : Nat) (f : Str) : PX := fun δ Q => ∃ dd fs v, δ[i]? = some (.ex a dd C fs) ∧ cls = .ref C ∧ d = some dd ∧ fs.lookup f = some v ∧ Q (.im v) δ
theorem fl_lookup {K : PySem.W.Frag} {G : Hp} {f : Str} : ∀ {us : List (Str × V)} {fs : List (Str × PyData)} {x : PyData}, Fl K G us fs → fs.lookup f = some x → ∃ v, us.lookup f = some v ∧ Dq K G v x
  | _, _, _, .nil, h => by cases h
  | _, _, x, .cons (x := y) h1 h2, h => by
    simp only [List.lookup_cons] at h ⊢
    split at h
    · cases h; exact ⟨_, rfl, h1⟩
    · exact fl_lookup h2 h
theorem je_xf {i : Nat} {n f : Str} {C : Addr} {pn2 : Pos} (T : XfC X.K C) (hno : PySem.W.findIn X.K (.ref C) f = some none) (hz : Zc cls d oe) (hf : ∃ vs, oe.data = .fields vs) (hn : PE (X.suite a ((a, oe) :: pn)) (.Name n pn2) (tVar i)) (hb : attributeBase (.Name n pn2) f X.env (eval (.Name n pn2) X.env) = eval (.Name n pn2) X.env := by rfl) :
    JE (X.suite a ((a, oe) :: pn)) B (.Attribute (.Name n pn2) f pos) (pXf C a cls d i f) := by
  refine PE_wk (pe_xf T hno hz hf hn hb) fun σ H Q ⟨G, w, δ, Qp, rep, q, k⟩ => ?_
  obtain ⟨dd, fs, v, h1, h2, h3, h4, q⟩ := q
  obtain ⟨e1, us, e2, e3⟩ := rep_ex rep h1
  obtain ⟨u, f1, f2⟩ := fl_lookup e3 h4
  exact ⟨_, e1, rfl, h2, dd, us, u, h3, e2, f1, k _ δ _ H G _ q .drop (rep.ret f2)⟩
end
end Pv

namespace Pv
open PySem PySem.Spec L2 Wf
variable {B : Bas}
theorem _root_.Wf.Cal.imp {P : Program} {w : World} {K : PySem.W.Frag} {mg : Str → Option Value} {base : Heap} {CX : CXT} {k : Nat} {x : Str} {ps : List Str} {sp sp' : Sp} (C : Wf.Cal P w K mg base CX k x ps sp) (h : ∀ vs H Q E, sp' vs H Q E → sp vs H Q E) : Wf.Cal P w K mg base CX k x ps sp' := by
  obtain ⟨f, fd, F, r⟩ := C.ex
  exact ⟨f, fd, F.imp h, r⟩
section
variable {K : PySem.W.Frag} {G H H' : Hp} {σ : St} {δ : List Sl} {vs : List V} {rs : List R} {w : Addr → Option Nat}
theorem noT_same {H H' : Hp} {a : Addr} {u : HO} (e : H a = some u) (e2 : H' a = some u) (n : NoX H a) : NoX H' a := n.same e e2
theorem noT_deal {H : Hp} {d l : Addr} (h : Deal H d l) : NoX H d ∧ NoX H l ∧ H d ≠ none ∧ H l ≠ none := by
  obtain ⟨s, m, n, ns, h1, h2, _⟩ := h.ex
  exact ⟨NoX.of h1 (fun _ z => by cases z) (fun _ _ z => by cases z) (fun _ z => by cases z), NoX.lst h2, by rw [h1]; exact Option.some_ne_none _, by rw [h2]; exact Option.some_ne_none _⟩
theorem tabs_deal {T : List NdefX.NTab} {H H' : Hp} {d l : Addr} (but : But [d, l] H H') (dl : Deal H d l) : TbG T H H' := by
  obtain ⟨s, m, n, ns, h1, h2, _⟩ := dl.ex
  have ne : ∀ x o, (∀ xs, o ≠ .lst xs) → (∀ xs, o ≠ .dK xs) → H x = some o → H' x = some o := fun x o n1 n2 hx => but x o (fun z => by
    simp only [List.mem_cons, List.not_mem_nil, or_false] at z
    rcases z with rfl | rfl
    · rw [h1] at hx; cases hx; exact n2 _ rfl
    · rw [h2] at hx; cases hx; exact n1 _ rfl) hx
  refine ⟨fun t p hp => ?_, fun a ps h => ⟨ps, ne _ _ nofun nofun h⟩⟩
  obtain ⟨ps, e1, e2, e3⟩ := t p hp
  refine ⟨ps, ne _ _ nofun nofun e1, e2, fun pos cv hc => ?_⟩
  obtain ⟨c, f1, f2⟩ := e3 pos cv hc
  exact ⟨c, f1, ne _ _ (fun xs z => by unfold LamX.CodeO at z; cases z) (fun xs z => by unfold LamX.CodeO at z; cases z) f2⟩
/-- the deal goes on -/
theorem Rep.deal (r : Rep K B G H σ δ vs rs w) {i : Nat} {b : Bool} {d l : Addr} (h : δ[i]? = some (.ow b .deal)) (hσ : σ[i]? = some (some (.ref d))) (wd : w d = some (2 * i)) (wl : w l = some (2 * i)) (dl0 : Deal H d l) (but : But [d, l] H H') (dl : Deal H' d l) :
    Stp B.T G H w δ G H' w δ ∧ Rep K B G H' σ δ vs rs w := by
  have nin : ∀ x, w x ≠ some (2 * i) → x ∉ [d, l] := fun x hx z => by
    simp only [List.mem_cons, List.not_mem_nil, or_false] at z
    rcases z with rfl | rfl
    · exact hx wd
    · exact hx wl
  obtain ⟨nd, nl, ed, el⟩ := noT_deal dl
  have st : Stp B.T G H w δ G H' w δ := .of ⟨fun _ _ h => h, fun x o hx ho => but x o (nin x (by rw [hx]; exact nofun)) ho, fun x n hx => .inl (by rw [hx]; exact Option.some_ne_none _), fun _ _ h => .inl h, .refl _⟩ (tabs_deal but dl0)
  refine ⟨st, fun x o hx => ?_, fun x n hx => ?_, r.len, fun k s hk => ?_, r.tlen, fun j v q hv hq => ?_, st.bs r.bs⟩
  · refine but x o (nin x fun z => ?_) (r.sub x o hx)
    rw [(r.out x _ z).1] at hx
    cases hx
  · obtain ⟨h1, h2, h3⟩ := r.out x n hx
    by_cases e : x ∈ [d, l]
    · simp only [List.mem_cons, List.not_mem_nil, or_false] at e
      rcases e with rfl | rfl
      · exact ⟨h1, ed, nd⟩
      · exact ⟨h1, el, nl⟩
    · cases e2 : H x with
      | none => exact absurd e2 h2
      | some u => exact ⟨h1, by rw [but x u e e2]; exact Option.some_ne_none _, noT_same e2 (but x u e e2) h3⟩
  · by_cases e : i = k
    · subst e
      rw [h] at hk
      cases hk
      exact ⟨_, hσ, d, l, rfl, wd, wl, dl⟩
    · refine (r.sl k s hk).mono (fun _ _ h => h) (fun x u mx hu => but x u (nin x ?_) hu) fun x u mx _ => mx
      rw [mx]
      exact fun z => e (by have := Option.some.inj z; omega)
  · refine (r.tm j v q hv hq).mono (fun _ _ h => h) (fun x u mx hu => but x u (nin x ?_) hu) fun x u mx _ => mx
    rw [mx]
    exact fun z => by have := Option.some.inj z; omega
/-- a new deal is told -/
theorem Rep.newDeal (r : Rep K B G H σ δ [] [] w) {d l : Addr} (s : Same H H') (hd : H d = none) (hl : H l = none) (dl : Deal H' d l) :
    ∃ w', Stp B.T G H w δ G H' w' δ ∧ Rep K B G H' σ δ [.ref d] [.ow .deal] w' := by
  obtain ⟨nd, nl, ed, el⟩ := noT_deal dl
  have g0 : ∀ x, H x = none → G x = none := fun x hx => by
    cases e : G x with
    | none => rfl
    | some o => have := r.sub x o e; rw [hx] at this; cases this
  have st : Stp B.T G H w δ G H' (fun a => if a = d ∨ a = l then some 1 else w a) δ := by
    refine .of ⟨fun _ _ h => h, fun x o hx ho => s x o ho, fun x n hx => ?_, fun _ _ h => .inl h, .refl _⟩ (.same s)
    split at hx
    · rename_i e
      rcases e with rfl | rfl
      · exact .inr hd
      · exact .inr hl
    · exact .inl (by rw [hx]; exact Option.some_ne_none _)
  have wn : ∀ x n, w x = some n → ¬ (x = d ∨ x = l) := fun x n hx z => by
    rcases z with rfl | rfl
    · exact (r.out _ n hx).2.1 hd
    · exact (r.out _ n hx).2.1 hl
  refine ⟨_, st, fun x o hx => s x o (r.sub x o hx), fun x n hx => ?_, r.len, fun k sl hk => ?_, rfl, fun j v q hv hq => ?_, st.bs r.bs⟩
  · split at hx
    · rename_i e
      rcases e with rfl | rfl
      · exact ⟨g0 _ hd, ed, nd⟩
      · exact ⟨g0 _ hl, el, nl⟩
    · obtain ⟨h1, h2, h3⟩ := r.out x n hx
      cases e2 : H x with
      | none => exact absurd e2 h2
      | some u => exact ⟨h1, by rw [s x u e2]; exact Option.some_ne_none _, noT_same e2 (s x u e2) h3⟩
  · refine (r.sl k sl hk).mono (fun _ _ h => h) (fun x u mx hu => s x u hu) fun x u mx _ => ?_
    show (if x = d ∨ x = l then some 1 else w x) = _
    rw [if_neg (wn x _ mx)]
    exact mx
  · cases j with
    | succ j => simp at hv
    | zero =>
      cases hv
      cases hq
      exact ⟨d, l, rfl, if_pos (.inl rfl), if_pos (.inr rfl), dl⟩
end
/-! ### what a draw does, by value -/
def psp_draw : PSp := fun as Q _ => ∃ n : Int, as = [.ow true .deal, .im (.int n)] ∧ 0 < n ∧ n < 2 ^ 200 ∧ ∀ k : Nat, (k : Int) < n → Q (.im (.int k)) as
theorem two_of {vs : List V} {as : List Sl} {a b : Sl} (hl : (vs.map some).length = as.length) (ha : as = [a, b]) : ∃ x y, vs = [x, y] := by
  subst ha
  match vs, hl with
  | [x, y], _ => exact ⟨x, y, rfl⟩
theorem conv_draw {K : PySem.W.Frag} {T : List NdefX.NTab} (vs : List V) (H : Hp) (Q : VK) (E : XK) (h : LSp K T psp_draw vs H Q E) : sp_draw vs H Q E := by
  obtain ⟨G, w, as, Qp, Ep, rep, _, ⟨n, rfl, h0, h1, hq⟩, k, _⟩ := h
  obtain ⟨x, y, rfl⟩ := two_of rep.len rfl
  obtain ⟨v, hv, d, l, rfl, wd, wl, dl⟩ := rep.sl 0 _ rfl
  obtain ⟨u, hu, dq⟩ := rep.sl 1 _ rfl
  cases hv
  cases hu
  cases dq
  refine ⟨d, l, n, rfl, h0, h1, dl, fun j H' j0 j1 but dl' => ?_⟩
  obtain ⟨st, r2⟩ := rep.deal (i := 0) rfl rfl wd wl dl but dl'
  obtain ⟨m, rfl⟩ := Int.eq_ofNat_of_zero_le j0
  exact k _ _ _ _ _ _ (hq m j1) rfl (st.trans .drop) (r2.ret (.int _))
def psp_deal : PSp := fun as Q _ => ∃ (b : Int) (ns : List Int), as = [.ow true (.scr ns), .im (.int b)] ∧ 0 ≤ b ∧ b ≤ 63 ∧ ns.length ≤ 1000 ∧ Q (.ow .deal) as
theorem conv_deal {K : PySem.W.Frag} {T : List NdefX.NTab} (vs : List V) (H : Hp) (Q : VK) (E : XK) (h : LSp K T psp_deal vs H Q E) : sp_deal K vs H Q E := by
  obtain ⟨G, w, as, Qp, Ep, rep, _, ⟨b, ns, rfl, h0, h1, hn, hq⟩, k, _⟩ := h
  obtain ⟨x, y, rfl⟩ := two_of rep.len rfl
  obtain ⟨v, hv, a, rfl, hs⟩ := rep.sl 0 _ rfl
  obtain ⟨u, hu, dq⟩ := rep.sl 1 _ rfl
  cases hv
  cases hu
  cases dq
  have sq : SqL K H a (ns.map V.int) := by
    rcases hs with ⟨o, _, ho⟩ | hs
    · exact .inl (.inr ⟨o, ho⟩)
    · exact hs H
  refine ⟨a, b, ns, rfl, sq, h0, h1, hn, fun d l H' s hd hl dl => ?_⟩
  obtain ⟨w', st, r2⟩ := rep.newDeal s hd hl dl
  exact k _ _ _ _ _ _ hq rfl st r2
/-- alike: of one data it is told True -/
def psp_alike : PSp := fun as Q _ => ∃ d, as = [.im d, .im d] ∧ noL d = true ∧ wt d ≤ 1000000 ∧ Q (.im (.bool true)) as
theorem conv_alike {K : PySem.W.Frag} {T : List NdefX.NTab} (vs : List V) (H : Hp) (Q : VK) (E : XK) (h : LSp K T psp_alike vs H Q E) : sp_alike K vs H Q E := by
  obtain ⟨G, w, as, Qp, Ep, rep, _, ⟨d, rfl, h0, h1, hq⟩, k, _⟩ := h
  obtain ⟨x, y, rfl⟩ := two_of rep.len rfl
  obtain ⟨v, hv, dv⟩ := rep.sl 0 _ rfl
  obtain ⟨u, hu, du⟩ := rep.sl 1 _ rfl
  cases hv
  cases hu
  refine ⟨_, _, d, rfl, dq_dp rep.sub _ _ dv, dq_dp rep.sub _ _ du, h0, h1, fun H' s => ?_⟩
  obtain ⟨st, r2⟩ := rep.pub (x := none) (fun a o _ h => s a o h) (.same s) nofun
  exact k _ _ _ _ _ _ hq rfl (st.trans .drop) (r2.ret (.bl true))
/-! ### loops over range(n) -/
theorem rgD_get {a b : Int} {i : Nat} {d : PyData} (h : (rgD a b)[i]? = some d) : d = .int (a + (i : Nat)) ∧ i < (b - a).toNat := by
  unfold rgD at h
  rw [List.getElem?_map] at h
  obtain ⟨j, h1, h2⟩ := Option.map_eq_some_iff.mp h
  obtain ⟨h3, h4⟩ := List.getElem?_eq_some_iff.mp h1
  rw [List.getElem_range] at h4
  rw [List.length_range] at h3
  subst h4
  exact ⟨h2.symm, h3⟩
theorem rgD_len (a b : Int) : (rgD a b).length = (b - a).toNat := by unfold rgD; rw [List.length_map, List.length_range]
/-- for i in range(a, n): I at each turn -/
theorem for_rg2 {step : PyData → PSx} {ts : List Nat} {E : PEn} {n : Int} (a m : Nat) {δ : List Sl} (hn : n = m) (ham : a ≤ m) (I : Nat → List Sl → Prop) (h0 : I a δ) (hs : ∀ (i : Nat) δ, a ≤ i → i < m → I i δ → step (.int (i : Int)) ⟨fun δ' => I (i + 1) (wipeT δ' ts), E.rt, fun δ' => E.nx (wipeT δ' ts), fun δ' => I (i + 1) (wipeT δ' ts)⟩ δ) (he : ∀ δ, I m δ → E.nx δ) : loopI step ts E (rgD a n) δ := by
  subst hn
  refine ⟨fun i δ => I (a + i) δ, h0, fun i d δ hd hi => ?_, fun δ h => he δ ?_⟩
  · obtain ⟨rfl, hl⟩ := rgD_get hd
    have := hs (a + i) δ (by omega) (by omega) hi
    rw [Int.natCast_add] at this
    exact this
  · rw [rgD_len] at h
    have e : a + ((m : Int) - a).toNat = m := by omega
    rw [e] at h
    exact h
theorem for_rg {step : PyData → PSx} {ts : List Nat} {E : PEn} {n : Int} (m : Nat) {δ : List Sl} (hn : n = m) (I : Nat → List Sl → Prop) (h0 : I 0 δ) (hs : ∀ (i : Nat) δ, i < m → I i δ → step (.int (i : Int)) ⟨fun δ' => I (i + 1) (wipeT δ' ts), E.rt, fun δ' => E.nx (wipeT δ' ts), fun δ' => I (i + 1) (wipeT δ' ts)⟩ δ) (he : ∀ δ, I m δ → E.nx δ) : loopI step ts E (rgD 0 n) δ :=
  for_rg2 0 m hn (Nat.zero_le m) I h0 (fun i δ _ => hs i δ) he
theorem atI_of {α : Type} {xs : List α} {i : Int} {j : Nat} {v : α} (hi : i = (j : Int)) (h : xs[j]? = some v) : atI xs i = some v := by rw [hi]; exact atI_nat h
end Pv

namespace Pv
open PySem PySem.Spec L2 Wf
variable {B : Bas}
/-! ### plain tuples: tuple(list) whose object is known; .index of them -/
section
variable {K : PySem.W.Frag} {G H : Hp} {σ : St} {δ : List Sl} {w : Addr → Option Nat}
theorem Rep.asPtl {v : V} {q : R} {ds : List PyData} (r : Rep K B G H σ δ [v] [q] w) (h : ∃ p o us, v = .ref p ∧ G p = some (.frz o (.tup us)) ∧ o.cls = .type "tuple" ∧ o.dict = none ∧ DqAll K G us ds) : Rep K B G H σ δ [v] [.ow (.ptl ds)] w :=
  ⟨r.sub, r.out, r.len, r.sl, rfl, fun j u p hu hp => by
    match j with
    | 0 =>
      simp only [List.getElem?_cons_zero, Option.some.injEq] at hu hp
      subst hu hp
      exact h
    | j + 1 => simp at hu, r.bs⟩
end
def qPtl : List R → PX := fun rs δ Q => match rs with
  | [r] => ∃ ds, dat δ r = some (.list ds) ∧ Q (.ow (.ptl ds)) δ
  | _ => False
theorem lc_ptl {K : PySem.W.Frag} : LC K qPtl (qTupF K) := by
  intro B G H σ δ vs rs w Qp Q rep q k
  match rs, q with
  | [r], q =>
    obtain ⟨ds, hd, q⟩ := q
    have hl := rep.tlen
    match vs, hl with
    | [v], _ =>
      obtain ⟨a, us, rfl, ha, hds⟩ := Vw.seqL rep.sub (rep.dat (j := 0) rfl rfl hd)
      refine ⟨a, us, rfl, SqL.of ha, fun l o hl h1 h2 => ?_⟩
      have gp : G l = none := by
        cases e : G l with
        | none => rfl
        | some u => rw [rep.sub l u e] at hl; cases hl
      have hd2 : DqAll K (upd G l (.frz o (.tup us))) us ds := dpAll_mono (same_new gp) _ _ hds
      obtain ⟨st, r2⟩ := rep.retNew (p := l) (o := .frz o (.tup us)) (d := .tuple ds) hl (.tup (.inl (.inr ⟨o, upd_same⟩)) hd2)
      exact k _ _ _ _ _ _ q st (r2.asPtl ⟨l, o, us, rfl, upd_same, h1, h2, hd2⟩)
def pTix (po : PX) (ps : PL) : PX := fun δ Q => po δ fun ro δ1 => ∃ (i : Nat) (b : Bool) (ns : List Int), ro = .at i ∧ δ1[i]? = some (.ow b (.ptl (ns.map PyData.int))) ∧ ps δ1 fun rs δ2 => ∃ k : Int, dats δ2 rs = some [.int k] ∧ k ∈ ns ∧ Q (.im (.int (ns.idxOf k : Nat))) δ2
theorem dqAll_ints2 {K : PySem.W.Frag} {G : Hp} : ∀ {ns : List Int} {us : List V}, DqAll K G us (ns.map PyData.int) → us = ns.map V.int
  | [], _, h => by cases h; rfl
  | n :: ns, _, h => by
    cases h with
    | cons h1 h2 =>
      cases h1
      rw [dqAll_ints2 h2]
      rfl
theorem je_tix {X : Cx} {o e : Expr} {po : PX} {ps : PL} {apos cpos : Pos} (ho : JE X B o po) (ha : JA X B [e] ps) (hbase : attributeBase o "index" X.env (eval o X.env) = eval o X.env := by rfl)
    (hfew : ((backTo cpos (starEach [e] X.env)).all (fun x => !x.1) && (backToKw cpos (keywordEach [] X.env)).all (fun x => x.1.isSome)
      && decide ([e].length + ([] : List Keyword).length + (if ([] : List Keyword).isEmpty then 0 else 1) < 30)) = true := by rfl)
    (hline : (apos.endLine == cpos.line) = true := by rfl) (hs : starEach [e] X.env = (false, eval e X.env) :: starEach [] X.env := by rfl) (hplain : (backTo cpos (starEach [] X.env)).any (·.1) = false := by rfl) :
    JE X B (.Call (.Attribute o "index" apos) [e] [] cpos) (pTix po ps) := by
  refine PE_wk (pe_tix ho ha hbase hfew hline hs hplain) fun σ H Q ⟨G, w, δ, Qp, rep, q, k⟩ => ?_
  refine ⟨G, w, δ, _, rep, q, fun ro δ1 x H1 G1 w1 q1 s1 rep1 => ?_⟩
  obtain ⟨i, b, ns, rfl, e0, q1⟩ := q1
  have hx : σ[i]? = some (some x) := rep1.tm 0 x (.at i) rfl rfl
  obtain ⟨v, hv, p, ob, us, rfl, hp, h1, h2, hds⟩ := rep1.sl i _ e0
  rw [hx] at hv
  cases hv
  cases dqAll_ints2 hds
  refine ⟨⟨ns, p, ob, rfl, rep1.sub _ _ hp, h1, h2⟩, G1, _, δ1, _, rep1.drop, q1, fun rs δ2 vs H2 G2 w2 q2 _ s2 rep2 => ?_⟩
  obtain ⟨n, e1, hn, q2⟩ := q2
  have ev := vws1 (rep2.vws e1)
  subst ev
  exact ⟨p, ns, n, rfl, rfl, .inl (.inr ⟨ob, rep2.sub _ _ (s2.g _ _ hp)⟩), hn, k _ _ _ _ _ _ q2 (((s1.trans .drop).trans s2).trans .drop) (rep2.ret (.int _))⟩
/-! ### list.index of numbers -/
def mIndex : List PyData → List PyData → (PyData → List PyData → Prop) → Prop := fun ds as k => ∃ (ns : List Int) (n : Int), ds = ns.map .int ∧ as = [.int n] ∧ n ∈ ns ∧ k (.int (ns.idxOf n : Nat)) ds
theorem idxOf_le : ∀ {ns : List Int} {m : Nat} {x : Int}, ns[m]? = some x → ns.idxOf x ≤ m
  | [], m, x, h => by simp at h
  | n :: ns, m, x, h => by
    rw [List.idxOf_cons]
    by_cases e : n = x
    · subst e; simp
    · match m, h with
      | 0, h => simp at h; exact absurd h e
      | m + 1, h =>
        have := idxOf_le (ns := ns) (m := m) (x := x) (by simpa using h)
        rw [beq_false_of_ne e]
        simp only [cond_false]
        omega
theorem mv_index {K : PySem.W.Frag} : MtV K mIndex (rIndex K) := by
  intro G H a us vs ds as Qp Q ha hu hv q k
  obtain ⟨ns, n, rfl, rfl, hn, q⟩ := q
  cases dqAll_ints2 hu
  obtain ⟨v, rfl, hd⟩ := vals1 hv
  cases hd
  have hlt : ns.idxOf n < ns.length := List.idxOf_lt_length_iff.mpr hn
  have hget : ns[ns.idxOf n]? = some n := by rw [List.getElem?_eq_getElem hlt, List.getElem_idxOf]
  have := k _ _ _ _ q (.int _) hu
  have es : upd H a (.lst (ns.map V.int)) = H := by
    funext b
    unfold upd
    split
    · rename_i z; rw [z, ha]
    · rfl
  rw [es] at this
  refine ⟨a, ns.map V.int, _, ns.idxOf n, .int n, rfl, rfl, SqL.of ha, rfl, ?_, by rw [List.getElem?_map, hget]; rfl, ?_, fun m z hm hz => ?_, this⟩
  · rw [List.all_map]; exact List.all_eq_true.mpr fun _ _ => rfl
  · simp [eqV]
  · rw [List.getElem?_map] at hz
    obtain ⟨x, hx, rfl⟩ := Option.map_eq_some_iff.mp hz
    obtain ⟨h1, h2⟩ := List.getElem?_eq_some_iff.mp hx
    have : x ≠ n := fun z => by
      subst z
      exact absurd (idxOf_le hx) (by omega)
    simp [eqV, this]
end Pv

namespace Pv
open PySem PySem.Spec L2 Wf
/-- whole numbers from 0 on, as data -/
abbrev nD (k : Nat) : PyData := .int (k : Int)
abbrev dN (ns : List Nat) : List PyData := ns.map nD
theorem dN_len (ns : List Nat) : (dN ns).length = ns.length := List.length_map _
theorem dN_get {ns : List Nat} {i k : Nat} (h : ns[i]? = some k) : (dN ns)[i]? = some (nD k) := by rw [dN, List.getElem?_map, h]; rfl
theorem rgD_dN (n : Nat) : rgD 0 (n : Int) = dN (List.range n) := by
  unfold rgD dN
  have : ((n : Int) - 0).toNat = n := by omega
  rw [this]
  refine List.map_congr_left fun i _ => ?_
  show PyData.int (0 + (i : Int)) = .int (i : Int)
  rw [Int.zero_add]
theorem dN_app (a b : List Nat) : dN (a ++ b) = dN a ++ dN b := List.map_append
theorem dN_set (a : List Nat) (i k : Nat) : (dN a).set i (nD k) = dN (a.set i k) := by
  unfold dN
  rw [List.map_set]
theorem shaped_dN (a : List Nat) : SeqAt.shaped (.list (dN a)) = true := by
  have h := lay_map nD 0 a fun k _ => ⟨rfl, Nat.le_refl 0⟩
  have h2 : (PyData.list (dN a)).depth ≤ 1 := Nat.succ_le_succ h.2
  unfold SeqAt.shaped
  rw [show (PyData.list (dN a)).canLay0 = true from h.1]
  simp
  omega
theorem szN {n m : Nat} (h : n ≤ m) (hm : m < sizeLine) : n < sizeLine := Nat.lt_of_le_of_lt h hm
theorem nd1 (i : Nat) : [i].Nodup := by simp
/-! ### _law_mixed -/
def pb_mixed_1 : PSx :=
    pExpr (pMt mAppend (pVar 4) (pCons (pMt mPopAt (pVar 3) (pCons (pCall psp_draw (pCons (pVar 0) (pCons (pFz (pC (q1 fLen) (pCons (pVar 3) (pNil)))) (pNil))) noX) (pNil))) (pNil)))
def p_mixed : PSx :=
    pSeq (pPar [3, 4] (pCons (pLstRg (pRg1 (pVar 1))) (pCons (pLst (pNil)) (pNil))))
    (pSeq (pFor [2] (iRg (pCons (pVar 1) (pNil))) (gN 2) (pb_mixed_1))
    (pRet (pVar 4)))
def psp_mixed : PSp := fun as Q _ => ∃ n : Nat, as = [.ow true .deal, .im (.int n)] ∧ n ≤ 1000 ∧ ∀ ns : List Nat, ns.Perm (List.range n) → Q (.ow (.lst (dN ns))) [.ow true .deal, .un]
theorem ixN_nat {n i : Nat} (h : i < n) : ixN n (i : Int) = some i := by
  unfold ixN
  rw [if_pos (by omega), if_pos (by omega)]
  rfl
theorem dN_erase (ns : List Nat) (i : Nat) : (dN ns).eraseIdx i = dN (ns.eraseIdx i) := by
  unfold dN
  induction ns generalizing i with
  | nil => rfl
  | cons n ns ih =>
    cases i with
    | zero => rfl
    | succ i => simp only [List.map_cons, List.eraseIdx_cons_succ, ih]
theorem perm_take {xs : List Nat} {j : Nat} (h : j < xs.length) : (xs[j] :: xs.eraseIdx j).Perm xs := by
  induction xs generalizing j with
  | nil => simp at h
  | cons x xs ih =>
    cases j with
    | zero => simp
    | succ j =>
      simp only [List.length_cons, Nat.add_lt_add_iff_right] at h
      simp only [List.getElem_cons_succ, List.eraseIdx_cons_succ]
      exact (List.Perm.swap _ _ _).trans ((ih h).cons x)
theorem hp_mixed (as : List Sl) (Qp : QE) (Ep : EX) (h : psp_mixed as Qp Ep) : p_mixed (endsP as Qp) (as ++ List.replicate 3 .un) := by
  obtain ⟨n, rfl, hn, q⟩ := h
  refine ⟨_, rfl, ⟨by omega, by omega, by have : (1000 : Nat) ≤ sizeLine := by decide
                                          omega⟩, _, _, rfl, by omega, by omega, ?_⟩
  refine for_rg n rfl (fun i δ => ∃ ls fs : List Nat, δ = [.ow true .deal, .im (.int n), .un, .ow false (.lst (dN ls)), .ow false (.lst (dN fs))] ∧ fs.length = i ∧ (fs ++ ls).Perm (List.range n)) ?_ ?_ ?_
  · exact ⟨List.range n, [], by rw [← rgD_dN]; rfl, rfl, .refl _⟩
  · rintro i δ hi ⟨ls, fs, rfl, rfl, hp⟩
    have hl := hp.length_eq
    rw [List.length_append, List.length_range] at hl
    refine ⟨_, _, _, rfl, rfl, _, _, _, rfl, rfl, _, _, rfl, _, rfl, nd1 0, _, rfl, by rw [dN_len]; omega, by rw [dN_len]; omega, fun k hk => ?_⟩
    rw [dN_len] at hk
    have hk : k < ls.length := by omega
    refine ⟨_, _, _, _, rfl, rfl, by omega, by omega, _, _, by rw [dN_len]; exact ixN_nat hk, dN_get (List.getElem?_eq_getElem hk), _, _, _, _, rfl, rfl, ?_, ls.eraseIdx k, fs ++ [ls[k]], ?_, ?_, ?_⟩
    · show (dN fs).length < sizeLine
      rw [dN_len]
      exact szN (m := 1000) (by omega) (by decide)
    · show [_, _, _, _, _] = _
      rw [dN_erase, dN_app]
      rfl
    · simp
    · rw [List.append_assoc]
      exact ((perm_take hk).append_left fs).trans hp
  · rintro δ ⟨ls, fs, rfl, hf, hp⟩
    have hl := hp.length_eq
    rw [List.length_append, List.length_range] at hl
    have : ls = [] := List.length_eq_zero_iff.mp (by omega)
    subst this
    rw [List.append_nil] at hp
    exact ⟨_, _, rfl, q fs hp⟩

/-- for k in a row of numbers -/
theorem for_dN {step : PyData → PSx} {ts : List Nat} {E : PEn} {δ : List Sl} (ws : List Nat) (I : Nat → List Sl → Prop) (h0 : I 0 δ) (hs : ∀ (i k : Nat) δ, ws[i]? = some k → I i δ → step (nD k) ⟨fun δ' => I (i + 1) (wipeT δ' ts), E.rt, fun δ' => E.nx (wipeT δ' ts), fun δ' => I (i + 1) (wipeT δ' ts)⟩ δ) (he : ∀ δ, I ws.length δ → E.nx δ) : loopI step ts E (dN ws) δ := by
  refine ⟨I, h0, fun i d δ hd hi => ?_, fun δ h => he δ (by rw [dN_len] at h; exact h)⟩
  rw [dN, List.getElem?_map] at hd
  obtain ⟨k, hk, rfl⟩ := Option.map_eq_some_iff.mp hd
  exact hs i k δ hk hi
/-! ### _law_order -/
def swp (xs : List Nat) (k : Nat) : List Nat := (xs.set k (xs.getD (k + 1) 0)).set (k + 1) (xs.getD k 0)
theorem swp_len (xs : List Nat) (k : Nat) : (swp xs k).length = xs.length := by simp [swp]
def goW (xs : List Nat) (ws : List Nat) : List Nat := ws.foldl swp xs
theorem goW_len (xs ws : List Nat) : (goW xs ws).length = xs.length := by
  induction ws generalizing xs with
  | nil => rfl
  | cons w ws ih => show (goW (swp xs w) ws).length = _; rw [ih, swp_len]
theorem goW_snoc (xs ws : List Nat) (k : Nat) : goW xs (ws ++ [k]) = swp (goW xs ws) k := by unfold goW; rw [List.foldl_append]; rfl
def pb_lorder_1 : PSx :=
    pAsg (pTup (pCons (pIx (pVar 2) (pAdd (pVar 3) (pK (.int 1)))) (pCons (pIx (pVar 2) (pVar 3)) (pNil)))) (gT 2 (gsC (gSx (pVar 2) (pVar 3)) (gsC (gSx (pVar 2) (pAdd (pVar 3) (pK (.int 1)))) (gsN))))
def p_lorder : PSx :=
    pSeq (pSet 2 (pLstRg (pRg1 (pVar 0))))
    (pSeq (pFor [3] (iSeq (pVar 1)) (gN 3) (pb_lorder_1))
    (pRet (pVar 2)))
def psp_lorder : PSp := fun as Q _ => ∃ (n : Nat) (ws : List Nat), as = [.im (.int n), .im (.tuple (dN ws))] ∧ n ≤ 1000 ∧ (∀ w ∈ ws, w + 1 < n) ∧ Q (.ow (.lst (dN (goW (List.range n) ws)))) [.un, .un]
theorem getD_of {xs : List Nat} {i : Nat} (h : i < xs.length) : xs[i]? = some (xs.getD i 0) := by
  rw [List.getD_eq_getElem?_getD, List.getElem?_eq_getElem h]
  rfl
theorem hp_lorder (as : List Sl) (Qp : QE) (Ep : EX) (h : psp_lorder as Qp Ep) : p_lorder (endsP as Qp) (as ++ List.replicate 2 .un) := by
  obtain ⟨n, ws, rfl, hn, hw, q⟩ := h
  refine ⟨_, rfl, ⟨by omega, by omega, by have : (1000 : Nat) ≤ sizeLine := by decide
                                          omega⟩, _, _, rfl, _, _, _, rfl, rfl, ?_⟩
  refine for_dN ws (fun i δ => δ = [.im (.int n), .im (.tuple (dN ws)), .ow false (.lst (dN (goW (List.range n) (ws.take i)))), .un]) (by rw [rgD_dN]; rfl) ?_ ?_
  · rintro i k δ hk rfl
    have h1 : k + 1 < (goW (List.range n) (ws.take i)).length := by
      rw [goW_len, List.length_range]
      exact hw k (List.mem_of_getElem? hk)
    have e1 : ((k : Int) + 1) = ((k + 1 : Nat) : Int) := rfl
    refine ⟨_, atI_of e1 (dN_get (getD_of h1)), _, atI_of rfl (dN_get (getD_of (i := k) (by omega))), _, _, rfl, rfl, 2, (k : Int), false, _, k, rfl, rfl, rfl, by rw [dN_len]; exact ixN_nat (by omega), 2, ((k + 1 : Nat) : Int), false, _, k + 1, rfl, rfl, rfl, by rw [List.length_set, dN_len]; exact ixN_nat h1, rfl, ?_⟩
    show [_, _, _, _] = _
    have hs : ws.take (i + 1) = ws.take i ++ [k] := by rw [List.take_add_one, hk]; rfl
    rw [hs, goW_snoc, dN_set, dN_set]
    rfl
  · rintro δ rfl
    rw [List.take_length]
    exact ⟨_, _, rfl, q⟩
end Pv

namespace Pv
open PySem PySem.Spec L2 Wf
/-! ### _law_pairs -/
theorem castN (os : List Nat) : dN os = (os.map fun k : Nat => (k : Int)).map PyData.int := by unfold dN; rw [List.map_map]; rfl
theorem idxN (os : List Nat) (k : Nat) : (os.map fun k : Nat => (k : Int)).idxOf (k : Int) = os.idxOf k := by
  induction os with
  | nil => rfl
  | cons o os ih =>
    rw [List.map_cons, List.idxOf_cons, List.idxOf_cons, ih]
    have : ((o : Int) == (k : Int)) = (o == k) := by
      by_cases e : o = k
      · subst e; simp
      · rw [beq_false_of_ne e, beq_false_of_ne (by omega)]
    rw [this]
theorem pTix_go {i j : Nat} {δ : List Sl} {os : List Nat} {k : Nat} {b : Bool} {Q : QE} (ho : δ[i]? = some (.ow b (.ptl (dN os)))) (hj : δ[j]? = some (.im (nD k))) (hk : k ∈ os) (q : Q (.im (nD (os.idxOf k))) δ) : pTix (pVar i) (pCons (pVar j) pNil) δ Q := by
  have e1 : ∀ Q, pVar i δ Q = Q (.at i) δ := fun Q => by unfold pVar; rw [ho]
  have e2 : ∀ Q, pVar j δ Q = Q (.im (nD k)) δ := fun Q => by unfold pVar; rw [hj]
  unfold pTix
  rw [e1]
  refine ⟨i, b, os.map fun k : Nat => (k : Int), rfl, by rw [ho, castN], ?_⟩
  unfold pCons
  rw [e2]
  exact ⟨(k : Int), rfl, List.mem_map_of_mem hk, by rw [idxN]; exact q⟩
theorem ptlN (os : List Nat) : some (Sl.ow true (.ptl (dN os))) = some (.ow true (.ptl ((os.map fun k : Nat => (k : Int)).map PyData.int))) := by rw [castN]
def pb_lpairs_1 : PSx :=
    pIf (pT (pLt (pTix (pVar 0) (pCons (pVar 3) (pNil))) (pTix (pVar 0) (pCons (pVar 2) (pNil))))) (pExpr (pMt mAppend (pVar 1) (pCons (pTup (pCons (pVar 2) (pCons (pVar 3) (pNil)))) (pNil)))) (pNext)
def pb_lpairs_2 : PSx :=
    pFor [3] (iRg (pCons (pAdd (pVar 2) (pK (.int 1))) (pCons (pC (q1 fLen) (pCons (pVar 0) (pNil))) (pNil)))) (gN 3) (pb_lpairs_1)
def p_lpairs : PSx :=
    pSeq (pSet 1 (pLst (pNil)))
    (pSeq (pFor [2, 3] (iRg (pCons (pC (q1 fLen) (pCons (pVar 0) (pNil))) (pNil))) (gN 2) (pb_lpairs_2))
    (pRet (pVar 1)))
abbrev nP (p : Nat × Nat) : PyData := .tuple [nD p.1, nD p.2]
/-- those j from i + 1 on, below m, that stand before i -/
def passI (os : List Nat) (i m : Nat) : List (Nat × Nat) := ((List.range m).filter fun j => decide (i < j) && decide (os.idxOf j < os.idxOf i)).map fun j => (i, j)
def passD (os : List Nat) (n : Nat) : List (Nat × Nat) := (List.range n).flatMap fun i => passI os i os.length
def passP (os : List Nat) : List (Nat × Nat) := passD os os.length
theorem passI_le (os : List Nat) (i m : Nat) : (passI os i m).length ≤ m := by
  unfold passI
  rw [List.length_map]
  exact Nat.le_trans (List.length_filter_le _ _) (by rw [List.length_range]; exact Nat.le_refl _)
theorem passI_small (os : List Nat) (i m : Nat) (h : m ≤ i + 1) : passI os i m = [] := by
  unfold passI
  rw [List.filter_eq_nil_iff.mpr]
  · rfl
  · intro j hj
    rw [List.mem_range] at hj
    simp
    omega
theorem passI_succ (os : List Nat) (i m : Nat) (h : i < m) : passI os i (m + 1) = if os.idxOf m < os.idxOf i then passI os i m ++ [(i, m)] else passI os i m := by
  unfold passI
  rw [List.range_succ, List.filter_append, List.map_append]
  by_cases c : os.idxOf m < os.idxOf i
  · simp [h, c]
  · simp [h, c]
theorem passD_succ (os : List Nat) (n : Nat) : passD os (n + 1) = passD os n ++ passI os n os.length := by
  unfold passD
  rw [List.range_succ, List.flatMap_append, List.flatMap_singleton]
theorem passD_le (os : List Nat) (n : Nat) : (passD os n).length ≤ n * os.length := by
  induction n with
  | zero => simp [passD]
  | succ n ih =>
    rw [passD_succ, List.length_append, Nat.add_mul, Nat.one_mul]
    exact Nat.add_le_add ih (passI_le _ _ _)
def psp_lpairs : PSp := fun as Q _ => ∃ os : List Nat, as = [.ow true (.ptl (dN os))] ∧ os.length ≤ 100 ∧ (∀ k, k < os.length → k ∈ os) ∧ Q (.ow (.lst ((passP os).map nP))) [.ow true (.ptl (dN os))]
theorem hp_lpairs (as : List Sl) (Qp : QE) (Ep : EX) (h : psp_lpairs as Qp Ep) : p_lpairs (endsP as Qp) (as ++ List.replicate 3 .un) := by
  obtain ⟨os, rfl, hn, hm, q⟩ := h
  have hl := dN_len os
  refine ⟨_, _, rfl, by rw [hl]; omega, by rw [hl]; omega, ?_⟩
  refine for_rg os.length (by rw [hl]) (fun i δ => δ = [.ow true (.ptl (dN os)), .ow false (.lst ((passD os i).map nP)), .un, .un]) rfl ?_ ?_
  · rintro i δ hi rfl
    refine ⟨⟨by omega, by omega, by rw [hl]; omega, by rw [hl]; omega⟩, ?_⟩
    show loopI _ _ _ (rgD ((i + 1 : Nat) : Int) _) _
    refine for_rg2 (i + 1) os.length (by rw [hl]) (by omega) (fun j δ => δ = [.ow true (.ptl (dN os)), .ow false (.lst ((passD os i ++ passI os i j).map nP)), .im (nD i), .un]) ?_ ?_ ?_
    · rw [passI_small os i (i + 1) (Nat.le_refl _), List.append_nil]
      rfl
    · rintro j δ hj1 hj2 rfl
      refine ⟨0, true, os.map fun k : Nat => (k : Int), rfl, ptlN os, (j : Int), rfl, List.mem_map_of_mem (hm j hj2), 0, true, os.map fun k : Nat => (k : Int), rfl, ptlN os, (i : Int), rfl, List.mem_map_of_mem (hm i hi), trivial, _, rfl, ?_⟩
      have e : (decide ((((os.map fun k : Nat => (k : Int)).idxOf (j : Int) : Nat) : Int) < (((os.map fun k : Nat => (k : Int)).idxOf (i : Int) : Nat) : Int))) = decide (os.idxOf j < os.idxOf i) := by rw [idxN, idxN]; simp
      show if (decide ((((os.map fun k : Nat => (k : Int)).idxOf (j : Int) : Nat) : Int) < (((os.map fun k : Nat => (k : Int)).idxOf (i : Int) : Nat) : Int))) = true then _ else _
      rw [e]
      split
      · rename_i c
        have c := of_decide_eq_true c
        refine ⟨_, _, _, rfl, rfl, _, _, _, _, rfl, rfl, ?_, ?_⟩
        · show List.length _ < _
          rw [List.length_map, List.length_append]
          refine szN (m := 100 * 100 + 100) ?_ (by decide)
          have h1 := passD_le os i
          have h2 := passI_le os i j
          have h3 := Nat.mul_le_mul (show i ≤ 100 by omega) hn
          omega
        · show [_, _, _, _] = _
          rw [passI_succ os i j (by omega), if_pos c, ← List.append_assoc, List.map_append (l₂ := [(i, j)])]
          rfl
      · rename_i c
        have c : ¬ os.idxOf j < os.idxOf i := fun z => c (decide_eq_true z)
        show [_, _, _, _] = _
        rw [passI_succ os i j (by omega), if_neg c]
        rfl
    · rintro δ rfl
      show [_, _, _, _] = _
      rw [passD_succ]
      rfl
  · rintro δ rfl
    exact ⟨_, _, rfl, q⟩
end Pv

namespace Pv
open PySem PySem.Spec L2 Wf
/-! ### _law_last -/
def pe_llast_1 : PX :=
    pVar 3
def pb_llast_2 : PSx :=
    pSet 1 (pAdd (pVar 1) (pComp (iRg (pCons (pC (q1 fLen) (pCons (pVar 0) (pNil))) (pNil))) (gN 3) (pT (pEq false (pIx (pVar 0) (pVar 3)) (pVar 2))) (pe_llast_1) [3]))
def p_llast : PSx :=
    pSeq (pSet 1 (pLst (pNil)))
    (pSeq (pFor [2] (iRg (pCons (pK (.int 5)) (pNil))) (gN 2) (pb_llast_2))
    (pRet (pVar 1)))
def lastK (ks : List Nat) (k n : Nat) : List Nat := (List.range n).filter fun w => decide (ks.getD w 0 = k)
def lastD (ks : List Nat) (m : Nat) : List Nat := (List.range m).flatMap fun k => lastK ks k ks.length
def lastOf (ks : List Nat) : List Nat := lastD ks 5
theorem lastK_le (ks : List Nat) (k n : Nat) : (lastK ks k n).length ≤ n := Nat.le_trans (List.length_filter_le _ _) (by rw [List.length_range]; exact Nat.le_refl _)
theorem lastK_succ (ks : List Nat) (k n : Nat) : lastK ks k (n + 1) = if ks.getD n 0 = k then lastK ks k n ++ [n] else lastK ks k n := by
  unfold lastK
  rw [List.range_succ, List.filter_append]
  by_cases c : ks.getD n 0 = k
  · rw [if_pos c, List.filter_cons, if_pos (decide_eq_true c)]; rfl
  · rw [if_neg c, List.filter_cons, if_neg (fun z => c (of_decide_eq_true z))]; exact List.append_nil _
theorem lastD_succ (ks : List Nat) (m : Nat) : lastD ks (m + 1) = lastD ks m ++ lastK ks m ks.length := by
  unfold lastD
  rw [List.range_succ, List.flatMap_append, List.flatMap_singleton]
theorem lastD_le (ks : List Nat) (m : Nat) : (lastD ks m).length ≤ m * ks.length := by
  induction m with
  | zero => simp [lastD]
  | succ m ih => rw [lastD_succ, List.length_append, Nat.add_mul, Nat.one_mul]; exact Nat.add_le_add ih (lastK_le _ _ _)
def psp_llast : PSp := fun as Q _ => ∃ ks : List Nat, as = [.im (.tuple (dN ks))] ∧ ks.length ≤ 100 ∧ Q (.ow (.lst (dN (lastOf ks)))) [.un]
theorem noPin1 {δ : List Sl} {v : Nat} (h : ∀ o, δ[v]? ≠ some (.ow true o)) : noPin δ [v] := fun u hu o => by
  rw [List.mem_singleton] at hu
  subst hu
  exact h o
theorem hp_llast (as : List Sl) (Qp : QE) (Ep : EX) (h : psp_llast as Qp Ep) : p_llast (endsP as Qp) (as ++ List.replicate 3 .un) := by
  obtain ⟨ks, rfl, hn, q⟩ := h
  have hl := dN_len ks
  refine ⟨_, _, rfl, by omega, by omega, ?_⟩
  refine for_rg 5 rfl (fun i δ => δ = [.im (.tuple (dN ks)), .ow false (.lst (dN (lastD ks i))), .un, .un]) rfl ?_ ?_
  · rintro k δ hk rfl
    refine ⟨by rw [hl]; omega, by rw [hl]; omega, noPin1 fun o => nofun, fun i acc δ => acc = dN (lastK ks k i) ∧ δ = [.im (.tuple (dN ks)), .ow false (.lst (dN (lastD ks k))), .im (nD k), .un], ⟨rfl, rfl⟩, ?_, ?_⟩
    · rintro i d acc δ hd ⟨rfl, rfl⟩
      obtain ⟨rfl, hi⟩ := rgD_get hd
      rw [Int.zero_add]
      rw [hl] at hi
      have hi : i < ks.length := by omega
      refine ⟨_, atI_of rfl (dN_get (getD_of hi)), _, rfl, ?_⟩
      show if decide ((ks.getD i 0 : Int) = (k : Int)) = true then _ else _
      have e : decide ((ks.getD i 0 : Int) = (k : Int)) = decide (ks.getD i 0 = k) := by simp only [Int.natCast_inj]
      rw [e]
      split
      · rename_i c
        have c := of_decide_eq_true c
        refine ⟨_, _, rfl, ?_, ?_, rfl⟩
        · rw [dN_len]
          exact szN (m := 100) (Nat.le_trans (lastK_le _ _ _) (by omega)) (by decide)
        · rw [lastK_succ, if_pos c, dN_app]; rfl
      · rename_i c
        have c : ¬ ks.getD i 0 = k := fun z => c (decide_eq_true z)
        exact ⟨by rw [lastK_succ, if_neg c], rfl⟩
    · rintro acc δ ⟨rfl, rfl⟩
      have en : (rgD 0 (((dN ks).length : Nat) : Int)).length = ks.length := by rw [rgD_len, hl]; omega
      rw [en]
      refine ⟨?_, _, _, rfl, ?_⟩
      · rw [dN_len, dN_len]
        have h1 := lastD_le ks k
        have h2 := lastK_le ks k ks.length
        have h3 := Nat.mul_le_mul (show k ≤ 5 by omega) hn
        exact Nat.le_of_lt (szN (m := 5 * 100 + 100) (by omega) (by decide))
      · show [_, _, _, _] = _
        rw [lastD_succ, dN_app]
        rfl
  · rintro δ rfl
    exact ⟨_, _, rfl, q⟩

/-- range(n - 1) and such: none where the number is below 0 -/
theorem loop_rgS {step : PyData → PSx} {ts : List Nat} {E : PEn} {n : Int} (m : Nat) {δ : List Sl} (hn : n.toNat = m) (I : Nat → List Sl → Prop) (h0 : I 0 δ) (hs : ∀ (i : Nat) δ, i < m → I i δ → step (.int (i : Int)) ⟨fun δ' => I (i + 1) (wipeT δ' ts), E.rt, fun δ' => E.nx (wipeT δ' ts), fun δ' => I (i + 1) (wipeT δ' ts)⟩ δ) (he : ∀ δ, I m δ → E.nx δ) : loopI step ts E (rgD 0 n) δ := by
  subst hn
  refine ⟨I, h0, fun i d δ hd hi => ?_, fun δ h => he δ ?_⟩
  · obtain ⟨rfl, hl⟩ := rgD_get hd
    rw [Int.zero_add]
    exact hs i δ (by omega) hi
  · rw [rgD_len] at h
    have e : (n - 0).toNat = n.toNat := by omega
    rw [e] at h
    exact h
/-! ### _law_word -/
def pb_lword_1 : PSx :=
    pIf (pOr (pT (pGt (pIx (pVar 5) (pVar 8)) (pIx (pVar 5) (pAdd (pVar 8) (pK (.int 1)))))) (pAnd (pT (pVar 3)) (pT (pEq true (pIx (pVar 5) (pVar 8)) (pIx (pVar 5) (pAdd (pVar 8) (pK (.int 1)))))))) (pExpr (pMt mAppend (pVar 7) (pCons (pVar 8) (pNil)))) (pNext)
def pb_lword_2 : PSx :=
    pSeq (pSet 7 (pLst (pNil)))
    (pSeq (pFor [8] (iRg (pCons (pSub (pC (q1 fLen) (pCons (pVar 5) (pNil))) (pK (.int 1))) (pNil))) (gN 8) (pb_lword_1))
    (pIf (pT (pEq true (pVar 7) (pLst (pNil)))) (pSeq (pSet 8 (pIx (pVar 7) (pCall psp_draw (pCons (pVar 0) (pCons (pFz (pC (q1 fLen) (pCons (pVar 7) (pNil)))) (pNil))) noX)))
    (pSeq (pAsg (pTup (pCons (pIx (pVar 5) (pAdd (pVar 8) (pK (.int 1)))) (pCons (pIx (pVar 5) (pVar 8)) (pNil)))) (gT 2 (gsC (gSx (pVar 5) (pVar 8)) (gsC (gSx (pVar 5) (pAdd (pVar 8) (pK (.int 1)))) (gsN)))))
    (pExpr (pMt mAppend (pVar 6) (pCons (pVar 8) (pNil)))))) (pNext)))
def p_lword : PSx :=
    pSeq (pPar [5, 6] (pCons (pC (q1L fListOf) (pCons (pVar 1) (pNil))) (pCons (pLst (pNil)) (pNil))))
    (pSeq (pFor [4, 7, 8] (iRg (pCons (pVar 2) (pNil))) (gN 4) (pb_lword_2))
    (pRet (pC (q1 fTupleOf) (pCons (pVar 6) (pNil)))))
/-- the letter k may be done: the two are unlike, the one behind of the greater kind, or any (free) -/
def letOk (f : Bool) (st : List Nat) (k : Nat) : Prop := k + 1 < st.length ∧ (st.getD (k + 1) 0 < st.getD k 0 ∨ f = true ∧ st.getD k 0 ≠ st.getD (k + 1) 0)
def wordOk (f : Bool) : List Nat → List Nat → Prop
  | _, [] => True
  | st, k :: ws => letOk f st k ∧ wordOk f (swp st k) ws
theorem wordOk_snoc {f : Bool} : ∀ {ws st : List Nat} {k : Nat}, wordOk f st ws → letOk f (goW st ws) k → wordOk f st (ws ++ [k])
  | [], st, k, _, h => ⟨h, trivial⟩
  | w :: ws, st, k, h1, h => ⟨h1.1, wordOk_snoc h1.2 h⟩
theorem wordOk_lt {f : Bool} : ∀ {ws st : List Nat}, wordOk f st ws → ∀ w ∈ ws, w + 1 < st.length
  | [], _, _, w, hw => by cases hw
  | k :: ws, st, h, w, hw => by
    cases hw with
    | head => exact h.1.1
    | tail _ hw => have := wordOk_lt h.2 w hw; rw [swp_len] at this; exact this
def psp_lword : PSp := fun as Q _ => ∃ (ks : List Nat) (m : Nat) (f : Bool) (d : PyData), as = [.ow true .deal, .im d, .im (.int m), .im (.bool f)] ∧ seqD d = some (dN ks) ∧ ks.length ≤ 1000 ∧ m ≤ 1000 ∧ ∀ ws : List Nat, wordOk f ks ws → ws.length ≤ m → Q (.im (.tuple (dN ws))) [.ow true .deal, .un, .un, .un]
theorem eqd_nil (ps : List Nat) : (!eqd (.list (dN ps)) (.list [])) = decide (0 < ps.length) := by
  cases ps with
  | nil => rfl
  | cons p ps => simp [eqd, PyData.eqv, PyData.eqvAll]
def pr_lword : PSx :=
    pSeq (pFor [4, 7, 8] (iRg (pCons (pVar 2) (pNil))) (gN 4) (pb_lword_2))
    (pRet (pC (q1 fTupleOf) (pCons (pVar 6) (pNil))))
theorem hp_rlword {ks : List Nat} {m : Nat} {f : Bool} {d : PyData} {Qp : QE} (hn : ks.length ≤ 1000) (hm : m ≤ 1000) (q : ∀ ws : List Nat, wordOk f ks ws → ws.length ≤ m → Qp (.im (.tuple (dN ws))) [.ow true .deal, .un, .un, .un]) :
    pr_lword (endsP [.ow true .deal, .im d, .im (.int m), .im (.bool f)] Qp) [.ow true .deal, .im d, .im (.int m), .im (.bool f), .un, .ow false (.lst (dN ks)), .ow false (.lst []), .un, .un] := by
  refine ⟨by omega, by omega, ?_⟩
  refine for_rg m rfl (fun i δ => ∃ ws, wordOk f ks ws ∧ ws.length ≤ i ∧ δ = [.ow true .deal, .im d, .im (.int m), .im (.bool f), .un, .ow false (.lst (dN (goW ks ws))), .ow false (.lst (dN ws)), .un, .un]) ⟨[], trivial, Nat.le_refl _, rfl⟩ ?_ ?_
  · rintro i δ hi ⟨ws, ok, hw, rfl⟩
    have hg := goW_len ks ws
    refine ⟨_, _, rfl, trivial, by rw [dN_len, hg]; omega, by rw [dN_len, hg]; omega, ?_⟩
    refine loop_rgS (ks.length - 1) (by rw [dN_len, hg]; omega) (fun j δ => ∃ ps : List Nat, (∀ p ∈ ps, letOk f (goW ks ws) p) ∧ ps.length ≤ j ∧ δ = [.ow true .deal, .im d, .im (.int m), .im (.bool f), .im (nD i), .ow false (.lst (dN (goW ks ws))), .ow false (.lst (dN ws)), .ow false (.lst (dN ps)), .un]) ⟨[], nofun, Nat.le_refl _, rfl⟩ ?_ ?_
    · rintro j δ hj ⟨ps, hp, hpl, rfl⟩
      have h1 : j + 1 < (goW ks ws).length := by rw [hg]; omega
      have g1 := dN_get (getD_of h1)
      have g0 := dN_get (getD_of (xs := goW ks ws) (i := j) (by omega))
      have e1 : ((j : Int) + 1) = ((j + 1 : Nat) : Int) := rfl
      have put : ∀ E : PEn, letOk f (goW ks ws) j → (∀ ps' : List Nat, (∀ p ∈ ps', letOk f (goW ks ws) p) → ps'.length ≤ j + 1 → E.nx [.ow true .deal, .im d, .im (.int m), .im (.bool f), .im (nD i), .ow false (.lst (dN (goW ks ws))), .ow false (.lst (dN ws)), .ow false (.lst (dN ps')), .im (nD j)]) →
          pExpr (pMt mAppend (pVar 7) (pCons (pVar 8) (pNil))) E [.ow true .deal, .im d, .im (.int m), .im (.bool f), .im (nD i), .ow false (.lst (dN (goW ks ws))), .ow false (.lst (dN ws)), .ow false (.lst (dN ps)), .im (nD j)] := fun E hl k => by
        refine ⟨_, _, _, rfl, rfl, _, _, _, _, rfl, rfl, ?_, ?_⟩
        · show (dN ps).length < _
          rw [dN_len]
          exact szN (m := 1000) (by omega) (by decide)
        · have := k (ps ++ [j]) (fun p hp' => by
            rcases List.mem_append.mp hp' with z | z
            · exact hp p z
            · rw [List.mem_singleton] at z; subst z; exact hl) (by simp; omega)
          rw [dN_app] at this
          exact this
      refine ⟨_, atI_of rfl g0, _, atI_of e1 g1, trivial, _, rfl, ?_⟩
      show if decide (((goW ks ws).getD (j + 1) 0 : Int) < ((goW ks ws).getD j 0 : Int)) = true then _ else _
      split
      · rename_i c
        have c := of_decide_eq_true c
        exact put _ ⟨h1, .inl (by omega)⟩ fun ps' h2 h3 => ⟨ps', h2, h3, rfl⟩
      · rename_i c
        have c : ¬ ((goW ks ws).getD (j + 1) 0 : Int) < ((goW ks ws).getD j 0 : Int) := fun z => c (decide_eq_true z)
        refine ⟨f, rfl, ?_⟩
        show if f = true then _ else _
        split
        · rename_i hf
          refine ⟨_, atI_of rfl g0, _, atI_of e1 g1, _, rfl, ?_⟩
          show if (!decide (((goW ks ws).getD j 0 : Int) = ((goW ks ws).getD (j + 1) 0 : Int))) = true then _ else _
          split
          · rename_i c2
            refine put _ ⟨h1, .inr ⟨hf, fun z => ?_⟩⟩ fun ps' h2 h3 => ⟨ps', h2, h3, rfl⟩
            rw [z] at c2
            simp at c2
          · exact ⟨ps, hp, by omega, rfl⟩
        · exact ⟨ps, hp, by omega, rfl⟩
    · rintro δ ⟨ps, hp, hpl, rfl⟩
      refine ⟨shaped_dN ps, rfl, _, rfl, ?_⟩
      show if (!eqd (.list (dN ps)) (.list [])) = true then _ else _
      rw [eqd_nil]
      split
      · rename_i c
        have c : 0 < ps.length := of_decide_eq_true c
        refine ⟨_, _, rfl, _, rfl, nd1 0, _, rfl, by rw [dN_len]; omega, by rw [dN_len]; omega, fun k hk => ?_⟩
        rw [dN_len] at hk
        have hk : k < ps.length := by omega
        refine ⟨_, atI_of rfl (dN_get (List.getElem?_eq_getElem hk)), _, _, rfl, ?_⟩
        have lk := hp _ (List.getElem_mem hk)
        have h1 := lk.1
        have g1 := dN_get (getD_of h1)
        have g0 := dN_get (getD_of (xs := goW ks ws) (i := ps[k]) (by omega))
        have e1 : ((ps[k] : Int) + 1) = ((ps[k] + 1 : Nat) : Int) := rfl
        refine ⟨_, atI_of e1 g1, _, atI_of rfl g0, _, _, rfl, rfl, 5, (ps[k] : Int), false, _, ps[k], rfl, rfl, rfl, by rw [dN_len]; exact ixN_nat (by omega), 5, ((ps[k] + 1 : Nat) : Int), false, _, ps[k] + 1, rfl, rfl, rfl, by rw [List.length_set, dN_len]; exact ixN_nat h1, rfl, ?_⟩
        refine ⟨_, _, _, rfl, rfl, _, _, _, _, rfl, rfl, ?_, ws ++ [ps[k]], wordOk_snoc ok lk, by simp; omega, ?_⟩
        · show (dN ws).length < _
          rw [dN_len]
          exact szN (m := 1000) (by omega) (by decide)
        · show [_, _, _, _, _, _, _, _, _] = _
          rw [goW_snoc, dN_set, dN_set, dN_app]
          rfl
      · exact ⟨ws, ok, by omega, rfl⟩
  · rintro δ ⟨ws, ok, hw, rfl⟩
    exact ⟨_, _, rfl, q ws ok hw⟩
theorem hp_lword (as : List Sl) (Qp : QE) (Ep : EX) (h : psp_lword as Qp Ep) : p_lword (endsP as Qp) (as ++ List.replicate 5 .un) := by
  obtain ⟨ks, m, f, d, rfl, hd, hn, hm, q⟩ := h
  have main : pr_lword (endsP [.ow true .deal, .im d, .im (.int m), .im (.bool f)] Qp) [.ow true .deal, .im d, .im (.int m), .im (.bool f), .un, .ow false (.lst (dN ks)), .ow false (.lst []), .un, .un] := hp_rlword hn hm q
  cases d with
  | list ds => cases hd; exact ⟨_, _, rfl, main⟩
  | tuple ds => cases hd; exact ⟨_, _, rfl, main⟩
  | none => cases hd
  | bool b => cases hd
  | int b => cases hd
  | str b => cases hd
  | dict b => cases hd
end Pv

namespace Pv
open PySem PySem.Spec L2 Wf
/-! ### orders -/
theorem swp_perm {xs : List Nat} {k : Nat} (h : k + 1 < xs.length) : (swp xs k).Perm xs := by
  unfold swp
  have e1 : xs.getD (k + 1) 0 = xs[k + 1] := by rw [List.getD_eq_getElem?_getD, List.getElem?_eq_getElem h]; rfl
  have e2 : xs.getD k 0 = xs[k] := by rw [List.getD_eq_getElem?_getD, List.getElem?_eq_getElem (show k < xs.length by omega)]; rfl
  rw [e1, e2]
  exact List.set_set_perm (by omega) h
theorem goW_perm : ∀ {ws xs : List Nat}, (∀ w ∈ ws, w + 1 < xs.length) → (goW xs ws).Perm xs
  | [], xs, _ => .refl _
  | w :: ws, xs, h => by
    have h1 := swp_perm (h w (List.mem_cons_self))
    exact (goW_perm (ws := ws) (xs := swp xs w) fun v hv => by rw [swp_len]; exact h v (List.mem_cons_of_mem _ hv)).trans h1
theorem idx_pair {R : Nat → Nat → Prop} {os : List Nat} (h : os.Pairwise R) {a b : Nat} (ha : a ∈ os) (hb : b ∈ os) (hi : os.idxOf a < os.idxOf b) : R a b := by
  have la := List.idxOf_lt_length_iff.mpr ha
  have lb := List.idxOf_lt_length_iff.mpr hb
  have := List.pairwise_iff_getElem.mp h _ _ la lb hi
  rwa [List.getElem_idxOf, List.getElem_idxOf] at this
theorem mem_passP {os : List Nat} {p : Nat × Nat} (h : p ∈ passP os) : p.1 < p.2 ∧ p.2 < os.length ∧ os.idxOf p.2 < os.idxOf p.1 := by
  unfold passP passD at h
  obtain ⟨i, hi, h⟩ := List.mem_flatMap.mp h
  unfold passI at h
  obtain ⟨j, hj, rfl⟩ := List.mem_map.mp h
  rw [List.mem_filter, List.mem_range, Bool.and_eq_true] at hj
  exact ⟨of_decide_eq_true hj.2.1, hj.1, of_decide_eq_true hj.2.2⟩
/-- forward: whoever has passed one is of a greater kind -/
def fwdB (ks os : List Nat) : Bool := (passP os).all fun p => decide (ks.getD p.2 0 < ks.getD p.1 0)
theorem mem_of_perm {os : List Nat} {n k : Nat} (h : os.Perm (List.range n)) : k ∈ os ↔ k < n := by rw [h.mem_iff, List.mem_range]
theorem perm_len {os : List Nat} {n : Nat} (h : os.Perm (List.range n)) : os.length = n := by rw [h.length_eq, List.length_range]
theorem fwd_range (ks : List Nat) (n : Nat) : fwdB ks (List.range n) = true := by
  unfold fwdB
  rw [List.all_eq_true]
  intro p hp
  obtain ⟨h1, h2, h3⟩ := mem_passP hp
  rw [List.length_range] at h2
  have := idx_pair (List.pairwise_lt_range (n := n)) (List.mem_range.mpr h2) (List.mem_range.mpr (show p.1 < n by omega)) h3
  omega
/-- first by kinds, then by numbers -/
def before (ks : List Nat) (a b : Nat) : Prop := ks.getD a 0 < ks.getD b 0 ∨ ks.getD a 0 = ks.getD b 0 ∧ a < b
theorem mem_lastK {ks : List Nat} {k n w : Nat} : w ∈ lastK ks k n ↔ w < n ∧ ks.getD w 0 = k := by
  unfold lastK
  rw [List.mem_filter, List.mem_range, decide_eq_true_iff]
theorem last_pair (ks : List Nat) : (lastOf ks).Pairwise (before ks) := by
  unfold lastOf lastD
  rw [List.pairwise_flatMap]
  refine ⟨fun k _ => ?_, ?_⟩
  · have h := (List.pairwise_lt_range (n := ks.length)).filter fun w => decide (ks.getD w 0 = k)
    refine List.Pairwise.imp_of_mem (fun {a b} ha hb hab => ?_) h
    have ha' := (mem_lastK (ks := ks) (k := k) (n := ks.length)).mp ha
    have hb' := (mem_lastK (ks := ks) (k := k) (n := ks.length)).mp hb
    exact .inr ⟨by rw [ha'.2, hb'.2], hab⟩
  · refine List.pairwise_lt_range.imp fun {a b} hab x hx y hy => .inl ?_
    rw [mem_lastK] at hx hy
    omega
theorem mem_last {ks : List Nat} (h5 : ∀ k ∈ ks, k < 5) {w : Nat} : w ∈ lastOf ks ↔ w < ks.length := by
  unfold lastOf lastD
  rw [List.mem_flatMap]
  constructor
  · rintro ⟨k, _, h⟩
    exact (mem_lastK.mp h).1
  · intro h
    refine ⟨ks.getD w 0, List.mem_range.mpr (h5 _ ?_), mem_lastK.mpr ⟨h, rfl⟩⟩
    have := getD_of h
    exact List.mem_of_getElem? this
theorem last_perm {ks : List Nat} (h5 : ∀ k ∈ ks, k < 5) : (lastOf ks).Perm (List.range ks.length) := by
  refine (List.perm_ext_iff_of_nodup ?_ List.nodup_range).mpr fun w => by rw [mem_last h5, List.mem_range]
  exact (last_pair ks).imp fun {a b} h z => by
    subst z
    rcases h with h | h <;> omega
theorem fwd_last {ks : List Nat} (h5 : ∀ k ∈ ks, k < 5) : fwdB ks (lastOf ks) = true := by
  unfold fwdB
  rw [List.all_eq_true]
  intro p hp
  obtain ⟨h1, h2, h3⟩ := mem_passP hp
  rw [perm_len (last_perm h5)] at h2
  have := idx_pair (last_pair ks) ((mem_last h5).mpr h2) ((mem_last h5).mpr (show p.1 < ks.length by omega)) h3
  rw [decide_eq_true_iff]
  rcases this with h | h <;> omega
/-! ### sizes -/
theorem wt_map {α : Type} (f : α → PyData) (c : Nat) (h : ∀ x, wt (f x) ≤ c) : ∀ l : List α, wtAll (l.map f) ≤ c * l.length
  | [] => by simp [wtAll]
  | x :: l => by
    have := wt_map f c h l
    have h1 := h x
    show wt (f x) + wtAll (l.map f) ≤ c * (l.length + 1)
    rw [Nat.mul_add, Nat.mul_one]
    omega
theorem noL_map {α : Type} (f : α → PyData) (h : ∀ x, noL (f x) = true) : ∀ l : List α, noLAll (l.map f) = true
  | [] => rfl
  | x :: l => by
    show (noL (f x) && noLAll (l.map f)) = true
    rw [h x, noL_map f h l]
    rfl
theorem shaped_map {α : Type} (f : α → PyData) (n : Nat) (hn : n < 64) (l : List α) (h : ∀ x, (f x).canLay0 = true ∧ (f x).depth ≤ n) : SeqAt.shaped (.list (l.map f)) = true := by
  have h := lay_map f n l fun x _ => h x
  have h2 : (PyData.list (l.map f)).depth ≤ n + 1 := Nat.succ_le_succ h.2
  unfold SeqAt.shaped
  rw [show (PyData.list (l.map f)).canLay0 = true from h.1]
  simp
  omega
theorem eqd_nilM {α : Type} (f : α → PyData) (l : List α) : eqd (.list (l.map f)) (.list []) = l.isEmpty := by
  cases l with
  | nil => rfl
  | cons p ps => simp [eqd, PyData.eqv, PyData.eqvAll]
theorem alike_go {as : List Sl} {Q : QE} {d : PyData} {Ep : EX} (h : as = [.im d, .im d]) (n : noL d = true) (w : wt d ≤ 1000000) (q : Q (.im (.bool true)) as) : psp_alike as Q Ep := ⟨d, h, n, w, q⟩
end Pv

namespace Pv
open PySem PySem.Spec L2 Wf
/-! ### a law, by value: of each script it tells True -/
/-- no tables -/
abbrev TB0 : List NdefX.NTab := []
def psp_law : PSp := fun as Q _ => ∃ ns : List Int, as = [.ow true (.scr ns)] ∧ ns.length ≤ 1000 ∧ Q (.im (.bool true)) [.ow true (.scr ns)]
theorem end_law {K : PySem.W.Frag} {H : Hp} {a : Addr} {ns : List Int} (hl : ns.length ≤ 1000) (hO : Only H) (hS : SqL K H a (ns.map V.int)) : LSp K [] psp_law [.ref a] H (fun v _ => v = .bl true) fun _ _ _ => False := by
  have fin : ∀ (G : Hp) (w : Addr → Option Nat), Rep K (B0 [] H w) G H [some (.ref a)] [.ow true (.scr ns)] [] [] w → LSp K [] psp_law [.ref a] H (fun v _ => v = .bl true) fun _ _ _ => False := fun G w r => by
    refine ⟨G, w, [.ow true (.scr ns)], fun r _ => r = .im (.bool true), noX, r, fun s hs => ?_, ⟨ns, rfl, hl, rfl⟩, fun r δ' v H' G' w' hr _ _ rep => ?_, xok_no⟩
    · rw [List.mem_singleton] at hs
      exact .inr (.inr ⟨_, hs⟩)
    · subst hr
      have : Dq K G' v (.bool true) := rep.tm 0 v _ rfl rfl
      cases this
      rfl
  rcases hS with h | h
  · have ho : ∃ o, H a = some (.frz o (.lst (ns.map V.int))) := by
      rcases hO a with z | ⟨o, xs, z⟩
      · rcases h with h | ⟨o, h⟩ <;> rw [z] at h <;> cases h
      · rcases h with h | ⟨o', h⟩
        · rw [z] at h; cases h
        · rw [z] at h; cases h; exact ⟨_, z⟩
    obtain ⟨o, ho⟩ := ho
    refine fin (fun _ => none) (fun b => if b = a then some 0 else none) ⟨(fun _ _ z => by cases z), fun b i hb => ?_, rfl, fun i s hs => ?_, rfl, fun j v q hv => by simp at hv, ⟨fun b u hb => ?_, .refl, fun p hp => by simp [B0] at hp, nofun⟩⟩
    · split at hb
      · rename_i e
        subst e
        exact ⟨rfl, by rw [ho]; exact Option.some_ne_none _, NoX.of ho (fun _ z => by cases z) (fun _ _ z => by cases z) (fun _ z => by cases z)⟩
      · cases hb
    · match i, hs with
      | 0, hs =>
        cases hs
        exact ⟨.ref a, rfl, a, rfl, .inl ⟨o, if_pos rfl, ho⟩⟩
      | i + 1, hs => simp at hs
    · exact B0_some hb
  · refine fin (fun _ => none) (fun _ => none) ⟨(fun _ _ z => by cases z), (fun _ _ z => by cases z), rfl, fun i s hs => ?_, rfl, fun j v q hv => by simp at hv, ⟨fun b u hb => B0_some hb, .refl, fun p hp => by simp [B0] at hp, nofun⟩⟩
    match i, hs with
    | 0, hs =>
      cases hs
      exact ⟨.ref a, rfl, a, rfl, .inr fun H1 => .inr h⟩
    | i + 1, hs => simp at hs
/-! ### a, b = e, f with names that comprehensions read -/
theorem par_go0 : ∀ (vs : List V) (σ : St) (H : Hp) (Q : St → Hp → Prop), ([] : List Nat).length = vs.length → Q ((([] : List Nat).zip vs).foldl (fun σ p => σ.set p.1 (some p.2)) σ) H → gNil vs σ H Q
  | [], _, _, _, _, q => ⟨rfl, q⟩
theorem par_goS {i : Nat} {is : List Nat} {gs : TGs} (h : ∀ (vs : List V) (σ : St) (H : Hp) (Q : St → Hp → Prop), is.length = vs.length → Q ((is.zip vs).foldl (fun σ p => σ.set p.1 (some p.2)) σ) H → gs vs σ H Q) :
    ∀ (vs : List V) (σ : St) (H : Hp) (Q : St → Hp → Prop), (i :: is).length = vs.length → Q (((i :: is).zip vs).foldl (fun σ p => σ.set p.1 (some p.2)) σ) H → gCons (gName i) gs vs σ H Q
  | v :: vs, σ, H, Q, hl, q => ⟨v, vs, rfl, h vs _ H Q (by simpa using hl) q⟩
end Pv

namespace Pv
open PySem PySem.Spec L2 Wf
/-! ### what the program's three defs are to do -/
def psp_pairs_passed : PSp := fun as Q _ => ∃ os : List Nat, as = [.im (.tuple (dN os))] ∧ os.Perm (List.range os.length) ∧ os.length ≤ 10 ∧ Q (.im (.tuple ((passP os).map nP))) [.un]
def psp_is_forward : PSp := fun as Q _ => ∃ ks os : List Nat, as = [.im (.tuple (dN ks)), .im (.tuple (dN os))] ∧ os.Perm (List.range ks.length) ∧ ks.length ≤ 10 ∧ (∀ k ∈ ks, k < 5) ∧ Q (.im (.bool (fwdB ks os))) [.un, .un]
def psp_last_order : PSp := fun as Q _ => ∃ ks : List Nat, as = [.im (.tuple (dN ks))] ∧ ks.length ≤ 10 ∧ (∀ k ∈ ks, k < 5) ∧ Q (.im (.tuple (dN (lastOf ks)))) [.un]
def pe_law10_1 : PX :=
    pCall psp_draw (pCons (pVar 1) (pCons (pFz (pVar 4)) (pNil))) noX
def pe_law10_2 : PX :=
    pVar 10
def tail10 : PSx :=
    pSeq (pSet 9 (pCall psp_last_order (pCons (pFz (pVar 5)) (pNil)) noX))
    (pSeq (pIf (pOr (pNot (pT (pCall psp_alike (pCons (pFz (pVar 9)) (pCons (pFz (pC (q1 fTupleOf) (pCons (pCall psp_llast (pCons (pFz (pVar 5)) (pNil)) noX) (pNil)))) (pNil))) noX))) (pNot (pT (pCall psp_alike (pCons (pFz (pCall psp_is_forward (pCons (pFz (pVar 5)) (pCons (pFz (pVar 9)) (pNil))) noX)) (pCons (pFz (pK (.bool true))) (pNil))) noX)))) (pRet (pK (.bool false))) (pNext))
    (pIf (pT (pIs true (pCall psp_is_forward (pCons (pFz (pVar 5)) (pCons (pFz (pC (q1 fTupleOf) (pCons (pLstRg (pRg1 (pVar 3))) (pNil)))) (pNil))) noX) (pK (.bool true)))) (pRet (pK (.bool false))) (pNext)))
def rest10 : PSx :=
    pSeq (pIf (pNot (pT (pCall psp_alike (pCons (pFz (pCall psp_pairs_passed (pCons (pFz (pVar 6)) (pNil)) noX)) (pCons (pFz (pC (q1 fTupleOf) (pCons (pVar 7) (pNil)))) (pNil))) noX))) (pRet (pK (.bool false))) (pNext))
    (pSeq (pSet 8 (pComp (iSeq (pVar 7)) (gN 10) (pT (pLe (pIx (pVar 5) (pIx (pVar 10) (pK (.int 0)))) (pIx (pVar 5) (pIx (pVar 10) (pK (.int 1)))))) (pe_law10_2) [10]))
    (pSeq (pIf (pNot (pT (pCall psp_alike (pCons (pFz (pCall psp_is_forward (pCons (pFz (pVar 5)) (pCons (pFz (pVar 6)) (pNil))) noX)) (pCons (pFz (pEq false (pVar 8) (pLst (pNil)))) (pNil))) noX))) (pRet (pK (.bool false))) (pNext))
    (pSeq (pSet 9 (pCall psp_last_order (pCons (pFz (pVar 5)) (pNil)) noX))
    (pSeq (pIf (pOr (pNot (pT (pCall psp_alike (pCons (pFz (pVar 9)) (pCons (pFz (pC (q1 fTupleOf) (pCons (pCall psp_llast (pCons (pFz (pVar 5)) (pNil)) noX) (pNil)))) (pNil))) noX))) (pNot (pT (pCall psp_alike (pCons (pFz (pCall psp_is_forward (pCons (pFz (pVar 5)) (pCons (pFz (pVar 9)) (pNil))) noX)) (pCons (pFz (pK (.bool true))) (pNil))) noX)))) (pRet (pK (.bool false))) (pNext))
    (pIf (pT (pIs true (pCall psp_is_forward (pCons (pFz (pVar 5)) (pCons (pFz (pC (q1 fTupleOf) (pCons (pLstRg (pRg1 (pVar 3))) (pNil)))) (pNil))) noX) (pK (.bool true)))) (pRet (pK (.bool false))) (pNext))))))
def pb_law10_3 : PSx :=
    pSeq (pSet 5 (pC (q1 fTupleOf) (pCons (pComp (iRg (pCons (pVar 3) (pNil))) (gN 11) (pYes) (pe_law10_1) [11]) (pNil))))
    (pSeq (pSet 6 (pC qPtl (pCons (pCall psp_mixed (pCons (pVar 1) (pCons (pFz (pVar 3)) (pNil))) noX) (pNil))))
    (pSeq (pIf (pT (pEq false (pCall psp_draw (pCons (pVar 1) (pCons (pFz (pK (.int 2))) (pNil))) noX) (pK (.int 0)))) (pSet 6 (pC qPtl (pCons (pCall psp_lorder (pCons (pFz (pVar 3)) (pCons (pFz (pCall psp_lword (pCons (pVar 1) (pCons (pFz (pVar 5)) (pCons (pFz (pCall psp_draw (pCons (pVar 1) (pCons (pFz (pK (.int 46))) (pNil))) noX)) (pCons (pFz (pK (.bool false))) (pNil))))) noX)) (pNil))) noX) (pNil)))) (pNext))
    (pSeq (pSet 7 (pCall psp_lpairs (pCons (pVar 6) (pNil)) noX))
    (pSeq (pIf (pNot (pT (pCall psp_alike (pCons (pFz (pCall psp_pairs_passed (pCons (pFz (pVar 6)) (pNil)) noX)) (pCons (pFz (pC (q1 fTupleOf) (pCons (pVar 7) (pNil)))) (pNil))) noX))) (pRet (pK (.bool false))) (pNext))
    (pSeq (pSet 8 (pComp (iSeq (pVar 7)) (gN 10) (pT (pLe (pIx (pVar 5) (pIx (pVar 10) (pK (.int 0)))) (pIx (pVar 5) (pIx (pVar 10) (pK (.int 1)))))) (pe_law10_2) [10]))
    (pSeq (pIf (pNot (pT (pCall psp_alike (pCons (pFz (pCall psp_is_forward (pCons (pFz (pVar 5)) (pCons (pFz (pVar 6)) (pNil))) noX)) (pCons (pFz (pEq false (pVar 8) (pLst (pNil)))) (pNil))) noX))) (pRet (pK (.bool false))) (pNext))
    (pSeq (pSet 9 (pCall psp_last_order (pCons (pFz (pVar 5)) (pNil)) noX))
    (pSeq (pIf (pOr (pNot (pT (pCall psp_alike (pCons (pFz (pVar 9)) (pCons (pFz (pC (q1 fTupleOf) (pCons (pCall psp_llast (pCons (pFz (pVar 5)) (pNil)) noX) (pNil)))) (pNil))) noX))) (pNot (pT (pCall psp_alike (pCons (pFz (pCall psp_is_forward (pCons (pFz (pVar 5)) (pCons (pFz (pVar 9)) (pNil))) noX)) (pCons (pFz (pK (.bool true))) (pNil))) noX)))) (pRet (pK (.bool false))) (pNext))
    (pIf (pT (pIs true (pCall psp_is_forward (pCons (pFz (pVar 5)) (pCons (pFz (pC (q1 fTupleOf) (pCons (pLstRg (pRg1 (pVar 3))) (pNil)))) (pNil))) noX) (pK (.bool true)))) (pRet (pK (.bool false))) (pNext))))))))))
def p_law10 : PSx :=
    pSeq (pSet 1 (pCall psp_deal (pCons (pVar 0) (pCons (pFz (pK (.int 0))) (pNil))) noX))
    (pSeq (pPar [3, 4] (pCons (pIx (pLst (pCons (pCall psp_draw (pCons (pVar 1) (pCons (pFz (pK (.int 11))) (pNil))) noX) (pCons (pK (.int 10)) (pNil)))) (pC (q1 fInt1) (pCons (pEq false (pCall psp_draw (pCons (pVar 1) (pCons (pFz (pK (.int 6))) (pNil))) noX) (pK (.int 0))) (pNil)))) (pCons (pAdd (pK (.int 1)) (pCall psp_draw (pCons (pVar 1) (pCons (pFz (pK (.int 5))) (pNil))) noX)) (pNil))))
    (pSeq (pFor [2, 5, 6, 7, 8, 9] (iRg (pCons (pK (.int 3)) (pNil))) (gN 2) (pb_law10_3))
    (pRet (pK (.bool true)))))


abbrev st10 (ns : List Int) (many wide : Nat) (s2 s5 s6 s7 s8 s9 : Sl) : List Sl := [.ow true (.scr ns), .ow false .deal, s2, .im (nD many), .im (nD wide), s5, s6, s7, s8, s9, .un, .un]
theorem sel_ten (a b : Nat) : atI [nD a, .int 10] (if decide ((b : Int) = 0) = true then 1 else 0) = some (nD (if b = 0 then 10 else a)) := by
  by_cases h : b = 0
  · subst h
    rfl
  · have : ¬ (b : Int) = 0 := by omega
    rw [if_neg h, decide_eq_false this]
    rfl
def slowB (ks : List Nat) (p : Nat × Nat) : Bool := decide (ks.getD p.1 0 ≤ ks.getD p.2 0)
theorem slow_fwd (ks os : List Nat) : ((passP os).filter (slowB ks)).isEmpty = fwdB ks os := by
  unfold fwdB
  rw [Bool.eq_iff_iff, List.isEmpty_iff, List.filter_eq_nil_iff, List.all_eq_true]
  constructor
  · intro h p hp
    have := h p hp
    simp only [slowB, decide_eq_true_iff] at this ⊢
    omega
  · intro h p hp
    have := h p hp
    simp only [slowB, decide_eq_true_iff] at this ⊢
    omega
theorem lay_nP (p : Nat × Nat) : (nP p).canLay0 = true ∧ (nP p).depth ≤ 1 := ⟨rfl, by show max 0 (max 0 0) + 1 ≤ 1; decide⟩
theorem wt_nP (p : Nat × Nat) : wt (nP p) ≤ 3 := by show 1 + (1 + 0) + 1 ≤ 3; decide
theorem wt_dN (a : List Nat) : wt (.tuple (dN a)) ≤ a.length + 1 := by
  have := wt_map nD 1 (fun _ => Nat.le_refl 1) a
  show wtAll (List.map nD a) + 1 ≤ _
  omega
theorem noL_dN (a : List Nat) : noL (.tuple (dN a)) = true := noL_map nD (fun _ => rfl) a
theorem hp_tail10 {ns : List Int} {wide i : Nat} {ks : List Nat} {o6 o8 : O} {d7 : PyData} {E : PEn} (m10 : ks.length ≤ 10) (k5 : ∀ k ∈ ks, k < 5)
    (k : ∀ d5 o6 d7 o8 d9, E.nx (st10 ns ks.length wide (.im (nD i)) (.im d5) (.ow false o6) (.im d7) (.ow false o8) (.im d9))) :
    tail10 E (st10 ns ks.length wide (.im (nD i)) (.im (.tuple (dN ks))) (.ow false o6) (.im d7) (.ow false o8) .un) := by
  have ll := perm_len (last_perm k5)
  refine ⟨_, _, rfl, _, rfl, List.nodup_nil, ks, rfl, m10, k5, _, _, rfl, ?_⟩
  refine ⟨_, _, rfl, _, _, rfl, _, rfl, List.nodup_nil, ks, rfl, by omega, _, _, rfl, _, rfl, List.nodup_nil, ?_⟩
  refine ⟨_, rfl, noL_dN _, ?_, _, rfl, ?_⟩
  · have := wt_dN (lastOf ks)
    omega
  refine ⟨_, _, rfl, _, _, rfl, _, rfl, List.nodup_nil, ks, lastOf ks, rfl, last_perm k5, m10, k5, _, _, rfl, _, _, rfl, _, rfl, List.nodup_nil, ?_⟩
  refine ⟨.bool true, by rw [fwd_last k5], rfl, (by show 1 ≤ 1000000; decide), _, rfl, ?_⟩
  refine ⟨_, _, rfl, _, rfl, ⟨by omega, by omega, ?_⟩, _, _, rfl, _, rfl, List.nodup_nil, ?_⟩
  · have : (1000 : Nat) ≤ sizeLine := by decide
    omega
  refine ⟨ks, List.range ks.length, by rw [rgD_dN], .refl _, m10, k5, ?_⟩
  rw [fwd_range]
  exact ⟨_, rfl, k _ _ _ _ _⟩
theorem hp_rest10 {ns : List Int} {wide i : Nat} {ks os : List Nat} {E : PEn} (lo : os.length = ks.length) (hp : os.Perm (List.range ks.length)) (hp' : os.Perm (List.range os.length)) (m10 : ks.length ≤ 10) (k5 : ∀ k ∈ ks, k < 5)
    (k : ∀ d5 o6 d7 o8 d9, E.nx (st10 ns ks.length wide (.im (nD i)) (.im d5) (.ow false o6) (.im d7) (.ow false o8) (.im d9))) :
    rest10 E (st10 ns ks.length wide (.im (nD i)) (.im (.tuple (dN ks))) (.ow false (.ptl (dN os))) (.ow false (.lst ((passP os).map nP))) .un .un) := by
  have lp : (passP os).length ≤ 100 := by
    have h1 := passD_le os os.length
    have h2 := Nat.mul_le_mul (show os.length ≤ 10 by omega) (show os.length ≤ 10 by omega)
    unfold passP
    omega
  refine ⟨_, _, rfl, _, rfl, List.nodup_nil, os, rfl, hp', by omega, _, _, rfl, _, _, rfl, _, rfl, List.nodup_nil, ?_⟩
  refine ⟨_, rfl, noL_map nP (fun _ => rfl) _, ?_, _, rfl, ?_⟩
  · have := wt_map nP 3 wt_nP (passP os)
    show wtAll _ + 1 ≤ _
    omega
  refine ⟨_, _, _, rfl, rfl, noPin1 fun o => nofun, fun j acc δ => acc = (((passP os).take j).filter (slowB ks)).map nP ∧ δ = st10 ns ks.length wide (.im (nD i)) (.im (.tuple (dN ks))) (.ow false (.ptl (dN os))) (.im (.list ((passP os).map nP))) .un .un, ⟨rfl, rfl⟩, ?_, ?_⟩
  · rintro j d acc δ hd ⟨rfl, rfl⟩
    rw [List.getElem?_map] at hd
    obtain ⟨p, hpj, rfl⟩ := Option.map_eq_some_iff.mp hd
    obtain ⟨p1, p2, _⟩ := mem_passP (List.mem_of_getElem? hpj)
    rw [lo] at p2
    have tk : (passP os).take (j + 1) = (passP os).take j ++ [p] := by rw [List.take_add_one, hpj]; rfl
    refine ⟨_, rfl, _, atI_of rfl (dN_get (getD_of (xs := ks) (i := p.1) (by omega))), _, rfl, _, atI_of rfl (dN_get (getD_of p2)), trivial, _, rfl, ?_⟩
    show if decide ((ks.getD p.1 0 : Int) ≤ (ks.getD p.2 0 : Int)) = true then _ else _
    have e : decide ((ks.getD p.1 0 : Int) ≤ (ks.getD p.2 0 : Int)) = slowB ks p := by unfold slowB; simp only [Int.ofNat_le]
    rw [e]
    split
    · rename_i c
      refine ⟨_, _, rfl, ?_, ?_, rfl⟩
      · rw [List.length_map]
        refine szN (m := 100) (Nat.le_trans (List.length_filter_le _ _) ?_) (by decide)
        rw [List.length_take]
        omega
      · rw [tk, List.filter_append, List.filter_cons, if_pos c, List.map_append]
        rfl
    · rename_i c
      refine ⟨?_, rfl⟩
      rw [tk, List.filter_append, List.filter_cons, if_neg c]
      simp
  · rintro acc δ ⟨rfl, rfl⟩
    rw [List.length_map, List.take_length]
    refine ⟨_, _, rfl, ?_⟩
    refine ⟨_, _, rfl, _, _, rfl, _, rfl, List.nodup_nil, ks, os, rfl, hp, m10, k5, _, _, rfl, ?_⟩
    refine ⟨shaped_map nP 1 (by decide) _ lay_nP, rfl, _, _, rfl, _, rfl, List.nodup_nil, ?_⟩
    have e2 : eqd (.list (((passP os).filter (slowB ks)).map nP)) (.list []) = fwdB ks os := by rw [eqd_nilM, slow_fwd]
    refine ⟨.bool (fwdB ks os), ?_, rfl, (by show 1 ≤ 1000000; decide), _, rfl, ?_⟩
    · show [_, Sl.im (.bool (eqd (.list (((passP os).filter (slowB ks)).map nP)) (.list [])))] = _
      rw [e2]
    exact hp_tail10 m10 k5 k
theorem hp_turn10 {ns : List Int} {many wide i : Nat} {E : PEn} (m10 : many ≤ 10) (w1 : 1 ≤ wide) (w5 : wide ≤ 5)
    (k : ∀ d5 o6 d7 o8 d9, E.nx (st10 ns many wide (.im (nD i)) (.im d5) (.ow false o6) (.im d7) (.ow false o8) (.im d9))) : pb_law10_3 E (st10 ns many wide (.im (nD i)) .un .un .un .un .un) := by
  refine ⟨by omega, by omega, noPin1 fun o => nofun, fun j acc δ => ∃ ks : List Nat, acc = dN ks ∧ ks.length = j ∧ (∀ k ∈ ks, k < wide) ∧ δ = st10 ns many wide (.im (nD i)) .un .un .un .un .un, ⟨[], rfl, rfl, nofun, rfl⟩, ?_, ?_⟩
  · rintro j d acc δ hd ⟨ks, rfl, rfl, hk, rfl⟩
    obtain ⟨rfl, hj⟩ := rgD_get hd
    refine ⟨_, _, rfl, _, rfl, nd1 1, _, rfl, by omega, by omega, fun a ha => ?_⟩
    refine ⟨_, _, rfl, ?_, ks ++ [a], ?_, by simp, fun z hz => ?_, rfl⟩
    · rw [dN_len]
      exact szN (m := 10) (by omega) (by decide)
    · rw [dN_app]; rfl
    · rcases List.mem_append.mp hz with z1 | z1
      · exact hk z z1
      · rw [List.mem_singleton] at z1; subst z1; omega
  · rintro acc δ ⟨ks, rfl, hl, hk, rfl⟩
    rw [rgD_len] at hl
    have hl : ks.length = many := by omega
    subst hl
    have rest : ∀ os : List Nat, os.Perm (List.range ks.length) → pSeq (pSet 7 (pCall psp_lpairs (pCons (pVar 6) (pNil)) noX)) rest10 E (st10 ns ks.length wide (.im (nD i)) (.im (.tuple (dN ks))) (.ow false (.ptl (dN os))) .un .un .un) := by
      intro os hp
      have lo := perm_len hp
      have hp' : os.Perm (List.range os.length) := by rw [lo]; exact hp
      refine ⟨_, rfl, nd1 6, os, rfl, by omega, fun z hz => (mem_of_perm hp').mpr hz, _, _, rfl, ?_⟩
      exact hp_rest10 lo hp hp' m10 (fun z hz => Nat.lt_of_lt_of_le (hk z hz) w5) k
    refine ⟨_, _, rfl, ?_⟩
    refine ⟨_, _, rfl, _, rfl, nd1 1, _, rfl, by omega, fun os hp => ?_⟩
    refine ⟨_, rfl, _, _, rfl, ?_⟩
    refine ⟨_, _, rfl, _, rfl, nd1 1, _, rfl, by omega, by decide, fun a ha => ?_⟩
    refine ⟨_, rfl, ?_⟩
    show if decide ((a : Int) = 0) = true then _ else _
    split
    · refine ⟨_, _, rfl, _, _, rfl, _, _, rfl, _, rfl, nd1 1, _, rfl, by omega, by decide, fun b hb => ?_⟩
      refine ⟨_, _, rfl, _, _, rfl, _, rfl, nd1 1, ks, b, false, _, rfl, rfl, by omega, by omega, fun ws ok hw => ?_⟩
      refine ⟨_, _, rfl, _, rfl, List.nodup_nil, ks.length, ws, rfl, by omega, wordOk_lt ok, ?_⟩
      refine ⟨_, rfl, _, _, rfl, ?_⟩
      exact rest _ (goW_perm fun w hw => by rw [List.length_range]; exact wordOk_lt ok w hw)
    · exact rest os hp
theorem hp_law10 (as : List Sl) (Qp : QE) (Ep : EX) (h : psp_law as Qp Ep) : p_law10 (endsP as Qp) (as ++ List.replicate 11 .un) := by
  obtain ⟨ns, rfl, hn, q⟩ := h
  refine ⟨_, _, rfl, _, rfl, nd1 0, 0, ns, rfl, by omega, by omega, hn, _, _, rfl, ?_⟩
  refine ⟨_, _, rfl, _, rfl, nd1 1, _, rfl, by omega, by decide, fun a ha => ?_⟩
  refine ⟨_, _, rfl, _, rfl, nd1 1, _, rfl, by omega, by decide, fun b hb => ?_⟩
  refine ⟨_, sel_ten a b, ?_⟩
  refine ⟨_, _, rfl, _, rfl, nd1 1, _, rfl, by omega, by decide, fun c hc => ?_⟩
  refine ⟨_, _, rfl, by omega, by omega, ?_⟩
  have hm : (if b = 0 then 10 else a) ≤ 10 := by split <;> omega
  revert hm
  generalize (if b = 0 then 10 else a) = many
  intro hm
  have ec : (1 + (c : Int)) = ((1 + c : Nat) : Int) := by omega
  refine for_rg 3 rfl (fun i δ => δ = st10 ns many (1 + c) .un .un .un .un .un .un) ?_ ?_ ?_
  · show [_, _, _, _, _, _, _, _, _, _, _, _] = _
    rw [ec]
    rfl
  · rintro i δ hi rfl
    exact hp_turn10 hm (by omega) (by omega) fun s5 s6 s7 s8 s9 => rfl
  · rintro δ rfl
    exact ⟨_, _, rfl, q⟩
end Pv

namespace Pv
open PySem PySem.Spec L2 Wf
/-! ### what is caught: errors of one class C, by the name of C0; they are none of os -/
structure ToldG (K : PySem.W.Frag) (C C0 : Addr) (os : List Addr) : Prop where
  ex : PySem.W.exmOne K (.ref C) (.ref C0) = some true
  is_ : IsC K C
  one : PySem.W.kitOne K (.ref C) (.ref C) = some true
  two : PySem.W.kitAny K (.ref C) (os.map .ref) = some false
def sbAt (C0 : Addr) (b : Bool) : Addr → Option Bool := fun C => if C = C0 then some b else none
theorem sb_eq {C0 C : Addr} {b b' : Bool} (h : sbAt C0 b C = some b') : C = C0 ∧ b' = b := by
  unfold sbAt at h
  split at h
  · rename_i e; cases h; exact ⟨e, rfl⟩
  · cases h
theorem sb_self (C : Addr) (b : Bool) : sbAt C b C = some b := if_pos rfl
theorem sb_one {K : PySem.W.Frag} {C C0 : Addr} {os : List Addr} (T : ToldG K C C0 os) : ∀ C' b, sbAt C true C' = some b → IsC K C' ∧ PySem.W.kitOne K (.ref C') (.ref C) = some b := fun C' b h => by
  obtain ⟨rfl, rfl⟩ := sb_eq h
  exact ⟨T.is_, T.one⟩
theorem sb_two {K : PySem.W.Frag} {C C0 : Addr} {os : List Addr} (T : ToldG K C C0 os) : ∀ C' b, sbAt C false C' = some b → IsC K C' ∧ PySem.W.kitAny K (.ref C') (os.map .ref) = some b := fun C' b h => by
  obtain ⟨rfl, rfl⟩ := sb_eq h
  exact ⟨T.is_, T.two⟩
theorem cat_ok {K : PySem.W.Frag} {C C0 : Addr} {os : List Addr} (T : ToldG K C C0 os) : ∀ C', C' = C → PySem.W.exmOne K (.ref C') (.ref C0) = some true := fun C' h => by subst h; exact T.ex
theorem clsV_all (os : List Addr) : ∀ C ∈ os, ClsV (.ref C) (.ref C) := fun C _ => .own C
theorem _root_.L2.Room.units1 {k : Nat} {A : Around} (r : Room k A) : A.units + 65 < cLine := by have := r.un; omega
theorem sb_sing {K : PySem.W.Frag} {C C0 D : Addr} (T : ToldG K C C0 [D]) : ∀ C' b, sbAt C false C' = some b → IsC K C' ∧ PySem.W.kitOne K (.ref C') (.ref D) = some b := fun C' b h => by
  obtain ⟨h1, h2⟩ := sb_two T C' b h
  refine ⟨h1, ?_⟩
  simp only [List.map, PySem.W.kitAny] at h2
  revert h2
  cases PySem.W.kitOne K (.ref C') (.ref D) with
  | none => intro h2; cases h2
  | some x => cases x <;> exact id
end Pv

namespace Pv
open PySem PySem.Spec L2 Wf
variable {B : Bas}
/-! ### abs, all, any, sorted -/
def fAbs : PyData → (PyData → Prop) → Prop
  | .int i, k => k (.int (if i < 0 then -i else i))
  | _, _ => False
theorem lc_abs {K : PySem.W.Frag} : LC K (q1 fAbs) (fun xs H Q => ∃ i, xs = [.int i] ∧ Q (.int (if i < 0 then -i else i)) H) := by
  refine lc_im1 (fun G H v d Q s hv q => ?_) (fun d k k' hk q => ?_)
  · unfold fAbs at q
    split at q
    · exact ⟨_, by rw [hv.int], q _ _ .int⟩
    · exact q.elim
  · unfold fAbs at q ⊢
    split at q
    · exact hk _ q
    · exact q.elim
theorem dqAll_bools {K : PySem.W.Frag} {G : Hp} : ∀ {bs : List Bool} {us : List V}, DqAll K G us (bs.map PyData.bool) → us = bs.map V.bl
  | [], _, h => by cases h; rfl
  | b :: bs, _, h => by
    cases h with
    | cons h1 h2 =>
      cases h1
      rw [dqAll_bools h2]
      rfl
def fAll : PyData → (PyData → Prop) → Prop := fun d k => ∃ bs : List Bool, d = .list (bs.map .bool) ∧ k (.bool (bs.all id))
def fAny : PyData → (PyData → Prop) → Prop := fun d k => ∃ bs : List Bool, d = .list (bs.map .bool) ∧ k (.bool (bs.any id))
theorem lc_all {K : PySem.W.Frag} : LC K (q1 fAll) (rAll K) := by
  refine lc_im1 (fun G H v d Q s hv q => ?_) (fun d k k' hk q => ?_)
  · obtain ⟨bs, rfl, q⟩ := q
    obtain ⟨a, us, rfl, ha, hds⟩ := hv.seqL s
    cases dqAll_bools hds
    exact ⟨a, bs, rfl, SqL.of ha, q _ _ (.old (.bl _))⟩
  · obtain ⟨bs, rfl, q⟩ := q
    exact ⟨bs, rfl, hk _ q⟩
theorem lc_any {K : PySem.W.Frag} : LC K (q1 fAny) (rAny K) := by
  refine lc_im1 (fun G H v d Q s hv q => ?_) (fun d k k' hk q => ?_)
  · obtain ⟨bs, rfl, q⟩ := q
    obtain ⟨a, us, rfl, ha, hds⟩ := hv.seqL s
    cases dqAll_bools hds
    exact ⟨a, bs, rfl, SqL.of ha, q _ _ (.old (.bl _))⟩
  · obtain ⟨bs, rfl, q⟩ := q
    exact ⟨bs, rfl, hk _ q⟩
/-- sorted(a list of numbers) -/
def fSorted : PyData → (List PyData → Prop) → Prop := fun d k => ∃ ns : List Int, d = .list (ns.map .int) ∧ ∀ ns' : List Int, ns'.Perm ns → ns'.Pairwise (· ≤ ·) → k (ns'.map .int)
theorem dqAll_ofInts {K : PySem.W.Frag} {G : Hp} : ∀ ns : List Int, DqAll K G (ns.map V.int) (ns.map PyData.int)
  | [] => .nil
  | n :: ns => .cons (.int n) (dqAll_ofInts ns)
theorem lc_sorted {K : PySem.W.Frag} : LC K (q1L fSorted) (rSortedI K) := by
  refine lc_own1 (fun G H v d Q s hv q => ?_) (fun d k k' hk q => ?_)
  · obtain ⟨ns, rfl, q⟩ := q
    obtain ⟨a, us, rfl, ha, hds⟩ := hv.seqL s
    cases dqAll_ints2 hds
    exact ⟨a, ns, rfl, SqL.of ha, fun ns' p h1 h2 hp => q ns' h1 h2 _ p (dqAll_ofInts ns') hp⟩
  · obtain ⟨ns, rfl, q⟩ := q
    exact ⟨ns, rfl, fun ns' h1 h2 => hk _ (q ns' h1 h2)⟩
end Pv

/-! Good books are let by. -/
namespace Wf
open PySem PySem.Spec L2
theorem wh_trueG {lo hi i : Int} (h : lo ≤ i ∧ i ≤ hi) : isWh lo hi (.int i) = true := by
  show (decide (lo ≤ i) && decide (i ≤ hi)) = true
  simp
  omega
theorem amissP_okG : ∀ (ps : List Int) (lo : Int) (k : Nat), (∀ p ∈ ps, lo ≤ p ∧ p ≤ 1000) → ps.Pairwise (· < ·) → amissP lo k (ps.map PyData.int) = none
  | [], _, _, _, _ => rfl
  | p :: ps, lo, k, h, w => by
    have h1 := h p List.mem_cons_self
    have w' := List.pairwise_cons.mp w
    show amissP lo k (.int p :: ps.map PyData.int) = none
    rw [amissP_yes (wh_trueG h1)]
    exact amissP_okG ps (p + 1) (k + 1) (fun q hq => ⟨by have := w'.1 q hq; omega, (h q (List.mem_cons_of_mem _ hq)).2⟩) w'.2
theorem isPr_dPG {s : Int} {p : Int × Int} (h : InP s p) : isPr s (dP p) = true := by
  unfold InP at h
  show (isWh 0 (s - 1) (.int p.1) && isWh 0 (s - 1) (.int p.2)) = true
  rw [wh_trueG (by omega), wh_trueG (by omega)]
  rfl
theorem amissT_okG {s : Int} : ∀ (t : Tab) (n : Nat), (∀ p ∈ t, InP s p) → amissT s n (t.map dP) = none
  | [], _, _ => rfl
  | p :: t, n, h => by
    show (if isPr s (dP p) = true then amissT s (n + 1) (t.map dP) else some n) = none
    rw [if_pos (isPr_dPG (h p List.mem_cons_self))]
    exact amissT_okG t (n + 1) fun q hq => h q (List.mem_cons_of_mem _ hq)
theorem tableA_okG {s : Int} {k : Nat} {t : Tab} (h : TabOk s t) : tableA s k (dT t) = none := by
  have e : tableA s k (dT t) = (amissT s 0 (t.map dP)).map fun n => (("pair" : Str), (k : Int) * (s * s) + n) := if_pos (by rw [List.length_map]; exact h.len)
  rw [e, amissT_okG t 0 h.inn]
  rfl
theorem amissB_okG {s : Int} : ∀ (ts : List Tab) (k : Nat), (∀ t ∈ ts, TabOk s t) → amissB s k (ts.map dT) = none
  | [], _, _ => rfl
  | t :: ts, k, h => by
    show (match tableA s k (dT t) with | some a => some a | none => amissB s (k + 1) (ts.map dT)) = none
    rw [tableA_okG (h t List.mem_cons_self)]
    exact amissB_okG ts (k + 1) fun q hq => h q (List.mem_cons_of_mem _ hq)
theorem bookA_okG {m : Int} {B : Book} (h : BookOk m B) : bookA (dB B) = none := by
  have hl := h.pac.len
  have := h.m1
  have := h.m5
  have ep : paceA (dI B.ps) = none := by
    show (if 1 ≤ (B.ps.map PyData.int).length ∧ (B.ps.map PyData.int).length ≤ 5 then amissP (-1000) 0 (B.ps.map PyData.int) else some 0) = none
    rw [if_pos (by rw [List.length_map]; omega)]
    exact amissP_okG _ _ _ h.pac.lo h.pac.rise
  show (match paceA (dI B.ps) with | some k => _ | none => _) = none
  rw [ep]
  have := h.s1
  have := h.s6
  have e1 : (decide (1 ≤ B.s) && decide (B.s ≤ 6)) = true := wh_trueG (lo := 1) (hi := 6) (by omega)
  show (if (decide (1 ≤ B.s) && decide (B.s ≤ 6)) = true then tabsA ((B.ps.map PyData.int).length : Int) B.s (.tuple (B.ts.map dT)) else _) = none
  rw [if_pos e1, List.length_map, hl]
  show (if ((B.ts.map dT).length : Int) = nT m then amissB B.s 0 (B.ts.map dT) else _) = none
  rw [if_pos (by rw [List.length_map]; exact h.tab.len)]
  exact amissB_okG _ _ h.tab.ok
end Wf

/-! Books by value; rows; is_whole, table_number, pair_at. -/
namespace Pv
open PySem PySem.Spec L2 Wf
variable {B : Bas}
theorem fn_okG {T : List NdefX.NTab} {P : Program} {w : World} {K : PySem.W.Frag} {mg : Str → Option Value} {base : Heap} {CX : CXT} {k : Nat} {f : Addr} {fd : FuncData} {x qual : Str} {params : Arguments} {body : List Stmt} {scope : Scope} {dvs : List V} {kws : List (Str × V)} {N prm : List Str} {psp : PSp} {p : EX → PSx} {m n : Nat}
    (F : FunD K x qual params body scope dvs kws f fd) (S : FnScope N prm scope) (hN : N.length = m) (hn : prm.length = n) (hnm : n ≤ m) (hlen : ∀ as Qp Ep, psp as Qp Ep → as.length = n)
    (hb : ∀ (cdv : Value) (A : Around), A.guards = some [] → ∀ (outer : List Env) (s : Shared) (H : Hp) (E : XK) (Bh Bt : Hp) (Ep : EX), Room k (A.deeper (PyProof.Rows.envOfC qual scope s.heap.objs.size f cdv)) → XOk K ⟨Bh, Bt, T⟩ Ep E → JSs (cxOf CX P w K mg base N qual scope f cdv A outer s H E) ⟨Bh, Bt, T⟩ body (p Ep))
    (hp : ∀ as Qp Ep, psp as Qp Ep → p Ep (endsP as Qp) (as ++ List.replicate (m - n) .un)) : FnG P w K mg base CX (k + 1) f fd prm (LSp K T psp) := by
  have ln : ∀ vs H Q E, LSp K T psp vs H Q E → vs.length = n := fun vs H Q E ⟨G, w, as, Qp, Ep, rep, _, h, _⟩ => by
    have := rep.len
    rw [List.length_map, hlen as Qp Ep h] at this
    exact this
  refine okG F S (fun vs H Q E h => by rw [hn]; exact ln vs H Q E h) fun cdv A hG outer s H vs Q E hr h => ?_
  obtain ⟨Bh, Bt, Ep, hx, hl⟩ := fn_lift (N := N) (p := p) hN (fun as Qp Ep h => by rw [hlen as Qp Ep h]; exact hp as Qp Ep h) h (by rw [ln vs H Q E h]; exact hnm)
  exact ⟨_, hb cdv A hG outer s H E Bh Bt Ep hr hx, hl⟩
/-! ### books -/
theorem four_of {vs : List V} {as : List Sl} {a b c d : Sl} (hl : (vs.map some).length = as.length) (ha : as = [a, b, c, d]) : ∃ x y z u, vs = [x, y, z, u] := by
  subst ha
  match vs, hl with
  | [x, y, z, u], _ => exact ⟨x, y, z, u, rfl⟩
def psp_book : PSp := fun as Q _ => ∃ m s f : Int, as = [.ow true .deal, .im (.int m), .im (.int s), .im (.int f)] ∧ 1 ≤ m ∧ m ≤ 5 ∧ 1 ≤ s ∧ s ≤ 6 ∧
  ∀ (ps : List Int) (ts : List Tab), PacesOk m ps → BookT m s f ts → BookOk m ⟨ps, s, ts⟩ → Q (.im (dB ⟨ps, s, ts⟩)) as
theorem conv_book {K : PySem.W.Frag} {T : List NdefX.NTab} (vs : List V) (H : Hp) (Q : VK) (E : XK) (h : LSp K T psp_book vs H Q E) : sp_book K vs H Q E := by
  obtain ⟨G, w, as, Qp, Ep, rep, _, ⟨m, s, f, rfl, m1, m5, s1, s6, hq⟩, k, _⟩ := h
  obtain ⟨x, y, z, u, rfl⟩ := four_of rep.len rfl
  obtain ⟨v, hv, d, l, rfl, wd, wl, dl⟩ := rep.sl 0 _ rfl
  obtain ⟨_, hu, dq⟩ := rep.sl 1 _ rfl
  cases hv
  cases hu
  cases dq
  obtain ⟨_, hu, dq⟩ := rep.sl 2 _ rfl
  cases hu
  cases dq
  obtain ⟨_, hu, dq⟩ := rep.sl 3 _ rfl
  cases hu
  cases dq
  refine ⟨d, l, m, s, f, rfl, m1, m5, s1, s6, dl, fun v ps ts H' but dl' hv pok bt => ?_⟩
  obtain ⟨st, r2⟩ := rep.deal (i := 0) rfl rfl wd wl dl but dl'
  obtain ⟨st3, r3⟩ := r2.pub (x := none) (fun _ _ _ h => h) .refl nofun
  have dq : Dq K (pubT G H' none) v (dB ⟨ps, s, ts⟩) := dp_pub (x := none) r2.sub (fun _ _ h => by cases h) _ _ (noL_dB _) hv
  exact k _ _ _ _ _ _ (hq ps ts pok bt ⟨pok, m1, m5, s1, s6, bt.ok⟩) rfl ((st.trans st3).trans .drop) (r3.ret dq)
/-- a new list of one's own, beside what the deal did -/
theorem Rep.newLst {K : PySem.W.Frag} {G H : Hp} {σ : St} {δ : List Sl} {w : Addr → Option Nat} (r : Rep K B G H σ δ [] [] w) {p : Addr} {us : List V} {ds : List PyData} (hp : G p = none) (hw : w p = none) (hb : B p = none) (hh : H p = some (.lst us)) (h : DqAll K G us ds) :
    ∃ w', (∀ a i, w' a = some i → w a ≠ none ∨ a = p) ∧ Rep K B G H σ δ [.ref p] [.ow (.lst ds)] w' := by
  refine ⟨fun a => if a = p then some 1 else w a, fun a i ha => ?_, r.sub, fun a i ha => ?_, r.len, fun i s hs => ?_, rfl, fun j u q hu hq => ?_, ⟨fun a o ho => ?_, r.bs.tt, r.bs.ta, r.bs.gt⟩⟩
  · by_cases e : a = p
    · exact .inr e
    · simp only [e, if_false] at ha
      exact .inl (by rw [ha]; exact Option.some_ne_none _)
  · by_cases e : a = p
    · subst e
      exact ⟨hp, by rw [hh]; exact Option.some_ne_none _, NoX.lst hh⟩
    · simp only [e, if_false] at ha
      exact r.out a i ha
  · refine (r.sl i s hs).mono (fun _ _ h => h) (fun _ _ _ h => h) fun a u ma _ => ?_
    by_cases e : a = p
    · subst e; rw [hw] at ma; cases ma
    · simp only [e, if_false]; exact ma
  · match j with
    | 0 =>
      simp only [List.getElem?_cons_zero, Option.some.injEq] at hu hq
      subst hu hq
      exact ⟨p, us, rfl, if_pos rfl, hh, h⟩
    | j + 1 => simp at hu
  · have := r.bs.to a o ho
    refine ⟨this.1, ?_, this.2.2⟩
    by_cases e : a = p
    · subst e; rw [hb] at ho; cases ho
    · simp only [e, if_false]; exact this.2.1
theorem nat_of_perm {n : Nat} {ns : List Int} (h : ns.Perm (iota (n : Int))) : ∃ ks : List Nat, ns = ks.map (fun k : Nat => (k : Int)) ∧ ks.Perm (List.range n) := by
  refine ⟨ns.map Int.toNat, ?_, ?_⟩
  · rw [List.map_map]
    have : ∀ x ∈ ns, ((fun k : Nat => (k : Int)) ∘ Int.toNat) x = x := fun x hx => by
      have := h.mem_iff.mp hx
      unfold iota at this
      obtain ⟨j, _, rfl⟩ := List.mem_map.mp this
      simp
    rw [List.map_congr_left this]
    simp
  · have := h.map Int.toNat
    unfold iota at this
    rw [List.map_map] at this
    have e : (Int.toNat ∘ fun i : Nat => (i : Int)) = id := by funext i; simp
    rw [e, List.map_id] at this
    simpa using this
theorem conv_mixed {K : PySem.W.Frag} {T : List NdefX.NTab} (vs : List V) (H : Hp) (Q : VK) (E : XK) (h : LSp K T psp_mixed vs H Q E) : sp_mixed vs H Q E := by
  obtain ⟨G, w, as, Qp, Ep, rep, _, ⟨n, rfl, n1, hq⟩, k, _⟩ := h
  obtain ⟨x, y, rfl⟩ := two_of rep.len rfl
  obtain ⟨v, hv, d, l, rfl, wd, wl, dl⟩ := rep.sl 0 _ rfl
  obtain ⟨u, hu, dq⟩ := rep.sl 1 _ rfl
  cases hv
  cases hu
  cases dq
  refine ⟨d, l, n, rfl, by omega, by omega, dl, fun F ns H' but dl' hF hF' pm => ?_⟩
  obtain ⟨st, r2⟩ := rep.deal (i := 0) rfl rfl wd wl dl but dl'
  obtain ⟨ks, rfl, pk⟩ := nat_of_perm pm
  have gF : G F = none := by
    cases e : G F with
    | none => rfl
    | some o => rw [rep.sub F o e] at hF; cases hF
  have wF : w F = none := by
    cases e : w F with
    | none => rfl
    | some i => exact absurd hF (rep.out F i e).2.1
  have bF : B0 T H w F = none := by
    cases e : B0 T H w F with
    | none => rfl
    | some o => rw [(B0_some e).1] at hF; cases hF
  have hd : DqAll K G ((ks.map fun k : Nat => (k : Int)).map V.int) (dN ks) := by
    have := dqAll_ofInts (K := K) (G := G) (ks.map fun k : Nat => (k : Int))
    rw [show dN ks = (ks.map fun k : Nat => (k : Int)).map PyData.int by rw [List.map_map]; rfl]
    exact this
  obtain ⟨w', hn, r3⟩ := r2.newLst gF wF bF hF' hd
  have st2 : Stp T G H w [.ow true .deal, .im (.int (n : Int))] G H' w' [.ow true .deal, .im (.int (n : Int))] := ⟨st.g, st.b, fun a i ha => by
    rcases hn a i ha with z | rfl
    · exact .inl z
    · exact .inr hF, st.p, .refl _, st.t, st.q⟩
  have r4 : Rep K (B0 T H w) G H' ([V.ref d, V.int (n : Int)].map some) [.ow true .deal, .un] [.ref F] [.ow (.lst (dN ks))] w' := ⟨r3.sub, r3.out, rfl, fun i s hs => by
    match i, hs with
    | 0, hs => exact r3.sl 0 s hs
    | 1, hs => cases hs; trivial
    | i + 2, hs => simp at hs, r3.tlen, r3.tm, r3.bs⟩
  exact k _ _ _ _ _ _ (hq ks pk) rfl ⟨st2.g, st2.b, st2.n, st2.p, fun i o hi => by
    match i, hi with
    | 0, hi => cases hi; exact ⟨_, rfl⟩
    | 1, hi => cases hi
    | i + 2, hi => simp at hi, st2.t, st2.q⟩ r4
end Pv

namespace Pv
open PySem PySem.Spec L2 Wf
/-! ### is_whole, is_letter -/
def isNumD : PyData → Bool
  | .int _ => true
  | _ => false
def p_is_number : PSx :=
    pRet (pAndV (pIsi "int" (pVar 0)) (pNotV (pIsi "bool" (pVar 0))))
def psp_is_number : PSp := fun as Q _ => ∃ d : PyData, as = [.im d] ∧ Q (.im (.bool (isNumD d))) [.un]
theorem hp_is_number (as : List Sl) (Qp : QE) (Ep : EX) (h : psp_is_number as Qp Ep) : p_is_number (endsP as Qp) (as ++ List.replicate 0 .un) := by
  obtain ⟨d, rfl, q⟩ := h
  cases d with
  | int i => exact ⟨_, rfl, _, rfl, _, rfl, _, rfl, _, _, rfl, q⟩
  | none => exact ⟨_, rfl, _, rfl, _, _, rfl, q⟩
  | bool b => exact ⟨_, rfl, _, rfl, _, rfl, _, rfl, _, _, rfl, q⟩
  | str b => exact ⟨_, rfl, _, rfl, _, _, rfl, q⟩
  | tuple b => exact ⟨_, rfl, _, rfl, _, _, rfl, q⟩
  | list b => exact ⟨_, rfl, _, rfl, _, _, rfl, q⟩
  | dict b => exact ⟨_, rfl, _, rfl, _, _, rfl, q⟩
def p_is_whole : PSx :=
    pRet (pAndV (pCall psp_is_number (pCons (pFz (pVar 0)) (pNil)) noX) (pChain qLeD qLeD (pVar 1) (pVar 0) (pVar 2)))
def psp_is_whole : PSp := fun as Q _ => ∃ (d : PyData) (lo hi : Int), as = [.im d, .im (.int lo), .im (.int hi)] ∧ Q (.im (.bool (isWh lo hi d))) [.un, .un, .un]
theorem hp_is_whole (as : List Sl) (Qp : QE) (Ep : EX) (h : psp_is_whole as Qp Ep) : p_is_whole (endsP as Qp) (as ++ List.replicate 0 .un) := by
  obtain ⟨d, lo, hi, rfl, q⟩ := h
  cases d with
  | int i =>
    refine ⟨_, _, rfl, _, rfl, List.nodup_nil, _, rfl, _, rfl, ?_⟩
    refine ⟨_, rfl, trivial, _, rfl, ?_⟩
    show if decide (lo ≤ i) = true then _ else _
    by_cases c : lo ≤ i
    · rw [if_pos (decide_eq_true c)]
      refine ⟨trivial, _, _, rfl, ?_⟩
      rw [show isWh lo hi (.int i) = decide (i ≤ hi) by simp [isWh, c]] at q
      exact q
    · rw [if_neg (by simp [c])]
      refine ⟨_, _, rfl, ?_⟩
      rw [show isWh lo hi (.int i) = false by simp [isWh, c]] at q
      exact q
  | none => exact ⟨_, _, rfl, _, rfl, List.nodup_nil, _, rfl, _, rfl, _, _, rfl, q⟩
  | bool b => exact ⟨_, _, rfl, _, rfl, List.nodup_nil, _, rfl, _, rfl, _, _, rfl, q⟩
  | str b => exact ⟨_, _, rfl, _, rfl, List.nodup_nil, _, rfl, _, rfl, _, _, rfl, q⟩
  | tuple b => exact ⟨_, _, rfl, _, rfl, List.nodup_nil, _, rfl, _, rfl, _, _, rfl, q⟩
  | list b => exact ⟨_, _, rfl, _, rfl, List.nodup_nil, _, rfl, _, rfl, _, _, rfl, q⟩
  | dict b => exact ⟨_, _, rfl, _, rfl, List.nodup_nil, _, rfl, _, rfl, _, _, rfl, q⟩
def p_is_letter : PSx :=
    pRet (pCall psp_is_whole (pCons (pFz (pVar 0)) (pCons (pFz (pK (.int 0))) (pCons (pFz (pSub (pVar 1) (pK (.int 2)))) (pNil)))) noX)
def psp_is_letter : PSp := fun as Q _ => ∃ k n : Int, as = [.im (.int k), .im (.int n)] ∧ Q (.im (.bool (decide (0 ≤ k) && decide (k ≤ n - 2)))) [.un, .un]
theorem hp_is_letter (as : List Sl) (Qp : QE) (Ep : EX) (h : psp_is_letter as Qp Ep) : p_is_letter (endsP as Qp) (as ++ List.replicate 0 .un) := by
  obtain ⟨k, n, rfl, q⟩ := h
  exact ⟨_, _, rfl, _, _, rfl, trivial, _, _, rfl, _, rfl, List.nodup_nil, _, _, _, rfl, _, _, rfl, q⟩
/-! ### table_number, pair_at -/
def p_table_number : PSx :=
    pRet (pAdd (pFdiv (pMul (pVar 0) (pSub (pVar 0) (pK (.int 1)))) (pK (.int 2))) (pVar 1))
def psp_table_number : PSp := fun as Q _ => ∃ u v : Int, as = [.im (.int u), .im (.int v)] ∧ 0 ≤ u ∧ u ≤ 1000 ∧ Q (.im (.int (tnum u v))) [.un, .un]
theorem cdiv2 (a : Int) : CDivW a 2 := wide_div (b := 2) (by decide) (by decide) (by decide) (by decide)
theorem hp_table_number (as : List Sl) (Qp : QE) (Ep : EX) (h : psp_table_number as Qp Ep) : p_table_number (endsP as Qp) (as ++ List.replicate 0 .un) := by
  obtain ⟨u, v, rfl, u0, u1, q⟩ := h
  exact ⟨trivial, .inl (.inl ⟨by omega, by omega⟩), cdiv2 _, _, _, rfl, q⟩
/-- the cell of a table, by value -/
theorem ix_tabD {B : Book} {m u v a b : Int} (ok : BookOk m B) (pl : Pl m B.s u v a b) : atI (B.ts.map dT) (tnum u v) = some (dT (B.tab u v)) :=
  Wf.atI_map (tnum_lt ok.m5 pl.u0 pl.u1 pl.v0 pl.v1).1 (Book.row ok pl).1
theorem ix_cellD {B : Book} {m u v a b : Int} (ok : BookOk m B) (pl : Pl m B.s u v a b) : atI ((B.tab u v).map dP) (a * B.s + b) = some (dP (B.at u v a b)) :=
  Wf.atI_map (ix_lt pl.a0 pl.a1 pl.b0 pl.b1).1 (Book.cell ok pl).1
def p_pair_at : PSx :=
    pSeq (pPar [5, 6] (pCons (pIx (pVar 0) (pK (.int 1))) (pCons (pIx (pVar 0) (pK (.int 2))) (pNil))))
    (pRet (pIx (pIx (pVar 6) (pCall psp_table_number (pCons (pFz (pVar 1)) (pCons (pFz (pVar 2)) (pNil))) noX)) (pAdd (pMul (pVar 3) (pVar 5)) (pVar 4))))
def psp_pair_at : PSp := fun as Q _ => ∃ (B : Book) (m u v a b : Int), as = [.im (dB B), .im (.int u), .im (.int v), .im (.int a), .im (.int b)] ∧ BookOk m B ∧ Pl m B.s u v a b ∧ Q (.im (dP (B.at u v a b))) [.un, .un, .un, .un, .un]
theorem hp_pair_at (as : List Sl) (Qp : QE) (Ep : EX) (h : psp_pair_at as Qp Ep) : p_pair_at (endsP as Qp) (as ++ List.replicate 2 .un) := by
  obtain ⟨B, m, u, v, a, b, rfl, ok, pl, q⟩ := h
  have := pl.u0
  have := pl.u1
  have := ok.m5
  have := pl.a0
  have := pl.a1
  have := ok.s6
  refine ⟨_, rfl, _, rfl, _, _, rfl, ?_⟩
  refine ⟨_, _, rfl, _, _, rfl, _, rfl, List.nodup_nil, u, v, rfl, by omega, by omega, ?_⟩
  refine ⟨_, ix_tabD ok pl, .inl (.inl ⟨by omega, by omega⟩), _, ix_cellD ok pl, _, _, rfl, q⟩
def p_ltpair : PSx :=
    pRet (pIx (pIx (pIx (pVar 0) (pK (.int 2))) (pAdd (pFdiv (pMul (pVar 1) (pSub (pVar 1) (pK (.int 1)))) (pK (.int 2))) (pVar 2))) (pAdd (pMul (pVar 3) (pIx (pVar 0) (pK (.int 1)))) (pVar 4)))
def psp_ltpair : PSp := psp_pair_at
theorem hp_ltpair (as : List Sl) (Qp : QE) (Ep : EX) (h : psp_ltpair as Qp Ep) : p_ltpair (endsP as Qp) (as ++ List.replicate 0 .un) := by
  obtain ⟨B, m, u, v, a, b, rfl, ok, pl, q⟩ := h
  have := pl.u0
  have := pl.u1
  have := ok.m5
  have := pl.a0
  have := pl.a1
  have := ok.s6
  refine ⟨_, rfl, trivial, .inl (.inl ⟨by omega, by omega⟩), cdiv2 _, ?_⟩
  refine ⟨_, ix_tabD ok pl, _, rfl, .inl (.inl ⟨by omega, by omega⟩), _, ix_cellD ok pl, _, _, rfl, q⟩
/-! ### rows -/
abbrev Wk := Int × Int
abbrev dR (r : List Wk) : PyData := .tuple (r.map dP)
def RowOk (m s : Int) (r : List Wk) : Prop := ∀ p ∈ r, 0 ≤ p.1 ∧ p.1 < m ∧ 0 ≤ p.2 ∧ p.2 < s
def wk (r : List Wk) (k : Nat) : Wk := r.getD k (0, 0)
def canP (r : List Wk) (k : Int) : Bool := (decide (0 ≤ k) && decide (k ≤ (r.length : Int) - 2)) && decide ((wk r (k.toNat + 1)).1 < (wk r k.toNat).1)
def passR (B : Book) (r : List Wk) (k : Nat) : List Wk :=
  (r.set k ((wk r (k + 1)).1, (B.at (wk r k).1 (wk r (k + 1)).1 (wk r k).2 (wk r (k + 1)).2).1)).set (k + 1) ((wk r k).1, (B.at (wk r k).1 (wk r (k + 1)).1 (wk r k).2 (wk r (k + 1)).2).2)
theorem wk_get {r : List Wk} {k : Nat} (h : k < r.length) : r[k]? = some (wk r k) := by
  unfold wk
  simp [List.getD, List.getElem?_eq_getElem h]
theorem wk_ok {m s : Int} {r : List Wk} {k : Nat} (ok : RowOk m s r) (h : k < r.length) : 0 ≤ (wk r k).1 ∧ (wk r k).1 < m ∧ 0 ≤ (wk r k).2 ∧ (wk r k).2 < s := ok _ (List.mem_of_getElem? (wk_get h))
theorem passR_len (B : Book) (r : List Wk) (k : Nat) : (passR B r k).length = r.length := by unfold passR; rw [List.length_set, List.length_set]
theorem pl_of {B : Book} {m : Int} {r : List Wk} {k : Nat} (ok : RowOk m B.s r) (h : k + 1 < r.length) (c : (wk r (k + 1)).1 < (wk r k).1) : Pl m B.s (wk r k).1 (wk r (k + 1)).1 (wk r k).2 (wk r (k + 1)).2 := by
  obtain ⟨a1, a2, a3, a4⟩ := wk_ok ok (show k < r.length by omega)
  obtain ⟨b1, b2, b3, b4⟩ := wk_ok ok h
  exact ⟨by omega, a2, b1, c, a3, a4, b3, b4⟩
theorem passR_ok {B : Book} {m : Int} {r : List Wk} {k : Nat} (bk : BookOk m B) (ok : RowOk m B.s r) (h : k + 1 < r.length) (c : (wk r (k + 1)).1 < (wk r k).1) : RowOk m B.s (passR B r k) := by
  intro p hp
  have ii := (Book.cell bk (pl_of ok h c)).2
  obtain ⟨a1, a2, a3, a4⟩ := wk_ok ok (show k < r.length by omega)
  obtain ⟨b1, b2, b3, b4⟩ := wk_ok ok h
  unfold passR at hp
  rcases List.mem_or_eq_of_mem_set hp with hp | rfl
  · rcases List.mem_or_eq_of_mem_set hp with hp | rfl
    · exact ok p hp
    · exact ⟨b1, b2, ii.1, ii.2.1⟩
  · exact ⟨a1, a2, ii.2.2.1, ii.2.2.2⟩
/-- led as far as can be: the number of the letter that can't be, or the row -/
def ledG (B : Book) : Nat → List Wk → List Int → Nat ⊕ List Wk
  | _, r, [] => .inr r
  | n, r, k :: ks => if canP r k = true then ledG B (n + 1) (passR B r k.toNat) ks else .inl n
def dK (ks : List Int) : PyData := .tuple (ks.map .int)
def ledQ (C : Addr) (Q : QE) (Ep : EX) : Nat ⊕ List Wk → Prop
  | .inl n => Ep C [("at", nD n)]
  | .inr r => Q (.im (dR r)) [.un, .un, .un]
def psp_led_by (cNoPassing : Addr) : PSp := fun as Q Ep => ∃ (B : Book) (m : Int) (r : List Wk) (ks : List Int), as = [.im (dB B), .im (dR r), .im (dK ks)] ∧ BookOk m B ∧ RowOk m B.s r ∧ r.length ≤ 1000 ∧ ks.length ≤ 1000 ∧ ledQ cNoPassing Q Ep (ledG B 0 r ks)
def pb_led_by_1 (cNoPassing : Addr) (Ep : EX) : PSx :=
    pSeq (pIf (pNot (pT (pCall psp_is_letter (pCons (pFz (pVar 5)) (pCons (pFz (pC (q1 fLen) (pCons (pVar 3) (pNil)))) (pNil))) noX))) (pRaise cNoPassing ["at"] (pCons (pFz (pVar 4)) (pNil)) Ep) (pNext))
    (pSeq (pAsg (pTup (pCons (pIx (pVar 3) (pVar 5)) (pCons (pIx (pVar 3) (pAdd (pVar 5) (pK (.int 1)))) (pNil)))) (gT 2 (gsC (gT 2 (gsC (gN 8) (gsC (gN 9) (gsN)))) (gsC (gT 2 (gsC (gN 10) (gsC (gN 11) (gsN)))) (gsN)))))
    (pSeq (pIf (pT (pLe (pVar 8) (pVar 10))) (pRaise cNoPassing ["at"] (pCons (pFz (pVar 4)) (pNil)) Ep) (pNext))
    (pSeq (pAsg (pCall psp_pair_at (pCons (pFz (pVar 0)) (pCons (pFz (pVar 8)) (pCons (pFz (pVar 10)) (pCons (pFz (pVar 9)) (pCons (pFz (pVar 11)) (pNil)))))) noX) (gT 2 (gsC (gN 6) (gsC (gN 7) (gsN)))))
    (pAsg (pTup (pCons (pTup (pCons (pVar 10) (pCons (pVar 6) (pNil)))) (pCons (pTup (pCons (pVar 8) (pCons (pVar 7) (pNil)))) (pNil)))) (gT 2 (gsC (gSx (pVar 3) (pVar 5)) (gsC (gSx (pVar 3) (pAdd (pVar 5) (pK (.int 1)))) (gsN))))))))
def p_led_by (cNoPassing : Addr) (Ep : EX) : PSx :=
    pSeq (pSet 3 (pC (q1L fListOf) (pCons (pVar 1) (pNil))))
    (pSeq (pFor [4, 5, 6, 7, 8, 9, 10, 11] (iEn (pCons (pVar 2) (pNil))) (gT 2 (gsC (gN 4) (gsC (gN 5) (gsN)))) (pb_led_by_1 cNoPassing Ep))
    (pRet (pC (q1 fTupleOf) (pCons (pVar 3) (pNil)))))
abbrev stLed (B : Book) (r : List Wk) (ks : List Int) (r' : List Wk) (s4 s5 s6 s7 s8 s9 s10 s11 : Sl) : List Sl := [.im (dB B), .im (dR r), .im (dK ks), .ow false (.lst (r'.map dP)), s4, s5, s6, s7, s8, s9, s10, s11]
theorem atW {r : List Wk} {k : Int} {j : Nat} (h : k = (j : Int)) (hj : j < r.length) : atI (r.map dP) k = some (dP (wk r j)) := by
  subst h
  exact atI_nat (by rw [List.getElem?_map, wk_get hj]; rfl)
theorem ixNn {n j : Nat} {i : Int} (h : i = (j : Int)) (hj : j < n) : ixN n i = some j := by subst h; exact ixN_nat hj
theorem setW (r : List Wk) (k : Nat) (p : Wk) : (r.map dP).set k (dP p) = (r.set k p).map dP := by rw [List.map_set]
theorem hp_led_turn {cNoPassing : Addr} {Ep : EX} {E : PEn} {B : Book} {m : Int} {r r' : List Wk} {ks : List Int} {n : Nat} {k : Int} (bk : BookOk m B) (ok : RowOk m B.s r') (l3 : r'.length ≤ 1000)
    (hx : canP r' k = false → Ep cNoPassing [("at", nD n)]) (hy : canP r' k = true → E.nx (stLed B r ks (passR B r' k.toNat) (.im (nD n)) (.im (.int k)) (.im (.int (B.at (wk r' k.toNat).1 (wk r' (k.toNat + 1)).1 (wk r' k.toNat).2 (wk r' (k.toNat + 1)).2).1)) (.im (.int (B.at (wk r' k.toNat).1 (wk r' (k.toNat + 1)).1 (wk r' k.toNat).2 (wk r' (k.toNat + 1)).2).2)) (.im (.int (wk r' k.toNat).1)) (.im (.int (wk r' k.toNat).2)) (.im (.int (wk r' (k.toNat + 1)).1)) (.im (.int (wk r' (k.toNat + 1)).2)))) :
    pb_led_by_1 cNoPassing Ep E (stLed B r ks r' (.im (nD n)) (.im (.int k)) .un .un .un .un .un .un) := by
  refine ⟨_, _, rfl, _, _, rfl, _, rfl, List.nodup_nil, k, ((r'.map dP).length : Int), rfl, _, rfl, ?_⟩
  rw [List.length_map]
  show if (!(decide (0 ≤ k) && decide (k ≤ (r'.length : Int) - 2))) = true then _ else _
  by_cases c : (decide (0 ≤ k) && decide (k ≤ (r'.length : Int) - 2)) = true
  · rw [c]
    simp only [Bool.and_eq_true, decide_eq_true_eq] at c
    obtain ⟨j, rfl⟩ := Int.eq_ofNat_of_zero_le c.1
    have ej : ((j : Int)).toNat = j := by simp
    rw [ej] at hy
    have hj : j + 1 < r'.length := by omega
    refine ⟨_, atW rfl (show j < r'.length by omega), _, atW (j := j + 1) (by omega) hj, _, _, rfl, rfl, rfl, rfl, rfl, rfl, rfl, ?_⟩
    refine ⟨trivial, _, rfl, ?_⟩
    show if decide ((wk r' j).1 ≤ (wk r' (j + 1)).1) = true then _ else _
    by_cases c2 : (wk r' j).1 ≤ (wk r' (j + 1)).1
    · rw [if_pos (decide_eq_true c2)]
      refine ⟨_, _, rfl, _, _, rfl, rfl, hx ?_⟩
      unfold canP
      rw [ej]
      simp
      omega
    · rw [if_neg (by simp [c2])]
      have c3 : (wk r' (j + 1)).1 < (wk r' j).1 := by omega
      have cc : canP r' (j : Int) = true := by
        unfold canP
        rw [ej]
        simp
        omega
      refine ⟨_, _, rfl, _, _, rfl, _, _, rfl, _, _, rfl, _, _, rfl, _, rfl, List.nodup_nil, B, m, _, _, _, _, rfl, bk, pl_of ok hj c3, ?_⟩
      refine ⟨_, _, rfl, rfl, rfl, ?_⟩
      refine ⟨_, _, rfl, rfl, ?_⟩
      refine ⟨_, _, _, _, j, rfl, rfl, rfl, ixNn rfl (by rw [List.length_map]; omega), ?_⟩
      refine ⟨_, _, _, _, j + 1, rfl, rfl, rfl, ixNn (by omega) (by rw [List.length_set, List.length_map]; omega), rfl, ?_⟩
      have := hy cc
      have e : ((r'.map dP).set j (.tuple [.int (wk r' (j + 1)).1, .int (B.at (wk r' j).1 (wk r' (j + 1)).1 (wk r' j).2 (wk r' (j + 1)).2).1])).set (j + 1) (.tuple [.int (wk r' j).1, .int (B.at (wk r' j).1 (wk r' (j + 1)).1 (wk r' j).2 (wk r' (j + 1)).2).2]) = (passR B r' j).map dP := by
        unfold passR
        rw [← setW, ← setW]
        rfl
      show E.nx (_ :: _ :: _ :: Sl.ow false (.lst (((r'.map dP).set j (.tuple [.int (wk r' (j + 1)).1, .int (B.at (wk r' j).1 (wk r' (j + 1)).1 (wk r' j).2 (wk r' (j + 1)).2).1])).set (j + 1) (.tuple [.int (wk r' j).1, .int (B.at (wk r' j).1 (wk r' (j + 1)).1 (wk r' j).2 (wk r' (j + 1)).2).2]))) :: _)
      rw [e]
      exact this
  · have c' : (decide (0 ≤ k) && decide (k ≤ (r'.length : Int) - 2)) = false := by simpa using c
    rw [c']
    refine ⟨_, _, rfl, _, _, rfl, rfl, hx ?_⟩
    unfold canP
    rw [c']
    rfl
theorem hp_led_by (cNoPassing : Addr) (as : List Sl) (Qp : QE) (Ep : EX) (h : psp_led_by cNoPassing as Qp Ep) : p_led_by cNoPassing Ep (endsP as Qp) (as ++ List.replicate 9 .un) := by
  obtain ⟨B, m, r, ks, rfl, bk, ok, l1, l2, q⟩ := h
  refine ⟨_, _, rfl, ?_⟩
  refine ⟨_, _, _, rfl, rfl, ?_⟩
  refine ⟨fun i δ => ∃ r', RowOk m B.s r' ∧ r'.length = r.length ∧ ledG B 0 r ks = ledG B i r' (ks.drop i) ∧ δ = stLed B r ks r' .un .un .un .un .un .un .un .un, ⟨r, ok, rfl, rfl, rfl⟩, ?_, ?_⟩
  · rintro i d δ hd ⟨r', ok', hl, he, rfl⟩
    rw [enD_get, List.getElem?_map] at hd
    obtain ⟨d0, h0, rfl⟩ := Option.map_eq_some_iff.mp hd
    obtain ⟨k, hk, rfl⟩ := Option.map_eq_some_iff.mp h0
    refine ⟨rfl, rfl, ?_⟩
    have hi := (List.getElem?_eq_some_iff.mp hk).1
    have ed : ks.drop i = k :: ks.drop (i + 1) := by
      rw [List.drop_eq_getElem_cons hi, (List.getElem?_eq_some_iff.mp hk).2]
    rw [ed] at he
    have e0 : (.int ((0 + i : Nat) : Int) : PyData) = nD i := by rw [Nat.zero_add]
    show pb_led_by_1 _ _ _ (stLed B r ks r' (.im (.int ((0 + i : Nat) : Int))) (.im (.int k)) .un .un .un .un .un .un)
    rw [e0]
    refine hp_led_turn bk ok' (by omega) (fun c => ?_) (fun c => ⟨passR B r' k.toNat, ?_, by rw [passR_len]; exact hl, ?_, rfl⟩)
    · rw [he] at q
      simp only [ledG, c] at q
      exact q
    · simp only [canP, Bool.and_eq_true, decide_eq_true_eq] at c
      refine passR_ok bk ok' (by omega) c.2
    · rw [he]
      simp only [ledG, c, if_true]
  · rintro δ ⟨r', ok', hl, he, rfl⟩
    rw [enD_len, List.length_map, List.drop_length] at he
    rw [he] at q
    exact ⟨_, _, rfl, q⟩
def p_pass_one (cNoPassing : Addr) (Ep : EX) : PSx :=
    pRet (pCall (psp_led_by cNoPassing) (pCons (pFz (pVar 0)) (pCons (pFz (pVar 1)) (pCons (pFz (pTup (pCons (pVar 2) (pNil)))) (pNil)))) Ep)
def psp_pass_one (cNoPassing : Addr) : PSp := fun as Q Ep => ∃ (B : Book) (m : Int) (r : List Wk) (k : Int), as = [.im (dB B), .im (dR r), .im (.int k)] ∧ BookOk m B ∧ RowOk m B.s r ∧ r.length ≤ 1000 ∧ ledQ cNoPassing Q Ep (ledG B 0 r [k])
theorem hp_pass_one (cNoPassing : Addr) (as : List Sl) (Qp : QE) (Ep : EX) (h : psp_pass_one cNoPassing as Qp Ep) : p_pass_one cNoPassing Ep (endsP as Qp) (as ++ List.replicate 0 .un) := by
  obtain ⟨B, m, r, k, rfl, bk, ok, l1, q⟩ := h
  refine ⟨_, _, rfl, _, _, rfl, _, _, rfl, _, rfl, List.nodup_nil, B, m, r, [k], rfl, bk, ok, l1, by simp, ?_⟩
  revert q
  cases ledG B 0 r [k] with
  | inl n => exact id
  | inr r' => exact fun q => ⟨_, _, rfl, q⟩
end Pv

/-! x += list; sorted(list of tuples of numbers). -/
namespace Pv
open PySem PySem.Spec L2 Wf
variable {B : Bas}
theorem set_selfE {α : Type} {l : List α} {i : Nat} {x : α} (h : l[i]? = some x) : l.set i x = l := by
  obtain ⟨hi, e⟩ := List.getElem?_eq_some_iff.mp h
  rw [← e]
  exact List.set_getElem_self hi
def pAug (i : Nat) (pa : PX) : PSx := fun E δ => ∃ b0 ds0, δ[i]? = some (.ow b0 (.lst ds0)) ∧ pa δ fun r δ1 => ∃ as δ2 b ds es, fzAll δ1 [r] = some (as, δ2) ∧ δ2[i]? = some (.ow b (.lst ds)) ∧ as = [.list es] ∧ ds.length + es.length ≤ sizeLine ∧ E.nx (δ2.set i (.ow b (.lst (ds ++ es))))
theorem js_aug {X : Cx} {i : Nat} {x : Str} {e : Expr} {pa : PX} {pos pos' : Pos} (hN : X.N.Nodup) (hi : X.N[i]? = some x) (hx : Loc X.env.scope x) (he : JE X B e pa) (hf : X.fn x = true ∨ X.env.scope.names.lookup x = some .local := by first | exact .inl rfl | exact .inr rfl | assumption) :
    JS X B (.AugAssign (.Name x pos') .Add e pos) (pAug i pa) := PS_wk (ps_aug hN hi hx he iop_ext hf) fun D σ H ⟨G, w, δ, E, rep, ⟨b0, ds0, e0, q⟩, ek⟩ => by
  obtain ⟨a0, us0, hσ0, _, ha0, _⟩ := rep.own e0
  refine ⟨.ref a0, hσ0, G, w, δ, _, rep, q, fun r δ1 y H1 G1 w1 q1 s1 rep1 => ?_⟩
  obtain ⟨as, δ2, b, ds, es, e1, e2, rfl, hl, q1⟩ := q1
  obtain ⟨G3, w3, s3, r3⟩ := rep1.fzs e1
  obtain ⟨a, us, hσ, hw, ha, hd⟩ := r3.own e2
  rw [hσ0] at hσ
  cases hσ
  have hy : DqAll _ G3 [y] [.list es] := r3.ims
  cases hy with
  | cons h1 hn =>
    cases h1 with
    | lst hs h2 =>
      obtain ⟨s4, r4⟩ := r3.wr e2 hσ0 hw ha (dqAll_append hd h2)
      refine ⟨_, _, us, _, rfl, rfl, ha, r3.sub _ _ hs, by rw [dqAll_len hd, dqAll_len h2]; exact hl, ?_⟩
      show D.nx (σ.set i (some (.ref _))) _
      rw [set_selfE hσ0]
      exact ek.nx _ _ _ G3 _ q1 (((s1.trans s3).trans s4).trans .drop) r4.drop .refl
/-! ### sorted(list of tuples of d numbers in [0, B)) -/
theorem dq_perm {K : PySem.W.Frag} {G : Hp} {us ys : List V} (h : ys.Perm us) : ∀ {nss : List (List Int)}, DqAll K G us (nss.map dK) → ∃ mss : List (List Int), mss.Perm nss ∧ DqAll K G ys (mss.map dK) := by
  induction h with
  | nil => exact fun {nss} h => ⟨nss, .refl _, h⟩
  | cons x h ih =>
    intro nss hd
    match nss, hd with
    | n :: nss, .cons h1 h2 =>
      obtain ⟨mss, p, q⟩ := ih h2
      exact ⟨n :: mss, p.cons n, .cons h1 q⟩
  | swap x y l =>
    intro nss hd
    match nss, hd with
    | n :: m :: nss, .cons h1 (.cons h2 h3) => exact ⟨m :: n :: nss, .swap _ _ _, .cons h2 (.cons h1 h3)⟩
  | trans h1 h2 ih1 ih2 =>
    intro nss hd
    obtain ⟨mss, p, q⟩ := ih2 hd
    obtain ⟨lss, p2, q2⟩ := ih1 q
    exact ⟨lss, p2.trans p, q2⟩
theorem dq_tupI {K : PySem.W.Frag} {G H : Hp} {v : V} {ns : List Int} (s : ∀ a o, G a = some o → H a = some o) (h : Dq K G v (dK ns)) : TupI K H v ns := by
  unfold dK at h
  cases h with
  | tup hs hd =>
    cases dqAll_ints2 hd
    refine ⟨_, rfl, ?_⟩
    rcases hs with (h | ⟨o, h⟩) | h
    · exact .inl (.inl (s _ _ h))
    · exact .inl (.inr ⟨o, s _ _ h⟩)
    · exact .inr h
theorem dq_pairs {K : PySem.W.Frag} {G H : Hp} {R : List Int → List Int → Prop} (s : ∀ a o, G a = some o → H a = some o) : ∀ {mss : List (List Int)} {ys : List V}, DqAll K G ys (mss.map dK) → ys.Pairwise (fun x y => ∀ n m, TupI K H x n → TupI K H y m → R n m) → mss.Pairwise R
  | [], _, _, _ => .nil
  | m :: mss, _, .cons (vs := ys) h1 h2, hp => by
    have hp := List.pairwise_cons.mp hp
    refine List.pairwise_cons.mpr ⟨fun n hn => ?_, dq_pairs s h2 hp.2⟩
    have go : ∀ {mss : List (List Int)} {ys : List V}, DqAll K G ys (mss.map dK) → n ∈ mss → ∃ y ∈ ys, TupI K H y n := by
      intro mss
      induction mss with
      | nil => intro _ _ h; cases h
      | cons k ks ih =>
        intro ys hd hm
        match ys, hd with
        | y :: ys, .cons g1 g2 =>
          rcases List.mem_cons.mp hm with rfl | hm
          · exact ⟨y, List.mem_cons_self, dq_tupI s g1⟩
          · obtain ⟨z, hz, t⟩ := ih g2 hm
            exact ⟨z, List.mem_cons_of_mem _ hz, t⟩
    obtain ⟨y, hy, t⟩ := go h2 hn
    exact hp.1 y hy _ _ (dq_tupI s h1) t
def fSortT (d : Nat) (B : Int) : PyData → (List PyData → Prop) → Prop := fun x k => ∃ nss : List (List Int), x = .list (nss.map dK) ∧ nss.length < 64 ∧ (∀ ns ∈ nss, ns.length = d ∧ TS.Bd B ns) ∧ ∀ mss : List (List Int), mss.Perm nss → mss.Pairwise (fun n m => TS.code B n ≤ TS.code B m) → k (mss.map dK)
theorem dq_each {K : PySem.W.Frag} {G H : Hp} (s : ∀ a o, G a = some o → H a = some o) {nss : List (List Int)} : ∀ {us : List V}, DqAll K G us (nss.map dK) → ∀ x ∈ us, ∃ ns ∈ nss, TupI K H x ns := by
  induction nss with
  | nil => intro us h x hx; cases h; cases hx
  | cons n nss ih =>
    intro us h x hx
    match us, h with
    | u :: us, .cons h1 h2 =>
      rcases List.mem_cons.mp hx with rfl | hx
      · exact ⟨n, List.mem_cons_self, dq_tupI s h1⟩
      · obtain ⟨m, hm, t⟩ := ih h2 x hx
        exact ⟨m, List.mem_cons_of_mem _ hm, t⟩
theorem lc_sortT {K : PySem.W.Frag} {d : Nat} {C : Int} : LC K (q1L (fSortT d C)) (rSortU K d C) := by
  refine lc_own1 (fun G H v x Q s hv q => ?_) (fun x k k' hk q => ?_)
  · obtain ⟨nss, rfl, h64, hb, q⟩ := q
    obtain ⟨a, us, rfl, ha, hds⟩ := hv.seqL s
    have hl : us.length = nss.length := by rw [dqAll_len hds, List.length_map]
    refine ⟨a, us, rfl, SqL.of ha, by omega, fun x hx => ?_, fun ys p hp ho hn => ?_⟩
    · obtain ⟨ns, hm, t⟩ := dq_each s hds x hx
      exact ⟨ns, t, hb ns hm⟩
    · obtain ⟨mss, pm, hd⟩ := dq_perm hp hds
      exact q mss pm (dq_pairs s hd ho) _ p hd hn
  · obtain ⟨nss, rfl, h64, hb, q⟩ := q
    exact ⟨nss, rfl, h64, hb, fun mss p o => hk _ (q mss p o)⟩
end Pv

/-! Comprehensions with two fors, by value. -/
namespace Pv
open PySem PySem.Spec L2 Wf
variable {B : Bas}
/-- the second for's turns; acc is what was made before -/
def comp1I (g : PGx) (tt : PB) (elt : PX) (vs : List Nat) (Kk : List PyData → List Sl → Prop) (ds : List PyData) (acc : List PyData) (δ : List Sl) : Prop := ∃ I : Nat → List PyData → List Sl → Prop, I 0 acc δ ∧
  (∀ (i : Nat) d acc δ, ds[i]? = some d → I i acc δ → g d δ fun δ2 => tt δ2 fun b δ3 => if b = true then elt δ3 fun r δ4 => ∃ e δ5, fz δ4 r = some (e, δ5) ∧ acc.length < sizeLine ∧ I (i + 1) (acc ++ [e]) (wipeS δ5 vs) else I (i + 1) acc (wipeS δ3 vs)) ∧ ∀ acc δ, I ds.length acc δ → Kk acc δ
def comp2I (g : PGx) (tt : PB) (it1 : PIx) (g1 : PGx) (tt1 : PB) (elt : PX) (vs vs1 : List Nat) (Kk : List PyData → List Sl → Prop) (ds : List PyData) (δ : List Sl) : Prop := ∃ I : Nat → List PyData → List Sl → Prop, I 0 [] δ ∧
  (∀ (i : Nat) d acc δ, ds[i]? = some d → I i acc δ → g d δ fun δ2 => tt δ2 fun b δ3 => if b = true then it1 δ3 fun es δ4 => comp1I g1 tt1 elt vs1 (fun acc δ => I (i + 1) acc (wipeS δ vs)) es acc (wipeS δ4 vs1) else I (i + 1) acc (wipeS δ3 vs)) ∧ ∀ acc δ, I ds.length acc δ → Kk acc δ
def pComp2 (it : PIx) (g : PGx) (tt : PB) (it1 : PIx) (g1 : PGx) (tt1 : PB) (elt : PX) (vs vs1 : List Nat) : PX := fun δ Q => it δ fun ds δ1 => noPin δ1 vs ∧ comp2I g tt it1 g1 tt1 elt vs vs1 (fun acc δ2 => Q (.ow (.lst acc)) (restS δ1 δ2 vs)) ds (wipeS δ1 vs)
theorem lc_lift2 {K : PySem.W.Frag} {pi pi1 : PIx} {ts ts1 vs vs1 : List Nat} {g g1 : PGx} {tt tt1 : PB} {elt : PX} {σ : St} {H : Hp} {Q : VK} (hts : ∀ i ∈ ts, i ∈ vs) (hts1 : ∀ i ∈ ts1, i ∈ vs1) (hv : ∀ i ∈ vs1, i ∈ vs) (h : LE K B (pComp2 pi g tt pi1 g1 tt1 elt vs vs1) σ H Q) :
    tLc2 (LI K B pi) (LG K B ts g) (LB K B tt) (LI K B pi1) (LG K B ts1 g1) (LB K B tt1) (LE K B elt) vs vs1 σ H Q := by
  obtain ⟨G, w, δ, Qp, rep, q, k⟩ := h
  refine ⟨G, w, δ, _, rep, q, fun ds δ1 J H1 G1 w1 q1 s1 rep1 itd D hD => ?_⟩
  obtain ⟨np, I, i0, is, ie⟩ := q1
  obtain ⟨w2, s2, r2⟩ := rep1.retLst (us := []) (ds := []) hD .nil
  have noA : ∀ acc : List PyData, ∀ p ∈ [R.ow (.lst acc)], isAt p = false := fun acc p hp => by rw [List.mem_singleton.mp hp]; rfl
  have ni : ∀ (i : Nat) o, δ[i]? = some (Sl.ow true o) → i ∉ vs := fun i o hi => by
    obtain ⟨o1, h1⟩ := s1.pn i o hi
    exact fun z => np i z o1 h1
  have pnw : ∀ {G' H' : Hp} {w' : Addr → Option Nat} {δ' : List Sl}, Stp B.T G H w δ G' H' w' δ' → Stp B.T G H w δ G' H' w' (wipeS δ' vs) := fun s => s.reδ fun i o hi => by
    obtain ⟨o1, h1⟩ := s.pn i o hi
    exact ⟨o1, by rw [wipeS_ne (ni i o hi)]; exact h1⟩
  have pnw1 : ∀ {G' H' : Hp} {w' : Addr → Option Nat} {δ' : List Sl}, Stp B.T G H w δ G' H' w' δ' → Stp B.T G H w δ G' H' w' (wipeS δ' vs1) := fun s => s.reδ fun i o hi => by
    obtain ⟨o1, h1⟩ := s.pn i o hi
    exact ⟨o1, by rw [wipeS_ne (fun z => ni i o hi (hv i z))]; exact h1⟩
  refine ⟨fun i m H' => m = ds.length - i ∧ i ≤ ds.length ∧ ∃ G' w' δ' acc, Stp B.T G H w δ G' H' w' δ' ∧ Same G1 G' ∧ Rep K B G' H' (wipe σ vs) δ' [.ref D] [.ow (.lst acc)] w' ∧ I i acc δ', ⟨ds.length, rfl, Nat.zero_le _, G1, w2, wipeS δ1 vs, [], pnw (s1.trans s2), fun _ _ h => h, r2.reσ (by rw [wipe_length, wipeS_len]; exact r2.len) (fun i s hi => ?_) (noA _), i0⟩, ?_⟩
  · rcases wipeS_get hi with e | ⟨e1, e2⟩
    · exact .inl e
    · exact .inr ⟨e1, wipe_ne e2⟩
  rintro i m H' ⟨rfl, hi, G', w', δ', acc, st, sg, rp, q⟩
  by_cases hlt : i < ds.length
  · have q := is i _ acc δ' (List.getElem?_eq_getElem hlt) q
    refine .inr ⟨itd.go G' H' i sg rp.sub hlt, fun H2 => i + 1 ≤ ds.length ∧ ∃ G' w' δ' acc, Stp B.T G H w δ G' H2 w' δ' ∧ Same G1 G' ∧ Rep K B G' H2 (wipe σ vs) δ' [.ref D] [.ow (.lst acc)] w' ∧ I (i + 1) acc δ', fun H2 z => ⟨ds.length - (i + 1), by omega, rfl, z⟩, fun x H2 y => ?_⟩
    obtain ⟨d, hd, res⟩ := itd.yld G' H' i x H2 sg rp.sub hlt y
    rw [List.getElem?_eq_getElem hlt] at hd
    cases hd
    obtain ⟨G2, s2, r2, hq⟩ := rp.res res
    refine ⟨G2, _, δ', _, _, r2.drop, hq, q, fun δ3 σ3 H3 G3 w3 q3 s3 r3 p3 t3 => ⟨wipe_eq t3 hts, ?_⟩⟩
    obtain ⟨w4, s4, r4⟩ := r2.frameS (noA _) s3 r3
    have back : ∀ {G9 H9 : Hp} {w9 : Addr → Option Nat} {σ9 : St} {δ9 : List Sl} {acc9 : List PyData}, σ9.length = (wipe σ vs).length → (∀ k, k ∉ vs → σ9[k]? = (wipe σ vs)[k]?) → Rep K B G9 H9 σ9 δ9 [.ref D] [.ow (.lst acc9)] w9 → Rep K B G9 H9 (wipe σ vs) (wipeS δ9 vs) [.ref D] [.ow (.lst acc9)] w9 := fun {G9 H9 w9 σ9 δ9 acc9} hl hk r9 => by
      refine r9.reσ ?_ (fun k s hk' => ?_) (noA _)
      · rw [wipeS_len, ← r9.len, hl]
      · rcases wipeS_get hk' with e | ⟨e1, e2⟩
        · exact .inl e
        · exact .inr ⟨e1, (hk k e2).symm⟩
    have l3 : σ3.length = (wipe σ vs).length := t3.1
    have k3 : ∀ k, k ∉ vs → σ3[k]? = (wipe σ vs)[k]? := fun k hk => t3.2 k fun z => hk (hts k z)
    refine ⟨G3, _, δ3, _, r4.drop, q3, fun b δ5 H5 G5 w5 q5 s5 r5 => ?_⟩
    obtain ⟨w6, s6, r6⟩ := r4.frame s5 r5
    have st6 := ((st.trans s2).trans s4).trans s6
    have sg6 : Same G1 G5 := fun a o ha => s6.g a o (s4.g a o (s2.g a o (sg a o ha)))
    cases b with
    | false => exact ⟨hlt, G5, w6, _, acc, pnw st6, sg6, back l3 k3 r6, q5⟩
    | true =>
      refine ⟨G5, _, δ5, _, r6.drop, q5, fun es δ7 J1 H7 G7 w7 q7 s7 r7 itd1 => ?_⟩
      obtain ⟨w8, s8, r8⟩ := r6.frame s7 r7
      obtain ⟨I1, j0, js, je⟩ := q7
      have st8 := st6.trans s8
      have sg8 : Same G1 G7 := fun a o ha => s8.g a o (sg6 a o ha)
      refine ⟨fun j kk H' => kk = es.length - j ∧ j ≤ es.length ∧ ∃ G' w' δ' acc, Stp B.T G H w δ G' H' w' δ' ∧ Same G1 G' ∧ Same G7 G' ∧ Rep K B G' H' (wipe σ3 vs1) δ' [.ref D] [.ow (.lst acc)] w' ∧ I1 j acc δ', ⟨es.length, rfl, Nat.zero_le _, G7, w8, wipeS δ7 vs1, acc, pnw1 st8, sg8, fun _ _ h => h, r8.reσ (by rw [wipe_length, wipeS_len]; exact r8.len) (fun i s hi => ?_) (noA _), j0⟩, ?_⟩
      · rcases wipeS_get hi with e | ⟨e1, e2⟩
        · exact .inl e
        · exact .inr ⟨e1, wipe_ne e2⟩
      rintro j kk Ha ⟨rfl, hj, Ga, wa, δa, acca, sta, sga, sga', rpa, qa⟩
      by_cases hlt1 : j < es.length
      · have qa := js j _ acca δa (List.getElem?_eq_getElem hlt1) qa
        refine .inr ⟨itd1.go Ga Ha j sga' rpa.sub hlt1, fun H2 => j + 1 ≤ es.length ∧ ∃ G' w' δ' acc, Stp B.T G H w δ G' H2 w' δ' ∧ Same G1 G' ∧ Same G7 G' ∧ Rep K B G' H2 (wipe σ3 vs1) δ' [.ref D] [.ow (.lst acc)] w' ∧ I1 (j + 1) acc δ', fun H2 z => ⟨es.length - (j + 1), by omega, rfl, z⟩, fun x1 Hb y1 => ?_⟩
        obtain ⟨d1, hd1, res1⟩ := itd1.yld Ga Ha j x1 Hb sga' rpa.sub hlt1 y1
        rw [List.getElem?_eq_getElem hlt1] at hd1
        cases hd1
        obtain ⟨Gb, sb, rb, hqb⟩ := rpa.res res1
        refine ⟨Gb, _, δa, _, _, rb.drop, hqb, qa, fun δc σc Hc Gc wc qc sc rc pc tc => ⟨wipe_eq tc hts1, ?_⟩⟩
        obtain ⟨wd, sd, rd⟩ := rb.frameS (noA _) sc rc
        have back1 : ∀ {G9 H9 : Hp} {w9 : Addr → Option Nat} {δ9 : List Sl} {acc9 : List PyData}, Rep K B G9 H9 σc δ9 [.ref D] [.ow (.lst acc9)] w9 → Rep K B G9 H9 (wipe σ3 vs1) (wipeS δ9 vs1) [.ref D] [.ow (.lst acc9)] w9 := fun {G9 H9 w9 δ9 acc9} r9 => by
          refine r9.reσ ?_ (fun k s hk => ?_) (noA _)
          · rw [wipe_length, wipeS_len, ← r9.len, tc.1, wipe_length]
          · rcases wipeS_get hk with e | ⟨e1, e2⟩
            · exact .inl e
            · exact .inr ⟨e1, (tc.2 k fun z => e2 (hts1 k z)).symm⟩
        refine ⟨Gc, _, δc, _, rd.drop, qc, fun b1 δe He Ge we qe se re => ?_⟩
        obtain ⟨wf, sf, rf⟩ := rd.frame se re
        have stf := ((sta.trans sb).trans sd).trans sf
        have sgf : Same G1 Ge := fun a o ha => sf.g a o (sd.g a o (sb.g a o (sga a o ha)))
        have sgf' : Same G7 Ge := fun a o ha => sf.g a o (sd.g a o (sb.g a o (sga' a o ha)))
        cases b1 with
        | false => exact ⟨hlt1, Ge, wf, _, acca, pnw1 stf, sgf, sgf', back1 rf, qe⟩
        | true =>
          refine ⟨Ge, _, δe, _, rf.drop, qe, fun r δg y Hg Gg wg qg sg9 rg => ?_⟩
          obtain ⟨wh, sh, rh⟩ := rf.frame sg9 rg
          obtain ⟨e, δi, hz, hl, qg⟩ := qg
          obtain ⟨Gi, wi, si, ri⟩ := rh.fz1 (j := 1) rfl rfl hz
          have ri' : Rep K B Gi Hg σc δi [.ref D, y] [.ow (.lst acca), .im e] wi := ri
          have hy : Dq K Gi y e := ri'.tm 1 y (.im e) rfl rfl
          obtain ⟨a, us, ea, ma, ha, hus⟩ := ri'.tm 0 (.ref D) (.ow (.lst acca)) rfl rfl
          cases ea
          obtain ⟨us2, h2, h3, s10, r10⟩ := ri'.wrT (dqAll_append hus (.cons hy .nil))
          refine ⟨us, ha, by rw [dqAll_len hus]; exact hl, hlt1, Gi, wi, _, acca ++ [e], pnw1 (((stf.trans sh).trans si).trans s10), fun a o h => si.g a o (sh.g a o (sgf a o h)), fun a o h => si.g a o (sh.g a o (sgf' a o h)), back1 r10.first, qg⟩
      · have ej : j = es.length := by omega
        subst ej
        refine .inl ⟨itd1.stop Ga Ha sga' rpa.sub, hlt, Ga, wa, wipeS δa vs, acca, pnw sta, sga, back ?_ (fun k hk => ?_) rpa, je acca δa qa⟩
        · rw [wipe_length, l3]
        · rw [wipe_ne (fun z => hk (hv k z))]
          exact k3 k hk
  · have ei : i = ds.length := by omega
    subst ei
    refine .inl ⟨itd.stop G' H' sg rp.sub, k _ _ _ H' G' w' (ie acc δ' q) (st.reδ fun j o hj => ?_) ⟨rp.sub, rp.out, by rw [restS_len, ← rp.len, wipe_length], fun j s hj => ?_, rp.tlen, fun j v p hv hp => (rp.tm j v p hv hp).noAt (noA _ p (List.mem_of_getElem? hp)), rp.bs⟩⟩
    · obtain ⟨o1, h1⟩ := st.pn j o hj
      exact ⟨o1, by rw [restS_ne (ni j o hj)]; exact h1⟩
    · by_cases hm : j ∈ vs
      · rcases restS_in hm hj with rfl | ⟨d, rfl, e0⟩
        · trivial
        · obtain ⟨v, hv, hd⟩ := rep1.sl j _ e0
          exact ⟨v, hv, dp_mono sg _ _ hd⟩
      · rw [restS_ne hm] at hj
        have := rp.sl j s hj
        rwa [wipe_ne hm] at this
section
variable {X : Cx}
theorem je_lc2 {elt tg iter tg1 iter1 : Expr} {ifs ifs1 : List Expr} {scope : Scope} {own : List (Str × Nat)} {pos : Pos} {pi pi1 : PIx} {ts ts1 : List Nat} {g g1 : PGx} {tt tt1 : PB} {pe : PX} (vs1 : List Nat) (hc : X.calm = true) (hN : X.N.Nodup) (hi : JI X B tg iter pi) (ok : BlkOk X.N X.env.scope scope own)
    (hg : ∀ (s : Shared) (H : Hp) (C : Addr) (cl : List (Str × Addr)) (fp : List Addr), JG (X.blk s H scope (compEnvC scope cl C X.env) fp) B tg ts g) (ht : ∀ (s : Shared) (H : Hp) (C : Addr) (cl : List (Str × Addr)) (fp : List Addr), JTs (X.blk s H scope (compEnvC scope cl C X.env) fp) B ifs tt)
    (hi1 : ∀ (s : Shared) (H : Hp) (C : Addr) (cl : List (Str × Addr)) (fp : List Addr), JI (X.blk s H scope (compEnvC scope cl C X.env) fp) B tg1 iter1 pi1)
    (hg1 : ∀ (s : Shared) (H : Hp) (C : Addr) (cl : List (Str × Addr)) (fp : List Addr), JG (X.blk s H scope (compEnvC scope cl C X.env) fp) B tg1 ts1 g1) (ht1 : ∀ (s : Shared) (H : Hp) (C : Addr) (cl : List (Str × Addr)) (fp : List Addr), JTs (X.blk s H scope (compEnvC scope cl C X.env) fp) B ifs1 tt1)
    (he : ∀ (s : Shared) (H : Hp) (C : Addr) (cl : List (Str × Addr)) (fp : List Addr), JE (X.blk s H scope (compEnvC scope cl C X.env) fp) B elt pe) (hts : ∀ i ∈ ts, i ∈ own.map (·.2) := by decide) (hts1 : ∀ i ∈ ts1, i ∈ vs1 := by decide) (hv : ∀ i ∈ vs1, i ∈ own.map (·.2) := by decide) (hs : ∀ x, foldedSetIterable iter X.env x = pure x := by intro _; rfl) (hs1 : ∀ env x, foldedSetIterable iter1 env x = pure x := by intro _ _; rfl) :
    JE X B (.ListComp elt [⟨tg, iter, ifs, 0⟩, ⟨tg1, iter1, ifs1, 0⟩] scope pos) (pComp2 pi g tt pi1 g1 tt1 pe (own.map (·.2)) vs1) := PE_wk (pe_lc2 (g := LG X.K B ts g) (tt := LB X.K B tt) (wi1 := LI X.K B pi1) (g1 := LG X.K B ts1 g1) (tt1 := LB X.K B tt1) (te := LE X.K B pe) hc hN hi ok hv hg ht hi1 hg1 ht1 he hs hs1) fun σ H Q h => lc_lift2 hts hts1 hv h
theorem js_setLc2 {i : Nat} {y : Str} {py : Pos} {elt tg iter tg1 iter1 : Expr} {ifs ifs1 : List Expr} {scope : Scope} {own : List (Str × Nat)} {pos spos : Pos} {pi pi1 : PIx} {ts ts1 : List Nat} {g g1 : PGx} {tt tt1 : PB} {pe : PX} (vs1 : List Nat) (hc : X.calm = true) (hN : X.N.Nodup) (hy : X.N[i]? = some y) (hyl : X.env.scope.names.lookup y = some .local)
    (hsw : swapsWith (.ListComp elt [⟨tg, iter, ifs, 0⟩, ⟨tg1, iter1, ifs1, 0⟩] scope pos) (some (.Name y py)) spos.line X.env = pure true) (hi : JI X B tg iter pi) (ok : BlkOk X.N X.env.scope scope own)
    (hg : ∀ (s : Shared) (H : Hp) (C : Addr) (cl : List (Str × Addr)) (fp : List Addr), JG (X.blk s H scope (compEnvC scope cl C X.env) fp) B tg ts g) (ht : ∀ (s : Shared) (H : Hp) (C : Addr) (cl : List (Str × Addr)) (fp : List Addr), JTs (X.blk s H scope (compEnvC scope cl C X.env) fp) B ifs tt)
    (hi1 : ∀ (s : Shared) (H : Hp) (C : Addr) (cl : List (Str × Addr)) (fp : List Addr), JI (X.blk s H scope (compEnvC scope cl C X.env) fp) B tg1 iter1 pi1)
    (hg1 : ∀ (s : Shared) (H : Hp) (C : Addr) (cl : List (Str × Addr)) (fp : List Addr), JG (X.blk s H scope (compEnvC scope cl C X.env) fp) B tg1 ts1 g1) (ht1 : ∀ (s : Shared) (H : Hp) (C : Addr) (cl : List (Str × Addr)) (fp : List Addr), JTs (X.blk s H scope (compEnvC scope cl C X.env) fp) B ifs1 tt1)
    (he : ∀ (s : Shared) (H : Hp) (C : Addr) (cl : List (Str × Addr)) (fp : List Addr), JE (X.blk s H scope (compEnvC scope cl C X.env) fp) B elt pe) (hts : ∀ i ∈ ts, i ∈ own.map (·.2) := by decide) (hts1 : ∀ i ∈ ts1, i ∈ vs1 := by decide) (hv : ∀ i ∈ vs1, i ∈ own.map (·.2) := by decide) (hs : ∀ x, foldedSetIterable iter X.env x = pure x := by intro _; rfl) (hs1 : ∀ env x, foldedSetIterable iter1 env x = pure x := by intro _ _; rfl) :
    JS X B (.Assign [.Name y py] (.ListComp elt [⟨tg, iter, ifs, 0⟩, ⟨tg1, iter1, ifs1, 0⟩] scope pos) spos) (pSet i (pComp2 pi g tt pi1 g1 tt1 pe (own.map (·.2)) vs1)) := PS_wk (ps_setLc2 (g := LG X.K B ts g) (tt := LB X.K B tt) (wi1 := LI X.K B pi1) (g1 := LG X.K B ts1 g1) (tt1 := LB X.K B tt1) (te := LE X.K B pe) hc hN hy hyl hsw hi ok hv hg ht hi1 hg1 ht1 he hs hs1) fun D σ H h => lc_lift2 hts hts1 hv (set_lift h)
end
end Pv

/-! A def within a def, told with how the tables of code grow. -/
namespace Pv
open PySem PySem.Spec PyProof.Rows L2 LamX NdefX Wf
/-- one code object more in the table at P -/
theorem tabs_grow {T : List NTab} {H : Hp} {P d : Addr} {nm : Nat → Nat → Str} {ps : Array Value} {pos : Pos} (mem : (P, nm) ∈ T) (un : ∀ p ∈ T, p.1 = P → p.2 = nm) (hP : H P = some (.tbl ps)) (hd : H d = none) :
    TbG T H (upd (upd H P (.tbl (ps ++ #[rawInt pos.line, rawInt pos.col, .ref d]))) d (CodeO d (nm pos.line pos.col))) := by
  have keep : ∀ b o, H b = some o → NT o → upd (upd H P (.tbl (ps ++ #[rawInt pos.line, rawInt pos.col, .ref d]))) d (CodeO d (nm pos.line pos.col)) b = some o := fun b o e n => by
    have z1 : b ≠ d := ne_of_none e hd
    have z2 : b ≠ P := fun z => n ps (by rw [z, hP] at e; exact (Option.some.inj e).symm)
    rw [upd_ne z1, upd_ne z2]
    exact e
  have pd : P ≠ d := ne_of_none hP hd
  refine ⟨fun t p hp => ?_, fun a qs e => ?_⟩
  · obtain ⟨rs, r1, r2, r3⟩ := t p hp
    by_cases hb : p.1 = P
    · have ez := un p hp hb
      rw [hb] at r1
      rw [hP] at r1
      cases r1
      have el : (ps ++ #[rawInt pos.line, rawInt pos.col, .ref d]).toList = ps.toList ++ [rawInt pos.line, rawInt pos.col, .ref d] := by simp
      refine ⟨ps ++ #[rawInt pos.line, rawInt pos.col, .ref d], by rw [hb, upd_ne pd, upd_same], by rw [el]; exact PySem.TriplesOk_snoc _ _ _ _ r2, fun q cv hq => ?_⟩
      rw [el] at hq
      rcases among_app2 _ r2 hq with z | ⟨z, z1, z2⟩
      · obtain ⟨x, x1, x2⟩ := r3 q cv z
        exact ⟨x, x1, keep _ _ x2 codeO_ne⟩
      · exact ⟨d, z, by rw [← z1, ← z2, ez]; exact upd_same⟩
    · have : p.1 ≠ d := ne_of_none r1 hd
      refine ⟨rs, by rw [upd_ne this, upd_ne hb]; exact r1, r2, fun q cv hq => ?_⟩
      obtain ⟨x, x1, x2⟩ := r3 q cv hq
      exact ⟨x, x1, keep _ _ x2 codeO_ne⟩
  · have : a ≠ d := ne_of_none e hd
    rw [upd_ne this]
    by_cases hb : a = P
    · rw [hb, upd_same]; exact ⟨_, rfl⟩
    · rw [upd_ne hb]; exact ⟨qs, e⟩
theorem ext_grow {H : Hp} {P d : Addr} {ps qs : Array Value} {q : Str} (hP : H P = some (.tbl ps)) (hd : H d = none) : ExtN H (upd (upd H P (.tbl qs)) d (CodeO d q)) := fun b o e n => by
  have z1 : b ≠ d := ne_of_none e hd
  have z2 : b ≠ P := fun z => n ps (by rw [z, hP] at e; exact (Option.some.inj e).symm)
  rw [upd_ne z1, upd_ne z2]
  exact e
section
variable {X : Cx} {pins : List (Addr × Obj)} {σ : L2.St} {H : Hp} {s : Shared}
theorem fn_grow {T : List NTab} {nm : Nat → Nat → Str} {c P : Addr} {name : Str} {prm : Arguments} {bd : List Stmt} {sc : Scope} {pos : Pos} {E : Value → Shared → Prop} {Q : Value → Shared → Prop} (J : Inv X pins σ H s) (tb : TabB X.base X.mg c P) (ec : X.env.code = .ref c)
    (mem : (P, nm) ∈ T) (en : nm pos.line pos.col = X.env.qual ++ name) (un : ∀ p ∈ T, p.1 = P → p.2 = nm) (tn : TabsN T H) (fr : ∀ y ∈ sc.names, y.2 = .free → ∃ c, X.env.cells.lookup y.1 = some c)
    (go : ∀ (f d : Addr) (H1 : Hp) (s' : Shared), Inv X pins σ H1 s' → ExtN H H1 → TbG T H H1 → H f = none → H1 f = some (FnO f ⟨name, X.env.qual ++ name, prm, bd, sc, cloFrom X.env.cells sc.names [], d⟩) → H1 d = some (CodeO d (X.env.qual ++ name)) → Q (.ref f) s') :
    wpAny (model X.prog X.w) X.A (makeFunction name (X.env.qual ++ name) prm (.stmts bd) sc X.env [] [] [] pos pos.line) Q E s := by
  obtain ⟨ps, hP, tr, all⟩ := (show TabN H P nm from tn _ mem)
  have here : s.heap.get? P = some { cls := .none, data := .fields ps } := J.hok P _ hP
  cases hc : codeAmong pos ps.toList with
  | none =>
    refine PySem.W.makeFunction_K (mg := X.mg) (c := c) (P := P) (ps := ps) (closure_ok fr) J.ok.glob (J.mod.glob.keeps J.bk) ec (tb.code.keeps J.bk) here tr hc tb.gP (tb.bm.keeps J.bk) fun d ctv doc h' tk hx hge hlt hrec htb => ?_
    obtain ⟨d2, oc, us, t, e2, hoc, hdt, hus⟩ := hrec
    cases e2
    have nd : H d = none := J.hok.fresh hge
    have J1 := inv_table (t' := tk) (more := #[rawInt pos.line, rawInt pos.col, .ref d]) (h' := h') J hP (fun b o hb e => hx b o hb e) htb hge ⟨oc, us, t, hoc, hdt, hus⟩
    have g := tabs_grow (pos := pos) mem un hP nd
    rw [en] at g
    have nf := J1.hok.fresh (Nat.le_refl _)
    have J2 := inv_fn (F := ⟨name, X.env.qual ++ name, prm, bd, sc, cloFrom X.env.cells sc.names [], d⟩) (t' := tk) (doc := doc) (pm := (X.mg "__name__").getD .none) (ctv := ctv) J1 rfl
    refine go h'.objs.size d _ _ J2 ((ext_grow hP nd).trans (.of (same_new nf))) (g.trans (.same (same_new nf))) (J.hok.fresh (Nat.le_trans hge (Nat.le_of_lt hlt))) upd_same ?_
    exact (upd_ne (Nat.ne_of_lt hlt)).trans upd_same
  | some cv =>
    obtain ⟨d, e, hco⟩ := all pos cv hc
    subst e
    rw [en] at hco
    refine PySem.W.makeFunction_hit (mg := X.mg) (c := c) (P := P) (ps := ps) (closure_ok fr) J.ok.glob (J.mod.glob.keeps J.bk) ec (tb.code.keeps J.bk) here tr hc (tb.bm.keeps J.bk) fun ctv doc h' tk hx hsz => ?_
    have J1 : Inv X pins σ H { s with heap := h', toks := tk } := J.kept hx
    have nf : H h'.objs.size = none := J1.hok.fresh (Nat.le_refl _)
    have J2 := inv_fn (F := ⟨name, X.env.qual ++ name, prm, bd, sc, cloFrom X.env.cells sc.names [], d⟩) (t' := tk) (doc := doc) (pm := (X.mg "__name__").getD .none) (ctv := ctv) J1 rfl
    exact go h'.objs.size d _ _ J2 (.of (same_new nf)) (.same (same_new nf)) nf upd_same ((upd_ne (ne_of_none hco nf)).trans hco)
end
/-- the reading of a def within a def: slot i holds the new function -/
def tNdefG (T : List NTab) (i : Nat) (mk : Addr → NF) : TS := fun D σ H => TabsN T H ∧ ∀ (f d : Addr) (H1 : Hp), ExtN H H1 → TbG T H H1 → H f = none → H1 f = some (FnO f (mk d)) → H1 d = some (CodeO d (mk d).qual) → D.nx (σ.set i (some (.ref f))) H1
theorem ps_ndefG {X : Cx} {st : Stmt} {T : List NTab} {nm : Nat → Nat → Str} {c P : Addr} {name : Str} {pos : Pos} {i : Nat} (hst : st = .FunctionDef name (C8.fnArgs st) (C8.fnBody st) [] none [] (C8.fnScope st) none name pos) (tb : TabB X.base X.mg c P) (ec : X.env.code = .ref c)
    (mem : (P, nm) ∈ T) (en : nm pos.line pos.col = X.env.qual ++ name) (un : ∀ p ∈ T, p.1 = P → p.2 = nm) (fr : ∀ y ∈ (C8.fnScope st).names, y.2 = .free → X.env.scope.names.lookup y.1 = some .cell ∨ X.env.scope.names.lookup y.1 = some .free) (d0 : (C8.fnArgs st).defaults = []) (k0 : (C8.fnArgs st).kw_defaults = []) (an : annTrees (C8.fnArgs st) none X.env = [])
    (nod : X.N.Nodup) (at_ : X.N[i]? = some name) (lo : Loc X.env.scope name) (hf : X.fn name = true ∨ X.env.scope.names.lookup name = some .local) :
    PS X st (tNdefG T i (NF.of st name (X.env.qual ++ name) (cloFrom X.env.cells (C8.fnScope st).names []))) := by
  rw [hst]
  refine ⟨fun pins s σ H D J h => ?_⟩
  obtain ⟨tn, h⟩ := h
  have eq : qualnameIn X.env name name = X.env.qual ++ name := by
    have k : X.env.kindOf name = some .local ∨ X.env.kindOf name = some .cell := lo
    unfold qualnameIn
    rcases k with z | z <;> rw [z] <;> first | rfl | exact if_neg (by decide)
  refine PySem.W.nestDef_K d0 k0 an ?_
  rw [eq]
  refine fn_grow J tb ec mem en un tn (fun y hy e => (fr y hy e).elim (fun z => J.ok.has _ (.inl z)) fun z => J.ok.has _ (.inr z)) fun f d H1 s' J1 e1 g1 f0 f1 c1 => ?_
  rw [← hst] at h
  exact store_ok J1 nod at_ lo (v := .ref f) rfl (fun s'' J' => ⟨_, H1, J', h f d H1 e1 g1 f0 f1 c1⟩) hf
end Pv

/-! What the head tells of error classes; whole numbers by their names. -/
namespace Wf
open PySem PySem.Spec PyProof.Rows L2
theorem pe_gi {X : Cx} {x : Str} {i : Int} {pos : Pos} (h : ∃ t, X.mg x = some (.int i t)) (hg : Gl X x) (hdb : (x == ("__debug__" : Str)) = false := by decide) : PE X (.Name x pos) (tC (.int i)) := by
  obtain ⟨t, m⟩ := h
  exact pe_glob (v := .int i) hg m ⟨t, rfl⟩ hdb
/-- a def that is never called so -/
theorem cal_no {P : Program} {w : World} {K : PySem.W.Frag} {mg : Str → Option Value} {base : Heap} {k : Nat} {x : Str} {ps : List Str} {f : Addr} {fd : FuncData} (m : mg x = some (.ref f)) (kp : PySem.W.keepIn K (.ref f) = true) (b : Binds K fd ps []) : Cal P w K mg base CX0 k x ps (fun _ _ _ _ => False) :=
  ⟨f, fd, ⟨fun _ _ _ _ h => h.elim, fun _ _ _ _ _ _ _ _ _ _ _ _ _ h => h.elim⟩, m, kp, b⟩
/-! ### classes of errors -/
def oexB (K : PySem.W.Frag) (C : Addr) : Bool := match K.lookup C with
  | some ⟨.type "type", _, .cls cd, sl⟩ => (match cd.mro, sl.toList with
    | .ref C' :: bm, [_, _, _, _, some (.builtin n), _] => C' == C && n == "ValueError.__new__" && !cd.hasDel && cd.hasDict && PySem.HandSPX.refsVE bm
    | _, _ => false)
  | _ => false
theorem oexB_ok {K : PySem.W.Frag} {C : Addr} (q : oexB K C = true) : ∃ nm qn N bs bm sn sub ab col dd k0 k1 k2 k3 k5, K.lookup C = some (excClassObj nm qn C N bs bm true sn sub ab col dd k0 k1 k2 k3 k5 "ValueError.__new__") ∧ PySem.HandSPX.refsVE bm = true := by
  unfold oexB at q
  split at q
  · rename_i dd cd sl ho
    split at q
    · rename_i C' bm k0 k1 k2 k3 n k5 hm hs
      simp only [Bool.and_eq_true, beq_iff_eq, Bool.not_eq_true'] at q
      obtain ⟨⟨⟨⟨rfl, rfl⟩, hdel⟩, hdc⟩, hbm⟩ := q
      obtain ⟨nm, bs, mro, ns, qn, hd, sn, sub, ab, col, del⟩ := cd
      dsimp only at hm hdel hdc
      subst hm hdel hdc
      have hsl : sl = #[k0, k1, k2, k3, some (.builtin "ValueError.__new__"), k5] := by
        obtain ⟨z⟩ := sl
        simp only at hs
        rw [hs]
      subst hsl
      exact ⟨nm, qn, ns, bs, bm, sn, sub, ab, col, dd, k0, k1, k2, k3, k5, ho, hbm⟩
    · cases q
  · cases q
/-- the error class named x, its fields fs -/
def errB (K : PySem.W.Frag) (x : Str) (fs : List Str) : Bool :=
  oexB K (He.ga K x) && (decide (PySem.W.findIn K (.ref (He.ga K x)) "__setattr__" = some (some (.builtin "object.__setattr__"))) && (decide (PySem.W.subIn K (.ref (He.ga K x)) (.type "BaseException") = some true) && (decide (PySem.W.typeIn K (.ref (He.ga K x)) = some (.type "type")) && (PySem.W.keepIn K (.ref (He.ga K x)) &&
  (decide (PySem.W.findIn K (.ref (He.ga K x)) "__init__" = some (some (.ref (He.ma K (He.ga K x) "__init__")))) && (decide (PySem.W.typeIn K (.ref (He.ma K (He.ga K x) "__init__")) = some (.type "function")) && ((fs.all fun f => decide (PySem.W.findIn K (.ref (He.ga K x)) f = some none)) && (xfB K (He.ga K x) &&
  ((PySem.W.clsIn K (He.ga K x)).isSome && (decide (PySem.W.findIn K (.ref (He.ga K x)) "__class__" = some (some (.builtin "object.__class__"))) && (decide (PySem.W.specialIn K (.builtin "object.__class__") "__get__" = some (some (.builtin "getset_descriptor.__get__"))) &&
  (decide (PySem.W.takesIn K (.builtin "object.__class__") = some true) && decide (PySem.W.mroIn K (He.ga K x) (.type "object") = some true)))))))))))))
structure ErrF (K : PySem.W.Frag) (C fI : Addr) (fs : List Str) : Prop where
  o : OexC K C
  i : PySem.W.findIn K (.ref C) "__init__" = some (some (.ref fI))
  ti : PySem.W.typeIn K (.ref fI) = some (.type "function")
  no : ∀ f ∈ fs, PySem.W.findIn K (.ref C) f = some none
  xf : XfC K C
  is_ : IsC K C
theorem errB_ok {K : PySem.W.Frag} {x : Str} {fs : List Str} (h : errB K x fs = true) : ErrF K (He.ga K x) (He.ma K (He.ga K x) "__init__") fs := by
  unfold errB at h
  simp only [Bool.and_eq_true, decide_eq_true_eq, List.all_eq_true] at h
  obtain ⟨h1, h2, h3, h4, h5, h6, h7, h8, h9, h10, h11, h12, h13, h14⟩ := h
  have X := xfB_ok h9
  exact ⟨⟨oexB_ok h1, h2, h3, h4, h5⟩, h6, h7, h8, X, ⟨h10, X.ga, X.gg, X.exC, h11, h12, h13, h14⟩⟩
def baseB (K : PySem.W.Frag) (x : Str) : Bool := PySem.W.readsIn K (He.ga K x) (.type "type") && (decide (PySem.W.specialIn K (.ref (He.ga K x)) "__getattribute__" = some (some (.builtin "type.__getattribute__"))) && (match PySem.W.findCls K (.ref (He.ga K x)) (.type "type") "__init__" with
  | some (.val (.builtin z)) => z == "ValueError.__init__"
  | _ => false))
theorem baseB_ok {K : PySem.W.Frag} {mg : Str → Option Value} {x : Str} (h : baseB K x = true) (g : mg x = some (.ref (He.ga K x))) : BaseC K mg x (He.ga K x) := by
  unfold baseB at h
  simp only [Bool.and_eq_true, decide_eq_true_eq] at h
  obtain ⟨h1, h2, h3⟩ := h
  refine ⟨g, h1, h2, ?_⟩
  split at h3
  · rename_i z e
    rw [e, beq_iff_eq.mp h3]
  · cases h3
/-! ### a hook: what the module's names reach, and the runtime's own names -/
def frW (n : Nat) (g : Addr → Option Obj) : PySem.W.Frag := He.frT g (cStatics :: He.asD g n)
def obsW (n : Nat) (fa : List He.Fa) (fn : List He.DefD) (ex : PySem.W.Frag → Bool) (g : Addr → Option Obj) : He.AlD × Bool := (He.obsD fa fn (frW n g), ex (frW n g))
def hookW (n : Nat) (fa : List He.Fa) (fn : List He.DefD) (ex : PySem.W.Frag → Bool) : PySem.W.Hook where
  α := He.AlD × Bool
  obs := fun s => obsW n fa fn ex s.heap.get?
  val := fun _ => (He.valD fn, true)
  says := fun _ h => ∃ K : PySem.W.Frag, K.In h ∧ He.SaysD fa fn K ∧ ex K = true
  of := fun _ _ e => ⟨_, He.frT_in, congrArg (fun z : He.AlD × Bool => z.1) e, congrArg (fun z : He.AlD × Bool => z.2) e⟩
  keeps := fun _ _ _ ⟨K, hK, c⟩ k => ⟨K, PySem.W.Frag.In.keeps hK k, c⟩
theorem obsW_eq {n : Nat} {fa : List He.Fa} {fn : List He.DefD} {ex : PySem.W.Frag → Bool} {g : Addr → Option Obj} {s : Shared} (h : ∀ a, g a = s.heap.get? a) : obsW n fa fn ex g = (hookW n fa fn ex).obs s := by
  have e : g = s.heap.get? := funext h
  rw [e] <;> rfl
end Wf

/-! The end of a law whose defs make defs: tables of code objects, no guard. -/
namespace Wf
open PySem PySem.Spec PyProof.Rows L2 LamX
abbrev tab0 : Obj := { cls := .none, data := .fields #[] }
/-- nothing stands but the tables and the script -/
def OnlyT (cs : List (Addr × Addr)) (a : Addr) (H : Hp) : Prop := ∀ b u, H b = some u → (∃ p ∈ cs, p.2 = b) ∨ (b = a ∧ ∃ ob xs, u = HO.frz ob (.lst xs))
theorem lawT {P : Program} {w : World} {K : PySem.W.Frag} {mg mb : Str → Option Value} {k : Nat} {fa a : Addr} {cs : List (Addr × Addr)} {fd : FuncData} {x : Str} {sp : Sp} {s : Shared} {us : List Value} {ns : List Int}
    (KX : K.In s.heap) (hmg : s.heap.Ns mainGlobals mg) (hb : s.heap.Ns builtinsNs mb) (hbb : ∀ x : Str, x ≠ "__name__" → mb x = bootBuiltins x) (hlim : s.heap.NoLimit) (hg : s.gens = #[])
    (hT : ∀ p ∈ cs, s.heap.get? p.2 = some tab0) (nT : ∀ p ∈ cs, K.lookup p.2 = none) (CH : ∀ p ∈ cs, PySem.W.CodeHd s.heap p.1 p.2)
    (hbm : ∃ (bm : Addr) (ob : Obj), mg "__builtins__" = some (.ref bm) ∧ bm ≠ builtinsNs ∧ s.heap.get? bm = some ob ∧ ob.cls = .type "module" ∧ ob.dict = some builtinsNs ∧ ob.data = .plain)
    (ha : s.heap.get? a = some { cls := .type "list", data := .seq us.toArray }) (hi : IntsAre us ns) (hl : ns.length ≤ sizeLine) (hr : Room k callerA)
    (F : ∀ base : Heap, K.In base → base.Ns mainGlobals mg → (∀ p ∈ cs, TabB base mg p.1 p.2) → FnG P w K mg base CX0 k fa fd [x] sp) (hbind : ∀ (s : Shared) (u : Value), BindsTo s fd ⟨[u], []⟩ [(x, u)])
    (hsp : ∀ H : Hp, (∀ p ∈ cs, H p.2 = some (.tbl #[])) → OnlyT cs a H → SqL K H a (ns.map V.int) → sp [.ref a] H (fun v _ => v = .bl true) fun _ _ _ => False) :
    codeAny (model P w) callerA (.call (.ref fa) ⟨[.ref a], []⟩) (fun r s' => r = .ok (.ret (.bool true)) ∧ PySem.OldK s.heap s'.heap ∧ s'.os = s.os ∧ AllBare s'.gens) s := by
  classical
  have rv := vals_ints hi
  let isT : Addr → Prop := fun b => ∃ p ∈ cs, p.2 = b
  have tabAt : ∀ b, isT b → s.heap.get? b = some tab0 := fun b ⟨p, hp, e⟩ => e ▸ hT p hp
  have aT : ¬ isT a := fun z => by
    have e := tabAt a z
    rw [ha] at e
    have := congrArg Obj.data (Option.some.inj e)
    cases this
  have go : ∀ H : Hp, (∀ p ∈ cs, H p.2 = some (.tbl #[])) → (∀ b u, H b = some u → isT b ∨ (b = a ∧ ∃ ob xs, u = .frz ob (.lst xs))) → SqL K H a (ns.map V.int) → HOk P w H s.heap → (H a ≠ none → K.lookup a = none) →
      codeAny (model P w) callerA (.call (.ref fa) ⟨[.ref a], []⟩) (fun r s' => r = .ok (.ret (.bool true)) ∧ PySem.OldK s.heap s'.heap ∧ s'.os = s.os ∧ AllBare s'.gens) s := by
    intro H hH hA hS hok hK
    -- what is neither the script nor a table is not told of
    have clear_ : ∀ {b : Addr} {o : Obj}, s.heap.get? b = some o → o.data ≠ .fields #[] → (∀ vs m, o.data ≠ .seq vs m) → H b = none := fun {b o} e h1 h2 => by
      cases q : H b with
      | none => rfl
      | some u =>
        rcases hA b u q with z | ⟨rfl, _⟩
        · rw [tabAt b z] at e
          cases e
          exact absurd rfl h1
        · rw [ha] at e
          cases e
          exact absurd rfl (h2 _ _)
    have clearD : ∀ {b : Addr} {o : Obj} {es : Array DictEntry} {ep : Nat}, s.heap.get? b = some o → o.data = .dict es ep → H b = none := fun {b o es ep} e d => clear_ e (fun z => by rw [d] at z; cases z) fun vs m z => by rw [d] at z; cases z
    have nsIn_ : ∀ {b : Addr} {m : Str → Option Value}, s.heap.Ns b m → (hidT s.heap H).Ns b m := fun {b m} q => by
      obtain ⟨o, es, ep, e, d, r⟩ := q
      exact ⟨o, es, ep, hidT_get e (clearD e d), d, r⟩
    have hKb : K.In (hidT s.heap H) := fun b o e => by
      refine hidT_get (KX b o e) ?_
      cases q : H b with
      | none => rfl
      | some u =>
        rcases hA b u q with ⟨p, hp, ep⟩ | ⟨rfl, _⟩
        · rw [← ep, nT p hp] at e
          cases e
        · rw [hK (by rw [q]; exact fun z => nomatch z)] at e
          cases e
    have TB : ∀ p ∈ cs, TabB (hidT s.heap H) mg p.1 p.2 := fun p hp => by
      refine ⟨?_, ?_, fun z => ?_⟩
      · obtain ⟨o, vs, file, tf, flags, tg, inF, text, tt, e1, r1, r2, r3, rest⟩ := CH p hp
        refine ⟨o, vs, file, tf, flags, tg, inF, text, tt, hidT_get e1 (clear_ e1 (fun z => ?_) fun vs m z => ?_), r1, r2, r3, rest⟩
        · rw [r2] at z
          cases z
          simp at r3
        · rw [r2] at z
          cases z
      · obtain ⟨bm, ob, b1, b2, b3, b4, b5, b6⟩ := hbm
        refine ⟨bm, ob, b1, b2, fun z => ?_, fun z => ?_, hidT_get b3 (clear_ b3 (fun z => ?_) fun vs m z => ?_), b4, b5, b6⟩
        · obtain ⟨o, es, ep, e, d, _⟩ := hmg
          rw [z, e] at b3
          cases b3
          rw [d] at b6
          cases b6
        · rw [z, hT p hp] at b3
          cases b3
          cases b6
        · rw [b6] at z
          cases z
        · rw [b6] at z
          cases z
      · obtain ⟨o, es, ep, e, d, _⟩ := hmg
        rw [z, hT p hp] at e
        cases e
        cases d
    obtain ⟨mc, l1, l2⟩ := hlim
    have e0 : Env0 P w K mg (hidT s.heap H) callerA [] s H :=
      ⟨rfl, ⟨hKb, nsIn_ hmg, ⟨mb, nsIn_ hb, hbb⟩, ⟨mc, nsIn_ l1, l2⟩⟩, fun b o e => of_hidT e, Nat.le_of_eq (hidT_size _ _), trivial, fun b z => (List.not_mem_nil z).elim, hok, .of_eq hg⟩
    refine codeAny_mono ((F _ hKb (nsIn_ hmg) TB).run callerA rfl [] s H ⟨[.ref a], []⟩ [.ref a] [.ref a] _ _ hr e0 (hbind s (.ref a)) (.cons rfl .nil) (hsp H hH hA hS)) fun r s' q => ?_
    cases r with
    | error e => exact False.elim q
    | ok fl =>
      cases fl with
      | next => exact False.elim q
      | brk => exact False.elim q
      | cont => exact False.elim q
      | ret u =>
        obtain ⟨v, H', os, bare, un, hok', r', ev⟩ := q
        cases (show v = .bl true from ev)
        cases (show u = Value.bool true from r')
        have kept : ∀ b o, ¬ isT b → s.heap.get? b = some o → s'.heap.get? b = some o := fun b o nb e => by
          cases q : H b with
          | none => exact un.keep b o e q (fun y => (List.not_mem_nil y).elim) (fun y => (List.not_mem_nil y).elim)
          | some u =>
            rcases hA b u q with z | ⟨rfl, ob, xs, rfl⟩
            · exact absurd z nb
            · have e1 := (hok b _ q).1
              rw [e] at e1
              cases e1
              exact (hok' b _ (un.frzs b _ _ q)).1
        have grew : ∀ p ∈ cs, ∃ more : Array Value, s'.heap.get? p.2 = some { cls := .none, data := .fields more } := fun p hp => by
          obtain ⟨more, z⟩ := un.tbls p.2 #[] (hH p hp)
          exact ⟨_, hok' p.2 _ z⟩
        refine ⟨rfl, ⟨fun b o e => ?_, fun b o e => ?_⟩, os, bare⟩
        · by_cases z : isT b
          · obtain ⟨p, hp, rfl⟩ := z
            obtain ⟨more, hm⟩ := grew p hp
            rw [hT p hp] at e
            cases e
            exact .inr (.inl ⟨((CH p hp).tab (hT p hp)).isCodeTable, rfl, #[], more, rfl, by rw [Array.empty_append]; exact hm⟩)
          · exact .inl (kept b o z e)
        · by_cases z : isT b
          · obtain ⟨p, hp, rfl⟩ := z
            obtain ⟨more, hm⟩ := grew p hp
            exact ⟨_, hm⟩
          · exact ⟨o, kept b o z e⟩
  cases hk : K.lookup a with
  | some o =>
    have e := KX a o hk
    rw [ha] at e
    cases e
    let H0 : Hp := fun b => if isT b then some (.tbl #[]) else none
    have h1 : ∀ b, isT b → H0 b = some (.tbl #[]) := fun b z => if_pos z
    have h2 : ∀ b, ¬ isT b → H0 b = none := fun b z => if_neg z
    have only : ∀ b u, H0 b = some u → isT b ∧ u = .tbl #[] := fun b u e => by
      by_cases z : isT b
      · rw [h1 b z] at e
        exact ⟨z, (Option.some.inj e).symm⟩
      · rw [h2 b z] at e
        cases e
    refine go H0 (fun p hp => h1 _ ⟨p, hp, rfl⟩) (fun b u e => .inl (only b u e).1) (.inr ⟨_, us.toArray, _, hk, rfl, rfl, rfl, ?_, ?_⟩) (fun b u e => ?_) fun z => absurd (h2 a aT) z
    · rw [List.size_toArray, hi.length]
      exact hl
    · simpa using rv
    · obtain ⟨z, rfl⟩ := only b u e
      exact tabAt b z
  | none =>
    let fr : HO := .frz { cls := .type "list", data := .seq us.toArray } (.lst (ns.map V.int))
    let H0 : Hp := fun b => if b = a then some fr else if isT b then some (.tbl #[]) else none
    have h0 : H0 a = some fr := if_pos rfl
    have h1 : ∀ b, isT b → H0 b = some (.tbl #[]) := fun b z => (if_neg (show ¬ b = a from fun e => aT (by rw [← e]; exact z))).trans (if_pos z)
    have h2 : ∀ b, b ≠ a → ¬ isT b → H0 b = none := fun b n z => (if_neg n).trans (if_neg z)
    have only : ∀ b u, H0 b = some u → (isT b ∧ u = .tbl #[]) ∨ (b = a ∧ u = fr) := fun b u e => by
      by_cases q : b = a
      · subst q
        rw [h0] at e
        exact .inr ⟨rfl, (Option.some.inj e).symm⟩
      · by_cases z : isT b
        · rw [h1 b z] at e
          exact .inl ⟨z, (Option.some.inj e).symm⟩
        · rw [h2 b q z] at e
          cases e
    refine go H0 (fun p hp => h1 _ ⟨p, hp, rfl⟩) (fun b u e => ?_) (.inl (.inr ⟨_, h0⟩)) (fun b u e => ?_) fun _ => hk
    · rcases only b u e with ⟨z, _⟩ | ⟨z, rfl⟩
      · exact .inl z
      · exact .inr ⟨z, _, _, rfl⟩
    · rcases only b u e with ⟨z, rfl⟩ | ⟨rfl, rfl⟩
      · exact tabAt b z
      · exact ⟨ha, by rw [List.length_map]; exact hl, us, _, rv, ha⟩
theorem walkT2 {l : PySem.W.OpenLaw} {n k : Nat} {q : Program} {loose : List Str} {XP : (Str → Option Value) → Heap → Prop} {YP : World → Heap → Prop} {d : DefRec} {x : Str}
    (hn : l.most = some n) (hn2 : n ≤ sizeLine) (hdf : d.params.defaults = []) (hr : Room k callerA)
    (F : ∀ (w : World) (mg : Str → Option Value) (fa : Addr) (h : Heap), YP w h → h.Ns mainGlobals mg → mg d.name = some (.ref fa) →
      ∃ (K : PySem.W.Frag) (fd : FuncData) (cs : List (Addr × Addr)) (sp : Sp), K.In h ∧ (∀ p ∈ cs, h.get? p.2 = some tab0) ∧ (∀ p ∈ cs, K.lookup p.2 = none) ∧ (∀ p ∈ cs, PySem.W.CodeHd h p.1 p.2) ∧ (∀ (s : Shared) (u : Value), BindsTo s fd ⟨[u], []⟩ [(x, u)]) ∧
        (∀ (H : Hp) (a : Addr) (ns : List Int), ns.length ≤ n → (∀ p ∈ cs, H p.2 = some (.tbl #[])) → OnlyT cs a H → SqL K H a (ns.map V.int) → sp [.ref a] H (fun v _ => v = .bl true) fun _ _ _ => False) ∧
        ∀ base : Heap, K.In base → base.Ns mainGlobals mg → (∀ p ∈ cs, TabB base mg p.1 p.2) → FnG l.prog w K mg base CX0 k fa fd [x] sp) :
    PySem.W.WalkO q loose XP YP l.row.toRowW d [] (fun f vs => PySem.call f vs) := by
  refine Att.attach_call hn hdf fun w s0 s1 mg mb fa o pm cd doc a vs ns G Y ho hd hcd hmg hobj hints hlen hg => ?_
  obtain ⟨K, fd, cs, sp, KX, hT, nT, CH, hb, hsp, hF⟩ := F w mg fa _ Y G.T.g hmg
  exact lawT KX G.T.g G.T.b G.T.builtins G.T.nolimit hg hT nT CH G.T.bmain hobj hints (Nat.le_trans hlen hn2) hr hF hb fun H hH hA hS => hsp H a ns hlen hH hA hS
theorem walkT {l : PySem.W.OpenLaw} {n k : Nat} {q : Program} {loose : List Str} {XP : (Str → Option Value) → Heap → Prop} {YP : World → Heap → Prop} {d : DefRec} {x : Str}
    (hn : l.most = some n) (hn2 : n ≤ sizeLine) (hdf : d.params.defaults = []) (hr : Room k callerA)
    (F : ∀ (w : World) (mg : Str → Option Value) (fa : Addr) (h : Heap), YP w h → h.Ns mainGlobals mg → mg d.name = some (.ref fa) →
      ∃ (K : PySem.W.Frag) (fd : FuncData) (cs : List (Addr × Addr)) (sp : Sp), K.In h ∧ (∀ p ∈ cs, h.get? p.2 = some tab0) ∧ (∀ p ∈ cs, K.lookup p.2 = none) ∧ (∀ p ∈ cs, PySem.W.CodeHd h p.1 p.2) ∧ (∀ (s : Shared) (u : Value), BindsTo s fd ⟨[u], []⟩ [(x, u)]) ∧
        (∀ (H : Hp) (a : Addr) (ns : List Int), ns.length ≤ n → (∀ p ∈ cs, H p.2 = some (.tbl #[])) → SqL K H a (ns.map V.int) → sp [.ref a] H (fun v _ => v = .bl true) fun _ _ _ => False) ∧
        ∀ base : Heap, K.In base → base.Ns mainGlobals mg → (∀ p ∈ cs, TabB base mg p.1 p.2) → FnG l.prog w K mg base CX0 k fa fd [x] sp) :
    PySem.W.WalkO q loose XP YP l.row.toRowW d [] (fun f vs => PySem.call f vs) := by
  refine Att.attach_call hn hdf fun w s0 s1 mg mb fa o pm cd doc a vs ns G Y ho hd hcd hmg hobj hints hlen hg => ?_
  obtain ⟨K, fd, cs, sp, KX, hT, nT, CH, hb, hsp, hF⟩ := F w mg fa _ Y G.T.g hmg
  exact lawT KX G.T.g G.T.b G.T.builtins G.T.nolimit hg hT nT CH G.T.bmain hobj hints (Nat.le_trans hlen hn2) hr hF hb fun H hH _ hS => hsp H a ns hlen hH hS
/-! ### a hook that tells of tables -/
structure SaysV (fa : List He.Fa) (fn : List He.DefD) (tf : List He.Defn) (ex : PySem.W.Frag → Bool) (h : Heap) (K : PySem.W.Frag) : Prop where
  d : He.SaysD fa fn K
  more : ex K = true
  hd : ∀ p ∈ tf, PySem.W.codeHdIn K (He.cT K p).1 (He.cT K p).2 = true
  out : ∀ p ∈ tf, K.lookup (He.cT K p).2 = none
  empty : ∀ p ∈ tf, h.get? (He.cT K p).2 = some tab0
def obsV (n : Nat) (fa : List He.Fa) (fn : List He.DefD) (tf : List He.Defn) (ex : PySem.W.Frag → Bool) (g : Addr → Option Obj) : He.AlD × Bool := (He.obsD fa fn (frW n g), ex (frW n g) && He.tabsB g tf (frW n g))
theorem saysV_of {n : Nat} {fa : List He.Fa} {fn : List He.DefD} {tf : List He.Defn} {ex : PySem.W.Frag → Bool} {h : Heap} (e : obsV n fa fn tf ex h.get? = (He.valD fn, true)) : SaysV fa fn tf ex h (frW n h.get?) := by
  have e1 := congrArg (fun z : He.AlD × Bool => z.1) e
  have e2 : (ex (frW n h.get?) && He.tabsB h.get? tf (frW n h.get?)) = true := congrArg (fun z : He.AlD × Bool => z.2) e
  obtain ⟨m1, m2⟩ := Bool.and_eq_true_iff.mp e2
  have at_ : ∀ p ∈ tf, PySem.W.codeHdIn (frW n h.get?) (He.cT (frW n h.get?) p).1 (He.cT (frW n h.get?) p).2 = true ∧ ∃ o, h.get? (He.cT (frW n h.get?) p).2 = some o ∧ He.emptyTab o = true := fun p hp => by
    obtain ⟨z1, z2⟩ := Bool.and_eq_true_iff.mp (List.all_eq_true.mp m2 p hp)
    refine ⟨z1, ?_⟩
    cases q : h.get? (He.cT (frW n h.get?) p).2 with
    | none => rw [q] at z2; cases z2
    | some o => rw [q] at z2; exact ⟨o, rfl, z2⟩
  refine ⟨e1, m1, fun p hp => (at_ p hp).1, fun p hp => ?_, fun p hp => ?_⟩
  · obtain ⟨_, o, q, z⟩ := at_ p hp
    exact He.frT_none q z
  · obtain ⟨_, o, q, z⟩ := at_ p hp
    rw [q, He.emptyTab_eq z]
def hookV (n : Nat) (fa : List He.Fa) (fn : List He.DefD) (tf : List He.Defn) (ex : PySem.W.Frag → Bool) : PySem.W.Hook where
  α := He.AlD × Bool
  obs := fun s => obsV n fa fn tf ex s.heap.get?
  val := fun _ => (He.valD fn, true)
  says := fun _ h => ∃ K : PySem.W.Frag, K.In h ∧ SaysV fa fn tf ex h K
  of := fun _ _ e => ⟨_, He.frT_in, saysV_of e⟩
  keeps := fun _ _ _ ⟨K, hK, c⟩ k => ⟨K, PySem.W.Frag.In.keeps hK k, ⟨c.d, c.more, c.hd, c.out, fun p hp => k _ _ (c.empty p hp)⟩⟩
theorem obsV_eq {n : Nat} {fa : List He.Fa} {fn : List He.DefD} {tf : List He.Defn} {ex : PySem.W.Frag → Bool} {g : Addr → Option Obj} {s : Shared} (h : ∀ a, g a = s.heap.get? a) : obsV n fa fn tf ex g = (hookV n fa fn tf ex).obs s := by
  have e : g = s.heap.get? := funext h
  rw [e] <;> rfl
/-- the code object of a def that the head tells -/
theorem code_of {K : PySem.W.Frag} {p : He.Defn} {qual : Str} {params : Arguments} {body : List Stmt} {scope : Scope} {dvs : List V} {kws : List (Str × V)} {x : Str} {fd : FuncData} (F : FunD K x qual params body scope dvs kws (He.fAd K p) fd) : fd.code = .ref (He.cT K p).1 := by
  obtain ⟨oc, od, dV, kV, doc, pm, an, cdv, ct, osl, rfl, lk, hcd, _, _⟩ := F.ex
  obtain ⟨c, hc⟩ := He.codeIn_ref hcd
  have e := He.codeOf_eq lk (c := c) hc
  show cdv = _
  rw [hc]
  show Value.ref c = .ref (He.codeOf K p)
  rw [e]
end Wf

/-! A law whose program makes defs: its beginning, by value; old contracts that let tables grow, by value. -/
namespace Pv
open PySem PySem.Spec L2 LamX NdefX Wf
theorem end_lawT {K : PySem.W.Frag} {T : List NTab} {cs : List (Addr × Addr)} {H : Hp} {a : Addr} {ns : List Int} (hl : ns.length ≤ 1000) (tn : TabsN T H) (hT : ∀ p ∈ cs, H p.2 = some (.tbl #[])) (hO : OnlyT cs a H) (hS : SqL K H a (ns.map V.int)) : LSp K T psp_law [.ref a] H (fun v _ => v = .bl true) fun _ _ _ => False := by
  have fin : ∀ (G : Hp) (w : Addr → Option Nat), Rep K (B0 T H w) G H [some (.ref a)] [.ow true (.scr ns)] [] [] w → LSp K T psp_law [.ref a] H (fun v _ => v = .bl true) fun _ _ _ => False := fun G w r => by
    refine ⟨G, w, [.ow true (.scr ns)], fun r _ => r = .im (.bool true), noX, r, fun s hs => ?_, ⟨ns, rfl, hl, rfl⟩, fun r δ' v H' G' w' hr _ _ rep => ?_, xok_no⟩
    · rw [List.mem_singleton] at hs
      exact .inr (.inr ⟨_, hs⟩)
    · subst hr
      have : Dq K G' v (.bool true) := rep.tm 0 v _ rfl rfl
      cases this
      rfl
  rcases hS with h | h
  · have ho : ∃ o, H a = some (.frz o (.lst (ns.map V.int))) := by
      rcases h with h | ⟨o, h⟩
      · rcases hO a _ h with ⟨p, hp, e⟩ | ⟨_, o, xs, z⟩
        · have := hT p hp
          rw [e, h] at this
          cases this
        · cases z
      · exact ⟨o, h⟩
    obtain ⟨o, ho⟩ := ho
    refine fin (fun _ => none) (fun b => if b = a then some 0 else none) ⟨(fun _ _ z => by cases z), fun b i hb => ?_, rfl, fun i s hs => ?_, rfl, fun j v q hv => by simp at hv, ⟨fun b u hb => B0_some hb, .refl, tn, nofun⟩⟩
    · split at hb
      · rename_i e
        subst e
        exact ⟨rfl, by rw [ho]; exact Option.some_ne_none _, NoX.of ho (fun _ z => by cases z) (fun _ _ z => by cases z) (fun _ z => by cases z)⟩
      · cases hb
    · match i, hs with
      | 0, hs =>
        cases hs
        exact ⟨.ref a, rfl, a, rfl, .inl ⟨o, if_pos rfl, ho⟩⟩
      | i + 1, hs => simp at hs
  · refine fin (fun _ => none) (fun _ => none) ⟨(fun _ _ z => by cases z), (fun _ _ z => by cases z), rfl, fun i s hs => ?_, rfl, fun j v q hv => by simp at hv, ⟨fun b u hb => B0_some hb, .refl, tn, nofun⟩⟩
    match i, hs with
    | 0, hs =>
      cases hs
      exact ⟨.ref a, rfl, a, rfl, .inr fun H1 => .inr h⟩
    | i + 1, hs => simp at hs
/-- data is handed in, data is told; the tables grow, all else stays -/
def spG (K : PySem.W.Frag) (T : List NTab) (R : List PyData → PyData → Prop) : Sp := fun vs H Q _ => ∃ (ds : List PyData) (d : PyData), DpAll K H vs ds ∧ TabsN T H ∧ R ds d ∧ ∀ v H', ExtN H H' → TbG T H H' → Dp K H' v d → Q v H'
def pspG (R : List PyData → PyData → Prop) : PSp := fun as Q _ => ∃ (ds : List PyData) (d : PyData), as = ds.map .im ∧ R ds d ∧ noL d = true ∧ Q (.im d) as
theorem dqs_of {K : PySem.W.Frag} {G H : Hp} {m : Nat → Addr → Prop} : ∀ {ds : List PyData} {vs : List V}, vs.length = ds.length → (∀ i s, (ds.map Sl.im)[i]? = some s → SlR K G H (m i) (vs.map some)[i]? s) → DqAll K G vs ds
  | [], [], _, _ => .nil
  | d :: ds, v :: vs, hl, h => by
    obtain ⟨u, hu, hd⟩ := h 0 (.im d) rfl
    cases hu
    exact .cons hd (dqs_of (m := fun i => m (i + 1)) (by simpa using hl) fun i s hs => h (i + 1) s hs)
theorem dqAll_dp2 {K : PySem.W.Frag} {G H : Hp} (s : Same G H) : ∀ {ds : List PyData} {vs : List V}, DqAll K G vs ds → DpAll K H vs ds
  | _, _, .nil => .nil
  | _, _, .cons h t => .cons (dq_dp s _ _ h) (dqAll_dp2 s t)
theorem conv_G {K : PySem.W.Frag} {T : List NTab} {R : List PyData → PyData → Prop} (vs : List V) (H : Hp) (Q : VK) (E : XK) (h : LSp K T (pspG R) vs H Q E) : spG K T R vs H Q E := by
  obtain ⟨G, w, as, Qp, Ep, rep, _, ⟨ds, d, rfl, hr, hn, hq⟩, k, _⟩ := h
  have hl : vs.length = ds.length := by have := rep.len; simpa using this
  refine ⟨ds, d, dqAll_dp2 rep.sub (dqs_of hl fun i s hs => rep.sl i s hs), rep.bs.tt.ts rep.bs.ta, hr, fun v H' e g hv => ?_⟩
  obtain ⟨st, r2⟩ := rep.pub (x := none) (fun a o n h => e a o h n) g nofun
  have sg : Same G H' := fun a o ha => e a o (rep.sub a o ha) fun ps z => rep.bs.gt a ps (by rw [ha, z])
  have dq : Dq K (pubT G H' none) v d := dp_pub (x := none) sg (fun _ _ h => by cases h) _ _ hn hv
  exact k _ _ _ _ _ _ hq rfl (st.trans .drop) (r2.ret dq)
end Pv

/-! Lambdas that hold nothing: made, handed on, called; by value. -/
namespace Pv
open PySem PySem.Spec PyProof.Rows L2 LamX NdefX Wf
theorem clo_nil {cells : List (Str × Addr)} : ∀ {names : List (Str × NameKind)} {acc : List (Str × Addr)}, (∀ y ∈ names, y.2 ≠ .free) → cloFrom cells names acc = acc
  | [], acc, _ => rfl
  | (n, k) :: r, acc, h => by
    have hk : (k == NameKind.free) = false := by
      have := h (n, k) List.mem_cons_self
      cases k <;> first | rfl | exact absurd rfl this
    unfold cloFrom
    rw [hk]
    exact clo_nil fun y hy => h y (List.mem_cons_of_mem _ hy)
section
variable {X : Cx} {pins : List (Addr × Obj)} {σ : L2.St} {H : Hp} {s : Shared}
theorem inv_lam {F : LF} {o : Obj} {t' : Nat} {pm ctv : Value} (I : Inv X pins σ H s) (ho : o = PySem.W.kla_obj "<lambda>" F.qual F.params F.body F.scope [] pm F.c ctv) :
    Inv X pins σ (upd H s.heap.objs.size (LamO s.heap.objs.size F)) { s with heap := s.heap.push o, toks := t' } := by
  subst ho
  refine I.laid (a := s.heap.objs.size) (fun b u e => Heap.get?_push_of_some _ e) (Nat.le_refl _) ?_
  have e : (s.heap.push (PySem.W.kla_obj "<lambda>" F.qual F.params F.body F.scope [] pm F.c ctv)).get? s.heap.objs.size = some (PySem.W.kla_obj "<lambda>" F.qual F.params F.body F.scope [] pm F.c ctv) := Heap.get?_push_size _ rfl
  exact ⟨⟨pm, ctv, e⟩, ⟨_, e⟩, fun h1 h2 ⟨p, t, z⟩ st => ⟨p, t, st _ z⟩⟩
theorem lam_grow {T : List NTab} {nm : Nat → Nat → Str} {c P : Addr} {prm : Arguments} {bd : Expr} {sc : Scope} {pos : Pos} {E : Value → Shared → Prop} {Q : Value → Shared → Prop} (J : Inv X pins σ H s) (tb : TabB X.base X.mg c P) (ec : X.env.code = .ref c)
    (mem : (P, nm) ∈ T) (en : nm pos.line pos.col = X.env.qual ++ "<lambda>") (un : ∀ p ∈ T, p.1 = P → p.2 = nm) (tn : TabsN T H) (hdef : defaultsOf prm X.env = ([], [])) (fr : ∀ y ∈ sc.names, y.2 ≠ .free)
    (go : ∀ (f d : Addr) (H1 : Hp) (s' : Shared), Inv X pins σ H1 s' → ExtN H H1 → TbG T H H1 → H f = none → H1 f = some (LamO f ⟨X.env.qual ++ "<lambda>", prm, bd, sc, d⟩) → H1 d = some (CodeO d (X.env.qual ++ "<lambda>")) → d ≠ f → Q (.ref f) s') :
    wpAny (model X.prog X.w) X.A (eval (.Lambda prm bd sc pos) X.env) Q E s := by
  obtain ⟨ps, hP, tr, all⟩ := (show TabN H P nm from tn _ mem)
  have here : s.heap.get? P = some { cls := .none, data := .fields ps } := J.hok P _ hP
  have cl0 : cloFrom X.env.cells sc.names [] = [] := clo_nil fr
  have hcl : closureFor sc X.env = pure [] := by
    have := closure_ok (env := X.env) (scope := sc) fun y hy e => absurd e (fr y hy)
    rw [cl0] at this
    exact this
  refine PySem.W.kla_eval hdef ?_
  cases hc : codeAmong pos ps.toList with
  | none =>
    refine PySem.W.kla_makeFunction (mg := X.mg) (c := c) (P := P) (ps := ps) hcl J.ok.glob (J.mod.glob.keeps J.bk) ec (tb.code.keeps J.bk) here tr hc tb.gP (tb.bm.keeps J.bk) fun d ctv h' tk hx hge hlt hrec htb => ?_
    obtain ⟨d2, oc, us, t, e2, hoc, hdt, hus⟩ := hrec
    cases e2
    have nd : H d = none := J.hok.fresh hge
    have J1 := inv_table (t' := tk) (more := #[rawInt pos.line, rawInt pos.col, .ref d]) (h' := h') J hP (fun b o hb e => hx b o hb e) htb hge ⟨oc, us, t, hoc, hdt, hus⟩
    have g := tabs_grow (pos := pos) mem un hP nd
    rw [en] at g
    have nf := J1.hok.fresh (Nat.le_refl _)
    have J2 := inv_lam (F := ⟨X.env.qual ++ "<lambda>", prm, bd, sc, d⟩) (t' := tk) (pm := (X.mg "__name__").getD .none) (ctv := ctv) J1 rfl
    refine go h'.objs.size d _ _ J2 ((ext_grow hP nd).trans (.of (same_new nf))) (g.trans (.same (same_new nf))) (J.hok.fresh (Nat.le_trans hge (Nat.le_of_lt hlt))) upd_same ?_ (Nat.ne_of_lt hlt)
    exact (upd_ne (Nat.ne_of_lt hlt)).trans upd_same
  | some cv =>
    obtain ⟨d, e, hco⟩ := all pos cv hc
    subst e
    rw [en] at hco
    refine PySem.W.kla_makeFunctionHit (mg := X.mg) (c := c) (P := P) (ps := ps) hcl J.ok.glob (J.mod.glob.keeps J.bk) ec (tb.code.keeps J.bk) here tr hc (tb.bm.keeps J.bk) fun ctv h' tk hx hsz => ?_
    have J1 : Inv X pins σ H { s with heap := h', toks := tk } := J.kept hx
    have nf : H h'.objs.size = none := J1.hok.fresh (Nat.le_refl _)
    have J2 := inv_lam (F := ⟨X.env.qual ++ "<lambda>", prm, bd, sc, d⟩) (t' := tk) (pm := (X.mg "__name__").getD .none) (ctv := ctv) J1 rfl
    exact go h'.objs.size d _ _ J2 (.of (same_new nf)) (.same (same_new nf)) nf upd_same ((upd_ne (ne_of_none hco nf)).trans hco) (ne_of_none hco nf)
end
/-- a new lambda -/
def pLam (qual : Str) (prm : Arguments) (bd : Expr) (sc : Scope) : PX := fun δ Q => ∀ c, Q (.ow (.lam ⟨qual, prm, bd, sc, c⟩)) δ
theorem Rep.retLam {K : PySem.W.Frag} {B : Bas} {G H : Hp} {σ : L2.St} {δ : List Sl} {vs : List V} {rs : List R} {w : Addr → Option Nat} (r : Rep K B G H σ δ vs rs w) {f : Addr} {F : LF} (h1 : G f = some (LamO f F)) (h2 : G F.c = some (CodeO F.c F.qual)) : Rep K B G H σ δ [.ref f] [.ow (.lam F)] fun a => evn (w a) := by
  have r0 := r.drop
  refine ⟨r0.sub, r0.out, r0.len, r0.sl, rfl, fun j u q hu hq => ?_, r0.bs⟩
  match j with
  | 0 =>
    simp only [List.getElem?_cons_zero, Option.some.injEq] at hu hq
    subst hu hq
    exact ⟨f, rfl, h1, h2⟩
  | j + 1 => simp at hu
theorem je_lam {X : Cx} {B : Bas} {nm : Nat → Nat → Str} {c P : Addr} {prm : Arguments} {bd : Expr} {sc : Scope} {pos : Pos} (tb : TabB X.base X.mg c P) (ec : X.env.code = .ref c) (mem : (P, nm) ∈ B.T) (en : nm pos.line pos.col = X.env.qual ++ "<lambda>") (un : ∀ p ∈ B.T, p.1 = P → p.2 = nm)
    (fr : ∀ y ∈ sc.names, y.2 ≠ .free) (hdef : defaultsOf prm X.env = ([], [])) : JE X B (.Lambda prm bd sc pos) (pLam (X.env.qual ++ "<lambda>") prm bd sc) := by
  refine ⟨fun pins s σ H Q I ⟨G, w, δ, Qp, rep, q, k⟩ => ?_⟩
  refine lam_grow I tb ec mem en un (rep.bs.tt.ts rep.bs.ta) hdef fr fun f d H1 s' I1 e1 g1 f0 ff cc fd => ?_
  have hx : ∀ d' u, some (f, LamO f ⟨X.env.qual ++ "<lambda>", prm, bd, sc, d⟩) = some (d', u) → H d' = none ∧ H1 d' = some u ∧ NT u := fun d' u e => by
    cases e
    exact ⟨f0, ff, lamO_ne⟩
  obtain ⟨st, r2⟩ := rep.pub (x := some (f, LamO f ⟨X.env.qual ++ "<lambda>", prm, bd, sc, d⟩)) (fun a o n h => e1 a o h n) g1 hx
  have p1 : pubT G H1 (some (f, LamO f ⟨X.env.qual ++ "<lambda>", prm, bd, sc, d⟩)) f = some (LamO f ⟨X.env.qual ++ "<lambda>", prm, bd, sc, d⟩) := by
    unfold pubT
    dsimp only
    rw [if_pos rfl]
  have p2 : pubT G H1 (some (f, LamO f ⟨X.env.qual ++ "<lambda>", prm, bd, sc, d⟩)) d = some (CodeO d (X.env.qual ++ "<lambda>")) := by
    unfold pubT
    dsimp only
    rw [if_neg fd]
    cases e : G d with
    | some u =>
      have h1 := rep.sub d u e
      have h2 := e1 d u h1 fun ps z => rep.bs.gt d ps (by rw [e, z])
      rw [cc] at h2
      exact h2.symm
    | none =>
      dsimp only
      rw [if_pos ⟨none, _, cc⟩]
      exact cc
  exact ⟨.ref f, H1, I1, rfl, k _ δ _ H1 _ _ (q d) (st.trans .drop) (r2.retLam p1 p2)⟩
end Pv

/-! Lambdas called. -/
namespace Pv
open PySem PySem.Spec PyProof.Rows L2 LamX NdefX Wf
theorem run_lam {CX : CXT} {P : Program} {w : World} {K : PySem.W.Frag} {mg : Str → Option Value} {base : Heap} {k : Nat} {f : Addr} {F : LF} {N ps : List Str} (S : FnScope N ps F.scope)
    {A : Around} {outer : List Env} {s : Shared} {H : Hp} {us : List Value} {vs : List V} {Q : VK} {E : XK} (hr : Room (k + 1) A) (e0 : Env0 P w K mg base A outer s H) (hf : H f = some (LamO f F)) (hc : H F.c = some (CodeO F.c F.qual))
    (hb : ∀ pm ctv : Value, bindArgs (PySem.W.kla_fn "<lambda>" F.qual F.params F.body F.scope [] pm (.ref F.c) ctv) ⟨us, []⟩ = pure (ps.zip us)) (r : Vals vs us) (hl : vs.length = ps.length)
    (hbody : Room k (A.deeper (envOfC F.qual F.scope s.heap.objs.size f (.ref F.c))) → ∃ t, PE (cxOf CX P w K mg base N F.qual F.scope f (.ref F.c) A outer s H E) F.body t ∧ t (L2.start N vs) H Q) :
    codeAny (model P w) A (.call (.ref f) ⟨us, []⟩) (CR CX outer P w H s Q E) s := by
  have lim : s.heap.NoLimit := e0.mod.nolimit.keeps fun b o e => (e0.bs b o e).1
  obtain ⟨⟨pm, ctv, of1⟩, _, _⟩ := e0.hok f _ hf
  have hkind : ∀ y ∈ ps.zip us, F.scope.names.lookup y.1 = some .local ∨ (F.scope.names.lookup y.1 = some .cell ∧ ((cellsFrom (s.heap.objs.size + 1) F.scope.names []).lookup y.1).isSome = true) := fun ⟨n, v⟩ hy => by
    rcases S.par n (List.of_mem_zip hy).1 with q | q
    · exact .inl q
    · exact .inr ⟨q, PySem.W.cellsFrom_some _ _ _ (.inl q)⟩
  refine PySem.W.kla_callFunE hr.depth of1 rfl S.co S.gen rfl (codeO_at e0.hok hc) ?_
  rw [hb]
  refine wpAny_pure (wpAny_newFunctionEnv_cells S.kind hkind fun env he s1 x => ?_)
  subst he
  refine ⟨lim.keeps x.toInCall.keep, ?_⟩
  obtain ⟨t, ht, hq⟩ := hbody (hr.deeper _)
  have I : Inv (cxOf CX P w K mg base N F.qual F.scope f (.ref F.c) A outer s H E) [] (L2.start N vs) H s1 := inv_start S hr.hd e0 hl r x
  refine PySem.W.kla_codeExpr (wpAny_mono (ht.run [] s1 (L2.start N vs) H Q I hq) (fun v s' hs => ?_) fun e s' hs => hs)
  obtain ⟨u, H', J, rv, q⟩ := hs
  exact ⟨u, H', J.os, J.bare, J.base, J.hok, rv, q⟩
/-- a lambda of two numbers that tells a truth -/
def LamOk (P : Program) (w : World) (K : PySem.W.Frag) (mg : Str → Option Value) (F : LF) (g : Int → Int → Bool) : Prop := ∀ (base : Heap) (A : Around) (outer : List Env) (s : Shared) (H : Hp) (f : Addr) (x y : Int) (us : List Value) (Q : VK), Room 1 A → Env0 P w K mg base A outer s H → H f = some (LamO f F) → H F.c = some (CodeO F.c F.qual) → Vals [.int x, .int y] us → Q (.bl (g x y)) H →
  codeAny (model P w) A (.call (.ref f) ⟨us, []⟩) (CR CX0 outer P w H s Q E0) s
def pCallL (i : Nat) (L : LF → (Int → Int → Bool) → Prop) (ps : PL) : PX := fun δ Q => ∃ b F g, δ[i]? = some (.ow b (.lam F)) ∧ L F g ∧ ps δ fun rs δ1 => ∃ b1 x y, δ1[i]? = some (.ow b1 (.lam F)) ∧ dats δ1 rs = some [.int x, .int y] ∧ Q (.im (.bool (g x y))) δ1
theorem lam_at {X : Cx} {pins : List (Addr × Obj)} {σ : L2.St} {H : Hp} {s : Shared} {f : Addr} {F : LF} (I : Inv X pins σ H s) (h : H f = some (LamO f F)) : ∃ pm ctv : Value, s.heap.get? f = some (PySem.W.kla_obj "<lambda>" F.qual F.params F.body F.scope [] pm F.c ctv) := (I.hok f _ h).1
theorem je_callL {X : Cx} {B : Bas} {j i : Nat} {L : LF → (Int → Int → Bool) → Prop} {x : Str} {e1 e2 : Expr} {ps : PL} {p pos : Pos} (hL : ∀ F g, L F g → LamOk X.prog X.w X.K X.mg F g) (hr : Room j X.A) (hN : X.N[i]? = some x) (hv : Vis X.env.scope x) (ha : JA X B [e1, e2] ps) (hk : 1 ≤ j := by decide)
    (hd : (x == ("__debug__" : Str)) = false := by decide) (hcd : (x == ("__classdict__" : Str)) = false := by decide)
    (he : starEach [e1, e2] X.env = (false, eval e1 X.env) :: starEach [e2] X.env := by rfl) (hpl : (backTo pos (starEach [e2] X.env)).any (·.1) = false := by rfl) :
    JE X B (.Call (.Name x p) [e1, e2] [] pos) (pCallL i L ps) := by
  refine ⟨fun pins s σ H Q I ⟨G, w, δ, Qp, rep, q, kk⟩ => ?_⟩
  obtain ⟨b, F, g, h0, hLg, q⟩ := q
  obtain ⟨v0, hσ, f, rfl, g1, g2⟩ := rep.sl i _ h0
  refine wpAny_Call_Name_kw (thn ((pe_var (pos := p) hN hv hd hcd).run pins s σ H (fun v H1 => v = .ref f ∧ H1 = H) I ⟨.ref f, hσ, rfl, rfl⟩) fun u s1 ⟨v, H1, I1, r1, ev, eH⟩ => ?_)
  subst ev
  rw [eH] at I1
  obtain rfl : u = Value.ref f := r1
  have fa : ∀ {H2 : Hp} {s2 : Shared}, Inv X pins σ H2 s2 → H2 f = some (LamO f F) → PySem.W.FnAt f s2.heap := fun I2 h => by
    obtain ⟨pm, ctv, ho⟩ := lam_at I2 h
    exact ⟨_, _, _, _, ho⟩
  refine PySem.W.callWith_F (first := []) (fa I1 (rep.sub f _ g1)) (thn (ha.run pos pins s1 σ H (fun vs H2 => ∃ rs δ1 G2 w2 x y, dats δ1 rs = some [.int x, .int y] ∧ Qp (.im (.bool (g x y))) δ1 ∧ Stp B.T G H w δ G2 H2 w2 δ1 ∧ Rep X.K B G2 H2 σ δ1 vs rs w2) I1 ⟨G, w, δ, _, rep, q, fun rs δ1 vs H2 G2 w2 q2 l2 st rep2 => ?_⟩) fun us s2 ⟨vs, H2, I2, r, rs, δ1, G2, w2, x1, y1, hdt, q2, st, rep2⟩ => ?_) he hpl
  · obtain ⟨b1, x1, y1, _, hdt, q3⟩ := q2
    exact ⟨rs, δ1, G2, w2, x1, y1, hdt, q3, st, rep2⟩
  · have ev := vws2 (rep2.vws hdt)
    subst ev
    have f1 : H2 f = some (LamO f F) := rep2.sub f _ (st.g f _ g1)
    have f2 : H2 F.c = some (CodeO F.c F.qual) := rep2.sub _ _ (st.g _ _ g2)
    refine ⟨fa I2 f1, wpAny_call (codeAny_mono (hL F g hLg X.base X.A X.stack s2 H2 f x1 y1 us Q (hr.mono hk) I2.env0 f1 f2 r (kk _ δ1 _ H2 G2 _ q2 (st.trans .drop) (rep2.ret (.bl _)))) fun rr s' hq => ?_)⟩
    cases rr with
    | error er => exact False.elim hq
    | ok fl =>
      cases fl with
      | ret u => exact I2.after hq
      | next => exact False.elim hq
      | brk => exact False.elim hq
      | cont => exact False.elim hq
end Pv

/-! sorted(range(n), key=a lambda that holds a name). -/
namespace Pv
open PySem PySem.Spec PyProof.Rows L2 LamX NdefX Wf SrtO Srt
/-- the very object -/
def ObjO (a : Addr) (o : Obj) : HO := .ext fun h => h.get? a = some o
section
variable {X : Cx} {pins : List (Addr × Obj)} {σ : L2.St} {H : Hp} {s : Shared} {h' : Heap}
theorem inv_obj {a : Addr} {o : Obj} {t' : Nat} (J : L2.Inv X pins σ H s) (kk : ∀ b u, s.heap.get? b = some u → h'.get? b = some u) (hp : s.heap.objs.size ≤ a) (e : h'.get? a = some o) : L2.Inv X pins σ (upd H a (ObjO a o)) { s with heap := h', toks := t' } :=
  J.laid kk hp ⟨e, ⟨_, e⟩, fun h1 h2 z st => st _ z⟩
theorem inv_objW {a : Addr} {o o0 : Obj} {t' : Nat} (J : L2.Inv X pins σ H s) (hH : H a = some (ObjO a o0)) (kk : ∀ b u, b ≠ a → s.heap.get? b = some u → h'.get? b = some u) (e : h'.get? a = some o) : L2.Inv X pins σ (upd H a (ObjO a o)) { s with heap := h', toks := t' } :=
  J.write (by rw [hH]; exact trivial) (.inl rfl) kk ⟨_, e⟩ ⟨e, ⟨_, e⟩, fun h1 h2 z st => st _ z⟩
theorem obj_at {a : Addr} {o : Obj} (J : L2.Inv X pins σ H s) (hH : H a = some (ObjO a o)) : s.heap.get? a = some o := (J.hok a _ hH).1
end
/-! ### a lambda that holds names, called -/
theorem run_lamC {CX : CXT} {P : Program} {w : World} {K : PySem.W.Frag} {mg : Str → Option Value} {base : Heap} {k : Nat} {f : Addr} {F : NF} {bd : Expr} {N ps fr : List Str} (S : NScope N ps fr F.scope)
    {A : Around} {outer : List Env} {s : Shared} {H : Hp} {us : List Value} {vs : List V} {ws : List (Option V)} {Q : VK} {E : XK} {pm ctv : Value} (room : Room (k + 1) A) (e0 : Env0 P w K mg base A outer s H)
    (hf : s.heap.get? f = some (PySem.W.kla_obj "<lambda>" F.qual F.params bd F.scope F.cl pm F.c ctv)) (hc : H F.c = some (CodeO F.c F.qual))
    (hb : bindArgs (PySem.W.kla_fn "<lambda>" F.qual F.params bd F.scope F.cl pm (.ref F.c) ctv) ⟨us, []⟩ = pure (ps.zip us)) (rv : Vals vs us) (hl : vs.length = ps.length) (C : CellsAt F.cl fr ws s.heap H)
    (hbody : Room k (A.deeper (envF F f s.heap.objs.size)) → ∃ t, PE (ncx CX P w K mg base N F f A outer s H E) bd t ∧ t (startF N vs ws) H Q) :
    codeAny (model P w) A (.call (.ref f) ⟨us, []⟩) (CR CX outer P w H s Q E) s := by
  have nolim : s.heap.NoLimit := e0.mod.nolimit.keeps fun b o e => (e0.bs b o e).1
  refine PySem.W.kla_callFunE room.depth hf rfl S.co S.gen rfl (codeO_at e0.hok hc) ?_
  rw [hb]
  refine wpAny_pure (wpAny_newFunctionEnv S.nocell (fun ⟨n, _⟩ hy => S.par n (List.of_mem_zip hy).1) (fun g1 hns hsb => ⟨nolim.fresh _ hsb, ?_⟩) S.kind)
  show codeAny _ _ (.expr bd (envF F f s.heap.objs.size)) _ _
  have keep1 : ∀ b o, s.heap.get? b = some o → g1.get? b = some o := fun b o e => hsb.extBut b o (Nat.ne_of_lt (Heap.lt_size e)) (Heap.get?_push_of_some _ e)
  obtain ⟨t, ht, hq⟩ := hbody (room.deeper _)
  have J : L2.Inv (ncx CX P w K mg base N F f A outer s H E) [] (startF N vs ws) H { s with heap := g1, toks := s.toks + (ps.zip us).length } := inv_startN S room.hd e0 hl rv C hns keep1
  refine PySem.W.kla_codeExpr (wpAny_mono (ht.run [] _ (startF N vs ws) H Q J hq) (fun v s' hs => ?_) fun e s' hs => hs)
  obtain ⟨v', H', J', rv', q'⟩ := hs
  exact ⟨v', H', J'.os, J'.bare, J'.base, J'.hok, rv', q'⟩
/-! ### list.sort(key=f) -/
section
variable {X : Cx} {A : Around} {pins : List (Addr × Obj)} {σ : L2.St} {H : Hp} {s : Shared} {a kS f : Addr} {e e1 : Nat} {P : PySem.Fin → Shared → Prop} {E : Value → Shared → Prop}
theorem sk_tail {st : SortSt} {keys : Array Value} (J : L2.Inv X pins σ H s) (hk : H kS = some (ObjO kS (seqObj "list" keys e))) (ha : H a = some (ObjO a (seqObj "list" #[] e1))) (hka : kS ≠ a) (hz : keys.size ≤ 1000) (hsz : (arrOf st).size ≤ 1000) (hfl : failedOf st = none)
    (go : ∀ (H' : Hp) (s' : Shared) (c : Nat), L2.Inv X pins σ H' s' → (∀ b o, b ≠ kS → b ≠ a → H b = some o → H' b = some o) → H' a = some (ObjO a (seqObj "list" ((arrOf st).map (·.2)) c)) → P (.done (.ret .none)) s') :
    wpAny (model X.prog X.w) A (ksk_tail a false e1 (.ref kS) st) P E s := by
  have z24 : (1000 : Nat) < sizeLine := by decide
  have gk := obj_at J hk
  unfold ksk_tail
  try dsimp only
  refine wpAny_bind (listUpdate_at gk rfl ?_ (by omega) (Nat.zero_le _))
  obtain ⟨c1, hc1⟩ : ∃ c1, (s.heap.update kS (Obj.mapSeq fun _ => (#[] : Array Value))).get? kS = some (seqObj "list" #[] c1) := ⟨_, get?_update_seq gk fun _ => #[]⟩
  have J1 := inv_objW (t' := s.toks) J hk (fun b u hb hu => (Heap.get?_update_ne _ _ _ _ hb).trans hu) hc1
  have ha1 : upd H kS (ObjO kS (seqObj "list" #[] c1)) a = some (ObjO a (seqObj "list" #[] e1)) := (upd_ne hka.symm).trans ha
  have ga1 := obj_at J1 ha1
  refine wpAny_bind (wpAny_letGo ?_)
  refine wpAny_bind (seqEpoch_at ga1 rfl ?_)
  refine wpAny_bind (listUpdate_at ga1 rfl ?_ (Nat.zero_le _) (by rw [if_neg Bool.false_ne_true, Array.size_map]; omega))
  have hc2 := get?_update_seq ga1 fun _ => if false = true then ((arrOf st).map (·.2)).reverse else (arrOf st).map (·.2)
  have J2 := inv_objW (t' := s.toks) J1 ha1 (fun b u hb hu => (Heap.get?_update_ne _ _ _ _ hb).trans hu) hc2
  rw [hfl]
  simp only [bne_self_eq_false, Bool.false_eq_true, if_false]
  exact wpAny_pure (go _ _ _ J2 (fun b o h1 h2 h3 => by rw [upd_ne h2, upd_ne h1]; exact h3) upd_same)
/-- a tuple of two numbers, as the heap has it -/
theorem pair_at_heap {p : Addr} {x y : Int} (J : L2.Inv X pins σ H s) (h : H p = some (.tup [.int x, .int y])) : Srt.IsPair s.heap (.ref p) x y := by
  obtain ⟨_, its, r, o, ho, hc, n, hd⟩ := J.hok p _ h
  match its, r with
  | [u1, u2], .cons r1 (.cons r2 .nil) =>
    obtain ⟨t1, rfl⟩ := r1
    obtain ⟨t2, rfl⟩ := r2
    exact ⟨p, o, t1, t2, n, rfl, ho, hc, hd⟩
def KeysAt (H : Hp) (kf : Int → Int × Int) (us : List Value) (ns : List Int) : Prop := ∃ ps : List Addr, us = ps.map Value.ref ∧ ps.length = ns.length ∧ ∀ (j : Nat) p n, ps[j]? = some p → ns[j]? = some n → H p = some (.tup [.int (kf n).1, .int (kf n).2])
theorem KeysAt.snoc {H : Hp} {kf : Int → Int × Int} {us : List Value} {ns : List Int} {p : Addr} {n : Int} (k : KeysAt H kf us ns) (h : H p = some (.tup [.int (kf n).1, .int (kf n).2])) : KeysAt H kf (us ++ [.ref p]) (ns ++ [n]) := by
  obtain ⟨ps, rfl, hl, hk⟩ := k
  refine ⟨ps ++ [p], by simp, by simp [hl], fun j q m hq hm => ?_⟩
  by_cases hj : j < ps.length
  · rw [List.getElem?_append_left hj] at hq
    rw [List.getElem?_append_left (by omega)] at hm
    exact hk j q m hq hm
  · rw [List.getElem?_append_right (by omega)] at hq
    rw [List.getElem?_append_right (by omega)] at hm
    rw [← hl] at hm
    cases hx : j - ps.length with
    | zero =>
      rw [hx] at hq hm
      cases hq
      cases hm
      exact h
    | succ i => rw [hx] at hq; simp at hq
theorem KeysAt.mono {H H' : Hp} {kf : Int → Int × Int} {us : List Value} {ns : List Int} (k : KeysAt H kf us ns) (h : ∀ b xs, H b = some (.tup xs) → H' b = some (.tup xs)) : KeysAt H' kf us ns := by
  obtain ⟨ps, e, hl, hk⟩ := k
  exact ⟨ps, e, hl, fun j q m hq hm => h _ _ (hk j q m hq hm)⟩
/-- the pair that a key is -/
noncomputable def keyP (h : Heap) (v : Value) : Int × Int := by
  classical
  exact if z : ∃ q : Int × Int, Srt.IsPair h v q.1 q.2 then z.choose else (0, 0)
theorem keyP_is {h : Heap} {v : Value} {x y : Int} (p : Srt.IsPair h v x y) : keyP h v = (x, y) ∧ Srt.IsPair h v (keyP h v).1 (keyP h v).2 := by
  have z : ∃ q : Int × Int, Srt.IsPair h v q.1 q.2 := ⟨(x, y), p⟩
  have e : keyP h v = z.choose := by unfold keyP; rw [dif_pos z]
  have c := z.choose_spec
  rw [← e] at c
  refine ⟨?_, c⟩
  generalize keyP h v = kq at c
  obtain ⟨a1, o1, t1, u1, n1, rfl, ho1, hc1, hd1⟩ := p
  obtain ⟨a2, o2, t2, u2, n2, ev, ho2, hc2, hd2⟩ := c
  cases ev
  rw [ho1] at ho2
  cases ho2
  rw [hd1] at hd2
  injection hd2 with q
  have q2 := congrArg Array.toList q
  simp at q2
  exact Prod.ext q2.1.1.symm q2.2.1.symm
theorem sk_out {h : Heap} {kf : Int → Int × Int} {ns : List Int} {keys : Array Value} {vs : List Value} {arr : Array Keyed} (hi : IntsAre vs ns) (hl : keys.toList.length = vs.length) (hk : ∀ (j : Nat) u n, keys.toList[j]? = some u → ns[j]? = some n → keyP h u = kf n)
    (sr : Srtd (lt2 fun v u => lexB (keyP h v) (keyP h u)) arr.toList) (pm : arr.toList.Perm (keys.zip vs.toArray).toList) :
    ∃ out : List Int, IntsAre (arr.map (·.2)).toList out ∧ out.Perm ns ∧ out.Pairwise (fun x y => lexB (kf y) (kf x) = false) := by
  have ez : (keys.zip vs.toArray).toList = keys.toList.zip vs := ksk_zip keys vs
  rw [ez] at pm
  have rel : ∀ p ∈ arr.toList, (∃ n t, p.2 = .int n t) ∧ keyP h p.1 = kf (numOf p.2) := fun p hp => by
    have hm := pm.mem_iff.mp hp
    obtain ⟨j, hj⟩ := List.mem_iff_getElem?.mp hm
    rw [List.getElem?_zip_eq_some] at hj
    obtain ⟨h1, h2⟩ := hj
    have hjl : j < vs.length := (List.getElem?_eq_some_iff.mp h2).1
    have hln := hi.length
    have h3 : ns[j]? = some ns[j] := List.getElem?_eq_getElem (by omega)
    obtain ⟨t, ht⟩ := hi.get j _ h3
    rw [ht] at h2
    have h2 := Option.some.inj h2
    refine ⟨⟨_, t, h2.symm⟩, ?_⟩
    rw [← h2]
    exact hk j _ _ h1 h3
  have e2 : (arr.map (·.2)).toList = arr.toList.map (·.2) := by simp
  refine ⟨arr.toList.map fun p => numOf p.2, ?_, ?_, ?_⟩
  · rw [e2, show (arr.toList.map fun p => numOf p.2) = (arr.toList.map (·.2)).map numOf by rw [List.map_map]; rfl]
    refine intsAre_map _ fun v hv => ?_
    obtain ⟨p, hp, rfl⟩ := List.mem_map.mp hv
    exact (rel p hp).1
  · have h1 := pm.map fun p : Keyed => numOf p.2
    have h2 : (keys.toList.zip vs).map (fun p : Keyed => numOf p.2) = ns := by
      have e3 : (keys.toList.zip vs).map (fun p : Keyed => numOf p.2) = ((keys.toList.zip vs).map Prod.snd).map numOf := by rw [List.map_map]; rfl
      rw [e3, List.map_snd_zip (by omega), hi.nums]
    rw [h2] at h1
    exact h1
  · rw [List.pairwise_map]
    refine List.Pairwise.imp_of_mem (fun {p q} hp hq hr => ?_) sr
    have hr : lexB (keyP h q.1) (keyP h p.1) = false := hr
    rw [(rel p hp).2, (rel q hq).2] at hr
    exact hr
theorem sk_end {kf : Int → Int × Int} {ns : List Int} {vs : List Value} {keys : Array Value} (J : L2.Inv X pins σ H s) (hk : H kS = some (ObjO kS (seqObj "list" keys e))) (ha : H a = some (ObjO a (seqObj "list" #[] e1))) (hka : kS ≠ a) (hi : IntsAre vs ns) (hz : ns.length ≤ 1000) (ka : KeysAt H kf keys.toList ns)
    (go : ∀ (H' : Hp) (s' : Shared) (c : Nat) (us : Array Value) (out : List Int), L2.Inv X pins σ H' s' → (∀ b o, b ≠ kS → b ≠ a → H b = some o → H' b = some o) → H' a = some (ObjO a (seqObj "list" us c)) → IntsAre us.toList out → out.Perm ns → out.Pairwise (fun x y => lexB (kf y) (kf x) = false) → P (.done (.ret .none)) s') :
    wpAny (model X.prog X.w) A (ksk_end a false vs.toArray e1 (.ref kS) keys) P E s := by
  obtain ⟨ps, ek, hpl, hps⟩ := ka
  have hln := hi.length
  have kl : keys.toList.length = ns.length := by rw [ek, List.length_map, hpl]
  have ksz : keys.size = ns.length := by rw [← Array.length_toList, kl]
  have hzs : (keys.zip vs.toArray).size = ns.length := by rw [Array.size_zip, ksz, List.size_toArray, hln, Nat.min_self]
  have isP : ∀ (j : Nat) u n, keys.toList[j]? = some u → ns[j]? = some n → Srt.IsPair s.heap u (kf n).1 (kf n).2 := fun j u n hu hn => by
    rw [ek, List.getElem?_map] at hu
    obtain ⟨p, hp, rfl⟩ := Option.map_eq_some_iff.mp hu
    exact pair_at_heap J (hps j p n hp hn)
  have isK : ∀ (j : Nat) u n, keys.toList[j]? = some u → ns[j]? = some n → keyP s.heap u = kf n := fun j u n hu hn => (keyP_is (isP j u n hu hn)).1
  have all : ∀ u ∈ keys.toList, Srt.IsPair s.heap u (keyP s.heap u).1 (keyP s.heap u).2 := fun u hu => by
    obtain ⟨j, hj⟩ := List.mem_iff_getElem?.mp hu
    have hjl := (List.getElem?_eq_some_iff.mp hj).1
    exact (keyP_is (isP j u _ hj (List.getElem?_eq_getElem (by omega)))).2
  unfold ksk_end
  try dsimp only
  simp only [Bool.false_eq_true, if_false]
  have fin : ∀ st : SortSt, Srtd (lt2 fun v u => lexB (keyP s.heap v) (keyP s.heap u)) (arrOf st).toList → (arrOf st).toList.Perm (keys.zip vs.toArray).toList → failedOf st = none → wpAny (model X.prog X.w) A (ksk_tail a false e1 (.ref kS) st) P E s := fun st h1 h2 h3 => by
    have sz : (arrOf st).size ≤ 1000 := by
      have := h2.length_eq
      rw [Array.length_toList, Array.length_toList, hzs] at this
      omega
    obtain ⟨out, o1, o2, o3⟩ := sk_out hi (by omega) isK h1 h2
    exact sk_tail J hk ha hka (by omega) sz h3 fun H' s' c J' k1 k2 => go H' s' c _ out J' k1 k2 o1 o2 o3
  by_cases h2 : vs.toArray.size < 2
  · rw [if_pos h2, if_pos h2]
    refine wpAny_bind (wpAny_pure ?_)
    rw [StateT.run_pure]
    refine wpAny_bind (wpAny_pure ?_)
    refine fin (SortSt.mk' general' (keys.zip vs.toArray) #[] 7 none) ?_ (List.Perm.refl _) rfl
    have l1 : (keys.zip vs.toArray).toList.length < 2 := by rw [Array.length_toList, hzs]; rw [List.size_toArray] at h2; omega
    show List.Pairwise _ (keys.zip vs.toArray).toList
    match (keys.zip vs.toArray).toList, l1 with
    | [], _ => exact List.Pairwise.nil
    | [x], _ => exact List.pairwise_singleton _ _
    | _ :: _ :: l, h => exact absurd h (by rw [List.length_cons, List.length_cons]; omega)
  · rw [if_neg h2, if_neg h2]
    rw [List.size_toArray] at h2
    have so : SortableO X.prog X.w A s a keys.toList fun v u => lexB (keyP s.heap v) (keyP s.heap u) := pairs_sortableO (by omega) all fun o ho hc => by
      have e3 : some o = some (seqObj "list" #[] e1) := ho.symm.trans (obj_at J ha)
      cases e3
      exact absurd (Value.type.inj hc) (by decide)
    obtain ⟨κ, hkind, hT⟩ := so s.heap fun b o _ z => z
    rw [Array.toArray_toList] at hkind
    refine wpAny_bind (hkind _ _ ?_)
    have hall : AllL (fun p : Keyed => p.1 ∈ keys.toList) (keys.zip vs.toArray).toList := fun p hm => by
      rw [ksk_zip] at hm
      obtain ⟨x, y⟩ := p
      exact (List.of_mem_zip hm).1
    refine wpAny_bind (wpAny_mono (wpS_sortO (st0 := SortSt.mk' κ (keys.zip vs.toArray) #[] 7 none)
      (Q := fun _ st => Srtd (lt2 fun v u => lexB (keyP s.heap v) (keyP s.heap u)) (arrOf st).toList ∧ (arrOf st).toList.Perm (keys.zip vs.toArray).toList ∧ failedOf st = none) (swo2 (swo_lex _)) hT rfl hall rfl rfl fun st a1 a2 a3 => ⟨a1, a2.perm, a3⟩) ?_ fun _ _ z => z)
    rintro ⟨⟨⟩, st⟩ s' ⟨rfl, g1, g2, g3⟩
    exact fin st g1 g2 g3
theorem sk_rest {kf : Int → Int × Int} {ns : List Int} {vs : List Value} (J : L2.Inv X pins σ H s) (hk : H kS = some (ObjO kS (seqObj "list" #[] 0))) (ha : H a = some (ObjO a (seqObj "list" #[] e1))) (hka : kS ≠ a) (hi : IntsAre vs ns) (hz : ns.length ≤ 1000)
    (turn : ∀ (H1 : Hp) (s1 : Shared) (n : Int) (t : Tok), L2.Inv X pins σ H1 s1 → (∀ b o, b ≠ kS → b ≠ a → H b = some o → H1 b = some o) → n ∈ ns →
      wpAny (model X.prog X.w) A (call (.ref f) [.int n t]) (fun v s2 => ∃ p, v = .ref p ∧ H1 p = none ∧ L2.Inv X pins σ (upd H1 p (.tup [.int (kf n).1, .int (kf n).2])) s2) (fun _ _ => False) s1)
    (go : ∀ (H' : Hp) (s' : Shared) (c : Nat) (us : Array Value) (out : List Int), L2.Inv X pins σ H' s' → (∀ b o, b ≠ kS → b ≠ a → H b = some o → H' b = some o) → H' a = some (ObjO a (seqObj "list" us c)) → IntsAre us.toList out → out.Perm ns → out.Pairwise (fun x y => lexB (kf y) (kf x) = false) → P (.done (.ret .none)) s') :
    wpAny (model X.prog X.w) A (ksk_rest a (.ref f) false vs.toArray e1 (.ref kS)) P E s := by
  have z24 : (10000 : Nat) < sizeLine := by decide
  have hln := hi.length
  unfold ksk_rest
  refine wpAny_bind (wpAny_rule ?_)
  first
    | rw [List.forIn_toArray]
    | (rw [← Array.forIn_toList]; simp only [List.toList_toArray])
  refine wpAny_bind (ksk_fold (fun i s' => ∃ (Hc : Hp) (kA : Array Value) (ec : Nat), L2.Inv X pins σ Hc s' ∧ Hc kS = some (ObjO kS (seqObj "list" kA ec)) ∧ Hc a = some (ObjO a (seqObj "list" #[] e1)) ∧ (∀ b o, b ≠ kS → b ≠ a → H b = some o → Hc b = some o) ∧ KeysAt Hc kf kA.toList (ns.take i)) vs 0 s
    ⟨H, #[], 0, J, hk, ha, fun _ _ _ _ z => z, ⟨[], rfl, by simp, fun j p n hp => by simp at hp⟩⟩ ?step ?done)
  case step =>
    rintro j x s' hx ⟨Hc, kA, ec, Jc, hk1, ha1, kp1, ka⟩
    simp only [Nat.zero_add] at ka ⊢
    have hj : j < vs.length := (List.getElem?_eq_some_iff.mp hx).1
    have hn : ns[j]? = some ns[j] := List.getElem?_eq_getElem (by omega)
    obtain ⟨t, ht⟩ := hi.get j _ hn
    rw [ht] at hx
    cases hx
    have ksz : kA.size ≤ 1000 := by
      obtain ⟨qs, q1, q2, _⟩ := ka
      have := congrArg List.length q1
      rw [Array.length_toList, List.length_map, q2, List.length_take] at this
      omega
    refine wpAny_bind (wpAny_attempt (wpAny_mono (turn Hc s' _ t Jc kp1 (List.mem_of_getElem? hn)) (fun v s2 hv => ?_) fun _ _ z => z.elim))
    obtain ⟨p, rfl, hp0, J2⟩ := hv
    try dsimp only
    have nk : kS ≠ p := ne_of_none hk1 hp0
    have na : a ≠ p := ne_of_none ha1 hp0
    have hk2 := (upd_ne (H := Hc) (o := HO.tup [V.int (kf ns[j]).1, V.int (kf ns[j]).2]) nk).trans hk1
    have gk := obj_at J2 hk2
    have hc2 := get?_update_seq gk (·.push (.ref p))
    refine wpAny_bind (listUpdate_at gk rfl ?_ (by omega) (Nat.le_trans (Nat.le_of_eq (Array.size_push ..)) (by omega)))
    have J3 := inv_objW (t' := s2.toks) J2 hk2 (fun b u hb hu => (Heap.get?_update_ne _ _ _ _ hb).trans hu) hc2
    refine wpAny_pure ⟨rfl, _, kA.push (.ref p), _, J3, upd_same, ?_, fun b o h1 h2 h3 => ?_, ?_⟩
    · rw [upd_ne hka.symm, upd_ne na]
      exact ha1
    · have h4 := kp1 b o h1 h2 h3
      rw [upd_ne h1, upd_ne (ne_of_none h4 hp0)]
      exact h4
    · have et : ns.take (j + 1) = ns.take j ++ [ns[j]] := by rw [List.take_add_one, hn]; rfl
      have eu : (kA.push (Value.ref p)).toList = kA.toList ++ [.ref p] := by simp
      rw [et, eu]
      refine KeysAt.snoc (ka.mono fun b xs hb => ?_) ?_
      · have n1 : b ≠ kS := fun z => by
          subst z
          rw [hk1] at hb
          cases hb
        rw [upd_ne n1, upd_ne (ne_of_none hb hp0)]
        exact hb
      · rw [upd_ne nk.symm]
        exact upd_same
  case done =>
    rintro s' ⟨Hc, kA, ec, Jc, hk1, ha1, kp1, ka⟩
    rw [Nat.zero_add, hln, List.take_length] at ka
    refine wpAny_bind (listItems_at (obj_at Jc hk1) rfl ?_)
    exact sk_end Jc hk1 ha1 hka hi hz ka fun H' s'' c us out J' kp2 a2 o1 o2 o3 => go H' s'' c us out J' (fun b o h1 h2 h3 => kp2 b o h1 h2 (kp1 b o h1 h2 h3)) a2 o1 o2 o3
theorem sk_tree {kf : Int → Int × Int} {ns : List Int} {vs : List Value} {n0 : Nat} (J : L2.Inv X pins σ H s) (ha : H a = some (ObjO a (seqObj "list" vs.toArray n0))) (hi : IntsAre vs ns) (hz : ns.length ≤ 1000)
    (turn : ∀ (H1 : Hp) (s1 : Shared) (n : Int) (t : Tok), L2.Inv X pins σ H1 s1 → (∀ b o, b ≠ a → H b = some o → H1 b = some o) → n ∈ ns →
      wpAny (model X.prog X.w) A (call (.ref f) [.int n t]) (fun v s2 => ∃ p, v = .ref p ∧ H1 p = none ∧ L2.Inv X pins σ (upd H1 p (.tup [.int (kf n).1, .int (kf n).2])) s2) (fun _ _ => False) s1)
    (go : ∀ (H' : Hp) (s' : Shared) (c : Nat) (us : Array Value) (out : List Int), L2.Inv X pins σ H' s' → (∀ b o, b ≠ a → H b = some o → H' b = some o) → H' a = some (ObjO a (seqObj "list" us c)) → IntsAre us.toList out → out.Perm ns → out.Pairwise (fun x y => lexB (kf y) (kf x) = false) → P (.done (.ret .none)) s') :
    wpAny (model X.prog X.w) A (ksk_tree a (.ref f) false) P E s := by
  have z24 : (10000 : Nat) < sizeLine := by decide
  have hln := hi.length
  have ga := obj_at J ha
  unfold ksk_tree
  refine wpAny_bind (listItems_at ga rfl ?_)
  refine wpAny_bind (listUpdate_at ga rfl ?_ (by rw [List.size_toArray]; omega) (Nat.zero_le _))
  have hc1 := get?_update_seq ga fun _ => (#[] : Array Value)
  have J1 := inv_objW (t' := s.toks) J ha (fun b u hb hu => (Heap.get?_update_ne _ _ _ _ hb).trans hu) hc1
  refine wpAny_bind (seqEpoch_at hc1 rfl ?_)
  refine wpAny_bind (wpAny_newTuple ?_ (by show vs.length ≤ _; omega))
  refine wpAny_bind (wpAny_newList ?_ (Nat.zero_le _))
  refine wpAny_holding ?_
  have kt : ∀ (g : Heap) (o : Obj) b u, g.get? b = some u → (g.push o).get? b = some u := fun g o b u hu => Heap.get?_push_of_some _ hu
  have J2 := J1.kept (t' := s.toks) (kt _ (seqObj "tuple" vs.toArray 0))
  have J3 := inv_obj (t' := s.toks) (o := seqObj "list" #[] 0) J2 (kt _ (seqObj "list" #[] 0)) (Nat.le_refl _) (Heap.get?_push_size _ rfl)
  have hka : ((s.heap.update a (Obj.mapSeq fun _ => (#[] : Array Value))).push (seqObj "tuple" vs.toArray 0)).objs.size ≠ a := Nat.ne_of_gt (Heap.lt_size (kt _ (seqObj "tuple" vs.toArray 0) _ _ hc1))
  have fk : H ((s.heap.update a (Obj.mapSeq fun _ => (#[] : Array Value))).push (seqObj "tuple" vs.toArray 0)).objs.size = none := by
    refine J.hok.fresh ?_
    rw [PyProof.Rows.size_push', Heap.size_update]
    exact Nat.le_succ _
  exact sk_rest J3 upd_same ((upd_ne hka.symm).trans upd_same) hka hi hz
    (fun H1 s1 n t J4 kp hn => turn H1 s1 n t J4 (fun b o hb ho => kp b o (ne_of_none ho fk) hb (by rw [upd_ne (ne_of_none ho fk), upd_ne hb]; exact ho)) hn)
    (fun H' s' c us out J' kp a2 o1 o2 o3 => go H' s' c us out J' (fun b o hb ho => kp b o (ne_of_none ho fk) hb (by rw [upd_ne (ne_of_none ho fk), upd_ne hb]; exact ho)) a2 o1 o2 o3)
end
section
variable {X : Cx} {pins : List (Addr × Obj)} {σ : L2.St} {H : Hp} {s : Shared} {f r : Addr} {E : Value → Shared → Prop} {Q : Value → Shared → Prop}
theorem vals_ints : ∀ {ns : List Int} {us : List Value}, IntsAre us ns → Vals (ns.map V.int) us
  | _, _, .nil => .nil
  | _, _, .cons n t h => .cons ⟨t, rfl⟩ (vals_ints h)
theorem sorted_rg {m : Nat} {kf : Int → Int × Int} (J : L2.Inv X pins σ H s) (hr : H r = some (.rng 0 (m : Int))) (hc : X.calm = true) (hz : m ≤ 1000)
    (turn : ∀ (H1 : Hp) (s1 : Shared) (n : Nat) (t : Tok), L2.Inv X pins σ H1 s1 → (∀ b o, H b = some o → H1 b = some o) → n < m →
      wpAny (model X.prog X.w) X.A.in1.in1 (call (.ref f) [.int (n : Int) t]) (fun v s2 => ∃ p, v = .ref p ∧ H1 p = none ∧ L2.Inv X pins σ (upd H1 p (.tup [.int (kf n).1, .int (kf n).2])) s2) (fun _ _ => False) s1)
    (go : ∀ (D : Addr) (out : List Int) (H' : Hp) (s' : Shared), L2.Inv X pins σ H' s' → (∀ b o, H b = some o → H' b = some o) → H D = none → H' D = some (.lst (out.map V.int)) → out.Perm (iota m) → out.Pairwise (fun x y => lexB (kf y) (kf x) = false) → Q (.ref D) s') :
    wpAny (model X.prog X.w) X.A (call (.builtin "sorted") [.ref r] [(Str.ofString "key", .ref f)]) Q E s := by
  have z24 : (10000 : Nat) < sizeLine := by decide
  obtain ⟨t1, t2, t3, isr⟩ := J.hok r _ hr
  refine call_function_entry_kw kind_sorted plain_sorted entry_sorted (ksk_s1 _ _) ?_
  unfold Builtin.«sorted»
  refine wpAny_bind (m := checkCount "sorted" 1 1 _) (wpAny_pure ?_)
  have hh : X.A.in1.handled = none := J.ok.hd hc
  refine wpAny_bind (collect_range (A := X.A.in1) (n := m) hh (show IsRange s.heap r 0 (m : Int) 1 t1 t2 t3 from isr) (small_one (by omega) (by omega) (by omega) (by omega)) ?_ (by omega) fun h' tk acc hk hacc => ?_)
  · have := rangeSize_nat 0 (m : Int)
    simpa using this
  have hI : IntsAre acc.toList (iota m) := by
    have e : ((m : Int) - 0).toNat = m := by omega
    have hv : Vals (rgV 0 (m : Int)) acc.toList := vals_rg (by rw [e]; exact hacc)
    have e2 : rgV 0 (m : Int) = (iota m).map V.int := by
      unfold rgV iota
      rw [List.map_map, e, Int.toNat_natCast]
      refine List.map_congr_left fun i _ => ?_
      show V.int (0 + (i : Int)) = V.int (i : Int)
      rw [Int.zero_add]
    rw [e2] at hv
    exact ints_are hv
  have hl := hI.length
  have hil : (iota (m : Int)).length = m := by unfold iota; rw [List.length_map, List.length_range, Int.toNat_natCast]
  have J1 : L2.Inv X pins σ H { s with heap := h', toks := tk } := J.kept hk
  refine wpAny_bind (wpAny_newList ?_ (by omega))
  have fr : H h'.objs.size = none := J1.hok.fresh (Nat.le_refl _)
  have gL : (h'.push (seqObj "list" acc.toList.toArray 0)).get? h'.objs.size = some (seqObj "list" acc.toList.toArray 0) := Heap.get?_push_size _ rfl
  have J2 := inv_obj (t' := tk) (o := seqObj "list" acc.toList.toArray 0) J1 (fun b u hu => Heap.get?_push_of_some _ hu) (Nat.le_refl _) gL
  refine wpAny_bind (wpAny_holding (wpAny_call_entry_kw slot_list_sort ⟨_, gL, rfl⟩ entry_list_sort ?body (ksk_l1 _ _)))
  case body =>
    show wpAny (model X.prog X.w) X.A.in1.in1 (Builtin.«list.sort» ⟨[.ref h'.objs.size], [(Str.ofString "key", .ref f)]⟩) _ _ _
    rw [ksk_t1]
    refine sk_tree (kf := kf) J2 upd_same hI (by omega) (fun H1 s1 n t J3 kp hn => ?_) fun H' s' c us out J' kp a2 o1 o2 o3 => ⟨_, rfl, ?_⟩
    · obtain ⟨h0, h1⟩ := iota_mem.mp hn
      have en : n = ((n.toNat : Nat) : Int) := by omega
      rw [en]
      exact turn H1 s1 n.toNat t J3 (fun b o ho => kp b o (ne_of_none ho fr) (by rw [upd_ne (ne_of_none ho fr)]; exact ho)) (by omega)
    · have gd := obj_at J' a2
      have ol : out.length ≤ sizeLine := by rw [o2.length_eq]; omega
      have J4 := J'.write (x := h'.objs.size) (e := h'.objs.size) (o := .lst (out.map V.int)) (t' := s'.toks) (h' := s'.heap) (by rw [a2]; exact trivial) (.inl rfl) (fun b u _ hu => hu) ⟨_, gd⟩ ⟨by rw [List.length_map]; exact ol, us.toList, c, vals_ints o1, by rw [gd]⟩
      exact wpAny_pure ⟨_, rfl, go _ out _ _ J4 (fun b o ho => by rw [upd_ne (ne_of_none ho fr)]; exact kp b o (ne_of_none ho fr) (by rw [upd_ne (ne_of_none ho fr)]; exact ho)) fr upd_same o2 o3⟩
theorem lamC_grow {T : List NTab} {nm : Nat → Nat → Str} {c P : Addr} {prm : Arguments} {bd : Expr} {sc : Scope} {pos : Pos} (J : L2.Inv X pins σ H s) (tb : TabB X.base X.mg c P) (ec : X.env.code = .ref c)
    (mem : (P, nm) ∈ T) (en : nm pos.line pos.col = X.env.qual ++ "<lambda>") (un : ∀ p ∈ T, p.1 = P → p.2 = nm) (tn : TabsN T H) (hdef : defaultsOf prm X.env = ([], [])) (hfree : ∀ y ∈ sc.names, y.2 = .free → ∃ c, X.env.cells.lookup y.1 = some c)
    (go : ∀ (f d : Addr) (pm ctv : Value) (H1 : Hp) (s' : Shared), L2.Inv X pins σ H1 s' → ExtN H H1 → TbG T H H1 → H f = none → H1 f = some (ObjO f (PySem.W.kla_obj "<lambda>" (X.env.qual ++ "<lambda>") prm bd sc (cloFrom X.env.cells sc.names []) pm d ctv)) → H1 d = some (CodeO d (X.env.qual ++ "<lambda>")) → Q (.ref f) s') :
    wpAny (model X.prog X.w) X.A (eval (.Lambda prm bd sc pos) X.env) Q E s := by
  obtain ⟨ps, hP, tr, all⟩ := (show TabN H P nm from tn _ mem)
  have here : s.heap.get? P = some { cls := .none, data := .fields ps } := J.hok P _ hP
  refine PySem.W.kla_eval hdef ?_
  cases hc : codeAmong pos ps.toList with
  | none =>
    refine PySem.W.kla_makeFunction (mg := X.mg) (c := c) (P := P) (ps := ps) (closure_ok hfree) J.ok.glob (J.mod.glob.keeps J.bk) ec (tb.code.keeps J.bk) here tr hc tb.gP (tb.bm.keeps J.bk) fun d ctv h' tk hx hge hlt hrec htb => ?_
    obtain ⟨d2, oc, us, t, e2, hoc, hdt, hus⟩ := hrec
    cases e2
    have nd : H d = none := J.hok.fresh hge
    have J1 := inv_table (t' := tk) (more := #[rawInt pos.line, rawInt pos.col, .ref d]) (h' := h') J hP (fun b o hb e => hx b o hb e) htb hge ⟨oc, us, t, hoc, hdt, hus⟩
    have g := tabs_grow (pos := pos) mem un hP nd
    rw [en] at g
    have nf := J1.hok.fresh (Nat.le_refl _)
    have J2 := inv_obj (t' := tk) (o := PySem.W.kla_obj "<lambda>" (X.env.qual ++ "<lambda>") prm bd sc (cloFrom X.env.cells sc.names []) ((X.mg "__name__").getD .none) d ctv) J1 (fun b u hu => Heap.get?_push_of_some _ hu) (Nat.le_refl _) (Heap.get?_push_size _ rfl)
    refine go h'.objs.size d _ _ _ _ J2 ((ext_grow hP nd).trans (.of (same_new nf))) (g.trans (.same (same_new nf))) (J.hok.fresh (Nat.le_trans hge (Nat.le_of_lt hlt))) upd_same ?_
    exact (upd_ne (Nat.ne_of_lt hlt)).trans upd_same
  | some cv =>
    obtain ⟨d, e, hco⟩ := all pos cv hc
    subst e
    rw [en] at hco
    refine PySem.W.kla_makeFunctionHit (mg := X.mg) (c := c) (P := P) (ps := ps) (closure_ok hfree) J.ok.glob (J.mod.glob.keeps J.bk) ec (tb.code.keeps J.bk) here tr hc (tb.bm.keeps J.bk) fun ctv h' tk hx hsz => ?_
    have J1 : L2.Inv X pins σ H { s with heap := h', toks := tk } := J.kept hx
    have nf : H h'.objs.size = none := J1.hok.fresh (Nat.le_refl _)
    have J2 := inv_obj (t' := tk) (o := PySem.W.kla_obj "<lambda>" (X.env.qual ++ "<lambda>") prm bd sc (cloFrom X.env.cells sc.names []) ((X.mg "__name__").getD .none) d ctv) J1 (fun b u hu => Heap.get?_push_of_some _ hu) (Nat.le_refl _) (Heap.get?_push_size _ rfl)
    exact go h'.objs.size d _ _ _ _ J2 (.of (same_new nf)) (.same (same_new nf)) nf upd_same ((upd_ne (ne_of_none hco nf)).trans hco)
end
end Pv

/-! A def whose code object is known, by value; the lambda of a def. -/
namespace Pv
open PySem PySem.Spec PyProof.Rows L2 LamX NdefX Wf
def lamIn (st : Stmt) : Expr := match C8.fnBody st with
  | [.Return (some (.Call _ [_, _, l] _ _)) _] => l
  | _ => .Constant (.int 0) 0 ⟨0, 0, 0, 0⟩
def lamB : Expr → Expr
  | .Lambda _ b _ _ => b
  | e => e
def lamA : Expr → Arguments
  | .Lambda p _ _ _ => p
  | _ => C8.fnArgs (.Pass ⟨0, 0, 0, 0⟩)
def lamS : Expr → Scope
  | .Lambda _ _ s _ => s
  | _ => C8.fnScope (.Pass ⟨0, 0, 0, 0⟩)
theorem fn_okC {T : List NdefX.NTab} {P : Program} {w : World} {K : PySem.W.Frag} {mg : Str → Option Value} {base : Heap} {CX : CXT} {k : Nat} {f c : Addr} {fd : FuncData} {x qual : Str} {params : Arguments} {body : List Stmt} {scope : Scope} {dvs : List V} {kws : List (Str × V)} {N prm : List Str} {psp : PSp} {p : EX → PSx} {m n : Nat}
    (F : FunD K x qual params body scope dvs kws f fd) (hc : fd.code = .ref c) (S : FnScope N prm scope) (hN : N.length = m) (hn : prm.length = n) (hnm : n ≤ m) (hlen : ∀ as Qp Ep, psp as Qp Ep → as.length = n)
    (hb : ∀ (A : Around) (outer : List Env) (s : Shared) (H : Hp) (E : XK) (Bh Bt : Hp) (Ep : EX), Room k (A.deeper (PyProof.Rows.envOfC qual scope s.heap.objs.size f (.ref c))) → XOk K ⟨Bh, Bt, T⟩ Ep E → JSs (cxOf CX P w K mg base N qual scope f (.ref c) A outer s H E) ⟨Bh, Bt, T⟩ body (p Ep))
    (hp : ∀ as Qp Ep, psp as Qp Ep → p Ep (endsP as Qp) (as ++ List.replicate (m - n) .un)) : FnOk P w K mg base CX (k + 1) f fd prm (LSp K T psp) := by
  have ln : ∀ vs H Q E, LSp K T psp vs H Q E → vs.length = n := fun vs H Q E ⟨G, w, as, Qp, Ep, rep, _, h, _⟩ => by
    have := rep.len
    rw [List.length_map, hlen as Qp Ep h] at this
    exact this
  refine okC F hc S (fun vs H Q E h => by rw [hn]; exact ln vs H Q E h) fun A outer s H vs Q E hr h => ?_
  obtain ⟨Bh, Bt, Ep, hx, hl⟩ := fn_lift (N := N) (p := p) hN (fun as Qp Ep h => by rw [hlen as Qp Ep h]; exact hp as Qp Ep h) h (by rw [ln vs H Q E h]; exact hnm)
  exact ⟨_, hb A outer s H E Bh Bt Ep hr hx, hl⟩
end Pv

/-! sorted(range(n), key=lambda i: (x[i], i)), by value. -/
namespace Pv
open PySem PySem.Spec PyProof.Rows L2 LamX NdefX Wf SrtO Srt
def tRngV (ta : TE) : TE := fun σ H Q => ta σ H fun x H1 => ∃ n, x = .int n ∧ ∀ r, H1 r = none → Q (.ref r) (upd H1 r (.rng 0 n))
theorem pe_rngV {X : Cx} {a : Expr} {ta : TE} {p pos : Pos} (hg : Gl X "range") (hm : X.mg "range" = none) (ha : PE X a ta) (na : starEach [a] X.env = (false, eval a X.env) :: starEach [] X.env := by rfl) : PE X (.Call (.Name "range" p) [a] [] pos) (tRngV ta) := by
  refine ⟨fun pins s σ H Q I h => ?_⟩
  refine Call_ (ld_blt I hg hm boot_range (PyProof.Rows.callWith_type1 (one_arg ha I h (fun v s2 x H2 I2 r q => ?_) na) na))
  obtain ⟨n, rfl, q⟩ := q
  obtain ⟨t, rfl⟩ := r
  refine call_range_1 ⟨.ref s2.heap.objs.size, upd H2 s2.heap.objs.size (.rng 0 n), I2.laid (fun b u e => Heap.get?_push_of_some _ e) (Nat.le_refl _) ⟨_, _, _, Heap.get?_push_size _ rfl⟩, rfl, q _ (I2.hok.fresh (Nat.le_refl _))⟩
/-- the object of a lambda that holds names -/
def lamObj (X : Cx) (prm : Arguments) (bd : Expr) (sc : Scope) (pm ctv : Value) (d : Addr) : Obj := PySem.W.kla_obj "<lambda>" (X.env.qual ++ "<lambda>") prm bd sc (cloFrom X.env.cells sc.names []) pm d ctv
def tLamV (X : Cx) (T : List NTab) (prm : Arguments) (bd : Expr) (sc : Scope) : TE := fun σ H Q => TabsN T H ∧ ∀ (f d : Addr) (pm ctv : Value) (H1 : Hp), ExtN H H1 → TbG T H H1 → H f = none → H1 f = some (ObjO f (lamObj X prm bd sc pm ctv d)) → H1 d = some (CodeO d (X.env.qual ++ "<lambda>")) → Q (.ref f) H1
theorem pe_lamV {X : Cx} {T : List NTab} {nm : Nat → Nat → Str} {c P : Addr} {prm : Arguments} {bd : Expr} {sc : Scope} {pos : Pos} (tb : TabB X.base X.mg c P) (ec : X.env.code = .ref c) (mem : (P, nm) ∈ T) (en : nm pos.line pos.col = X.env.qual ++ "<lambda>") (un : ∀ p ∈ T, p.1 = P → p.2 = nm) (hdef : defaultsOf prm X.env = ([], []))
    (hfree : X.Ok → ∀ y ∈ sc.names, y.2 = .free → ∃ c, X.env.cells.lookup y.1 = some c) : PE X (.Lambda prm bd sc pos) (tLamV X T prm bd sc) := by
  refine ⟨fun pins s σ H Q I ⟨tn, q⟩ => ?_⟩
  exact lamC_grow I tb ec mem en un tn hdef (hfree I.ok) fun f d pm ctv H1 s' I1 e1 g1 f0 ff cc => ⟨.ref f, H1, I1, rfl, q f d pm ctv H1 e1 g1 f0 ff cc⟩
def pSortK (pa : PX) (i : Nat) : PX := fun δ Q => pa δ fun r δ1 => ∃ (m : Nat) (ks : List Int), dat δ1 r = some (.int (m : Int)) ∧ m ≤ 1000 ∧ δ1[i]? = some (.im (.tuple (ks.map PyData.int))) ∧ m ≤ ks.length ∧
  ∀ out : List Nat, out.Perm (List.range m) → out.Pairwise (fun x y => lexB (ks.getD y 0, (y : Int)) (ks.getD x 0, (x : Int)) = false) → Q (.ow (.lst (dN out))) δ1
theorem je_sortK {X : Cx} {B : Bas} {nm : Nat → Nat → Str} {c P : Addr} {prm : Arguments} {bd : Expr} {sc : Scope} {a : Expr} {pa : PX} {x y : Str} {i j : Nat} {lp p1 p2 p3 kp pos : Pos} (tb : TabB X.base X.mg c P) (ec : X.env.code = .ref c) (mem : (P, nm) ∈ B.T) (en : nm lp.line lp.col = X.env.qual ++ "<lambda>") (un : ∀ p ∈ B.T, p.1 = P → p.2 = nm) (hdef : defaultsOf prm X.env = ([], []))
    (nd : ndefB X.env.scope sc [x] = true) (hN : X.N[i]? = some x) (S : NScope [y, x] [y] [x] sc) (room : Room j X.A) (hc : X.calm = true)
    (hb : ∀ (pm ctv : Value) (d : Addr) (u : Value), bindArgs (PySem.W.kla_fn "<lambda>" (X.env.qual ++ "<lambda>") prm bd sc (cloFrom X.env.cells sc.names []) pm (.ref d) ctv) ⟨[u], []⟩ = pure [(y, u)])
    (hbody : ∀ (f d : Addr) (A : Around) (outer : List Env) (s : Shared) (H : Hp), PE (ncx CX0 X.prog X.w X.K X.mg X.base [y, x] ⟨"<lambda>", X.env.qual ++ "<lambda>", prm, [], sc, cloFrom X.env.cells sc.names [], d⟩ f A outer s H E0) bd (tTup (tCons (tOp (rIxT X.K) (tVar 1) (tVar 0)) (tCons (tVar 0) tNil))))
    (hg : Gl X "sorted") (hm : X.mg "sorted" = none) (hg2 : Gl X "range") (hm2 : X.mg "range" = none) (ha : JE X B a pa) (hj : 3 ≤ j := by decide) (na : starEach [a] X.env = (false, eval a X.env) :: starEach [] X.env := by rfl)
    (he : backTo pos (starEach [.Call (.Name "range" p2) [a] [] p3] X.env) = (false, eval (.Call (.Name "range" p2) [a] [] p3) X.env) :: backTo pos (starEach [] X.env) := by rfl) (hpl : (backTo pos (starEach [.Call (.Name "range" p2) [a] [] p3] X.env)).any (·.1) = false := by rfl)
    (hall : (backToKw pos (keywordEach [⟨some "key", .Lambda prm bd sc lp, kp⟩] X.env)).all (·.1.isSome) = true := by rfl) (hnone : (backToKw pos (keywordEach [⟨some "key", .Lambda prm bd sc lp, kp⟩] X.env)).any (·.1.isNone) = false := by rfl) (hks : (backToKw pos (keywordEach [⟨some "key", .Lambda prm bd sc lp, kp⟩] X.env)).filterMap (·.1) = [Str.ofString "key"] := by rfl) :
    JE X B (.Call (.Name "sorted" p1) [.Call (.Name "range" p2) [a] [] p3] [⟨some "key", .Lambda prm bd sc lp, kp⟩] pos) (pSortK pa i) := by
  refine ⟨fun pins s σ H Q I ⟨G, w, δ, Qp, rep, q, k⟩ => ?_⟩
  have hfree : X.Ok → ∀ y ∈ sc.names, y.2 = .free → ∃ c, X.env.cells.lookup y.1 = some c := fun ok y hy e => (ndef_free nd y hy e).elim (fun z => ok.has _ (.inl z)) fun z => ok.has _ (.inr z)
  have PR : PE X (.Call (.Name "range" p2) [a] [] p3) _ := pe_rngV hg2 hm2 ha na
  have PL := pe_lamV (T := B.T) tb ec mem en un hdef (bd := bd) (sc := sc) hfree
  refine wpAny_Call_Name_kw (ld_blt (u := .builtin "sorted") I hg hm (by decide +kernel) ?_ (by decide) (by decide))
  refine PyProof.Rows.callWith_kw (id := "sorted") (thn ((pa_cons PR pa_nil).run pos pins s σ H (fun vs H1 => ∃ (r : Addr) (m : Nat) (ks : List Int) (δ1 : List Sl) (G1 H0 : Hp) (w1 : Addr → Option Nat), vs = [.ref r] ∧ H1 = upd H0 r (.rng 0 (m : Int)) ∧ H0 r = none ∧ m ≤ 1000 ∧ δ1[i]? = some (.im (.tuple (ks.map PyData.int))) ∧ m ≤ ks.length ∧
      (∀ out : List Nat, out.Perm (List.range m) → out.Pairwise (fun x y => lexB (ks.getD y 0, (y : Int)) (ks.getD x 0, (x : Int)) = false) → Qp (.ow (.lst (dN out))) δ1) ∧ Stp B.T G H w δ G1 H0 w1 δ1 ∧ Rep X.K B G1 H0 σ δ1 [] [] w1) I ?_) fun us s1 ⟨vs, H1, I1, r1, r, m, ks, δ1, G1, H0, w1, evs, eH, hr0, hm1, hs, hmk, qq, st, rp⟩ => ?_) he hpl hall hnone
  · refine ⟨G, w, δ, _, rep, q, fun rr δ1 v H1 G1 w1 q1 s1 rep1 => ?_⟩
    obtain ⟨m, ks, hd, hm1, hs, hmk, q1⟩ := q1
    have hv : Vw X.K G1 H1 v (.int (m : Int)) := rep1.dat (j := 0) rfl rfl hd
    refine ⟨(m : Int), hv.int, fun r hr => ?_⟩
    exact ⟨r, m, ks, δ1, G1, H1, _, rfl, rfl, hr, hm1, hs, hmk, q1, s1.trans .drop, rep1.drop⟩
  · subst evs eH
    have eu := Vals.ref1 r1
    subst eu
    have tn0 : TabsN B.T H0 := rp.bs.tt.ts rp.bs.ta
    have sR : Same H0 (upd H0 r (.rng 0 (m : Int))) := same_new hr0
    refine thn ((pk_cons (nm := some "key") (kpos := kp) PL pk_nil).run pos pins s1 σ _ (fun zs H2 => ∃ (f d : Addr) (pm ctv : Value), zs = [.ref f] ∧ ExtN (upd H0 r (.rng 0 (m : Int))) H2 ∧ TbG B.T (upd H0 r (.rng 0 (m : Int))) H2 ∧ H2 f = some (ObjO f (lamObj X prm bd sc pm ctv d)) ∧ H2 d = some (CodeO d (X.env.qual ++ "<lambda>"))) I1 ⟨tn0.ext sR, fun f d pm ctv H2 e2 g2 f0 ff cc => ⟨f, d, pm, ctv, rfl, e2, g2, ff, cc⟩⟩) fun ws s2 ⟨zs, H2, I2, r2, f, d, pm, ctv, ezs, e2, g2, ff, cc⟩ => ?_
    subst ezs
    have eu := Vals.ref1 r2
    subst eu
    rw [hks]
    show wpAny (model X.prog X.w) X.A (call (.builtin "sorted") [.ref r] [(Str.ofString "key", .ref f)]) _ _ _
    have hr2 : H2 r = some (.rng 0 (m : Int)) := e2 r _ upd_same fun ps z => by cases z
    obtain ⟨kv, hkv, dk⟩ := rp.sl i _ hs
    have k02 : ∀ b o, NT o → H0 b = some o → H2 b = some o := fun b o no hb => e2 b o (sR b o hb) no
    have hfr : ∀ y ∈ [x], (y, NameKind.free) ∈ sc.names := ndef_fr nd
    have cp : ∀ ok : X.Ok, Caps X (cloFrom X.env.cells sc.names []) [x] [i] := fun ok => Caps.made ok (ndef_free nd) hfr (by show [X.N[i]?] = [some x]; rw [hN])
    cases dk with
    | tup ht hds =>
      rename_i tp us
      have eus := dqAll_ints2 hds
      subst eus
      refine sorted_rg (m := m) (kf := fun n => (ks.getD n.toNat 0, n)) I2 hr2 hc hm1 (fun H3 s3 n t J3 kp3 hn => ?_) fun D out H' s' J' kp' D0 DL pm' so => ?_
      · have of3 : s3.heap.get? f = some (lamObj X prm bd sc pm ctv d) := obj_at J3 (kp3 _ _ ff)
        have room2 : Room (0 + 1) X.A.in1.in1 := ((room.mono hj).in1).in1
        have e03 : Env0 X.prog X.w X.K X.mg X.base X.A.in1.in1 X.stack s3 H3 := ⟨J3.env0.frames, J3.env0.mod, J3.env0.bs, J3.env0.bsz, J3.env0.funs, J3.env0.frf, J3.env0.hok, J3.env0.bare⟩
        have CA := cells_of J3 (cp J3.ok)
        have ht3 : SqT X.K H3 tp (ks.map V.int) := by
          rcases ht with (h | ⟨o, h⟩) | h
          · exact .inl (.inl (kp3 _ _ (k02 _ _ (fun ps z => by cases z) (rp.sub _ _ h))))
          · exact .inl (.inr ⟨o, kp3 _ _ (k02 _ _ (fun ps z => by cases z) (rp.sub _ _ h))⟩)
          · exact .inr h
        have hat : atI (ks.map V.int) (n : Int) = some (.int (ks.getD n 0)) := by
          have hlt : n < ks.length := by omega
          unfold atI ixN
          rw [if_pos (by omega), if_pos (by rw [List.length_map]; omega)]
          show (ks.map V.int)[(n : Int).toNat]? = _
          rw [Int.toNat_natCast, List.getElem?_map, List.getElem?_eq_getElem hlt, List.getD, List.getElem?_eq_getElem hlt]
          rfl
        refine wpAny_call (codeAny_mono (run_lamC (CX := CX0) (N := [y, x]) (ps := [y]) (fr := [x]) (F := ⟨"<lambda>", X.env.qual ++ "<lambda>", prm, [], sc, cloFrom X.env.cells sc.names [], d⟩) (bd := bd) (ws := [i].map (slotAt σ)) (vs := [.int (n : Int)]) (us := [.int (n : Int) t]) (E := E0) (Q := fun v H4 => ∃ p, v = .ref p ∧ H3 p = none ∧ H4 = upd H3 p (.tup [.int (ks.getD n 0), .int (n : Int)])) S room2 e03 of3 (kp3 _ _ cc) (hb pm ctv d _) (.cons ⟨t, rfl⟩ .nil) rfl CA fun _ => ⟨_, hbody f d _ _ _ _, ?_⟩) fun rr s' hq => ?_)
        · have es : slotAt σ i = some (.ref tp) := slotAt_of hkv
          refine ⟨.ref tp, ?_, .int (n : Int), rfl, tp, _, (n : Int), _, rfl, rfl, ht3, hat, .int (n : Int), rfl, by show 2 ≤ sizeLine; decide, fun p hp => ⟨p, rfl, hp, rfl⟩⟩
          show some (slotAt σ i) = _
          rw [es]
        · cases rr with
          | error er => exact False.elim hq
          | ok fl =>
            cases fl with
            | ret u =>
              obtain ⟨v, H4, J4, rv, p, rfl, hp, rfl⟩ := J3.after hq
              cases rv
              rw [Int.toNat_natCast]
              exact ⟨p, rfl, hp, J4⟩
            | next => exact False.elim hq
            | brk => exact False.elim hq
            | cont => exact False.elim hq
      · have k0' : ∀ b o, NT o → H0 b = some o → H' b = some o := fun b o no hb => kp' b o (k02 b o no hb)
        have g0' : TbG B.T H0 H' := (TbG.same sR).trans (g2.trans (.same kp'))
        obtain ⟨st2, rp2⟩ := rp.pub (x := none) k0' g0' (fun _ _ z => by cases z)
        have D00 : H0 D = none := by
          cases e : H0 D with
          | none => rfl
          | some o =>
            by_cases no : NT o
            · rw [k02 D o no e] at D0; cases D0
            · have : ∃ ps, o = .tbl ps := Classical.byContradiction fun z => no fun ps e2 => z ⟨ps, e2⟩
              obtain ⟨ps, rfl⟩ := this
              obtain ⟨qs, e3⟩ := ((TbG.same sR).trans g2).st D ps e
              rw [e3] at D0; cases D0
        have gD : pubT G1 H' none D = none := by
          cases e : pubT G1 H' none D with
          | none => rfl
          | some o =>
            rcases pubT_some e with ⟨u, z, _⟩ | z | ⟨_, xs, z⟩
            · cases z
            · rw [rp.sub D o z] at D00; cases D00
            · exact absurd z (NoX.lst DL xs)
        have wD : w1 D = none := by
          cases e : w1 D with
          | none => rfl
          | some u => exact absurd D00 (rp.out D u e).2.1
        have bD : B D = none := by
          cases e : B D with
          | none => rfl
          | some o => rw [(rp.bs.to D o e).1] at D00; cases D00
        obtain ⟨ks2, e5, pk⟩ := nat_of_perm pm'
        subst e5
        have hd : DqAll X.K (pubT G1 H' none) ((ks2.map fun k : Nat => (k : Int)).map V.int) (dN ks2) := by
          have := dqAll_ofInts (K := X.K) (G := pubT G1 H' none) (ks2.map fun k : Nat => (k : Int))
          rw [show dN ks2 = (ks2.map fun k : Nat => (k : Int)).map PyData.int by rw [List.map_map]; rfl]
          exact this
        obtain ⟨w', hn, r3⟩ := rp2.newLst gD wD bD DL hd
        have so2 : ks2.Pairwise (fun x y => lexB (ks.getD y 0, (y : Int)) (ks.getD x 0, (x : Int)) = false) := by
          rw [List.pairwise_map] at so
          refine so.imp fun {p q} h => ?_
          simpa using h
        have st3 : Stp B.T G1 H0 w1 δ1 (pubT G1 H' none) H' w' δ1 := ⟨st2.g, st2.b, fun b u hb => by
          rcases hn b u hb with z | rfl
          · exact .inl z
          · exact .inr D00, st2.p, st2.pn, st2.t, st2.q⟩
        exact ⟨.ref D, H', J', rfl, k _ δ1 _ H' _ _ (qq ks2 pk so2) (st.trans st3) r3⟩
end Pv

namespace Pv
open PySem PySem.Spec L2 Wf
/-! ### _law_row, _law_led -/
def pe_lrow_1 : PX :=
    pTup (pCons (pCall psp_draw (pCons (pVar 0) (pCons (pFz (pC (q1 fLen) (pCons (pIx (pVar 1) (pK (.int 0))) (pNil)))) (pNil))) noX) (pCons (pCall psp_draw (pCons (pVar 0) (pCons (pFz (pIx (pVar 1) (pK (.int 1)))) (pNil))) noX) (pNil)))
def p_lrow : PSx :=
    pRet (pC (q1 fTupleOf) (pCons (pComp (iRg (pCons (pVar 2) (pNil))) (gN 3) (pYes) (pe_lrow_1) [3]) (pNil)))
def psp_lrow : PSp := fun as Q _ => ∃ (B : Book) (m : Int) (n : Nat), as = [.ow true .deal, .im (dB B), .im (nD n)] ∧ BookOk m B ∧ n ≤ 1000 ∧ ∀ r : List Wk, RowOk m B.s r → r.length = n → Q (.im (dR r)) [.ow true .deal, .un, .un]
theorem hp_lrow (as : List Sl) (Qp : QE) (Ep : EX) (h : psp_lrow as Qp Ep) : p_lrow (endsP as Qp) (as ++ List.replicate 1 .un) := by
  obtain ⟨B, m, n, rfl, bk, hn, q⟩ := h
  have pl := bk.pac.len
  have := bk.m1
  have := bk.m5
  have := bk.s1
  have := bk.s6
  refine ⟨by omega, by omega, noPin1 fun o => nofun, fun j acc δ => ∃ r : List Wk, acc = r.map dP ∧ r.length = j ∧ RowOk m B.s r ∧ δ = [.ow true .deal, .im (dB B), .im (nD n), .un], ⟨[], rfl, rfl, nofun, rfl⟩, ?_, ?_⟩
  · rintro j d acc δ hd ⟨r, rfl, rfl, hk, rfl⟩
    obtain ⟨rfl, hj⟩ := rgD_get hd
    have el : ((B.ps.map PyData.int).length : Int) = m := by rw [List.length_map]; exact pl
    refine ⟨_, rfl, _, _, rfl, _, rfl, nd1 0, _, rfl, by omega, by omega, fun a ha => ?_⟩
    refine ⟨_, rfl, _, _, rfl, _, rfl, nd1 0, _, rfl, by omega, by omega, fun b hb => ?_⟩
    refine ⟨_, _, rfl, ?_, r ++ [((a : Int), (b : Int))], ?_, by simp, fun z hz => ?_, rfl⟩
    · rw [List.length_map]
      exact szN (m := 1000) (by omega) (by decide)
    · rw [List.map_append]; rfl
    · rcases List.mem_append.mp hz with z1 | z1
      · exact hk z z1
      · rw [List.mem_singleton] at z1
        subst z1
        refine ⟨?_, ?_, ?_, ?_⟩
        · show (0 : Int) ≤ (a : Int); omega
        · show (a : Int) < m; omega
        · show (0 : Int) ≤ (b : Int); omega
        · show (b : Int) < B.s; omega
  · rintro acc δ ⟨r, rfl, hl, hk, rfl⟩
    rw [rgD_len] at hl
    exact ⟨_, _, rfl, q r hk (by omega)⟩
def ledN (B : Book) (r : List Wk) (ks : List Nat) : List Wk := ks.foldl (passR B) r
def fwdW (B : Book) : List Wk → List Nat → Prop
  | _, [] => True
  | r, k :: ks => (k + 1 < r.length ∧ (wk r (k + 1)).1 < (wk r k).1) ∧ fwdW B (passR B r k) ks
theorem ledN_ok {B : Book} {m : Int} (bk : BookOk m B) : ∀ {ks : List Nat} {r : List Wk}, RowOk m B.s r → fwdW B r ks → RowOk m B.s (ledN B r ks) ∧ (ledN B r ks).length = r.length
  | [], r, ok, _ => ⟨ok, rfl⟩
  | k :: ks, r, ok, h => by
    have h2 := ledN_ok bk (passR_ok bk ok h.1.1 h.1.2) h.2
    rw [passR_len] at h2
    exact h2
def pb_lled_1 : PSx :=
    pSeq (pAsg (pIx (pVar 3) (pVar 4)) (gT 2 (gsC (gN 5) (gsC (gN 6) (gsN)))))
    (pSeq (pAsg (pIx (pVar 3) (pAdd (pVar 4) (pK (.int 1)))) (gT 2 (gsC (gN 7) (gsC (gN 8) (gsN)))))
    (pSeq (pAsg (pCall psp_ltpair (pCons (pFz (pVar 0)) (pCons (pFz (pVar 5)) (pCons (pFz (pVar 7)) (pCons (pFz (pVar 6)) (pCons (pFz (pVar 8)) (pNil)))))) noX) (gT 2 (gsC (gN 9) (gsC (gN 10) (gsN)))))
    (pAsg (pTup (pCons (pTup (pCons (pVar 7) (pCons (pVar 9) (pNil)))) (pCons (pTup (pCons (pVar 5) (pCons (pVar 10) (pNil)))) (pNil)))) (gT 2 (gsC (gSx (pVar 3) (pVar 4)) (gsC (gSx (pVar 3) (pAdd (pVar 4) (pK (.int 1)))) (gsN)))))))
def p_lled : PSx :=
    pSeq (pSet 3 (pC (q1L fListOf) (pCons (pVar 1) (pNil))))
    (pSeq (pFor [4, 5, 6, 7, 8, 9, 10] (iSeq (pVar 2)) (gN 4) (pb_lled_1))
    (pRet (pC (q1 fTupleOf) (pCons (pVar 3) (pNil)))))
def psp_lled : PSp := fun as Q _ => ∃ (B : Book) (m : Int) (r : List Wk) (ks : List Nat) (d : PyData), as = [.im (dB B), .im (dR r), .im d] ∧ seqD d = some (dN ks) ∧ BookOk m B ∧ RowOk m B.s r ∧ fwdW B r ks ∧ Q (.im (dR (ledN B r ks))) [.un, .un, .un]
theorem hp_lled (as : List Sl) (Qp : QE) (Ep : EX) (h : psp_lled as Qp Ep) : p_lled (endsP as Qp) (as ++ List.replicate 8 .un) := by
  obtain ⟨B, m, r, ks, d, rfl, hd, bk, ok, fw, q⟩ := h
  refine ⟨_, _, rfl, ?_⟩
  refine ⟨_, _, _, rfl, hd, ?_⟩
  refine ⟨fun i δ => ∃ r', RowOk m B.s r' ∧ fwdW B r' (ks.drop i) ∧ ledN B r ks = ledN B r' (ks.drop i) ∧ δ = [.im (dB B), .im (dR r), .im d, .ow false (.lst (r'.map dP)), .un, .un, .un, .un, .un, .un, .un], ⟨r, ok, fw, rfl, rfl⟩, ?_, ?_⟩
  · rintro i x δ hx ⟨r', ok', fw', he, rfl⟩
    rw [List.getElem?_map] at hx
    obtain ⟨j, hk, rfl⟩ := Option.map_eq_some_iff.mp hx
    have hi := (List.getElem?_eq_some_iff.mp hk).1
    have ed : ks.drop i = j :: ks.drop (i + 1) := by
      rw [List.drop_eq_getElem_cons hi, (List.getElem?_eq_some_iff.mp hk).2]
    rw [ed] at he fw'
    obtain ⟨⟨hj, c3⟩, fw2⟩ := fw'
    refine ⟨_, atW rfl (show j < r'.length by omega), _, _, rfl, rfl, rfl, ?_⟩
    refine ⟨_, atW (j := j + 1) (by omega) hj, _, _, rfl, rfl, rfl, ?_⟩
    refine ⟨_, _, rfl, _, _, rfl, _, _, rfl, _, _, rfl, _, _, rfl, _, rfl, List.nodup_nil, B, m, _, _, _, _, rfl, bk, pl_of ok' hj c3, ?_⟩
    refine ⟨_, _, rfl, rfl, rfl, ?_⟩
    refine ⟨_, _, rfl, rfl, ?_⟩
    refine ⟨_, _, _, _, j, rfl, rfl, rfl, ixNn rfl (by rw [List.length_map]; omega), ?_⟩
    refine ⟨_, _, _, _, j + 1, rfl, rfl, rfl, ixNn (by omega) (by rw [List.length_set, List.length_map]; omega), rfl, ?_⟩
    refine ⟨passR B r' j, passR_ok bk ok' hj c3, fw2, he, ?_⟩
    have e : ((r'.map dP).set j (.tuple [.int (wk r' (j + 1)).1, .int (B.at (wk r' j).1 (wk r' (j + 1)).1 (wk r' j).2 (wk r' (j + 1)).2).1])).set (j + 1) (.tuple [.int (wk r' j).1, .int (B.at (wk r' j).1 (wk r' (j + 1)).1 (wk r' j).2 (wk r' (j + 1)).2).2]) = (passR B r' j).map dP := by
      unfold passR
      rw [← setW, ← setW]
      rfl
    rw [← e]
    rfl
  · rintro δ ⟨r', ok', fw', he, rfl⟩
    rw [dN_len, List.drop_length] at he
    rw [he] at q
    exact ⟨_, _, rfl, q⟩
/-! ### data of rows, for repr and alike -/
theorem inP_row {m s : Int} {r : List Wk} (m5 : m ≤ 1000) (s6 : s ≤ 1000) (ok : RowOk m s r) : ∀ p ∈ r, InP 1000 p := fun p hp => by
  obtain ⟨h1, h2, h3, h4⟩ := ok p hp
  exact ⟨h1, by omega, h3, by omega⟩
theorem tame_dR {m s : Int} {r : List Wk} (m5 : m ≤ 1000) (s6 : s ≤ 1000) (ok : RowOk m s r) : tame (dR r) = true ∧ (dR r).depth ≤ 2 ∧ wt (dR r) ≤ 3 * r.length + 1 := by
  have h1 := tame_map dP 1 3 r fun p hp => tame_dP (inP_row m5 s6 ok p hp) (by omega)
  refine ⟨h1.1, Nat.succ_le_succ h1.2.1, ?_⟩
  show wtAll (r.map dP) + 1 ≤ _
  have := h1.2.2
  omega
/-- what repr asks of a book with a row -/
theorem shown_BR {m : Int} {B : Book} {r : List Wk} (bk : BookOk m B) (ok : RowOk m B.s r) (hl : r.length ≤ 1000) : (PyData.tuple [dB B, dR r]).showable = true ∧ (PyData.tuple [dB B, dR r]).depth ≤ 60 ∧ (PyData.tuple [dB B, dR r]).shown.length ≤ sizeLine := by
  have h1 := tame_dB bk
  have h3 := tame_dR (by have := bk.m5; omega) (by have := bk.s6; omega) ok
  have ht : tame (.tuple [dB B, dR r]) = true := by
    show (tame (dB B) && (tame (dR r) && true)) = true
    rw [h1.1, h3.1]; rfl
  have h2 := tame_ok _ ht
  have hw : wt (.tuple [dB B, dR r]) ≤ 6000 := by
    show wt (dB B) + (wt (dR r) + 0) + 1 ≤ 6000
    omega
  have hd : (PyData.tuple [dB B, dR r]).depth ≤ 60 := by
    show max (dB B).depth (max (dR r).depth 0) + 1 ≤ 60
    have := h1.2.1
    have := h3.2.1
    omega
  refine ⟨h2.1, hd, PyData.shown_fits_bulk (B := 13) (by decide) (by decide) h2.2.1 ?_⟩
  have : (2 : Nat) ^ 20 = 1048576 := by decide
  have := h2.2.2.1
  omega
theorem noL_dR (r : List Wk) : noL (dR r) = true := noLAll_dP r
theorem wt_dR (r : List Wk) : wt (dR r) ≤ 3 * r.length + 1 := by
  have : wtAll (r.map dP) ≤ 3 * r.length := wt_map dP 3 (fun _ => Nat.le_refl _) r
  show wtAll (r.map dP) + 1 ≤ _
  omega
/-- what is told: a row, or the letter that can't be -/
def ledD : Nat ⊕ List Wk → PyData
  | .inl n => .tuple [.str "none", nD n]
  | .inr r => .tuple [.str "told", dR r]
theorem noL_s {x : Str} (h : PyData.canLay0 (.str x) = true) : noL (.str x) = true := h
theorem noL_none : noL (.str ("none" : Str)) = true := noL_s (by decide +kernel)
theorem noL_told : noL (.str ("told" : Str)) = true := noL_s (by decide +kernel)
theorem noL_ledD (x : Nat ⊕ List Wk) : noL (ledD x) = true := by
  cases x with
  | inl n =>
    show (noL (.str ("none" : Str)) && (true && true)) = true
    rw [noL_none]; rfl
  | inr r =>
    show (noL (.str ("told" : Str)) && (noL (dR r) && true)) = true
    rw [noL_dR, noL_told]; rfl
theorem selTen (a b : Nat) : atI [nD a, .int 10] (if decide ((b : Int) = 0) = true then 1 else 0) = some (nD (if b = 0 then 10 else a)) := by
  by_cases h : b = 0
  · subst h
    rfl
  · have : ¬ (b : Int) = 0 := by omega
    rw [if_neg h, decide_eq_false this]
    rfl
theorem selTen_le {a b : Nat} (h : a ≤ 10) : (if b = 0 then 10 else a) ≤ 10 := by split <;> omega
/-- for x in a list of numbers -/
theorem for_all {step : PyData → PSx} {ts : List Nat} {E : PEn} {ds : List PyData} {δ : List Sl} (P : PyData → Prop) (hP : ∀ d ∈ ds, P d) (I : List Sl → Prop) (h0 : I δ) (hs : ∀ d δ, P d → I δ → step d ⟨fun δ' => I (wipeT δ' ts), E.rt, fun δ' => E.nx (wipeT δ' ts), fun δ' => I (wipeT δ' ts)⟩ δ) (he : ∀ δ, I δ → E.nx δ) : loopI step ts E ds δ :=
  ⟨fun _ δ => I δ, h0, fun i d δ hd hi => hs d δ (hP d (List.mem_of_getElem? hd)) hi, he⟩
theorem mem_cutD {α : Type} {xs : List α} {lo hi : Option Int} {x : α} (h : x ∈ cutD xs lo hi) : x ∈ xs := List.mem_of_mem_drop (List.mem_of_mem_take h)
theorem cutD_len {α : Type} (xs : List α) (lo hi : Option Int) : (cutD xs lo hi).length ≤ xs.length := by
  unfold cutD
  rw [List.length_take, List.length_drop]
  omega
theorem pow1020 : ((10 : Int) ^ (Int.toNat 20)) = 100000000000000000000 := by decide
end Pv

/-! Calls that draw: what stands in the slots stays, as it is written. -/
namespace Pv
open PySem PySem.Spec L2 Wf
theorem putB_ims (δ : List Sl) : ∀ (ds : List PyData) (os : List Sl), putB δ (ds.map .im) os = δ
  | [], _ => by simp [putB]
  | _ :: _, [] => by simp [putB]
  | d :: ds, s :: os => by
    show putB (put1 δ (.im d) s) (ds.map .im) os = δ
    rw [show put1 δ (.im d) s = δ by unfold put1; split <;> first | rfl | (rename_i h; cases h)]
    exact putB_ims δ ds os
theorem set_same {δ : List Sl} {i : Nat} {s : Sl} (h : δ[i]? = some s) : δ.set i s = δ := by
  apply List.ext_getElem?
  intro k
  by_cases e : i = k
  · subst e
    rw [List.getElem?_set_self (List.getElem?_eq_some_iff.mp h).1, h]
  · rw [List.getElem?_set_ne e]
theorem putB_keep {δ : List Sl} {i : Nat} {b : Bool} {o : O} (h : δ[i]? = some (.ow b o)) (ds : List PyData) (os : List Sl) : putB δ (.at i :: ds.map .im) (.ow true o :: os) = δ := by
  show putB (put1 δ (.at i) (.ow true o)) (ds.map .im) os = δ
  rw [put1_at h, set_same h, putB_ims]
theorem argsOf_ims (δ : List Sl) : ∀ ds : List PyData, argsOf δ (ds.map .im) = some (ds.map .im)
  | [] => rfl
  | d :: ds => by
    show (match argOf δ (.im d) with | none => none | some s => match argsOf δ (ds.map .im) with | none => none | some ss => some (s :: ss)) = _
    rw [argsOf_ims δ ds]
    rfl
theorem atIx_ims (δ : List Sl) : ∀ ds : List PyData, atIx δ (ds.map .im) = []
  | [] => rfl
  | d :: ds => atIx_ims δ ds
theorem args_deal {δ : List Sl} {i : Nat} {b : Bool} {o : O} (h : δ[i]? = some (.ow b o)) (ds : List PyData) : argsOf δ (.at i :: ds.map .im) = some (.ow true o :: ds.map .im) := by
  show (match argOf δ (.at i) with | none => none | some s => match argsOf δ (ds.map .im) with | none => none | some ss => some (s :: ss)) = _
  rw [argsOf_ims δ ds, show argOf δ (.at i) = some (.ow true o) by unfold argOf; simp only [h]]
theorem atIx_deal {δ : List Sl} {i : Nat} {b : Bool} {o : O} (h : δ[i]? = some (.ow b o)) (ds : List PyData) : (atIx δ (.at i :: ds.map .im)).Nodup := by
  have : atIx δ (.at i :: ds.map .im) = [i] := by
    show (match δ[i]? with | some (.ow _ _) => i :: atIx δ (ds.map .im) | _ => atIx δ (ds.map .im)) = _
    rw [h, atIx_ims]
  rw [this]
  exact nd1 i
theorem pVar_ow {δ : List Sl} {i : Nat} {b : Bool} {o : O} {Q : QE} (h : δ[i]? = some (.ow b o)) (q : Q (.at i) δ) : pVar i δ Q := by
  unfold pVar
  rw [h]
  exact q
/-- draw of a number in one's hand -/
theorem draw_go {i : Nat} {p : PX} {δ δ1 : List Sl} {b : Bool} {n : Int} {Q : QE} (h : δ[i]? = some (.ow b .deal)) (hp : ∀ Q' : QE, Q' (.im (.int n)) δ1 → p δ Q') (h1 : δ1[i]? = some (.ow b .deal)) (h0 : 0 < n) (hn : n < 2 ^ 200) (q : ∀ k : Nat, (k : Int) < n → Q (.im (nD k)) δ1) :
    pCall psp_draw (pCons (pVar i) (pCons (pFz p) pNil)) noX δ Q := by
  unfold pCall pCons
  refine pVar_ow h ?_
  refine hp _ ⟨_, _, rfl, ?_⟩
  refine ⟨_, args_deal h1 [.int n], atIx_deal h1 [.int n], n, rfl, h0, hn, fun k hk => ?_⟩
  have := putB_keep h1 [.int n] [.im (.int n)]
  show Q _ (putB δ1 (.at i :: [PyData.int n].map .im) [.ow true .deal, .im (.int n)])
  rw [this]
  exact q k hk
/-- draw(deal, n), n written -/
theorem draw_k {i : Nat} {δ : List Sl} {b : Bool} {n : Int} {Q : QE} (h : δ[i]? = some (.ow b .deal)) (h0 : 0 < n) (hn : n < 2 ^ 200) (q : ∀ k : Nat, (k : Int) < n → Q (.im (nD k)) δ) :
    pCall psp_draw (pCons (pVar i) (pCons (pFz (pK (.int n))) pNil)) noX δ Q := draw_go h (fun _ q => q) h h0 hn q
theorem fz_im {p : PX} {δ δ1 : List Sl} {d : PyData} {Q : QE} (hp : ∀ Q' : QE, Q' (.im d) δ1 → p δ Q') (q : Q (.im d) δ1) : pFz p δ Q := hp _ ⟨_, _, rfl, q⟩
/-- the deal in slot 1, or 0, stays -/
theorem pk1 {s0 s : Sl} {b : Bool} {d : PyData} {δ : List Sl} : putB (s0 :: .ow b .deal :: δ) [.at 1, .im d] [.ow true .deal, s] = s0 :: .ow b .deal :: δ := rfl
theorem pk0 {s : Sl} {b : Bool} {d : PyData} {δ : List Sl} : putB (.ow b .deal :: δ) [.at 0, .im d] [.ow true .deal, s] = .ow b .deal :: δ := rfl
theorem pk1' {s0 : Sl} {b : Bool} {rs : List R} {ss δ : List Sl} : putB (s0 :: .ow b .deal :: δ) (.at 1 :: rs) (.ow true .deal :: ss) = putB (s0 :: .ow b .deal :: δ) rs ss := rfl
theorem pk0' {b : Bool} {rs : List R} {ss δ : List Sl} : putB (.ow b .deal :: δ) (.at 0 :: rs) (.ow true .deal :: ss) = putB (.ow b .deal :: δ) rs ss := rfl
theorem pkI {d : PyData} {s : Sl} {rs : List R} {ss δ : List Sl} : putB δ (.im d :: rs) (s :: ss) = putB δ rs ss := by
  show putB (put1 δ (.im d) s) rs ss = _
  rw [show put1 δ (.im d) s = δ by unfold put1; split <;> first | rfl | (rename_i h; cases h)]
theorem pkN {ss δ : List Sl} : putB δ [] ss = δ := by simp [putB]
end Pv

namespace Pv
open PySem PySem.Spec L2 Wf
/-! ### slices, equal data -/
theorem cut_take {α : Type} (xs : List α) (k : Nat) : cutD xs none (some (k : Int)) = xs.take k := by
  unfold cutD
  rw [HT.sIx_none, HT.sIx_nat, List.drop_zero, Nat.sub_zero]
  by_cases h : k ≤ xs.length
  · rw [Nat.min_eq_left h]
  · rw [Nat.min_eq_right (by omega), List.take_length, List.take_of_length_le (by omega)]
theorem cut_drop {α : Type} (xs : List α) (k : Nat) : cutD xs (some (k : Int)) none = xs.drop k := by
  unfold cutD
  rw [HT.sIx_none, HT.sIx_nat]
  by_cases h : k ≤ xs.length
  · rw [Nat.min_eq_left h, List.take_of_length_le (by rw [List.length_drop]; omega)]
  · rw [Nat.min_eq_right (by omega), List.drop_length, List.drop_of_length_le (by omega)]
    simp
theorem cut_mid {α : Type} (xs : List α) (i j : Nat) : cutD xs (some (i : Int)) (some (j : Int)) = (xs.drop i).take (j - i) := by
  unfold cutD
  rw [HT.sIx_nat, HT.sIx_nat]
  by_cases h : i ≤ xs.length
  · rw [Nat.min_eq_left h]
    by_cases h2 : j ≤ xs.length
    · rw [Nat.min_eq_left h2]
    · rw [Nat.min_eq_right (by omega), List.take_of_length_le (by rw [List.length_drop]; omega), List.take_of_length_le (by rw [List.length_drop]; omega)]
  · rw [List.drop_of_length_le (show xs.length ≤ min i xs.length by omega), List.drop_of_length_le (show xs.length ≤ i by omega)]
    simp
theorem cut_map {α β : Type} (f : α → β) (xs : List α) (lo hi : Option Int) : cutD (xs.map f) lo hi = (cutD xs lo hi).map f := by
  unfold cutD
  rw [List.length_map, List.map_take, List.map_drop]
theorem shapedT_map {α : Type} (f : α → PyData) (n : Nat) (hn : n < 64) (l : List α) (h : ∀ x ∈ l, (f x).canLay0 = true ∧ (f x).depth ≤ n) : SeqAt.shaped (.tuple (l.map f)) = true := by
  have h := lay_map f n l h
  have h2 : (PyData.tuple (l.map f)).depth ≤ n + 1 := Nat.succ_le_succ h.2
  unfold SeqAt.shaped
  rw [show (PyData.tuple (l.map f)).canLay0 = true from h.1]
  simp
  omega
theorem eqd_self {d : PyData} (h : SeqAt.shaped d = true) : eqd d d = true := SeqAt.eqv_refl d (SeqAt.canLay_of_shaped h)
theorem lay_dP (p : Wk) : (dP p).canLay0 = true ∧ (dP p).depth ≤ 1 := ⟨rfl, by show max 0 (max 0 0) + 1 ≤ 1; decide⟩
theorem shaped_dR (r : List Wk) : SeqAt.shaped (dR r) = true := shapedT_map dP 1 (by decide) r fun p _ => lay_dP p
/-! ### kinds of rows, forward words -/
def kindsN (r : List Wk) : List Nat := r.map fun p => p.1.toNat
theorem kindsN_len (r : List Wk) : (kindsN r).length = r.length := List.length_map _
theorem kindsN_get {r : List Wk} {k : Nat} (h : k < r.length) : (kindsN r).getD k 0 = (wk r k).1.toNat := by
  unfold kindsN
  simp [List.getD, List.getElem?_map, wk_get h]
theorem set_set_eq {α : Type} {r : List α} {i j : Nat} {a b : α} (h : i ≠ j) : (r.set i a).set j b = (r.set j b).set i a := List.set_comm _ _ h
theorem kinds_pass (B : Book) {r : List Wk} {k : Nat} (h : k + 1 < r.length) : kindsN (passR B r k) = swp (kindsN r) k := by
  unfold passR swp
  rw [kindsN_get h, kindsN_get (show k < r.length by omega)]
  unfold kindsN
  rw [List.map_set, List.map_set]
def iW (ws : List Nat) : List Int := ws.map fun k : Nat => (k : Int)
theorem ledG_fwd {B : Book} : ∀ {ws : List Nat} {r : List Wk} {n : Nat}, fwdW B r ws → ledG B n r (iW ws) = .inr (ledN B r ws)
  | [], r, n, _ => rfl
  | k :: ws, r, n, h => by
    have c : canP r (k : Int) = true := by
      have h1 := h.1.1
      have h2 := h.1.2
      unfold canP
      simp
      omega
    show (if canP r (k : Int) = true then ledG B (n + 1) (passR B r (k : Int).toNat) (iW ws) else .inl n) = _
    rw [if_pos c]
    exact ledG_fwd (ws := ws) h.2
theorem fwd_of_word {B : Book} {m : Int} (bk : BookOk m B) : ∀ {ws : List Nat} {r : List Wk}, RowOk m B.s r → wordOk false (kindsN r) ws → fwdW B r ws
  | [], _, _, _ => trivial
  | k :: ws, r, ok, h => by
    have h1 := h.1.1
    rw [kindsN_len] at h1
    have h2 : (wk r (k + 1)).1 < (wk r k).1 := by
      rcases h.1.2 with z | z
      · rw [kindsN_get h1, kindsN_get (show k < r.length by omega)] at z
        have := (wk_ok ok h1).1
        have := (wk_ok ok (show k < r.length by omega)).1
        omega
      · exact absurd z.1 (by decide)
    refine ⟨⟨h1, h2⟩, fwd_of_word bk (passR_ok bk ok h1 h2) ?_⟩
    rw [kinds_pass B h1]
    exact h.2
theorem ledN_app (B : Book) (r : List Wk) (a b : List Nat) : ledN B r (a ++ b) = ledN B (ledN B r a) b := by
  unfold ledN
  rw [List.foldl_append]
theorem fwdW_app {B : Book} : ∀ {a b : List Nat} {r : List Wk}, fwdW B r (a ++ b) → fwdW B r a ∧ fwdW B (ledN B r a) b
  | [], b, r, h => ⟨trivial, h⟩
  | k :: a, b, r, h => by
    have := fwdW_app (a := a) h.2
    exact ⟨⟨h.1, this.1⟩, this.2⟩
theorem dN_iW (ws : List Nat) : dN ws = (iW ws).map PyData.int := by unfold iW; rw [List.map_map]; rfl
theorem iW_len (ws : List Nat) : (iW ws).length = ws.length := List.length_map _
theorem dK_iW (ws : List Nat) : dK (iW ws) = .tuple (dN ws) := by rw [dN_iW]; rfl
/-- the kinds of a row, as data -/
theorem kinds_data {m s : Int} {r : List Wk} (ok : RowOk m s r) : (r.map fun p => PyData.int p.1) = dN (kindsN r) := by
  unfold kindsN dN
  rw [List.map_map]
  refine List.map_congr_left fun p hp => ?_
  have := (ok p hp).1
  show PyData.int p.1 = .int ((p.1.toNat : Nat) : Int)
  rw [Int.toNat_of_nonneg this]
end Pv

namespace Pv
open PySem PySem.Spec L2 Wf
variable {B : Bas}
/-! ### in, not in: texts or numbers in a tuple or list of such -/
def fInT (neg : Bool) : PyData → PyData → (PyData → Prop) → Prop := fun x y k => ∃ ds, seqD y = some ds ∧
  ((∃ (s : Str) (ss : List Str), x = .str s ∧ ds = ss.map .str ∧ k (.bool (if neg then !decide (s ∈ ss) else decide (s ∈ ss)))) ∨
   (∃ (i : Int) (is : List Int), x = .int i ∧ ds = is.map .int ∧ k (.bool (if neg then !decide (i ∈ is) else decide (i ∈ is)))))
theorem fInT_mono {neg : Bool} : ∀ d e (k k' : PyData → Prop), (∀ e, k e → k' e) → fInT neg d e k → fInT neg d e k' := by
  rintro d e k k' hk ⟨ds, h, q⟩
  refine ⟨ds, h, ?_⟩
  rcases q with ⟨s, ss, h1, h2, q⟩ | ⟨s, ss, h1, h2, q⟩
  · exact .inl ⟨s, ss, h1, h2, hk _ q⟩
  · exact .inr ⟨s, ss, h1, h2, hk _ q⟩
theorem dqAll_strs {K : PySem.W.Frag} {G : Hp} : ∀ {ss : List Str} {us : List V}, DqAll K G us (ss.map PyData.str) → us = ss.map V.str
  | [], _, h => by cases h; rfl
  | n :: ns, _, h => by
    cases h with
    | cons h1 h2 =>
      cases h1
      rw [dqAll_strs h2]
      rfl
theorem inV_str (s : Str) (ss : List Str) : inV (.str s) (ss.map V.str) = decide (s ∈ ss) := by
  unfold inV
  induction ss with
  | nil => rfl
  | cons t ss ih =>
    rw [List.map_cons, List.any_cons, ih]
    have : eqV (.str t) (.str s) = decide (s = t) := by
      by_cases e : s = t
      · subst e; simp [eqV]
      · have e' : ¬ t = s := fun z => e z.symm
        simp [eqV, e, e']
    rw [this]
    by_cases e : s = t <;> simp [e]
theorem inV_int (s : Int) (ss : List Int) : inV (.int s) (ss.map V.int) = decide (s ∈ ss) := by
  unfold inV
  induction ss with
  | nil => rfl
  | cons t ss ih =>
    rw [List.map_cons, List.any_cons, ih]
    have : eqV (.int t) (.int s) = decide (s = t) := by
      by_cases e : s = t
      · subst e; simp [eqV]
      · have e' : ¬ t = s := fun z => e z.symm
        simp [eqV, e, e']
    rw [this]
    by_cases e : s = t <;> simp [e]
theorem flat_strs (ss : List Str) : (ss.map V.str).all flatV = true := by simp [flatV]
theorem flat_ints (ss : List Int) : (ss.map V.int).all flatV = true := by simp [flatV]
theorem vw_seq {K : PySem.W.Frag} {G H : Hp} {v : V} {d : PyData} {ds : List PyData} (s : Same G H) (h : Vw K G H v d) (e : seqD d = some ds) : ∃ a us, v = .ref a ∧ (SqL K H a us ∨ SqT K H a us) ∧ DqAll K G us ds := by
  cases d with
  | list l =>
    cases e
    obtain ⟨a, us, rfl, ha, hd⟩ := h.seqL s
    exact ⟨a, us, rfl, .inl (SqL.of ha), hd⟩
  | tuple l =>
    cases e
    obtain ⟨a, us, rfl, ha, hd, _⟩ := h.seqT s
    exact ⟨a, us, rfl, .inr ha, hd⟩
  | none => cases e
  | bool _ => cases e
  | int _ => cases e
  | str _ => cases e
  | dict _ => cases e
theorem lc_inT {K : PySem.W.Frag} {neg : Bool} : LC K (q2 (fInT neg)) (ap2 (rIn K neg)) := by
  refine lc_im2 (fun G H v u d e Q s hv hu q => ?_) fInT_mono
  obtain ⟨ds, hs, q⟩ := q
  obtain ⟨a, us, rfl, hq, hd⟩ := vw_seq s hu hs
  rcases q with ⟨x, ss, rfl, rfl, q⟩ | ⟨x, ss, rfl, rfl, q⟩
  · have e := hv.str
    subst e
    have e2 := dqAll_strs hd
    subst e2
    refine ⟨a, _, rfl, hq, rfl, flat_strs ss, ?_⟩
    rw [inV_str]
    exact q _ _ .bool
  · have e := hv.int
    subst e
    have e2 := dqAll_ints hd
    subst e2
    refine ⟨a, _, rfl, hq, rfl, flat_ints ss, ?_⟩
    rw [inV_int]
    exact q _ _ .bool
def pInT (neg : Bool) (pa pb : PX) : PX := pC (q2 (fInT neg)) (pCons pa (pCons pb pNil))
/-! ### repr of a list -/
def fReprL : PyData → (PyData → Prop) → Prop
  | .list ds, k => (PyData.list ds).showable = true ∧ (PyData.list ds).depth ≤ 60 ∧ (PyData.list ds).shown.length ≤ sizeLine ∧ k (.str (PyData.list ds).shown)
  | _, _ => False
theorem lc_reprL {K : PySem.W.Frag} : LC K (q1 fReprL) (rRepr K) := by
  refine lc_im1 (fun G H v d Q s hv q => ?_) (fun d k k' hk q => ?_)
  · unfold fReprL at q
    split at q
    · obtain ⟨a, us, rfl, ha, hds⟩ := hv.seqL s
      exact ⟨a, _, rfl, hv.dp s, q.1, q.2.1, q.2.2.1, q.2.2.2 _ _ .str⟩
    · exact q.elim
  · unfold fReprL at q ⊢
    split at q
    · exact ⟨q.1, q.2.1, q.2.2.1, hk _ q.2.2.2⟩
    · exact q.elim
end Pv

/-! tuple(zip(t, u)), t and u tuples of one length -/
namespace Wf
open PySem PySem.Spec PyProof.Rows
section
variable {prog : Program} {w : World} {A : Around} {E : Value → Shared → Prop} {s : Shared}
theorem collectZip {z TI TO i1 i2 l1 l2 : Addr} {xs ys : Array Value} {Q : List Value → Shared → Prop} (hh : A.handled = none) (D : ZipApart z TI TO i1 i2 l1 l2) (hn : xs.size = ys.size) (hl : xs.size ≤ sizeLine)
    (hz : IsZip s.heap z TI TO .none) (hTI : IsPair s.heap TI (.ref i1) (.ref i2)) (hTO : IsPair s.heap TO .none .none) (h1 : s.heap.IsTupleIter i1 l1 0) (h2 : s.heap.IsTupleIter i2 l2 0) (t1 : s.heap.IsTuple l1 xs) (t2 : s.heap.IsTuple l2 ys)
    (hQ : ∀ (h' : Heap) (tk : Nat) (acc : Array Value), s.heap.objs.size < h'.objs.size → (∀ c o, c ≠ z → c ≠ TO → c ≠ i1 → c ≠ i2 → s.heap.get? c = some o → h'.get? c = some o) →
        acc.toList = ((List.range xs.size).map fun j => Value.ref (s.heap.objs.size + 1 + j)) →
        (∀ j, j < xs.size → ∃ x y, xs[j]? = some x ∧ ys[j]? = some y ∧ IsPair h' (s.heap.objs.size + 1 + j) x y) → Q acc.toList { s with heap := h', toks := tk }) :
    wpAny (model prog w) A (collect (.ref z)) Q E s := by
  obtain ⟨o1, ho1, _⟩ := id h1
  obtain ⟨o2, ho2, _⟩ := id h2
  obtain ⟨p1, hp1, _⟩ := id t1
  obtain ⟨p2, hp2, _⟩ := id t2
  have nS : ∀ {b o}, s.heap.get? b = some o → s.heap.objs.size ≠ b := fun e => Nat.ne_of_gt (Heap.lt_size e)
  unfold collect
  refine wpAny_bind (wpAny_runValue (codeAny_builtin F.entry_proto_collect ?_))
  rw [Around.under_plainId F.plain_proto_collect _]
  show wpAny _ A.in1 (newList [] >>= fun l' => again (.builtin "list.__iadd__" ⟨[l', .ref z], []⟩)) _ _ s
  refine wpAny_bind (wpAny_newObj_type ?_)
  refine wpAny_pure ⟨plainId_quiet F.plain_list_iadd _, codeAny_builtin F.entry_list_iadd ?_⟩
  rw [Around.under_plainId F.plain_list_iadd _]
  have hS : (s.heap.push { cls := .type "list", data := .seq ([] : List Value).toArray }).get? s.heap.objs.size = some { cls := .type "list", data := .seq ([] : List Value).toArray } := Heap.get?_push_size _ rfl
  have up : ∀ b o, s.heap.get? b = some o → (s.heap.push { cls := .type "list", data := .seq ([] : List Value).toArray }).get? b = some o := fun b o e => Heap.get?_push_of_some _ e
  have hT : ({ s with heap := s.heap.push { cls := .type "list", data := .seq ([] : List Value).toArray } } : Shared).TypeIs (.ref z) "zip" := ⟨_, up _ _ hz, rfl⟩
  have hs1 : Builtin.List.listSameRef (.ref s.heap.objs.size) (.ref z) = false := by simp [Builtin.List.listSameRef, nS hz]
  show wpAny _ A.in1 (Builtin.List.listExtendWith (.ref s.heap.objs.size) (.ref z) (.ref s.heap.objs.size)) _ _ _
  unfold Builtin.List.listExtendWith
  refine wpAny_bind (wpAny_typeOf hT ?_)
  rw [if_neg (by rw [hs1]; decide)]
  refine wpAny_bind (wpAny_pyIter_zip (up _ _ hz) ?_)
  refine wpAny_bind (wpAny_holding ?_)
  unfold Builtin.List.listLengthHint
  refine wpAny_bind (wpAny_specialOf hT nolen_zip ?_)
  show wpAny _ _ (specialOf (Value.ref z) (Str.ofString "__length_hint__") >>= _) _ _ _
  refine wpAny_bind (wpAny_specialOf hT nohint_zip ?_)
  refine wpAny_pure ?_
  show wpAny _ _ (rule "list.extend.makes-room" >>= fun _ => Builtin.List.listTouch (.ref s.heap.objs.size) >>= fun _ => again (.builtin "list.extend.loop" ⟨[.ref s.heap.objs.size, .ref z, .ref s.heap.objs.size], []⟩)) _ _ _
  refine wpAny_bind (wpAny_rule ?_)
  refine wpAny_bind ?_
  show wpAny _ _ (updateSeq s.heap.objs.size (·.push .none) >>= fun _ => updateSeq s.heap.objs.size (·.pop)) _ _ _
  refine wpAny_bind (wpAny_updateSeq hS rfl ?_)
  have hS3 := Heap.get?_update_self (Obj.mapSeq (·.push Value.none)) hS rfl
  refine wpAny_updateSeq (hz := by seq_fits) hS3 rfl ?_
  have hS4 := Heap.get?_update_self (Obj.mapSeq (·.pop)) hS3 rfl
  generalize hg4 : (((s.heap.push { cls := .type "list", data := .seq ([] : List Value).toArray }).update s.heap.objs.size (Obj.mapSeq (·.push Value.none))).update s.heap.objs.size (Obj.mapSeq (·.pop))) = g4 at hS4
  have up4 : ∀ b o, s.heap.get? b = some o → g4.get? b = some o := fun b o e => by
    rw [← hg4]
    exact (Heap.get?_update_other _ _ (nS e)).trans ((Heap.get?_update_other _ _ (nS e)).trans (up b o e))
  have sg4 : g4.objs.size = s.heap.objs.size + 1 := by rw [← hg4, Heap.size_update, Heap.size_update, Heap.size_push]
  have lt1 : ∀ {b o}, s.heap.get? b = some o → b < s.heap.objs.size + 1 := fun e => Nat.lt_succ_of_lt (Heap.lt_size e)
  refine wpAny_pure ⟨plainId_quiet F.plain_extend_loop _, loopZip (n0 := s.heap.objs.size + 1) (S := s.heap.objs.size) (A := A) hh D hn hl ⟨nS hz, nS hTO, nS ho1, nS ho2, nS hTI, nS hp1, nS hp2, Nat.lt_succ_self _⟩ ⟨lt1 hz, lt1 hTO, lt1 ho1, lt1 ho2⟩ xs.size 0 _ (by simp) (Nat.zero_le _)
    ⟨.inl ⟨rfl, up4 _ _ hz, _, _, up4 _ _ hTO⟩, up4 _ _ hTI, h1.at fun o e => up4 _ o e, h2.at fun o e => up4 _ o e, ⟨p1, up4 _ _ hp1, by assumption⟩, ⟨p2, up4 _ _ hp2, by assumption⟩, ⟨_, _, hS4, rfl⟩, sg4, fun j hj => absurd hj (Nat.not_lt_zero _)⟩ fun h' tk kp q2 q3 => ?_⟩
  obtain ⟨acc, c, hS', ea⟩ := q2
  show wpAny _ A (load s.heap.objs.size >>= _) _ _ _
  refine wpAny_bind (wpAny_load hS' ?_)
  refine wpAny_pure ?_
  exact hQ h' tk acc (Heap.lt_size hS') (fun c o c1 c2 c3 c4 e => kp c o c1 c2 c3 c4 (Ne.symm (nS e)) (up4 _ _ e)) ea q3
theorem code_tuple_new_zip {z TI TO i1 i2 l1 l2 : Addr} {xs ys : Array Value} {Q₁ : Value → Shared → Prop} (hh : A.handled = none) (D : ZipApart z TI TO i1 i2 l1 l2) (hn : xs.size = ys.size) (hl : xs.size ≤ sizeLine)
    (hz : IsZip s.heap z TI TO .none) (hTI : IsPair s.heap TI (.ref i1) (.ref i2)) (hTO : IsPair s.heap TO .none .none) (h1 : s.heap.IsTupleIter i1 l1 0) (h2 : s.heap.IsTupleIter i2 l2 0) (t1 : s.heap.IsTuple l1 xs) (t2 : s.heap.IsTuple l2 ys)
    (h : ∀ (h' : Heap) (tk : Nat) (acc : Array Value), s.heap.objs.size < h'.objs.size → (∀ c o, c ≠ z → c ≠ TO → c ≠ i1 → c ≠ i2 → s.heap.get? c = some o → h'.get? c = some o) →
        acc.toList = ((List.range xs.size).map fun j => Value.ref (s.heap.objs.size + 1 + j)) →
        (∀ j, j < xs.size → ∃ x y, xs[j]? = some x ∧ ys[j]? = some y ∧ IsPair h' (s.heap.objs.size + 1 + j) x y) → Q₁ (.ref h'.objs.size) { s with heap := h'.push { cls := .type "tuple", data := .seq acc }, toks := tk }) :
    codeAny (model prog w) A (.call (.builtin "tuple.__new__") ⟨[.type "tuple", .ref z], []⟩) (wants Q₁ E) s := by
  refine codeAny_of_tree ?_
  show wpAny _ A.in1 (do checkBuiltinCall "tuple.__new__" ⟨[.type "tuple", .ref z], []⟩; again (.builtin "tuple.__new__" ⟨[.type "tuple", .ref z], []⟩)) _ _ s
  refine wpAny_bind (wpAny_of_eq (F.newCall_tuple_1 _) (wpAny_pure ⟨plainId_quiet F.plain_tuple_new _, codeAny_builtin F.entry_tuple_new ?_⟩))
  rw [Around.under_plainId F.plain_tuple_new _]
  have hsub := sub_tuple_self
  have hinit := init_tuple_lookup
  have hmh := madeHere_tuple
  have hTz : s.TypeIs (.ref z) "zip" := ⟨_, hz, rfl⟩
  have hh1 : A.in1.handled = none := hh
  wp_walk using wpAny_typeOf hTz, collectZip (A := A.in1) hh1 D hn hl hz hTI hTO h1 h2 t1 t2
  intro h' tk acc hlt hk hacc hp
  show wpAny _ _ (Builtin.Tuple.tupleExact acc.toList.toArray >>= fun v => ret v) _ _ _
  unfold Builtin.Tuple.tupleExact
  refine wpAny_bind (wpAny_newObj_type ?_ (by show acc.toList.toArray.size ≤ sizeLine; rw [hacc]; simp; exact hl))
  refine wpAny_pure ?_
  have e : acc.toList.toArray = acc := by simp
  rw [e]
  exact h h' tk acc hlt hk hacc hp
theorem callZipT {z TI TO i1 i2 l1 l2 : Addr} {xs ys : Array Value} {Q : Value → Shared → Prop} (hh : A.handled = none) (D : ZipApart z TI TO i1 i2 l1 l2) (hn : xs.size = ys.size) (hl : xs.size ≤ sizeLine)
    (hz : IsZip s.heap z TI TO .none) (hTI : IsPair s.heap TI (.ref i1) (.ref i2)) (hTO : IsPair s.heap TO .none .none) (h1 : s.heap.IsTupleIter i1 l1 0) (h2 : s.heap.IsTupleIter i2 l2 0) (t1 : s.heap.IsTuple l1 xs) (t2 : s.heap.IsTuple l2 ys)
    (hQ : ∀ (h' : Heap) (tk : Nat) (acc : Array Value), s.heap.objs.size < h'.objs.size → (∀ c o, c ≠ z → c ≠ TO → c ≠ i1 → c ≠ i2 → s.heap.get? c = some o → h'.get? c = some o) →
        acc.toList = ((List.range xs.size).map fun j => Value.ref (s.heap.objs.size + 1 + j)) →
        (∀ j, j < xs.size → ∃ x y, xs[j]? = some x ∧ ys[j]? = some y ∧ IsPair h' (s.heap.objs.size + 1 + j) x y) → Q (.ref h'.objs.size) { s with heap := h'.push { cls := .type "tuple", data := .seq acc }, toks := tk }) :
    wpAny (model prog w) A (call (.type "tuple") [.ref z]) Q E s := by
  refine callType_codes (Q₁ := fun obj s₁ => s₁.TypeIs obj "tuple" ∧ Q obj s₁) F.called_tuple (F.typeCall_tuple_1 _) F.entry_object_init
    (code_tuple_new_zip (A := A.in1) hh D hn hl hz hTI hTO h1 h2 t1 t2 fun h' tk acc hlt hk hacc hp => ⟨⟨_, Heap.get?_push_size _ rfl, rfl⟩, hQ h' tk acc hlt hk hacc hp⟩) fun obj s₁ h₁ => ?_
  exact ⟨h₁.1, F.args_object_init_2 obj _, object_init_meets F.called_tuple.init.lookup F.called_tuple.made (by decide) prog w A.in1 _ s₁ ⟨h₁.1, rfl, h₁.2⟩⟩
end
section
open L2
/-- tuple(zip(t, u)), t and u tuples of one length: a new tuple of new pairs -/
def rTupZip (K : PySem.W.Frag) : List V → Hp → VK → Prop := fun vs H Q => ∃ (a b : Addr) (xs ys : List V), vs = [.ref a, .ref b] ∧ SqT K H a xs ∧ SqT K H b ys ∧ xs.length = ys.length ∧
  ∀ (q : Addr) (ps : List Addr) (H3 : Hp), Same H H3 → H3 q = some (.tup (ps.map V.ref)) → ps.length = xs.length →
    (∀ (i : Nat) (p : Addr), ps[i]? = some p → ∃ u v, xs[i]? = some u ∧ ys[i]? = some v ∧ H3 p = some (.tup [u, v])) → Q (.ref q) H3
variable {X : Cx}
theorem pe_tupZip {e1 e2 : Expr} {t : TA} {p p2 pos pos2 : Pos} (hc : X.calm = true) (hg : Gl X "tuple") (hm : X.mg "tuple" = none) (hg2 : Gl X "zip") (hm2 : X.mg "zip" = none) (ha : PA X [e1, e2] t)
    (hs : starEach [e1, e2] X.env = (false, eval e1 X.env) :: starEach [e2] X.env := by rfl)
    (hpl : (backTo pos2 (starEach [e2] X.env)).any (·.1) = false := by rfl)
    (hs2 : starEach [.Call (.Name "zip" p2) [e1, e2] [] pos2] X.env = (false, eval (.Call (.Name "zip" p2) [e1, e2] [] pos2) X.env) :: starEach [] X.env := by rfl) :
    PE X (.Call (.Name "tuple" p) [.Call (.Name "zip" p2) [e1, e2] [] pos2] [] pos) (tCB (rTupZip X.K) t) := by
  refine ⟨fun pins s σ H Q I h => ?_⟩
  refine PyProof.Rows.Call_ (ld_blt I hg hm PyProof.Rows.boot_tuple (PyProof.Rows.callWith_type1 (PyProof.Rows.args_cons (PyProof.Rows.Call_ (ld_blt I hg2 hm2 PyProof.Rows.boot_zip (PyProof.Rows.callWith_type1 (thn (ha.run pos2 pins s σ H _ I h) fun us s1 ⟨vs, H1, I1, r1, q1⟩ => ?_) hs hpl))) hs2) hs2 rfl))
  obtain ⟨a, b, xs, ys, ex, hqx, hqy, hlen, q⟩ := q1
  subst ex
  cases r1 with
  | cons r rr =>
    cases rr with
    | cons r' rr =>
      cases rr
      cases r
      cases r'
      obtain ⟨ix, rv1, p1, z1⟩ := I1.tuple hqx
      obtain ⟨iy, rv2, p2, _⟩ := I1.tuple hqy
      obtain ⟨o1, ho1, _⟩ := id p1
      obtain ⟨o2, ho2, _⟩ := id p2
      refine RZ.call_zipT (show s1.heap.IsTuple a ix.toArray from p1) (show s1.heap.IsTuple b iy.toArray from p2) fun h' hz hTI hTO h1 h2 hsz hk => ?_
      have nx : ix.toArray.size = xs.length := by rw [List.size_toArray, rv1.length]
      have ny : iy.toArray.size = ys.length := by rw [List.size_toArray, rv2.length]
      have w1 : h'.IsTuple a ix.toArray := by
        obtain ⟨o, e, r⟩ := p1
        exact ⟨o, hk _ _ e, r⟩
      have w2 : h'.IsTuple b iy.toArray := by
        obtain ⟨o, e, r⟩ := p2
        exact ⟨o, hk _ _ e, r⟩
      refine PyProof.Rows.args_nil ?_
      refine callZipT (s := { s1 with heap := h' }) (I1.ok.hd hc) (PySem.W.ktu_apart s1.heap.objs.size a b (Heap.lt_size ho1) (Heap.lt_size ho2)) (by rw [nx, ny, hlen]) (by rw [nx]; exact z1) hz hTI hTO h1 h2 w1 w2 fun g tk acc hlt kp ea made => ?_
      have base0 : ∀ {c o}, s1.heap.get? c = some o → g.get? c = some o := fun {c o} e => by
        have l : c < s1.heap.objs.size := Heap.lt_size e
        exact kp c o (Nat.ne_of_lt (Nat.lt_of_lt_of_le l (Nat.le_add_right _ _))) (Nat.ne_of_lt (Nat.lt_of_lt_of_le l (Nat.le_add_right _ _))) (Nat.ne_of_lt l) (Nat.ne_of_lt (Nat.lt_of_lt_of_le l (Nat.le_add_right _ _))) (hk c o e)
      have base : ∀ {c o}, s1.heap.get? c = some o → (g.push { cls := .type "tuple", data := .seq acc }).get? c = some o := fun {c o} e => Heap.get?_push_of_some _ (base0 e)
      have hsz' : h'.objs.size = s1.heap.objs.size + 5 := hsz
      generalize hm0 : h'.objs.size = m at made ea
      have lm : s1.heap.objs.size ≤ m := by rw [← hm0, hsz']; exact Nat.le_add_right _ _
      have old : ∀ {c o}, s1.heap.get? c = some o → c < m := fun e => Nat.lt_of_lt_of_le (Heap.lt_size e) lm
      have oldH : ∀ {c o}, H1 c = some o → c < m := fun e => Nat.lt_of_lt_of_le (I1.hok.lt e) lm
      have pick : ∀ j, j < xs.length → ∃ u v iu iv, xs[j]? = some u ∧ ys[j]? = some v ∧ ix[j]? = some iu ∧ iy[j]? = some iv ∧ RelV u iu ∧ RelV v iv ∧ IsPair g (m + 1 + j) iu iv := fun j hj => by
        obtain ⟨iu, iv, e1, e2, e3⟩ := made j (by rw [nx]; exact hj)
        have k1 : xs[j]? = some xs[j] := List.getElem?_eq_getElem hj
        have k2 : ys[j]? = some (ys[j]'(by omega)) := List.getElem?_eq_getElem (by omega)
        obtain ⟨u', f1, f2⟩ := rv1.get k1
        obtain ⟨v', f3, f4⟩ := rv2.get k2
        have e1' : ix[j]? = some iu := by simpa using e1
        have e2' : iy[j]? = some iv := by simpa using e2
        rw [e1'] at f1
        rw [e2'] at f3
        cases f1
        cases f3
        exact ⟨_, _, iu, iv, k1, k2, e1', e2', f2, f4, e3⟩
      have ltT : ∀ j, j < xs.length → m + 1 + j < g.objs.size := fun j hj => by
        obtain ⟨_, _, _, _, _, _, _, _, _, _, e3⟩ := pick j hj
        exact Heap.lt_size e3
      have hlt' : m < g.objs.size := by
        have : h'.objs.size < g.objs.size := hlt
        rw [hm0] at this
        exact this
      have hT0 : (g.push { cls := .type "tuple", data := .seq acc }).get? g.objs.size = some { cls := .type "tuple", data := .seq acc } := Heap.get?_push_size _ rfl
      have hPr : ∀ {c iu iv}, IsPair g c iu iv → IsPair (g.push { cls := .type "tuple", data := .seq acc }) c iu iv := fun e => Heap.get?_push_of_some _ e
      have sT : s1.heap.objs.size ≤ g.objs.size := Nat.le_of_lt (Nat.lt_of_le_of_lt lm hlt')
      generalize hTT : g.objs.size = T at ltT sT hlt' hT0
      let H3 : Hp := fun c => if c = T then some (.tup (((List.range xs.length).map fun j => m + 1 + j).map V.ref)) else if m < c ∧ c < m + 1 + xs.length then some (.tup [xs.getD (c - m - 1) .non, ys.getD (c - m - 1) .non]) else H1 c
      have hH0 : H3 T = some (.tup (((List.range xs.length).map fun j => m + 1 + j).map V.ref)) := if_pos rfl
      have hHt : ∀ j, j < xs.length → ∀ u v, xs[j]? = some u → ys[j]? = some v → H3 (m + 1 + j) = some (.tup [u, v]) := fun j hj u v e1 e2 => by
        have a1 : ¬ m + 1 + j = T := Nat.ne_of_lt (ltT j hj)
        have a2 : m < m + 1 + j ∧ m + 1 + j < m + 1 + xs.length := ⟨Nat.lt_of_lt_of_le (Nat.lt_succ_self m) (Nat.le_add_right _ _), Nat.add_lt_add_left hj _⟩
        have a3 : m + 1 + j - m - 1 = j := by rw [Nat.add_assoc, Nat.add_sub_cancel_left, Nat.add_sub_cancel_left]
        show (if m + 1 + j = T then _ else if m < m + 1 + j ∧ m + 1 + j < m + 1 + xs.length then _ else _) = _
        rw [if_neg a1, if_pos a2, a3]
        simp [List.getD, e1, e2]
      have hHo : ∀ c, c < m → H3 c = H1 c := fun c hc => by
        show (if c = T then _ else if m < c ∧ c < m + 1 + xs.length then _ else _) = _
        rw [if_neg (Nat.ne_of_lt (Nat.lt_trans hc hlt')), if_neg (fun z => absurd z.1 (Nat.not_lt_of_le (Nat.le_of_lt hc)))]
      have hHs : ∀ c o, H3 c = some o → c = T ∨ (∃ j, j < xs.length ∧ c = m + 1 + j) ∨ H1 c = some o := fun c o e => by
        by_cases c1 : c = T
        · exact .inl c1
        · by_cases c2 : m < c ∧ c < m + 1 + xs.length
          · refine .inr (.inl ⟨c - m - 1, ?_, ?_⟩)
            · have := c2.2
              have := c2.1
              simp only [Addr] at *
              omega
            · have := c2.1
              simp only [Addr] at *
              omega
          · have e' : (if c = T then some (HO.tup (((List.range xs.length).map fun j => m + 1 + j).map V.ref)) else if m < c ∧ c < m + 1 + xs.length then some (.tup [xs.getD (c - m - 1) .non, ys.getD (c - m - 1) .non]) else H1 c) = some o := e
            rw [if_neg c1, if_neg c2] at e'
            exact .inr (.inr e')
      have sH : Same H1 H3 := fun c o e => by rw [hHo c (oldH e)]; exact e
      refine I1.after ⟨.ref T, H3, rfl, I1.bare, ⟨fun c o e n _ _ => base e, fun c o e n _ _ => ⟨o.slots, base e⟩, fun c o e n _ => by rw [hHo c (old e)]; exact n, fun c o e _ => ⟨o, base e⟩, fun c zs e => sH _ _ e, fun c o u e => sH _ _ e, fun c ps e => ⟨#[], by rw [sH _ _ e]; simp⟩⟩, fun c o e => ?_, by rw [← hTT]; rfl, ?_⟩
      · rcases hHs c o e with rfl | ⟨j, hj, rfl⟩ | e1
        · rw [hH0] at e
          cases e
          refine ⟨by simp only [List.length_map, List.length_range]; exact z1, acc.toList, ?_, _, hT0, rfl, _, by rw [Array.toArray_toList]⟩
          rw [ea, nx]
          exact vrefs _ _
        · obtain ⟨u, v, iu, iv, k1, k2, k3, k4, r1, r2, e3⟩ := pick j hj
          rw [hHt j hj u v k1 k2] at e
          cases e
          exact ⟨by show 2 ≤ sizeLine; decide, [iu, iv], .cons r1 (.cons r2 .nil), _, hPr e3, rfl, _, rfl⟩
        · exact (I1.hok c o e1).stay (fun b u _ q => base q) (fun b q => sH _ _ q) fun b zs q => sH _ _ q
      · refine q T _ H3 sH hH0 (by simp) fun i c hc => ?_
        rw [List.getElem?_map] at hc
        obtain ⟨j, e1, e2⟩ := Option.map_eq_some_iff.mp hc
        have hi : i < xs.length := by
          have := (List.getElem?_eq_some_iff.mp e1).1
          simpa using this
        have e1' : i = j := by
          rw [List.getElem?_range hi] at e1
          exact Option.some.inj e1
        subst e1'
        subst e2
        obtain ⟨u, v, _, _, k1, k2, _⟩ := pick i hi
        exact ⟨u, v, k1, k2, hHt i hi u v k1 k2⟩
end
end Wf

namespace Pv
open PySem PySem.Spec L2 Wf
variable {B : Bas}
/-! ### tuple(zip(t, u)) -/
theorem dpAll_zip {K : PySem.W.Frag} {H3 : Hp} : ∀ {ps : List Addr} {xs ys : List V} {ds es : List PyData}, DpAll K H3 xs ds → DpAll K H3 ys es → ps.length = xs.length → xs.length = ys.length →
    (∀ (i : Nat) (p : Addr), ps[i]? = some p → ∃ u v, xs[i]? = some u ∧ ys[i]? = some v ∧ H3 p = some (.tup [u, v])) → DpAll K H3 (ps.map V.ref) (zipD ds es)
  | [], xs, ys, ds, es, h1, h2, l1, l2, h => by
    cases h1 with
    | nil => exact .nil
    | cons a b => simp at l1
  | p :: ps, xs, ys, ds, es, h1, h2, l1, l2, h => by
    cases h1 with
    | nil => simp at l1
    | cons a b =>
      cases h2 with
      | nil => simp at l2
      | cons a' b' =>
        obtain ⟨u, v, e1, e2, e3⟩ := h 0 p rfl
        simp only [List.getElem?_cons_zero, Option.some.injEq] at e1 e2
        subst e1 e2
        exact .cons (.tup (SqT.of e3) (.cons a (.cons a' .nil))) (dpAll_zip b b' (by simpa using l1) (by simpa using l2) fun i q hq => by
          obtain ⟨u, v, f1, f2, f3⟩ := h (i + 1) q (by simpa using hq)
          exact ⟨u, v, by simpa using f1, by simpa using f2, f3⟩)
theorem noL_zip : ∀ {ds es : List PyData}, noLAll ds = true → noLAll es = true → noLAll (zipD ds es) = true
  | [], _, _, _ => by simp [zipD, noLAll]
  | _ :: _, [], _, _ => by simp [zipD, noLAll]
  | d :: ds, e :: es, h1, h2 => by
    have h1' := Bool.and_eq_true_iff.mp (show (noL d && noLAll ds) = true from h1)
    have h2' := Bool.and_eq_true_iff.mp (show (noL e && noLAll es) = true from h2)
    show ((noL d && (noL e && true)) && noLAll (zipD ds es)) = true
    rw [h1'.1, h2'.1, noL_zip h1'.2 h2'.2]
    rfl
def qTupZ : List R → PX := fun rs δ Q => ∃ ds es, dats δ rs = some [.tuple ds, .tuple es] ∧ ds.length = es.length ∧ noLAll ds = true ∧ noLAll es = true ∧ Q (.im (.tuple (zipD ds es))) δ
theorem lc_tupZ {K : PySem.W.Frag} : LC K qTupZ (rTupZip K) := by
  intro B G H σ δ vs rs w Qp Q rep q k
  obtain ⟨ds, es, hd, hl, n1, n2, q⟩ := q
  have hv := rep.vws hd
  cases hv with
  | cons h1 hv =>
    cases hv with
    | cons h2 hv =>
      cases hv
      obtain ⟨a, us, rfl, ta, da, _⟩ := h1.seqT rep.sub
      obtain ⟨b, us2, rfl, tb, db, _⟩ := h2.seqT rep.sub
      have la := dqAll_len da
      have lb := dqAll_len db
      refine ⟨a, b, us, us2, rfl, ta, tb, by omega, fun q0 ps H3 s hq hpl hp => ?_⟩
      obtain ⟨st, r2⟩ := rep.drop.pub (x := none) (fun a o _ h => s a o h) (.same s) nofun
      have s3 : Same G H3 := fun x o e => s x o (rep.sub x o e)
      have dp : Dp K H3 (.ref q0) (.tuple (zipD ds es)) := .tup (SqT.of hq) (dpAll_zip (dqAll_dp s3 _ _ da) (dqAll_dp s3 _ _ db) hpl (by omega) hp)
      have dq : Dq K (pubT G H3 none) (.ref q0) (.tuple (zipD ds es)) := dp_pub (x := none) s3 (fun _ _ h => by cases h) _ _ (noL_zip n1 n2) dp
      exact k _ δ _ _ _ _ q ((Stp.drop.trans st).trans .drop) (r2.ret dq)
section
variable {X : Cx}
def pTupZ (ps : PL) : PX := pC qTupZ ps
theorem je_tupZip {e1 e2 : Expr} {ps : PL} {p p2 pos pos2 : Pos} (hc : X.calm = true) (hg : Gl X "tuple") (hm : X.mg "tuple" = none) (hg2 : Gl X "zip") (hm2 : X.mg "zip" = none) (ha : JA X B [e1, e2] ps)
    (hs : starEach [e1, e2] X.env = (false, eval e1 X.env) :: starEach [e2] X.env := by rfl)
    (hpl : (backTo pos2 (starEach [e2] X.env)).any (·.1) = false := by rfl)
    (hs2 : starEach [.Call (.Name "zip" p2) [e1, e2] [] pos2] X.env = (false, eval (.Call (.Name "zip" p2) [e1, e2] [] pos2) X.env) :: starEach [] X.env := by rfl) :
    JE X B (.Call (.Name "tuple" p) [.Call (.Name "zip" p2) [e1, e2] [] pos2] [] pos) (pTupZ ps) :=
  PE_wk (pe_tupZip hc hg hm hg2 hm2 ha hs hpl hs2) fun σ H Q h => lc_args lc_tupZ h
/-! ### xs[::-1] of a list -/
def pRevL (p : PX) : PX := fun δ Q => p δ fun r δ1 => ∃ ds, dat δ1 r = some (.list ds) ∧ Q (.ow (.lst ds.reverse)) δ1
theorem dqAll_rev {K : PySem.W.Frag} {G : Hp} : ∀ {us : List V} {ds : List PyData}, DqAll K G us ds → DqAll K G us.reverse ds.reverse
  | _, _, .nil => .nil
  | _, _, .cons h1 h2 => by
    rw [List.reverse_cons, List.reverse_cons]
    exact dqAll_append (dqAll_rev h2) (.cons h1 .nil)
theorem je_revL {e : Expr} {pe : PX} {k : Nat} {p1 p2 p3 pos : Pos} (he : JE X B e pe) : JE X B (.Subscript e (.Slice none none (some (.UnaryOp .USub (.Constant (.int 1) k p1) p2)) p3) pos) (pRevL pe) := by
  refine PE_wk (pe_revL he) fun σ H Q ⟨G, w, δ, Qp, rep, q, kk⟩ => ?_
  refine ⟨G, w, δ, _, rep, q, fun r δ1 v H1 G1 w1 q1 s1 rep1 => ?_⟩
  obtain ⟨ds, hd, q1⟩ := q1
  obtain ⟨a, us, rfl, ha, hds⟩ := Vw.seqL rep1.sub (rep1.dat (j := 0) rfl rfl hd)
  refine ⟨a, us, rfl, SqL.of ha, fun p hp => ?_⟩
  obtain ⟨w', st, r2⟩ := rep1.retLst hp (dqAll_rev hds)
  exact kk _ _ _ _ _ _ q1 (s1.trans st) r2
end
end Pv

namespace Pv
open PySem PySem.Spec L2 Wf
/-! ### burdens_of -/
abbrev bDs (r : List Wk) : List PyData := r.map fun p => PyData.int p.2
def psp_burdens_of : PSp := fun as Q _ => ∃ r : List Wk, as = [.im (dR r)] ∧ r.length ≤ 1000 ∧ Q (.im (.tuple (bDs r))) [.un]
def pe_burdens_of_1 : PX :=
    pVar 2
def p_burdens_of : PSx :=
    pRet (pC (q1 fTupleOf) (pCons (pComp (iSeq (pVar 0)) (gT 2 (gsC (gN 1) (gsC (gN 2) (gsN)))) (pYes) (pe_burdens_of_1) [1, 2]) (pNil)))

theorem noPin2 {δ : List Sl} {u v : Nat} (h1 : ∀ o, δ[u]? ≠ some (.ow true o)) (h2 : ∀ o, δ[v]? ≠ some (.ow true o)) : noPin δ [u, v] := fun x hx o => by
  simp only [List.mem_cons, List.not_mem_nil, or_false] at hx
  rcases hx with rfl | rfl
  · exact h1 o
  · exact h2 o
theorem hp_burdens_of (as : List Sl) (Qp : QE) (Ep : EX) (h : psp_burdens_of as Qp Ep) : p_burdens_of (endsP as Qp) (as ++ List.replicate 2 .un) := by
  obtain ⟨r, rfl, hl, q⟩ := h
  refine ⟨_, _, _, rfl, rfl, noPin2 (fun o => nofun) (fun o => nofun), fun j acc δ => acc = bDs (r.take j) ∧ δ = [.im (dR r), .un, .un], ⟨rfl, rfl⟩, ?_, ?_⟩
  · rintro j d acc δ hd ⟨rfl, rfl⟩
    rw [List.getElem?_map] at hd
    obtain ⟨p, hp, rfl⟩ := Option.map_eq_some_iff.mp hd
    have hj := (List.getElem?_eq_some_iff.mp hp).1
    refine ⟨rfl, rfl, _, _, rfl, ?_, ?_, rfl⟩
    · rw [List.length_map, List.length_take]
      exact szN (m := 1000) (by omega) (by decide)
    · rw [List.take_add_one, hp]
      show bDs (r.take j) ++ [PyData.int p.2] = List.map _ (r.take j ++ [p])
      rw [List.map_append]
      rfl
  · rintro acc δ ⟨rfl, rfl⟩
    rw [List.length_map, List.take_length]
    exact ⟨_, _, rfl, q⟩
/-! ### both_ways -/
structure Tri (m : Int) (s u v w a b c : Int) : Prop where
  w0 : 0 ≤ w
  wv : w < v
  vu : v < u
  um : u < m
  a0 : 0 ≤ a
  a1 : a < s
  b0 : 0 ≤ b
  b1 : b < s
  c0 : 0 ≤ c
  c1 : c < s
abbrev tri (u v w a b c : Int) : List Wk := [(u, a), (v, b), (w, c)]
theorem Tri.ok {m s u v w a b c : Int} (h : Tri m s u v w a b c) : RowOk m s (tri u v w a b c) := fun p hp => by
  have := h.w0; have := h.wv; have := h.vu; have := h.um
  have := h.a0; have := h.a1; have := h.b0; have := h.b1; have := h.c0; have := h.c1
  simp only [List.mem_cons, List.not_mem_nil, or_false] at hp
  rcases hp with rfl | rfl | rfl
  · exact ⟨by show 0 ≤ u; omega, by show u < m; omega, by show 0 ≤ a; omega, by show a < s; omega⟩
  · exact ⟨by show 0 ≤ v; omega, by show v < m; omega, by show 0 ≤ b; omega, by show b < s; omega⟩
  · exact ⟨by show 0 ≤ w; omega, by show w < m; omega, by show 0 ≤ c; omega, by show c < s; omega⟩
theorem Tri.f010 {B : Book} {m u v w a b c : Int} (bk : BookOk m B) (h : Tri m B.s u v w a b c) : fwdW B (tri u v w a b c) [0, 1, 0] := by
  have := h.w0; have := h.wv; have := h.vu
  refine fwd_of_word bk h.ok ?_
  refine ⟨⟨(show 1 < 3 by decide), .inl ?_⟩, ⟨(show 2 < 3 by decide), .inl ?_⟩, ⟨(show 1 < 3 by decide), .inl ?_⟩, trivial⟩
  · show v.toNat < u.toNat; omega
  · show w.toNat < u.toNat; omega
  · show w.toNat < v.toNat; omega
theorem Tri.f101 {B : Book} {m u v w a b c : Int} (bk : BookOk m B) (h : Tri m B.s u v w a b c) : fwdW B (tri u v w a b c) [1, 0, 1] := by
  have := h.w0; have := h.wv; have := h.vu
  refine fwd_of_word bk h.ok ?_
  refine ⟨⟨(show 2 < 3 by decide), .inl ?_⟩, ⟨(show 1 < 3 by decide), .inl ?_⟩, ⟨(show 2 < 3 by decide), .inl ?_⟩, trivial⟩
  · show w.toNat < v.toNat; omega
  · show w.toNat < u.toNat; omega
  · show v.toNat < u.toNat; omega
def bothD (B : Book) (r : List Wk) : PyData := .tuple [.tuple (bDs (ledN B r [0, 1, 0])), .tuple (bDs (ledN B r [1, 0, 1]))]
theorem led_fwd' {C : Addr} {B : Book} {m : Int} {r : List Wk} {ws : List Nat} {d : PyData} {Q : QE} {Ep : EX} (hd : d = .tuple (dN ws)) (bk : BookOk m B) (ok : RowOk m B.s r) (l1 : r.length ≤ 1000) (l2 : ws.length ≤ 1000) (fw : fwdW B r ws) (q : Q (.im (dR (ledN B r ws))) [.un, .un, .un]) : psp_led_by C [.im (dB B), .im (dR r), .im d] Q Ep := by
  refine ⟨B, m, r, iW ws, by rw [hd, dK_iW], bk, ok, l1, by rw [iW_len]; exact l2, ?_⟩
  rw [ledG_fwd fw]
  exact q
def psp_both_ways : PSp := fun as Q _ => ∃ (B : Book) (m : Int) (k : Int × Int × Int) (b : Int × Int × Int), as = [.im (dB B), .im (dK [k.1, k.2.1, k.2.2]), .im (dK [b.1, b.2.1, b.2.2])] ∧ BookOk m B ∧ Tri m B.s k.1 k.2.1 k.2.2 b.1 b.2.1 b.2.2 ∧ Q (.im (bothD B (tri k.1 k.2.1 k.2.2 b.1 b.2.1 b.2.2))) [.un, .un, .un]
def pr_both_ways_1 : PSx :=
    pRet (pTup (pCons (pCall psp_burdens_of (pCons (pFz (pVar 4)) (pNil)) noX) (pCons (pCall psp_burdens_of (pCons (pFz (pVar 5)) (pNil)) noX) (pNil))))
def pr_both_ways_2 (cNoPassing : Addr) : PSx :=
    pSeq (pSet 5 (pCall (psp_led_by cNoPassing) (pCons (pFz (pVar 0)) (pCons (pFz (pVar 3)) (pCons (pFz (pTup (pCons (pK (.int 1)) (pCons (pK (.int 0)) (pCons (pK (.int 1)) (pNil)))))) (pNil)))) noX))
    (pr_both_ways_1)
def pr_both_ways_3 (cNoPassing : Addr) : PSx :=
    pSeq (pSet 4 (pCall (psp_led_by cNoPassing) (pCons (pFz (pVar 0)) (pCons (pFz (pVar 3)) (pCons (pFz (pTup (pCons (pK (.int 0)) (pCons (pK (.int 1)) (pCons (pK (.int 0)) (pNil)))))) (pNil)))) noX))
    (pr_both_ways_2 cNoPassing)
def p_both_ways (cNoPassing : Addr) : PSx :=
    pSeq (pSet 3 (pTupZ (pCons (pVar 1) (pCons (pVar 2) (pNil)))))
    (pr_both_ways_3 cNoPassing)

theorem hp_both_ways (cNoPassing : Addr) (as : List Sl) (Qp : QE) (Ep : EX) (h : psp_both_ways as Qp Ep) : p_both_ways cNoPassing (endsP as Qp) (as ++ List.replicate 3 .un) := by
  obtain ⟨B, m, ⟨u, v, w⟩, ⟨a, b, c⟩, rfl, bk, tr, q⟩ := h
  have f1 := tr.f010 bk
  have f2 := tr.f101 bk
  have o1 := ledN_ok bk tr.ok f1
  have o2 := ledN_ok bk tr.ok f2
  refine ⟨_, _, rfl, rfl, rfl, rfl, _, _, rfl, ?_⟩
  show pr_both_ways_3 cNoPassing _ [.im (dB B), .im (dK [u, v, w]), .im (dK [a, b, c]), .im (dR (tri u v w a b c)), .un, .un]
  refine ⟨_, _, rfl, _, _, rfl, _, _, rfl, _, rfl, List.nodup_nil, led_fwd' (ws := [0, 1, 0]) rfl bk tr.ok (show 3 ≤ 1000 by decide) (by decide) f1 ⟨_, _, rfl, ?_⟩⟩
  show pr_both_ways_2 cNoPassing _ [.im (dB B), .im (dK [u, v, w]), .im (dK [a, b, c]), .im (dR (tri u v w a b c)), .im (dR (ledN B (tri u v w a b c) [0, 1, 0])), .un]
  refine ⟨_, _, rfl, _, _, rfl, _, _, rfl, _, rfl, List.nodup_nil, led_fwd' (ws := [1, 0, 1]) rfl bk tr.ok (show 3 ≤ 1000 by decide) (by decide) f2 ⟨_, _, rfl, ?_⟩⟩
  show pr_both_ways_1 _ [.im (dB B), .im (dK [u, v, w]), .im (dK [a, b, c]), .im (dR (tri u v w a b c)), .im (dR (ledN B (tri u v w a b c) [0, 1, 0])), .im (dR (ledN B (tri u v w a b c) [1, 0, 1]))]
  refine ⟨_, _, rfl, _, rfl, List.nodup_nil, _, rfl, by rw [o1.2]; show 3 ≤ 1000; decide, ?_⟩
  refine ⟨_, _, rfl, _, rfl, List.nodup_nil, _, rfl, by rw [o2.2]; show 3 ≤ 1000; decide, ?_⟩
  exact ⟨_, _, rfl, q⟩
end Pv

namespace Pv
open PySem PySem.Spec L2 Wf
/-! ### pairs_passed, is_forward, last_order -/
def pe_pairs_passed_1 : PX :=
    pTup (pCons (pIx (pVar 0) (pVar 4)) (pCons (pIx (pVar 0) (pVar 3)) (pNil)))
def pr_pairs_passed_1 : PSx :=
    pRet (pC (q1 fTupleOf) (pCons (pC (q1L (fSortT 2 11)) (pCons (pVar 2) (pNil))) (pNil)))
def pr_pairs_passed_2 : PSx :=
    pSeq (pSet 2 (pComp2 (iRg (pCons (pVar 1) (pNil))) (gN 3) (pYes) (iRg (pCons (pAdd (pVar 3) (pK (.int 1))) (pCons (pVar 1) (pNil)))) (gN 4) (pT (pLt (pIx (pVar 0) (pVar 4)) (pIx (pVar 0) (pVar 3)))) (pe_pairs_passed_1) [3, 4] [4]))
    (pr_pairs_passed_1)
def p_pairs_passed : PSx :=
    pSeq (pSet 1 (pC (q1 fLen) (pCons (pVar 0) (pNil))))
    (pr_pairs_passed_2)
/-- the inversions, as the comprehension finds them -/
def invI (os : List Nat) (r j : Nat) : List (Nat × Nat) := ((List.range j).filter fun t => decide (os.getD (r + 1 + t) 0 < os.getD r 0)).map fun t => (os.getD (r + 1 + t) 0, os.getD r 0)
def invD (os : List Nat) (i : Nat) : List (Nat × Nat) := (List.range i).flatMap fun r => invI os r (os.length - (r + 1))
def invP (os : List Nat) : List (Nat × Nat) := invD os os.length
theorem invI_succ (os : List Nat) (r j : Nat) : invI os r (j + 1) = if os.getD (r + 1 + j) 0 < os.getD r 0 then invI os r j ++ [(os.getD (r + 1 + j) 0, os.getD r 0)] else invI os r j := by
  unfold invI
  rw [List.range_succ, List.filter_append, List.map_append]
  by_cases c : os.getD (r + 1 + j) 0 < os.getD r 0
  · rw [if_pos c, List.filter_cons, if_pos (decide_eq_true c)]; rfl
  · rw [if_neg c, List.filter_cons, if_neg (fun z => c (of_decide_eq_true z))]; exact List.append_nil _
theorem invD_succ (os : List Nat) (i : Nat) : invD os (i + 1) = invD os i ++ invI os i (os.length - (i + 1)) := by
  unfold invD
  rw [List.range_succ, List.flatMap_append, List.flatMap_singleton]
theorem invI_le (os : List Nat) (r j : Nat) : (invI os r j).length ≤ j := by
  unfold invI
  rw [List.length_map]
  exact Nat.le_trans (List.length_filter_le _ _) (by rw [List.length_range]; exact Nat.le_refl _)
theorem mem_invP {os : List Nat} {p : Nat × Nat} : p ∈ invP os ↔ ∃ r f, r < f ∧ f < os.length ∧ os.getD f 0 < os.getD r 0 ∧ p = (os.getD f 0, os.getD r 0) := by
  unfold invP invD invI
  simp only [List.mem_flatMap, List.mem_map, List.mem_filter, List.mem_range, decide_eq_true_iff]
  constructor
  · rintro ⟨r, hr, t, ⟨ht, c⟩, rfl⟩
    exact ⟨r, r + 1 + t, by omega, by omega, c, rfl⟩
  · rintro ⟨r, f, h1, h2, c, rfl⟩
    refine ⟨r, by omega, f - (r + 1), ⟨by omega, ?_⟩, ?_⟩
    · rw [show r + 1 + (f - (r + 1)) = f by omega]; exact c
    · rw [show r + 1 + (f - (r + 1)) = f by omega]
theorem getD_inj {os : List Nat} (nd : os.Nodup) {i j : Nat} (hi : i < os.length) (hj : j < os.length) (e : os.getD i 0 = os.getD j 0) : i = j := by
  have h1 := getD_of hi
  have h2 := getD_of hj
  rw [← e] at h2
  have e1 : os[i] = os.getD i 0 := by rw [List.getElem?_eq_getElem hi] at h1; exact Option.some.inj h1
  have e2 : os[j] = os.getD i 0 := by rw [List.getElem?_eq_getElem hj] at h2; exact Option.some.inj h2
  exact (List.getElem_inj nd).mp (e1.trans e2.symm)
theorem idx_at {os : List Nat} (nd : os.Nodup) {i : Nat} (hi : i < os.length) : os.idxOf (os.getD i 0) = i := by
  have h1 := getD_of hi
  have m := List.mem_of_getElem? h1
  have l := List.idxOf_lt_length_iff.mpr m
  refine getD_inj nd l hi ?_
  have h2 := getD_of l
  rw [List.getElem?_eq_getElem l, List.getElem_idxOf] at h2
  exact (Option.some.inj h2).symm
theorem at_idx {os : List Nat} {x : Nat} (h : x ∈ os) : os.getD (os.idxOf x) 0 = x := by
  have l := List.idxOf_lt_length_iff.mpr h
  have h2 := getD_of l
  rw [List.getElem?_eq_getElem l, List.getElem_idxOf] at h2
  exact (Option.some.inj h2).symm
theorem passP_iff {os : List Nat} {p : Nat × Nat} : p ∈ passP os ↔ p.1 < p.2 ∧ p.2 < os.length ∧ os.idxOf p.2 < os.idxOf p.1 := by
  refine ⟨mem_passP, fun ⟨h1, h2, h3⟩ => ?_⟩
  unfold passP passD passI
  refine List.mem_flatMap.mpr ⟨p.1, List.mem_range.mpr (by omega), List.mem_map.mpr ⟨p.2, ?_, rfl⟩⟩
  rw [List.mem_filter, List.mem_range, Bool.and_eq_true]
  exact ⟨h2, decide_eq_true h1, decide_eq_true h3⟩
theorem passP_lex (os : List Nat) : (passP os).Pairwise fun p q => p.1 < q.1 ∨ p.1 = q.1 ∧ p.2 < q.2 := by
  unfold passP passD
  rw [List.pairwise_flatMap]
  refine ⟨fun i _ => ?_, ?_⟩
  · unfold passI
    rw [List.pairwise_map]
    exact ((List.pairwise_lt_range (n := os.length)).filter _).imp fun h => .inr ⟨rfl, h⟩
  · refine List.pairwise_lt_range.imp fun {a b} hab x hx y hy => .inl ?_
    unfold passI at hx hy
    obtain ⟨_, _, rfl⟩ := List.mem_map.mp hx
    obtain ⟨_, _, rfl⟩ := List.mem_map.mp hy
    exact hab
theorem invP_nodup {os : List Nat} (nd : os.Nodup) : (invP os).Nodup := by
  unfold invP invD
  show List.Pairwise _ _
  rw [List.pairwise_flatMap]
  refine ⟨fun r hr => ?_, ?_⟩
  · have hr := List.mem_range.mp hr
    unfold invI
    rw [List.pairwise_map]
    refine List.Pairwise.imp_of_mem (fun {a b} ha hb h e => ?_) ((List.pairwise_lt_range (n := os.length - (r + 1))).filter _)
    have ha := List.mem_range.mp (List.mem_filter.mp ha).1
    have hb := List.mem_range.mp (List.mem_filter.mp hb).1
    have := getD_inj nd (by omega) (by omega) (congrArg Prod.fst e)
    omega
  · refine List.Pairwise.imp_of_mem (fun {a b} ha hb hab x hx y hy e => ?_) (List.pairwise_lt_range (n := os.length))
    have ha := List.mem_range.mp ha
    have hb := List.mem_range.mp hb
    unfold invI at hx hy
    obtain ⟨_, _, rfl⟩ := List.mem_map.mp hx
    obtain ⟨_, _, rfl⟩ := List.mem_map.mp hy
    have := getD_inj nd ha hb (congrArg Prod.snd e)
    omega
theorem inv_perm {os : List Nat} (hp : os.Perm (List.range os.length)) : (invP os).Perm (passP os) := by
  have nd : os.Nodup := hp.nodup_iff.mpr List.nodup_range
  refine (List.perm_ext_iff_of_nodup (invP_nodup nd) ((passP_lex os).imp fun {a b} h e => ?_)).mpr fun p => ?_
  · subst e; omega
  rw [mem_invP, passP_iff]
  have up : ∀ i, i < os.length → os.getD i 0 < os.length := fun i hi => (mem_of_perm hp).mp (List.mem_of_getElem? (getD_of hi))
  constructor
  · rintro ⟨r, f, h1, h2, c, rfl⟩
    refine ⟨c, up r (by omega), ?_⟩
    rw [idx_at nd h2, idx_at nd (by omega)]
    exact h1
  · rintro ⟨h1, h2, h3⟩
    have m1 : p.1 ∈ os := (mem_of_perm hp).mpr (by omega)
    have m2 : p.2 ∈ os := (mem_of_perm hp).mpr h2
    refine ⟨os.idxOf p.2, os.idxOf p.1, h3, List.idxOf_lt_length_iff.mpr m1, ?_, ?_⟩
    · rw [at_idx m1, at_idx m2]; exact h1
    · rw [at_idx m1, at_idx m2]
def prI (p : Nat × Nat) : List Int := [(p.1 : Int), (p.2 : Int)]
theorem code_prI (p : Nat × Nat) : TS.code 11 (prI p) = (p.1 : Int) * 11 + (p.2 : Int) := by
  show (p.1 : Int) * 11 ^ 1 + ((p.2 : Int) * 11 ^ 0 + 0) = _
  have e1 : (11 : Int) ^ 1 = 11 := by decide
  have e0 : (11 : Int) ^ 0 = 1 := by decide
  rw [e1, e0]
  omega
theorem sort_pass {os : List Nat} (hp : os.Perm (List.range os.length)) (hl : os.length ≤ 10) {mss : List (List Int)} (pm : mss.Perm ((invP os).map prI)) (so : mss.Pairwise fun n m => TS.code 11 n ≤ TS.code 11 m) : mss.map dK = (passP os).map nP := by
  have pm2 : mss.Perm ((passP os).map prI) := pm.trans ((inv_perm hp).map _)
  have bd : ∀ p ∈ passP os, p.1 < 10 ∧ p.2 < 10 := fun p hq => by
    obtain ⟨h1, h2, _⟩ := mem_passP hq
    omega
  have so2 : ((passP os).map prI).Pairwise fun n m => TS.code 11 n ≤ TS.code 11 m := by
    rw [List.pairwise_map]
    refine List.Pairwise.imp_of_mem (fun {a b} ha hb h => ?_) (passP_lex os)
    have := bd a ha
    have := bd b hb
    rw [code_prI, code_prI]
    omega
  have e : mss = (passP os).map prI := List.Perm.eq_of_pairwise (fun a b ha hb h1 h2 => by
    obtain ⟨p, hpm, rfl⟩ := List.mem_map.mp (pm2.mem_iff.mp ha)
    obtain ⟨q, hqm, rfl⟩ := List.mem_map.mp hb
    have := bd p hpm
    have := bd q hqm
    rw [code_prI, code_prI] at h1 h2
    have e1 : p.1 = q.1 := by omega
    have e2 : p.2 = q.2 := by omega
    unfold prI
    rw [e1, e2]) so so2 pm2
  rw [e, List.map_map]
  rfl
def triT : Nat → Nat
  | 0 => 0
  | k + 1 => triT k + k
theorem triT_le : ∀ n, n ≤ 10 → triT n ≤ 45 := by decide
theorem invP_few {os : List Nat} (hl : os.length ≤ 10) : (invP os).length < 64 := by
  have key : ∀ i, i ≤ os.length → (invD os i).length + triT (os.length - i) ≤ triT os.length := fun i => by
    induction i with
    | zero => intro _; simp [invD]
    | succ i ih =>
      intro hi
      have h1 := ih (by omega)
      have h2 := invI_le os i (os.length - (i + 1))
      rw [invD_succ, List.length_append]
      have e : os.length - i = (os.length - (i + 1)) + 1 := by omega
      rw [e] at h1
      have h3 : triT ((os.length - (i + 1)) + 1) = triT (os.length - (i + 1)) + (os.length - (i + 1)) := rfl
      omega
  have h1 := key os.length (Nat.le_refl _)
  have h2 := triT_le _ hl
  unfold invP
  omega
theorem hp_pairs_passed (as : List Sl) (Qp : QE) (Ep : EX) (h : psp_pairs_passed as Qp Ep) : p_pairs_passed (endsP as Qp) (as ++ List.replicate 4 .un) := by
  obtain ⟨os, rfl, hp, hl, q⟩ := h
  refine ⟨_, _, rfl, ?_⟩
  show pr_pairs_passed_2 _ [.im (.tuple (dN os)), .im (.int ((dN os).length : Int)), .un, .un, .un]
  rw [dN_len]
  have bD : ∀ i, i ≤ os.length → (invD os i).length ≤ 10 * i := fun i => by
    induction i with
    | zero => intro _; simp [invD]
    | succ i ih =>
      intro hi
      rw [invD_succ, List.length_append]
      have := ih (by omega)
      have := invI_le os i (os.length - (i + 1))
      omega
  refine ⟨by omega, by omega, noPin2 (fun o => nofun) (fun o => nofun), fun i acc δ => acc = (invD os i).map nP ∧ δ = [.im (.tuple (dN os)), .im (nD os.length), .un, .un, .un], ⟨rfl, rfl⟩, ?_, ?_⟩
  · rintro i d acc δ hd ⟨rfl, rfl⟩
    obtain ⟨rfl, hi⟩ := rgD_get hd
    have hi : i < os.length := by simpa using hi
    have b1 := bD i (by omega)
    refine ⟨⟨by omega, by omega, by omega, by omega⟩, fun j acc δ => acc = (invD os i ++ invI os i j).map nP ∧ δ = [.im (.tuple (dN os)), .im (nD os.length), .un, .im (.int (0 + (i : Int))), .un], ⟨by simp [invI], rfl⟩, ?_, ?_⟩
    · rintro j e acc δ he ⟨rfl, rfl⟩
      obtain ⟨rfl, hj⟩ := rgD_get he
      have hj : i + 1 + j < os.length := by
        rw [show (0 + (i : Int) + 1) = ((i + 1 : Nat) : Int) by omega] at hj
        omega
      have gf := dN_get (getD_of hj)
      have gr := dN_get (getD_of (xs := os) (i := i) (by omega))
      have lj := invI_le os i j
      refine ⟨_, atI_of (j := i + 1 + j) (by omega) gf, _, atI_of (j := i) (by omega) gr, trivial, _, rfl, ?_⟩
      show if decide (((os.getD (i + 1 + j) 0 : Nat) : Int) < ((os.getD i 0 : Nat) : Int)) = true then _ else _
      have es := invI_succ os i j
      by_cases c : os.getD (i + 1 + j) 0 < os.getD i 0
      · rw [if_pos c] at es
        rw [if_pos (decide_eq_true (by omega))]
        refine ⟨_, atI_of (j := i + 1 + j) (by omega) gf, _, atI_of (j := i) (by omega) gr, _, _, rfl, ?_, ?_, rfl⟩
        · rw [List.length_map, List.length_append]
          exact szN (m := 1000) (by omega) (by decide)
        · rw [es, ← List.append_assoc, List.map_append (l₂ := [_])]
          rfl
      · rw [if_neg c] at es
        rw [if_neg (fun z => c (by have := of_decide_eq_true z; omega))]
        exact ⟨by rw [es], rfl⟩
    · rintro acc δ ⟨rfl, rfl⟩
      rw [rgD_len, invD_succ]
      have e : ((os.length : Int) - (0 + (i : Int) + 1)).toNat = os.length - (i + 1) := by omega
      rw [e]
      exact ⟨rfl, rfl⟩
  · rintro acc δ ⟨rfl, rfl⟩
    rw [rgD_len]
    have e : ((os.length : Int) - 0).toNat = os.length := by omega
    rw [e]
    refine ⟨_, _, rfl, ?_⟩
    show pr_pairs_passed_1 _ [.im (.tuple (dN os)), .im (nD os.length), .ow false (.lst ((invP os).map nP)), .un, .un]
    have ln := invP_few hl
    refine ⟨(invP os).map prI, ?_, by rw [List.length_map]; exact ln, fun ns hns => ?_, fun mss pm so => ?_⟩
    · rw [List.map_map]; rfl
    · obtain ⟨p, hpm, rfl⟩ := List.mem_map.mp hns
      have := mem_passP ((inv_perm hp).mem_iff.mp hpm)
      refine ⟨rfl, fun m hm => ?_⟩
      unfold prI at hm
      simp only [List.mem_cons, List.not_mem_nil, or_false] at hm
      rcases hm with rfl | rfl <;> constructor <;> omega
    · rw [sort_pass hp hl pm so]
      exact ⟨_, _, rfl, q⟩
end Pv

namespace Pv
open PySem PySem.Spec L2 Wf SrtO
def pe_is_forward_1 : PX :=
    pGt (pIx (pVar 0) (pVar 2)) (pIx (pVar 0) (pVar 3))
def p_is_forward : PSx :=
    pRet (pC (q1 fAll) (pCons (pComp (iSeq (pCall psp_pairs_passed (pCons (pFz (pVar 1)) (pNil)) noX)) (gT 2 (gsC (gN 2) (gsC (gN 3) (gsN)))) (pYes) (pe_is_forward_1) [2, 3]) (pNil)))
def fwB (ks : List Nat) (p : Nat × Nat) : Bool := decide (ks.getD p.2 0 < ks.getD p.1 0)
theorem hp_is_forward (as : List Sl) (Qp : QE) (Ep : EX) (h : psp_is_forward as Qp Ep) : p_is_forward (endsP as Qp) (as ++ List.replicate 2 .un) := by
  obtain ⟨ks, os, rfl, hp, hl, hk, q⟩ := h
  have ol : os.length = ks.length := perm_len hp
  have lp : (passP os).length < 64 := by
    rw [← (inv_perm (by rw [ol]; exact hp)).length_eq]
    exact invP_few (by omega)
  refine ⟨_, _, rfl, _, rfl, List.nodup_nil, os, rfl, by rw [ol]; exact hp, by omega, ?_⟩
  refine ⟨_, _, _, rfl, rfl, noPin2 (fun o => nofun) (fun o => nofun), fun i acc δ => acc = (((passP os).take i).map (fwB ks)).map PyData.bool ∧ δ = [.im (.tuple (dN ks)), .im (.tuple (dN os)), .un, .un], ⟨rfl, rfl⟩, ?_, ?_⟩
  · rintro i d acc δ hd ⟨rfl, rfl⟩
    rw [List.getElem?_map] at hd
    obtain ⟨p, hpi, rfl⟩ := Option.map_eq_some_iff.mp hd
    obtain ⟨h1, h2, _⟩ := mem_passP (List.mem_of_getElem? hpi)
    have g1 := dN_get (getD_of (xs := ks) (i := p.1) (by omega))
    have g2 := dN_get (getD_of (xs := ks) (i := p.2) (by omega))
    refine ⟨rfl, rfl, _, atI_of rfl g1, _, atI_of rfl g2, trivial, _, _, rfl, ?_, ?_, rfl⟩
    · rw [List.length_map, List.length_map, List.length_take]
      exact szN (m := 1000) (by omega) (by decide)
    · rw [List.take_add_one, hpi]
      show _ ++ [PyData.bool (decide (((ks.getD p.1 0 : Nat) : Int) > ((ks.getD p.2 0 : Nat) : Int)))] = List.map PyData.bool (List.map (fwB ks) ((passP os).take i ++ [p]))
      rw [List.map_append, List.map_append]
      congr 2
      unfold fwB
      congr 1
      rw [decide_eq_decide]
      omega
  · rintro acc δ ⟨rfl, rfl⟩
    rw [List.length_map, List.take_length]
    have e : ((passP os).map (fwB ks)).all id = fwdB ks os := by
      rw [List.all_map]
      rfl
    refine ⟨(passP os).map (fwB ks), rfl, _, _, rfl, ?_⟩
    first
      | (rw [e]; exact q)
      | (have q' := q; rw [← e] at q'; exact q')
/-! ### last_order -/
def p_last_order : PSx := pRet (pC (q1 fTupleOf) (pCons (pSortK (pC (q1 fLen) (pCons (pVar 0) (pNil))) 0) (pNil)))
def p_last_orderP : PSx := pRet (pC qPtl (pCons (pSortK (pC (q1 fLen) (pCons (pVar 0) (pNil))) 0) (pNil)))
def psp_last_orderP : PSp := fun as Q _ => ∃ ks : List Nat, as = [.im (.tuple (dN ks))] ∧ ks.length ≤ 10 ∧ (∀ k ∈ ks, k < 5) ∧ Q (.ow (.ptl (dN (lastOf ks)))) [.un]
theorem dN_ints (ks : List Nat) : dN ks = (ks.map fun k : Nat => (k : Int)).map PyData.int := by rw [List.map_map]; rfl
theorem getD_int (ks : List Nat) (n : Nat) : (ks.map fun k : Nat => (k : Int)).getD n 0 = ((ks.getD n 0 : Nat) : Int) := by
  rw [List.getD, List.getD, List.getElem?_map]
  cases ks[n]? with
  | none => rfl
  | some x => rfl
theorem sort_last {ks : List Nat} (h5 : ∀ k ∈ ks, k < 5) {out : List Nat} (pm : out.Perm (List.range ks.length)) (so : out.Pairwise fun x y => lexB ((ks.map fun k : Nat => (k : Int)).getD y 0, (y : Int)) ((ks.map fun k : Nat => (k : Int)).getD x 0, (x : Int)) = false) : out = lastOf ks := by
  have so1 : out.Pairwise fun x y => ¬ before ks y x := so.imp fun {x y} h z => by
    rw [getD_int, getD_int] at h
    have := lexB_no.mp h
    unfold before at z
    apply this
    rcases z with z | ⟨z1, z2⟩
    · exact .inl (by show ((ks.getD y 0 : Nat) : Int) < ((ks.getD x 0 : Nat) : Int); omega)
    · exact .inr ⟨by show ((ks.getD y 0 : Nat) : Int) = ((ks.getD x 0 : Nat) : Int); omega, by show (y : Int) < (x : Int); omega⟩
  have so2 : (lastOf ks).Pairwise fun x y => ¬ before ks y x := (last_pair ks).imp fun {x y} h z => by
    unfold before at h z
    omega
  refine List.Perm.eq_of_pairwise (fun a b _ _ h1 h2 => ?_) so1 so2 (pm.trans (last_perm h5).symm)
  unfold before at h1 h2
  omega
theorem hp_last_order (as : List Sl) (Qp : QE) (Ep : EX) (h : psp_last_order as Qp Ep) : p_last_order (endsP as Qp) (as ++ List.replicate 0 .un) := by
  obtain ⟨ks, rfl, hl, h5, q⟩ := h
  refine ⟨ks.length, ks.map fun k : Nat => (k : Int), ?_, by omega, by rw [← dN_ints]; rfl, by rw [List.length_map]; exact Nat.le_refl _, fun out pm so => ?_⟩
  · show some (PyData.int ((dN ks).length : Int)) = _
    rw [dN_len]
  · rw [sort_last h5 pm so]
    exact ⟨_, _, rfl, q⟩
theorem hp_last_orderP (as : List Sl) (Qp : QE) (Ep : EX) (h : psp_last_orderP as Qp Ep) : p_last_orderP (endsP as Qp) (as ++ List.replicate 0 .un) := by
  obtain ⟨ks, rfl, hl, h5, q⟩ := h
  refine ⟨ks.length, ks.map fun k : Nat => (k : Int), ?_, by omega, by rw [← dN_ints]; rfl, by rw [List.length_map]; exact Nat.le_refl _, fun out pm so => ?_⟩
  · show some (PyData.int ((dN ks).length : Int)) = _
    rw [dN_len]
  · rw [sort_last h5 pm so]
    exact ⟨_, rfl, _, _, rfl, q⟩
end Pv

namespace Wf
open PySem PySem.Spec L2 Pv LamX NdefX
/-- the rows of the linked text -/
def topS (i : Nat) : Stmt := PySem.Challenge.pw_wherefrom_k10_who_has_passed_whom.main.body.getD i (.Pass ⟨0, 0, 0, 0⟩)
section
variable {P : Program} {w : World} {K : PySem.W.Frag} {mg : Str → Option Value} {base : Heap} {f : Addr} {fd : FuncData} {cNoBook cRoadError : Addr} {T : List NTab}
abbrev s_draw : Stmt := topS 6
abbrev N_draw : List Str := ["_law_deal_here", "_law_many", "_law_one", "_law_other", "_law_digit"]
theorem sc_draw : FnScope N_draw ["_law_deal_here", "_law_many"] (defScope s_draw) := ⟨rfl, rfl, rfl, by decide +kernel, rfl, by decide +kernel, by decide +kernel⟩
theorem ok_draw (F : FnP K "_law_draw" s_draw f fd) (B : Bl mg)  : FnOk P w K mg base CX0 1 f fd ["_law_deal_here", "_law_many"] sp_draw := by
  refine F.ok sc_draw (fun vs H Q E h => ?_) (fun cdv A outer s H vs Q E hr h => ⟨_, PSs.nox ?_, pure_draw (K := K) vs H Q E h⟩)
  · obtain ⟨_, _, _, rfl, _⟩ := h
    rfl
  · exact pss_cons (ps_while PassesOwn.never (PW.pt (pw_and (pt_cmpR op_eq (pe_dget (hu_of hr) (pv 0) (pe_str) (fun _ _ => rfl)) (pe_int) (nomark _)) (pw_and1 (pt_cmpR op_gt (pe_callB call_len (by rfl) B.b_len (by decide +kernel) (pa_cons (pe_dget (hu_of hr) (pv 0) (pe_str) (fun _ _ => rfl)) (pa_nil))) (pe_int) (nomark _))))) (pss_one (ps_dput (hu_of hr) (pv 0) (pe_str) (pe_bm0 PySem.F.plainAttrs_list PySem.F.slot_list_pop PySem.F.type_list_pop mt_pop (pe_dget (hu_of hr) (pv 0) (pe_str) (fun _ _ => rfl))) rfl)))
          (pss_cons (ps_if (pt_cmpR op_gt (pe_dget (hu_of hr) (pv 0) (pe_str) (fun _ _ => rfl)) (pe_int) (nomark _)) (pss_cons (ps_set (i := 4) sc_draw.nd rfl (by first | exact Or.inl rfl | exact Or.inr rfl) (pe_op op_mod (pe_dget (hu_of hr) (pv 0) (pe_str) (fun _ _ => rfl)) (pv 1)))
          (pss_cons (ps_dput (hu_of hr) (pv 0) (pe_str) (pe_op op_fdivW (pe_dget (hu_of hr) (pv 0) (pe_str) (fun _ _ => rfl)) (pv 1)) rfl)
          (pss_one (ps_ret (pv 4))))) (pss_nil))
          (pss_cons (ps_dput (hu_of hr) (pv 0) (pe_str) (pe_op op_add (pe_dget (hu_of hr) (pv 0) (pe_str) (fun _ _ => rfl)) (pe_int)) rfl)
          (pss_cons (ps_set (i := 2) sc_draw.nd rfl (by first | exact Or.inl rfl | exact Or.inr rfl) (pe_op op_mod (pe_op op_mul (pe_op op_add (pe_dget (hu_of hr) (pv 0) (pe_str) (fun _ _ => rfl)) (pe_op op_mul (pe_int) (pe_dget (hu_of hr) (pv 0) (pe_str) (fun _ _ => rfl)))) (pe_int)) (pe_int)))
          (pss_cons (ps_set (i := 3) sc_draw.nd rfl (by first | exact Or.inl rfl | exact Or.inr rfl) (pe_op op_mod (pe_op op_add (pe_op op_add (pe_op op_mul (pv 2) (pv 2)) (pe_op op_mul (pe_int) (pe_dget (hu_of hr) (pv 0) (pe_str) (fun _ _ => rfl)))) (pe_dget (hu_of hr) (pv 0) (pe_str) (fun _ _ => rfl))) (pe_int)))
          (pss_one (ps_ret (pe_op op_mod (pe_op op_fdiv (pe_op op_add (pe_op op_mul (pe_op op_mod (pe_op op_mul (pv 3) (pv 3)) (pe_int)) (pe_int)) (pv 2)) (pe_int)) (pv 1))))))))
abbrev s_deal : Stmt := topS 5
abbrev N_deal : List Str := ["_law_script", "_law_base", "_law_some", "_law_seed", "_law_one"]
theorem sc_deal : FnScope N_deal ["_law_script", "_law_base"] (defScope s_deal) := ⟨rfl, rfl, rfl, by decide +kernel, rfl, by decide +kernel, by decide +kernel⟩
theorem ok_deal (F : FnP K "_law_deal" s_deal f fd) (B : Bl mg)  : FnOk P w K mg base CX0 1 f fd ["_law_script", "_law_base"] (sp_deal K) := by
  refine F.ok sc_deal (fun vs H Q E h => ?_) (fun cdv A outer s H vs Q E hr h => ⟨_, PSs.nox ?_, pure_deal (K := K) vs H Q E h⟩)
  · obtain ⟨_, _, _, rfl, _⟩ := h
    rfl
  · exact pss_cons (ps_setLc (i := 2) (own := [("_law_one", 4)]) rfl sc_deal.nd rfl rfl (sw_true rfl rfl rfl (by decide +kernel)) (pi_list (pe_slice sl_list (pv 0) (po_some (pv 1)) (po_some (pe_int)))) (blkOk_by (N := N_deal) (sc := defScope s_deal) (by decide +kernel)) (fun _ _ _ _ _ => pg_name (i := 4) sc_deal.nd rfl (by first | exact Or.inl rfl | exact Or.inr rfl)) (fun _ _ _ _ _ => pts_nil) (fun _ _ _ _ _ => pe_callB (call_max2 rfl) (by rfl) B.b_max (by decide +kernel) (pa_cons (pv 4) (pa_cons (pe_op op_sub (pe_int) (pv 4)) (pa_nil)))))
          (pss_cons (ps_set (i := 3) sc_deal.nd rfl (by first | exact Or.inl rfl | exact Or.inr rfl) (pe_op op_add (pe_int) (pe_op op_mul (pe_int) (pv 1))))
          (pss_cons (ps_for PassesOwn.never rfl (pi_list (pv 2)) (pg_name (i := 4) sc_deal.nd rfl (by first | exact Or.inl rfl | exact Or.inr rfl)) (pss_one (ps_set (i := 3) sc_deal.nd rfl (by first | exact Or.inl rfl | exact Or.inr rfl) (pe_op op_mod (pe_op op_add (pe_op op_add (pe_op op_mul (pv 3) (pe_int)) (pe_op op_mod (pv 4) (pe_int))) (pe_int)) (pe_int)))))
          (pss_one (ps_ret (pe_disp (pps_cons (pe_str) (pe_op op_add (pv 3) (pe_int)) (pps_cons (pe_str) (pe_int) (pps_cons (pe_str) (pe_int) (pps_cons (pe_str) (Wf.pe_lstRev rfl (by rfl) B.b_list (by rfl) B.b_reversed (pe_lc (own := [("_law_one", 4)]) rfl sc_deal.nd (pi_list (pv 2)) (blkOk_by (N := N_deal) (sc := defScope s_deal) (by decide +kernel)) (fun _ _ _ _ _ => pg_name (i := 4) sc_deal.nd rfl (by first | exact Or.inl rfl | exact Or.inr rfl)) (fun _ _ _ _ _ => pts_one (pt_cmpR op_ge (pv 4) (pe_op op_pow (pe_int) (pe_int)) (nomark _))) (fun _ _ _ _ _ => pv 4))) (pps_nil))))) (by rfl) (by rfl) (fun z => by cases z) (by decide))))))
abbrev s_alike : Stmt := topS 7
abbrev N_alike : List Str := ["_law_found", "_law_due", "_law_left", "_law_one", "_law_other"]
theorem sc_alike : FnScope N_alike ["_law_found", "_law_due"] (defScope s_alike) := ⟨rfl, rfl, rfl, by decide +kernel, rfl, by decide +kernel, by decide +kernel⟩
theorem ok_alike (F : FnP K "_law_alike" s_alike f fd) (B : Bl mg)  : FnOk P w K mg base CX0 1 f fd ["_law_found", "_law_due"] (sp_alike K) := by
  refine F.ok sc_alike (fun vs H Q E h => ?_) (fun cdv A outer s H vs Q E hr h => ⟨_, PSs.nox ?_, pure_alike (K := K) vs H Q E h⟩)
  · obtain ⟨_, _, _, rfl, _⟩ := h
    rfl
  · exact pss_cons (ps_set (i := 2) sc_alike.nd rfl (by first | exact Or.inl rfl | exact Or.inr rfl) (pe_lst (pa_cons (pe_tup (pa_cons (pv 0) (pa_cons (pv 1) (pa_nil)))) (pa_nil))))
          (pss_cons (ps_while PassesOwn.never (pt_cmpR op_gt (pe_callB call_len (by rfl) B.b_len (by decide +kernel) (pa_cons (pv 2) (pa_nil))) (pe_int) (nomark _)) (pss_cons (ps_asg (pe_bm0 PySem.F.plainAttrs_list PySem.F.slot_list_pop PySem.F.type_list_pop mt_pop (pv 2)) (pg_tup rfl (pgs_cons (pg_name (i := 3) sc_alike.nd rfl (by first | exact Or.inl rfl | exact Or.inr rfl)) (pgs_cons (pg_name (i := 4) sc_alike.nd rfl (by first | exact Or.inl rfl | exact Or.inr rfl)) (pgs_nil)))))
          (pss_cons (ps_if (PW.pt (pw_or (pt_cmpR op_ne (pe_callB call_isi (by rfl) B.b_isinstance (by decide +kernel) (pa_cons (pv 3) (pa_cons (pe_bltn (v := .ty "bool") (by rfl) B.b_bool (by decide +kernel) rfl) (pa_nil)))) (pe_callB call_isi (by rfl) B.b_isinstance (by decide +kernel) (pa_cons (pv 4) (pa_cons (pe_bltn (v := .ty "bool") (by rfl) B.b_bool (by decide +kernel) rfl) (pa_nil)))) (nomark _)) (pw_or1 (pt_cmpR op_ne (pe_callB call_isi (by rfl) B.b_isinstance (by decide +kernel) (pa_cons (pv 3) (pa_cons (pe_bltn (v := .ty "tuple") (by rfl) B.b_tuple (by decide +kernel) rfl) (pa_nil)))) (pe_callB call_isi (by rfl) B.b_isinstance (by decide +kernel) (pa_cons (pv 4) (pa_cons (pe_bltn (v := .ty "tuple") (by rfl) B.b_tuple (by decide +kernel) rfl) (pa_nil)))) (nomark _))))) (pss_one (ps_ret (pe_bl))) (pss_nil))
          (pss_cons (ps_if (PW.pt (pw_or (pt_cmpR op_ne (pe_callB call_isi (by rfl) B.b_isinstance (by decide +kernel) (pa_cons (pv 3) (pa_cons (pe_bltn (v := .ty "list") (by rfl) B.b_list (by decide +kernel) rfl) (pa_nil)))) (pe_callB call_isi (by rfl) B.b_isinstance (by decide +kernel) (pa_cons (pv 4) (pa_cons (pe_bltn (v := .ty "list") (by rfl) B.b_list (by decide +kernel) rfl) (pa_nil)))) (nomark _)) (pw_or1 (pt_cmpR op_ne (pe_callB call_isi (by rfl) B.b_isinstance (by decide +kernel) (pa_cons (pv 3) (pa_cons (pe_bltn (v := .ty "str") (by rfl) B.b_str (by decide +kernel) rfl) (pa_nil)))) (pe_callB call_isi (by rfl) B.b_isinstance (by decide +kernel) (pa_cons (pv 4) (pa_cons (pe_bltn (v := .ty "str") (by rfl) B.b_str (by decide +kernel) rfl) (pa_nil)))) (nomark _))))) (pss_one (ps_ret (pe_bl))) (pss_nil))
          (pss_cons (ps_if (pt_cmpR op_ne (pe_callB call_isi (by rfl) B.b_isinstance (by decide +kernel) (pa_cons (pv 3) (pa_cons (pe_bltn (v := .ty "int") (by rfl) B.b_int (by decide +kernel) rfl) (pa_nil)))) (pe_callB call_isi (by rfl) B.b_isinstance (by decide +kernel) (pa_cons (pv 4) (pa_cons (pe_bltn (v := .ty "int") (by rfl) B.b_int (by decide +kernel) rfl) (pa_nil)))) (nomark _)) (pss_one (ps_ret (pe_bl))) (pss_nil))
          (pss_one (ps_if (pt_val (pe_callB call_isiT (by rfl) B.b_isinstance (by decide +kernel) (pa_cons (pv 4) (pa_cons (pe_tup (pa_cons (pe_bltn (v := .ty "tuple") (by rfl) B.b_tuple (by decide +kernel) rfl) (pa_cons (pe_bltn (v := .ty "list") (by rfl) B.b_list (by decide +kernel) rfl) (pa_nil)))) (pa_nil))))) (pss_cons (ps_if (pt_cmpR op_ne (pe_callB call_len (by rfl) B.b_len (by decide +kernel) (pa_cons (pv 3) (pa_nil))) (pe_callB call_len (by rfl) B.b_len (by decide +kernel) (pa_cons (pv 4) (pa_nil))) (nomark _)) (pss_one (ps_ret (pe_bl))) (pss_nil))
          (pss_one (ps_expr (pe_bm PySem.F.plainAttrs_list PySem.F.slot_list_extend PySem.F.type_list_extend mt_extend (pv 2) (pa_cons (Wf.pe_lstZip rfl (by rfl) B.b_list (by rfl) B.b_zip (pa_cons (pv 3) (pa_cons (pv 4) (pa_nil)))) (pa_nil)))))) (pss_one (ps_if (pt_cmpR (op_neD hr.units) (pv 3) (pv 4) (nomark _)) (pss_one (ps_ret (pe_bl))) (pss_nil))))))))))
          (pss_one (ps_ret (pe_bl))))
abbrev s_mixed : Stmt := topS 8
abbrev N_mixed : List Str := ["_law_deal_here", "_law_many", "_law_turn", "_law_left", "_law_found"]
theorem sc_mixed : FnScope N_mixed ["_law_deal_here", "_law_many"] (defScope s_mixed) := ⟨rfl, rfl, rfl, by decide +kernel, rfl, by decide +kernel, by decide +kernel⟩
theorem ok_mixed (F : FnP K "_law_mixed" s_mixed f fd) (B : Bl mg) (C_draw : Cal P w K mg base CX0 1 "_law_draw" ["_law_deal_here", "_law_many"] sp_draw) : FnOk P w K mg base CX0 2 f fd ["_law_deal_here", "_law_many"] sp_mixed := by
  refine F.ok sc_mixed (fun vs H Q E h => ?_) (fun cdv A outer s H vs Q E hr h => ⟨_, PSs.nox ?_, pure_mixed (K := K) vs H Q E h⟩)
  · obtain ⟨_, _, _, rfl, _⟩ := h
    rfl
  · exact pss_cons (ps_par rfl sc_mixed.nd rfl rfl (by decide) rfl rfl (pa_cons (pe_listRg rfl (by rfl) B.b_list (prg_1 (by rfl) B.b_range (pv 1))) (pa_cons (pe_lst (pa_nil)) (pa_nil))) (by rfl))
          (pss_cons (ps_for PassesOwn.never rfl (pi_range1 (by rfl) B.b_range (pa_cons (pv 1) (pa_nil))) (pg_name (i := 2) sc_mixed.nd rfl (by first | exact Or.inl rfl | exact Or.inr rfl)) (pss_one (ps_expr (pe_bm PySem.F.plainAttrs_list PySem.F.slot_list_append PySem.F.type_list_append mt_append (pv 4) (pa_cons (pe_bm PySem.F.plainAttrs_list PySem.F.slot_list_pop PySem.F.type_list_pop mt_popAt (pv 3) (pa_cons (Wf.pe_cal C_draw hr (by rfl) (pa_cons (pv 0) (pa_cons (pe_callB call_len (by rfl) B.b_len (by decide +kernel) (pa_cons (pv 3) (pa_nil))) (pa_nil)))) (pa_nil))) (pa_nil))))))
          (pss_one (ps_ret (pv 4))))
def nmL : Nat → Nat → Str := fun l _ => "last_order.<locals>.<lambda>"
def tabT (K : PySem.W.Frag) : List NTab := [((He.cT K ("last_order", none)).2, nmL)]
theorem un_tabT (K : PySem.W.Frag) (P : Addr) : ∀ p ∈ tabT K, p.1 = P → p.2 = nmL := fun p hp _ => by
  simp only [tabT, List.mem_cons, List.not_mem_nil, or_false] at hp
  rcases hp with rfl <;> rfl
theorem tabs0 {K : PySem.W.Frag} {H : Hp} (h : ∀ p ∈ [(("last_order" : Str), (none : Option Str))].map (He.cT K), H p.2 = some (.tbl #[])) : TabsN (tabT K) H := fun p hp => by
  simp only [tabT, List.mem_cons, List.not_mem_nil, or_false] at hp
  rcases hp with rfl
  · exact TabN.nil (h _ (by first | exact List.mem_cons_self | exact List.mem_cons_of_mem _ List.mem_cons_self))
abbrev s_last_order : Stmt := topS 1
abbrev N_last_order : List Str := ["kinds"]
theorem sc_last_order : FnScope N_last_order ["kinds"] (defScope s_last_order) := ⟨rfl, rfl, rfl, by decide +kernel, rfl, by decide +kernel, by decide +kernel⟩
theorem ok_last_order {c Pt : Addr} (F : FnP K "last_order" s_last_order f fd) (hc : fd.code = .ref c) (B : Bl mg) (TB : TabB base mg c Pt) (mem : (Pt, nmL) ∈ T) (un : ∀ p ∈ T, p.1 = Pt → p.2 = nmL) : FnOk P w K mg base CX0 4 f fd ["kinds"] (LSp K T psp_last_order) := by
  refine fn_okC (p := fun _ => p_last_order) F hc sc_last_order rfl rfl (by decide) (fun as Qp Ep h => by obtain ⟨_, rfl, _⟩ := h; rfl) (fun A outer s H E Bh Bt Ep hr hx => ?_) hp_last_order
  exact jss_one (js_ret (je_ct call_tuple_of lc_tupleOf (by rfl) B.b_tuple (by decide +kernel) (ja_cons (je_sortK (x := "kinds") (y := "i") TB rfl mem (by rfl) un rfl (show ndefB (defScope s_last_order) _ ["kinds"] = true by decide +kernel) rfl (nscope_by (by decide +kernel)) hr rfl (fun pm ctv d u => rfl) (fun f d A outer s H => pe_tup (pa_cons (pe_ix ix_tup (pv 1) (pv 0) (fun _ _ => rfl)) (pa_cons (pv 0) pa_nil))) (by rfl) B.b_sorted (by rfl) B.b_range (je_cb call_len lc_len (by rfl) B.b_len (by decide +kernel) (ja_cons (jv 0) ja_nil))) ja_nil)))
abbrev s_pairs_passed : Stmt := topS 2
abbrev N_pairs_passed : List Str := ["order", "many", "pairs", "rear", "fore"]
theorem sc_pairs_passed : FnScope N_pairs_passed ["order"] (defScope s_pairs_passed) := ⟨rfl, rfl, rfl, by decide +kernel, rfl, by decide +kernel, by decide +kernel⟩
theorem ok_pairs_passed (F : FnP K "pairs_passed" s_pairs_passed f fd) (B : Bl mg)  : FnOk P w K mg base CX0 1 f fd ["order"] (LSp K T psp_pairs_passed) := by
  refine fn_ok (p := fun _ => p_pairs_passed) F sc_pairs_passed rfl rfl (by decide) (fun as Qp Ep h => by obtain ⟨_, rfl, _⟩ := h; rfl) (fun cdv A outer s H E Bh Bt Ep hr hx => JSs.nox ?_) hp_pairs_passed
  exact jss_cons (js_set (i := 1) sc_pairs_passed.nd rfl (by first | exact Or.inl rfl | exact Or.inr rfl) (je_cb call_len lc_len (by rfl) B.b_len (by decide +kernel) (ja_cons (jv 0) (ja_nil))))
    (jss_cons (js_setLc2 (i := 2) (own := [("rear", 3), ("fore", 4)]) [4] rfl sc_pairs_passed.nd rfl rfl (sw_true rfl rfl rfl (by decide +kernel)) (ji_rng1 (by rfl) B.b_range (ja_cons (jv 1) (ja_nil))) (blkOk_by (N := N_pairs_passed) (sc := defScope s_pairs_passed) (by decide +kernel)) (fun _ _ _ _ _ => jg_name (i := 3) sc_pairs_passed.nd rfl (by first | exact Or.inl rfl | exact Or.inr rfl)) (fun _ _ _ _ _ => jts_nil) (fun _ _ _ _ _ => ji_rng2 (by rfl) B.b_range (ja_cons (je_add (jv 3) (je_int)) (ja_cons (jv 1) (ja_nil)))) (fun _ _ _ _ _ => jg_name (i := 4) sc_pairs_passed.nd rfl (by first | exact Or.inl rfl | exact Or.inr rfl)) (fun _ _ _ _ _ => jts_one (jb_lt (je_ix (jv 0) (jv 4) (fun _ _ => rfl)) (je_ix (jv 0) (jv 3) (fun _ _ => rfl)))) (fun _ _ _ _ _ => je_tup (ja_cons (je_ix (jv 0) (jv 4) (fun _ _ => rfl)) (ja_cons (je_ix (jv 0) (jv 3) (fun _ _ => rfl)) (ja_nil)))))
    (jss_one (js_ret (je_ct call_tuple_of lc_tupleOf (by rfl) B.b_tuple (by decide +kernel) (ja_cons (je_cb (cr_sortT (by decide)) lc_sortT (by rfl) B.b_sorted (by decide +kernel) (ja_cons (jv 2) (ja_nil))) (ja_nil))))))
abbrev s_is_forward : Stmt := topS 3
abbrev N_is_forward : List Str := ["kinds", "order", "i", "j"]
theorem sc_is_forward : FnScope N_is_forward ["kinds", "order"] (defScope s_is_forward) := ⟨rfl, rfl, rfl, by decide +kernel, rfl, by decide +kernel, by decide +kernel⟩
theorem ok_is_forward (F : FnP K "is_forward" s_is_forward f fd) (B : Bl mg) (C_pairs_passed : Cal P w K mg base CX0 1 "pairs_passed" ["order"] (LSp K T psp_pairs_passed)) : FnOk P w K mg base CX0 2 f fd ["kinds", "order"] (LSp K T psp_is_forward) := by
  refine fn_ok (p := fun _ => p_is_forward) F sc_is_forward rfl rfl (by decide) (fun as Qp Ep h => by obtain ⟨_, _, rfl, _⟩ := h; rfl) (fun cdv A outer s H E Bh Bt Ep hr hx => JSs.nox ?_) hp_is_forward
  exact jss_one (js_ret (je_cb (cr_all rfl) lc_all (by rfl) B.b_all (by decide +kernel) (ja_cons (je_lc (own := [("i", 2), ("j", 3)]) rfl sc_is_forward.nd (ji_seq (je_cal C_pairs_passed hr (by rfl) (ja_cons (je_fz (jv 1)) (ja_nil)))) (blkOk_by (N := N_is_forward) (sc := defScope s_is_forward) (by decide +kernel)) (fun _ _ _ _ _ => jg_tup rfl (jgs_cons (jg_name (i := 2) sc_is_forward.nd rfl (by first | exact Or.inl rfl | exact Or.inr rfl)) (jgs_cons (jg_name (i := 3) sc_is_forward.nd rfl (by first | exact Or.inl rfl | exact Or.inr rfl)) (jgs_nil)))) (fun _ _ _ _ _ => jts_nil) (fun _ _ _ _ _ => je_gt (je_ix (jv 0) (jv 2) (fun _ _ => rfl)) (je_ix (jv 0) (jv 3) (fun _ _ => rfl)))) (ja_nil))))
abbrev s_lword : Stmt := topS 9
abbrev N_lword : List Str := ["_law_deal_here", "_law_kinds", "_law_most", "_law_is_free", "_law_turn", "_law_standing", "_law_word_here", "_law_places", "_law_k"]
theorem sc_lword : FnScope N_lword ["_law_deal_here", "_law_kinds", "_law_most", "_law_is_free"] (defScope s_lword) := ⟨rfl, rfl, rfl, by decide +kernel, rfl, by decide +kernel, by decide +kernel⟩
theorem ok_lword (F : FnP K "_law_word" s_lword f fd) (B : Bl mg) (C_draw : Cal P w K mg base CX0 1 "_law_draw" ["_law_deal_here", "_law_many"] (LSp K T psp_draw)) : FnOk P w K mg base CX0 2 f fd ["_law_deal_here", "_law_kinds", "_law_most", "_law_is_free"] (LSp K T psp_lword) := by
  refine fn_ok (p := fun _ => p_lword) F sc_lword rfl rfl (by decide) (fun as Qp Ep h => by obtain ⟨_, _, _, _, rfl, _⟩ := h; rfl) (fun cdv A outer s H E Bh Bt Ep hr hx => JSs.nox ?_) hp_lword
  exact jss_cons (js_par2 rfl sc_lword.nd rfl rfl (by decide) rfl rfl (ja_cons (je_ct call_list_of lc_listOf (by rfl) B.b_list (by decide +kernel) (ja_cons (jv 1) (ja_nil))) (ja_cons (je_lst (ja_nil)) (ja_nil))) (by rfl))
    (jss_cons (js_for PassesOwn.never rfl (ji_rng1 (by rfl) B.b_range (ja_cons (jv 2) (ja_nil))) (jg_name (i := 4) sc_lword.nd rfl (by first | exact Or.inl rfl | exact Or.inr rfl)) (jss_cons (js_set (i := 7) sc_lword.nd rfl (by first | exact Or.inl rfl | exact Or.inr rfl) (je_lst (ja_nil)))
    (jss_cons (js_for PassesOwn.never rfl (ji_rng1 (by rfl) B.b_range (ja_cons (je_sub (je_cb call_len lc_len (by rfl) B.b_len (by decide +kernel) (ja_cons (jv 5) (ja_nil))) (je_int)) (ja_nil))) (jg_name (i := 8) sc_lword.nd rfl (by first | exact Or.inl rfl | exact Or.inr rfl)) (jss_one (js_if (jw_pt (jw_or (jb_gt (je_ix (jv 5) (jv 8) (fun _ _ => rfl)) (je_ix (jv 5) (je_add (jv 8) (je_int)) (fun _ _ => rfl))) (jw_or1 (jw_pt (jw_and (jb_val (jv 3)) (jw_and1 (jb_ne hr (je_ix (jv 5) (jv 8) (fun _ _ => rfl)) (je_ix (jv 5) (je_add (jv 8) (je_int)) (fun _ _ => rfl))))))))) (jss_one (js_expr (je_mt PySem.F.plainAttrs_list PySem.F.slot_list_append PySem.F.type_list_append mt_append mv_append (jv 7) (ja_cons (jv 8) (ja_nil))))) (jss_nil))))
    (jss_one (js_if (jb_ne hr (jv 7) (je_lst (ja_nil))) (jss_cons (js_set (i := 8) sc_lword.nd rfl (by first | exact Or.inl rfl | exact Or.inr rfl) (je_ix (jv 7) (je_cal C_draw hr (by rfl) (ja_cons (jv 0) (ja_cons (je_fz (je_cb call_len lc_len (by rfl) B.b_len (by decide +kernel) (ja_cons (jv 7) (ja_nil)))) (ja_nil)))) (fun _ _ => rfl)))
    (jss_cons (js_asg (je_tup (ja_cons (je_ix (jv 5) (je_add (jv 8) (je_int)) (fun _ _ => rfl)) (ja_cons (je_ix (jv 5) (jv 8) (fun _ _ => rfl)) (ja_nil)))) (jg_tup rfl (jgs_cons (jg_sub (jv 5) (jv 8)) (jgs_cons (jg_sub (jv 5) (je_add (jv 8) (je_int))) (jgs_nil)))))
    (jss_one (js_expr (je_mt PySem.F.plainAttrs_list PySem.F.slot_list_append PySem.F.type_list_append mt_append mv_append (jv 6) (ja_cons (jv 8) (ja_nil))))))) (jss_nil))))))
    (jss_one (js_ret (je_ct call_tuple_of lc_tupleOf (by rfl) B.b_tuple (by decide +kernel) (ja_cons (jv 6) (ja_nil))))))
abbrev s_lorder : Stmt := topS 10
abbrev N_lorder : List Str := ["_law_many", "_law_word_here", "_law_order_here", "_law_k"]
theorem sc_lorder : FnScope N_lorder ["_law_many", "_law_word_here"] (defScope s_lorder) := ⟨rfl, rfl, rfl, by decide +kernel, rfl, by decide +kernel, by decide +kernel⟩
theorem ok_lorder (F : FnP K "_law_order" s_lorder f fd) (B : Bl mg)  : FnOk P w K mg base CX0 1 f fd ["_law_many", "_law_word_here"] (LSp K T psp_lorder) := by
  refine fn_ok (p := fun _ => p_lorder) F sc_lorder rfl rfl (by decide) (fun as Qp Ep h => by obtain ⟨_, _, rfl, _⟩ := h; rfl) (fun cdv A outer s H E Bh Bt Ep hr hx => JSs.nox ?_) hp_lorder
  exact jss_cons (js_set (i := 2) sc_lorder.nd rfl (by first | exact Or.inl rfl | exact Or.inr rfl) (je_lstRg rfl (by rfl) B.b_list (jr_1 (by rfl) B.b_range (jv 0))))
    (jss_cons (js_for PassesOwn.never rfl (ji_seq (jv 1)) (jg_name (i := 3) sc_lorder.nd rfl (by first | exact Or.inl rfl | exact Or.inr rfl)) (jss_one (js_asg (je_tup (ja_cons (je_ix (jv 2) (je_add (jv 3) (je_int)) (fun _ _ => rfl)) (ja_cons (je_ix (jv 2) (jv 3) (fun _ _ => rfl)) (ja_nil)))) (jg_tup rfl (jgs_cons (jg_sub (jv 2) (jv 3)) (jgs_cons (jg_sub (jv 2) (je_add (jv 3) (je_int))) (jgs_nil)))))))
    (jss_one (js_ret (jv 2))))
abbrev s_lpairs : Stmt := topS 11
abbrev N_lpairs : List Str := ["_law_order_here", "_law_found", "_law_i", "_law_j"]
theorem sc_lpairs : FnScope N_lpairs ["_law_order_here"] (defScope s_lpairs) := ⟨rfl, rfl, rfl, by decide +kernel, rfl, by decide +kernel, by decide +kernel⟩
theorem ok_lpairs (F : FnP K "_law_pairs" s_lpairs f fd) (B : Bl mg)  : FnOk P w K mg base CX0 1 f fd ["_law_order_here"] (LSp K T psp_lpairs) := by
  refine fn_ok (p := fun _ => p_lpairs) F sc_lpairs rfl rfl (by decide) (fun as Qp Ep h => by obtain ⟨_, rfl, _⟩ := h; rfl) (fun cdv A outer s H E Bh Bt Ep hr hx => JSs.nox ?_) hp_lpairs
  exact jss_cons (js_set (i := 1) sc_lpairs.nd rfl (by first | exact Or.inl rfl | exact Or.inr rfl) (je_lst (ja_nil)))
    (jss_cons (js_for PassesOwn.never rfl (ji_rng1 (by rfl) B.b_range (ja_cons (je_cb call_len lc_len (by rfl) B.b_len (by decide +kernel) (ja_cons (jv 0) (ja_nil))) (ja_nil))) (jg_name (i := 2) sc_lpairs.nd rfl (by first | exact Or.inl rfl | exact Or.inr rfl)) (jss_one (js_for PassesOwn.never rfl (ji_rng2 (by rfl) B.b_range (ja_cons (je_add (jv 2) (je_int)) (ja_cons (je_cb call_len lc_len (by rfl) B.b_len (by decide +kernel) (ja_cons (jv 0) (ja_nil))) (ja_nil)))) (jg_name (i := 3) sc_lpairs.nd rfl (by first | exact Or.inl rfl | exact Or.inr rfl)) (jss_one (js_if (jb_lt (je_tix (jv 0) (ja_cons (jv 3) (ja_nil))) (je_tix (jv 0) (ja_cons (jv 2) (ja_nil)))) (jss_one (js_expr (je_mt PySem.F.plainAttrs_list PySem.F.slot_list_append PySem.F.type_list_append mt_append mv_append (jv 1) (ja_cons (je_tup (ja_cons (jv 2) (ja_cons (jv 3) (ja_nil)))) (ja_nil))))) (jss_nil))))))
    (jss_one (js_ret (jv 1))))
abbrev s_llast : Stmt := topS 12
abbrev N_llast : List Str := ["_law_kinds", "_law_found", "_law_kind", "_law_walker"]
theorem sc_llast : FnScope N_llast ["_law_kinds"] (defScope s_llast) := ⟨rfl, rfl, rfl, by decide +kernel, rfl, by decide +kernel, by decide +kernel⟩
theorem ok_llast (F : FnP K "_law_last" s_llast f fd) (B : Bl mg)  : FnOk P w K mg base CX0 1 f fd ["_law_kinds"] (LSp K T psp_llast) := by
  refine fn_ok (p := fun _ => p_llast) F sc_llast rfl rfl (by decide) (fun as Qp Ep h => by obtain ⟨_, rfl, _⟩ := h; rfl) (fun cdv A outer s H E Bh Bt Ep hr hx => JSs.nox ?_) hp_llast
  exact jss_cons (js_set (i := 1) sc_llast.nd rfl (by first | exact Or.inl rfl | exact Or.inr rfl) (je_lst (ja_nil)))
    (jss_cons (js_for PassesOwn.never rfl (ji_rng1 (by rfl) B.b_range (ja_cons (je_int) (ja_nil))) (jg_name (i := 2) sc_llast.nd rfl (by first | exact Or.inl rfl | exact Or.inr rfl)) (jss_one (js_set (i := 1) sc_llast.nd rfl (by first | exact Or.inl rfl | exact Or.inr rfl) (je_add (jv 1) (je_lc (own := [("_law_walker", 3)]) rfl sc_llast.nd (ji_rng1 (by rfl) B.b_range (ja_cons (je_cb call_len lc_len (by rfl) B.b_len (by decide +kernel) (ja_cons (jv 0) (ja_nil))) (ja_nil))) (blkOk_by (N := N_llast) (sc := defScope s_llast) (by decide +kernel)) (fun _ _ _ _ _ => jg_name (i := 3) sc_llast.nd rfl (by first | exact Or.inl rfl | exact Or.inr rfl)) (fun _ _ _ _ _ => jts_one (jb_eq hr (je_ix (jv 0) (jv 3) (fun _ _ => rfl)) (jv 2))) (fun _ _ _ _ _ => jv 3))))))
    (jss_one (js_ret (jv 1))))
abbrev s_law10 : Stmt := topS 13
abbrev N_law10 : List Str := ["_law_script", "_law_deal_here", "_law_turn", "_law_many", "_law_wide", "_law_kinds", "_law_order_here", "_law_due", "_law_slow", "_law_last_here", "_law_pair", "_law_k"]
theorem sc_law10 : FnScope N_law10 ["_law_script"] (defScope s_law10) := ⟨rfl, rfl, rfl, by decide +kernel, rfl, by decide +kernel, by decide +kernel⟩
theorem ok_law10 (F : FnP K "law" s_law10 f fd) (B : Bl mg) (C_deal : Cal P w K mg base CX0 1 "_law_deal" ["_law_script", "_law_base"] (LSp K T psp_deal)) (C_draw : Cal P w K mg base CX0 1 "_law_draw" ["_law_deal_here", "_law_many"] (LSp K T psp_draw)) (C_mixed : Cal P w K mg base CX0 2 "_law_mixed" ["_law_deal_here", "_law_many"] (LSp K T psp_mixed)) (C_lorder : Cal P w K mg base CX0 1 "_law_order" ["_law_many", "_law_word_here"] (LSp K T psp_lorder)) (C_lword : Cal P w K mg base CX0 2 "_law_word" ["_law_deal_here", "_law_kinds", "_law_most", "_law_is_free"] (LSp K T psp_lword)) (C_lpairs : Cal P w K mg base CX0 1 "_law_pairs" ["_law_order_here"] (LSp K T psp_lpairs)) (C_alike : Cal P w K mg base CX0 1 "_law_alike" ["_law_found", "_law_due"] (LSp K T psp_alike)) (C_pairs_passed : Cal P w K mg base CX0 1 "pairs_passed" ["order"] (LSp K T psp_pairs_passed)) (C_is_forward : Cal P w K mg base CX0 2 "is_forward" ["kinds", "order"] (LSp K T psp_is_forward)) (C_last_order : Cal P w K mg base CX0 4 "last_order" ["kinds"] (LSp K T psp_last_order)) (C_llast : Cal P w K mg base CX0 1 "_law_last" ["_law_kinds"] (LSp K T psp_llast)) : FnOk P w K mg base CX0 5 f fd ["_law_script"] (LSp K T psp_law) := by
  refine fn_ok (p := fun _ => p_law10) F sc_law10 rfl rfl (by decide) (fun as Qp Ep h => by obtain ⟨_, rfl, _⟩ := h; rfl) (fun cdv A outer s H E Bh Bt Ep hr hx => JSs.nox ?_) hp_law10
  exact jss_cons (js_set (i := 1) sc_law10.nd rfl (by first | exact Or.inl rfl | exact Or.inr rfl) (je_cal C_deal hr (by rfl) (ja_cons (jv 0) (ja_cons (je_fz (je_int)) (ja_nil)))))
    (jss_cons (js_parT (xs := []) (is := [3, 4]) (ja_cons (je_ix (je_lst (ja_cons (je_cal C_draw hr (by rfl) (ja_cons (jv 1) (ja_cons (je_fz (je_int)) (ja_nil)))) (ja_cons (je_int) (ja_nil)))) (je_ct call_int1 lc_int1 (by rfl) B.b_int (by decide +kernel) (ja_cons (je_eq hr (je_cal C_draw hr (by rfl) (ja_cons (jv 1) (ja_cons (je_fz (je_int)) (ja_nil)))) (je_int)) (ja_nil))) (fun _ _ => rfl)) (ja_cons (je_add (je_int) (je_cal C_draw hr (by rfl) (ja_cons (jv 1) (ja_cons (je_fz (je_int)) (ja_nil))))) (ja_nil))) (pg_tup rfl (pgs_cons (pg_name (i := 3) sc_law10.nd rfl (by first | exact Or.inl rfl | exact Or.inr rfl)) (pgs_cons (pg_name (i := 4) sc_law10.nd rfl (by first | exact Or.inl rfl | exact Or.inr rfl)) (pgs_nil)))) (par_goS (par_goS (par_go0))))
    (jss_cons (js_for PassesOwn.never rfl (ji_rng1 (by rfl) B.b_range (ja_cons (je_int) (ja_nil))) (jg_name (i := 2) sc_law10.nd rfl (by first | exact Or.inl rfl | exact Or.inr rfl)) (jss_cons (js_set (i := 5) sc_law10.nd rfl (by first | exact Or.inl rfl | exact Or.inr rfl) (je_ct call_tuple_of lc_tupleOf (by rfl) B.b_tuple (by decide +kernel) (ja_cons (je_lc (own := [("_law_k", 11)]) rfl sc_law10.nd (ji_rng1 (by rfl) B.b_range (ja_cons (jv 3) (ja_nil))) (blkOk_by (N := N_law10) (sc := defScope s_law10) (by decide +kernel)) (fun _ _ _ _ _ => jg_name (i := 11) sc_law10.nd rfl (by first | exact Or.inl rfl | exact Or.inr rfl)) (fun _ _ _ _ _ => jts_nil) (fun _ _ _ _ _ => je_cal C_draw hr (by rfl) (ja_cons (jv 1) (ja_cons (je_fz (jv 4)) (ja_nil))))) (ja_nil))))
    (jss_cons (js_set (i := 6) sc_law10.nd rfl (by first | exact Or.inl rfl | exact Or.inr rfl) (je_ct call_tupF lc_ptl (by rfl) B.b_tuple (by decide +kernel) (ja_cons (je_cal C_mixed hr (by rfl) (ja_cons (jv 1) (ja_cons (je_fz (jv 3)) (ja_nil)))) (ja_nil))))
    (jss_cons (js_if (jb_eq hr (je_cal C_draw hr (by rfl) (ja_cons (jv 1) (ja_cons (je_fz (je_int)) (ja_nil)))) (je_int)) (jss_one (js_set (i := 6) sc_law10.nd rfl (by first | exact Or.inl rfl | exact Or.inr rfl) (je_ct call_tupF lc_ptl (by rfl) B.b_tuple (by decide +kernel) (ja_cons (je_cal C_lorder hr (by rfl) (ja_cons (je_fz (jv 3)) (ja_cons (je_fz (je_cal C_lword hr (by rfl) (ja_cons (jv 1) (ja_cons (je_fz (jv 5)) (ja_cons (je_fz (je_cal C_draw hr (by rfl) (ja_cons (jv 1) (ja_cons (je_fz (je_int)) (ja_nil))))) (ja_cons (je_fz (je_bl)) (ja_nil))))))) (ja_nil)))) (ja_nil))))) (jss_nil))
    (jss_cons (js_set (i := 7) sc_law10.nd rfl (by first | exact Or.inl rfl | exact Or.inr rfl) (je_cal C_lpairs hr (by rfl) (ja_cons (jv 6) (ja_nil))))
    (jss_cons (js_if (jb_not (jb_val (je_cal C_alike hr (by rfl) (ja_cons (je_fz (je_cal C_pairs_passed hr (by rfl) (ja_cons (je_fz (jv 6)) (ja_nil)))) (ja_cons (je_fz (je_ct call_tuple_of lc_tupleOf (by rfl) B.b_tuple (by decide +kernel) (ja_cons (jv 7) (ja_nil)))) (ja_nil)))))) (jss_one (js_ret (je_bl))) (jss_nil))
    (jss_cons (js_setLc (i := 8) (own := [("_law_pair", 10)]) rfl sc_law10.nd rfl rfl (sw_true rfl rfl rfl (by decide +kernel)) (ji_seq (jv 7)) (blkOk_by (N := N_law10) (sc := defScope s_law10) (by decide +kernel)) (fun _ _ _ _ _ => jg_name (i := 10) sc_law10.nd rfl (by first | exact Or.inl rfl | exact Or.inr rfl)) (fun _ _ _ _ _ => jts_one (jb_le (je_ix (jv 5) (je_ix (jv 10) (je_int) (fun _ _ => rfl)) (fun _ _ => rfl)) (je_ix (jv 5) (je_ix (jv 10) (je_int) (fun _ _ => rfl)) (fun _ _ => rfl)))) (fun _ _ _ _ _ => jv 10))
    (jss_cons (js_if (jb_not (jb_val (je_cal C_alike hr (by rfl) (ja_cons (je_fz (je_cal C_is_forward hr (by rfl) (ja_cons (je_fz (jv 5)) (ja_cons (je_fz (jv 6)) (ja_nil))))) (ja_cons (je_fz (je_eq hr (jv 8) (je_lst (ja_nil)))) (ja_nil)))))) (jss_one (js_ret (je_bl))) (jss_nil))
    (jss_cons (js_set (i := 9) sc_law10.nd rfl (by first | exact Or.inl rfl | exact Or.inr rfl) (je_cal C_last_order hr (by rfl) (ja_cons (je_fz (jv 5)) (ja_nil))))
    (jss_cons (js_if (jw_pt (jw_or (jb_not (jb_val (je_cal C_alike hr (by rfl) (ja_cons (je_fz (jv 9)) (ja_cons (je_fz (je_ct call_tuple_of lc_tupleOf (by rfl) B.b_tuple (by decide +kernel) (ja_cons (je_cal C_llast hr (by rfl) (ja_cons (je_fz (jv 5)) (ja_nil))) (ja_nil)))) (ja_nil)))))) (jw_or1 (jb_not (jb_val (je_cal C_alike hr (by rfl) (ja_cons (je_fz (je_cal C_is_forward hr (by rfl) (ja_cons (je_fz (jv 5)) (ja_cons (je_fz (jv 9)) (ja_nil))))) (ja_cons (je_fz (je_bl)) (ja_nil))))))))) (jss_one (js_ret (je_bl))) (jss_nil))
    (jss_one (js_if (jb_isnot (je_cal C_is_forward hr (by rfl) (ja_cons (je_fz (jv 5)) (ja_cons (je_fz (je_ct call_tuple_of lc_tupleOf (by rfl) B.b_tuple (by decide +kernel) (ja_cons (je_lstRg rfl (by rfl) B.b_list (jr_1 (by rfl) B.b_range (jv 3))) (ja_nil)))) (ja_nil)))) (je_bl)) (jss_one (js_ret (je_bl))) (jss_nil)))))))))))))
    (jss_one (js_ret (je_bl)))))
end
def dd_draw : He.DefD := ⟨("_law_draw", none), "_law_draw", "_law_draw", defArgs s_draw, defBody s_draw, defScope s_draw, [], []⟩
def dd_deal : He.DefD := ⟨("_law_deal", none), "_law_deal", "_law_deal", defArgs s_deal, defBody s_deal, defScope s_deal, [], []⟩
def dd_alike : He.DefD := ⟨("_law_alike", none), "_law_alike", "_law_alike", defArgs s_alike, defBody s_alike, defScope s_alike, [], []⟩
def dd_mixed : He.DefD := ⟨("_law_mixed", none), "_law_mixed", "_law_mixed", defArgs s_mixed, defBody s_mixed, defScope s_mixed, [], []⟩
def dd_last_order : He.DefD := ⟨("last_order", none), "last_order", "last_order", defArgs s_last_order, defBody s_last_order, defScope s_last_order, [], []⟩
def dd_pairs_passed : He.DefD := ⟨("pairs_passed", none), "pairs_passed", "pairs_passed", defArgs s_pairs_passed, defBody s_pairs_passed, defScope s_pairs_passed, [], []⟩
def dd_is_forward : He.DefD := ⟨("is_forward", none), "is_forward", "is_forward", defArgs s_is_forward, defBody s_is_forward, defScope s_is_forward, [], []⟩
def dd_lword : He.DefD := ⟨("_law_word", none), "_law_word", "_law_word", defArgs s_lword, defBody s_lword, defScope s_lword, [], []⟩
def dd_lorder : He.DefD := ⟨("_law_order", none), "_law_order", "_law_order", defArgs s_lorder, defBody s_lorder, defScope s_lorder, [], []⟩
def dd_lpairs : He.DefD := ⟨("_law_pairs", none), "_law_pairs", "_law_pairs", defArgs s_lpairs, defBody s_lpairs, defScope s_lpairs, [], []⟩
def dd_llast : He.DefD := ⟨("_law_last", none), "_law_last", "_law_last", defArgs s_llast, defBody s_llast, defScope s_llast, [], []⟩
def dd_law10 : He.DefD := ⟨("law", none), "law", "law", defArgs s_law10, defBody s_law10, defScope s_law10, [], []⟩
def fns : List He.DefD := [dd_draw, dd_deal, dd_alike, dd_mixed, dd_last_order, dd_pairs_passed, dd_is_forward, dd_lword, dd_lorder, dd_lpairs, dd_llast, dd_law10]
def facs : List He.Fa := [.glo "_law_draw", .glo "_law_deal", .glo "_law_alike", .glo "_law_mixed", .glo "last_order", .glo "pairs_passed", .glo "is_forward", .glo "_law_word", .glo "_law_order", .glo "_law_pairs", .glo "_law_last", .glo "law", .free "len", .free "list", .free "tuple", .free "reversed", .free "range", .free "max", .free "min", .free "sum", .free "all", .free "any", .free "zip", .free "enumerate", .free "isinstance", .free "int", .free "bool", .free "str", .free "repr", .free "divmod", .free "abs", .free "sorted", .free "set", .free "dict", .free "pow", .free "ValueError", .free "IndexError"]
def exB (K : PySem.W.Frag) : Bool := true
abbrev rowR : PySem.W.OpenRow := PySem.W.OpenLaw.row PySem.Challenge.rw_wherefrom_k10_who_has_passed_whom
def tfs : List He.Defn := [("last_order", none)]
abbrev hk : PySem.W.Hook := Wf.hookV 6 facs fns tfs exB
def obA (s : PySem.W.SharedT) : He.AlD × Bool := Wf.obsV 6 facs fns tfs exB (HandSHeadRun.getT s)
theorem ob_eq (s : PySem.W.SharedT) : obA s = hk.obs s.abs := Wf.obsV_eq (HandSHeadRun.getT_eq s)
abbrev loose0 : List Str := ["last_order", "pairs_passed", "is_forward", "_law_deal", "_law_draw", "_law_alike", "_law_mixed", "_law_word", "_law_order", "_law_pairs", "_law_last"]
abbrev looseL : List Str := loose0
theorem run_eq (w : World) : HandSHeadRun.RunEq rowR (PySem.W.view rowR.prog [13]) hk obA 2400 looseL w := by
  intro os
  kernel_rfl
theorem facts {P : Program} {w : World} {K : PySem.W.Frag} {h : Heap} {mg : Str → Option Value} {f : Addr} (X : K.In h) (G : h.Ns mainGlobals mg) (hfa : mg ("law" : Str) = some (.ref f)) (c : SaysV facs fns tfs exB h K) :
    ∃ fd : FuncData, (∀ (s : Shared) (v : Value), BindsTo s fd ⟨[v], []⟩ [("_law_script", v)]) ∧ ∀ base : Heap, K.In base → base.Ns mainGlobals mg → (∀ p ∈ tfs.map (He.cT K), TabB base mg p.1 p.2) → FnG P w K mg base CX0 5 f fd ["_law_script"] (LSp K (tabT K) psp_law) := by
  have cd := c.d
  have cm := c.more
  obtain ⟨fd_draw, F_draw⟩ := cd.def_ 0 (d := dd_draw) rfl
  have g_draw := He.glo_ok X G (cd.fact 0 (f := .glo "_law_draw") rfl)
  obtain ⟨fd_deal, F_deal⟩ := cd.def_ 1 (d := dd_deal) rfl
  have g_deal := He.glo_ok X G (cd.fact 1 (f := .glo "_law_deal") rfl)
  obtain ⟨fd_alike, F_alike⟩ := cd.def_ 2 (d := dd_alike) rfl
  have g_alike := He.glo_ok X G (cd.fact 2 (f := .glo "_law_alike") rfl)
  obtain ⟨fd_mixed, F_mixed⟩ := cd.def_ 3 (d := dd_mixed) rfl
  have g_mixed := He.glo_ok X G (cd.fact 3 (f := .glo "_law_mixed") rfl)
  obtain ⟨fd_last_order, F_last_order⟩ := cd.def_ 4 (d := dd_last_order) rfl
  have g_last_order := He.glo_ok X G (cd.fact 4 (f := .glo "last_order") rfl)
  obtain ⟨fd_pairs_passed, F_pairs_passed⟩ := cd.def_ 5 (d := dd_pairs_passed) rfl
  have g_pairs_passed := He.glo_ok X G (cd.fact 5 (f := .glo "pairs_passed") rfl)
  obtain ⟨fd_is_forward, F_is_forward⟩ := cd.def_ 6 (d := dd_is_forward) rfl
  have g_is_forward := He.glo_ok X G (cd.fact 6 (f := .glo "is_forward") rfl)
  obtain ⟨fd_lword, F_lword⟩ := cd.def_ 7 (d := dd_lword) rfl
  have g_lword := He.glo_ok X G (cd.fact 7 (f := .glo "_law_word") rfl)
  obtain ⟨fd_lorder, F_lorder⟩ := cd.def_ 8 (d := dd_lorder) rfl
  have g_lorder := He.glo_ok X G (cd.fact 8 (f := .glo "_law_order") rfl)
  obtain ⟨fd_lpairs, F_lpairs⟩ := cd.def_ 9 (d := dd_lpairs) rfl
  have g_lpairs := He.glo_ok X G (cd.fact 9 (f := .glo "_law_pairs") rfl)
  obtain ⟨fd_llast, F_llast⟩ := cd.def_ 10 (d := dd_llast) rfl
  have g_llast := He.glo_ok X G (cd.fact 10 (f := .glo "_law_last") rfl)
  obtain ⟨fd_law10, F_law10⟩ := cd.def_ 11 (d := dd_law10) rfl
  have eq := hfa.symm.trans (He.glo_ok X G (cd.fact 11 (f := .glo "law") rfl))
  cases eq
  have B : Bl mg := ⟨He.free_ok X G (cd.fact 12 (f := .free "len") rfl), He.free_ok X G (cd.fact 13 (f := .free "list") rfl), He.free_ok X G (cd.fact 14 (f := .free "tuple") rfl), He.free_ok X G (cd.fact 15 (f := .free "reversed") rfl), He.free_ok X G (cd.fact 16 (f := .free "range") rfl), He.free_ok X G (cd.fact 17 (f := .free "max") rfl), He.free_ok X G (cd.fact 18 (f := .free "min") rfl), He.free_ok X G (cd.fact 19 (f := .free "sum") rfl), He.free_ok X G (cd.fact 20 (f := .free "all") rfl), He.free_ok X G (cd.fact 21 (f := .free "any") rfl), He.free_ok X G (cd.fact 22 (f := .free "zip") rfl), He.free_ok X G (cd.fact 23 (f := .free "enumerate") rfl), He.free_ok X G (cd.fact 24 (f := .free "isinstance") rfl), He.free_ok X G (cd.fact 25 (f := .free "int") rfl), He.free_ok X G (cd.fact 26 (f := .free "bool") rfl), He.free_ok X G (cd.fact 27 (f := .free "str") rfl), He.free_ok X G (cd.fact 28 (f := .free "repr") rfl), He.free_ok X G (cd.fact 29 (f := .free "divmod") rfl), He.free_ok X G (cd.fact 30 (f := .free "abs") rfl), He.free_ok X G (cd.fact 31 (f := .free "sorted") rfl), He.free_ok X G (cd.fact 32 (f := .free "set") rfl), He.free_ok X G (cd.fact 33 (f := .free "dict") rfl), He.free_ok X G (cd.fact 34 (f := .free "pow") rfl), He.free_ok X G (cd.fact 35 (f := .free "ValueError") rfl), He.free_ok X G (cd.fact 36 (f := .free "IndexError") rfl)⟩
  have b := FunD.bindsA (ps := ["_law_script"]) F_law10 fun _ _ _ _ _ _ us hl => match us, hl with | [_], _ => rfl
  refine ⟨fd_law10, fun s v => b s [v] rfl, fun base _ _ TB => ?_⟩
  have C_draw : Cal P w K mg base CX0 1 "_law_draw" ["_law_deal_here", "_law_many"] sp_draw := ⟨_, fd_draw, ok_draw F_draw B , g_draw, F_draw.kp, F_draw.bindsN fun _ _ _ _ _ _ us hl => match us, hl with | [_, _], _ => rfl⟩
  have C_deal : Cal P w K mg base CX0 1 "_law_deal" ["_law_script", "_law_base"] (sp_deal K) := ⟨_, fd_deal, ok_deal F_deal B , g_deal, F_deal.kp, F_deal.bindsN fun _ _ _ _ _ _ us hl => match us, hl with | [_, _], _ => rfl⟩
  have C_alike : Cal P w K mg base CX0 1 "_law_alike" ["_law_found", "_law_due"] (sp_alike K) := ⟨_, fd_alike, ok_alike F_alike B , g_alike, F_alike.kp, F_alike.bindsN fun _ _ _ _ _ _ us hl => match us, hl with | [_, _], _ => rfl⟩
  have C_mixed : Cal P w K mg base CX0 2 "_law_mixed" ["_law_deal_here", "_law_many"] sp_mixed := ⟨_, fd_mixed, ok_mixed F_mixed B C_draw, g_mixed, F_mixed.kp, F_mixed.bindsN fun _ _ _ _ _ _ us hl => match us, hl with | [_, _], _ => rfl⟩
  have C_last_order : Cal P w K mg base CX0 4 "last_order" ["kinds"] (LSp K (tabT K) psp_last_order) := ⟨_, fd_last_order, ok_last_order F_last_order (code_of (p := ("last_order", none)) F_last_order) B (TB _ (by first | exact List.mem_cons_self | exact List.mem_cons_of_mem _ List.mem_cons_self)) (by first | exact List.mem_cons_self | exact List.mem_cons_of_mem _ List.mem_cons_self) (un_tabT K _), g_last_order, F_last_order.kp, F_last_order.bindsN fun _ _ _ _ _ _ us hl => match us, hl with | [_], _ => rfl⟩
  have C_pairs_passed : Cal P w K mg base CX0 1 "pairs_passed" ["order"] (LSp K (tabT K) psp_pairs_passed) := ⟨_, fd_pairs_passed, ok_pairs_passed F_pairs_passed B , g_pairs_passed, F_pairs_passed.kp, F_pairs_passed.bindsN fun _ _ _ _ _ _ us hl => match us, hl with | [_], _ => rfl⟩
  have C_is_forward : Cal P w K mg base CX0 2 "is_forward" ["kinds", "order"] (LSp K (tabT K) psp_is_forward) := ⟨_, fd_is_forward, ok_is_forward F_is_forward B C_pairs_passed, g_is_forward, F_is_forward.kp, F_is_forward.bindsN fun _ _ _ _ _ _ us hl => match us, hl with | [_, _], _ => rfl⟩
  have C_lword : Cal P w K mg base CX0 2 "_law_word" ["_law_deal_here", "_law_kinds", "_law_most", "_law_is_free"] (LSp K (tabT K) psp_lword) := ⟨_, fd_lword, ok_lword F_lword B (C_draw.imp conv_draw), g_lword, F_lword.kp, F_lword.bindsN fun _ _ _ _ _ _ us hl => match us, hl with | [_, _, _, _], _ => rfl⟩
  have C_lorder : Cal P w K mg base CX0 1 "_law_order" ["_law_many", "_law_word_here"] (LSp K (tabT K) psp_lorder) := ⟨_, fd_lorder, ok_lorder F_lorder B , g_lorder, F_lorder.kp, F_lorder.bindsN fun _ _ _ _ _ _ us hl => match us, hl with | [_, _], _ => rfl⟩
  have C_lpairs : Cal P w K mg base CX0 1 "_law_pairs" ["_law_order_here"] (LSp K (tabT K) psp_lpairs) := ⟨_, fd_lpairs, ok_lpairs F_lpairs B , g_lpairs, F_lpairs.kp, F_lpairs.bindsN fun _ _ _ _ _ _ us hl => match us, hl with | [_], _ => rfl⟩
  have C_llast : Cal P w K mg base CX0 1 "_law_last" ["_law_kinds"] (LSp K (tabT K) psp_llast) := ⟨_, fd_llast, ok_llast F_llast B , g_llast, F_llast.kp, F_llast.bindsN fun _ _ _ _ _ _ us hl => match us, hl with | [_], _ => rfl⟩
  exact FnG.of (ok_law10 F_law10 B (C_deal.imp conv_deal) (C_draw.imp conv_draw) (C_mixed.imp conv_mixed) C_lorder C_lword C_lpairs (C_alike.imp conv_alike) C_pairs_passed C_is_forward (C_last_order.imp (fun _ _ _ _ h => h)) C_llast)
end Wf
open PySem PySem.W PySem.Calls PyProof.Rows
theorem PySem.Challenge.cw_wherefrom_k10_who_has_passed_whom_holds : PySem.Challenge.rw_wherefrom_k10_who_has_passed_whom.Holds := by
  w_on; o_law
  refine HandSHeadRun.head_any (r := OpenLaw.row PySem.Challenge.rw_wherefrom_k10_who_has_passed_whom) (q := view (OpenLaw.row PySem.Challenge.rw_wherefrom_k10_who_has_passed_whom).prog [13]) (H := Wf.hk) (ob := Wf.obA) (M := 2400) (loose := Wf.looseL) (d := HandSHeadRun.topDef (OpenLaw.row PySem.Challenge.rw_wherefrom_k10_who_has_passed_whom).prog 13) (kwd := []) Wf.ob_eq
    (by kernel_rfl) (fun s => by kernel_rfl) Wf.run_eq (by kernel_rfl) (by kernel_rfl) (by kernel_rfl) (by rfl) (by first | assumption | decide +kernel) (by decide +kernel) ⟨rfl, rfl, rfl, rfl, rfl, by decide +kernel⟩ ?hw ?hc
  case hw => w_witness2
  case hc =>
    refine Wf.walkT2 (l := PySem.Challenge.rw_wherefrom_k10_who_has_passed_whom) (n := 63) (k := 5) (x := "_law_script") rfl (by decide) (by kernel_rfl) ⟨rfl, by decide, by decide⟩ ?F
    intro w mg fa h Y G hmg0
    obtain ⟨K, KX, c⟩ := Y
    have hmg : mg ("law" : PySem.Str) = some (.ref fa) := by
      have e : (HandSHeadRun.topDef (OpenLaw.row PySem.Challenge.rw_wherefrom_k10_who_has_passed_whom).prog 13).name = ("law" : PySem.Str) := by kernel_rfl
      rw [← e]
      exact hmg0
    obtain ⟨fd, hb, hF⟩ := Wf.facts (P := (PySem.Challenge.rw_wherefrom_k10_who_has_passed_whom).prog) (w := w) KX G hmg c
    exact ⟨K, fd, Wf.tfs.map (He.cT K), Pv.LSp K (Wf.tabT K) Pv.psp_law, KX, fun p hp => by obtain ⟨q, hq, rfl⟩ := List.mem_map.mp hp; exact c.empty q hq, fun p hp => by obtain ⟨q, hq, rfl⟩ := List.mem_map.mp hp; exact c.out q hq, fun p hp => by obtain ⟨q, hq, rfl⟩ := List.mem_map.mp hp; exact PySem.W.codeHd_of_K KX (c.hd q hq), hb, fun H a ns hl hT hO hS => Pv.end_lawT (by omega) (Wf.tabs0 hT) hT hO hS, hF⟩

