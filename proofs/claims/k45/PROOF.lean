import PyProof.Rows.All
import Wide.All
import OpenK.AllK
import Wide.FinOn
import PyProof.ListRange
import HandS.ForMost
import HandS.RevTup
import HandS.Rev
import HandS.Wide
import HandS.Defaults
import HandS.Conv
import HandS.IsInst
import HandS.Style
import HandS.Steps
import HandS.TupAny
import HandS.TupMul
import HandS.Zip
import HandS.HeadEnd
import KE.GoesMore
import HandS.ExcInit
import HandS.ExcField
import HandS.ExcIs
import KE.KExcIs
import HandS.ExcOwn
import HandS.ClsMeth
import HandS.ForExc
import PyProof.TupleKey
import PyProof.DictRoadsH
import KE.KDictSum
import HandS.Nested
import HandS.Lambda
import HandS.EndTab
import KE.KIndexOf
import HandS.Deep
import HandS.More
import HandS.SortInts
import HandS.SortKw
import HandS.TupSets
import HandS.Iter
import HandS.RevRange
import HandS.Head0
import HandS.Head1
import HandS.Head2
import HandS.HeadHook1
import HandS.HeadHook2
import HandS.HeadHook4
import HandS.SortOrd
import HandS.SortRule
import HandS.Flow
import HandS.TupLe
import HandS.TupLen
import KE.DataMinMax
import HandS.SetFor
import PySem.Challenge.RW_wherefrom_k45_free_words_refused
set_option Elab.async false
set_option linter.all false
set_option maxRecDepth 100000
set_option maxHeartbeats 0
/-! list(reversed(xs)), xs a list -/
namespace Wf
open PySem PySem.Spec PyProof.Rows L2
section
variable {prog : Program} {w : World} {A : Around} {E : Value → Shared → Prop} {s : Shared}
theorem initRev {R : Result → Shared → Prop} {it l S : Addr} {its : Array Value} (hh : A.handled = none) (hi : s.heap.IsRevIter it l ((its.size : Int) - 1)) (hl : s.heap.IsList l its) (hne : l ≠ it) (hn : its.size ≤ sizeLine)
    (hS : s.heap.get? S = some { cls := .type "list", data := .seq #[] }) (hSi : S ≠ it) (hSl : S ≠ l)
    (hR : ∀ (h' : Heap) (tk : Nat) (acc : Array Value) (c : Nat), (∀ b o, b ≠ S → b ≠ it → s.heap.get? b = some o → h'.get? b = some o) → h'.get? S = some { cls := .type "list", dict := none, data := .seq acc c, slots := #[] } →
      ItemsOf (fun i v => its[its.size - 1 - i]? = some v) acc its.size → R (.ok (.ret .none)) { s with heap := h', toks := tk }) :
    wpAny (model prog w) A.in1 (Builtin.«list.__init__» ⟨[.ref S, .ref it], []⟩)
      (fun fin s' => match fin with | .done f => R (.ok f) s' | .again c' => c'.quiet = true ∧ codeAny (model prog w) A c' R s') (fun e s' => R (.error e) s') s := by
  have W := (Walks.listRev (prog := prog) (w := w) (A := A.in1) hh it l hne its).toS
  have hSf : S ∉ [it, l] := by simp only [List.mem_cons, List.not_mem_nil, or_false, not_or]; exact ⟨hSi, hSl⟩
  have e0 : ((its.size : Nat) : Int) - 1 - ((0 : Nat) : Int) = (its.size : Int) - 1 := by omega
  show wpAny _ A.in1 (Builtin.List.listItems (.ref S) >>= fun old => Builtin.List.listUpdate (.ref S) (fun _ => #[]) >>= fun _ => letGo old.toList.reverse >>= fun _ => Builtin.List.listExtendWith (.ref S) (.ref it) .none) _ _ s
  refine wpAny_bind ?_
  unfold Builtin.List.listItems
  refine wpAny_bind (wpAny_seqItems hS rfl (wpAny_pure ?_))
  show wpAny _ A.in1 (updateSeq S (fun _ => #[]) >>= fun _ => letGo (#[] : Array Value).toList.reverse >>= fun _ => Builtin.List.listExtendWith (.ref S) (.ref it) .none) _ _ s
  refine wpAny_bind (wpAny_updateSeq hS rfl ?_)
  have hS2 := Heap.get?_update_self (Obj.mapSeq (fun _ => (#[] : Array Value))) hS rfl
  have oth : ∀ b o, b ≠ S → s.heap.get? b = some o → (s.heap.update S (Obj.mapSeq (fun _ => (#[] : Array Value)))).get? b = some o := fun b o hb e => (Heap.get?_update_other _ _ (Ne.symm hb)).trans e
  refine wpAny_bind (wpAny_letGo ?_)
  have hi2 : (s.heap.update S (Obj.mapSeq (fun _ => (#[] : Array Value)))).IsRevIter it l ((its.size : Int) - 1) := hi.at fun o e => oth it o (Ne.symm hSi) e
  have hl2 : (s.heap.update S (Obj.mapSeq (fun _ => (#[] : Array Value)))).IsList l its := by
    obtain ⟨o, e, r⟩ := hl
    exact ⟨o, oth l o (Ne.symm hSl) e, r⟩
  have hT : ({ s with heap := s.heap.update S (Obj.mapSeq (fun _ => (#[] : Array Value))) } : Shared).TypeIs (.ref it) "list_reverseiterator" := Heap.IsRevIter.typeIs (s := { s with heap := s.heap.update S (Obj.mapSeq (fun _ => (#[] : Array Value))) }) hi2
  have h1 : Builtin.List.listSameRef (.ref S) (.ref it) = false := by simp [Builtin.List.listSameRef, hSi]
  unfold Builtin.List.listExtendWith
  refine wpAny_bind (wpAny_typeOf hT ?_)
  rw [if_neg (by rw [h1]; decide)]
  refine wpAny_bind (wpAny_pyIter_revIter (s := { s with heap := s.heap.update S (Obj.mapSeq (fun _ => (#[] : Array Value))) }) hi2 ?_)
  refine wpAny_bind (wpAny_holding ?_)
  unfold Builtin.List.listLengthHint
  refine wpAny_bind (wpAny_specialOf hT RT.nolen_lri ?_)
  show wpAny _ A.in1 (specialOf (Value.ref it) (Str.ofString "__length_hint__") >>= _) _ _ _
  refine wpAny_bind (wpAny_specialOf hT RT.hint_lri ?_)
  generalize hid : ("list_reverseiterator.__length_hint__" : String) = id0
  wp_delta
  rw [show splitId id0 = some ("list_reverseiterator", "__length_hint__") from by subst hid; decide +kernel]
  subst hid
  refine wpAny_bind (wpAny_isInstance (b := true) hT (by rw [isSubtype_type]; kernel_rfl) ?_)
  refine wpAny_pure ?_
  rw [if_neg (by decide)]
  refine wpAny_pure ⟨plainId_quiet F.plain_extend_loop _, codeAny_extend_loopS W hn _ hSf _ its.size 0 _ _ _ rfl (Nat.zero_le _) ⟨Nat.zero_le _, by rw [e0]; exact hi2, hl2⟩ hS2 (ItemsOf.nil _) fun s' acc' c' hm hS' hacc => ?_⟩
  rw [Moved.eq_with hm]
  refine hR s'.heap s'.toks acc' c' (fun b o hb hbi e => hm.heap b o (fun hmem => ?_) (oth b o hb e)) hS' hacc
  rcases List.mem_cons.mp hmem with e' | hmem
  · exact hb e'
  · exact hbi (List.mem_singleton.mp hmem)
theorem callRev {it l : Addr} {its : Array Value} {Q : Value → Shared → Prop} (hh : A.handled = none) (hi : s.heap.IsRevIter it l ((its.size : Int) - 1)) (hl : s.heap.IsList l its) (hne : l ≠ it) (hn : its.size ≤ sizeLine)
    (hQ : ∀ (h' : Heap) (tk : Nat) (acc : Array Value) (c : Nat), (∀ b o, b ≠ it → s.heap.get? b = some o → h'.get? b = some o) → h'.get? s.heap.objs.size = some { cls := .type "list", dict := none, data := .seq acc c, slots := #[] } →
      ItemsOf (fun i v => its[its.size - 1 - i]? = some v) acc its.size → Q (.ref s.heap.objs.size) { s with heap := h', toks := tk }) :
    wpAny (model prog w) A (call (.type "list") [.ref it]) Q E s := by
  refine callType_codes (Q₁ := fun obj s₁ => obj = .ref s.heap.objs.size ∧ s₁ = { s with heap := s.heap.push { cls := .type "list", data := .seq #[] } }) F.called_list (F.typeCall_list_1 _) F.entry_list_init (code_list_new _ ⟨rfl, rfl⟩) fun obj s₁ h₁ => ?_
  obtain ⟨rfl, rfl⟩ := h₁
  obtain ⟨oi, hoi, _⟩ := id hi
  obtain ⟨ol, hol, _⟩ := id hl
  have hS : (s.heap.push { cls := .type "list", data := .seq #[] }).get? s.heap.objs.size = some { cls := .type "list", data := .seq #[] } := Heap.get?_push_size _ rfl
  refine ⟨⟨_, hS, rfl⟩, F.args_list_init_2 _ _, initRev (s := { s with heap := s.heap.push { cls := .type "list", data := .seq #[] } }) (A := A.in1) hh (hi.at fun o e => Heap.get?_push_of_some _ e) (hl.push _) hne hn hS (Nat.ne_of_gt (Heap.lt_size hoi)) (Nat.ne_of_gt (Heap.lt_size hol)) fun h' tk acc c hk hS' hacc => ?_⟩
  exact ⟨rfl, hQ h' tk acc c (fun b o hb e => hk b o (Nat.ne_of_lt (Heap.lt_size e)) hb (Heap.get?_push_of_some _ e)) hS' hacc⟩
end
/-- list(reversed(x)), x a list: a new list -/
def tLstRev (K : PySem.W.Frag) (te : TE) : TE := fun σ H Q => te σ H fun v H1 => ∃ (a : Addr) (xs : List V), v = .ref a ∧ SqL K H1 a xs ∧ ∀ q, H1 q = none → Q (.ref q) (upd H1 q (.lst xs.reverse))
section
variable {X : Cx}
theorem pe_lstRev {e : Expr} {te : TE} {p p2 pos pos2 : Pos} (hc : X.calm = true) (hg : Gl X "list") (hm : X.mg "list" = none) (hg2 : Gl X "reversed") (hm2 : X.mg "reversed" = none) (he : PE X e te)
    (hs : starEach [e] X.env = (false, eval e X.env) :: starEach [] X.env := by rfl)
    (hs2 : starEach [.Call (.Name "reversed" p2) [e] [] pos2] X.env = (false, eval (.Call (.Name "reversed" p2) [e] [] pos2) X.env) :: starEach [] X.env := by rfl) :
    PE X (.Call (.Name "list" p) [.Call (.Name "reversed" p2) [e] [] pos2] [] pos) (tLstRev X.K te) := by
  refine ⟨fun pins s σ H Q I h => ?_⟩
  refine Call_ (ld_blt I hg hm boot_list (PyProof.Rows.callWith_type1 (args_cons (Call_ (ld_blt I hg2 hm2 PyProof.Rows.boot_reversed (PyProof.Rows.callWith_type1 (args_cons (thn (he.run pins s σ H _ I h) fun u s1 ⟨v, H1, I1, r1, q1⟩ => args_nil ?_) hs) hs rfl))) hs2) hs2 rfl))
  obtain ⟨a, xs, ev, hq, q⟩ := q1
  subst ev
  obtain rfl : u = Value.ref a := r1
  obtain ⟨its, rv, p', hz⟩ := I1.list hq
  refine call_reversed_list p'.isList (args_nil ?_)
  have k0 : ∀ b o, s1.heap.get? b = some o → (s1.heap.push (revObj a ((its.toArray.size : Int) - 1))).get? b = some o := fun b o e => Heap.get?_push_of_some _ e
  have I2 : Inv X pins σ H1 { s1 with heap := s1.heap.push (revObj a ((its.toArray.size : Int) - 1)) } := I1.kept (t' := s1.toks) k0
  obtain ⟨f0, f1, f2, f3, f4, f5⟩ := I1.fpOk (H' := H1) (b := s1.heap.objs.size) (Nat.le_refl _) (I1.hok.fresh (Nat.le_refl _))
  have hl := p'.isList
  obtain ⟨ol, hol, _⟩ := id hl
  have hne : a ≠ s1.heap.objs.size := Nat.ne_of_lt (Heap.lt_size hol)
  have hn : its.toArray.size ≤ sizeLine := by rw [List.size_toArray, ← rv.length]; exact hz
  refine callRev (s := { s1 with heap := s1.heap.push (revObj a ((its.toArray.size : Int) - 1)) }) (I1.ok.hd hc) ⟨_, Heap.get?_push_size _ rfl, rfl, rfl⟩ (hl.push _) hne hn fun h' tk acc c hk hS hi => ?_
  have old : ∀ b o, s1.heap.get? b = some o → h'.get? b = some o := fun b o e => hk b o (Nat.ne_of_lt (Heap.lt_size e)) (k0 b o e)
  have sz : s1.heap.objs.size ≤ (s1.heap.push (revObj a ((its.toArray.size : Int) - 1))).objs.size := by rw [Heap.size_push]; exact Nat.le_succ _
  refine ⟨.ref _, _, I1.laid (t' := tk) old sz (show ObjOk X.prog X.w _ _ _ (.lst xs.reverse) from ⟨by rw [List.length_reverse]; exact hz, acc.toList, c, RT.vals_rev rv hi, ?_⟩), rfl, q _ (I1.hok.fresh sz)⟩
  rw [Array.toArray_toList]
  exact hS
end
end Wf
namespace Wf
open PySem PySem.Spec L2
/-! ### short words for the operators' readings -/
abbrev qAdd : R2 := rI0 fun i j => .int (i + j)
abbrev qSub : R2 := rI0 fun i j => .int (i - j)
abbrev qMul : R2 := rI CMul fun i j => .int (i * j)
abbrev qFdiv : R2 := rI CDiv fun i j => .int (i / j)
abbrev qFdivW : R2 := rI CDivW fun i j => .int (i / j)
abbrev qMod : R2 := rI (fun _ j => 0 < j) fun i j => .int (i % j)
abbrev qPow : R2 := rI CPow fun i j => .int (i ^ j.toNat)
abbrev qNeg : V → Hp → VK → Prop := rU fun i => .int (-i)
abbrev qLe : R2 := rI0 fun i j => .bl (decide (i ≤ j))
abbrev qGt : R2 := rI0 fun i j => .bl (decide (j < i))
abbrev qGe : R2 := rI0 fun i j => .bl (decide (j ≤ i))
abbrev qMax2 : List V → Hp → VK → Prop := fun xs H Q => ∃ i j, xs = [.int i, .int j] ∧ Q (.int (if j > i then j else i)) H
abbrev qMin2 : List V → Hp → VK → Prop := fun xs H Q => ∃ i j, xs = [.int i, .int j] ∧ Q (.int (if j < i then j else i)) H
abbrev qLen (K : PySem.W.Frag) : List V → Hp → VK → Prop := fun xs H Q => ∃ x n, xs = [x] ∧ LenV K x H n ∧ Q (.int n) H
abbrev qListOf (K : PySem.W.Frag) : List V → Hp → VK → Prop := fun xs H Q => ∃ p ys, xs = [.ref p] ∧ (SqL K H p ys ∨ SqT K H p ys) ∧ ∀ l, H l = none → Q (.ref l) (upd H l (.lst ys))
abbrev qTupleOf (K : PySem.W.Frag) : List V → Hp → VK → Prop := fun xs H Q => ∃ p ys, xs = [.ref p] ∧ ((SqL K H p ys ∧ ∀ l, H l = none → Q (.ref l) (upd H l (.tup ys))) ∨ (SqT K H p ys ∧ Q (.ref p) H))
/-! ### a def of the module that is called by its name -/
structure Cal (P : Program) (w : World) (K : PySem.W.Frag) (mg : Str → Option Value) (base : Heap) (CX : CXT) (k : Nat) (x : Str) (ps : List Str) (sp : Sp) : Prop where
  ex : ∃ f fd, FnOk P w K mg base CX k f fd ps sp ∧ mg x = some (.ref f) ∧ PySem.W.keepIn K (.ref f) = true ∧ Binds K fd ps []
theorem pe_cal {X : Cx} {k j : Nat} {x : Str} {ps : List Str} {sp : Sp} {e : Expr} {es : List Expr} {t : TA} {p pos : Pos} (C : Cal X.prog X.w X.K X.mg X.base CX0 k x ps sp) (hr : Room j X.A) (hg : Gl X x) (ha : PA X (e :: es) t) (hk : k ≤ j := by decide)
    (hdb : (x == ("__debug__" : Str)) = false := by decide) (he : starEach (e :: es) X.env = (false, eval e X.env) :: starEach es X.env := by rfl) (hpl : (backTo pos (starEach es X.env)).any (·.1) = false := by rfl) :
    PE X (.Call (.Name x p) (e :: es) [] pos) (tCall sp [] E0 t) := by
  obtain ⟨f, fd, G, m, kp, b⟩ := C.ex
  exact pe_call G (hr.mono hk) hg m kp b .nil pass0 ha hdb he hpl
/-- the built-in names that the module leaves alone -/
structure Bl (mg : Str → Option Value) : Prop where
  b_len : mg "len" = none
  b_list : mg "list" = none
  b_tuple : mg "tuple" = none
  b_reversed : mg "reversed" = none
  b_range : mg "range" = none
  b_max : mg "max" = none
  b_min : mg "min" = none
  b_sum : mg "sum" = none
  b_all : mg "all" = none
  b_any : mg "any" = none
  b_zip : mg "zip" = none
  b_enumerate : mg "enumerate" = none
  b_isinstance : mg "isinstance" = none
  b_int : mg "int" = none
  b_bool : mg "bool" = none
  b_str : mg "str" = none
  b_repr : mg "repr" = none
  b_divmod : mg "divmod" = none
  b_abs : mg "abs" = none
  b_sorted : mg "sorted" = none
  b_set : mg "set" = none
  b_dict : mg "dict" = none
  b_pow : mg "pow" = none
  b_ValueError : mg "ValueError" = none
  b_IndexError : mg "IndexError" = none
/-! ### heaps: all but some addresses as before -/
def But (ds : List Addr) (H H' : Hp) : Prop := ∀ a o, a ∉ ds → H a = some o → H' a = some o
theorem But.refl (ds : List Addr) (H : Hp) : But ds H H := fun _ _ _ h => h
theorem But.trans {ds : List Addr} {H H1 H2 : Hp} (a : But ds H H1) (b : But ds H1 H2) : But ds H H2 := fun c o n h => b c o n (a c o n h)
/-! ### the deal: a dict of three numbers and a list of great ones -/
def dealK (s m n : Int) (l : Addr) : List (Key × V) := [(Sum.inr "seed", .int s), (Sum.inr "many", .int m), (Sum.inr "now", .int n), (Sum.inr "left", .ref l)]
structure Deal (H : Hp) (d l : Addr) : Prop where
  ex : ∃ (s m n : Int) (ns : List Int), H d = some (.dK (dealK s m n l)) ∧ H l = some (.lst (ns.map V.int)) ∧ 0 ≤ n ∧ ∀ x ∈ ns, 0 ≤ x
theorem key_ne {x y : Str} (h : (x == y) = false) : ¬ (Sum.inr x : Key) = Sum.inr y := fun e => by
  have := Sum.inr.inj e
  rw [this, beq_self_eq_true] at h
  cases h
theorem dk_seed {s m n : Int} {l : Addr} : valV (dealK s m n l) (Sum.inr "seed") = some (.int s) := valV_pos rfl
theorem dk_many {s m n : Int} {l : Addr} : valV (dealK s m n l) (Sum.inr "many") = some (.int m) := (valV_neg (key_ne (by decide +kernel))).trans (valV_pos rfl)
theorem dk_now {s m n : Int} {l : Addr} : valV (dealK s m n l) (Sum.inr "now") = some (.int n) :=
  (valV_neg (key_ne (by decide +kernel))).trans ((valV_neg (key_ne (by decide +kernel))).trans (valV_pos rfl))
theorem dk_left {s m n : Int} {l : Addr} : valV (dealK s m n l) (Sum.inr "left") = some (.ref l) :=
  (valV_neg (key_ne (by decide +kernel))).trans ((valV_neg (key_ne (by decide +kernel))).trans ((valV_neg (key_ne (by decide +kernel))).trans (valV_pos rfl)))
theorem dk_putNow {s m n k : Int} {l : Addr} : putK (dealK s m n l) (Sum.inr "now") (.int k) = dealK s m k l := by
  unfold putK
  rw [valV_any, dk_now, if_pos (show (some (V.int n)).isSome = true from rfl)]
  show [_, _, _, _] = _
  dsimp only
  rw [if_neg (key_ne (by decide +kernel)), if_neg (key_ne (by decide +kernel)), if_pos rfl, if_neg (key_ne (by decide +kernel))]
  rfl
theorem dk_putMany {s m n k : Int} {l : Addr} : putK (dealK s m n l) (Sum.inr "many") (.int k) = dealK s k n l := by
  unfold putK
  rw [valV_any, dk_many, if_pos (show (some (V.int m)).isSome = true from rfl)]
  show [_, _, _, _] = _
  dsimp only
  rw [if_neg (key_ne (by decide +kernel)), if_pos rfl, if_neg (key_ne (by decide +kernel)), if_neg (key_ne (by decide +kernel))]
  rfl
/-- d["x"], d in a slot -/
theorem rd_dk {σ : St} {H : Hp} {Q : VK} {i : Nat} {d : Addr} {kvs : List (Key × V)} {x : Str} {v : V} (h : H d = some (.dK kvs)) (hi : σ[i]? = some (some (.ref d))) (hv : valV kvs (Sum.inr x) = some v) (q : Q v H) : tDGet (tVar i) (tC (.str x)) σ H Q :=
  ⟨.ref d, hi, d, v, rfl, by rw [← hv]; exact DGet.k (k := Sum.inr x) h, q⟩
/-- d["x"] = e, the reading of e done before -/
theorem wr_dk {σ : St} {H : Hp} {D : Ends} {i : Nat} {d : Addr} {kvs kvs' : List (Key × V)} {x : Str} {v : V} (h : H d = some (.dK kvs)) (hi : σ[i]? = some (some (.ref d))) (hl : kvs.length < sizeLine) (hp : putK kvs (Sum.inr x) v = kvs') (q : D.nx σ (upd H d (.dK kvs'))) :
    tVar i σ H fun y H2 => tC (.str x) σ H2 fun z H3 => ∃ a H4, y = .ref a ∧ DPut H3 a z v H4 ∧ D.nx σ H4 :=
  ⟨.ref d, hi, d, upd H d (.dK kvs'), rfl, by rw [← hp]; exact DPut.k (k := Sum.inr x) h hl, q⟩
/-- the slots at the entry of a def of n names -/
def sN (n : Nat) (vs : List V) : St := vs.map some ++ List.replicate (n - vs.length) none
abbrev EndsQ (Q : VK) : Ends := { nx := fun _ H' => Q .non H', rt := Q }
abbrev FnP (K : PySem.W.Frag) (x : Str) (st : Stmt) (f : Addr) (fd : FuncData) : Prop := FunD K x x (defArgs st) (defBody st) (defScope st) [] [] f fd
/-! ### _law_draw -/
/-- a draw by n: some number from 0 on below n; the deal goes on, all else stands -/
def sp_draw : Sp := fun vs H Q _ => ∃ (d l : Addr) (n : Int), vs = [.ref d, .int n] ∧ 0 < n ∧ n < 2 ^ 200 ∧ Deal H d l ∧
  ∀ (k : Int) (H' : Hp), 0 ≤ k → k < n → But [d, l] H H' → Deal H' d l → Q (.int k) H'
def t_draw (K : PySem.W.Frag) : TS :=
  tSeq (tWhile (tAnd (tTest (tOp rEq (tDGet (tVar 0) (tC (.str "now"))) (tC (.int 0)))) (tTest (tOp qGt (tCB (qLen K) (tCons (tDGet (tVar 0) (tC (.str "left"))) (tNil))) (tC (.int 0))))) (sDPut (tVar 0) (tC (.str "now")) (tBM0 K "list" rPop (tDGet (tVar 0) (tC (.str "left"))))))
    (tSeq (tIfS (tTest (tOp qGt (tDGet (tVar 0) (tC (.str "now"))) (tC (.int 0)))) (tSeq (tAsg (tOp qMod (tDGet (tVar 0) (tC (.str "now"))) (tVar 1)) (gName 4))
    (tSeq (sDPut (tVar 0) (tC (.str "now")) (tOp qFdivW (tDGet (tVar 0) (tC (.str "now"))) (tVar 1)))
    (tRet (tVar 4)))) (tNext))
    (tSeq (sDPut (tVar 0) (tC (.str "many")) (tOp qAdd (tDGet (tVar 0) (tC (.str "many"))) (tC (.int 1))))
    (tSeq (tAsg (tOp qMod (tOp qMul (tOp qAdd (tDGet (tVar 0) (tC (.str "seed"))) (tOp qMul (tC (.int 40692)) (tDGet (tVar 0) (tC (.str "many"))))) (tC (.int 48271))) (tC (.int 2147483629))) (gName 2))
    (tSeq (tAsg (tOp qMod (tOp qAdd (tOp qAdd (tOp qMul (tVar 2) (tVar 2)) (tOp qMul (tC (.int 7919)) (tDGet (tVar 0) (tC (.str "many"))))) (tDGet (tVar 0) (tC (.str "seed")))) (tC (.int 2147483563))) (gName 3))
    (tRet (tOp qMod (tOp qFdiv (tOp qAdd (tOp qMul (tOp qMod (tOp qMul (tVar 3) (tVar 3)) (tC (.int 2147483647))) (tC (.int 30103))) (tVar 2)) (tC (.int 4096))) (tVar 1)))))))
theorem ifd {p A B : Prop} [Decidable p] (h1 : p → A) (h2 : ¬ p → B) : if decide p = true then A else B := by
  by_cases c : p
  · rw [if_pos (decide_eq_true c)]
    exact h1 c
  · rw [if_neg (by simpa using c)]
    exact h2 c
theorem mp {j : Int} (h : decide (0 < j) = true) : 0 < j := of_decide_eq_true h
theorem cm_mod {a b j : Int} (h : decide (0 < b) = true) (h2 : decide (b ≤ 2 ^ 64) = true) : CMul (a % b) j := by
  have h1 := of_decide_eq_true h
  have h2 := of_decide_eq_true h2
  have h3 := Int.emod_nonneg a (show b ≠ 0 by omega)
  have h4 := Int.emod_lt_of_pos a h1
  exact .inl ⟨by omega, by omega⟩
theorem len4 {s m n : Int} {l : Addr} : (dealK s m n l).length < sizeLine := by show 4 < sizeLine; decide
theorem mod_lt {a b : Int} (h : 0 < b) : 0 ≤ a % b ∧ a % b < b := ⟨Int.emod_nonneg _ (by omega), Int.emod_lt_of_pos _ h⟩
theorem pure_draw {K : PySem.W.Frag} (vs : List V) (H : Hp) (Q : VK) (E : XK) (h : sp_draw vs H Q E) : t_draw K (EndsQ Q) (sN 5 vs) H := by
  obtain ⟨d, l, n, rfl, hn, hn2, hD, k⟩ := h
  show t_draw K _ [some (.ref d), some (.int n), none, none, none] H
  -- the loop: the deal stands, all else too
  refine ⟨fun m σ H1 => σ = [some (.ref d), some (.int n), none, none, none] ∧ But [d, l] H H1 ∧ ∃ (s t n1 : Int) (ns : List Int), H1 d = some (.dK (dealK s t n1 l)) ∧ H1 l = some (.lst (ns.map V.int)) ∧ 0 ≤ n1 ∧ (∀ x ∈ ns, 0 ≤ x) ∧ m = ns.length, ?_, ?_⟩
  · obtain ⟨s, t, n1, ns, h1, h2, h3, h4⟩ := hD.ex
    exact ⟨_, rfl, .refl _ _, s, t, n1, ns, h1, h2, h3, h4, rfl⟩
  rintro m σ H1 ⟨rfl, hB, s, t, n1, ns, h1, h2, h3, h4, rfl⟩
  have hne : d ≠ l := ne_of h1 h2 (by intro z; cases z)
  refine rd_dk h1 rfl dk_now ⟨rfl, _, rfl, ?_⟩
  have after : ∀ ns : List Int, H1 l = some (.lst (ns.map V.int)) → (∀ x ∈ ns, 0 ≤ x) → tSeq (tIfS (tTest (tOp qGt (tDGet (tVar 0) (tC (.str "now"))) (tC (.int 0)))) (tSeq (tAsg (tOp qMod (tDGet (tVar 0) (tC (.str "now"))) (tVar 1)) (gName 4))
    (tSeq (sDPut (tVar 0) (tC (.str "now")) (tOp qFdivW (tDGet (tVar 0) (tC (.str "now"))) (tVar 1)))
    (tRet (tVar 4)))) (tNext))
    (tSeq (sDPut (tVar 0) (tC (.str "many")) (tOp qAdd (tDGet (tVar 0) (tC (.str "many"))) (tC (.int 1))))
    (tSeq (tAsg (tOp qMod (tOp qMul (tOp qAdd (tDGet (tVar 0) (tC (.str "seed"))) (tOp qMul (tC (.int 40692)) (tDGet (tVar 0) (tC (.str "many"))))) (tC (.int 48271))) (tC (.int 2147483629))) (gName 2))
    (tSeq (tAsg (tOp qMod (tOp qAdd (tOp qAdd (tOp qMul (tVar 2) (tVar 2)) (tOp qMul (tC (.int 7919)) (tDGet (tVar 0) (tC (.str "many"))))) (tDGet (tVar 0) (tC (.str "seed")))) (tC (.int 2147483563))) (gName 3))
    (tRet (tOp qMod (tOp qFdiv (tOp qAdd (tOp qMul (tOp qMod (tOp qMul (tVar 3) (tVar 3)) (tC (.int 2147483647))) (tC (.int 30103))) (tVar 2)) (tC (.int 4096))) (tVar 1))))))
      { nx := fun _ H' => Q .non H', rt := Q } [some (.ref d), some (.int n), none, none, none] H1 := by
    intro ns h2 h4
    refine rd_dk h1 rfl dk_now ⟨_, _, rfl, rfl, _, rfl, ?_⟩
    refine ifd (fun c => ?_) (fun c => ?_)
    · refine rd_dk h1 rfl dk_now ⟨_, rfl, _, _, rfl, rfl, hn, ?_⟩
      refine rd_dk h1 rfl dk_now ⟨_, rfl, _, _, rfl, rfl, wide_div hn (b := 200) (by omega) (by decide) (by decide), ?_⟩
      refine wr_dk h1 rfl len4 dk_putNow ⟨_, rfl, ?_⟩
      obtain ⟨m1, m2⟩ := mod_lt (a := n1) hn
      refine k _ _ m1 m2 (hB.trans fun a o ha e => ?_) ⟨s, t, n1 / n, ns, upd_same, ?_, Int.ediv_nonneg h3 (by omega), h4⟩
      · rw [upd_ne (by intro z; subst z; exact ha List.mem_cons_self)]
        exact e
      · rw [upd_ne (Ne.symm hne)]
        exact h2
    · refine rd_dk h1 rfl dk_many ⟨_, _, rfl, rfl, ?_⟩
      refine wr_dk h1 rfl len4 dk_putMany ?_
      refine rd_dk upd_same rfl dk_seed ?_
      refine rd_dk upd_same rfl dk_many ⟨_, _, rfl, rfl, .inl ⟨by decide, by decide⟩, _, _, rfl, rfl, _, _, rfl, rfl, .inr ⟨by decide, by decide⟩, _, _, rfl, rfl, mp rfl, ?_⟩
      refine ⟨_, rfl, _, rfl, _, _, rfl, rfl, cm_mod rfl rfl, ?_⟩
      refine rd_dk upd_same rfl dk_many ⟨_, _, rfl, rfl, .inl ⟨by decide, by decide⟩, _, _, rfl, rfl, ?_⟩
      refine rd_dk upd_same rfl dk_seed ⟨_, _, rfl, rfl, _, _, rfl, rfl, mp rfl, ?_⟩
      refine ⟨_, rfl, _, rfl, _, _, rfl, rfl, cm_mod rfl rfl, _, _, rfl, rfl, mp rfl, _, _, rfl, rfl, cm_mod rfl rfl, _, rfl, _, _, rfl, rfl, _, _, rfl, rfl, ⟨by decide, by decide⟩, _, rfl, _, _, rfl, rfl, hn, ?_⟩
      refine k _ _ (mod_lt hn).1 (mod_lt hn).2 (hB.trans fun a o ha e => ?_) ⟨s, t + 1, n1, ns, upd_same, ?_, h3, h4⟩
      · rw [upd_ne (by intro z; subst z; exact ha List.mem_cons_self)]
        exact e
      · rw [upd_ne (Ne.symm hne)]
        exact h2
  refine ifd (fun c => ?_) (fun c => ?_)
  · refine rd_dk h1 rfl dk_left ⟨_, (ns.map V.int).length, rfl, .inl ⟨_, SqL.of h2, rfl⟩, _, _, rfl, rfl, _, rfl, ?_⟩
    refine ifd (fun c2 => ?_) (fun c2 => ?_)
    · refine ⟨fun σ' H' => ∃ m', m' < ns.length ∧ _, fun _ _ h => h, ?_⟩
      have hpos : ns ≠ [] := by
        rintro rfl
        exact absurd c2 (by decide)
      refine rd_dk h1 rfl dk_left ⟨.inl ⟨rfl, _, SqL.of h2⟩, l, ns.map V.int, .int (ns.getLast hpos), rfl, rfl, h2, ?_, ?_⟩
      · rw [List.getElem?_map, List.length_map, ← List.getLast?_eq_getElem?, List.getLast?_eq_some_getLast hpos] <;> rfl
      · refine wr_dk (by rw [upd_ne hne]; exact h1) rfl len4 dk_putNow ⟨ns.length - 1, ?_, rfl, ?_, s, t, ns.getLast hpos, ns.dropLast, upd_same, ?_, h4 _ (List.getLast_mem hpos), fun x hx => h4 x ((List.dropLast_sublist ns).subset hx), by rw [List.length_dropLast]⟩
        · have := List.length_pos_iff.mpr hpos
          omega
        · intro a o ha e
          have h1' := hB a o ha e
          rw [upd_ne (by intro z; subst z; exact ha List.mem_cons_self), upd_ne (by intro z; subst z; exact ha (by simp))]
          exact h1'
        · rw [upd_ne (Ne.symm hne), upd_same, List.map_dropLast]
    · exact after ns h2 h4
  · exact after ns h2 h4
end Wf
/-! list(zip(t, u)), t and u tuples -/
namespace Wf
open PySem PySem.Spec
end Wf
/-! Defs that are called where no repr is under way (guards are none): for the text that repr gives. -/
namespace Wf
open PySem PySem.Spec L2
section
variable {P : Program} {w : World} {K : PySem.W.Frag} {mg : Str → Option Value} {base : Heap} {CX : CXT} {k : Nat} {f : Addr} {fd : FuncData} {ps : List Str} {sp : Sp}
structure FnG (P : Program) (w : World) (K : PySem.W.Frag) (mg : Str → Option Value) (base : Heap) (CX : CXT) (k : Nat) (f : Addr) (fd : FuncData) (ps : List Str) (sp : Sp) : Prop where
  len : ∀ vs H Q E, sp vs H Q E → vs.length = ps.length
  run : ∀ (A : Around), A.guards = some [] → ∀ (outer : List Env) (s : Shared) (H : Hp) (args : Args) (us : List Value) (vs : List V) (Q : VK) (E : XK), Room k A → Env0 P w K mg base A outer s H →
    BindsTo s fd args (ps.zip us) → Vals vs us → sp vs H Q E → codeAny (model P w) A (.call (.ref f) args) (CR CX outer P w H s Q E) s
theorem FnG.of (F : FnOk P w K mg base CX k f fd ps sp) : FnG P w K mg base CX k f fd ps sp := ⟨F.len, fun A _ => F.run A⟩
end
/-! ### such a def called by its name -/
/-! ### repr of data -/
/-! ### the end of a law whose def wants that no guard is -/
end Wf
/-! Data that never changes (None, truths, whole numbers, texts, tuples), and _law_alike. -/
namespace Wf
open PySem PySem.Spec L2
/-! ### what stands in tuples stays -/
def Tp (K : PySem.W.Frag) (H H' : Hp) : Prop := ∀ a xs, SqT K H a xs → SqT K H' a xs
theorem Tp.refl (K : PySem.W.Frag) (H : Hp) : Tp K H H := fun _ _ h => h
theorem Tp.trans {K : PySem.W.Frag} {H H1 H2 : Hp} (a : Tp K H H1) (b : Tp K H1 H2) : Tp K H H2 := fun x xs h => b x xs (a x xs h)
theorem Same.tp {K : PySem.W.Frag} {H H' : Hp} (s : Same H H') : Tp K H H' := fun a xs h => by
  rcases h with (h | ⟨o, h⟩) | h
  · exact .inl (.inl (s _ _ h))
  · exact .inl (.inr ⟨o, s _ _ h⟩)
  · exact .inr h
theorem same_new {H : Hp} {p : Addr} {o : HO} (h : H p = none) : Same H (upd H p o) := fun a u e => by
  rw [upd_ne (ne_of_none e h)]
  exact e
def NoT (H : Hp) (d : Addr) : Prop := ∀ xs, ¬ Rd H d (.tup xs)
theorem not_lst {H : Hp} {d : Addr} {ys : List V} (h : H d = some (.lst ys)) : NoT H d := fun xs r => by
  rcases r with r | ⟨o, r⟩ <;> rw [h] at r <;> cases r
theorem not_dK {H : Hp} {d : Addr} {ys : List (Key × V)} (h : H d = some (.dK ys)) : NoT H d := fun xs r => by
  rcases r with r | ⟨o, r⟩ <;> rw [h] at r <;> cases r
theorem But.tp {K : PySem.W.Frag} {ds : List Addr} {H H' : Hp} (b : But ds H H') (hd : ∀ d ∈ ds, NoT H d) : Tp K H H' := fun a xs h => by
  rcases h with h | h
  · have ha : a ∉ ds := fun z => hd a z xs h
    rcases h with h | ⟨o, h⟩
    · exact .inl (.inl (b _ _ ha h))
    · exact .inl (.inr ⟨o, b _ _ ha h⟩)
  · exact .inr h
theorem tp_upd {K : PySem.W.Frag} {H : Hp} {d : Addr} {o : HO} (h : NoT H d) : Tp K H (upd H d o) := But.tp (ds := [d]) (fun a u ha e => by
  rw [upd_ne (by intro z; subst z; exact ha List.mem_cons_self)]
  exact e) fun x hx => by
    rw [List.mem_singleton.mp hx]
    exact h
mutual
def noL : PyData → Bool
  | .none | .bool _ | .int _ => true
  | .str x => PyData.canLay0 (.str x)
  | .tuple ds => noLAll ds
  | .list _ | .dict _ => false
def noLAll : List PyData → Bool
  | [] => true
  | d :: ds => noL d && noLAll ds
end
section
variable {K : PySem.W.Frag} {H H' : Hp}
mutual
theorem Dp.tp (t : Tp K H H') : ∀ (d : PyData) (v : V), noL d = true → Dp K H v d → Dp K H' v d
  | .none, _, _, h => by cases h; exact .non
  | .bool b, _, _, h => by cases h; exact .bl b
  | .int i, _, _, h => by cases h; exact .int i
  | .str x, _, _, h => by cases h; exact .str x
  | .list _, _, n, _ => nomatch n
  | .dict _, _, _, h => by cases h
  | .tuple ds, _, n, h => by
    cases h with
    | tup hs ha => exact .tup (t _ _ hs) (DpAll.tp t ds _ n ha)
theorem DpAll.tp (t : Tp K H H') : ∀ (ds : List PyData) (vs : List V), noLAll ds = true → DpAll K H vs ds → DpAll K H' vs ds
  | [], _, _, h => by cases h; exact .nil
  | d :: ds, _, n, h => by
    have n2 : (noL d && noLAll ds) = true := n
    rw [Bool.and_eq_true] at n2
    cases h with
    | cons h1 h2 => exact .cons (Dp.tp t d _ n2.1 h1) (DpAll.tp t ds _ n2.2 h2)
end
theorem DpAll.len : ∀ {vs : List V} {ds : List PyData}, DpAll K H vs ds → vs.length = ds.length
  | _, _, .nil => rfl
  | _, _, .cons _ h => congrArg (· + 1) (DpAll.len h)
theorem DpAll.get : ∀ {vs : List V} {ds : List PyData} {i : Nat} {d : PyData}, DpAll K H vs ds → ds[i]? = some d → ∃ v, vs[i]? = some v ∧ Dp K H v d
  | _, _, _, _, .nil, e => by simp at e
  | _, _, 0, _, .cons h _, e => by simp at e; subst e; exact ⟨_, rfl, h⟩
  | _, _, i + 1, _, .cons _ h, e => by
    obtain ⟨v, e1, e2⟩ := DpAll.get (i := i) h (by simpa using e)
    exact ⟨v, by simpa using e1, e2⟩
theorem DpAll.append : ∀ {vs ws : List V} {ds es : List PyData}, DpAll K H vs ds → DpAll K H ws es → DpAll K H (vs ++ ws) (ds ++ es)
  | _, _, _, _, .nil, h => h
  | _, _, _, _, .cons h1 h2, h => .cons h1 (DpAll.append h2 h)
/-! ### isinstance of data -/
def tyN : PyData → String
  | .none => "NoneType" | .bool _ => "bool" | .int _ => "int" | .str _ => "str" | .tuple _ => "tuple" | .list _ => "list" | .dict _ => "dict"
theorem Dp.ty {d : PyData} {v : V} (n : noL d = true) (h : Dp K H v d) : TyX K H v (.type (tyN d)) := by
  cases h with
  | non => exact .base .non
  | bl b => exact .base (.bl b)
  | int i => exact .base (.int i)
  | str x => exact .base (.str x)
  | lst hs ha => exact nomatch n
  | tup hs ha =>
    rcases hs with (h | ⟨o, h⟩) | ⟨o, its, m, hk, hc, _⟩
    · exact .base (.tup h)
    · exact .fTuple h
    · exact .kTuple hk hc
end
/-! ### _law_alike: the same data twice -/
/-- a pair that waits: where it stands, both, and what both are -/
structure Wt (K : PySem.W.Frag) (H : Hp) (p : Addr) (a b : V) (d : PyData) : Prop where
  at_ : H p = some (.tup [a, b])
  one : Dp K H a d
  two : Dp K H b d
  no : noL d = true
theorem Wt.tp {K : PySem.W.Frag} {H H' : Hp} {p : Addr} {a b : V} {d : PyData} (w : Wt K H p a b d) (t : Tp K H H') (h : H' p = some (.tup [a, b])) : Wt K H' p a b d := ⟨h, Dp.tp t d a w.no w.one, Dp.tp t d b w.no w.two, w.no⟩
end Wf
/-! The books that the draws make. -/
namespace Wf
open PySem PySem.Spec L2
def dP (p : Int × Int) : PyData := .tuple [.int p.1, .int p.2]
theorem noL_dP (p : Int × Int) : noL (dP p) = true := rfl
theorem dP_new {K : PySem.W.Frag} {H : Hp} {p : Addr} {x y : Int} (h : H p = some (.tup [.int x, .int y])) : Dp K H (.ref p) (dP (x, y)) := .tup (SqT.of h) (.cons (.int x) (.cons (.int y) .nil))
/-! ### _law_pair -/
def pairF (f s : Int) (st : Int × Int) (a b : Int) : Int × Int :=
  if f = 0 then (b, a) else if f = 1 then (a, b) else if f = 2 then ((if b < a then b else a), (if b > a then b else a)) else if f = 3 then (b, (2 * b - a) % s) else ((b + st.2) % s, (a + st.1) % s)
theorem atI_neg1 {α : Type} {xs : List α} (h : 0 < xs.length) : atI xs (-1) = xs[xs.length - 1]? := by
  have e : ixN xs.length (-1) = some (xs.length - 1) := by
    unfold ixN
    rw [if_neg (by decide), if_pos (by omega)]
    congr 1
    omega
  unfold atI
  rw [e]
  rfl
/-! ### _law_paces -/
def scan (f : Int) : List Int → List Int
  | [] => [f]
  | n :: ns => f :: scan (f + n) ns
theorem scan_len : ∀ (f : Int) (ns : List Int), (scan f ns).length = ns.length + 1
  | _, [] => rfl
  | f, n :: ns => by simp [scan, scan_len (f + n) ns]
theorem scan_app : ∀ (f : Int) (ns : List Int) (n : Int), scan f (ns ++ [n]) = scan f ns ++ [f + ns.sum + n]
  | f, [], n => by simp [scan]
  | f, m :: ns, n => by
    rw [List.cons_append, scan, scan_app (f + m) ns n, scan, List.cons_append, List.sum_cons]
    congr 3
    omega
theorem scan_last : ∀ (f : Int) (ns : List Int), (scan f ns)[ns.length]? = some (f + ns.sum)
  | f, [] => by simp [scan]
  | f, m :: ns => by
    rw [scan, List.length_cons, List.getElem?_cons_succ, scan_last (f + m) ns, List.sum_cons]
    congr 1
    omega
theorem sum_bounds : ∀ {ns : List Int} {B : Int}, (∀ x ∈ ns, 1 ≤ x ∧ x ≤ B) → (ns.length : Int) ≤ ns.sum ∧ ns.sum ≤ ns.length * B
  | [], _, _ => by simp
  | n :: ns, B, h => by
    have h1 := h n List.mem_cons_self
    have h2 := sum_bounds (fun x hx => h x (List.mem_cons_of_mem _ hx))
    rw [List.sum_cons, List.length_cons]
    have e : ((ns.length + 1 : Nat) : Int) * B = ns.length * B + B := by rw [Int.natCast_add, Int.add_mul]; simp
    rw [e]
    constructor <;> omega
theorem scan_mem : ∀ {ns : List Int} {f x : Int}, (∀ y ∈ ns, 1 ≤ y) → x ∈ scan f ns → f ≤ x ∧ x ≤ f + ns.sum
  | [], f, x, _, h => by
    simp [scan] at h
    simp
    omega
  | n :: ns, f, x, hn, h => by
    have h1 := hn n List.mem_cons_self
    have hn' : ∀ y ∈ ns, 1 ≤ y := fun y hy => hn y (List.mem_cons_of_mem _ hy)
    have hs : 0 ≤ ns.sum := by
      clear h hn
      induction ns with
      | nil => simp
      | cons m ms ih =>
        have := hn' m List.mem_cons_self
        have := ih fun y hy => hn' y (List.mem_cons_of_mem _ hy)
        rw [List.sum_cons]
        omega
    rw [List.sum_cons]
    rcases List.mem_cons.mp h with rfl | h
    · constructor <;> omega
    · have := scan_mem hn' h
      constructor <;> omega
theorem scan_rise : ∀ {ns : List Int} {f : Int}, (∀ y ∈ ns, 1 ≤ y) → (scan f ns).Pairwise (· < ·)
  | [], f, _ => by simp [scan]
  | n :: ns, f, hn => by
    have h1 := hn n List.mem_cons_self
    have hn' : ∀ y ∈ ns, 1 ≤ y := fun y hy => hn y (List.mem_cons_of_mem _ hy)
    rw [scan, List.pairwise_cons]
    refine ⟨fun x hx => ?_, scan_rise hn'⟩
    have := scan_mem hn' hx
    omega
structure PacesOk (m : Int) (ps : List Int) : Prop where
  len : (ps.length : Int) = m
  rise : ps.Pairwise (· < ·)
  lo : ∀ p ∈ ps, -1000 ≤ p ∧ p ≤ 1000
def dI (ps : List Int) : PyData := .tuple (ps.map .int)
theorem dp_ints {K : PySem.W.Frag} {H : Hp} : ∀ ns : List Int, DpAll K H (ns.map V.int) (ns.map PyData.int)
  | [] => .nil
  | n :: ns => .cons (.int n) (dp_ints ns)
theorem noLAll_ints : ∀ ns : List Int, noLAll (ns.map PyData.int) = true
  | [] => rfl
  | n :: ns => by simp [noLAll, noL, noLAll_ints ns]
def sp_paces (K : PySem.W.Frag) : Sp := fun vs H Q _ => ∃ (d l : Addr) (m : Int), vs = [.ref d, .int m] ∧ 1 ≤ m ∧ m ≤ 5 ∧ Deal H d l ∧
  ∀ (v : V) (ps : List Int) (H' : Hp), But [d, l] H H' → Deal H' d l → Dp K H' v (dI ps) → PacesOk m ps → Q v H'
theorem Deal.ne {H : Hp} {d l p : Addr} (h : Deal H d l) (hp : H p = none) : p ≠ d ∧ p ≠ l := by
  obtain ⟨s, m, n, ns, h1, h2, _⟩ := h.ex
  exact ⟨fun e => (by rw [e, h1] at hp; cases hp), fun e => (by rw [e, h2] at hp; cases hp)⟩
theorem But.at {H H' : Hp} {d l p : Addr} {o : HO} (b : But [d, l] H H') (n : p ≠ d ∧ p ≠ l) (h : H p = some o) : H' p = some o := b p o (by simp [n.1, n.2]) h
theorem But.new {ds : List Addr} {H H' : Hp} {p : Addr} {o : HO} (b : But ds H H') (hp : H p = none) : But ds H (upd H' p o) := fun a u n e => by
  rw [upd_ne (ne_of_none e hp)]
  exact b a u n e
theorem Deal.upd {H : Hp} {d l p : Addr} {o : HO} (h : Deal H d l) (n : p ≠ d ∧ p ≠ l) : Deal (upd H p o) d l := by
  obtain ⟨s, m, k, ns, h1, h2, h3⟩ := h.ex
  exact ⟨s, m, k, ns, by rw [upd_ne (Ne.symm n.1)]; exact h1, by rw [upd_ne (Ne.symm n.2)]; exact h2, h3⟩
theorem Deal.noT {H : Hp} {d l : Addr} (h : Deal H d l) : ∀ x ∈ [d, l], NoT H x := by
  obtain ⟨s, m, k, ns, h1, h2, h3⟩ := h.ex
  intro x hx
  rcases List.mem_cons.mp hx with rfl | hx
  · exact not_dK h1
  · rw [List.mem_singleton.mp hx]
    exact not_lst h2
def t_paces (K : PySem.W.Frag) (sp_draw : Sp) : TS :=
  tSeq (tAsg (tLst (tCons (tC (.int 2)) (tCons (tC (.int 9)) (tCons (tC (.int 400)) (tCons (tOp qFdiv (tC (.int 2000)) (tCB (qMax2) (tCons (tC (.int 1)) (tCons (tOp qSub (tVar 1) (tC (.int 1))) (tNil))))) (tNil)))))) (gName 2))
    (tSeq (tAsg (tLc (iRng1 (tCons (tOp qSub (tVar 1) (tC (.int 1))) (tNil))) (gName 6) (tYes) (tOp qAdd (tC (.int 1)) (tCall sp_draw [] E0 (tCons (tVar 0) (tCons (tOp (rIxL K) (tVar 2) (tCall sp_draw [] E0 (tCons (tVar 0) (tCons (tC (.int 4)) (tNil))))) (tNil))))) [6]) (gName 3))
    (tSeq (tAsg (tLst (tCons (tOp qSub (tCall sp_draw [] E0 (tCons (tVar 0) (tCons (tOp qSub (tC (.int 2001)) (tCB (rSum K) (tCons (tVar 3) (tNil)))) (tNil)))) (tC (.int 1000))) (tNil))) (gName 4))
    (tSeq (tFor (iList K (tVar 3)) (gName 5) (tDrop (tBM K "list" rAppend (tVar 4) (tCons (tOp qAdd (tOp (rIxL K) (tVar 4) (tUn qNeg (tC (.int 1)))) (tVar 5)) (tNil)))))
    (tRet (tCB (qTupleOf K) (tCons (tVar 4) (tNil)))))))
theorem pure_paces {K : PySem.W.Frag} (vs : List V) (H : Hp) (Q : VK) (E : XK) (h : sp_paces K vs H Q E) : t_paces K sp_draw (EndsQ Q) (sN 7 vs) H := by
  obtain ⟨d, l, m, rfl, m1, m5, hD, k⟩ := h
  show t_paces K sp_draw _ [some (.ref d), some (.int m), none, none, none, none, none] H
  have hM : 1 ≤ (if m - 1 > 1 then m - 1 else 1) ∧ (if m - 1 > 1 then m - 1 else 1) ≤ 4 := by split <;> omega
  generalize hMe : (if m - 1 > 1 then m - 1 else 1) = M at hM
  refine ⟨_, rfl, _, _, rfl, rfl, _, _, rfl, ?_⟩
  rw [hMe]
  refine ⟨_, _, rfl, rfl, ⟨by omega, by omega⟩, (by show 4 ≤ sizeLine; decide), fun W hW => ?_⟩
  have nW := hD.ne hW
  refine ⟨_, rfl, _, _, rfl, rfl, m - 1, rfl, by omega, by omega, fun D hDn => ?_⟩
  have hDW : W ≠ D := ne_of_none upd_same hDn
  have hD0 : H D = none := by rw [upd_ne (Ne.symm hDW)] at hDn; exact hDn
  have nD := hD.ne hD0
  have hB : 500 ≤ 2000 / M ∧ (m - 1) * (2000 / M) ≤ 2000 ∧ 2000 / M ≤ 2000 := by
    have hm : m = 1 ∨ m = 2 ∨ m = 3 ∨ m = 4 ∨ m = 5 := by omega
    rcases hm with rfl | rfl | rfl | rfl | rfl <;> (simp at hMe; subst hMe; decide)
  obtain ⟨B, hBe⟩ : ∃ B, B = 2000 / M := ⟨_, rfl⟩
  rw [← hBe] at hB
  refine lc_range (lo := 0) (n := (m - 1).toNat) (fun i H1 => But [d, l] H H1 ∧ Deal H1 d l ∧ H1 W = some (.lst [.int 2, .int 9, .int 400, .int B]) ∧ ∃ ns : List Int, H1 D = some (.lst (ns.map V.int)) ∧ ns.length = i ∧ ∀ x ∈ ns, 1 ≤ x ∧ x ≤ B) ?_ ?_ ?_
  · exact ⟨((But.refl _ _).new hW).new hD0, (hD.upd nW).upd nD, by rw [upd_ne hDW, hBe]; exact upd_same, [], upd_same, rfl, fun x hx => (List.not_mem_nil hx).elim⟩
  · rintro i H1 hi ⟨b1, d1, w1, ns, l1, ln, hns⟩
    refine ⟨rfl, ?_⟩
    simp only [tYes, ↓reduceIte]
    refine ⟨_, rfl, _, rfl, _, rfl, d, l, 4, rfl, by decide, by decide, d1, fun q H2 q0 q4 b2 d2 => ?_⟩
    have w2 := b2.at nW w1
    have l2 := b2.at nD l1
    have hq : ∃ z, atI [V.int 2, .int 9, .int 400, .int B] q = some (.int z) ∧ 1 ≤ z ∧ z ≤ B := by
      have hq : q = 0 ∨ q = 1 ∨ q = 2 ∨ q = 3 := by omega
      rcases hq with rfl | rfl | rfl | rfl
      · exact ⟨2, rfl, by omega, by omega⟩
      · exact ⟨9, rfl, by omega, by omega⟩
      · exact ⟨400, rfl, by omega, by omega⟩
      · exact ⟨B, rfl, by omega, by omega⟩
    obtain ⟨z, hz, z1, zB⟩ := hq
    refine ⟨W, _, q, .int z, rfl, rfl, SqL.of w2, hz, d, l, z, rfl, by omega, ?_, d2, fun r H3 r0 r1 b3 d3 => ?_⟩
    · omega
    have w3 := b3.at nW w2
    have l3 := b3.at nD l2
    refine ⟨_, _, rfl, rfl, _, l3, ?_, ?_⟩
    · rw [List.length_map, ln]
      exact Nat.lt_of_le_of_lt (show i ≤ 4 by omega) (by decide)
    · refine ⟨((b1.trans b2).trans b3).new hD0, d3.upd nD, by rw [upd_ne hDW]; exact w3, ns ++ [1 + r], ?_, by simp [ln], fun x hx => ?_⟩
      · rw [upd_same, List.map_append]
        rfl
      · rcases List.mem_append.mp hx with hx | hx
        · exact hns x hx
        · rw [List.mem_singleton.mp hx]
          omega
  · rintro H1 ⟨b1, d1, w1, ns, l1, ln, hns⟩
    have hsum := sum_bounds hns
    have hln : (ns.length : Int) = m - 1 := by omega
    rw [hln] at hsum
    refine ⟨_, rfl, _, rfl, D, ns, rfl, SqL.of l1, _, _, rfl, rfl, d, l, _, rfl, by omega, by omega, d1, fun r H2 r0 r1 b2 d2 => ?_⟩
    refine ⟨_, _, rfl, rfl, (by show 1 ≤ sizeLine; decide), fun F hF => ?_⟩
    have l2 := b2.at nD l1
    have hFD : F ≠ D := fun z => by rw [z, l2] at hF; cases hF
    have nF := d2.ne hF
    have hF0 : H F = none := by
      cases e : H F with
      | none => rfl
      | some o => rw [b2.at nF (b1.at nF e)] at hF; cases hF
    have hne1 : ∀ x ∈ ns, 1 ≤ x := fun x hx => (hns x hx).1
    refine ⟨_, rfl, D, rfl, ⟨_, SqL.of (by rw [upd_ne (Ne.symm hFD)]; exact l2)⟩, for_list (K := K) (a := D) (xs := ns.map V.int) (fun i σ H3 => ∃ s5 : Option V, σ = [some (.ref d), some (.int m), some (.ref W), some (.ref D), some (.ref F), s5, none] ∧ But [d, l] H H3 ∧ Deal H3 d l ∧ H3 D = some (.lst (ns.map V.int)) ∧ H3 F = some (.lst ((scan (r - 1000) (ns.take i)).map V.int))) ?_ ?_ ?_ ?_⟩
    · exact ⟨_, rfl, (b1.trans b2).new hF0, d2.upd nF, by rw [upd_ne (Ne.symm hFD)]; exact l2, upd_same⟩
    · rintro i σ H3 _ ⟨_, _, _, _, h3, _⟩
      exact SqL.of h3
    · rintro i x σ H3 hx ⟨s5, rfl, b3, d3, l3, f3⟩
      rw [List.getElem?_map] at hx
      obtain ⟨z, hz, rfl⟩ := Option.map_eq_some_iff.mp hx
      have hlt : i < ns.length := (List.getElem?_eq_some_iff.mp hz).1
      have etk : ns.take (i + 1) = ns.take i ++ [z] := by rw [List.take_add_one, hz]; rfl
      have elen : (ns.take i).length = i := by rw [List.length_take]; omega
      have eat : atI ((scan (r - 1000) (ns.take i)).map V.int) (-1) = some (.int (r - 1000 + (ns.take i).sum)) := by
        rw [atI_neg1 (by rw [List.length_map, scan_len]; exact Nat.succ_pos _), List.getElem?_map, List.length_map, scan_len, Nat.add_sub_cancel, scan_last]
        rfl
      refine ⟨_, rfl, .inl ⟨rfl, _, SqL.of f3⟩, _, rfl, _, rfl, F, _, -1, _, rfl, rfl, SqL.of f3, eat, _, rfl, _, _, rfl, rfl, F, _, _, rfl, rfl, f3, ?_, ?_⟩
      · rw [List.length_map, scan_len, elen]
        exact Nat.lt_of_le_of_lt (show i + 1 ≤ 5 by omega) (by decide)
      · refine ⟨some (.int z), rfl, b3.new hF0, d3.upd nF, by rw [upd_ne (Ne.symm hFD)]; exact l3, ?_⟩
        rw [upd_same, etk, scan_app, List.map_append]
        rfl
    · rintro σ H3 ⟨s5, rfl, b3, d3, l3, f3⟩
      rw [List.length_map, List.take_length] at f3
      refine ⟨_, rfl, F, _, rfl, .inl ⟨SqL.of f3, fun T hT => ?_⟩⟩
      have nT := d3.ne hT
      have hT0 : H T = none := by
        cases e : H T with
        | none => rfl
        | some o => rw [b3.at nT e] at hT; cases hT
      refine k _ (scan (r - 1000) ns) _ (b3.new hT0) (d3.upd nT) (.tup (SqT.of upd_same) (dp_ints _)) ⟨by rw [scan_len]; omega, scan_rise hne1, fun p hp => ?_⟩
      have := scan_mem hne1 hp
      omega
theorem erase_map {α β : Type} (f : α → β) : ∀ (l : List α) (k : Nat), (l.eraseIdx k).map f = (l.map f).eraseIdx k
  | [], _ => rfl
  | _ :: _, 0 => rfl
  | x :: l, k + 1 => by simp [erase_map f l k]
theorem erase_perm {α : Type} : ∀ {l : List α} {k : Nat} (h : k < l.length), (l[k] :: l.eraseIdx k).Perm l
  | [], _, h => absurd h (Nat.not_lt_zero _)
  | x :: l, 0, _ => .refl _
  | x :: l, k + 1, h => by
    have ih := erase_perm (l := l) (k := k) (by simpa using h)
    simp only [List.getElem_cons_succ, List.eraseIdx_cons_succ]
    exact (List.Perm.swap x _ _).trans (ih.cons x)
/-! ### _law_mixed -/
def iota (n : Int) : List Int := (List.range n.toNat).map fun (i : Nat) => (i : Int)
theorem rgV_iota (n : Int) : rgV 0 n = (iota n).map V.int := by
  unfold rgV iota
  rw [List.map_map, Int.sub_zero]
  apply List.map_congr_left
  intro a _
  show V.int (0 + (a : Int)) = V.int (a : Int)
  rw [Int.zero_add]
def sp_mixed : Sp := fun vs H Q _ => ∃ (d l : Addr) (n : Int), vs = [.ref d, .int n] ∧ 0 ≤ n ∧ n ≤ 1000 ∧ Deal H d l ∧
  ∀ (F : Addr) (ns : List Int) (H' : Hp), But [d, l] H H' → Deal H' d l → H F = none → H' F = some (.lst (ns.map V.int)) → ns.Perm (iota n) → Q (.ref F) H'
theorem But.none_of {H H' : Hp} {d l p : Addr} (b : But [d, l] H H') (n : p ≠ d ∧ p ≠ l) (h : H' p = none) : H p = none := by
  cases e : H p with
  | none => rfl
  | some o => rw [b.at n e] at h; cases h
theorem seqIx {k : Int} {n : Nat} (h0 : 0 ≤ k) (h1 : k < n) : seqIndex? k n = some k.toNat := by
  unfold seqIndex?
  have e : (if k < 0 then k + (n : Int) else k) = k := if_neg (by omega)
  simp only [e]
  rw [if_pos (by simp; omega)]
def t_mixed (K : PySem.W.Frag) (sp_draw : Sp) : TS :=
  tSeq (tPar 3 4 (tCons (tLstRg (tRg1 (tVar 1))) (tCons (tLst (tNil)) (tNil))))
    (tSeq (tFor (iRng1 (tCons (tVar 1) (tNil))) (gName 2) (tDrop (tBM K "list" rAppend (tVar 4) (tCons (tBM K "list" rPopAt (tVar 3) (tCons (tCall sp_draw [] E0 (tCons (tVar 0) (tCons (tCB (qLen K) (tCons (tVar 3) (tNil))) (tNil)))) (tNil))) (tNil)))))
    (tRet (tVar 4)))
theorem pure_mixed {K : PySem.W.Frag} (vs : List V) (H : Hp) (Q : VK) (E : XK) (h : sp_mixed vs H Q E) : t_mixed K sp_draw (EndsQ Q) (sN 5 vs) H := by
  obtain ⟨d, l, n, rfl, n0, n1, hD, k⟩ := h
  show t_mixed K sp_draw _ [some (.ref d), some (.int n), none, none, none] H
  refine ⟨_, rfl, n, rfl, ⟨by decide, by decide, by omega, by omega, by omega⟩, fun L hL => ?_⟩
  rw [rgV_iota]
  refine ⟨(by show 0 ≤ sizeLine; decide), fun F hF => ⟨_, _, rfl, ?_⟩⟩
  have nL := hD.ne hL
  have hLF : L ≠ F := ne_of_none upd_same hF
  have hF0 : H F = none := by rw [upd_ne (Ne.symm hLF)] at hF; exact hF
  have nF := hD.ne hF0
  have li : (iota n).length = n.toNat := by unfold iota; rw [List.length_map, List.length_range]
  refine ⟨_, rfl, n, rfl, by omega, by omega, for_range (lo := 0) (n := n.toNat) (fun i σ H1 => ∃ (s2 : Option V) (ls fs : List Int), σ = [some (.ref d), some (.int n), s2, some (.ref L), some (.ref F)] ∧ But [d, l] H H1 ∧ Deal H1 d l ∧ H1 L = some (.lst (ls.map V.int)) ∧ H1 F = some (.lst (fs.map V.int)) ∧ fs.length = i ∧ (fs ++ ls).Perm (iota n)) ?_ ?_ ?_⟩
  · exact ⟨none, iota n, [], rfl, ((But.refl _ _).new hL).new hF0, (hD.upd nL).upd nF, by rw [upd_ne hLF]; exact upd_same, upd_same, rfl, .refl _⟩
  · rintro i σ H1 hi ⟨s2, ls, fs, rfl, b1, d1, l1, f1, fl, hp⟩
    have hlen : fs.length + ls.length = n.toNat := by rw [← li, ← hp.length_eq, List.length_append]
    refine ⟨_, rfl, .inl ⟨rfl, _, SqL.of f1⟩, _, rfl, .inl ⟨rfl, _, SqL.of l1⟩, _, rfl, _, rfl, _, (ls.map V.int).length, rfl, .inl ⟨_, SqL.of l1, rfl⟩, d, l, _, rfl, by rw [List.length_map]; omega, by rw [List.length_map]; omega, d1, fun q H2 q0 q1 b2 d2 => ?_⟩
    have l2 := b2.at nL l1
    have f2 := b2.at nF f1
    rw [List.length_map] at q1
    have hq : q.toNat < ls.length := by omega
    refine ⟨L, _, q, q.toNat, .int ls[q.toNat], rfl, rfl, l2, by omega, by omega, by rw [List.length_map]; exact seqIx q0 q1, by rw [List.getElem?_map, List.getElem?_eq_getElem hq]; rfl, F, _, _, rfl, rfl, by rw [upd_ne (Ne.symm hLF)]; exact f2, ?_, ?_⟩
    · rw [List.length_map, fl]
      exact Nat.lt_of_le_of_lt (show i ≤ 1000 by omega) (by decide)
    · refine ⟨some (.int (0 + i)), ls.eraseIdx q.toNat, fs ++ [ls[q.toNat]], rfl, ((b1.trans b2).new hL).new hF0, (d2.upd nL).upd nF, ?_, ?_, by simp [fl], ?_⟩
      · rw [upd_ne hLF, upd_same, erase_map]
      · rw [upd_same, List.map_append]
        rfl
      · refine List.Perm.trans ?_ hp
        rw [List.append_assoc]
        exact List.Perm.append_left fs (erase_perm hq)
  · rintro σ H1 ⟨s2, ls, fs, rfl, b1, d1, l1, f1, fl, hp⟩
    have hlen : fs.length + ls.length = n.toNat := by rw [← li, ← hp.length_eq, List.length_append]
    have : ls = [] := List.length_eq_zero_iff.mp (by omega)
    subst this
    rw [List.append_nil] at hp
    exact ⟨_, rfl, k F fs H1 b1 d1 hF0 f1 hp⟩
end Wf
/-! Tables: lists of lists of pairs. -/
namespace Wf
open PySem PySem.Spec L2
abbrev Tab : Type := List (Int × Int)
def InP (s : Int) (p : Int × Int) : Prop := 0 ≤ p.1 ∧ p.1 < s ∧ 0 ≤ p.2 ∧ p.2 < s
structure TabOk (s : Int) (t : Tab) : Prop where
  len : (t.length : Int) = s * s
  inn : ∀ p ∈ t, InP s p
structure TabAt (K : PySem.W.Frag) (H : Hp) (l : Addr) (t : Tab) : Prop where
  ex : ∃ vs, H l = some (.lst vs) ∧ DpAll K H vs (t.map dP)
theorem noLAll_dP : ∀ t : Tab, noLAll (t.map dP) = true
  | [] => rfl
  | p :: t => by simp [noLAll, noL_dP, noLAll_dP t]
theorem TabAt.keep {K : PySem.W.Frag} {H H' : Hp} {l : Addr} {t : Tab} (h : TabAt K H l t) (hl : ∀ o, H l = some o → H' l = some o) (tp : Tp K H H') : TabAt K H' l t := by
  obtain ⟨vs, h1, h2⟩ := h.ex
  exact ⟨vs, hl _ h1, DpAll.tp tp _ _ (noLAll_dP t) h2⟩
theorem pr_mono {α β : Type} {F G : α → β → Prop} : ∀ {as : List α} {bs : List β}, Paired F as bs → (∀ a b, a ∈ as → F a b → G a b) → Paired G as bs
  | _, _, .nil, _ => .nil
  | _, _, .cons h t, k => .cons (k _ _ List.mem_cons_self h) (pr_mono t fun a b ha => k a b (List.mem_cons_of_mem _ ha))
theorem pr_app {α β : Type} {F : α → β → Prop} : ∀ {as cs : List α} {bs ds : List β}, Paired F as bs → Paired F cs ds → Paired F (as ++ cs) (bs ++ ds)
  | _, _, _, _, .nil, h => h
  | _, _, _, _, .cons h t, k => .cons h (pr_app t k)
theorem pr_get {α β : Type} {F : α → β → Prop} : ∀ {as : List α} {bs : List β} {i : Nat} {a : α}, Paired F as bs → as[i]? = some a → ∃ b, bs[i]? = some b ∧ F a b
  | _, _, _, _, .nil, e => by simp at e
  | _, _, 0, _, .cons h _, e => by simp at e; subst e; exact ⟨_, rfl, h⟩
  | _, _, i + 1, _, .cons _ t, e => by
    obtain ⟨b, h1, h2⟩ := pr_get (i := i) t (by simpa using e)
    exact ⟨b, by simpa using h1, h2⟩
theorem pr_len {α β : Type} {F : α → β → Prop} : ∀ {as : List α} {bs : List β}, Paired F as bs → as.length = bs.length
  | _, _, .nil => rfl
  | _, _, .cons _ t => congrArg (· + 1) (pr_len t)
/-- tables that were made since H: the list of them at F, they themselves at ls -/
structure Tabs (K : PySem.W.Frag) (H H1 : Hp) (F : Addr) (ls : List Addr) (ts : List Tab) : Prop where
  lst : H1 F = some (.lst (ls.map V.ref))
  tab : Paired (TabAt K H1) ls ts
  nd : (F :: ls).Nodup
  newF : H F = none
  newL : ∀ x ∈ ls, H x = none
section
variable {K : PySem.W.Frag} {H H1 H2 : Hp} {F d l : Addr} {ls : List Addr} {ts : List Tab}
theorem Tabs.keep (t : Tabs K H H1 F ls ts) (hk : ∀ x o, x ∈ F :: ls → H1 x = some o → H2 x = some o) (tp : Tp K H1 H2) : Tabs K H H2 F ls ts :=
  ⟨hk _ _ List.mem_cons_self t.lst, pr_mono t.tab fun a b ha h => h.keep (fun o e => hk a o (List.mem_cons_of_mem _ ha) e) tp, t.nd, t.newF, t.newL⟩
theorem Tabs.but (t : Tabs K H H1 F ls ts) (hD : Deal H d l) (d1 : Deal H1 d l) (b : But [d, l] H1 H2) : Tabs K H H2 F ls ts :=
  t.keep (fun x o hx e => b.at (hD.ne (by
    rcases List.mem_cons.mp hx with rfl | hx
    · exact t.newF
    · exact t.newL x hx)) e) (b.tp d1.noT)
theorem Tabs.same (t : Tabs K H H1 F ls ts) (s : Same H1 H2) : Tabs K H H2 F ls ts := t.keep (fun x o _ e => s x o e) (Same.tp s)
theorem Tabs.notIn {D : Addr} (ht : Tabs K H H1 F ls ts) (hDn : H1 D = none) : D ∉ F :: ls := fun z => by
  rcases List.mem_cons.mp z with rfl | z
  · rw [ht.lst] at hDn
    cases hDn
  · obtain ⟨i, hi⟩ := List.mem_iff_getElem?.mp z
    obtain ⟨_, _, h2⟩ := pr_get ht.tab hi
    obtain ⟨_, h3, _⟩ := h2.ex
    rw [h3] at hDn
    cases hDn
theorem Tabs.len (t : Tabs K H H1 F ls ts) : ls.length = ts.length := pr_len t.tab
/-- one more table -/
theorem Tabs.push {D : Addr} {t : Tab} (ht : Tabs K H H1 F ls ts) (h : TabAt K H1 D t) (hD : D ∉ F :: ls) (hn : H D = none) : Tabs K H (upd H1 F (.lst (ls.map V.ref ++ [.ref D]))) F (ls ++ [D]) (ts ++ [t]) := by
  have tp : Tp K H1 (upd H1 F (.lst (ls.map V.ref ++ [.ref D]))) := tp_upd (not_lst ht.lst)
  have hF := (List.nodup_cons.mp ht.nd).1
  refine ⟨by rw [upd_same, List.map_append]; rfl, pr_app (pr_mono ht.tab fun a b ha k => k.keep (fun o e => ?_) tp) (.cons (h.keep (fun o e => ?_) tp) .nil), ?_, ht.newF, fun x hx => ?_⟩
  · rw [upd_ne (show a ≠ F from fun z => hF (z ▸ ha))]
    exact e
  · rw [upd_ne (show D ≠ F from fun z => hD (by rw [z]; exact List.mem_cons_self))]
    exact e
  · have e : (F :: (ls ++ [D])) = (F :: ls) ++ [D] := rfl
    rw [e, List.nodup_append]
    exact ⟨ht.nd, by simp, fun a ha b hb => by rw [List.mem_singleton.mp hb]; exact fun z => hD (z ▸ ha)⟩
  · rcases List.mem_append.mp hx with hx | hx
    · exact ht.newL x hx
    · rw [List.mem_singleton.mp hx]
      exact hn
def dTs (ts : List Tab) : PyData := .list (ts.map fun t => .list (t.map dP))
theorem Tabs.dp (ht : Tabs K H H1 F ls ts) : Dp K H1 (.ref F) (dTs ts) := by
  refine .lst (SqL.of ht.lst) ?_
  have := ht.tab
  clear ht
  induction this with
  | nil => exact .nil
  | cons h _ ih =>
    obtain ⟨vs, e1, e2⟩ := h.ex
    exact .cons (.lst (SqL.of e1) e2) ih
end
/-! ### [(draw(size), draw(size)) for n in range(size * size)] -/
/-! ### _law_any -/
def nT (m : Int) : Int := m * (m - 1) / 2
/-- tables are told, new ones, by what R says of them -/
def GiveT (K : PySem.W.Frag) (d l : Addr) (H : Hp) (Q : VK) (R : List Tab → Prop) : Prop := ∀ (F : Addr) (ls : List Addr) (ts : List Tab) (H' : Hp), But [d, l] H H' → Deal H' d l → Tabs K H H' F ls ts → R ts → Q (.ref F) H'
structure AllOk (m s : Int) (ts : List Tab) : Prop where
  len : (ts.length : Int) = nT m
  ok : ∀ t ∈ ts, TabOk s t
theorem nT_le {m : Int} (h1 : 1 ≤ m) (h5 : m ≤ 5) : 0 ≤ nT m ∧ nT m ≤ 10 := by
  have : m = 1 ∨ m = 2 ∨ m = 3 ∨ m = 4 ∨ m = 5 := by omega
  rcases this with rfl | rfl | rfl | rfl | rfl <;> decide
/-! ### _law_plain -/
def tabF (f s : Int) (st : Int × Int) : Tab := (iota (s * s)).map fun n => pairF f s st (n / s) (n % s)
/-- by plain rules: one form for all tables; or keeping ones, and one any -/
inductive PlainT (m s : Int) : List Tab → Prop
  | all (f : Int) (sts : List (Int × Int)) : 0 ≤ f → f ≤ 4 → (sts.length : Int) = nT m → (∀ x ∈ sts, InP s x) → PlainT m s (sts.map (tabF f s))
  | one (sts : List (Int × Int)) (i : Nat) (t : Tab) : (sts.length : Int) = nT m → i < sts.length → TabOk s t → PlainT m s ((sts.map (tabF 0 s)).set i t)
theorem ss_le {s : Int} (s1 : 1 ≤ s) (s6 : s ≤ 6) : 1 ≤ s * s ∧ s * s ≤ 36 := by
  have : s = 1 ∨ s = 2 ∨ s = 3 ∨ s = 4 ∨ s = 5 ∨ s = 6 := by omega
  rcases this with rfl | rfl | rfl | rfl | rfl | rfl <;> decide
/-- data whose shape == may be asked of: lists and tuples of such, to a depth -/
theorem lay_map {α : Type} (f : α → PyData) (n : Nat) : ∀ l : List α, (∀ a ∈ l, (f a).canLay0 = true ∧ (f a).depth ≤ n) → PyData.canLayAll0 (l.map f) = true ∧ PyData.depthAll (l.map f) ≤ n
  | [], _ => ⟨rfl, Nat.zero_le _⟩
  | a :: l, h => by
    have h1 := h a List.mem_cons_self
    have h2 := lay_map f n l fun b hb => h b (List.mem_cons_of_mem _ hb)
    rw [List.map_cons]
    constructor
    · show ((f a).canLay0 && PyData.canLayAll0 (l.map f)) = true
      rw [h1.1, h2.1]
      rfl
    · show max (f a).depth (PyData.depthAll (l.map f)) ≤ n
      exact Nat.max_le.mpr ⟨h1.2, h2.2⟩
end Wf
/-! Tables side by side, tables with other names. -/
namespace Wf
open PySem PySem.Spec L2
/-- tables to be read -/
structure TL (K : PySem.W.Frag) (H : Hp) (A : Addr) (ls : List Addr) (ts : List Tab) : Prop where
  lst : H A = some (.lst (ls.map V.ref))
  tab : Paired (TabAt K H) ls ts
theorem TL.same {K : PySem.W.Frag} {H H1 : Hp} {A : Addr} {ls : List Addr} {ts : List Tab} (t : TL K H A ls ts) (s : Same H H1) : TL K H1 A ls ts := ⟨s _ _ t.lst, pr_mono t.tab fun a b _ h => h.keep (fun o e => s _ _ e) (Same.tp s)⟩
theorem ix_lt {x y w : Int} (x0 : 0 ≤ x) (x1 : x < w) (y0 : 0 ≤ y) (y1 : y < w) : 0 ≤ x * w + y ∧ x * w + y < w * w := by
  have h1 : 0 ≤ x * w := Int.mul_nonneg x0 (by omega)
  have h2 : (x + 1) * w ≤ w * w := Int.mul_le_mul_of_nonneg_right (by omega) (by omega)
  have h3 : (x + 1) * w = x * w + w := by rw [Int.add_mul, Int.one_mul]
  constructor <;> omega
def sideP (t1 t2 : Tab) (w r : Int) (n : Int) : Int × Int :=
  let c := t1.getD (n / (w * r) / r * w + n % (w * r) / r).toNat (0, 0)
  let g := t2.getD (n / (w * r) % r * r + n % (w * r) % r).toNat (0, 0)
  (c.1 * r + g.1, c.2 * r + g.2)
def sideT (w r : Int) (t1 t2 : Tab) : Tab := (iota (w * r * (w * r))).map (sideP t1 t2 w r)
end Wf
/-! Tables with other names, good tables, books. -/
namespace Wf
open PySem PySem.Spec L2
theorem DpAll.set {K : PySem.W.Frag} {H : Hp} {v : V} {d : PyData} (h : Dp K H v d) : ∀ {vs : List V} {ds : List PyData} (i : Nat), DpAll K H vs ds → DpAll K H (vs.set i v) (ds.set i d)
  | _, _, _, .nil => .nil
  | _, _, 0, .cons _ t => .cons h t
  | _, _, i + 1, .cons k t => .cons k (DpAll.set h i t)
/-! ### _law_names_put -/
def nmStep (ns : List Int) (s : Int) (t acc : Tab) (n : Nat) : Tab :=
  acc.set (ns.getD ((n : Int) / s).toNat 0 * s + ns.getD ((n : Int) % s).toNat 0).toNat (ns.getD (t.getD n (0, 0)).1.toNat 0, ns.getD (t.getD n (0, 0)).2.toNat 0)
def nmF (ns : List Int) (s : Int) (t : Tab) (k : Nat) : Tab := (List.range k).foldl (nmStep ns s t) (List.replicate (s * s).toNat (0, 0))
def nameT (s : Int) (ns : List Int) (t : Tab) : Tab := nmF ns s t t.length
theorem nmF_succ (ns : List Int) (s : Int) (t : Tab) (k : Nat) : nmF ns s t (k + 1) = nmStep ns s t (nmF ns s t k) k := by
  unfold nmF
  rw [List.range_succ, List.foldl_append]
  rfl
theorem nmF_len (ns : List Int) (s : Int) (t : Tab) : ∀ k, (nmF ns s t k).length = (s * s).toNat
  | 0 => by unfold nmF; rw [List.range_zero, List.foldl_nil, List.length_replicate]
  | k + 1 => by rw [nmF_succ, nmStep, List.length_set, nmF_len ns s t k]
theorem iota_mem {n x : Int} : x ∈ iota n ↔ 0 ≤ x ∧ x < n := by
  unfold iota
  rw [List.mem_map]
  constructor
  · rintro ⟨i, hi, rfl⟩
    rw [List.mem_range] at hi
    constructor <;> omega
  · rintro ⟨h1, h2⟩
    exact ⟨x.toNat, by rw [List.mem_range]; omega, by omega⟩
theorem perm_at {s : Int} {ns : List Int} (hp : ns.Perm (iota s)) {i : Int} (h0 : 0 ≤ i) (h1 : i < s) : atI (ns.map V.int) i = some (.int (ns.getD i.toNat 0)) ∧ 0 ≤ ns.getD i.toNat 0 ∧ ns.getD i.toNat 0 < s := by
  have hl : ns.length = s.toNat := by rw [hp.length_eq]; unfold iota; rw [List.length_map, List.length_range]
  have hi : i.toNat < ns.length := by omega
  have e : ns[i.toNat]? = some ns[i.toNat] := List.getElem?_eq_getElem hi
  have m : ns[i.toNat] ∈ iota s := hp.mem_iff.mp (List.getElem_mem hi)
  have g : ns.getD i.toNat 0 = ns[i.toNat] := by simp [List.getD, e]
  rw [g]
  refine ⟨?_, (iota_mem.mp m).1, (iota_mem.mp m).2⟩
  unfold atI ixN
  rw [if_pos h0, if_pos (by rw [List.length_map]; omega)]
  show (ns.map V.int)[i.toNat]? = _
  rw [List.getElem?_map, e]
  rfl
end Wf
/-! Good tables and books. -/
namespace Wf
open PySem PySem.Spec L2
theorem pairF_in {f s : Int} {st : Int × Int} {a b : Int} (hs : 1 ≤ s) (a0 : 0 ≤ a) (a1 : a < s) (b0 : 0 ≤ b) (b1 : b < s) : InP s (pairF f s st a b) := by
  unfold pairF InP
  have h1 := mod_lt (a := 2 * b - a) (b := s) (by omega)
  have h2 := mod_lt (a := b + st.2) (b := s) (by omega)
  have h3 := mod_lt (a := a + st.1) (b := s) (by omega)
  split
  · exact ⟨b0, b1, a0, a1⟩
  · split
    · exact ⟨a0, a1, b0, b1⟩
    · split
      · dsimp only
        split <;> split <;> exact ⟨by omega, by omega, by omega, by omega⟩
      · split
        · exact ⟨b0, b1, h1.1, h1.2⟩
        · exact ⟨h2.1, h2.2, h3.1, h3.2⟩
theorem iota_len (n : Int) : (iota n).length = n.toNat := by unfold iota; rw [List.length_map, List.length_range]
theorem div_in {s n : Int} (hs : 1 ≤ s) (h0 : 0 ≤ n) (h1 : n < s * s) : (0 ≤ n / s ∧ n / s < s) ∧ (0 ≤ n % s ∧ n % s < s) := ⟨⟨Int.ediv_nonneg h0 (by omega), Int.ediv_lt_of_lt_mul (by omega) h1⟩, mod_lt (by omega)⟩
theorem tabF_ok {f s : Int} {st : Int × Int} (hs : 1 ≤ s) : TabOk s (tabF f s st) := by
  have hss : 0 ≤ s * s := Int.mul_nonneg (by omega) (by omega)
  refine ⟨by unfold tabF; rw [List.length_map, iota_len]; omega, fun p hp => ?_⟩
  obtain ⟨n, hn, rfl⟩ := List.mem_map.mp hp
  obtain ⟨h0, h1⟩ := iota_mem.mp hn
  obtain ⟨⟨x1, x2⟩, x3, x4⟩ := div_in hs h0 h1
  exact pairF_in hs x1 x2 x3 x4
theorem PlainT.ok {m s : Int} {ts : List Tab} (hs : 1 ≤ s) (h : PlainT m s ts) : AllOk m s ts := by
  cases h with
  | all f sts f0 f4 hl hin =>
    refine ⟨by rw [List.length_map]; exact hl, fun t ht => ?_⟩
    obtain ⟨st, _, rfl⟩ := List.mem_map.mp ht
    exact tabF_ok hs
  | one sts i t hl hi ht =>
    refine ⟨by rw [List.length_set, List.length_map]; exact hl, fun x hx => ?_⟩
    rcases List.mem_or_eq_of_mem_set hx with hx | hx
    · obtain ⟨st, _, rfl⟩ := List.mem_map.mp hx
      exact tabF_ok hs
    · rw [hx]
      exact ht
theorem getD_in {s : Int} {t : Tab} (h : TabOk s t) {i : Int} (h0 : 0 ≤ i) (h1 : i < s * s) : InP s (t.getD i.toNat (0, 0)) := by
  have hl := h.len
  have hi : i.toNat < t.length := by omega
  have e : t.getD i.toNat (0, 0) = t[i.toNat] := by simp [List.getD, List.getElem?_eq_getElem hi]
  rw [e]
  exact h.inn _ (List.getElem_mem hi)
theorem sideT_ok {w r : Int} {t1 t2 : Tab} (w1 : 1 ≤ w) (r1 : 1 ≤ r) (h1 : TabOk w t1) (h2 : TabOk r t2) : TabOk (w * r) (sideT w r t1 t2) := by
  have wr1 : 1 ≤ w * r := by
    have := Int.mul_le_mul w1 r1 (by decide) (by omega)
    simpa using this
  have hss : 0 ≤ w * r * (w * r) := Int.mul_nonneg (by omega) (by omega)
  refine ⟨by unfold sideT; rw [List.length_map, iota_len]; omega, fun p hp => ?_⟩
  obtain ⟨n, hn, rfl⟩ := List.mem_map.mp hp
  obtain ⟨n0, n1⟩ := iota_mem.mp hn
  obtain ⟨⟨x1, x2⟩, x3, x4⟩ := div_in wr1 n0 n1
  have q3 : 0 ≤ n / (w * r) / r ∧ n / (w * r) / r < w := ⟨Int.ediv_nonneg x1 (by omega), Int.ediv_lt_of_lt_mul (by omega) x2⟩
  have q4 : 0 ≤ n % (w * r) / r ∧ n % (w * r) / r < w := ⟨Int.ediv_nonneg x3 (by omega), Int.ediv_lt_of_lt_mul (by omega) x4⟩
  have q5 := mod_lt (a := n / (w * r)) (b := r) (by omega)
  have q6 := mod_lt (a := n % (w * r)) (b := r) (by omega)
  have i1 := ix_lt q3.1 q3.2 q4.1 q4.2
  have i2 := ix_lt q5.1 q5.2 q6.1 q6.2
  have g1 := getD_in h1 i1.1 i1.2
  have g2 := getD_in h2 i2.1 i2.2
  unfold sideP
  dsimp only
  generalize t1.getD _ (0, 0) = c at g1
  generalize t2.getD _ (0, 0) = g at g2
  unfold InP at g1 g2 ⊢
  have e : ∀ x y : Int, 0 ≤ x → x < w → 0 ≤ y → y < r → 0 ≤ x * r + y ∧ x * r + y < w * r := fun x y a1 a2 b1 b2 => by
    have e1 : 0 ≤ x * r := Int.mul_nonneg a1 (by omega)
    have e2 : (x + 1) * r ≤ w * r := Int.mul_le_mul_of_nonneg_right (by omega) (by omega)
    have e3 : (x + 1) * r = x * r + r := by rw [Int.add_mul, Int.one_mul]
    constructor <;> omega
  have a := e c.1 g.1 g1.1 g1.2.1 g2.1 g2.2.1
  have b := e c.2 g.2 g1.2.2.1 g1.2.2.2 g2.2.2.1 g2.2.2.2
  exact ⟨a.1, a.2, b.1, b.2⟩
theorem nmF_ok {s : Int} {ns : List Int} {t : Tab} (hs : 1 ≤ s) (hp : ns.Perm (iota s)) (ht : TabOk s t) : ∀ k, k ≤ t.length → ∀ p ∈ nmF ns s t k, InP s p
  | 0, _ => fun p hp => by
    unfold nmF at hp
    rw [List.range_zero, List.foldl_nil] at hp
    rw [(List.mem_replicate.mp hp).2]
    exact ⟨by decide, by omega, by decide, by omega⟩
  | k + 1, hk => fun p hq => by
    rw [nmF_succ, nmStep] at hq
    rcases List.mem_or_eq_of_mem_set hq with hq | hq
    · exact nmF_ok hs hp ht k (by omega) p hq
    · have hkl : (k : Int) < s * s := by rw [← ht.len]; omega
      have g := getD_in ht (Int.natCast_nonneg k) hkl
      rw [Int.toNat_natCast] at g
      have g1 := perm_at hp g.1 g.2.1
      have g2 := perm_at hp g.2.2.1 g.2.2.2
      rw [hq]
      exact ⟨g1.2.1, g1.2.2, g2.2.1, g2.2.2⟩
theorem nameT_ok {s : Int} {ns : List Int} {t : Tab} (hs : 1 ≤ s) (hp : ns.Perm (iota s)) (ht : TabOk s t) : TabOk s (nameT s ns t) := by
  have hss : 0 ≤ s * s := Int.mul_nonneg (by omega) (by omega)
  exact ⟨by unfold nameT; rw [nmF_len]; omega, nmF_ok hs hp ht _ (Nat.le_refl _)⟩
/-- tables that are good by making -/
inductive GoodT (m s : Int) : List Tab → Prop
  | plain {ts : List Tab} : PlainT m s ts → GoodT m s ts
  | side {w r : Int} {ta tb : List Tab} : 1 ≤ w → 1 ≤ r → w * r = s → PlainT m w ta → PlainT m r tb → GoodT m s (List.zipWith (sideT w r) ta tb)
  | name {ts : List Tab} {ns : List Int} : GoodT m s ts → ns.Perm (iota s) → GoodT m s (ts.map (nameT s ns))
theorem GoodT.ok {m s : Int} {ts : List Tab} (hs : 1 ≤ s) (h : GoodT m s ts) : AllOk m s ts := by
  induction h with
  | plain h => exact h.ok hs
  | side w1 r1 e ha hb =>
    have oa := ha.ok w1
    have ob := hb.ok r1
    have la := oa.len
    have lb := ob.len
    refine ⟨by rw [List.length_zipWith]; omega, fun t ht => ?_⟩
    obtain ⟨i, hi⟩ := List.mem_iff_getElem?.mp ht
    rw [List.getElem?_zipWith] at hi
    revert hi
    split
    · rename_i x y hx hy
      intro hi
      cases hi
      rw [← e]
      exact sideT_ok w1 r1 (oa.ok _ (List.mem_of_getElem? hx)) (ob.ok _ (List.mem_of_getElem? hy))
    · intro hi
      cases hi
  | name h hp ih =>
    refine ⟨by rw [List.length_map]; exact ih.len, fun t ht => ?_⟩
    obtain ⟨u, hu, rfl⟩ := List.mem_map.mp ht
    exact nameT_ok hs hp (ih.ok u hu)
theorem GiveT.mono {K : PySem.W.Frag} {d l : Addr} {H H1 : Hp} {Q : VK} {R : List Tab → Prop} (k : GiveT K d l H Q R) (b : But [d, l] H H1) (hD : Deal H d l) (F : Addr) (ls : List Addr) (ts : List Tab) (H' : Hp) (b1 : But [d, l] H1 H') (d1 : Deal H' d l) (t : Tabs K H1 H' F ls ts) (r : R ts) (nd : ∀ x ∈ F :: ls, x ≠ d ∧ x ≠ l) : Q (.ref F) H' :=
  k F ls ts H' (b.trans b1) d1 ⟨t.lst, t.tab, t.nd, b.none_of (nd F List.mem_cons_self) t.newF, fun x hx => b.none_of (nd x (List.mem_cons_of_mem _ hx)) (t.newL x hx)⟩ r
theorem Same.but {ds : List Addr} {H H' : Hp} (s : Same H H') : But ds H H' := fun a o _ e => s a o e
theorem Same.deal {H H' : Hp} {d l : Addr} (s : Same H H') (h : Deal H d l) : Deal H' d l := by
  obtain ⟨z1, z2, z3, z4, z5, z6, z7⟩ := h.ex
  exact ⟨z1, z2, z3, z4, s _ _ z5, s _ _ z6, z7⟩
end Wf
/-! Books. -/
namespace Wf
open PySem PySem.Spec L2
structure Book where
  ps : List Int
  s : Int
  ts : List Tab
def dT (t : Tab) : PyData := .tuple (t.map dP)
def dB (b : Book) : PyData := .tuple [dI b.ps, .int b.s, .tuple (b.ts.map dT)]
theorem noL_dT (t : Tab) : noL (dT t) = true := noLAll_dP t
theorem noLAll_dT : ∀ ts : List Tab, noLAll (ts.map dT) = true
  | [] => rfl
  | t :: ts => by simp [noLAll, noL_dT, noLAll_dT ts]
theorem noL_dI (ps : List Int) : noL (dI ps) = true := noLAll_ints ps
theorem noL_dB (b : Book) : noL (dB b) = true := by
  show (noL (dI b.ps) && (true && (noLAll (b.ts.map dT) && true))) = true
  rw [noL_dI, noLAll_dT]
  rfl
structure BookOk (m : Int) (b : Book) : Prop where
  pac : PacesOk m b.ps
  m1 : 1 ≤ m
  m5 : m ≤ 5
  s1 : 1 ≤ b.s
  s6 : b.s ≤ 6
  tab : AllOk m b.s b.ts
end Wf
/-! The deal made. -/
namespace Wf
open PySem PySem.Spec L2
def sp_deal (K : PySem.W.Frag) : Sp := fun vs H Q _ => ∃ (a : Addr) (b : Int) (ns : List Int), vs = [.ref a, .int b] ∧ SqL K H a (ns.map V.int) ∧ 0 ≤ b ∧ b ≤ 63 ∧ ns.length ≤ 1000 ∧
  ∀ (d l : Addr) (H' : Hp), Same H H' → H d = none → H l = none → Deal H' d l → Q (.ref d) H'
theorem cut_ints (ns : List Int) (lo hi : Option Int) : ∃ ms : List Int, cutV (ns.map V.int) lo hi = ms.map V.int ∧ ms.length ≤ ns.length := by
  refine ⟨(ns.drop (HT.sIx (ns.map V.int).length 0 lo)).take (HT.sIx (ns.map V.int).length (ns.map V.int).length hi - HT.sIx (ns.map V.int).length 0 lo), ?_, ?_⟩
  · unfold cutV
    rw [List.map_take, List.map_drop]
  · rw [List.length_take, List.length_drop]
    omega
theorem putK_new {kvs : List (Key × V)} {k : Key} {v : V} (h : valV kvs k = none) : putK kvs k v = kvs ++ [(k, v)] := by
  unfold putK
  rw [valV_any, h]
  rfl
def four (s m n l : V) : List (Key × V) := [(Sum.inr "seed", s), (Sum.inr "many", m), (Sum.inr "now", n), (Sum.inr "left", l)]
theorem merge4 (s m n l : V) : mergeK [] (four s m n l) = four s m n l := by
  unfold four
  unfold mergeK
  simp only [List.foldl]
  rw [putK_new (kvs := []) valV_nil]
  simp only [List.nil_append]
  rw [putK_new (kvs := [(Sum.inr (Str.ofString "seed"), s)]) ((valV_neg (key_ne (by decide +kernel))).trans valV_nil)]
  simp only [List.cons_append, List.nil_append]
  rw [putK_new (kvs := [(Sum.inr (Str.ofString "seed"), s), (Sum.inr (Str.ofString "many"), m)]) ((valV_neg (key_ne (by decide +kernel))).trans ((valV_neg (key_ne (by decide +kernel))).trans valV_nil))]
  simp only [List.cons_append, List.nil_append]
  rw [putK_new (kvs := [(Sum.inr (Str.ofString "seed"), s), (Sum.inr (Str.ofString "many"), m), (Sum.inr (Str.ofString "now"), n)]) ((valV_neg (key_ne (by decide +kernel))).trans ((valV_neg (key_ne (by decide +kernel))).trans ((valV_neg (key_ne (by decide +kernel))).trans valV_nil)))]
  rfl
def t_deal (K : PySem.W.Frag) : TS :=
  tSeq (tAsg (tLc (iList K (tSl (rSlL K) (tVar 0) (tPart (tVar 1)) (tPart (tC (.int 63))))) (gName 4) (tYes) (tCB (qMax2) (tCons (tVar 4) (tCons (tOp qSub (tC (.int 0)) (tVar 4)) (tNil)))) [4]) (gName 2))
    (tSeq (tAsg (tOp qAdd (tC (.int 104729)) (tOp qMul (tC (.int 31)) (tVar 1))) (gName 3))
    (tSeq (tFor (iList K (tVar 2)) (gName 4) (tAsg (tOp qMod (tOp qAdd (tOp qAdd (tOp qMul (tVar 3) (tC (.int 69623))) (tOp qMod (tVar 4) (tC (.int 2147483629)))) (tC (.int 1))) (tC (.int 2147483647))) (gName 3)))
    (tRet (tDisp ((tC (.str "seed"), tOp qAdd (tVar 3) (tC (.int 1))) :: ((tC (.str "many"), tC (.int 0)) :: ((tC (.str "now"), tC (.int 0)) :: ((tC (.str "left"), Wf.tLstRev K (tLc (iList K (tVar 2)) (gName 4) (tTest (tOp qGe (tVar 4) (tOp qPow (tC (.int 10)) (tC (.int 18))))) (tVar 4) [4])) :: ([])))))))))
theorem pure_deal {K : PySem.W.Frag} (vs : List V) (H : Hp) (Q : VK) (E : XK) (h : sp_deal K vs H Q E) : t_deal K (EndsQ Q) (sN 5 vs) H := by
  obtain ⟨a, b, ns, rfl, hS, b0, b1, hns, k⟩ := h
  show t_deal K _ [some (.ref a), some (.int b), none, none, none] H
  refine ⟨_, rfl, _, rfl, _, rfl, 63, rfl, a, _, rfl, hS, fun p hp => ?_⟩
  obtain ⟨ms, e, hms⟩ := cut_ints ns (some b) (some 63)
  rw [e]
  have sp := same_new (o := .lst (ms.map V.int)) hp
  have hpp : upd H p (.lst (ms.map V.int)) p = some (.lst (ms.map V.int)) := upd_same
  generalize upd H p (.lst (ms.map V.int)) = H1 at sp hpp
  refine ⟨p, rfl, ⟨_, SqL.of hpp⟩, fun D hD => ?_⟩
  have hDp : p ≠ D := ne_of_none hpp hD
  have hD0 : H D = none := sp.free hD
  refine lc_list (K := K) (a := p) (xs := ms.map V.int) (fun i H2 => Same H1 H2 ∧ ∃ zs : List Int, H2 D = some (.lst (zs.map V.int)) ∧ zs.length = i ∧ ∀ z ∈ zs, 0 ≤ z) ?_ ?_ ?_ ?_
  · exact ⟨same_new hD, [], upd_same, rfl, fun z hz => (List.not_mem_nil hz).elim⟩
  · rintro i H2 _ ⟨s2, _⟩
    exact SqL.of (s2 _ _ hpp)
  · rintro i x H2 hx ⟨s2, zs, e1, hl, hz⟩
    rw [List.getElem?_map] at hx
    obtain ⟨y, hy, rfl⟩ := Option.map_eq_some_iff.mp hx
    refine ⟨rfl, ?_⟩
    simp only [tYes, ↓reduceIte]
    refine ⟨_, rfl, _, rfl, _, _, rfl, rfl, _, _, rfl, _, e1, ?_, ?_⟩
    · rw [List.length_map, hl]
      have := (List.getElem?_eq_some_iff.mp hy).1
      exact Nat.lt_of_le_of_lt (show i ≤ 1000 by omega) (by decide)
    · refine ⟨fun c o e => ?_, zs ++ [if 0 - y > y then 0 - y else y], ?_, by simp [hl], fun z hq => ?_⟩
      · rw [upd_ne (ne_of_none e hD)]
        exact s2 _ _ e
      · rw [upd_same, List.map_append]
        rfl
      · rcases List.mem_append.mp hq with hq | hq
        · exact hz z hq
        · rw [List.mem_singleton.mp hq]
          split <;> omega
  · rintro H2 ⟨s2, zs, e1, hl, hz⟩
    refine ⟨_, rfl, _, _, rfl, rfl, .inl ⟨by decide, by decide⟩, _, _, rfl, rfl, ?_⟩
    refine ⟨_, rfl, D, rfl, ⟨_, SqL.of e1⟩, for_list (K := K) (a := D) (xs := zs.map V.int) (fun i σ H3 => ∃ (w : Int) (c4 : Option V), σ = [some (.ref a), some (.int b), some (.ref D), some (.int w), c4] ∧ H3 = H2) ?_ ?_ ?_ ?_⟩
    · exact ⟨_, none, rfl, rfl⟩
    · rintro i σ H3 _ ⟨w, c4, rfl, rfl⟩
      exact SqL.of e1
    · rintro i x σ H3 hx ⟨w, c4, rfl, rfl⟩
      rw [List.getElem?_map] at hx
      obtain ⟨y, hy, rfl⟩ := Option.map_eq_some_iff.mp hx
      exact ⟨_, rfl, _, _, rfl, rfl, .inr ⟨by decide, by decide⟩, _, rfl, _, _, rfl, rfl, mp rfl, _, _, rfl, rfl, _, _, rfl, rfl, _, _, rfl, rfl, mp rfl, _, _, rfl, rfl⟩
    · rintro σ H3 ⟨w, c4, rfl, rfl⟩
      intro d hd
      refine ⟨_, rfl, _, _, rfl, rfl, ?_⟩
      have sd := same_new (o := .dK []) hd
      have hdd : upd H3 d (.dK []) d = some (.dK []) := upd_same
      generalize upd H3 d (.dK []) = H4 at sd hdd
      have e4 := sd _ _ e1
      refine ⟨_, rfl, D, rfl, ⟨_, SqL.of e4⟩, fun G hG => ?_⟩
      refine lc_list (K := K) (a := D) (xs := zs.map V.int) (fun i H5 => Same H4 H5 ∧ ∃ gs : List Int, H5 G = some (.lst (gs.map V.int)) ∧ gs.length ≤ i ∧ ∀ z ∈ gs, 0 ≤ z) ?_ ?_ ?_ ?_
      · exact ⟨same_new hG, [], upd_same, Nat.le_refl _, fun z hz => (List.not_mem_nil hz).elim⟩
      · rintro i H5 _ ⟨s5, _⟩
        exact SqL.of (s5 _ _ e4)
      · rintro i x H5 hx ⟨s5, gs, g1, gl, gz⟩
        rw [List.getElem?_map] at hx
        obtain ⟨y, hy, rfl⟩ := Option.map_eq_some_iff.mp hx
        refine ⟨rfl, _, rfl, _, _, rfl, rfl, ⟨by decide, by decide, by decide⟩, _, _, rfl, rfl, _, rfl, ?_⟩
        refine ifd (fun c => ?_) (fun c => ?_)
        · refine ⟨_, rfl, _, g1, ?_, ?_⟩
          · rw [List.length_map]
            have := (List.getElem?_eq_some_iff.mp hy).1
            rw [List.length_map] at hl
            exact Nat.lt_of_le_of_lt (show gs.length ≤ 1000 by omega) (by decide)
          · refine ⟨fun c o e => ?_, gs ++ [y], ?_, by simp; omega, fun z hq => ?_⟩
            · rw [upd_ne (ne_of_none e hG)]
              exact s5 _ _ e
            · rw [upd_same, List.map_append]
              rfl
            · rcases List.mem_append.mp hq with hq | hq
              · exact gz z hq
              · rw [List.mem_singleton.mp hq]
                exact hz y (List.mem_of_getElem? hy)
        · exact ⟨s5, gs, g1, by omega, gz⟩
      · rintro H5 ⟨s5, gs, g1, gl, gz⟩
        refine ⟨G, _, rfl, SqL.of g1, fun L hL => ?_⟩
        have sL := same_new (o := .lst (gs.map V.int).reverse) hL
        have hdL := s5 _ _ hdd
        have hLd : d ≠ L := ne_of_none hdL hL
        refine ⟨by rw [upd_ne hLd]; exact hdL, four (.int (w + 1)) (.int 0) (.int 0) (.ref L), rfl, (by show 4 ≤ 15; decide), ?_⟩
        rw [merge4]
        have hL0 : H L = none := (sp.trans (s2.trans (sd.trans s5))).free hL
        have hd0 : H d = none := (sp.trans s2).free hd
        refine k d L _ (fun c o e => ?_) hd0 hL0 ⟨w + 1, 0, 0, gs.reverse, upd_same, ?_, by decide, fun z hq => gz z (List.mem_reverse.mp hq)⟩
        · rw [upd_ne (ne_of_none e hd0), upd_ne (ne_of_none e hL0)]
          exact (sp.trans (s2.trans (sd.trans s5))) _ _ e
        · rw [upd_ne (Ne.symm hLd), upd_same, List.map_reverse]
end Wf
/-! Tuples as data: places, slices, sums; the program's pair_at and with_pair. -/
namespace Wf
open PySem PySem.Spec L2
section
variable {K : PySem.W.Frag} {H : Hp} {Q : VK} {t x y : V} {ds es : List PyData} {d : PyData}
theorem DpAll.drop : ∀ {vs : List V} {ds : List PyData} (n : Nat), DpAll K H vs ds → DpAll K H (vs.drop n) (ds.drop n)
  | _, _, 0, h => h
  | _, _, _ + 1, .nil => .nil
  | _, _, n + 1, .cons _ h => DpAll.drop n h
theorem DpAll.take : ∀ {vs : List V} {ds : List PyData} (n : Nat), DpAll K H vs ds → DpAll K H (vs.take n) (ds.take n)
  | _, _, 0, _ => .nil
  | _, _, _ + 1, .nil => .nil
  | _, _, n + 1, .cons h t => .cons h (DpAll.take n t)
def cutD (ds : List PyData) (lo hi : Option Int) : List PyData := (ds.drop (HT.sIx ds.length 0 lo)).take (HT.sIx ds.length ds.length hi - HT.sIx ds.length 0 lo)
end
/-! ### put_in -/
end Wf
/-! pair_at, with_pair; what the law says of them. -/
namespace Wf
open PySem PySem.Spec L2
def tnum (u v : Int) : Int := u * (u - 1) / 2 + v
/-- a place of a book -/
structure Pl (m s u v a b : Int) : Prop where
  u0 : 1 ≤ u
  u1 : u < m
  v0 : 0 ≤ v
  v1 : v < u
  a0 : 0 ≤ a
  a1 : a < s
  b0 : 0 ≤ b
  b1 : b < s
theorem tnum_lt {m u v : Int} (m5 : m ≤ 5) (u0 : 1 ≤ u) (u1 : u < m) (v0 : 0 ≤ v) (v1 : v < u) : 0 ≤ tnum u v ∧ tnum u v < nT m := by
  unfold tnum nT
  have hm : m = 2 ∨ m = 3 ∨ m = 4 ∨ m = 5 := by omega
  have hu : u = 1 ∨ u = 2 ∨ u = 3 ∨ u = 4 := by omega
  rcases hu with rfl | rfl | rfl | rfl <;> rcases hm with rfl | rfl | rfl | rfl <;> simp <;> omega
def Book.tab (B : Book) (u v : Int) : Tab := B.ts.getD (tnum u v).toNat []
def Book.at (B : Book) (u v a b : Int) : Int × Int := (B.tab u v).getD (a * B.s + b).toNat (0, 0)
section
variable {K : PySem.W.Frag} {H : Hp} {t : V} {B : Book} {m u v a b : Int}
theorem Book.row (ok : BookOk m B) (pl : Pl m B.s u v a b) : B.ts[(tnum u v).toNat]? = some (B.tab u v) ∧ TabOk B.s (B.tab u v) := by
  have h := tnum_lt ok.m5 pl.u0 pl.u1 pl.v0 pl.v1
  have hl := ok.tab.len
  have hi : (tnum u v).toNat < B.ts.length := by omega
  have e : B.ts[(tnum u v).toNat]? = some B.ts[(tnum u v).toNat] := List.getElem?_eq_getElem hi
  have g : B.tab u v = B.ts[(tnum u v).toNat] := by unfold Book.tab; simp [List.getD, e]
  rw [g]
  exact ⟨e, ok.tab.ok _ (List.getElem_mem hi)⟩
theorem Book.cell (ok : BookOk m B) (pl : Pl m B.s u v a b) : (B.tab u v)[(a * B.s + b).toNat]? = some (B.at u v a b) ∧ InP B.s (B.at u v a b) := by
  have ht := (Book.row ok pl).2
  have hl := ht.len
  have hx := ix_lt pl.a0 pl.a1 pl.b0 pl.b1
  have hi : (a * B.s + b).toNat < (B.tab u v).length := by omega
  have e : (B.tab u v)[(a * B.s + b).toNat]? = some (B.tab u v)[(a * B.s + b).toNat] := List.getElem?_eq_getElem hi
  have g : B.at u v a b = (B.tab u v)[(a * B.s + b).toNat] := by unfold Book.at; simp [List.getD, e]
  rw [g]
  exact ⟨e, ht.inn _ (List.getElem_mem hi)⟩
theorem atI_map {α β : Type} {xs : List α} {f : α → β} {i : Int} {x : α} (h0 : 0 ≤ i) (h : xs[i.toNat]? = some x) : atI (xs.map f) i = some (f x) := by
  have hi := (List.getElem?_eq_some_iff.mp h).1
  unfold atI ixN
  rw [if_pos h0, if_pos (by rw [List.length_map]; omega)]
  show (xs.map f)[i.toNat]? = _
  rw [List.getElem?_map, h]
  rfl
end
end Wf
/-! law k03: what is due, right, the law. -/
namespace Wf
open PySem PySem.Spec L2
structure Rows (K : PySem.W.Frag) (H : Hp) (F : Addr) (ts : List Tab) : Prop where
  ex : ∃ vs, H F = some (.lst vs) ∧ DpAll K H vs (ts.map dT)
theorem Rows.same {K : PySem.W.Frag} {H H' : Hp} {F : Addr} {ts : List Tab} (h : Rows K H F ts) (s : Same H H') : Rows K H' F ts := by
  obtain ⟨vs, e1, e2⟩ := h.ex
  exact ⟨vs, s _ _ e1, DpAll.tp (Same.tp s) _ _ (noLAll_dT _) e2⟩
end Wf
/-! Data of small numbers and tuples: shown, short, of small weight and depth. -/
namespace Wf
open PySem PySem.Spec L2
end Wf
/-! for k, x in enumerate(t), t a tuple -/
namespace Wf
open PySem PySem.Spec
open AutoSeq1 (wpAny_loadPart')
theorem meets_enumT (l : Addr) (ws : Array Value) (n : Nat) (dd : Option Addr) (sl : Array (Option Value)) :
    Meets (Builtin.«enumerate.__new__» ⟨[.type "enumerate", .ref l], []⟩) (fun _ R s => s.heap.get? l = some { cls := .type "tuple", dict := dd, data := .seq ws n, slots := sl } ∧
      R (.ok (.ret (.ref (s.heap.push { cls := .type "tuple_iterator", data := .fields #[.ref l, .int 0 0] }).objs.size)))
        { s with heap := (s.heap.push { cls := .type "tuple_iterator", data := .fields #[.ref l, .int 0 0] }).push { cls := .type "enumerate", data := .fields #[.none, .bool false, .ref s.heap.objs.size, rawInt 0, .none, .none] } }) :=
  .of_wp fun prog w A R s hq => by
    obtain ⟨hp, gn, dr, tk, os⟩ := s; obtain ⟨hl, hq⟩ := hq
    have hsubE := sub_enumerate
    have hL : Heap.IsTuple (Shared.heap ⟨hp, gn, dr, tk, os⟩) l ws := ⟨_, hl, rfl, n, rfl⟩
    wp_walk using wpAny_loadPart' hl
    refine wpAny_stack_any fun stk => wpAny_pure ?_
    split
    · rename_i cc _ _ _ _ _
      cases (cc == Value.type "enumerate") <;> (wp_walk using wpAny_loadPart' hl, wpAny_pyIter_tuple hL; exact ⟨_, rfl, hq⟩)
    · wp_walk using wpAny_loadPart' hl, wpAny_pyIter_tuple hL
      exact ⟨_, rfl, hq⟩
section
variable {prog : Program} {w : World} {A : Around} {E : Value → Shared → Prop} {s : Shared}
theorem call_enumT {l : Addr} {ws : Array Value} {Q : Value → Shared → Prop} (hL : s.heap.IsTuple l ws)
    (k : ∀ h', IsEnum h' (s.heap.objs.size + 1) s.heap.objs.size 0 .none → h'.IsTupleIter s.heap.objs.size l 0 → h'.objs.size = s.heap.objs.size + 2 →
      (∀ b o, s.heap.get? b = some o → h'.get? b = some o) → Q (.ref (s.heap.objs.size + 1)) { s with heap := h' }) :
    wpAny (model prog w) A (call (.type "enumerate") [.ref l]) Q E s := by
  obtain ⟨⟨c, dd, dt, sl⟩, hl, hc, n, hd⟩ := hL
  replace hc : c = .type "tuple" := hc
  replace hd : dt = .seq ws n := hd
  subst hc hd
  refine callType_new F.called_enumerate (by decide) (F.typeCall_enumerate_1 _) (F.newCall_enumerate_1 _) (fun ob => F.args_object_init_2 ob _) F.entry_enumerate_new
    (meets_enumT l ws n dd sl) ⟨hl, ?_⟩
  have z1 : (s.heap.push { cls := .type "tuple_iterator", data := .fields #[.ref l, .int 0 0] }).objs.size = s.heap.objs.size + 1 := Heap.size_push ..
  show _ ∧ _
  rw [z1]
  have en : IsEnum ((s.heap.push { cls := .type "tuple_iterator", data := .fields #[.ref l, .int 0 0] }).push
      { cls := .type "enumerate", data := .fields #[.none, .bool false, .ref s.heap.objs.size, rawInt 0, .none, .none] }) (s.heap.objs.size + 1) s.heap.objs.size 0 .none := by
    have g := Heap.get?_push_size (s.heap.push { cls := .type "tuple_iterator", data := .fields #[.ref l, .int 0 0] })
      (o := { cls := .type "enumerate", data := .fields #[.none, .bool false, .ref s.heap.objs.size, rawInt 0, .none, .none] }) rfl
    rw [z1] at g
    exact g
  exact ⟨⟨_, en, rfl⟩, k _ en ⟨_, Heap.get?_push_of_some _ (Heap.get?_push_size _ rfl), rfl, rfl⟩ (by rw [Heap.size_push, z1]) fun b o e => Heap.get?_push_of_some _ (Heap.get?_push_of_some _ e)⟩
theorem enumT_end {e it l : Addr} {i : Nat} {ws : Array Value} {c : Int} {old : Value} {Q : Option Value → Shared → Prop} (hh : A.handled = none)
    (en : IsEnum s.heap e it c old) (hit : s.heap.IsTupleIter it l i) (hl : s.heap.IsTuple l ws) (hx : ws[i]? = none)
    (k : ∀ h', Heap.ExtBut it s.heap h' → Q none { s with heap := h' }) : wpAny (model prog w) A (pyNext (.ref e)) Q E s := by
  have ty : s.TypeIs (.ref e) "enumerate" := ⟨_, en, rfl⟩
  unfold pyNext
  refine wpAny_bind (wpAny_attempt (wpAny_callSpecial?_slot (name := Str.ofString "__next__") ty F.slot_enumerate_next (wpAny_call_entry F.slot_enumerate_next ty F.entry_enumerate_next ?_ (F.args_enumerate_next_1 _))))
  show wpAny _ _ (field (.ref e) 2 >>= _) _ _ _
  refine wpAny_bind (wpAny_field en rfl (x := .ref it) rfl (wpAny_bind (wpAny_nextOf_tuple_end hh hit hl hx fun h' x eb hx' => ?_)))
  obtain ⟨o, ho, hc⟩ := hx'
  exact wpAny_bind (wpAny_isInstance (T := "StopIteration") (b := true) ⟨o, ho, hc⟩ isSubtype_stop (wpAny_pure (k _ eb)))
end
end Wf
namespace Wf
open PySem PySem.Spec PyProof.Rows L2
/-- what is walked: the tuple at a, each thing in a new pair with its number -/
def ItT (K : PySem.W.Frag) (a : Addr) : It :=
  ⟨fun i H => ∃ (xs : List V) (x : V), SqT K H a xs ∧ xs[i]? = some x, fun i H v H' => ∃ T x, v = .ref T ∧ H T = none ∧ H' = upd H T (.tup [.int (i : Nat), x]) ∧ ∀ xs, SqT K H a xs → xs[i]? = some x, fun i H => ∃ xs : List V, SqT K H a xs ∧ xs.length ≤ i⟩
theorem apart_cls {h : Heap} {a b : Addr} {o u : Obj} {m n : String} (ha : h.get? a = some o) (hb : h.get? b = some u) (ho : o.cls = .type m) (hu : u.cls = .type n) (d : m ≠ n) : a ≠ b := fun e => by
  subst e
  rw [ha] at hb
  cases hb
  rw [ho] at hu
  exact d (by injection hu)
theorem turn_enumT {P : Program} {w : World} {K : PySem.W.Frag} {elts : List Expr} {kk : Nat} {tpos : Pos} (a e it : Addr) :
    Turn P w K (.Tuple elts kk tpos) (ItT K a) [e, it] e (fun i h => (∃ old, IsEnum h e it ((i : Nat) : Int) old) ∧ h.IsTupleIter it a i ∧ e ≠ it) where
  mem := by simp
  obj := fun i h st b hb => by
    obtain ⟨⟨old, en⟩, ⟨o, ho, hc, hd⟩, _⟩ := st
    have eb : b = e ∨ b = it := by simpa using hb
    rcases eb with rfl | rfl
    · exact ⟨_, en, fun v q => nomatch q⟩
    · exact ⟨o, ho, fun v q => by rw [hd] at q; cases q⟩
  keep := fun i h h' st kp => let ⟨⟨old, en⟩, hi, ne⟩ := st; ⟨⟨old, kp e (by simp) _ en⟩, hi.at fun o q => kp it (by simp) o q, ne⟩
  item := by
    intro X hP hw hK hc i pins s σ H E I hf st hg
    subst hP hw hK
    obtain ⟨⟨old, en⟩, hit, ne⟩ := st
    obtain ⟨xs, x, hq, hx⟩ := hg
    obtain ⟨its, rv, p, hz⟩ := I.tuple hq
    have pT : s.heap.IsTuple a its.toArray := p
    obtain ⟨u, hu, ru⟩ := rv.get hx
    have lx : i < xs.length := (List.getElem?_eq_some_iff.mp hx).1
    have lr := rv.length
    have hel : e < s.heap.objs.size := Heap.lt_size en
    have hil : it < s.heap.objs.size := by obtain ⟨_, q, _⟩ := hit; exact Heap.lt_size q
    have ae : e ≠ a := by
      obtain ⟨o, ho, hoc, _⟩ := pT
      exact apart_cls en ho rfl hoc (by decide)
    have ai : a ≠ it := by
      obtain ⟨o, ho, hoc, _⟩ := pT
      obtain ⟨o2, ho2, hoc2, _⟩ := hit
      exact apart_cls ho ho2 hoc hoc2 (by decide)
    refine wpAny_pyNext_enum_itemD (Draws.tuple (show X.A.in1.handled = none from I.ok.hd hc) it a ai its.toArray) en ⟨hit, pT⟩ (by simp; omega) ne (by simp [ne, ae]) fun y h' tk hy ho hst hT hsz hk => ?_
    have yu : y = u := by
      have : its[i]? = some y := by simpa using hy
      rw [hu] at this
      exact (Option.some.inj this).symm
    subst yu
    refine ⟨_, rfl, wpAny_letOwnedTupleGo_enum (s := { s with heap := h', toks := tk + 1 }) ho fun h2 en2 sb => ?_⟩
    have hT2 : h2.get? s.heap.objs.size = some { cls := .type "tuple", data := .seq #[.int i tk, y] } := (sb.2 _ (Nat.ne_of_gt hel)).trans hT
    have ok2 : ObjOk X.prog X.w (upd H s.heap.objs.size (.tup [.int (i : Nat), x])) h2 s.heap.objs.size (.tup [.int (i : Nat), x]) :=
      ⟨by show 2 ≤ sizeLine; decide, [.int i tk, y], .cons ⟨_, rfl⟩ (.cons ru .nil), ⟨_, hT2, rfl, _, rfl⟩⟩
    have I2 : Inv X pins σ (upd H s.heap.objs.size (.tup [.int (i : Nat), x])) { s with heap := h2, toks := tk + 1 } :=
      I.turnedNew (ch := [e, it]) (fun b ob hb q => (sb.2 b (fun z => hb (by simp [z]))).trans (hk b ob (fun z => hb (by simp [z])) (fun z => hb (by simp [z])) q)) hf (Nat.le_refl _) ok2
    refine ⟨.ref s.heap.objs.size, _, I2, rfl, ⟨_, x, rfl, I.hok.fresh (Nat.le_refl _), rfl, fun ys hy2 => by rw [I.tuple_inj hy2 hq]; exact hx⟩, ⟨⟨y, ?_⟩, hst.1.at fun o q => (sb.2 it (Ne.symm ne)).trans q, ne⟩, fun b hb => ?_⟩
    · rw [show ((i + 1 : Nat) : Int) = (i : Int) + 1 by omega]
      exact en2
    · have lb : b < s.heap.objs.size := by
        have eb : b = e ∨ b = it := by simpa using hb
        rcases eb with rfl | rfl
        · exact hel
        · exact hil
      rw [upd_ne (Nat.ne_of_lt lb)]
      exact (hf b hb).1
  done := by
    intro X hP hw hK hc i pins s σ H E I hf st hg
    subst hP hw hK
    obtain ⟨⟨old, en⟩, hit, ne⟩ := st
    obtain ⟨xs, hq, hx⟩ := hg
    obtain ⟨its, rv, p, hz⟩ := I.tuple hq
    have pT : s.heap.IsTuple a its.toArray := p
    obtain ⟨f0, f1, f2, f3, f4, f5⟩ := hf it (by simp)
    have lr := rv.length
    have ai : a ≠ it := by
      obtain ⟨o, ho, hoc, _⟩ := pT
      obtain ⟨o2, ho2, hoc2, _⟩ := hit
      exact apart_cls ho ho2 hoc hoc2 (by decide)
    refine enumT_end (I.ok.hd hc) en hit pT (by simp; omega) fun h' eb => ⟨rfl, I.turned (t' := s.toks) (fun b o hb q => eb b o hb q) f0 f1 f3 f4 f5⟩
  self := fun A i s Q E st h => let ⟨⟨_, en⟩, _⟩ := st; wpAny_pyIter_enum en h
end Wf
/-! Own errors over an own base over ValueError: their __init__, raised, caught. -/
namespace Wf
open PySem PySem.Spec PyProof.Rows L2
/-- the base class x, at C0, whose __init__ is ValueError's -/
structure BaseC (K : PySem.W.Frag) (mg : Str → Option Value) (x : Str) (C0 : Addr) : Prop where
  g : mg x = some (.ref C0)
  rd : PySem.W.readsIn K C0 (.type "type") = true
  ga : PySem.W.specialIn K (.ref C0) "__getattribute__" = some (some (.builtin "type.__getattribute__"))
  at_ : PySem.W.findCls K (.ref C0) (.type "type") "__init__" = some (.val (.builtin "ValueError.__init__"))
section
variable {X : Cx} {e : Expr} {es : List Expr} {ta : TA} {p1 p2 pos : Pos} {x : Str} {C0 : Addr}
/-- x.__init__(self, ..) -/
theorem pe_binit {pl : Sem Bool} (T : BaseC X.K X.mg x C0) (hg : Gl X x) (ha : PA X (e :: es) ta) (hdb : (x == ("__debug__" : Str)) = false := by decide)
    (hc : eval (.Call (.Attribute (.Name x p1) "__init__" p2) (e :: es) [] pos) X.env = (do
      let ov ← eval (.Name x p1) X.env
      standAt p2.atName
      let (f, first) ← holding [ov] (getMethod ov "__init__" pl)
      callWith pos f first (backTo pos (starEach (e :: es) X.env)) (backToKw pos (keywordEach [] X.env))) := by rfl)
    (he : starEach (e :: es) X.env = (false, eval e X.env) :: starEach es X.env := by rfl) (hpl : (backTo pos (starEach es X.env)).any (·.1) = false := by rfl) :
    PE X (.Call (.Attribute (.Name x p1) "__init__" p2) (e :: es) [] pos) (tVeI X.K ta) := by
  refine ⟨fun pins s σ H Q I h => ?_⟩
  refine PySem.W.methodCall_KW (ld_glob I hg T.g ?_ hdb) hc
  refine PySem.W.method_cls I.kIn T.ga (PySem.W.cls_value I.kIn T.rd T.at_ (by decide +kernel) ?_)
  show wpAny _ _ (callWith pos (Value.builtin "ValueError.__init__") [] (backTo pos (starEach (e :: es) X.env)) []) _ _ _
  refine PyProof.Rows.callWith_method1 (thn (ha.run pos pins _ σ H _ (I.tok _) h) fun us s1 ⟨vs, H1, I1, r1, a, C, ws, ev, hl, O, ea, q⟩ => ?_) he hpl
  subst ev
  cases r1 with
  | @cons _ u0 _ ur ra rw' =>
    obtain rfl : u0 = Value.ref a := ra
    have hlen : ur.length ≤ sizeLine := by
      rw [← Paired.length rw', sizeLine_eq]
      omega
    exact oinit_ok O I1 ea hlen fun s' J => ⟨.non, H1, J, rfl, q⟩
end
/-! ### readings may be widened -/
def up (ta : TA) : TA := fun σ H Q => ∃ Q' : List V → Hp → Prop, ta σ H Q' ∧ ∀ vs H1, Q' vs H1 → Q vs H1
theorem pa_up {X : Cx} {es : List Expr} {ta : TA} (h : PA X es ta) : PA X es (up ta) := by
  refine ⟨fun pos pins s σ H Q I q => ?_⟩
  obtain ⟨Q', h1, h2⟩ := q
  exact thn (h.run pos pins s σ H Q' I h1) fun us s1 ⟨vs, H1, I1, r1, q1⟩ => ⟨vs, H1, I1, r1, h2 vs H1 q1⟩
/-! ### __init__(self, f1, f2): the base's, then both fields -/
def sp_init2 (K : PySem.W.Frag) (C : Addr) (f1 f2 : Str) : Sp := fun vs H Q _ => ∃ (a : Addr) (w n : V), vs = [.ref a, w, n] ∧ H a = some (exo a C none) ∧
  ∀ dx, H dx = none → dx ≠ a → Q .non (upd (upd (upd H dx (exd dx [(f1, w)])) a (exo a C (some dx))) dx (exd dx [(f2, n), (f1, w)]))
def t_init2 (K : PySem.W.Frag) (f1 f2 txt : Str) : TS := tSeq (tDrop (tVeI K (tCons (tVar 0) (tCons (tC (.str txt)) tNil)))) (tSeq (tOst K f1 (tVar 0) (tVar 1)) (tOst K f2 (tVar 0) (tVar 2)))
theorem pure_init2 {K : PySem.W.Frag} {C : Addr} {f1 f2 txt : Str} (O : OexC K C) (n1 : PySem.W.findIn K (.ref C) f1 = some none) (n2 : PySem.W.findIn K (.ref C) f2 = some none) (vs : List V) (H : Hp) (Q : VK) (E : XK) (h : sp_init2 K C f1 f2 vs H Q E) :
    t_init2 K f1 f2 txt (EndsQ Q) (sN 3 vs) H := by
  obtain ⟨a, w, n, rfl, ha, k⟩ := h
  show t_init2 K f1 f2 txt _ [some (.ref a), some w, some n] H
  refine ⟨_, rfl, a, C, [.str txt], rfl, (by show 1 ≤ 1000; decide), O, ha, ?_⟩
  refine ⟨_, rfl, _, rfl, a, C, rfl, O, n1, .inl ⟨ha, fun dx hd ne => ?_⟩⟩
  refine ⟨_, rfl, _, rfl, a, C, rfl, O, n2, .inr ⟨dx, [(f1, w)], upd_same, ?_, (by show 1 ≤ 900; decide), k dx hd ne⟩⟩
  rw [upd_ne ne]
  exact upd_same
/-- an error class x at C with two fields -/
structure Err2 (P : Program) (w : World) (K : PySem.W.Frag) (mg : Str → Option Value) (base : Heap) (x f1 f2 : Str) (C : Addr) : Prop where
  g : mg x = some (.ref C)
  o : OexC K C
  ini : ∃ fI fd, PySem.W.findIn K (.ref C) "__init__" = some (some (.ref fI)) ∧ PySem.W.typeIn K (.ref fI) = some (.type "function") ∧ FnOk P w K mg base CX0 1 fI fd ["self", f1, f2] (sp_init2 K C f1 f2) ∧ Binds K fd ["self", f1, f2] []
/-- raise x(e, e2) -/
def tRz2 (C : Addr) (f1 f2 : Str) (W : WX) (ta : TA) : TS := fun _ σ H => ta σ H fun vs H1 => ∃ w n, vs = [w, n] ∧ ∀ d, H1 d = none → W (.ref C) (some d) σ (upd H1 d (.xd [(f2, n), (f1, w)]))
theorem ps_rz2 {X : Cx} {x f1 f2 : Str} {C : Addr} {W : WX} {e1 e2 : Expr} {ta : TA} {p pos pos2 : Pos} {j : Nat} (T : Err2 X.prog X.w X.K X.mg X.base x f1 f2 C) (hr : Room j X.A) (hc : X.calm = true) (tk : Takes X W) (hg : Gl X x) (ha : PA X [e1, e2] ta) (hk : 2 ≤ j := by decide)
    (hdb : (x == ("__debug__" : Str)) = false := by decide) (he : starEach (e1 :: [e2]) X.env = (false, eval e1 X.env) :: starEach [e2] X.env := by rfl) (hpl : (backTo pos (starEach [e2] X.env)).any (·.1) = false := by rfl) :
    PS X (.Raise (some (.Call (.Name x p) [e1, e2] [] pos)) none pos2) (tRz2 C f1 f2 W ta) := by
  obtain ⟨fI, fd, iC, tI, F, hb⟩ := T.ini
  have R := ps_raise (pos := pos2) hc tk (pmk_oex (p := p) (pos := pos) T.o iC tI F (hr.mono hk) hb .nil pass0 hg T.g (pa_up ha) hdb he hpl)
  refine ⟨fun pins s σ H D I h => R.run pins s σ H D I ⟨_, h, fun vs H1 q => ?_⟩⟩
  obtain ⟨w, n, rfl, q⟩ := q
  refine ⟨by show 2 ≤ 1000; decide, fun a ha1 => ⟨a, w, n, rfl, upd_same, fun dx hd ne => ⟨rfl, dx, [(f2, n), (f1, w)], ?_, upd_same, ?_, ?_⟩⟩⟩
  · rw [upd_ne (Ne.symm ne), upd_same]
  · rw [upd_ne ne] at hd
    exact hd
  · have hd1 : H1 dx = none := by
      rw [upd_ne ne] at hd
      exact hd
    have ef : upd (del (upd (upd (upd (upd H1 a (exo a C none)) dx (exd dx [(f1, w)])) a (exo a C (some dx))) dx (exd dx [(f2, n), (f1, w)])) a) dx (.xd [(f2, n), (f1, w)]) = upd H1 dx (.xd [(f2, n), (f1, w)]) := by
      funext b
      by_cases h1 : b = dx
      · rw [h1, upd_same, upd_same]
      · rw [upd_ne h1, upd_ne h1]
        by_cases h2 : b = a
        · rw [h2, del_same, ha1]
        · rw [del_ne h2, upd_ne h1, upd_ne h2, upd_ne h1, upd_ne h2]
    rw [ef]
    exact q dx hd1
/-! ### calls of defs that may raise -/
abbrev CalX (P : Program) (w : World) (K : PySem.W.Frag) (mg : Str → Option Value) (base : Heap) (k : Nat) (x : Str) (ps : List Str) (sp : Sp) : Prop := Cal P w K mg base (L2.CX P w) k x ps sp
theorem pe_calX {X : Cx} {k j : Nat} {x : Str} {ps : List Str} {sp : Sp} {W : WX} {E : XK} {e : Expr} {es : List Expr} {t : TA} {p pos : Pos} (C : CalX X.prog X.w X.K X.mg X.base k x ps sp) (hr : Room j X.A) (tk : Takes X W) (hW : ∀ cls d σ H, E cls d H → W cls d σ H) (hg : Gl X x) (ha : PA X (e :: es) t) (hk : k ≤ j := by decide)
    (hdb : (x == ("__debug__" : Str)) = false := by decide) (he : starEach (e :: es) X.env = (false, eval e X.env) :: starEach es X.env := by rfl) (hpl : (backTo pos (starEach es X.env)).any (·.1) = false := by rfl) :
    PE X (.Call (.Name x p) (e :: es) [] pos) (tCall sp [] E t) := by
  obtain ⟨f, fd, G, m, kp, b⟩ := C.ex
  exact pe_call G (hr.mono hk) hg m kp b .nil (passes_call tk hW) ha hdb he hpl
/-- .. in the body of a try -/
theorem pe_calT {X : Cx} {k j : Nat} {x : Str} {ps : List Str} {sp : Sp} {W : WX} {e : Expr} {es : List Expr} {t : TA} {p pos : Pos} (C : CalX X.prog X.w X.K X.mg X.base k x ps sp) (hr : Room j X.A) (tk : Takes X W) (hg : Gl X x) (ha : PA X (e :: es) t) (hk : k ≤ j := by decide)
    (hdb : (x == ("__debug__" : Str)) = false := by decide) (he : starEach (e :: es) X.env = (false, eval e X.env) :: starEach es X.env := by rfl) (hpl : (backTo pos (starEach es X.env)).any (·.1) = false := by rfl) :
    PE X (.Call (.Name x p) (e :: es) [] pos) (tCallS sp (WE W) t) := by
  obtain ⟨f, fd, G, m, kp, b⟩ := C.ex
  exact pe_callS G (hr.mono hk) hg m kp b (fun σ => passAt tk σ) ha hdb he hpl
/-! ### isinstance of the caught error, its fields told -/
structure IsC (K : PySem.W.Frag) (C : Addr) : Prop where
  cl : (PySem.W.clsIn K C).isSome = true
  ga : PySem.W.findIn K (.ref C) "__getattribute__" = some (some (.builtin "BaseException.__getattribute__"))
  gg : PySem.W.findIn K (.ref C) "__getattr__" = some none
  su : PySem.W.subIn K (.ref C) (.type "BaseException") = some true
  ha : PySem.W.findIn K (.ref C) "__class__" = some (some (.builtin "object.__class__"))
  hn : PySem.W.specialIn K (.builtin "object.__class__") "__get__" = some (some (.builtin "getset_descriptor.__get__"))
  ht : PySem.W.takesIn K (.builtin "object.__class__") = some true
  hm : PySem.W.mroIn K C (.type "object") = some true
def rIsX (K : PySem.W.Frag) (a : Addr) (cls : Value) (d : Option Addr) : List V → Hp → VK → Prop := fun xs H Q => ∃ (C dd : Addr) (fs : List (Str × V)) (c : V) (b : Bool), cls = .ref C ∧ IsC K C ∧ d = some dd ∧ H dd = some (.xd fs) ∧
  ((∃ u, xs = [.ref a, c] ∧ ClsV c u ∧ PySem.W.kitOne K (.ref C) u = some b) ∨ ∃ tp cs us, xs = [.ref a, .ref tp] ∧ H tp = some (.tup cs) ∧ Paired ClsV cs us ∧ PySem.W.kitAny K (.ref C) us = some b) ∧ Q (.bl b) H
theorem call_isX {X : Cx} {a : Addr} {cls : Value} {d : Option Addr} {oe : Obj} {pn : List (Addr × Obj)} (hz : Zc cls d oe) (hf : ∃ vs, oe.data = .fields vs) : CallR (X.suite a ((a, oe) :: pn)) (.builtin "isinstance") (rIsX X.K a cls d) := by
  intro pins s σ H xs us Q I r h
  obtain ⟨C, dd, fs, c, b, rfl, T, rfl, hdd, alt, q⟩ := h
  obtain ⟨ha, _⟩ := I.pin (a, oe) (List.mem_append_left _ List.mem_cons_self)
  obtain ⟨vs, hd⟩ := hf
  have hx : ObjOk X.prog X.w H s.heap dd (.xd fs) := I.hok dd _ hdd
  obtain ⟨mA, hns, hr⟩ := hx
  obtain ⟨od, ho, hl⟩ := lookIn_ns hns
  have J : PySem.W.InstAt s.heap a oe C (some od) := ⟨ha, hz.1, by unfold PySem.W.notCls; rw [hd] <;> rfl, by rw [hz.2]; exact ho⟩
  have Z := PySem.W.kitx_exc (x := a) (ox := oe) (od := some od) T.cl T.ga T.gg T.su T.ha T.hn T.ht T.hm
  rcases alt with ⟨u, rfl, kc, e⟩ | ⟨tp, cs, ws, rfl, hT, kc, e⟩
  · obtain ⟨u1, u2, rfl, r1, r2⟩ := vals2 r
    cases (show u1 = Value.ref a from r1)
    have e2 := kc.eq r2
    subst e2
    exact PySem.W.kia_one Z I.kIn J e (fun z => nomatch z) fun tk => ⟨.bl b, H, I.tok tk, rfl, q⟩
  · obtain ⟨u1, u2, rfl, r1, r2⟩ := vals2 r
    cases (show u1 = Value.ref a from r1)
    cases (show u2 = Value.ref tp from r2)
    obtain ⟨_, its, rv, o, h1, h2, n, h3⟩ := (show ObjOk X.prog X.w H s.heap tp (.tup cs) from I.hok tp _ hT)
    have e3 := ClsV.all kc rv
    subst e3
    obtain ⟨oc, odd, dt, sl⟩ := o
    simp only at h2 h3
    subst h2 h3
    exact PySem.W.kia_tup Z I.kIn J h1 e (fun z => nomatch z) fun tk => ⟨.bl b, H, I.tok tk, rfl, q⟩
end Wf
/-! Keys that are tuples of tuples of numbers; dicts told by their one object. -/
namespace Wf
open PySem PySem.Spec L2
section
variable (P : Program) (w : World)
inductive ItR (h : Heap) : List (List Int) → List Value → Prop
  | nil : ItR h [] []
  | cons {l : List Int} {b : Addr} {ks : List (List Int)} {vs : List Value} : IsTupleKey (intKind P w) h l b → ItR h ks vs → ItR h (l :: ks) (.ref b :: vs)
def IsRow (h : Heap) (ks : List (List Int)) (a : Addr) : Prop := ∃ o items n, h.get? a = some o ∧ o.cls = .type "tuple" ∧ o.data = .seq items n ∧ ItR P w h ks items.toList
end
def numHash (l : List Int) : Int := reduceHash (Builtin.Tuple.tupleHashOf (l.map hashInt))
def rowHash (ks : List (List Int)) : Int := reduceHash (Builtin.Tuple.tupleHashOf (ks.map numHash))
section
variable {P : Program} {w : World} {A : Around} {E : Value → Shared → Prop} {s : Shared}
theorem ItR.inj {h : Heap} {x y : List (List Int)} {vs : List Value} (hx : ItR P w h x vs) (hy : ItR P w h y vs) : x = y := by
  induction hx generalizing y with
  | nil => cases hy; rfl
  | cons h1 _ ih =>
    cases hy with
    | cons h2 t2 => rw [h1.inj h2, ih t2]
theorem IsRow.typeIs {ks : List (List Int)} {a : Addr} (x : IsRow P w s.heap ks a) : s.TypeIs (.ref a) "tuple" := let ⟨o, _, _, ho, hc, _⟩ := x; ⟨o, ho, hc⟩
theorem IsRow.inj {h : Heap} {a : Addr} {x y : List (List Int)} (hx : IsRow P w h x a) (hy : IsRow P w h y a) : x = y := by
  obtain ⟨o, items, n, ho, _, hd, hi⟩ := hx
  obtain ⟨o', items', n', ho', _, hd', hi'⟩ := hy
  obtain rfl : o = o' := Option.some.inj (ho.symm.trans ho')
  rw [hd] at hd'
  injection hd' with h1 _
  subst h1
  exact hi.inj hi'
theorem ItR.keeps {h h' : Heap} {d : Addr} {o : Obj} {es ep} (ho : h.get? d = some o) (hd : o.data = .dict es ep) (hs : Heap.SameBut d h h') {ks : List (List Int)} {vs : List Value} (x : ItR P w h ks vs) : ItR P w h' ks vs := by
  induction x with
  | nil => exact .nil
  | cons h1 _ ih => exact .cons (h1.keeps ho hd hs) ih
theorem IsRow.keeps {h h' : Heap} {ks : List (List Int)} {a d : Addr} {o : Obj} {es ep} (x : IsRow P w h ks a) (ho : h.get? d = some o) (hd : o.data = .dict es ep) (hs : Heap.SameBut d h h') : IsRow P w h' ks a := by
  obtain ⟨o', items, n, ho', hc, hd', hi⟩ := x
  have hne : a ≠ d := by
    rintro rfl
    obtain rfl : o' = o := Option.some.inj (ho'.symm.trans ho)
    rw [hd] at hd'; exact nomatch hd'
  exact ⟨o', items, n, (hs.2 a hne).trans ho', hc, hd', hi.keeps ho hd hs⟩
end
/-- the keys: tuples of numbers, rows -/
abbrev KyT : Bool → Type
  | false => List Int
  | true => List (List Int)
instance kyDec : (r : Bool) → DecidableEq (KyT r)
  | false => inferInstanceAs (DecidableEq (List Int))
  | true => inferInstanceAs (DecidableEq (List (List Int)))
def kyHash : (r : Bool) → KyT r → Int
  | false => numHash
  | true => rowHash
/-- the datum of a key -/
def kyD : (r : Bool) → KyT r → PyData
  | false, l => .tuple (l.map .int)
  | true, ks => .tuple (ks.map fun l => .tuple (l.map .int))
def entD (r : Bool) (x : KyT r × Addr × Value) : DictEntry := ⟨kyHash r x.1, .ref x.2.1, x.2.2⟩
/-- the object of a dict -/
def DctO (a : Addr) (r : Bool) (ks : List (KyT r)) (bs : List Addr) (us : List V) : HO := .ext fun h =>
  ∃ ws : List Value, Vals us ws ∧ ∃ o es ep, h.get? a = some o ∧ o.ExactDict ∧ o.data = .dict es ep ∧ es.toList = (ks.zip (bs.zip ws)).map (entD r)
/-- some heap has a dict there -/
def OwnD (φ : Heap → Prop) (a : Addr) : Prop := ∃ h : Heap, φ h ∧ ∃ o es ep, h.get? a = some o ∧ o.data = .dict es ep
end Wf
/-! By value: what a def does, told of data alone. Things that never change are data; a list of one's own is told by its items, by the slot that holds it. -/
namespace Pv
open PySem PySem.Spec L2 Wf
/-- what stands and stays below a def, and the tables of code -/
structure Bas where
  hp : Hp
  ht : Hp
  T : List NdefX.NTab
/-- tables of code grow -/
structure TbG (T : List NdefX.NTab) (H H' : Hp) : Prop where
  ts : NdefX.TabsN T H → NdefX.TabsN T H'
  st : ∀ a ps, H a = some (.tbl ps) → ∃ qs, H' a = some (.tbl qs)
theorem TbG.refl {T : List NdefX.NTab} {H : Hp} : TbG T H H := ⟨fun h => h, fun _ ps h => ⟨ps, h⟩⟩
theorem TbG.trans {T : List NdefX.NTab} {H H1 H2 : Hp} (a : TbG T H H1) (b : TbG T H1 H2) : TbG T H H2 := ⟨fun h => b.ts (a.ts h), fun x ps h => by
  obtain ⟨qs, h1⟩ := a.st x ps h
  exact b.st x qs h1⟩
theorem TbG.same {T : List NdefX.NTab} {H H' : Hp} (s : Same H H') : TbG T H H' := ⟨fun t => t.ext s, fun _ ps h => ⟨ps, s _ _ h⟩⟩
instance : CoeFun Bas fun _ => Hp := ⟨Bas.hp⟩
variable {B : Bas} {T : List NdefX.NTab}
/-! ### data: None, truths, numbers, texts, tuples, lists that change no more -/
mutual
inductive Dq (K : PySem.W.Frag) (G : Hp) : V → PyData → Prop
  | non : Dq K G .non .none
  | bl (b : Bool) : Dq K G (.bl b) (.bool b)
  | int (i : Int) : Dq K G (.int i) (.int i)
  | str (x : Str) : Dq K G (.str x) (.str x)
  | lst {a : Addr} {xs : List V} {ds : List PyData} : G a = some (.lst xs) → DqAll K G xs ds → Dq K G (.ref a) (.list ds)
  | tup {a : Addr} {xs : List V} {ds : List PyData} : SqT K G a xs → DqAll K G xs ds → Dq K G (.ref a) (.tuple ds)
inductive DqAll (K : PySem.W.Frag) (G : Hp) : List V → List PyData → Prop
  | nil : DqAll K G [] []
  | cons {v : V} {vs : List V} {d : PyData} {ds : List PyData} : Dq K G v d → DqAll K G vs ds → DqAll K G (v :: vs) (d :: ds)
end
/-- an error's fields -/
inductive Fl (K : PySem.W.Frag) (G : Hp) : List (Str × V) → List (Str × PyData) → Prop
  | nil : Fl K G [] []
  | cons {x : Str} {v : V} {d : PyData} {us : List (Str × V)} {fs : List (Str × PyData)} : Dq K G v d → Fl K G us fs → Fl K G ((x, v) :: us) ((x, d) :: fs)
/-- a lambda that holds nothing: its name, parameters, body, scope, where its code object stands -/
structure LF where
  qual : Str
  params : Arguments
  body : Expr
  scope : Scope
  c : Addr
def LamO (f : Addr) (F : LF) : HO := .ext fun h => ∃ pm ctv : Value, h.get? f = some (PySem.W.kla_obj "<lambda>" F.qual F.params F.body F.scope [] pm F.c ctv)
theorem lamO_ne {f : Addr} {F : LF} (ps : Array Value) : LamO f F ≠ .tbl ps := fun z => by
  unfold LamO at z
  cases z
/-- a thing of one's own: a list of data, the dict of draws, the script; a tuple whose object is known; a lambda; a dict by tuples of numbers -/
inductive O where
  | lst (ds : List PyData)
  | deal
  | scr (ns : List Int)
  | ptl (ds : List PyData)
  | lam (F : LF)
  | dic (ks : List (List Int)) (ds : List PyData)
  | dct (r : Bool) (ks : List (KyT r)) (ds : List PyData)
  | lls (bs : List Addr) (dss : List (List PyData))
def dicK (ks : List (List Int)) (us : List V) : List (List Key × V) := (ks.map fun k => k.map Sum.inl).zip us
/-- what a slot holds: not known; data; a thing of one's own (pin: a parameter's, the slot is not stored to); a caught error -/
inductive Sl where
  | un
  | im (d : PyData)
  | ow (pin : Bool) (o : O)
  | ex (a dd C : Addr) (fs : List (Str × PyData))
/-- what an expression gives: data; a new thing of one's own; what slot i holds -/
inductive R where
  | im (d : PyData)
  | ow (o : O)
  | at (i : Nat)
mutual
/-- data; where it is a tuple its object is known, and so within -/
inductive Kn (K : PySem.W.Frag) (G : Hp) : V → PyData → Prop
  | any {v : V} {d : PyData} : Dq K G v d → (∀ es, d ≠ .tuple es) → Kn K G v d
  | tup {p : Addr} {o : Obj} {us : List V} {ds : List PyData} : G p = some (.frz o (.tup us)) → o.cls = .type "tuple" → o.dict = none → KnAll K G us ds → Kn K G (.ref p) (.tuple ds)
inductive KnAll (K : PySem.W.Frag) (G : Hp) : List V → List PyData → Prop
  | nil : KnAll K G [] []
  | cons {v : V} {d : PyData} {vs : List V} {ds : List PyData} : Kn K G v d → KnAll K G vs ds → KnAll K G (v :: vs) (d :: ds)
end
section
variable (K : PySem.W.Frag)
/-- lists of one's own, each with its data -/
inductive InL (G H : Hp) (m : Addr → Prop) : List Addr → List (List PyData) → Prop
  | nil : InL G H m [] []
  | cons {b : Addr} {us : List V} {ds : List PyData} {bs : List Addr} {dss : List (List PyData)} : m b → H b = some (.lst us) → DqAll K G us ds → InL G H m bs dss → InL G H m (b :: bs) (ds :: dss)
def RO (G H : Hp) (m : Addr → Prop) (v : V) : O → Prop
  | .lst ds => ∃ a us, v = .ref a ∧ m a ∧ H a = some (.lst us) ∧ DqAll K G us ds
  | .deal => ∃ d l, v = .ref d ∧ m d ∧ m l ∧ Deal H d l
  | .scr ns => ∃ a, v = .ref a ∧ ((∃ o, m a ∧ H a = some (.frz o (.lst (ns.map V.int)))) ∨ ∀ H1, SqL K H1 a (ns.map V.int))
  | .ptl ds => ∃ p o us, v = .ref p ∧ G p = some (.frz o (.tup us)) ∧ o.cls = .type "tuple" ∧ o.dict = none ∧ DqAll K G us ds ∧ KnAll K G us ds
  | .lam F => ∃ f, v = .ref f ∧ G f = some (LamO f F) ∧ G F.c = some (LamX.CodeO F.c F.qual)
  | .dic ks ds => ∃ a us, v = .ref a ∧ m a ∧ H a = some (.dT (dicK ks us)) ∧ us.length = ks.length ∧ DqAll K G us ds
  | .dct r ks ds => ∃ a bs us, v = .ref a ∧ m a ∧ H a = some (DctO a r ks bs us) ∧ ((a == sysModules) = false ∧ ks.length ≤ sizeLine ∧ ks.Nodup ∧ us.length = ks.length ∧ bs.length = ks.length) ∧ DqAll K G (bs.map V.ref) (ks.map (kyD r)) ∧ DqAll K G us ds
  | .lls bs dss => ∃ a, v = .ref a ∧ m a ∧ H a = some (.lst (bs.map V.ref)) ∧ (a :: bs).Nodup ∧ InL K G H m bs dss
def SlR (G H : Hp) (m : Addr → Prop) (o : Option (Option V)) : Sl → Prop
  | .un => True
  | .im d => ∃ v, o = some (some v) ∧ Dq K G v d
  | .ow _ ob => ∃ v, o = some (some v) ∧ RO K G H m v ob
  | .ex a dd _ fs => o = some (some (.ref a)) ∧ ∃ us, G dd = some (.xd us) ∧ Fl K G us fs
def RR (G H : Hp) (σ : St) (m : Addr → Prop) (v : V) : R → Prop
  | .im d => Dq K G v d
  | .ow o => RO K G H m v o
  | .at i => σ[i]? = some (some v)
/-- no table of code -/
def NT (o : HO) : Prop := ∀ ps, o ≠ .tbl ps
/-- a thing that nobody owns: a tuple, a code object, a lambda -/
def RdX (H : Hp) (a : Addr) : Option (List V) → Prop
  | some xs => Rd H a (.tup xs)
  | none => ∃ φ, H a = some (.ext φ) ∧ ¬ OwnD φ a
def NoX (H : Hp) (a : Addr) : Prop := ∀ xs, ¬ RdX H a xs
theorem NoX.t {H : Hp} {a : Addr} (n : NoX H a) : NoT H a := fun xs => n (some xs)
theorem RdX.same {H H' : Hp} {a : Addr} {o : HO} (e : H a = some o) (e2 : H' a = some o) : ∀ {xs : Option (List V)}, RdX H' a xs → RdX H a xs
  | some xs, z => by
    rcases z with z | ⟨ob, z⟩
    · rw [e2] at z; cases z; exact .inl e
    · rw [e2] at z; cases z; exact .inr ⟨ob, e⟩
  | none, ⟨φ, z, n⟩ => ⟨φ, by rw [e2] at z; rw [e, z], n⟩
theorem NoX.same {H H' : Hp} {a : Addr} {o : HO} (e : H a = some o) (e2 : H' a = some o) (n : NoX H a) : NoX H' a := fun xs z => n xs (RdX.same e e2 z)
theorem NoX.of {H : Hp} {a : Addr} {o : HO} (e : H a = some o) (n1 : ∀ xs, o ≠ .tup xs) (n2 : ∀ ob xs, o ≠ .frz ob (.tup xs)) (n3 : ∀ φ, o ≠ .ext φ) : NoX H a
  | some xs, z => by
    rcases z with z | ⟨ob, z⟩
    · rw [e] at z; cases z; exact n1 _ rfl
    · rw [e] at z; cases z; exact n2 _ _ rfl
  | none, ⟨φ, z, _⟩ => by rw [e] at z; cases z; exact n3 _ rfl
theorem NoX.own {H : Hp} {a : Addr} {φ : Heap → Prop} (e : H a = some (.ext φ)) (n : OwnD φ a) : NoX H a
  | some xs, z => by
    rcases z with z | ⟨ob, z⟩ <;> · rw [e] at z; cases z
  | none, ⟨ψ, z, n2⟩ => by rw [e] at z; cases z; exact n2 n
theorem NoX.tbl {H : Hp} {a : Addr} {ps : Array Value} (e : H a = some (.tbl ps)) : NoX H a := NoX.of e (fun _ z => by cases z) (fun _ _ z => by cases z) fun _ z => by cases z
theorem NoX.lst {H : Hp} {a : Addr} {ps : List V} (e : H a = some (.lst ps)) : NoX H a := NoX.of e (fun _ z => by cases z) (fun _ _ z => by cases z) fun _ z => by cases z
theorem RdX.upd {H : Hp} {a p : Addr} {o : HO} (h : a ≠ p) : ∀ {xs : Option (List V)}, RdX (upd H p o) a xs → RdX H a xs
  | some xs, z => by
    rcases z with z | ⟨ob, z⟩
    · rw [upd_ne h] at z; exact .inl z
    · rw [upd_ne h] at z; exact .inr ⟨ob, z⟩
  | none, ⟨φ, z, n⟩ => ⟨φ, by rw [upd_ne h] at z; exact z, n⟩
theorem RdX.ne {H : Hp} {a : Addr} : ∀ {xs : Option (List V)}, RdX H a xs → H a ≠ none
  | some xs, z, e => by
    rcases z with z | ⟨ob, z⟩ <;> · rw [e] at z; cases z
  | none, ⟨φ, z, _⟩, e => by rw [e] at z; cases z
structure BsOk (B : Bas) (G H : Hp) (w : Addr → Option Nat) : Prop where
  to : ∀ a o, B a = some o → H a = some o ∧ w a = none ∧ NT o
  tt : TbG B.T B.ht H
  ta : NdefX.TabsN B.T B.ht
  gt : ∀ a ps, G a ≠ some (.tbl ps)
/-- G: what never changes any more; w: whose an address is (2 i: slot i's, 2 j + 1: value j's) -/
structure Rep (B : Bas) (G H : Hp) (σ : St) (δ : List Sl) (vs : List V) (rs : List R) (w : Addr → Option Nat) : Prop where
  sub : Same G H
  out : ∀ a i, w a = some i → G a = none ∧ H a ≠ none ∧ NoX H a
  len : σ.length = δ.length
  sl : ∀ i s, δ[i]? = some s → SlR K G H (fun a => w a = some (2 * i)) σ[i]? s
  tlen : vs.length = rs.length
  tm : ∀ j v r, vs[j]? = some v → rs[j]? = some r → RR K G H σ (fun a => w a = some (2 * j + 1)) v r
  bs : BsOk B G H w
end
def Pn (δ δ' : List Sl) : Prop := ∀ (i : Nat) (o : O), δ[i]? = some (Sl.ow true o) → ∃ o', δ'[i]? = some (Sl.ow true o')
/-- a step: what is public stays so, what is not ours stays as it is, but tables of code -/
structure Stp (T : List NdefX.NTab) (G H : Hp) (w : Addr → Option Nat) (δ : List Sl) (G' H' : Hp) (w' : Addr → Option Nat) (δ' : List Sl) : Prop where
  g : Same G G'
  b : ∀ a o, w a = none → H a = some o → H' a = some o ∨ ∃ ps qs, o = .tbl ps ∧ H' a = some (.tbl qs)
  n : ∀ a i, w' a = some i → w a ≠ none ∨ H a = none
  p : ∀ a o, G' a = some o → G a = some o ∨ H a = none ∨ w a ≠ none ∨ ∃ xs, RdX H a xs
  pn : Pn δ δ'
  t : TbG T H H'
  q : ∀ a ps, G' a = some (.tbl ps) → G a = some (.tbl ps)
/-- a step that leaves the tables as they are -/
structure StpO (G H : Hp) (w : Addr → Option Nat) (δ : List Sl) (G' H' : Hp) (w' : Addr → Option Nat) (δ' : List Sl) : Prop where
  g : Same G G'
  b : ∀ a o, w a = none → H a = some o → H' a = some o
  n : ∀ a i, w' a = some i → w a ≠ none ∨ H a = none
  p : ∀ a o, G' a = some o → G a = some o ∨ H a = none ∨ w a ≠ none ∨ ∃ xs, RdX H a xs
  pn : Pn δ δ'
theorem w_stay {H : Hp} {w w' : Addr → Option Nat} (n : ∀ a i, w' a = some i → w a ≠ none ∨ H a = none) {a : Addr} {o : HO} (h1 : w a = none) (h2 : H a = some o) : w' a = none := by
  cases e : w' a with
  | none => rfl
  | some i =>
    rcases n a i e with z | z
    · exact absurd h1 z
    · rw [h2] at z; cases z
theorem Stp.of {G H G' H' : Hp} {w w' : Addr → Option Nat} {δ δ' : List Sl} (s : StpO G H w δ G' H' w' δ') (t : TbG T H H' := by exact TbG.refl) (q : ∀ a ps, G' a = some (.tbl ps) → G a = some (.tbl ps) := by exact fun _ _ h => h) : Stp T G H w δ G' H' w' δ' :=
  ⟨s.g, fun a o h1 h2 => .inl (s.b a o h1 h2), s.n, s.p, s.pn, t, q⟩
theorem q_new {G : Hp} {p : Addr} {o : HO} (n : NT o) : ∀ a ps, upd G p o a = some (.tbl ps) → G a = some (.tbl ps) := fun a ps h => by
  by_cases e : a = p
  · subst e; rw [upd_same] at h; cases h; exact absurd rfl (n ps)
  · rwa [upd_ne e] at h
theorem tabs_new {H : Hp} {p : Addr} {o : HO} (h : H p = none) : TbG T H (upd H p o) := .same (same_new h)
theorem tabs_put {H : Hp} {D : Addr} {xs ys : List V} (h : H D = some (.lst xs)) : TbG T H (upd H D (.lst ys)) := ⟨fun t p hp => by
  obtain ⟨ps, h1, h2, h3⟩ := t p hp
  refine ⟨ps, by rw [upd_ne (fun z => by rw [z, h] at h1; cases h1)]; exact h1, h2, fun pos cv hc => ?_⟩
  obtain ⟨c, e1, e2⟩ := h3 pos cv hc
  exact ⟨c, e1, by rw [upd_ne (fun z => by rw [z, h] at e2; cases e2)]; exact e2⟩, fun a ps e => ⟨ps, by rw [upd_ne (fun z => by rw [z, h] at e; cases e)]; exact e⟩⟩
theorem Stp.bN {G H G' H' : Hp} {w w' : Addr → Option Nat} {δ δ' : List Sl} (s : Stp T G H w δ G' H' w' δ') (a : Addr) (o : HO) (hn : NT o) (hw : w a = none) (h : H a = some o) : H' a = some o := by
  rcases s.b a o hw h with z | ⟨ps, _, z, _⟩
  · exact z
  · exact absurd z (hn ps)
theorem Stp.nn {G H G' H' : Hp} {w w' : Addr → Option Nat} {δ δ' : List Sl} (s : Stp T G H w δ G' H' w' δ') (a : Addr) (hw : w a = none) (h : H a ≠ none) (t : NoX H a) : H' a ≠ none ∧ NoX H' a := by
  cases e : H a with
  | none => exact absurd e h
  | some o =>
    rcases s.b a o hw e with z | ⟨ps, qs, _, z⟩
    · exact ⟨by rw [z]; exact Option.some_ne_none _, t.same e z⟩
    · exact ⟨by rw [z]; exact Option.some_ne_none _, NoX.tbl z⟩
theorem Pn.refl (δ : List Sl) : Pn δ δ := fun _ o h => ⟨o, h⟩
theorem Pn.trans {a b c : List Sl} (x : Pn a b) (y : Pn b c) : Pn a c := fun i o h => by
  obtain ⟨o1, h1⟩ := x i o h
  exact y i o1 h1
theorem Stp.refl {G H : Hp} {w : Addr → Option Nat} {δ : List Sl} : Stp T G H w δ G H w δ :=
  .of ⟨fun _ _ h => h, fun _ _ _ h => h, fun a i h => .inl (by rw [h]; exact Option.some_ne_none _), fun _ _ h => .inl h, .refl _⟩
theorem Stp.bs {G H G' H' : Hp} {w w' : Addr → Option Nat} {δ δ' : List Sl} (s : Stp B.T G H w δ G' H' w' δ') (h : BsOk B G H w) : BsOk B G' H' w' :=
  ⟨fun a o hb => by
    obtain ⟨h1, h2, h3⟩ := h.to a o hb
    exact ⟨s.bN a o h3 h2 h1, w_stay s.n h2 h1, h3⟩, h.tt.trans s.t, h.ta, fun a ps e => h.gt a ps (s.q a ps e)⟩
theorem Stp.trans {G H G1 H1 G2 H2 : Hp} {w w1 w2 : Addr → Option Nat} {δ δ1 δ2 : List Sl} (a : Stp T G H w δ G1 H1 w1 δ1) (b : Stp T G1 H1 w1 δ1 G2 H2 w2 δ2) : Stp T G H w δ G2 H2 w2 δ2 := by
  have no : ∀ x o, w x = none → H x = some o → w1 x = none := fun x o h1 h2 => by
    cases e : w1 x with
    | none => rfl
    | some i =>
      rcases a.n x i e with z | z
      · exact absurd h1 z
      · rw [h2] at z; cases z
  have none1 : ∀ x, H1 x = none → w x ≠ none ∨ H x = none := fun x h => by
    cases e : w x with
    | some i => exact .inl (Option.some_ne_none _)
    | none =>
      cases e2 : H x with
      | none => exact .inr rfl
      | some o =>
        rcases a.b x o e e2 with z | ⟨_, _, _, z⟩ <;> · rw [z] at h; cases h
  have w1n : ∀ x, w1 x ≠ none → w x ≠ none ∨ H x = none := fun x h => by
    cases e : w1 x with
    | none => exact absurd e h
    | some i => exact a.n x i e
  refine ⟨fun x o h => b.g x o (a.g x o h), fun x o h1 h2 => ?_, fun x i h => ?_, fun x o h => ?_, a.pn.trans b.pn, a.t.trans b.t, fun x ps h => a.q x ps (b.q x ps h)⟩
  · rcases a.b x o h1 h2 with z | ⟨ps, qs, z1, z2⟩
    · exact b.b x o (no x o h1 h2) z
    · rcases b.b x _ (no x o h1 h2) z2 with y | ⟨_, rs, _, y⟩
      · exact .inr ⟨ps, qs, z1, y⟩
      · exact .inr ⟨ps, rs, z1, y⟩
  · rcases b.n x i h with z | z
    · exact w1n x z
    · exact none1 x z
  · rcases b.p x o h with z | z | z | ⟨xs, z⟩
    · exact a.p x o z
    · rcases none1 x z with q | q
      · exact .inr (.inr (.inl q))
      · exact .inr (.inl q)
    · rcases w1n x z with q | q
      · exact .inr (.inr (.inl q))
      · exact .inr (.inl q)
    · cases e : w x with
      | some i => exact .inr (.inr (.inl (Option.some_ne_none _)))
      | none =>
        cases e2 : H x with
        | none => exact .inr (.inl rfl)
        | some u =>
          refine .inr (.inr (.inr ⟨xs, ?_⟩))
          rcases a.b x u e e2 with e3 | ⟨_, _, _, e3⟩
          · exact RdX.same e2 e3 z
          · exact absurd z (NoX.tbl e3 xs)
/-! ### data stays -/
mutual
theorem dp_mono {K : PySem.W.Frag} {G G' : Hp} (s : Same G G') : ∀ (d : PyData) (v : V), Dq K G v d → Dq K G' v d
  | .none, _, h => by cases h; exact .non
  | .bool b, _, h => by cases h; exact .bl b
  | .int i, _, h => by cases h; exact .int i
  | .str x, _, h => by cases h; exact .str x
  | .dict _, _, h => by cases h
  | .list ds, _, h => by
    cases h with
    | lst hs ha =>
      exact .lst (s _ _ hs) (dpAll_mono s ds _ ha)
  | .tuple ds, _, h => by
    cases h with
    | tup hs ha => exact .tup (Same.tp s _ _ hs) (dpAll_mono s ds _ ha)
theorem dpAll_mono {K : PySem.W.Frag} {G G' : Hp} (s : Same G G') : ∀ (ds : List PyData) (vs : List V), DqAll K G vs ds → DqAll K G' vs ds
  | [], _, h => by cases h; exact .nil
  | d :: ds, _, h => by
    cases h with
    | cons h1 h2 => exact .cons (dp_mono s d _ h1) (dpAll_mono s ds _ h2)
end
mutual
theorem pl_mono {K : PySem.W.Frag} {G G' : Hp} (s : Same G G') : ∀ (v : V) (d : PyData), Kn K G v d → Kn K G' v d
  | _, _, .any h n => .any (dp_mono s _ _ h) n
  | _, _, .tup h1 h2 h3 h4 => .tup (s _ _ h1) h2 h3 (plAll_mono s _ _ h4)
theorem plAll_mono {K : PySem.W.Frag} {G G' : Hp} (s : Same G G') : ∀ (vs : List V) (ds : List PyData), KnAll K G vs ds → KnAll K G' vs ds
  | _, _, .nil => .nil
  | _, _, .cons h1 h2 => .cons (pl_mono s _ _ h1) (plAll_mono s _ _ h2)
end
theorem Fl.mono {K : PySem.W.Frag} {G G' : Hp} (s : Same G G') : ∀ {us : List (Str × V)} {fs : List (Str × PyData)}, Fl K G us fs → Fl K G' us fs
  | _, _, .nil => .nil
  | _, _, .cons h1 h2 => .cons (dp_mono s _ _ h1) (Fl.mono s h2)
theorem InL.monoN {K : PySem.W.Frag} {G G' H H' : Hp} {m m' : Addr → Prop} (s : Same G G') (hh : ∀ a u, NT u → m a → H a = some u → H' a = some u) (hm : ∀ a u, m a → H a = some u → m' a) {bs : List Addr} {dss : List (List PyData)} (h : InL K G H m bs dss) : InL K G' H' m' bs dss := by
  induction h with
  | nil => exact .nil
  | cons mb hb hd _ ih => exact .cons (hm _ _ mb hb) (hh _ _ nofun mb hb) (dpAll_mono s _ _ hd) ih
theorem RO.monoN {K : PySem.W.Frag} {G G' H H' : Hp} {m m' : Addr → Prop} {v : V} {o : O} (s : Same G G') (hh : ∀ a u, NT u → m a → H a = some u → H' a = some u) (hm : ∀ a u, m a → H a = some u → m' a) (h : RO K G H m v o) : RO K G' H' m' v o := by
  cases o with
  | lst ds =>
    obtain ⟨a, us, e, ma, ha, hd⟩ := h
    exact ⟨a, us, e, hm a _ ma ha, hh a _ nofun ma ha, dpAll_mono s _ _ hd⟩
  | deal =>
    obtain ⟨d, l, e, md, ml, hd⟩ := h
    obtain ⟨z1, z2, z3, z4, h1, h2, h3⟩ := hd.ex
    exact ⟨d, l, e, hm d _ md h1, hm l _ ml h2, z1, z2, z3, z4, hh d _ nofun md h1, hh l _ nofun ml h2, h3⟩
  | scr ns =>
    obtain ⟨a, e, ⟨o, ma, h⟩ | h⟩ := h
    · exact ⟨a, e, .inl ⟨o, hm a _ ma h, hh a _ nofun ma h⟩⟩
    · exact ⟨a, e, .inr h⟩
  | ptl ds =>
    obtain ⟨p, o, us, e, hp, h1, h2, hd, hl⟩ := h
    exact ⟨p, o, us, e, s _ _ hp, h1, h2, dpAll_mono s _ _ hd, plAll_mono s _ _ hl⟩
  | lam F =>
    obtain ⟨f, e, h1, h2⟩ := h
    exact ⟨f, e, s _ _ h1, s _ _ h2⟩
  | dic ks ds =>
    obtain ⟨a, us, e, ma, ha, hl, hd⟩ := h
    exact ⟨a, us, e, hm a _ ma ha, hh a _ nofun ma ha, hl, dpAll_mono s _ _ hd⟩
  | dct r ks ds =>
    obtain ⟨a, bs, us, e, ma, ha, hl, hk, hd⟩ := h
    exact ⟨a, bs, us, e, hm a _ ma ha, hh a _ (fun ps z => by unfold DctO at z; cases z) ma ha, hl, dpAll_mono s _ _ hk, dpAll_mono s _ _ hd⟩
  | lls bs dss =>
    obtain ⟨a, e, ma, ha, nd, hi⟩ := h
    exact ⟨a, e, hm a _ ma ha, hh a _ nofun ma ha, nd, hi.monoN s hh hm⟩
theorem RO.mono {K : PySem.W.Frag} {G G' H H' : Hp} {m m' : Addr → Prop} {v : V} {o : O} (s : Same G G') (hh : ∀ a u, m a → H a = some u → H' a = some u) (hm : ∀ a u, m a → H a = some u → m' a) (h : RO K G H m v o) : RO K G' H' m' v o := h.monoN s (fun a u _ => hh a u) hm
theorem SlR.mono {K : PySem.W.Frag} {G G' H H' : Hp} {m m' : Addr → Prop} {o : Option (Option V)} {s : Sl} (g : Same G G') (hh : ∀ a u, m a → H a = some u → H' a = some u) (hm : ∀ a u, m a → H a = some u → m' a) (h : SlR K G H m o s) : SlR K G' H' m' o s := by
  cases s with
  | un => trivial
  | im d =>
    obtain ⟨v, e, h⟩ := h
    exact ⟨v, e, dp_mono g d v h⟩
  | ow p ob =>
    obtain ⟨v, e, h⟩ := h
    exact ⟨v, e, h.mono g hh hm⟩
  | ex a dd C fs =>
    obtain ⟨e, us, h1, h2⟩ := h
    exact ⟨e, us, g _ _ h1, h2.mono g⟩
theorem RR.mono {K : PySem.W.Frag} {G G' H H' : Hp} {σ : St} {m m' : Addr → Prop} {v : V} {r : R} (g : Same G G') (hh : ∀ a u, m a → H a = some u → H' a = some u) (hm : ∀ a u, m a → H a = some u → m' a) (h : RR K G H σ m v r) : RR K G' H' σ m' v r := by
  cases r with
  | im d => exact dp_mono g d v h
  | ow ob => exact RO.mono g hh hm h
  | «at» i => exact h
theorem RR.monoN {K : PySem.W.Frag} {G G' H H' : Hp} {σ : St} {m m' : Addr → Prop} {v : V} {r : R} (g : Same G G') (hh : ∀ a u, NT u → m a → H a = some u → H' a = some u) (hm : ∀ a u, m a → H a = some u → m' a) (h : RR K G H σ m v r) : RR K G' H' σ m' v r := by
  cases r with
  | im d => exact dp_mono g d v h
  | ow ob => exact RO.monoN g hh hm h
  | «at» i => exact h
theorem SlR.monoN {K : PySem.W.Frag} {G G' H H' : Hp} {m m' : Addr → Prop} {o : Option (Option V)} {s : Sl} (g : Same G G') (hh : ∀ a u, NT u → m a → H a = some u → H' a = some u) (hm : ∀ a u, m a → H a = some u → m' a) (h : SlR K G H m o s) : SlR K G' H' m' o s := by
  cases s with
  | un => trivial
  | im d =>
    obtain ⟨v, e, h⟩ := h
    exact ⟨v, e, dp_mono g d v h⟩
  | ow p ob =>
    obtain ⟨v, e, h⟩ := h
    exact ⟨v, e, h.monoN g hh hm⟩
  | ex a dd C fs =>
    obtain ⟨e, us, h1, h2⟩ := h
    exact ⟨e, us, g _ _ h1, h2.mono g⟩
/-! ### the frame: values that wait -/
def evn : Option Nat → Option Nat
  | some n => if n % 2 = 0 then some n else none
  | none => none
theorem evn_some {o : Option Nat} {n : Nat} : evn o = some n ↔ o = some n ∧ n % 2 = 0 := by
  cases o with
  | none => simp [evn]
  | some m =>
    unfold evn
    dsimp only
    split
    · constructor
      · intro h; cases h; exact ⟨rfl, by assumption⟩
      · rintro ⟨h, _⟩; exact h
    · constructor
      · intro h; cases h
      · rintro ⟨h, h2⟩; cases h; exact absurd h2 (by assumption)
theorem evn_ne {o : Option Nat} (h : evn o ≠ none) : o ≠ none := by
  intro e; subst e; exact h rfl
theorem Stp.drop {G H : Hp} {w : Addr → Option Nat} {δ : List Sl} : Stp T G H w δ G H (fun a => evn (w a)) δ :=
  .of ⟨fun _ _ h => h, fun _ _ _ h => h, fun a i h => .inl (by rw [(evn_some.mp h).1]; exact Option.some_ne_none _), fun _ _ h => .inl h, .refl _⟩
theorem Rep.drop {K : PySem.W.Frag} {G H : Hp} {σ : St} {δ : List Sl} {vs : List V} {rs : List R} {w : Addr → Option Nat} (r : Rep K B G H σ δ vs rs w) : Rep K B G H σ δ [] [] fun a => evn (w a) where
  sub := r.sub
  out := fun a i h => r.out a i (evn_some.mp h).1
  len := r.len
  sl := fun i s h => (r.sl i s h).mono (fun _ _ h => h) (fun _ _ _ h => h) fun a u ma _ => evn_some.mpr ⟨ma, by omega⟩
  tlen := rfl
  tm := fun j v r h => by simp at h
  bs := (Stp.drop (T := B.T) (δ := δ)).bs (G := G) r.bs
def shf (k : Nat) : Option Nat → Option Nat
  | some n => if n % 2 = 0 then some n else some (n + 2 * k)
  | none => none
def both (k : Nat) (w w' : Addr → Option Nat) (a : Addr) : Option Nat := match w a with
  | some n => if n % 2 = 0 then shf k (w' a) else some n
  | none => shf k (w' a)
theorem both_odd {k : Nat} {w w' : Addr → Option Nat} {a : Addr} {n : Nat} (h : w a = some n) (ho : n % 2 = 1) : both k w w' a = some n := by
  unfold both; rw [h]; dsimp only; rw [if_neg (by omega)]
theorem both_evn {k : Nat} {w w' : Addr → Option Nat} {a : Addr} (h : ∀ n, w a = some n → n % 2 = 0) : both k w w' a = shf k (w' a) := by
  unfold both
  cases e : w a with
  | none => rfl
  | some n => dsimp only; rw [if_pos (h n e)]
theorem shf_some {k n : Nat} {o : Option Nat} (h : shf k o = some n) : ∃ m, o = some m ∧ n = if m % 2 = 0 then m else m + 2 * k := by
  cases o with
  | none => cases h
  | some m =>
    refine ⟨m, rfl, ?_⟩
    unfold shf at h
    dsimp only at h
    split at h <;> cases h <;> simp [*]
theorem Rep.frame {K : PySem.W.Frag} {G H G' H' : Hp} {σ : St} {δ δ' : List Sl} {vs vs1 : List V} {rs rs1 : List R} {w w' : Addr → Option Nat} (r : Rep K B G H σ δ vs rs w) (s : Stp B.T G H (fun a => evn (w a)) δ G' H' w' δ') (r' : Rep K B G' H' σ δ' vs1 rs1 w') :
    ∃ w2, Stp B.T G H w δ G' H' w2 δ' ∧ Rep K B G' H' σ δ' (vs ++ vs1) (rs ++ rs1) w2 := by
  have odd : ∀ a n, w a = some n → n % 2 = 1 → w' a = none ∧ G' a = none ∧ (H' a ≠ none ∧ NoX H' a) ∧ ∀ u, NT u → H a = some u → H' a = some u := fun a n h ho => by
    have e0 : evn (w a) = none := by
      cases e : evn (w a) with
      | none => rfl
      | some m =>
        have := evn_some.mp e
        rw [h] at this
        have z := this.1
        cases z
        omega
    obtain ⟨g0, h0, n0⟩ := r.out a n h
    refine ⟨?_, ?_, s.nn a e0 h0 n0, fun u hn hu => s.bN a u hn e0 hu⟩
    · cases e : w' a with
      | none => rfl
      | some i =>
        rcases s.n a i e with z | z
        · exact absurd e0 z
        · exact absurd z h0
    · cases e : G' a with
      | none => rfl
      | some o =>
        rcases s.p a o e with z | z | z | ⟨xs, z⟩
        · rw [g0] at z; cases z
        · exact absurd z h0
        · exact absurd e0 z
        · exact absurd z (n0 xs)
  have evw : ∀ a i, w' a = some i → ∀ n, w a = some n → n % 2 = 0 := fun a i h n hn => by
    by_cases ho : n % 2 = 1
    · rw [(odd a n hn ho).1] at h; cases h
    · omega
  have st : Stp B.T G H w δ G' H' (both rs.length w w') δ' := by
    refine ⟨s.g, fun a o hw ha => s.b a o (by show evn (w a) = none; rw [hw]; rfl) ha, fun a i h => ?_, fun a o h => ?_, s.pn, s.t, s.q⟩
    · cases e : w a with
      | some n => exact .inl (Option.some_ne_none _)
      | none =>
        have e1 : both rs.length w w' a = shf rs.length (w' a) := both_evn fun n hn => by rw [e] at hn; cases hn
        rw [e1] at h
        obtain ⟨m, hm, _⟩ := shf_some h
        rcases s.n a m hm with z | z
        · have z' := evn_ne z
          rw [e] at z'
          exact .inl z'
        · exact .inr z
    · rcases s.p a o h with z | z | z | z
      · exact .inl z
      · exact .inr (.inl z)
      · exact .inr (.inr (.inl (evn_ne z)))
      · exact .inr (.inr (.inr z))
  refine ⟨both rs.length w w', st, r'.sub, fun a i h => ?_, r'.len, fun i sl h => ?_, by rw [List.length_append, List.length_append, r.tlen, r'.tlen], fun j v q hv hr => ?_, st.bs r.bs⟩
  · by_cases ho : ∃ n, w a = some n ∧ n % 2 = 1
    · obtain ⟨n, hn, ho⟩ := ho
      obtain ⟨_, g, hh, _⟩ := odd a n hn ho
      exact ⟨g, hh⟩
    · have e1 : both rs.length w w' a = shf rs.length (w' a) := both_evn fun n hn => by
        by_cases z : n % 2 = 1
        · exact absurd ⟨n, hn, z⟩ ho
        · omega
      rw [e1] at h
      obtain ⟨m, hm, _⟩ := shf_some h
      exact r'.out a m hm
  · refine (r'.sl i sl h).mono (fun _ _ h => h) (fun _ _ _ h => h) fun a u ma _ => ?_
    rw [both_evn (evw a _ ma)]
    unfold shf
    rw [ma]
    dsimp only
    rw [if_pos (by omega)]
  · by_cases hj : j < vs.length
    · rw [List.getElem?_append_left hj] at hv
      rw [List.getElem?_append_left (by rw [← r.tlen]; exact hj)] at hr
      exact (r.tm j v q hv hr).monoN s.g (fun a u hn ma hu => (odd a _ ma (by omega)).2.2.2 u hn hu) fun a u ma _ => both_odd ma (by omega)
    · have hj : vs.length ≤ j := by omega
      rw [List.getElem?_append_right hj] at hv
      rw [List.getElem?_append_right (by rw [← r.tlen]; exact hj), ← r.tlen] at hr
      refine (r'.tm (j - vs.length) v q hv hr).mono (fun _ _ h => h) (fun _ _ _ h => h) fun a u ma _ => ?_
      rw [both_evn (evw a _ ma)]
      unfold shf
      rw [ma]
      dsimp only
      rw [if_neg (by omega), r.tlen.symm]
      congr 1
      omega
end Pv
namespace Pv
open PySem PySem.Spec L2 Wf
variable {B : Bas}
/-! ### judgements told of data -/
abbrev QE := R → List Sl → Prop
abbrev PX := List Sl → QE → Prop
abbrev PL := List Sl → (List R → List Sl → Prop) → Prop
abbrev PB := List Sl → (Bool → List Sl → Prop) → Prop
section
variable (K : PySem.W.Frag) (B : Bas)
def LE (p : PX) : TE := fun σ H Q => ∃ G w δ Qp, Rep K B G H σ δ [] [] w ∧ p δ Qp ∧ ∀ r δ' v H' G' w', Qp r δ' → Stp B.T G H w δ G' H' w' δ' → Rep K B G' H' σ δ' [v] [r] w' → Q v H'
def LA (n : Nat) (p : PL) : TA := fun σ H Q => ∃ G w δ Qp, Rep K B G H σ δ [] [] w ∧ p δ Qp ∧ ∀ rs δ' vs H' G' w', Qp rs δ' → rs.length = n → Stp B.T G H w δ G' H' w' δ' → Rep K B G' H' σ δ' vs rs w' → Q vs H'
def LB (p : PB) : TT := fun σ H Q => ∃ G w δ Qp, Rep K B G H σ δ [] [] w ∧ p δ Qp ∧ ∀ b δ' H' G' w', Qp b δ' → Stp B.T G H w δ G' H' w' δ' → Rep K B G' H' σ δ' [] [] w' → Q b H'
end
/-- an operation by values -/
def LC (K : PySem.W.Frag) (q : List R → PX) (r : List V → Hp → VK → Prop) : Prop := ∀ {B : Bas} (G H : Hp) (σ : St) (δ : List Sl) (vs : List V) (rs : List R) (w : Addr → Option Nat) (Qp : QE) (Q : VK), Rep K B G H σ δ vs rs w → q rs δ Qp →
  (∀ r δ' v H' G' w', Qp r δ' → Stp B.T G H w δ G' H' w' δ' → Rep K B G' H' σ δ' [v] [r] w' → Q v H') → r vs H Q
def JE (X : Cx) (B : Bas) (e : Expr) (p : PX) : Prop := PE X e (LE X.K B p)
def JA (X : Cx) (B : Bas) (es : List Expr) (p : PL) : Prop := PA X es (LA X.K B es.length p)
def JB (X : Cx) (B : Bas) (e : Expr) (p : PB) : Prop := PT X e (LB X.K B p)
section
variable {X : Cx}
theorem PE_wk {e : Expr} {t t' : TE} (h : PE X e t) (k : ∀ σ H Q, t' σ H Q → t σ H Q) : PE X e t' := ⟨fun pins s σ H Q I q => h.run pins s σ H Q I (k σ H Q q)⟩
theorem PT_wk {e : Expr} {t t' : TT} (h : PT X e t) (k : ∀ σ H Q, t' σ H Q → t σ H Q) : PT X e t' := ⟨fun pins s σ H Q I q => h.run pins s σ H Q I (k σ H Q q)⟩
theorem PW_wk {e : Expr} {t t' : TT} (h : PW X e t) (k : ∀ σ H Q, t' σ H Q → t σ H Q) : PW X e t' := ⟨fun wh pins s σ H Q I q => h.run wh pins s σ H Q I (k σ H Q q)⟩
theorem PA_wk {es : List Expr} {t t' : TA} (h : PA X es t) (k : ∀ σ H Q, t' σ H Q → t σ H Q) : PA X es t' := ⟨fun pos pins s σ H Q I q => h.run pos pins s σ H Q I (k σ H Q q)⟩
theorem PS_wk {st : Stmt} {t t' : TS} (h : PS X st t) (k : ∀ D σ H, t' D σ H → t D σ H) : PS X st t' := ⟨fun pins s σ H D I q => h.run pins s σ H D I (k D σ H q)⟩
theorem PSs_wk {st : List Stmt} {t t' : TS} (h : PSs X st t) (k : ∀ D σ H, t' D σ H → t D σ H) : PSs X st t' := ⟨fun pins s σ H D I q => h.run pins s σ H D I (k D σ H q)⟩
end
/-! ### results -/
theorem noT_upd {H : Hp} {a p : Addr} {o : HO} (h : a ≠ p) (n : NoX H a) : NoX (upd H p o) a := fun xs z => n xs (RdX.upd h z)
section
variable {K : PySem.W.Frag} {G H : Hp} {σ : St} {δ : List Sl} {vs : List V} {rs : List R} {w : Addr → Option Nat}
/-- data is given, nothing is changed -/
theorem Rep.ret (r : Rep K B G H σ δ vs rs w) {v : V} {d : PyData} (h : Dq K G v d) : Rep K B G H σ δ [v] [.im d] fun a => evn (w a) := by
  have r0 := r.drop
  refine ⟨r0.sub, r0.out, r0.len, r0.sl, rfl, fun j u q hu hq => ?_, r0.bs⟩
  match j with
  | 0 =>
    simp only [List.getElem?_cons_zero, Option.some.injEq] at hu hq
    subst hu hq
    exact h
  | j + 1 => simp at hu
theorem Rep.at_ (r : Rep K B G H σ δ vs rs w) {i : Nat} {v : V} (h : σ[i]? = some (some v)) : Rep K B G H σ δ [v] [.at i] fun a => evn (w a) := by
  have r0 := r.drop
  refine ⟨r0.sub, r0.out, r0.len, r0.sl, rfl, fun j u q hu hq => ?_, r0.bs⟩
  match j with
  | 0 =>
    simp only [List.getElem?_cons_zero, Option.some.injEq] at hu hq
    subst hu hq
    exact h
  | j + 1 => simp at hu
/-- a new thing that never changes -/
theorem Rep.retNew (r : Rep K B G H σ δ vs rs w) {p : Addr} {o : HO} {d : PyData} (hp : H p = none) (h : Dq K (upd G p o) (.ref p) d) (hn : NT o := by exact nofun) :
    Stp B.T G H w δ (upd G p o) (upd H p o) (fun a => evn (w a)) δ ∧ Rep K B (upd G p o) (upd H p o) σ δ [.ref p] [.im d] fun a => evn (w a) := by
  have gp : G p = none := by
    cases e : G p with
    | none => rfl
    | some u => rw [r.sub p u e] at hp; cases hp
  have np : ∀ a i, w a = some i → a ≠ p := fun a i hw z => (r.out a i hw).2.1 (by rw [z]; exact hp)
  have sg : Same G (upd G p o) := same_new gp
  have r0 := r.drop
  have st : Stp B.T G H w δ (upd G p o) (upd H p o) (fun a => evn (w a)) δ := by
    refine .of ⟨sg, fun a u _ ha => by rw [upd_ne (ne_of_none ha hp)]; exact ha, fun a i h => .inl (by rw [(evn_some.mp h).1]; exact Option.some_ne_none _), fun a u ha => ?_, .refl _⟩ (tabs_new hp) (q_new hn)
    by_cases e : a = p
    · subst e; exact .inr (.inl hp)
    · rw [upd_ne e] at ha; exact .inl ha
  refine ⟨st, fun a u ha => ?_, fun a i h => ?_, r0.len, fun i s h => ?_, rfl, fun j u q hu hq => ?_, st.bs r.bs⟩
  · by_cases e : a = p
    · subst e; rw [upd_same] at ha ⊢; exact ha
    · rw [upd_ne e] at ha ⊢; exact r.sub a u ha
  · have h' := (evn_some.mp h).1
    have hne := np a i h'
    have ho := r.out a i h'
    rw [upd_ne hne, upd_ne hne]
    exact ⟨ho.1, ho.2.1, noT_upd hne ho.2.2⟩
  · exact (r0.sl i s h).mono sg (fun a u ma hu => by rw [upd_ne (ne_of_none hu hp)]; exact hu) fun a u ma _ => ma
  · match j with
    | 0 =>
      simp only [List.getElem?_cons_zero, Option.some.injEq] at hu hq
      subst hu hq
      exact h
    | j + 1 => simp at hu
/-- a new list of one's own -/
theorem Rep.retLst (r : Rep K B G H σ δ vs rs w) {p : Addr} {us : List V} {ds : List PyData} (hp : H p = none) (h : DqAll K G us ds) :
    ∃ w', Stp B.T G H w δ G (upd H p (.lst us)) w' δ ∧ Rep K B G (upd H p (.lst us)) σ δ [.ref p] [.ow (.lst ds)] w' := by
  have gp : G p = none := by
    cases e : G p with
    | none => rfl
    | some u => rw [r.sub p u e] at hp; cases hp
  have r0 := r.drop
  have st : Stp B.T G H w δ G (upd H p (.lst us)) (fun a => if a = p then some 1 else evn (w a)) δ := by
    refine .of ⟨fun _ _ h => h, fun a u _ ha => by rw [upd_ne (ne_of_none ha hp)]; exact ha, fun a i h => ?_, fun a u ha => .inl ha, .refl _⟩ (tabs_new hp)
    by_cases e : a = p
    · subst e; exact .inr hp
    · simp only [e, if_false] at h
      exact .inl (by rw [(evn_some.mp h).1]; exact Option.some_ne_none _)
  refine ⟨_, st, fun a u ha => ?_, fun a i h => ?_, r0.len, fun i s h => ?_, rfl, fun j u q hu hq => ?_, st.bs r.bs⟩
  · by_cases e : a = p
    · subst e; rw [gp] at ha; cases ha
    · rw [upd_ne e]; exact r.sub a u ha
  · by_cases e : a = p
    · subst e; rw [upd_same]; exact ⟨gp, Option.some_ne_none _, NoX.lst upd_same⟩
    · simp only [e, if_false] at h
      have ho := r0.out a i h
      rw [upd_ne e]
      exact ⟨ho.1, ho.2.1, noT_upd e ho.2.2⟩
  · refine (r0.sl i s h).mono (fun _ _ h => h) (fun a u ma hu => by rw [upd_ne (ne_of_none hu hp)]; exact hu) fun a u ma hu => ?_
    rw [if_neg (ne_of_none hu hp)]
    exact ma
  · match j with
    | 0 =>
      simp only [List.getElem?_cons_zero, Option.some.injEq] at hu hq
      subst hu hq
      exact ⟨p, us, rfl, by simp, upd_same, h⟩
    | j + 1 => simp at hu
end
/-! ### what is read -/
def dat (δ : List Sl) : R → Option PyData
  | .im d => some d
  | .ow (.lst ds) => some (.list ds)
  | .ow (.ptl ds) => some (.tuple ds)
  | .ow _ => none
  | .at i => match δ[i]? with
    | some (.im d) => some d
    | some (.ow _ (.lst ds)) => some (.list ds)
    | some (.ow _ (.ptl ds)) => some (.tuple ds)
    | _ => none
section
variable {K : PySem.W.Frag} {G H : Hp} {σ : St} {δ : List Sl} {vs : List V} {rs : List R} {w : Addr → Option Nat}
mutual
theorem dq_dp (s : Same G H) : ∀ (d : PyData) (v : V), Dq K G v d → Dp K H v d
  | .none, _, h => by cases h; exact .non
  | .bool b, _, h => by cases h; exact .bl b
  | .int i, _, h => by cases h; exact .int i
  | .str x, _, h => by cases h; exact .str x
  | .dict _, _, h => by cases h
  | .list ds, _, h => by
    cases h with
    | lst hs ha => exact .lst (SqL.of (s _ _ hs)) (dqAll_dp s ds _ ha)
  | .tuple ds, _, h => by
    cases h with
    | tup hs ha => exact .tup (Same.tp s _ _ hs) (dqAll_dp s ds _ ha)
theorem dqAll_dp (s : Same G H) : ∀ (ds : List PyData) (vs : List V), DqAll K G vs ds → DpAll K H vs ds
  | [], _, h => by cases h; exact .nil
  | d :: ds, _, h => by
    cases h with
    | cons h1 h2 => exact .cons (dq_dp s d _ h1) (dqAll_dp s ds _ h2)
end
/-- what is to be read of a value -/
def Vw (K : PySem.W.Frag) (G H : Hp) (v : V) (d : PyData) : Prop := Dq K G v d ∨ ∃ a us ds, v = .ref a ∧ H a = some (.lst us) ∧ DqAll K G us ds ∧ d = .list ds
theorem ptl_dq {K : PySem.W.Frag} {G : Hp} {v : V} {ds : List PyData} (h : ∃ p o us, v = .ref p ∧ G p = some (.frz o (.tup us)) ∧ o.cls = .type "tuple" ∧ o.dict = none ∧ DqAll K G us ds ∧ KnAll K G us ds) : Dq K G v (.tuple ds) := by
  obtain ⟨p, o, us, rfl, hp, _, _, hd, _⟩ := h
  exact .tup (.inl (.inr ⟨o, hp⟩)) hd
/-- what a value is: data, public; or a list, its items public -/
theorem Rep.dat (r : Rep K B G H σ δ vs rs w) {j : Nat} {v : V} {q : R} {d : PyData} (hv : vs[j]? = some v) (hq : rs[j]? = some q) (hd : dat δ q = some d) :
    Dq K G v d ∨ ∃ a us ds, v = .ref a ∧ H a = some (.lst us) ∧ DqAll K G us ds ∧ d = .list ds := by
  have t := r.tm j v q hv hq
  cases q with
  | im d' => cases hd; exact .inl t
  | ow o =>
    cases o with
    | lst ds =>
      cases hd
      obtain ⟨a, us, e, _, ha, hds⟩ := t
      exact .inr ⟨a, us, ds, e, ha, hds, rfl⟩
    | deal => cases hd
    | scr ns => cases hd
    | ptl ds => cases hd; exact .inl (ptl_dq t)
    | lam F => cases hd
    | dic ks ds => cases hd
    | dct r ks ds => cases hd
    | lls bs dss => cases hd
  | «at» i =>
    have t' : σ[i]? = some (some v) := t
    simp only [Pv.dat] at hd
    revert hd
    split
    · rename_i d' e
      intro hd; cases hd
      obtain ⟨u, hu, hd'⟩ := r.sl i _ e
      rw [t'] at hu
      cases hu
      exact .inl hd'
    · rename_i b ds e
      intro hd; cases hd
      obtain ⟨u, hu, a, us, e1, _, ha, hds⟩ := r.sl i _ e
      rw [t'] at hu
      cases hu
      exact .inr ⟨a, us, ds, e1, ha, hds, rfl⟩
    · rename_i b ds e
      intro hd; cases hd
      obtain ⟨u, hu, t2⟩ := r.sl i _ e
      rw [t'] at hu
      cases hu
      exact .inl (ptl_dq t2)
    · intro hd; cases hd
theorem Vw.dp {v : V} {d : PyData} (s : Same G H) (h : Vw K G H v d) : Dp K H v d := by
  rcases h with h | ⟨a, us, ds, rfl, ha, hds, rfl⟩
  · exact dq_dp s _ _ h
  · exact .lst (SqL.of ha) (dqAll_dp s _ _ hds)
theorem Vw.seqL {v : V} {ds : List PyData} (s : Same G H) (h : Vw K G H v (.list ds)) : ∃ a us, v = .ref a ∧ H a = some (.lst us) ∧ DqAll K G us ds := by
  rcases h with h | ⟨a, us, ds', rfl, ha, hds, e⟩
  · cases h with
    | lst hs ha => exact ⟨_, _, rfl, s _ _ hs, ha⟩
  · cases e
    exact ⟨a, us, rfl, ha, hds⟩
theorem Vw.seqT {v : V} {ds : List PyData} (s : Same G H) (h : Vw K G H v (.tuple ds)) : ∃ a us, v = .ref a ∧ SqT K H a us ∧ DqAll K G us ds ∧ Dq K G v (.tuple ds) := by
  rcases h with h | ⟨a, us, ds', rfl, ha, hds, e⟩
  · cases h with
    | tup hs ha => exact ⟨_, _, rfl, Same.tp s _ _ hs, ha, .tup hs ha⟩
  · cases e
theorem Vw.int {v : V} {i : Int} (h : Vw K G H v (.int i)) : v = .int i := by
  rcases h with h | ⟨a, us, ds', rfl, ha, hds, e⟩
  · cases h; rfl
  · cases e
theorem Vw.bool {v : V} {i : Bool} (h : Vw K G H v (.bool i)) : v = .bl i := by
  rcases h with h | ⟨a, us, ds', rfl, ha, hds, e⟩
  · cases h; rfl
  · cases e
theorem Vw.str {v : V} {i : Str} (h : Vw K G H v (.str i)) : v = .str i := by
  rcases h with h | ⟨a, us, ds', rfl, ha, hds, e⟩
  · cases h; rfl
  · cases e
theorem Rep.dpH (r : Rep K B G H σ δ vs rs w) {j : Nat} {v : V} {q : R} {d : PyData} (hv : vs[j]? = some v) (hq : rs[j]? = some q) (hd : Pv.dat δ q = some d) : Dp K H v d := Vw.dp r.sub (r.dat hv hq hd)
end
/-! ### names, constants, arguments -/
def pVar (i : Nat) : PX := fun δ Q => match δ[i]? with
  | some (.im d) => Q (.im d) δ
  | some (.ow _ _) => Q (.at i) δ
  | _ => False
def pK (d : PyData) : PX := fun δ Q => Q (.im d) δ
def pNil : PL := fun δ Q => Q [] δ
def pCons (p : PX) (ps : PL) : PL := fun δ Q => p δ fun r δ1 => ps δ1 fun rs δ2 => Q (r :: rs) δ2
/-- an operation over values that are there -/
def pC (q : List R → PX) (ps : PL) : PX := fun δ Q => ps δ fun rs δ1 => q rs δ1 Q
section
variable {X : Cx}
theorem je_var {i : Nat} {x : Str} {pos : Pos} (hN : X.N[i]? = some x) (hv : Vis X.env.scope x) (hd : (x == ("__debug__" : Str)) = false := by decide) (hcd : (x == ("__classdict__" : Str)) = false := by decide) : JE X B (.Name x pos) (pVar i) := by
  refine PE_wk (pe_var (i := i) hN hv hd hcd) fun σ H Q ⟨G, w, δ, Qp, rep, h, k⟩ => ?_
  unfold pVar at h
  revert h
  split
  · rename_i d e
    intro h
    obtain ⟨v, hv, hd⟩ := rep.sl i _ e
    exact ⟨v, hv, k _ _ v H G _ h .drop (rep.ret hd)⟩
  · rename_i b o e
    intro h
    obtain ⟨v, hv, hd⟩ := rep.sl i _ e
    exact ⟨v, hv, k _ _ v H G _ h .drop (rep.at_ hv)⟩
  · intro h; exact h.elim
theorem je_c {e : Expr} {v : V} {d : PyData} (h : PE X e (tC v)) (hd : ∀ G, Dq X.K G v d) : JE X B e (pK d) :=
  PE_wk h fun σ H Q ⟨G, w, δ, Qp, rep, q, k⟩ => k _ _ v H G _ q .drop (rep.ret (hd G))
theorem je_int {i j pos} : JE X B (.Constant (.int i) j pos) (pK (.int i)) := je_c pe_int fun _ => .int i
theorem je_bl {b j pos} : JE X B (.Constant (.bool b) j pos) (pK (.bool b)) := je_c pe_bl fun _ => .bl b
theorem je_non {j pos} : JE X B (.Constant .none j pos) (pK .none) := je_c pe_non fun _ => .non
theorem je_str {x j pos} : JE X B (.Constant (.str x) j pos) (pK (.str x)) := je_c pe_str fun _ => .str x
theorem ja_nil : JA X B [] pNil := PA_wk pa_nil fun σ H Q ⟨G, w, δ, Qp, rep, q, k⟩ => k [] δ [] H G _ q rfl .drop rep.drop
theorem ja_cons {e : Expr} {es : List Expr} {p : PX} {ps : PL} (h : JE X B e p) (hs : JA X B es ps) (he : starEach (e :: es) X.env = (false, eval e X.env) :: starEach es X.env := by rfl) : JA X B (e :: es) (pCons p ps) := by
  refine PA_wk (pa_cons h hs he) fun σ H Q ⟨G, w, δ, Qp, rep, q, k⟩ => ?_
  refine ⟨G, w, δ, _, rep, q, fun r δ1 v H1 G1 w1 q1 s1 rep1 => ?_⟩
  refine ⟨G1, _, δ1, _, rep1.drop, q1, fun rs δ2 vs H2 G2 w2 q2 l2 s2 rep2 => ?_⟩
  obtain ⟨w3, s3, rep3⟩ := rep1.frame s2 rep2
  exact k _ δ2 _ H2 G2 w3 q2 (congrArg (· + 1) l2) (s1.trans s3) rep3
/-- a binary operator -/
def ap2 (r : R2) : List V → Hp → VK → Prop
  | [x, y], H, Q => r x y H Q
  | _, _, _ => False
def ap1 (r : V → Hp → VK → Prop) : List V → Hp → VK → Prop
  | [x], H, Q => r x H Q
  | _, _, _ => False
theorem lc_two {a b : PX} {q : List R → PX} {r : R2} {σ : St} {H : Hp} {Q : VK} (hl : LC X.K q (ap2 r)) (h : LE X.K B (pC q (pCons a (pCons b pNil))) σ H Q) : LE X.K B a σ H fun x H1 => LE X.K B b σ H1 fun y H2 => r x y H2 Q := by
  obtain ⟨G, w, δ, Qp, rep, q, k⟩ := h
  refine ⟨G, w, δ, _, rep, q, fun ra δ1 x H1 G1 w1 q1 s1 rep1 => ?_⟩
  refine ⟨G1, _, δ1, _, rep1.drop, q1, fun rb δ2 y H2 G2 w2 q2 s2 rep2 => ?_⟩
  obtain ⟨w3, s3, rep3⟩ := rep1.frame s2 rep2
  exact hl G2 H2 σ δ2 [x, y] [ra, rb] w3 Qp Q rep3 q2 fun r δ' v H' G' w' hq hs hr => k r δ' v H' G' w' hq ((s1.trans s3).trans hs) hr
theorem je_op {a b : Expr} {op : Operator} {pos : Pos} {pa pb : PX} {q : List R → PX} {r : R2} (ho : OpR X (binaryOp op) r) (hl : LC X.K q (ap2 r)) (ha : JE X B a pa) (hb : JE X B b pb) : JE X B (.BinOp a op b pos) (pC q (pCons pa (pCons pb pNil))) :=
  PE_wk (pe_op ho ha hb) fun σ H Q h => lc_two hl h
theorem je_cmp {a b : Expr} {op : CmpOp} {pos : Pos} {pa pb : PX} {q : List R → PX} {r : R2} (ho : OpR X (compareOp op) r) (hl : LC X.K q (ap2 r)) (ha : JE X B a pa) (hb : JE X B b pb) (hm : behindInMarks op b = false) : JE X B (.Compare a [op] [b] pos) (pC q (pCons pa (pCons pb pNil))) :=
  PE_wk (pe_cmpR ho ha hb hm) fun σ H Q h => lc_two hl h
theorem je_un {a : Expr} {op : UnaryOp} {pos : Pos} {pa : PX} {q : List R → PX} {r : V → Hp → VK → Prop} (ho : UnR X (unaryOp op) r) (hl : LC X.K q (ap1 r)) (ha : JE X B a pa) : JE X B (.UnaryOp op a pos) (pC q (pCons pa pNil)) :=
  PE_wk (pe_un ho ha) fun σ H Q ⟨G, w, δ, Qp, rep, q, k⟩ => ⟨G, w, δ, _, rep, q, fun ra δ1 x H1 G1 w1 q1 s1 rep1 =>
    hl G1 H1 σ δ1 [x] [ra] w1 Qp Q rep1 q1 fun r δ' v H' G' w' hq hs hr => k r δ' v H' G' w' hq (s1.trans hs) hr⟩
theorem lc_args {n : Nat} {ps : PL} {q : List R → PX} {r : List V → Hp → VK → Prop} {σ : St} {H : Hp} {Q : VK} (hl : LC X.K q r) (h : LE X.K B (pC q ps) σ H Q) : tCB r (LA X.K B n ps) σ H Q := by
  obtain ⟨G, w, δ, Qp, rep, q, k⟩ := h
  exact ⟨G, w, δ, _, rep, q, fun rs δ1 vs H1 G1 w1 q1 _ s1 rep1 => hl G1 H1 σ δ1 vs rs w1 Qp Q rep1 q1 fun r δ' v H' G' w' hq hs hr => k r δ' v H' G' w' hq (s1.trans hs) hr⟩
/-! ### tests -/
def pT (p : PX) : PB := fun δ Q => p δ fun r δ1 => ∃ b, dat δ1 r = some (.bool b) ∧ Q b δ1
theorem dp_bool {K : PySem.W.Frag} {H : Hp} {v : V} {b : Bool} (h : Dp K H v (.bool b)) : v = .bl b := by cases h; rfl
theorem jb_val {e : Expr} {p : PX} (h : JE X B e p) (he : ∀ whole, isTrue e X.env whole = (do let v ← whole; standAt e.pos; holding [v] (truthy v)) := by intro _; rfl) : JB X B e (pT p) := by
  refine PT_wk (pt_val h he) fun σ H Q ⟨G, w, δ, Qp, rep, q, k⟩ => ?_
  refine ⟨G, w, δ, _, rep, q, fun r δ1 v H1 G1 w1 q1 s1 rep1 => ?_⟩
  obtain ⟨b, hd, q1⟩ := q1
  exact ⟨b, dp_bool (rep1.dpH (j := 0) rfl rfl hd), k b δ1 H1 G1 _ q1 (s1.trans .drop) rep1.drop⟩
theorem jb_cmp {a b : Expr} {op : CmpOp} {pos : Pos} {pa pb : PX} {q : List R → PX} {r : R2} (ho : OpR X (compareOp op) r) (hl : LC X.K q (ap2 r)) (ha : JE X B a pa) (hb : JE X B b pb) (hm : behindInMarks op b = false) : JB X B (.Compare a [op] [b] pos) (pT (pC q (pCons pa (pCons pb pNil)))) := by
  refine PT_wk (pt_cmpR ho ha hb hm) fun σ H Q ⟨G, w, δ, Qp, rep, q, k⟩ => ?_
  refine lc_two hl ⟨G, w, δ, _, rep, q, fun r δ1 v H1 G1 w1 q1 s1 rep1 => ?_⟩
  obtain ⟨b, hd, q1⟩ := q1
  exact ⟨b, dp_bool (rep1.dpH (j := 0) rfl rfl hd), k b δ1 H1 G1 _ q1 (s1.trans .drop) rep1.drop⟩
def pAnd (p q : PB) : PB := fun δ Q => p δ fun b δ1 => if b = true then q δ1 Q else Q false δ1
def pOr (p q : PB) : PB := fun δ Q => p δ fun b δ1 => if b = true then Q true δ1 else q δ1 Q
def pNot (p : PB) : PB := fun δ Q => p δ fun b δ1 => Q (!b) δ1
def JW (X : Cx) (B : Bas) (e : Expr) (p : PB) : Prop := PW X e (LB X.K B p)
theorem jw_pt {e : Expr} {p : PB} (h : JW X B e p) : JB X B e p := PW.pt h
theorem jw_and1 {a : Expr} {pos : Pos} {p : PB} (h : JB X B a p) : JW X B (.BoolOp .And [a] pos) p := pw_and1 h
theorem jw_or1 {a : Expr} {pos : Pos} {p : PB} (h : JB X B a p) : JW X B (.BoolOp .Or [a] pos) p := pw_or1 h
theorem jw_and {a b : Expr} {rest : List Expr} {pos : Pos} {p q : PB} (ha : JB X B a p) (hb : JW X B (.BoolOp .And (b :: rest) pos) q) : JW X B (.BoolOp .And (a :: b :: rest) pos) (pAnd p q) := by
  refine PW_wk (pw_and ha hb) fun σ H Q ⟨G, w, δ, Qp, rep, h, k⟩ => ?_
  refine ⟨G, w, δ, _, rep, h, fun b δ1 H1 G1 w1 q1 s1 rep1 => ?_⟩
  cases b with
  | true => exact ⟨G1, w1, δ1, Qp, rep1, q1, fun b δ2 H2 G2 w2 q2 s2 rep2 => k b δ2 H2 G2 w2 q2 (s1.trans s2) rep2⟩
  | false => exact k false δ1 H1 G1 w1 q1 s1 rep1
theorem jw_or {a b : Expr} {rest : List Expr} {pos : Pos} {p q : PB} (ha : JB X B a p) (hb : JW X B (.BoolOp .Or (b :: rest) pos) q) : JW X B (.BoolOp .Or (a :: b :: rest) pos) (pOr p q) := by
  refine PW_wk (pw_or ha hb) fun σ H Q ⟨G, w, δ, Qp, rep, h, k⟩ => ?_
  refine ⟨G, w, δ, _, rep, h, fun b δ1 H1 G1 w1 q1 s1 rep1 => ?_⟩
  cases b with
  | false => exact ⟨G1, w1, δ1, Qp, rep1, q1, fun b δ2 H2 G2 w2 q2 s2 rep2 => k b δ2 H2 G2 w2 q2 (s1.trans s2) rep2⟩
  | true => exact k true δ1 H1 G1 w1 q1 s1 rep1
theorem jb_not {a : Expr} {pos : Pos} {p : PB} (h : JB X B a p) : JB X B (.UnaryOp .Not a pos) (pNot p) := by
  refine PT_wk (pt_not h) fun σ H Q ⟨G, w, δ, Qp, rep, h, k⟩ => ?_
  exact ⟨G, w, δ, _, rep, h, fun b δ1 H1 G1 w1 q1 s1 rep1 => k (!b) δ1 H1 G1 w1 q1 s1 rep1⟩
/-- and, or, not as values: truths -/
def pAndV (p q : PX) : PX := fun δ Q => p δ fun r δ1 => ∃ b, dat δ1 r = some (.bool b) ∧ if b = true then q δ1 Q else Q (.im (.bool false)) δ1
def pNotV (p : PX) : PX := fun δ Q => p δ fun r δ1 => ∃ b, dat δ1 r = some (.bool b) ∧ Q (.im (.bool (!b))) δ1
theorem LE.go {K : PySem.W.Frag} {q : PX} {σ : St} {G H G1 H1 : Hp} {w w1 : Addr → Option Nat} {δ δ1 : List Sl} {vs : List V} {rs : List R} {Qp : QE} {Q : VK} (s1 : Stp B.T G H w δ G1 H1 w1 δ1) (rep1 : Rep K B G1 H1 σ δ1 vs rs w1) (h : q δ1 Qp)
    (k : ∀ r δ' v H' G' w', Qp r δ' → Stp B.T G H w δ G' H' w' δ' → Rep K B G' H' σ δ' [v] [r] w' → Q v H') : LE K B q σ H1 Q :=
  ⟨G1, _, δ1, Qp, rep1.drop, h, fun r δ2 v H2 G2 w2 q2 s2 rep2 => k r δ2 v H2 G2 w2 q2 ((s1.trans .drop).trans s2) rep2⟩
theorem je_one {op} {a : Expr} {pos : Pos} {p : PX} (h : JE X B a p) : JE X B (.BoolOp op [a] pos) p := pe_one h
theorem je_and {a b : Expr} {rest : List Expr} {pos : Pos} {p q : PX} (ha : JE X B a p) (hb : JE X B (.BoolOp .And (b :: rest) pos) q) : JE X B (.BoolOp .And (a :: b :: rest) pos) (pAndV p q) := by
  refine PE_wk (pe_and ha hb) fun σ H Q ⟨G, w, δ, Qp, rep, h, k⟩ => ?_
  refine ⟨G, w, δ, _, rep, h, fun r δ1 v H1 G1 w1 q1 s1 rep1 => ?_⟩
  obtain ⟨b, hd, q1⟩ := q1
  refine ⟨b, dp_bool (rep1.dpH (j := 0) rfl rfl hd), ?_⟩
  cases b with
  | true => exact LE.go s1 rep1 q1 k
  | false => exact k _ δ1 _ H1 G1 _ q1 (s1.trans .drop) (rep1.ret (.bl false))
theorem je_not {a : Expr} {pos : Pos} {p : PX} (h : JE X B a p) : JE X B (.UnaryOp .Not a pos) (pNotV p) := by
  refine PE_wk (pe_not h) fun σ H Q ⟨G, w, δ, Qp, rep, h, k⟩ => ?_
  refine ⟨G, w, δ, _, rep, h, fun r δ1 v H1 G1 w1 q1 s1 rep1 => ?_⟩
  obtain ⟨b, hd, q1⟩ := q1
  exact ⟨b, dp_bool (rep1.dpH (j := 0) rfl rfl hd), k _ δ1 _ H1 G1 _ q1 (s1.trans .drop) (rep1.ret (.bl _))⟩
def pIfE (c : PB) (a b : PX) : PX := fun δ Q => c δ fun t δ1 => if t = true then a δ1 Q else b δ1 Q
theorem je_ifExp {c a b : Expr} {pos : Pos} {pc : PB} {pa pb : PX} (hc : JB X B c pc) (ha : JE X B a pa) (hb : JE X B b pb) : JE X B (.IfExp c a b pos) (pIfE pc pa pb) := by
  refine PE_wk (pe_ifExp hc ha hb) fun σ H Q ⟨G, w, δ, Qp, rep, h, k⟩ => ?_
  refine ⟨G, w, δ, _, rep, h, fun t δ1 H1 G1 w1 q1 s1 rep1 => ?_⟩
  cases t with
  | true => exact LE.go s1 rep1 q1 k
  | false => exact LE.go s1 rep1 q1 k
end
end Pv
/-! Books looked at: what is amiss, first of all. -/
namespace Wf
open PySem PySem.Spec L2
def isT : PyData → Bool
  | .tuple _ => true
  | _ => false
/-! ### what is asked -/
def isWh (lo hi : Int) : PyData → Bool
  | .int i => decide (lo ≤ i) && decide (i ≤ hi)
  | _ => false
def isTu (n : Int) : PyData → Bool
  | .tuple ds => decide ((ds.length : Int) = n)
  | _ => false
end Wf
/-! look_table, look_paces, look_book. -/
namespace Wf
open PySem PySem.Spec L2
/-- an error of the class at C with these fields leaves -/
def RzE (C : Addr) (H : Hp) (E : XK) (w : Str) (n : Int) : Prop := ∀ (dd : Addr) (H' : Hp), Same H H' → H dd = none → H' dd = some (.xd [("at", .int n), ("word", .str w)]) → E (.ref C) (some dd) H'
theorem RzE.go {C : Addr} {H H1 : Hp} {E : XK} {w : Str} {n : Int} (r : RzE C H E w n) (s : Same H H1) : ∀ dd, H1 dd = none → E (.ref C) (some dd) (upd H1 dd (.xd [("at", .int n), ("word", .str w)])) := fun dd hd =>
  r dd _ (s.trans (same_new hd)) (s.free hd) upd_same
theorem RzE.same {C : Addr} {H H1 : Hp} {E : XK} {w : Str} {n : Int} (r : RzE C H E w n) (s : Same H H1) : RzE C H1 E w n := fun dd H' s' hd he => r dd H' (s.trans s') (s.free hd) he
section
variable {K : PySem.W.Frag} {C : Addr}
theorem three_of {d : PyData} (h : isTu 3 d = true) : ∃ a b c, d = .tuple [a, b, c] := by
  match d with
  | .tuple [] => exact absurd h (by simp [isTu])
  | .tuple [_] => exact absurd h (by simp [isTu])
  | .tuple [_, _] => exact absurd h (by simp [isTu])
  | .tuple [a, b, c] => exact ⟨a, b, c, rfl⟩
  | .tuple (_ :: _ :: _ :: _ :: _) =>
    simp [isTu] at h
    omega
  | .none => exact nomatch h
  | .bool _ => exact nomatch h
  | .int _ => exact nomatch h
  | .str _ => exact nomatch h
  | .list _ => exact nomatch h
  | .dict _ => exact nomatch h
end
end Wf
/-! A def within a def that is handed on: its captured cells stand still while another def calls it. -/
namespace Wf
open PySem PySem.Spec PyProof.Rows L2 LamX NdefX
/-! ### a call of what a slot holds -/
/-! ### tuple.index of numbers -/
/-! ### heaps: all but tables of code -/
theorem ExtN.tp {K : PySem.W.Frag} {H H' : Hp} (e : ExtN H H') : Tp K H H' := fun a xs h => by
  rcases h with (h | ⟨o, h⟩) | h
  · exact .inl (.inl (e _ _ h fun ps z => nomatch z))
  · exact .inl (.inr ⟨o, e _ _ h fun ps z => nomatch z⟩)
  · exact .inr h
/-! ### made_table -/
/-! ### made_table(n, f), f a def made here -/
/-- the rule of a def whose code object is known -/
theorem okC {P : Program} {w : World} {K : PySem.W.Frag} {mg : Str → Option Value} {base : Heap} {CX : CXT} {k : Nat} {f c : Addr} {fd : FuncData} {ps N : List Str} {sp : Sp} {x qual : Str} {params : Arguments} {body : List Stmt} {scope : Scope} {dvs : List V} {kws : List (Str × V)}
    (F : FunD K x qual params body scope dvs kws f fd) (hc : fd.code = .ref c) (S : FnScope N ps scope) (len : ∀ vs H Q E, sp vs H Q E → vs.length = ps.length)
    (hb : ∀ (A : Around) (outer : List Env) (s : Shared) (H : Hp) (vs : List V) (Q : VK) (E : XK), Room k (A.deeper (envOfC qual scope s.heap.objs.size f (.ref c))) → sp vs H Q E →
      ∃ t, PSs (cxOf CX P w K mg base N qual scope f (.ref c) A outer s H E) body t ∧ t (EndsQ Q) (start N vs) H) : FnOk P w K mg base CX (k + 1) f fd ps sp := by
  obtain ⟨oc, od, dV, kV, doc, pm, an, cdv, ct, osl, rfl, lk, hcd, _, _⟩ := F.ex
  have ec : cdv = .ref c := hc
  subst ec
  exact fn_of lk hcd S len fun A outer s H vs Q E hr hsp => hb A outer s H vs Q E hr hsp
/-! ### tuples whose object is known -/
/-- x is a tuple of these numbers, its object known -/
structure NmT (H : Hp) (x : V) (ns : List Int) : Prop where
  ex : ∃ (p : Addr) (o : Obj), x = .ref p ∧ H p = some (.frz o (.tup (ns.map V.int))) ∧ o.cls = .type "tuple" ∧ o.dict = none
theorem NmT.ext {H H' : Hp} {x : V} {ns : List Int} (h : NmT H x ns) (e : ExtN H H') : NmT H' x ns := by
  obtain ⟨p, o, rfl, h1, h2, h3⟩ := h.ex
  exact ⟨p, o, rfl, e _ _ h1 (fun ps z => nomatch z), h2, h3⟩
theorem NmT.sq {K : PySem.W.Frag} {H : Hp} {x : V} {ns : List Int} (h : NmT H x ns) : ∃ p, x = .ref p ∧ SqT K H p (ns.map V.int) := by
  obtain ⟨p, o, rfl, h1, _, _⟩ := h.ex
  exact ⟨p, rfl, .inl (.inr ⟨o, h1⟩)⟩
theorem NmT.dp {K : PySem.W.Frag} {H : Hp} {x : V} {ns : List Int} (h : NmT H x ns) : Dp K H x (dI ns) := by
  obtain ⟨p, rfl, hs⟩ := h.sq (K := K)
  exact .tup hs (dp_ints ns)
def qTupF (K : PySem.W.Frag) : List V → Hp → VK → Prop := fun xs H Q => ∃ p ys, xs = [.ref p] ∧ SqL K H p ys ∧ ∀ (l : Addr) (o : Obj), H l = none → o.cls = .type "tuple" → o.dict = none → Q (.ref l) (upd H l (.frz o (.tup ys)))
theorem call_tupF {X : Cx} : CallR X (.type "tuple") (qTupF X.K) := by
  intro pins s σ H xs us Q I r q
  obtain ⟨p, ys, rfl, hq, q⟩ := q
  cases r with
  | cons rx rr =>
    cases rr
    cases rx
    obtain ⟨its, r', pl, hz⟩ := I.list hq
    have hlen := r'.length
    refine call_tuple_list pl.isList (fun h' kp => ?_) (by simp only [List.size_toArray] <;> omega)
    have I1 : L2.Inv X pins σ H { s with heap := h' } := I.kept (t' := s.toks) kp
    have hget : (h'.push { cls := .type "tuple", data := .seq its.toArray }).get? h'.objs.size = some { cls := .type "tuple", data := .seq its.toArray } := Heap.get?_push_size _ rfl
    have I2 := I1.laid (t' := s.toks) (o := .frz { cls := .type "tuple", data := .seq its.toArray } (.tup ys)) (fun b o e => Heap.get?_push_of_some _ e) (Nat.le_refl _) ⟨hget, hz, its, r', IsTup.new _ _⟩
    exact ⟨.ref h'.objs.size, _, I2, rfl, q _ _ (I1.hok.fresh (Nat.le_refl _)) rfl rfl⟩
end Wf
/-! t * n, t a tuple that is not empty, n from 0 on. -/
namespace Wf
open PySem PySem.Spec PyProof.Rows L2
theorem mul_one (l : Addr) (ws : Array Value) (n : Nat) (dd : Option Addr) (sl : Array (Option Value)) (u : Tok) :
    Meets (Builtin.«tuple.__mul__» ⟨[.ref l, .int 1 u], []⟩) (fun _ R s => s.heap.get? l = some { cls := .type "tuple", dict := dd, data := .seq ws n, slots := sl } ∧ R (.ok (.ret (Value.ref l))) s) :=
  .of_wp fun prog w A R s q => by
    obtain ⟨hp, gn, dr, tk, os⟩ := s
    obtain ⟨hl, q⟩ := q
    have ix := AutoSeq1.idx_int
    have c1 : (ws.isEmpty || (1 : Int) == 1) = true := by rw [Bool.or_comm]; rfl
    wp_walk using wpAny_loadPart' hl
    repeat (first
      | (refine wpAny_ite_true (decide_eq_true c1) ?_; wp_walk using wpAny_loadPart' hl)
      | (refine wpAny_ite_true c1 ?_; wp_walk using wpAny_loadPart' hl))
    exact ⟨_, rfl, q⟩
theorem mul_none (l : Addr) (ws : Array Value) (n : Nat) (dd : Option Addr) (sl : Array (Option Value)) (u : Tok) (he : ws.isEmpty = false) :
    Meets (Builtin.«tuple.__mul__» ⟨[.ref l, .int 0 u], []⟩) (fun _ R s => s.heap.get? l = some { cls := .type "tuple", dict := dd, data := .seq ws n, slots := sl } ∧
      R (.ok (.ret (Value.ref s.heap.objs.size))) { s with heap := s.heap.push { cls := Value.type "tuple", data := Data.seq #[] }, toks := s.toks }) :=
  .of_wp fun prog w A R s q => by
    obtain ⟨hp, gn, dr, tk, os⟩ := s
    obtain ⟨hl, q⟩ := q
    have ix := AutoSeq1.idx_int
    have c1 : (ws.isEmpty || (0 : Int) == 1) = false := by rw [he]; rfl
    wp_walk using wpAny_loadPart' hl
    repeat (first
      | (refine wpAny_ite_false (decide_eq_false (by rw [c1]; exact Bool.false_ne_true)) ?_; wp_walk using wpAny_loadPart' hl)
      | (refine wpAny_ite_true (decide_eq_true rfl) ?_; wp_walk using wpAny_loadPart' hl))
    exact ⟨_, rfl, q⟩
def rRepA (K : PySem.W.Frag) : R2 := fun x y H Q => ∃ l k xs, x = .ref l ∧ y = .int k ∧ SqT K H l xs ∧ xs ≠ [] ∧ 0 ≤ k ∧ k ≤ 1000 ∧ xs.length ≤ 1000 ∧ (k = 1 → Q (.ref l) H) ∧ (k ≠ 1 → ∀ p, H p = none → Q (.ref p) (upd H p (.tup (List.replicate k.toNat xs).flatten)))
theorem op_repA {X : Cx} : OpR X (binaryOp .Mult) (rRepA X.K) := by
  intro pins s σ H x y v u Q I rx ry q
  obtain ⟨l, k, xs, rfl, rfl, hT, hne, k0, k1, hz, q1, q2⟩ := q
  by_cases c2 : 2 ≤ k
  · exact op_repT pins s σ H _ _ v u Q I rx ry ⟨l, k, xs, rfl, rfl, hT, hne, c2, k1, hz, q2 (by omega)⟩
  · cases rx
    obtain ⟨t, rfl⟩ := ry
    obtain ⟨its, r, ⟨⟨cls, dd, dt, sl⟩, ho, hc, n, hd⟩, hs⟩ := I.tuple hT
    simp only at hc hd
    subst hc hd
    have hk : k = 0 ∨ k = 1 := by omega
    have hle : its.length = xs.length := r.length.symm
    rcases hk with rfl | rfl
    · have he : its.toArray.isEmpty = false := by
        cases its with
        | nil => exact absurd (List.eq_nil_of_length_eq_zero hle.symm) hne
        | cons a b => rfl
      refine wpAny_binaryOp_repeat_ref (T := "tuple") (U := "int") (by decide) ⟨_, ho, rfl⟩ (fun s' => typeIs_int s' 0 t) noFill_tuple_mul F.fills_int_mul F.slot_int_rmul repeat_tuple F.slot_int_index.lookup
        (call_meets F.slot_int_rmul (typeIs_int s 0 t) F.entry_int_rmul (F.args_int_rmul_2 _ _) (int_rmul_tuple 0 t l its.toArray n dd sl) ⟨ho, rfl, ⟨_, ho, rfl⟩, call_meets F.slot_tuple_mul ⟨_, ho, rfl⟩ F.entry_tuple_mul (F.args_tuple_mul_2 _ _) (mul_none l its.toArray n dd sl t he) ⟨ho, ?_⟩⟩)
      refine ⟨.ref s.heap.objs.size, _, I.laid (t' := s.toks) (o := .tup []) (fun b ob e => Heap.get?_push_of_some _ e) (Nat.le_refl _) ?_, rfl, q2 (by decide) _ (I.hok.fresh (Nat.le_refl _))⟩
      exact ⟨Nat.zero_le _, [], .nil, IsTup.new _ _⟩
    · refine wpAny_binaryOp_repeat_ref (T := "tuple") (U := "int") (by decide) ⟨_, ho, rfl⟩ (fun s' => typeIs_int s' 1 t) noFill_tuple_mul F.fills_int_mul F.slot_int_rmul repeat_tuple F.slot_int_index.lookup
        (call_meets F.slot_int_rmul (typeIs_int s 1 t) F.entry_int_rmul (F.args_int_rmul_2 _ _) (int_rmul_tuple 1 t l its.toArray n dd sl) ⟨ho, rfl, ⟨_, ho, rfl⟩, call_meets F.slot_tuple_mul ⟨_, ho, rfl⟩ F.entry_tuple_mul (F.args_tuple_mul_2 _ _) (mul_one l its.toArray n dd sl t) ⟨ho, ?_⟩⟩)
      exact ⟨.ref l, H, I, rfl, q1 rfl⟩
end Wf
namespace Pv
open PySem PySem.Spec L2 Wf
variable {B : Bas}
/-! ### operations that read data and give data -/
def dats (δ : List Sl) : List R → Option (List PyData)
  | [] => some []
  | r :: rs => match dat δ r with
    | none => none
    | some d => match dats δ rs with
      | none => none
      | some ds => some (d :: ds)
inductive Vws (K : PySem.W.Frag) (G H : Hp) : List V → List PyData → Prop
  | nil : Vws K G H [] []
  | cons {v : V} {vs : List V} {d : PyData} {ds : List PyData} : Vw K G H v d → Vws K G H vs ds → Vws K G H (v :: vs) (d :: ds)
section
variable {K : PySem.W.Frag} {G H : Hp} {σ : St} {δ : List Sl} {w : Addr → Option Nat}
theorem vws_of : ∀ (rs : List R) (vs : List V) (ds : List PyData), vs.length = rs.length → (∀ (j : Nat) v q d, vs[j]? = some v → rs[j]? = some q → Pv.dat δ q = some d → Vw K G H v d) → dats δ rs = some ds → Vws K G H vs ds
  | [], [], ds, _, _, h => by
    cases h; exact .nil
  | [], v :: vs, ds, hl, _, _ => by simp at hl
  | r :: rs, [], ds, hl, _, _ => by simp at hl
  | r :: rs, v :: vs, ds, hl, hv, h => by
    unfold dats at h
    revert h
    split
    · intro h; cases h
    · rename_i d e
      split
      · intro h; cases h
      · rename_i ds' e'
        intro h; cases h
        exact .cons (hv 0 v r d rfl rfl e) (vws_of rs vs ds' (by simpa using hl) (fun j v' q d' h1 h2 h3 => hv (j + 1) v' q d' (by simpa using h1) (by simpa using h2) h3) e')
theorem Rep.vws {vs : List V} {rs : List R} {ds : List PyData} (r : Rep K B G H σ δ vs rs w) (h : dats δ rs = some ds) : Vws K G H vs ds :=
  vws_of rs vs ds r.tlen (fun _ _ _ _ hv hq hd => r.dat hv hq hd) h
end
/-- the value v of the data d: one that is there, or a new tuple -/
def Res (K : PySem.W.Frag) (G H : Hp) (v : V) (H' : Hp) (d : PyData) : Prop := (H' = H ∧ Dq K G v d) ∨ ∃ p us l, v = .ref p ∧ H p = none ∧ H' = upd H p (.tup us) ∧ DqAll K G us l ∧ d = .tuple l
theorem Res.old {K : PySem.W.Frag} {G H : Hp} {v : V} {d : PyData} (h : Dq K G v d) : Res K G H v H d := .inl ⟨rfl, h⟩
theorem Res.int {K : PySem.W.Frag} {G H : Hp} {i : Int} : Res K G H (.int i) H (.int i) := .inl ⟨rfl, .int i⟩
theorem Res.bool {K : PySem.W.Frag} {G H : Hp} {i : Bool} : Res K G H (.bl i) H (.bool i) := .inl ⟨rfl, .bl i⟩
theorem Res.str {K : PySem.W.Frag} {G H : Hp} {i : Str} : Res K G H (.str i) H (.str i) := .inl ⟨rfl, .str i⟩
def qD (f : List PyData → (PyData → Prop) → Prop) : List R → PX := fun rs δ Q => match dats δ rs with
  | some ds => f ds fun d => Q (.im d) δ
  | none => False
def qL (f : List PyData → (List PyData → Prop) → Prop) : List R → PX := fun rs δ Q => match dats δ rs with
  | some ds => f ds fun l => Q (.ow (.lst l)) δ
  | none => False
theorem dq_newTup {K : PySem.W.Frag} {G H : Hp} {p : Addr} {us : List V} {l : List PyData} (s : Same G H) (hp : H p = none) (h : DqAll K G us l) : Dq K (upd G p (.tup us)) (.ref p) (.tuple l) := by
  have gp : G p = none := by
    cases e : G p with
    | none => rfl
    | some u => rw [s p u e] at hp; cases hp
  exact .tup (SqT.of upd_same) (dpAll_mono (same_new gp) _ _ h)
theorem lc_im {K : PySem.W.Frag} {f : List PyData → (PyData → Prop) → Prop} {r : List V → Hp → VK → Prop}
    (h : ∀ G H vs ds Q, Same G H → Vws K G H vs ds → f ds (fun d => ∀ v H', Res K G H v H' d → Q v H') → (∀ k k' : PyData → Prop, (∀ d, k d → k' d) → f ds k → f ds k') → r vs H Q) (mono : ∀ ds (k k' : PyData → Prop), (∀ d, k d → k' d) → f ds k → f ds k') : LC K (qD f) r := by
  intro B G H σ δ vs rs w Qp Q rep q k
  unfold qD at q
  revert q
  split
  · rename_i ds e
    intro q
    refine h G H vs ds Q rep.sub (rep.vws e) (mono ds _ _ (fun d hd v H' res => ?_) q) (mono ds)
    rcases res with ⟨rfl, hq⟩ | ⟨p, us, l, rfl, hp, rfl, hus, rfl⟩
    · exact k _ δ v _ G _ hd .drop (rep.ret hq)
    · obtain ⟨s1, r1⟩ := rep.retNew hp (dq_newTup rep.sub hp hus)
      exact k _ δ _ _ _ _ hd s1 r1
  · intro q; exact q.elim
theorem lc_own {K : PySem.W.Frag} {f : List PyData → (List PyData → Prop) → Prop} {r : List V → Hp → VK → Prop}
    (h : ∀ G H vs ds Q, Same G H → Vws K G H vs ds → f ds (fun l => ∀ us p, DqAll K G us l → H p = none → Q (.ref p) (upd H p (.lst us))) → r vs H Q) (mono : ∀ ds (k k' : List PyData → Prop), (∀ d, k d → k' d) → f ds k → f ds k') : LC K (qL f) r := by
  intro B G H σ δ vs rs w Qp Q rep q k
  unfold qL at q
  revert q
  split
  · rename_i ds e
    intro q
    refine h G H vs ds Q rep.sub (rep.vws e) (mono ds _ _ (fun l hd us p hus hp => ?_) q)
    obtain ⟨w', s1, r1⟩ := rep.retLst hp hus
    exact k _ δ _ _ _ _ hd s1 r1
  · intro q; exact q.elim
/-- one of two readings -/
def qOr (q q' : List R → PX) : List R → PX := fun rs δ Q => q rs δ Q ∨ q' rs δ Q
theorem lc_or {K : PySem.W.Frag} {q q' : List R → PX} {r r' : R2} (h : LC K q (ap2 r)) (h' : LC K q' (ap2 r')) : LC K (qOr q q') (ap2 fun x y H Q => r x y H Q ∨ r' x y H Q) := by
  intro B G H σ δ vs rs w Qp Q rep hq k
  match vs, hq with
  | [x, y], .inl hq => exact .inl (h G H σ δ [x, y] rs w Qp Q rep hq k)
  | [x, y], .inr hq => exact .inr (h' G H σ δ [x, y] rs w Qp Q rep hq k)
  | [], .inl hq => exact h G H σ δ [] rs w Qp Q rep hq k
  | [], .inr hq => exact h' G H σ δ [] rs w Qp Q rep hq k
  | [x], .inl hq => exact h G H σ δ [x] rs w Qp Q rep hq k
  | [x], .inr hq => exact h' G H σ δ [x] rs w Qp Q rep hq k
  | x :: y :: z :: vs, .inl hq => exact h G H σ δ (x :: y :: z :: vs) rs w Qp Q rep hq k
  | x :: y :: z :: vs, .inr hq => exact h' G H σ δ (x :: y :: z :: vs) rs w Qp Q rep hq k
theorem op_or {X : Cx} {f : Value → Value → Sem Value} {r r' : R2} (h : OpR X f r) (h' : OpR X f r') : OpR X f (fun x y H Q => r x y H Q ∨ r' x y H Q) := by
  intro pins s σ H x y v u Q I rx ry q
  rcases q with q | q
  · exact h pins s σ H x y v u Q I rx ry q
  · exact h' pins s σ H x y v u Q I rx ry q
/-! ### arithmetic -/
def fI2 (C : Int → Int → Prop) (g : Int → Int → PyData) : List PyData → (PyData → Prop) → Prop
  | [.int a, .int b], k => C a b ∧ k (g a b)
  | _, _ => False
theorem fI2_mono {C : Int → Int → Prop} {g : Int → Int → PyData} : ∀ ds (k k' : PyData → Prop), (∀ d, k d → k' d) → fI2 C g ds k → fI2 C g ds k' := by
  intro ds k k' h q
  unfold fI2 at q ⊢
  split at q
  · exact ⟨q.1, h _ q.2⟩
  · exact q.elim
theorem lc_I2 {K : PySem.W.Frag} {C : Int → Int → Prop} {g : Int → Int → PyData} {gv : Int → Int → V} (hg : ∀ a b G, Dq K G (gv a b) (g a b)) : LC K (qD (fI2 C g)) (ap2 (rI C gv)) := by
  refine lc_im (fun G H vs ds Q s hv q _ => ?_) fI2_mono
  unfold fI2 at q
  split at q
  · cases hv with
    | cons h1 hv =>
      cases hv with
      | cons h2 hv =>
        cases hv
        exact ⟨_, _, h1.int, h2.int, q.1, q.2 _ _ (.old (hg _ _ G))⟩
  · exact q.elim
def T2 (_ _ : Int) : Prop := True
theorem rI_0 {g : Int → Int → V} {x y : V} {H : Hp} {Q : VK} (h : rI T2 g x y H Q) : rI0 g x y H Q := by
  obtain ⟨i, j, h1, h2, _, q⟩ := h
  exact ⟨i, j, h1, h2, q⟩
theorem lc_wk {K : PySem.W.Frag} {q : List R → PX} {r r' : R2} (h : LC K q (ap2 r)) (k : ∀ x y H Q, r x y H Q → r' x y H Q) : LC K q (ap2 r') := by
  intro B G H σ δ vs rs w Qp Q rep hq kk
  match vs with
  | [x, y] => exact k x y H Q (h G H σ δ [x, y] rs w Qp Q rep hq kk)
  | [] => exact h G H σ δ [] rs w Qp Q rep hq kk
  | [x] => exact h G H σ δ [x] rs w Qp Q rep hq kk
  | x :: y :: z :: vs => exact h G H σ δ (x :: y :: z :: vs) rs w Qp Q rep hq kk
theorem lc_I0 {K : PySem.W.Frag} {g : Int → Int → PyData} {gv : Int → Int → V} (hg : ∀ a b G, Dq K G (gv a b) (g a b)) : LC K (qD (fI2 T2 g)) (ap2 (rI0 gv)) := lc_wk (lc_I2 hg) fun _ _ _ _ h => rI_0 h
/-- sums: numbers, tuples, texts, lists -/
def fCat : List PyData → (PyData → Prop) → Prop
  | [.tuple a, .tuple b], k => a.length + b.length ≤ sizeLine ∧ k (.tuple (a ++ b))
  | _, _ => False
def fCatL : List PyData → (List PyData → Prop) → Prop
  | [.list a, .list b], k => a.length + b.length ≤ sizeLine ∧ k (a ++ b)
  | _, _ => False
def fCatS : List PyData → (PyData → Prop) → Prop
  | [.str a, .str b], k => a.length + b.length ≤ sizeLine ∧ k (.str (a ++ b))
  | _, _ => False
theorem dqAll_len {K : PySem.W.Frag} {G : Hp} : ∀ {us : List V} {ds : List PyData}, DqAll K G us ds → us.length = ds.length
  | _, _, .nil => rfl
  | _, _, .cons _ h => congrArg (· + 1) (dqAll_len h)
theorem dqAll_append {K : PySem.W.Frag} {G : Hp} : ∀ {us us' : List V} {ds ds' : List PyData}, DqAll K G us ds → DqAll K G us' ds' → DqAll K G (us ++ us') (ds ++ ds')
  | _, _, _, _, .nil, h => h
  | _, _, _, _, .cons h1 h2, h => .cons h1 (dqAll_append h2 h)
theorem dqAll_nil {K : PySem.W.Frag} {G : Hp} {us : List V} (h : DqAll K G us []) : us = [] := by cases h; rfl
theorem dqAll_nil' {K : PySem.W.Frag} {G : Hp} {ds : List PyData} (h : DqAll K G [] ds) : ds = [] := by cases h; rfl
theorem lc_cat {K : PySem.W.Frag} : LC K (qD fCat) (ap2 (rCatA K)) := by
  refine lc_im (fun G H vs ds Q s hv q _ => ?_) (fun ds k k' h q => ?_)
  · unfold fCat at q
    split at q
    · cases hv with
      | cons h1 hv =>
        cases hv with
        | cons h2 hv =>
          cases hv
          obtain ⟨p1, u1, rfl, t1, d1, e1⟩ := h1.seqT s
          obtain ⟨p2, u2, rfl, t2, d2, e2⟩ := h2.seqT s
          have l1 := dqAll_len d1
          have l2 := dqAll_len d2
          refine ⟨p1, p2, u1, u2, rfl, rfl, t1, t2, by omega, fun z => ?_, fun z1 z2 => ?_, fun z1 z2 p hp => ?_⟩
          · subst z
            rw [dqAll_nil' d1, List.nil_append] at q
            exact q.2 _ _ (.old e2)
          · subst z2
            rw [dqAll_nil' d2, List.append_nil] at q
            exact q.2 _ _ (.old e1)
          · exact q.2 _ _ (.inr ⟨p, _, _, rfl, hp, rfl, dqAll_append d1 d2, rfl⟩)
    · exact q.elim
  · unfold fCat at q ⊢
    split at q
    · exact ⟨q.1, h _ q.2⟩
    · exact q.elim
theorem lc_catS {K : PySem.W.Frag} : LC K (qD fCatS) (ap2 fun x y H Q => ∃ i j, x = .str i ∧ y = .str j ∧ i.length + j.length ≤ sizeLine ∧ Q (.str (i ++ j)) H) := by
  refine lc_im (fun G H vs ds Q s hv q _ => ?_) (fun ds k k' h q => ?_)
  · unfold fCatS at q
    split at q
    · cases hv with
      | cons h1 hv =>
        cases hv with
        | cons h2 hv =>
          cases hv
          exact ⟨_, _, h1.str, h2.str, q.1, q.2 _ _ .str⟩
    · exact q.elim
  · unfold fCatS at q ⊢
    split at q
    · exact ⟨q.1, h _ q.2⟩
    · exact q.elim
theorem lc_catL {K : PySem.W.Frag} : LC K (qL fCatL) (ap2 rCat) := by
  refine lc_own (fun G H vs ds Q s hv q => ?_) (fun ds k k' h q => ?_)
  · unfold fCatL at q
    split at q
    · cases hv with
      | cons h1 hv =>
        cases hv with
        | cons h2 hv =>
          cases hv
          obtain ⟨p1, u1, rfl, t1, d1⟩ := h1.seqL s
          obtain ⟨p2, u2, rfl, t2, d2⟩ := h2.seqL s
          have l1 := dqAll_len d1
          have l2 := dqAll_len d2
          exact ⟨p1, p2, u1, u2, rfl, rfl, t1, t2, by omega, fun p hp => q.2 _ p (dqAll_append d1 d2) hp⟩
    · exact q.elim
  · unfold fCatL at q ⊢
    split at q
    · exact ⟨q.1, h _ q.2⟩
    · exact q.elim
/-- the plus of any two -/
def qAddU : List R → PX := fun rs δ Q => match dats δ rs with
  | some [.int a, .int b] => Q (.im (.int (a + b))) δ
  | some [.tuple a, .tuple b] => a.length + b.length ≤ sizeLine ∧ Q (.im (.tuple (a ++ b))) δ
  | some [.list a, .list b] => a.length + b.length ≤ sizeLine ∧ Q (.ow (.lst (a ++ b))) δ
  | some [.str a, .str b] => a.length + b.length ≤ sizeLine ∧ Q (.im (.str (a ++ b))) δ
  | _ => False
theorem LC.wq {K : PySem.W.Frag} {q q' : List R → PX} {r : List V → Hp → VK → Prop} (h : LC K q r) (k : ∀ rs δ Q, q' rs δ Q → q rs δ Q) : LC K q' r := fun {B} G H σ δ vs rs w Qp Q rep hq kk => h G H σ δ vs rs w Qp Q rep (k rs δ Qp hq) kk
def rAddU (K : PySem.W.Frag) : R2 := fun x y H Q => qAdd x y H Q ∨ (rCatA K x y H Q ∨ (rCat x y H Q ∨ ∃ i j, x = .str i ∧ y = .str j ∧ i.length + j.length ≤ sizeLine ∧ Q (.str (i ++ j)) H))
theorem op_addU {X : Cx} : OpR X (binaryOp .Add) (rAddU X.K) := op_or op_add (op_or op_catA (op_or op_cat op_add_str))
theorem lc_addU {K : PySem.W.Frag} : LC K qAddU (ap2 (rAddU K)) := by
  refine LC.wq (lc_or (lc_I0 (g := fun a b => .int (a + b)) fun a b G => .int _) (lc_or lc_cat (lc_or lc_catL lc_catS))) fun rs δ Q h => ?_
  unfold qAddU at h
  split at h
  · rename_i a b e
    exact .inl (by unfold qD; rw [e]; exact ⟨trivial, h⟩)
  · rename_i a b e
    exact .inr (.inl (by unfold qD; rw [e]; exact h))
  · rename_i a b e
    exact .inr (.inr (.inl (by unfold qL; rw [e]; exact h)))
  · rename_i a b e
    exact .inr (.inr (.inr (by unfold qD; rw [e]; exact h)))
  · exact h.elim
section
variable {X : Cx} {a b : Expr} {pos : Pos} {pa pb : PX}
def pAdd (pa pb : PX) : PX := pC qAddU (pCons pa (pCons pb pNil))
theorem je_add (ha : JE X B a pa) (hb : JE X B b pb) : JE X B (.BinOp a .Add b pos) (pAdd pa pb) := je_op op_addU lc_addU ha hb
def pSub (pa pb : PX) : PX := pC (qD (fI2 T2 fun a b => .int (a - b))) (pCons pa (pCons pb pNil))
theorem je_sub (ha : JE X B a pa) (hb : JE X B b pb) : JE X B (.BinOp a .Sub b pos) (pSub pa pb) := je_op op_sub (lc_I0 fun a b G => .int _) ha hb
/-- one factor below 2 ^ 64, or both together below a million bits -/
def CMu (i j : Int) : Prop := CMul i j ∨ CMulW i j
def fRepL : List PyData → (List PyData → Prop) → Prop
  | [.list a, .int n], k => -(2 ^ 63) ≤ n ∧ n < 2 ^ 63 ∧ a.length * n.toNat ≤ sizeLine ∧ k (List.replicate n.toNat a).flatten
  | _, _ => False
def fRepT : List PyData → (PyData → Prop) → Prop
  | [.tuple a, .int n], k => a ≠ [] ∧ 0 ≤ n ∧ n ≤ 1000 ∧ a.length ≤ 1000 ∧ k (.tuple (List.replicate n.toNat a).flatten)
  | _, _ => False
theorem dqAll_rep {K : PySem.W.Frag} {G : Hp} {us : List V} {ds : List PyData} (h : DqAll K G us ds) : ∀ n : Nat, DqAll K G (List.replicate n us).flatten (List.replicate n ds).flatten
  | 0 => .nil
  | n + 1 => by
    rw [List.replicate_succ, List.replicate_succ, List.flatten_cons, List.flatten_cons]
    exact dqAll_append h (dqAll_rep h n)
theorem lc_repL {K : PySem.W.Frag} : LC K (qL fRepL) (ap2 rRep) := by
  refine lc_own (fun G H vs ds Q s hv q => ?_) (fun ds k k' h q => ?_)
  · unfold fRepL at q
    split at q
    · cases hv with
      | cons h1 hv =>
        cases hv with
        | cons h2 hv =>
          cases hv
          obtain ⟨p1, u1, rfl, t1, d1⟩ := h1.seqL s
          have l1 := dqAll_len d1
          exact ⟨p1, _, u1, rfl, h2.int, t1, q.1, q.2.1, by rw [l1]; exact q.2.2.1, fun p hp => q.2.2.2 _ p (dqAll_rep d1 _) hp⟩
    · exact q.elim
  · unfold fRepL at q ⊢
    split at q
    · exact ⟨q.1, q.2.1, q.2.2.1, h _ q.2.2.2⟩
    · exact q.elim
theorem lc_repT {K : PySem.W.Frag} : LC K (qD fRepT) (ap2 (rRepA K)) := by
  refine lc_im (fun G H vs ds Q s hv q _ => ?_) (fun ds k k' h q => ?_)
  · unfold fRepT at q
    split at q
    · rename_i a n k
      cases hv with
      | cons h1 hv =>
        cases hv with
        | cons h2 hv =>
          cases hv
          obtain ⟨p1, u1, rfl, t1, d1, e1⟩ := h1.seqT s
          have l1 := dqAll_len d1
          obtain ⟨q1, q2, q3, q4, q5⟩ := q
          refine ⟨p1, _, u1, rfl, h2.int, t1, fun z => ?_, q2, q3, by omega, fun z => ?_, fun z p hp => ?_⟩
          · subst z; exact q1 (dqAll_nil' d1)
          · subst z
            refine q5 _ _ (.old ?_)
            show Dq K G _ (.tuple (List.replicate 1 a).flatten)
            rw [List.replicate_one, List.flatten_cons, List.flatten_nil, List.append_nil]
            exact e1
          · exact q5 _ _ (.inr ⟨p, _, _, rfl, hp, rfl, dqAll_rep d1 _, rfl⟩)
    · exact q.elim
  · unfold fRepT at q ⊢
    split at q
    · exact ⟨q.1, q.2.1, q.2.2.1, q.2.2.2.1, h _ q.2.2.2.2⟩
    · exact q.elim
def qMulU : List R → PX := fun rs δ Q => match dats δ rs with
  | some [.int a, .int b] => CMu a b ∧ Q (.im (.int (a * b))) δ
  | some [.list a, .int n] => -(2 ^ 63) ≤ n ∧ n < 2 ^ 63 ∧ a.length * n.toNat ≤ sizeLine ∧ Q (.ow (.lst (List.replicate n.toNat a).flatten)) δ
  | some [.tuple a, .int n] => a ≠ [] ∧ 0 ≤ n ∧ n ≤ 1000 ∧ a.length ≤ 1000 ∧ Q (.im (.tuple (List.replicate n.toNat a).flatten)) δ
  | _ => False
def rMulU (K : PySem.W.Frag) : R2 := fun x y H Q => (qMul x y H Q ∨ rI CMulW (fun i j => .int (i * j)) x y H Q) ∨ (rRep x y H Q ∨ rRepA K x y H Q)
theorem op_mulU : OpR X (binaryOp .Mult) (rMulU X.K) := op_or (op_or op_mul op_mulW) (op_or op_rep op_repA)
theorem lc_mulU {K : PySem.W.Frag} : LC K qMulU (ap2 (rMulU K)) := by
  refine LC.wq (lc_or (lc_or (lc_I2 (C := CMul) (g := fun a b => .int (a * b)) fun a b G => .int _) (lc_I2 (C := CMulW) (g := fun a b => .int (a * b)) fun a b G => .int _)) (lc_or lc_repL lc_repT)) fun rs δ Q h => ?_
  unfold qMulU at h
  split at h
  · rename_i a b e
    rcases h with ⟨h1 | h1, h⟩
    · exact .inl (.inl (by unfold qD; rw [e]; exact ⟨h1, h⟩))
    · exact .inl (.inr (by unfold qD; rw [e]; exact ⟨h1, h⟩))
  · rename_i a b e
    exact .inr (.inl (by unfold qL; rw [e]; exact h))
  · rename_i a b e
    exact .inr (.inr (by unfold qD; rw [e]; exact h))
  · exact h.elim
def pMul (pa pb : PX) : PX := pC qMulU (pCons pa (pCons pb pNil))
theorem je_mul (ha : JE X B a pa) (hb : JE X B b pb) : JE X B (.BinOp a .Mult b pos) (pMul pa pb) := je_op op_mulU lc_mulU ha hb
def pFdiv (pa pb : PX) : PX := pC (qD (fI2 CDivW fun a b => .int (a / b))) (pCons pa (pCons pb pNil))
theorem je_fdiv (ha : JE X B a pa) (hb : JE X B b pb) : JE X B (.BinOp a .FloorDiv b pos) (pFdiv pa pb) := je_op op_fdivW (lc_I2 fun a b G => .int _) ha hb
def CMod (_ j : Int) : Prop := 0 < j
def pMod (pa pb : PX) : PX := pC (qD (fI2 CMod fun a b => .int (a % b))) (pCons pa (pCons pb pNil))
theorem je_mod (ha : JE X B a pa) (hb : JE X B b pb) : JE X B (.BinOp a .Mod b pos) (pMod pa pb) := je_op op_mod (lc_I2 fun a b G => .int _) ha hb
def pPow (pa pb : PX) : PX := pC (qD (fI2 CPow fun a b => .int (a ^ b.toNat))) (pCons pa (pCons pb pNil))
theorem je_pow (ha : JE X B a pa) (hb : JE X B b pb) : JE X B (.BinOp a .Pow b pos) (pPow pa pb) := je_op op_pow (lc_I2 fun a b G => .int _) ha hb
def fNeg : List PyData → (PyData → Prop) → Prop
  | [.int a], k => k (.int (-a))
  | _, _ => False
theorem lc_neg {K : PySem.W.Frag} : LC K (qD fNeg) (ap1 qNeg) := by
  refine lc_im (fun G H vs ds Q s hv q _ => ?_) (fun ds k k' h q => ?_)
  · unfold fNeg at q
    split at q
    · cases hv with
      | cons h1 hv =>
        cases hv
        exact ⟨_, h1.int, q _ _ .int⟩
    · exact q.elim
  · unfold fNeg at q ⊢
    split at q
    · exact h _ q
    · exact q.elim
def pNeg (pa : PX) : PX := pC (qD fNeg) (pCons pa pNil)
theorem je_neg (ha : JE X B a pa) : JE X B (.UnaryOp .USub a pos) (pNeg pa) := je_un un_neg lc_neg ha
/-! ### comparisons -/
def pCmp (f : Int → Int → Bool) (pa pb : PX) : PX := pC (qD (fI2 T2 fun a b => .bool (f a b))) (pCons pa (pCons pb pNil))
abbrev pLt := pCmp fun a b => decide (a < b)
abbrev pGt := pCmp fun a b => decide (b < a)
theorem jb_lt (ha : JE X B a pa) (hb : JE X B b pb) : JB X B (.Compare a [.Lt] [b] pos) (pT (pLt pa pb)) := jb_cmp op_lt (lc_I0 fun a b G => .bl _) ha hb (nomark _)
theorem jb_gt (ha : JE X B a pa) (hb : JE X B b pb) : JB X B (.Compare a [.Gt] [b] pos) (pT (pGt pa pb)) := jb_cmp op_gt (lc_I0 fun a b G => .bl _) ha hb (nomark _)
/-- equal: of any data -/
def eqd (x y : PyData) : Bool := PyData.eqv x y
def fEq (neg : Bool) : List PyData → (PyData → Prop) → Prop
  | [.int a, .int b], k => k (.bool (if neg then !decide (a = b) else decide (a = b)))
  | [.str a, .str b], k => k (.bool (if neg then !decide (a = b) else decide (a = b)))
  | [a, b], k => SeqAt.shaped a = true ∧ SeqAt.shaped b = true ∧ k (.bool (if neg then !eqd a b else eqd a b))
  | _, _ => False
theorem fEq_mono {neg : Bool} : ∀ ds (k k' : PyData → Prop), (∀ d, k d → k' d) → fEq neg ds k → fEq neg ds k' := by
  intro ds k k' h q
  unfold fEq at q ⊢
  split at q
  · exact h _ q
  · exact h _ q
  · exact ⟨q.1, q.2.1, h _ q.2.2⟩
  · exact q.elim
def rEqU (K : PySem.W.Frag) : R2 := fun x y H Q => rEq x y H Q ∨ rEqD K x y H Q
def rNeU (K : PySem.W.Frag) : R2 := fun x y H Q => rNe x y H Q ∨ rNeD K x y H Q
theorem dec_int {a b : Int} : decide (V.int a = V.int b) = decide (a = b) := by
  by_cases h : a = b
  · subst h; simp
  · rw [decide_eq_false h, decide_eq_false fun z => h (V.int.inj z)]
theorem dec_str {a b : Str} : decide (V.str a = V.str b) = decide (a = b) := by
  by_cases h : a = b
  · subst h; simp
  · rw [decide_eq_false h, decide_eq_false fun z => h (V.str.inj z)]
theorem lc_eqU {K : PySem.W.Frag} : LC K (qD (fEq false)) (ap2 (rEqU K)) := by
  refine lc_im (fun G H vs ds Q s hv q _ => ?_) fEq_mono
  unfold fEq at q
  split at q
  · cases hv with
    | cons h1 hv =>
      cases hv with
      | cons h2 hv =>
        cases hv
        refine .inl ⟨by rw [h1.int, h2.int]; rfl, ?_⟩
        rw [h1.int, h2.int, dec_int]
        exact q _ _ .bool
  · cases hv with
    | cons h1 hv =>
      cases hv with
      | cons h2 hv =>
        cases hv
        refine .inl ⟨by rw [h1.str, h2.str]; rfl, ?_⟩
        rw [h1.str, h2.str, dec_str]
        exact q _ _ .bool
  · cases hv with
    | cons h1 hv =>
      cases hv with
      | cons h2 hv =>
        cases hv
        exact .inr ⟨_, _, h1.dp s, h2.dp s, q.1, q.2.1, q.2.2 _ _ .bool⟩
  · exact q.elim
theorem lc_neU {K : PySem.W.Frag} : LC K (qD (fEq true)) (ap2 (rNeU K)) := by
  refine lc_im (fun G H vs ds Q s hv q _ => ?_) fEq_mono
  unfold fEq at q
  split at q
  · cases hv with
    | cons h1 hv =>
      cases hv with
      | cons h2 hv =>
        cases hv
        refine .inl ⟨by rw [h1.int, h2.int]; rfl, ?_⟩
        rw [h1.int, h2.int, dec_int]
        exact q _ _ .bool
  · cases hv with
    | cons h1 hv =>
      cases hv with
      | cons h2 hv =>
        cases hv
        refine .inl ⟨by rw [h1.str, h2.str]; rfl, ?_⟩
        rw [h1.str, h2.str, dec_str]
        exact q _ _ .bool
  · cases hv with
    | cons h1 hv =>
      cases hv with
      | cons h2 hv =>
        cases hv
        exact .inr ⟨_, _, h1.dp s, h2.dp s, q.1, q.2.1, q.2.2 _ _ .bool⟩
  · exact q.elim
theorem op_eqU (hu : X.A.units + 64 < cLine) : OpR X (compareOp .Eq) (rEqU X.K) := op_or op_eq (op_eqD hu)
theorem op_neU (hu : X.A.units + 64 < cLine) : OpR X (compareOp .NotEq) (rNeU X.K) := op_or op_ne (op_neD hu)
def pEq (neg : Bool) (pa pb : PX) : PX := pC (qD (fEq neg)) (pCons pa (pCons pb pNil))
theorem je_eq {j : Nat} (hr : Room j X.A) (ha : JE X B a pa) (hb : JE X B b pb) : JE X B (.Compare a [.Eq] [b] pos) (pEq false pa pb) := je_cmp (op_eqU hr.units) lc_eqU ha hb (nomark _)
theorem jb_eq {j : Nat} (hr : Room j X.A) (ha : JE X B a pa) (hb : JE X B b pb) : JB X B (.Compare a [.Eq] [b] pos) (pT (pEq false pa pb)) := jb_cmp (op_eqU hr.units) lc_eqU ha hb (nomark _)
theorem jb_ne {j : Nat} (hr : Room j X.A) (ha : JE X B a pa) (hb : JE X B b pb) : JB X B (.Compare a [.NotEq] [b] pos) (pT (pEq true pa pb)) := jb_cmp (op_neU hr.units) lc_neU ha hb (nomark _)
/-! ### items -/
def fIx : List PyData → (PyData → Prop) → Prop
  | [.list ds, .int i], k => ∃ d, atI ds i = some d ∧ k d
  | [.tuple ds, .int i], k => ∃ d, atI ds i = some d ∧ k d
  | _, _ => False
theorem dqAll_get {K : PySem.W.Frag} {G : Hp} : ∀ {us : List V} {ds : List PyData} {i : Nat} {d : PyData}, DqAll K G us ds → ds[i]? = some d → ∃ v, us[i]? = some v ∧ Dq K G v d
  | _, _, _, _, .nil, e => by simp at e
  | _, _, 0, _, .cons h _, e => by simp at e; subst e; exact ⟨_, rfl, h⟩
  | _, _, i + 1, _, .cons _ h, e => by
    obtain ⟨v, e1, e2⟩ := dqAll_get (i := i) h (by simpa using e)
    exact ⟨v, by simpa using e1, e2⟩
theorem dqAll_at {K : PySem.W.Frag} {G : Hp} {us : List V} {ds : List PyData} {i : Int} {d : PyData} (h : DqAll K G us ds) (e : atI ds i = some d) : ∃ v, atI us i = some v ∧ Dq K G v d := by
  unfold atI at e ⊢
  rw [dqAll_len h]
  cases q : ixN ds.length i with
  | none => rw [q] at e; cases e
  | some j =>
    rw [q] at e
    exact dqAll_get h e
theorem lc_ix {K : PySem.W.Frag} : LC K (qD fIx) (ap2 (rIx K)) := by
  refine lc_im (fun G H vs ds Q s hv q _ => ?_) (fun ds k k' h q => ?_)
  · unfold fIx at q
    split at q
    · cases hv with
      | cons h1 hv =>
        cases hv with
        | cons h2 hv =>
          cases hv
          obtain ⟨d, e, q⟩ := q
          obtain ⟨p1, u1, rfl, t1, d1⟩ := h1.seqL s
          obtain ⟨v, e2, hd⟩ := dqAll_at d1 e
          exact .inl ⟨p1, u1, _, v, rfl, h2.int, SqL.of t1, e2, q _ _ (.old hd)⟩
    · cases hv with
      | cons h1 hv =>
        cases hv with
        | cons h2 hv =>
          cases hv
          obtain ⟨d, e, q⟩ := q
          obtain ⟨p1, u1, rfl, t1, d1, _⟩ := h1.seqT s
          obtain ⟨v, e2, hd⟩ := dqAll_at d1 e
          exact .inr (.inl ⟨p1, u1, _, v, rfl, h2.int, t1, e2, q _ _ (.old hd)⟩)
    · exact q.elim
  · unfold fIx at q ⊢
    split at q
    · obtain ⟨d, e, q⟩ := q; exact ⟨d, e, h _ q⟩
    · obtain ⟨d, e, q⟩ := q; exact ⟨d, e, h _ q⟩
    · exact q.elim
def pIx (pa pb : PX) : PX := pC (qD fIx) (pCons pa (pCons pb pNil))
theorem je_ix (ha : JE X B a pa) (hb : JE X B b pb) (hs : PlainIx b) : JE X B (.Subscript a b pos) (pIx pa pb) := PE_wk (pe_ix ix_seq ha hb hs) fun σ H Q h => lc_two lc_ix h
end
/-! ### is -/
end Pv
namespace Pv
open PySem PySem.Spec L2 Wf
variable {B : Bas}
/-! ### a list of one's own that changes no more -/
def fz (δ : List Sl) : R → Option (PyData × List Sl)
  | .im d => some (d, δ)
  | .ow (.lst ds) => some (.list ds, δ)
  | .ow (.ptl ds) => some (.tuple ds, δ)
  | .ow _ => none
  | .at i => match δ[i]? with
    | some (.im d) => some (d, δ)
    | some (.ow false (.lst ds)) => some (.list ds, δ.set i (.im (.list ds)))
    | some (.ow _ (.ptl ds)) => some (.tuple ds, δ)
    | _ => none
def fzAll : List Sl → List R → Option (List PyData × List Sl)
  | δ, [] => some ([], δ)
  | δ, r :: rs => match fz δ r with
    | none => none
    | some (d, δ1) => match fzAll δ1 rs with
      | none => none
      | some (ds, δ2) => some (d :: ds, δ2)
section
variable {K : PySem.W.Frag} {G H : Hp} {σ : St} {δ : List Sl} {vs : List V} {rs : List R} {w : Addr → Option Nat}
/-- what was n's, now nobody's, its list public -/
def freed (w : Addr → Option Nat) (n : Nat) (a : Addr) : Option Nat := if w a = some n then none else w a
theorem freed_ne {w : Addr → Option Nat} {n m : Nat} {a : Addr} (h : w a = some m) (hn : m ≠ n) : freed w n a = some m := by
  unfold freed
  rw [if_neg (by rw [h]; intro z; cases z; exact hn rfl)]
  exact h
theorem of_freed {w : Addr → Option Nat} {n m : Nat} {a : Addr} (h : freed w n a = some m) : w a = some m ∧ m ≠ n := by
  unfold freed at h
  split at h
  · cases h
  · rename_i z
    exact ⟨h, fun e => z (by rw [h, e])⟩
theorem Rep.frees (r : Rep K B G H σ δ vs rs w) {n : Nat} {a : Addr} {us : List V} {δ' : List Sl} (ha : H a = some (.lst us)) (hw : w a = some n) (pn : Pn δ δ') :
    Same G (upd G a (.lst us)) ∧ Stp B.T G H w δ (upd G a (.lst us)) H (freed w n) δ' ∧ Same (upd G a (.lst us)) H ∧ (∀ x i, freed w n x = some i → upd G a (.lst us) x = none ∧ H x ≠ none ∧ NoX H x) := by
  have g0 := (r.out a n hw).1
  have sg : Same G (upd G a (.lst us)) := same_new g0
  refine ⟨sg, .of ⟨sg, fun _ _ _ h => h, fun x i h => .inl (by rw [(of_freed h).1]; exact Option.some_ne_none _), fun x o h => ?_, pn⟩ .refl (q_new nofun), fun x o h => ?_, fun x i h => ?_⟩
  · by_cases e : x = a
    · subst e; exact .inr (.inr (.inl (by rw [hw]; exact Option.some_ne_none _)))
    · rw [upd_ne e] at h; exact .inl h
  · by_cases e : x = a
    · subst e; rw [upd_same] at h; cases h; exact ha
    · rw [upd_ne e] at h; exact r.sub x o h
  · obtain ⟨h1, h2⟩ := of_freed h
    have e : x ≠ a := fun z => by subst z; rw [hw] at h1; cases h1; exact h2 rfl
    rw [upd_ne e]
    exact r.out x i h1
theorem pn_set {δ : List Sl} {i : Nat} {s : Sl} (h : ∀ o, δ[i]? ≠ some (.ow true o)) : Pn δ (δ.set i s) := fun j o hj => by
  by_cases e : i = j
  · subst e; exact absurd hj (h o)
  · exact ⟨o, by rw [List.getElem?_set_ne e]; exact hj⟩
theorem Rep.fz1 (r : Rep K B G H σ δ vs rs w) {j : Nat} {v : V} {q : R} {d : PyData} {δ' : List Sl} (hv : vs[j]? = some v) (hq : rs[j]? = some q) (h : fz δ q = some (d, δ')) :
    ∃ G' w', Stp B.T G H w δ G' H w' δ' ∧ Rep K B G' H σ δ' vs (rs.set j (.im d)) w' := by
  have hj : j < rs.length := (List.getElem?_eq_some_iff.mp hq).1
  have t := r.tm j v q hv hq
  have others : ∀ {G' : Hp} {w' : Addr → Option Nat}, Same G G' → (∀ a k, w a = some k → k ≠ 2 * j + 1 → k % 2 = 1 → w' a = some k) → Dq K G' v d → ∀ (k : Nat) u p, vs[k]? = some u → (rs.set j (.im d))[k]? = some p → RR K G' H σ (fun a => w' a = some (2 * k + 1)) u p := by
    intro G' w' sg hw' hd k u p hu hp
    by_cases e : j = k
    · subst e
      rw [List.getElem?_set_self hj] at hp
      cases hp
      rw [hv] at hu
      cases hu
      exact hd
    · rw [List.getElem?_set_ne e] at hp
      exact (r.tm k u p hu hp).mono sg (fun _ _ _ h => h) fun a o ma _ => hw' a _ ma (by omega) (by omega)
  cases q with
  | im d' =>
    cases h
    exact ⟨G, w, .refl, r.sub, r.out, r.len, r.sl, by rw [List.length_set]; exact r.tlen, others (fun _ _ h => h) (fun a k h _ _ => h) t, r.bs⟩
  | ow o =>
    cases o with
    | lst ds =>
      cases h
      obtain ⟨a, us, rfl, ma, ha, hds⟩ := t
      obtain ⟨sg, st, sh, ho⟩ := r.frees (δ' := δ) ha ma (.refl _)
      refine ⟨_, _, st, sh, ho, r.len, fun i s hs => ?_, by rw [List.length_set]; exact r.tlen, others sg (fun a k h1 h2 _ => freed_ne h1 h2) (.lst upd_same (dpAll_mono sg _ _ hds)), st.bs r.bs⟩
      exact (r.sl i s hs).mono sg (fun _ _ _ h => h) fun a o mb _ => freed_ne mb (by omega)
    | deal => cases h
    | scr ns => cases h
    | lam F => cases h
    | dic ks ds => cases h
    | dct r ks ds => cases h
    | lls bs dss => cases h
    | ptl ds =>
      cases h
      exact ⟨G, w, .refl, r.sub, r.out, r.len, r.sl, by rw [List.length_set]; exact r.tlen, others (fun _ _ h => h) (fun a k h _ _ => h) (ptl_dq t), r.bs⟩
  | «at» i =>
    have t' : σ[i]? = some (some v) := t
    simp only [fz] at h
    revert h
    split
    · rename_i d' e
      intro h
      cases h
      obtain ⟨u, hu, hd⟩ := r.sl i _ e
      rw [t'] at hu
      cases hu
      exact ⟨G, w, .refl, r.sub, r.out, r.len, r.sl, by rw [List.length_set]; exact r.tlen, others (fun _ _ h => h) (fun a k h _ _ => h) hd, r.bs⟩
    · rename_i ds e
      intro h
      cases h
      obtain ⟨u, hu, a, us, rfl, ma, ha, hds⟩ := r.sl i _ e
      rw [t'] at hu
      cases hu
      obtain ⟨sg, st, sh, ho⟩ := r.frees (δ' := δ.set i (.im (.list ds))) ha ma (pn_set fun o z => by rw [e] at z; cases z)
      have hd : Dq K (upd G a (.lst us)) (.ref a) (.list ds) := .lst upd_same (dpAll_mono sg _ _ hds)
      refine ⟨_, _, st, sh, ho, by rw [List.length_set]; exact r.len, fun k s hs => ?_, by rw [List.length_set]; exact r.tlen, others sg (fun a k h1 h2 h3 => freed_ne h1 (by omega)) hd, st.bs r.bs⟩
      by_cases ek : i = k
      · subst ek
        rw [List.getElem?_set_self (List.getElem?_eq_some_iff.mp e).1] at hs
        cases hs
        exact ⟨_, t', hd⟩
      · rw [List.getElem?_set_ne ek] at hs
        exact (r.sl k s hs).mono sg (fun _ _ _ h => h) fun a o mb _ => freed_ne mb (by omega)
    · rename_i b ds e
      intro h
      cases h
      obtain ⟨u, hu, hd⟩ := r.sl i _ e
      rw [t'] at hu
      cases hu
      exact ⟨G, w, .refl, r.sub, r.out, r.len, r.sl, by rw [List.length_set]; exact r.tlen, others (fun _ _ h => h) (fun a k h _ _ => h) (ptl_dq hd), r.bs⟩
    · intro h; cases h
theorem Rep.fzGo : ∀ (rs2 : List R) (rs1 : List R) {G : Hp} {δ δ' : List Sl} {w : Addr → Option Nat} {ds : List PyData}, Rep K B G H σ δ vs (rs1 ++ rs2) w → fzAll δ rs2 = some (ds, δ') → ∃ G' w', Stp B.T G H w δ G' H w' δ' ∧ Rep K B G' H σ δ' vs (rs1 ++ ds.map .im) w'
  | [], rs1, G, δ, δ', w, ds, r, h => by
    cases h
    exact ⟨G, w, .refl, r⟩
  | q :: rs2, rs1, G, δ, δ', w, ds, r, h => by
    unfold fzAll at h
    revert h
    split
    · intro h; cases h
    · rename_i d δ1 e
      split
      · intro h; cases h
      · rename_i ds' δ2 e2
        intro h
        cases h
        have hq : (rs1 ++ q :: rs2)[rs1.length]? = some q := by simp
        have hl : rs1.length < vs.length := by rw [r.tlen, List.length_append, List.length_cons]; omega
        obtain ⟨G1, w1, s1, r1⟩ := r.fz1 (v := vs[rs1.length]) (List.getElem?_eq_getElem hl) hq e
        have e3 : (rs1 ++ q :: rs2).set rs1.length (.im d) = (rs1 ++ [.im d]) ++ rs2 := by
          rw [List.set_append_right _ _ (Nat.le_refl _), Nat.sub_self, List.set_cons_zero, List.append_assoc]
          rfl
        rw [e3] at r1
        obtain ⟨G2, w2, s2, r2⟩ := Rep.fzGo rs2 (rs1 ++ [.im d]) r1 e2
        refine ⟨G2, w2, s1.trans s2, ?_⟩
        rw [List.append_assoc] at r2
        exact r2
theorem Rep.fzs (r : Rep K B G H σ δ vs rs w) {ds : List PyData} {δ' : List Sl} (h : fzAll δ rs = some (ds, δ')) : ∃ G' w', Stp B.T G H w δ G' H w' δ' ∧ Rep K B G' H σ δ' vs (ds.map .im) w' := by
  have := Rep.fzGo rs [] (by simpa using r) h
  simpa using this
theorem Rep.ims {ds : List PyData} (r : Rep K B G H σ δ vs (ds.map .im) w) : DqAll K G vs ds := by
  have hl : vs.length = ds.length := by have := r.tlen; rwa [List.length_map] at this
  have go : ∀ (vs : List V) (ds : List PyData), vs.length = ds.length → (∀ (j : Nat) v d, vs[j]? = some v → ds[j]? = some d → Dq K G v d) → DqAll K G vs ds := by
    intro vs
    induction vs with
    | nil =>
      intro ds hl _
      cases ds with
      | nil => exact .nil
      | cons => simp at hl
    | cons v vs ih =>
      intro ds hl h
      cases ds with
      | nil => simp at hl
      | cons d ds => exact .cons (h 0 v d rfl rfl) (ih ds (by simpa using hl) fun j v' d' h1 h2 => h (j + 1) v' d' (by simpa using h1) (by simpa using h2))
  refine go vs ds hl fun j v d hv hd => ?_
  exact r.tm j v (.im d) hv (by rw [List.getElem?_map, hd]; rfl)
end
/-! ### displays -/
def qTup : List R → PX := fun rs δ Q => match fzAll δ rs with
  | some (ds, δ') => Q (.im (.tuple ds)) δ'
  | none => False
def qLst : List R → PX := fun rs δ Q => match fzAll δ rs with
  | some (ds, δ') => Q (.ow (.lst ds)) δ'
  | none => False
section
variable {X : Cx}
def pTup (ps : PL) : PX := pC qTup ps
def pLst (ps : PL) : PX := pC qLst ps
theorem je_tup {es : List Expr} {ps : PL} {x1} {pos : Pos} (h : JA X B es ps) (hl : es.length ≤ sizeLine := by decide) : JE X B (.Tuple es x1 pos) (pTup ps) := by
  refine PE_wk (pe_tup h) fun σ H Q ⟨G, w, δ, Qp, rep, q, k⟩ => ?_
  refine ⟨G, w, δ, _, rep, q, fun rs δ1 vs H1 G1 w1 q1 l1 s1 rep1 => ?_⟩
  unfold qTup at q1
  revert q1
  split
  · rename_i ds δ2 e
    intro q1
    obtain ⟨G2, w2, s2, r2⟩ := rep1.fzs e
    refine ⟨by rw [rep1.tlen, l1]; exact hl, fun p hp => ?_⟩
    obtain ⟨s3, r3⟩ := r2.retNew hp (dq_newTup r2.sub hp r2.ims)
    exact k _ _ _ _ _ _ q1 ((s1.trans s2).trans s3) r3
  · intro q1; exact q1.elim
theorem je_lst {es : List Expr} {ps : PL} {pos : Pos} (h : JA X B es ps) (hl : es.length ≤ sizeLine := by decide) : JE X B (.List es pos) (pLst ps) := by
  refine PE_wk (pe_lst h) fun σ H Q ⟨G, w, δ, Qp, rep, q, k⟩ => ?_
  refine ⟨G, w, δ, _, rep, q, fun rs δ1 vs H1 G1 w1 q1 l1 s1 rep1 => ?_⟩
  unfold qLst at q1
  revert q1
  split
  · rename_i ds δ2 e
    intro q1
    obtain ⟨G2, w2, s2, r2⟩ := rep1.fzs e
    refine ⟨by rw [rep1.tlen, l1]; exact hl, fun p hp => ?_⟩
    obtain ⟨w3, s3, r3⟩ := r2.retLst hp r2.ims
    exact k _ _ _ _ _ _ q1 ((s1.trans s2).trans s3) r3
  · intro q1; exact q1.elim
/-! ### built-ins -/
theorem lc_im1 {K : PySem.W.Frag} {f : PyData → (PyData → Prop) → Prop} {r : List V → Hp → VK → Prop} (h : ∀ G H v d Q, Same G H → Vw K G H v d → f d (fun e => ∀ u H', Res K G H u H' e → Q u H') → r [v] H Q) (mono : ∀ d (k k' : PyData → Prop), (∀ e, k e → k' e) → f d k → f d k') :
    LC K (qD fun ds k => match ds with | [d] => f d k | _ => False) r := by
  refine lc_im (fun G H vs ds Q s hv q _ => ?_) (fun ds k k' hk q => ?_)
  · match ds, hv, q with
    | [d], .cons h1 .nil, q => exact h G H _ d Q s h1 q
    | [], _, q => exact q.elim
    | _ :: _ :: _, _, q => exact q.elim
  · match ds, q with
    | [d], q => exact mono d k k' hk q
    | [], q => exact q.elim
    | _ :: _ :: _, q => exact q.elim
theorem lc_im2 {K : PySem.W.Frag} {f : PyData → PyData → (PyData → Prop) → Prop} {r : List V → Hp → VK → Prop} (h : ∀ G H v u d e Q, Same G H → Vw K G H v d → Vw K G H u e → f d e (fun e => ∀ u H', Res K G H u H' e → Q u H') → r [v, u] H Q) (mono : ∀ d e (k k' : PyData → Prop), (∀ e, k e → k' e) → f d e k → f d e k') :
    LC K (qD fun ds k => match ds with | [d, e] => f d e k | _ => False) r := by
  refine lc_im (fun G H vs ds Q s hv q _ => ?_) (fun ds k k' hk q => ?_)
  · match ds, hv, q with
    | [d, e], .cons h1 (.cons h2 .nil), q => exact h G H _ _ d e Q s h1 h2 q
    | [], _, q => exact q.elim
    | [_], _, q => exact q.elim
    | _ :: _ :: _ :: _, _, q => exact q.elim
  · match ds, q with
    | [d, e], q => exact mono d e k k' hk q
    | [], q => exact q.elim
    | [_], q => exact q.elim
    | _ :: _ :: _ :: _, q => exact q.elim
theorem lc_own1 {K : PySem.W.Frag} {f : PyData → (List PyData → Prop) → Prop} {r : List V → Hp → VK → Prop} (h : ∀ G H v d Q, Same G H → Vw K G H v d → f d (fun l => ∀ us p, DqAll K G us l → H p = none → Q (.ref p) (upd H p (.lst us))) → r [v] H Q) (mono : ∀ d (k k' : List PyData → Prop), (∀ e, k e → k' e) → f d k → f d k') :
    LC K (qL fun ds k => match ds with | [d] => f d k | _ => False) r := by
  refine lc_own (fun G H vs ds Q s hv q => ?_) (fun ds k k' hk q => ?_)
  · match ds, hv, q with
    | [d], .cons h1 .nil, q => exact h G H _ d Q s h1 q
    | [], _, q => exact q.elim
    | _ :: _ :: _, _, q => exact q.elim
  · match ds, q with
    | [d], q => exact mono d k k' hk q
    | [], q => exact q.elim
    | _ :: _ :: _, q => exact q.elim
abbrev q1 (f : PyData → (PyData → Prop) → Prop) : List R → PX := qD fun ds k => match ds with | [d] => f d k | _ => False
abbrev q2 (f : PyData → PyData → (PyData → Prop) → Prop) : List R → PX := qD fun ds k => match ds with | [d, e] => f d e k | _ => False
abbrev q1L (f : PyData → (List PyData → Prop) → Prop) : List R → PX := qL fun ds k => match ds with | [d] => f d k | _ => False
def fLen : PyData → (PyData → Prop) → Prop
  | .list ds, k => k (.int ds.length)
  | .tuple ds, k => k (.int ds.length)
  | .str x, k => x.length ≤ sizeLine ∧ k (.int x.length)
  | _, _ => False
theorem lc_len {K : PySem.W.Frag} : LC K (q1 fLen) (qLen K) := by
  refine lc_im1 (fun G H v d Q s hv q => ?_) (fun d k k' hk q => ?_)
  · cases d with
    | list ds =>
      obtain ⟨a, us, rfl, ha, hds⟩ := hv.seqL s
      exact ⟨_, ds.length, rfl, .inl ⟨us, SqL.of ha, (dqAll_len hds).symm⟩, q _ _ .int⟩
    | tuple ds =>
      obtain ⟨a, us, rfl, ha, hds, _⟩ := hv.seqT s
      exact ⟨_, ds.length, rfl, .inr ⟨us, ha, (dqAll_len hds).symm⟩, q _ _ .int⟩
    | str x => exact ⟨v, x.length, rfl, by rw [hv.str]; exact ⟨q.1, rfl⟩, q.2 _ _ .int⟩
    | none => exact q.elim
    | bool b => exact q.elim
    | int i => exact q.elim
    | dict kvs => exact q.elim
  · cases d with
    | list ds => exact hk _ q
    | tuple ds => exact hk _ q
    | str x => exact ⟨q.1, hk _ q.2⟩
    | none => exact q.elim
    | bool b => exact q.elim
    | int i => exact q.elim
    | dict kvs => exact q.elim
variable {e : Expr} {es : List Expr} {p pos : Pos}
/-- a built-in by its name -/
theorem je_cb {x : Str} {id : String} {ps : PL} {q : List R → PX} {r : List V → Hp → VK → Prop} (hc : CallR X (.builtin id) r) (hl : LC X.K q r) (hg : Gl X x) (hm : X.mg x = none) (hv : bootBuiltins x = some (.builtin id)) (ha : JA X B (e :: es) ps) (hn : x ≠ "__name__" := by decide) (hdb : (x == ("__debug__" : Str)) = false := by decide)
    (he : starEach (e :: es) X.env = (false, eval e X.env) :: starEach es X.env := by rfl) (hpl : (backTo pos (starEach es X.env)).any (·.1) = false := by rfl) : JE X B (.Call (.Name x p) (e :: es) [] pos) (pC q ps) :=
  PE_wk (pe_callB hc hg hm hv ha hn hdb he hpl) fun σ H Q h => lc_args hl h
theorem je_ct {x : Str} {T : String} {ps : PL} {q : List R → PX} {r : List V → Hp → VK → Prop} (hc : CallR X (.type T) r) (hl : LC X.K q r) (hg : Gl X x) (hm : X.mg x = none) (hv : bootBuiltins x = some (.type T)) (ha : JA X B (e :: es) ps) (hn : x ≠ "__name__" := by decide) (hdb : (x == ("__debug__" : Str)) = false := by decide)
    (he : starEach (e :: es) X.env = (false, eval e X.env) :: starEach es X.env := by rfl) (hpl : (backTo pos (starEach es X.env)).any (·.1) = false := by rfl) : JE X B (.Call (.Name x p) (e :: es) [] pos) (pC q ps) :=
  PE_wk (pe_callTy hc hg hm hv ha hn hdb he hpl) fun σ H Q h => lc_args hl h
def fMin2 : PyData → PyData → (PyData → Prop) → Prop
  | .int i, .int j, k => k (.int (if j < i then j else i))
  | _, _, _ => False
theorem lc_min2 {K : PySem.W.Frag} : LC K (q2 fMin2) qMin2 := by
  refine lc_im2 (fun G H v u d e Q s hv hu q => ?_) (fun d e k k' hk q => ?_)
  · unfold fMin2 at q
    split at q
    · exact ⟨_, _, by rw [hv.int, hu.int], q _ _ .int⟩
    · exact q.elim
  · unfold fMin2 at q ⊢
    split at q
    · exact hk _ q
    · exact q.elim
def fListOf : PyData → (List PyData → Prop) → Prop
  | .list ds, k => k ds
  | .tuple ds, k => k ds
  | _, _ => False
theorem lc_listOf {K : PySem.W.Frag} : LC K (q1L fListOf) (qListOf K) := by
  refine lc_own1 (fun G H v d Q s hv q => ?_) (fun d k k' hk q => ?_)
  · unfold fListOf at q
    split at q
    · obtain ⟨a, us, rfl, ha, hds⟩ := hv.seqL s
      exact ⟨a, us, rfl, .inl (SqL.of ha), fun l hl => q us l hds hl⟩
    · obtain ⟨a, us, rfl, ha, hds, _⟩ := hv.seqT s
      exact ⟨a, us, rfl, .inr ha, fun l hl => q us l hds hl⟩
    · exact q.elim
  · unfold fListOf at q ⊢
    split at q
    · exact hk _ q
    · exact hk _ q
    · exact q.elim
def fTupleOf : PyData → (PyData → Prop) → Prop
  | .list ds, k => k (.tuple ds)
  | .tuple ds, k => k (.tuple ds)
  | _, _ => False
theorem lc_tupleOf {K : PySem.W.Frag} : LC K (q1 fTupleOf) (qTupleOf K) := by
  refine lc_im1 (fun G H v d Q s hv q => ?_) (fun d k k' hk q => ?_)
  · unfold fTupleOf at q
    split at q
    · obtain ⟨a, us, rfl, ha, hds⟩ := hv.seqL s
      exact ⟨a, us, rfl, .inl ⟨SqL.of ha, fun l hl => q _ _ (.inr ⟨l, us, _, rfl, hl, rfl, hds, rfl⟩)⟩⟩
    · obtain ⟨a, us, rfl, ha, hds, e1⟩ := hv.seqT s
      exact ⟨a, us, rfl, .inr ⟨ha, q _ _ (.old e1)⟩⟩
    · exact q.elim
  · unfold fTupleOf at q ⊢
    split at q
    · exact hk _ q
    · exact hk _ q
    · exact q.elim
def intsOf : List PyData → Option (List Int)
  | [] => some []
  | .int i :: ds => (intsOf ds).map (i :: ·)
  | _ :: _ => none
/-! ### isinstance(e, T) -/
def tyD : PyData → String
  | .none => "NoneType" | .bool _ => "bool" | .int _ => "int" | .str _ => "str" | .tuple _ => "tuple" | .list _ => "list" | .dict _ => "dict"
def isT (a T : String) : Bool := a == T || (a == "bool" && T == "int")
def isD (T : String) (d : PyData) : Bool := isT (tyD d) T
theorem dp_ty {K : PySem.W.Frag} {H : Hp} {d : PyData} {v : V} (h : Dp K H v d) (hl : ∀ ds, d = .list ds → ∃ a us, v = .ref a ∧ H a = some (.lst us)) : TyX K H v (.type (tyD d)) := by
  cases h with
  | non => exact .base .non
  | bl b => exact .base (.bl b)
  | int i => exact .base (.int i)
  | str x => exact .base (.str x)
  | lst hs ha =>
    obtain ⟨a, us, e, h⟩ := hl _ rfl
    cases e
    exact .base (.lst h)
  | tup hs ha =>
    rcases hs with (h | ⟨o, h⟩) | ⟨o, its, m, hk, hc, _⟩
    · exact .base (.tup h)
    · exact .fTuple h
    · exact .kTuple hk hc
def TyOk (T : String) : Prop := T = "bool" ∨ T = "int" ∨ T = "str" ∨ T = "tuple" ∨ T = "list"
theorem kit_is {T : String} (hT : TyOk T) (d : PyData) (hd : ∀ kvs, d ≠ .dict kvs) : kitB (tyD d) T = some (isD T d) := by
  cases d with
  | none => rcases hT with rfl | rfl | rfl | rfl | rfl <;> (show kitB "NoneType" _ = some (isT "NoneType" _)) <;> decide +kernel
  | bool b => rcases hT with rfl | rfl | rfl | rfl | rfl <;> (show kitB "bool" _ = some (isT "bool" _)) <;> decide +kernel
  | int b => rcases hT with rfl | rfl | rfl | rfl | rfl <;> (show kitB "int" _ = some (isT "int" _)) <;> decide +kernel
  | str b => rcases hT with rfl | rfl | rfl | rfl | rfl <;> (show kitB "str" _ = some (isT "str" _)) <;> decide +kernel
  | tuple b => rcases hT with rfl | rfl | rfl | rfl | rfl <;> (show kitB "tuple" _ = some (isT "tuple" _)) <;> decide +kernel
  | list b => rcases hT with rfl | rfl | rfl | rfl | rfl <;> (show kitB "list" _ = some (isT "list" _)) <;> decide +kernel
  | dict b => exact absurd rfl (hd b)
end
end Pv
namespace Pv
open PySem PySem.Spec L2 Wf
variable {B : Bas}
/-- a new thing beside, that never changes -/
theorem Rep.lay {K : PySem.W.Frag} {G H : Hp} {σ : St} {δ : List Sl} {vs : List V} {rs : List R} {w : Addr → Option Nat} (r : Rep K B G H σ δ vs rs w) {p : Addr} {o : HO} (hp : H p = none) (hn : NT o := by exact nofun) :
    Stp B.T G H w δ (upd G p o) (upd H p o) w δ ∧ Rep K B (upd G p o) (upd H p o) σ δ vs rs w := by
  have gp : G p = none := by
    cases e : G p with
    | none => rfl
    | some u => rw [r.sub p u e] at hp; cases hp
  have sg : Same G (upd G p o) := same_new gp
  have kp : ∀ a u, H a = some u → upd H p o a = some u := fun a u ha => by rw [upd_ne (ne_of_none ha hp)]; exact ha
  have st : Stp B.T G H w δ (upd G p o) (upd H p o) w δ := by
    refine .of ⟨sg, fun a u _ ha => kp a u ha, fun a i h => .inl (by rw [h]; exact Option.some_ne_none _), fun a u ha => ?_, .refl _⟩ (tabs_new hp) (q_new hn)
    by_cases e : a = p
    · subst e; exact .inr (.inl hp)
    · rw [upd_ne e] at ha; exact .inl ha
  refine ⟨st, fun a u ha => ?_, fun a i h => ?_, r.len, fun i s h => ?_, r.tlen, fun j v q hv hq => ?_, st.bs r.bs⟩
  · by_cases e : a = p
    · subst e; rw [upd_same] at ha ⊢; exact ha
    · rw [upd_ne e] at ha ⊢; exact r.sub a u ha
  · have ho := r.out a i h
    have hne : a ≠ p := fun z => ho.2.1 (by rw [z]; exact hp)
    rw [upd_ne hne, upd_ne hne]
    exact ⟨ho.1, ho.2.1, noT_upd hne ho.2.2⟩
  · exact (r.sl i s h).mono sg (fun a u _ hu => kp a u hu) fun a u ma _ => ma
  · exact (r.tm j v q hv hq).mono sg (fun a u _ hu => kp a u hu) fun a u ma _ => ma
section
variable {X : Cx} {a b e : Expr} {es : List Expr} {p pos p2 : Pos} {pa pb : PX}
/-! ### isinstance -/
def pIsi (T : String) (p : PX) : PX := fun δ Q => p δ fun r δ1 => ∃ d, dat δ1 r = some d ∧ Q (.im (.bool (isD T d))) δ1
theorem dq_nodict {K : PySem.W.Frag} {G H : Hp} {v : V} {d : PyData} (h : Vw K G H v d) : ∀ kvs, d ≠ .dict kvs := by
  intro kvs z
  subst z
  rcases h with h | ⟨_, _, _, _, _, _, z⟩
  · cases h
  · cases z
theorem vw_ty {K : PySem.W.Frag} {G H : Hp} {v : V} {d : PyData} (s : Same G H) (h : Vw K G H v d) : TyX K H v (.type (tyD d)) :=
  dp_ty (h.dp s) fun ds z => by
    subst z
    obtain ⟨a, us, e, ha, _⟩ := h.seqL s
    exact ⟨a, us, e, ha⟩
theorem je_isi {T : String} {x : Str} {pt : Pos} (hT : TyOk T) (hg : Gl X "isinstance") (hm : X.mg "isinstance" = none) (ht : PE X (.Name x pt) (tC (.ty T))) (ha : JE X B e pa) (he : starEach [e, .Name x pt] X.env = (false, eval e X.env) :: starEach [.Name x pt] X.env := by rfl) (he2 : starEach [.Name x pt] X.env = (false, eval (.Name x pt) X.env) :: starEach [] X.env := by rfl) (hpl : (backTo pos (starEach [.Name x pt] X.env)).any (·.1) = false := by rfl) :
    JE X B (.Call (.Name "isinstance" p) [e, .Name x pt] [] pos) (pIsi T pa) := by
  refine PE_wk (pe_callB call_isi hg hm (by decide +kernel) (pa_cons ha (pa_cons ht pa_nil he2) he) (by decide) (by decide) he hpl) fun σ H Q ⟨G, w, δ, Qp, rep, q, k⟩ => ?_
  refine ⟨G, w, δ, _, rep, q, fun r δ1 v H1 G1 w1 q1 s1 rep1 => ?_⟩
  obtain ⟨d, hd, q1⟩ := q1
  have hv := rep1.dat (j := 0) rfl rfl hd
  exact ⟨v, .ty T, _, _, _, rfl, .ty T, vw_ty rep1.sub hv, kit_ty (kit_is hT d (dq_nodict hv)), k _ δ1 _ H1 G1 _ q1 (s1.trans .drop) (rep1.ret (.bl _))⟩
/-! ### is -/
theorem is_bool_gen {M : Model} {A : Around} {Q : Value → Shared → Prop} {E : Value → Shared → Prop} {s : Shared} {v : Value} {t : Bool} (hb : ∀ id, v ≠ .builtin id) (h : Q (.bool (v == .bool t)) s) : wpAny M A (compareOp .Is v (.bool t)) Q E s := by
  cases v <;> first | exact absurd rfl (hb _) | exact wpAny_pure h
theorem rel_nob {x : V} {v : Value} (r : RelV x v) : ∀ id, v ≠ .builtin id := by
  intro id
  cases x with
  | bl c => cases r; exact fun z => nomatch z
  | non => cases r; exact fun z => nomatch z
  | int _ => obtain ⟨t, rfl⟩ := r; exact fun z => nomatch z
  | str _ => obtain ⟨t, rfl⟩ := r; exact fun z => nomatch z
  | byt _ => obtain ⟨t, rfl⟩ := r; exact fun z => nomatch z
  | flt _ => obtain ⟨t, rfl⟩ := r; exact fun z => nomatch z
  | ref _ => cases r; exact fun z => nomatch z
  | ty _ => cases r; exact fun z => nomatch z
theorem rel_bool {x : V} {v : Value} {t : Bool} (r : RelV x v) : (v == Value.bool t) = decide (x = .bl t) := by
  cases x with
  | bl c => cases r; cases c <;> cases t <;> rfl
  | non => cases r; rfl
  | int _ => obtain ⟨t, rfl⟩ := r; rfl
  | str _ => obtain ⟨t, rfl⟩ := r; rfl
  | byt _ => obtain ⟨t, rfl⟩ := r; rfl
  | flt _ => obtain ⟨t, rfl⟩ := r; rfl
  | ref _ => cases r; rfl
  | ty _ => cases r; rfl
def rIsC : R2 := fun x y H Q => (y = .non ∧ Q (.bl (decide (x = .non))) H) ∨ ∃ t, y = .bl t ∧ Q (.bl (decide (x = .bl t))) H
theorem op_isC : OpR X (compareOp .Is) rIsC := by
  refine op_or op_isN1 ?_
  intro pins s σ H x y v u Q I rx ry h
  obtain ⟨t, rfl, q⟩ := h
  cases (show u = Value.bool t from ry)
  exact is_bool_gen (rel_nob rx) ⟨.bl _, H, I, by rw [rel_bool rx]; rfl, q⟩
def isC : PyData → PyData → Bool
  | .none, .none => true
  | .bool a, .bool b => a == b
  | _, _ => false
def fIs (neg : Bool) : PyData → PyData → (PyData → Prop) → Prop
  | d, .none, k => k (.bool (if neg then !isC d .none else isC d .none))
  | d, .bool t, k => k (.bool (if neg then !isC d (.bool t) else isC d (.bool t)))
  | _, _, _ => False
theorem vw_non {K : PySem.W.Frag} {G H : Hp} {v : V} {d : PyData} (h : Vw K G H v d) : decide (v = .non) = isC d .none := by
  rcases h with h | ⟨a, us, ds, rfl, _, _, rfl⟩
  · cases h <;> rfl
  · rfl
theorem vw_bl {K : PySem.W.Frag} {G H : Hp} {v : V} {d : PyData} {t : Bool} (h : Vw K G H v d) : decide (v = .bl t) = isC d (.bool t) := by
  rcases h with h | ⟨a, us, ds, rfl, _, _, rfl⟩
  · cases h with
    | bl b => cases b <;> cases t <;> rfl
    | _ => rfl
  · rfl
theorem fIs_mono {neg : Bool} : ∀ d e (k k' : PyData → Prop), (∀ e, k e → k' e) → fIs neg d e k → fIs neg d e k' := by
  intro d e k k' hk q
  unfold fIs at q ⊢
  split at q
  · exact hk _ q
  · exact hk _ q
  · exact q.elim
theorem vw_none {K : PySem.W.Frag} {G H : Hp} {v : V} (h : Vw K G H v .none) : v = .non := by
  rcases h with h | ⟨a, us, ds, rfl, _, _, z⟩
  · cases h; rfl
  · cases z
theorem lc_is {K : PySem.W.Frag} : LC K (q2 (fIs false)) (ap2 rIsC) := by
  refine lc_im2 (fun G H v u d e Q s hv hu q => ?_) fIs_mono
  unfold fIs at q
  split at q
  · exact .inl ⟨vw_none hu, by rw [vw_non hv]; exact q _ _ .bool⟩
  · exact .inr ⟨_, hu.bool, by rw [vw_bl hv]; exact q _ _ .bool⟩
  · exact q.elim
def pIs (neg : Bool) (pa pb : PX) : PX := pC (q2 (fIs neg)) (pCons pa (pCons pb pNil))
theorem je_is (ha : JE X B a pa) (hb : JE X B b pb) : JE X B (.Compare a [.Is] [b] pos) (pIs false pa pb) := je_cmp op_isC lc_is ha hb (nomark _)
theorem jb_is (ha : JE X B a pa) (hb : JE X B b pb) : JB X B (.Compare a [.Is] [b] pos) (pT (pIs false pa pb)) := jb_cmp op_isC lc_is ha hb (nomark _)
/-! ### a < b < c -/
def pChain (q q' : List R → PX) (pa pb pc : PX) : PX := fun δ Q => pa δ fun ra δ1 => pb δ1 fun rb δ2 => ∃ y, rb = .im y ∧ q [ra, .im y] δ2 fun r δ3 => ∃ t, dat δ3 r = some (.bool t) ∧
  if t = true then pc δ3 fun rc δ4 => q' [.im y, rc] δ4 Q else Q (.im (.bool false)) δ3
theorem je_chain {c : Expr} {op op' : CmpOp} {pc : PX} {q q' : List R → PX} {r r' : R2} (ho : OpR X (compareOp op) r) (ho' : OpR X (compareOp op') r') (hl : LC X.K q (ap2 r)) (hl' : LC X.K q' (ap2 r')) (ha : JE X B a pa) (hb : JE X B b pb) (hc : JE X B c pc) (hm : lastMarks [op, op'] [b, c] = false := by rfl) :
    JE X B (.Compare a [op, op'] [b, c] pos) (pChain q q' pa pb pc) := by
  refine PE_wk (pe_chain ho ho' ha hb hc hm) fun σ H Q ⟨G, w, δ, Qp, rep, h, k⟩ => ?_
  refine ⟨G, w, δ, _, rep, h, fun ra δ1 x H1 G1 w1 q1 s1 rep1 => ?_⟩
  refine ⟨G1, _, δ1, _, rep1.drop, q1, fun rb δ2 y H2 G2 w2 q2 s2 rep2 => ?_⟩
  obtain ⟨w3, s3, rep3⟩ := rep1.frame s2 rep2
  obtain ⟨dy, rfl, q2⟩ := q2
  have hy : Dq X.K G2 y dy := rep2.tm 0 y (.im dy) rfl rfl
  refine hl G2 H2 σ δ2 [x, y] [ra, .im dy] w3 _ _ rep3 q2 fun r δ3 z H3 G3 w4 q3 s4 rep4 => ?_
  obtain ⟨t, ht, q3⟩ := q3
  refine ⟨t, dp_bool (rep4.dpH (j := 0) rfl rfl ht), ?_⟩
  have s5 := (s1.trans s3).trans s4
  cases t with
  | false => exact k _ δ3 _ H3 G3 _ q3 (s5.trans .drop) (rep4.ret (.bl false))
  | true =>
    have r5 := rep4.ret (dp_mono s4.g _ _ hy)
    refine ⟨G3, _, δ3, _, r5.drop, q3, fun rc δ4 v H4 G4 w5 q4 s6 rep6 => ?_⟩
    obtain ⟨w6, s7, rep7⟩ := r5.frame s6 rep6
    exact hl' G4 H4 σ δ4 [y, v] [.im dy, rc] w6 Qp Q rep7 q4 fun r δ' u H' G' w' hq hs hr => k r δ' u H' G' w' hq (((s5.trans .drop).trans s7).trans hs) hr
abbrev qLeD := qD (fI2 T2 fun a b => .bool (decide (a ≤ b)))
theorem lc_le {K : PySem.W.Frag} : LC K qLeD (ap2 qLe) := lc_I0 fun a b G => .bl _
/-! ### slices -/
def POx := List Sl → (Option Int → List Sl → Prop) → Prop
def oNone : POx := fun δ Q => Q none δ
def oSome (p : PX) : POx := fun δ Q => p δ fun r δ1 => ∃ i, dat δ1 r = some (.int i) ∧ Q (some i) δ1
def LO (K : PySem.W.Frag) (B : Bas) (p : POx) : TO := fun σ H Q => ∃ G w δ Qp, Rep K B G H σ δ [] [] w ∧ p δ Qp ∧ ∀ b δ' H' G' w', Qp b δ' → Stp B.T G H w δ G' H' w' δ' → Rep K B G' H' σ δ' [] [] w' → Q b H'
def JO (X : Cx) (B : Bas) (e : Option Expr) (p : POx) : Prop := PO X e (LO X.K B p)
theorem PO_wk {e : Option Expr} {t t' : TO} (h : PO X e t) (k : ∀ σ H Q, t' σ H Q → t σ H Q) : PO X e t' := ⟨fun pins s σ H Q I q => h.run pins s σ H Q I (k σ H Q q)⟩
theorem jo_none : JO X B none oNone := PO_wk po_none fun σ H Q ⟨G, w, δ, Qp, rep, q, k⟩ => k none δ H G w q .refl rep
theorem dp_int {K : PySem.W.Frag} {H : Hp} {v : V} {i : Int} (h : Dp K H v (.int i)) : v = .int i := by cases h; rfl
theorem jo_some (ha : JE X B a pa) : JO X B (some a) (oSome pa) := PO_wk (po_some ha) fun σ H Q ⟨G, w, δ, Qp, rep, q, k⟩ => ⟨G, w, δ, _, rep, q, fun r δ1 v H1 G1 w1 q1 s1 rep1 => by
  obtain ⟨i, hi, q1⟩ := q1
  exact ⟨i, dp_int (rep1.dpH (j := 0) rfl rfl hi), k _ δ1 H1 G1 _ q1 (s1.trans .drop) rep1.drop⟩⟩
def cutD {α : Type} (xs : List α) (lo hi : Option Int) : List α := (xs.drop (HT.sIx xs.length 0 lo)).take (HT.sIx xs.length xs.length hi - HT.sIx xs.length 0 lo)
theorem dqAll_drop {K : PySem.W.Frag} {G : Hp} : ∀ (n : Nat) {us : List V} {ds : List PyData}, DqAll K G us ds → DqAll K G (us.drop n) (ds.drop n)
  | 0, _, _, h => h
  | _ + 1, _, _, .nil => .nil
  | n + 1, _, _, .cons _ h => dqAll_drop n h
theorem dqAll_take {K : PySem.W.Frag} {G : Hp} : ∀ (n : Nat) {us : List V} {ds : List PyData}, DqAll K G us ds → DqAll K G (us.take n) (ds.take n)
  | 0, _, _, _ => .nil
  | _ + 1, _, _, .nil => .nil
  | n + 1, _, _, .cons h1 h => .cons h1 (dqAll_take n h)
theorem dqAll_cut {K : PySem.W.Frag} {G : Hp} {us : List V} {ds : List PyData} {lo hi : Option Int} (h : DqAll K G us ds) : DqAll K G (cutV us lo hi) (cutD ds lo hi) := by
  unfold cutV cutD
  rw [dqAll_len h]
  exact dqAll_take _ (dqAll_drop _ h)
def pSlice (pa : PX) (lo hi : POx) : PX := fun δ Q => pa δ fun ra δ1 => lo δ1 fun l δ2 => hi δ2 fun u δ3 => match dat δ3 ra with
  | some (.tuple ds) => Q (.im (.tuple (cutD ds l u))) δ3
  | some (.list ds) => Q (.ow (.lst (cutD ds l u))) δ3
  | _ => False
def rSlU (K : PySem.W.Frag) : V → Option Int → Option Int → Hp → VK → Prop := fun x lo hi H Q => rSlA K x lo hi H Q ∨ rSlL K x lo hi H Q
theorem sl_u : L2.SlR X (rSlU X.K) := by
  intro pins s σ H x v vl vu lo hi sl Q I rx hs pl pu h
  rcases h with h | h
  · exact sl_tupA pins s σ H x v vl vu lo hi sl Q I rx hs pl pu h
  · exact sl_list pins s σ H x v vl vu lo hi sl Q I rx hs pl pu h
theorem cut_whole {α : Type} {xs : List α} {lo hi : Option Int} (h : HT.sIx xs.length 0 lo = 0 ∧ HT.sIx xs.length xs.length hi = xs.length) : cutD xs lo hi = xs := by
  unfold cutD
  rw [h.1, h.2, Nat.sub_zero, List.drop_zero, List.take_length]
theorem je_slice {lo hi : Option Expr} {pl ph : POx} (ha : JE X B a pa) (hl : JO X B lo pl) (hh : JO X B hi ph) : JE X B (.Subscript a (.Slice lo hi none p2) pos) (pSlice pa pl ph) := by
  refine PE_wk (pe_slice sl_u ha hl hh) fun σ H Q ⟨G, w, δ, Qp, rep, h, k⟩ => ?_
  refine ⟨G, w, δ, _, rep, h, fun ra δ1 x H1 G1 w1 q1 s1 rep1 => ?_⟩
  refine ⟨G1, _, δ1, _, rep1.drop, q1, fun l δ2 H2 G2 w2 q2 s2 rep2 => ?_⟩
  obtain ⟨w3, s3, rep3⟩ := rep1.frame s2 rep2
  refine ⟨G2, _, δ2, _, rep3.drop, q2, fun u δ3 H3 G3 w4 q3 s4 rep4 => ?_⟩
  obtain ⟨w5, s5, rep5⟩ := rep3.frame s4 rep4
  have s6 := (s1.trans s3).trans s5
  revert q3
  split
  · rename_i ds e
    intro q3
    obtain ⟨p1, u1, rfl, t1, d1, e1⟩ := Vw.seqT rep5.sub (rep5.dat (j := 0) rfl rfl e)
    refine .inl ⟨p1, u1, rfl, t1, fun hw => ?_, fun hw p hp => ?_⟩
    · rw [dqAll_len d1] at hw
      rw [cut_whole hw] at q3
      exact k _ δ3 _ H3 G3 _ q3 (s6.trans .drop) (rep5.ret e1)
    · obtain ⟨s7, r7⟩ := rep5.retNew hp (dq_newTup rep5.sub hp (dqAll_cut (lo := l) (hi := u) d1))
      exact k _ δ3 _ _ _ _ q3 (s6.trans s7) r7
  · rename_i ds e
    intro q3
    obtain ⟨p1, u1, rfl, t1, d1⟩ := Vw.seqL rep5.sub (rep5.dat (j := 0) rfl rfl e)
    refine .inr ⟨p1, u1, rfl, SqL.of t1, fun p hp => ?_⟩
    obtain ⟨w7, s7, r7⟩ := rep5.retLst hp (dqAll_cut (lo := l) (hi := u) d1)
    exact k _ δ3 _ _ _ _ q3 (s6.trans s7) r7
  · intro q3; exact q3.elim
/-! ### in, not in: lists of data -/
/-! ### list(range(..)), tuple(range(..)) -/
def rgD (a b : Int) : List PyData := (List.range (b - a).toNat).map fun (i : Nat) => PyData.int (a + (i : Nat))
theorem dq_rg {K : PySem.W.Frag} {G : Hp} (a b : Int) : DqAll K G (rgV a b) (rgD a b) := by
  unfold rgV rgD
  induction (List.range (b - a).toNat) with
  | nil => exact .nil
  | cons n ns ih => exact .cons (.int _) ih
def PRx := List Sl → (Int → Int → List Sl → Prop) → Prop
def pRg1 (p : PX) : PRx := fun δ Q => p δ fun r δ1 => ∃ n, dat δ1 r = some (.int n) ∧ Q 0 n δ1
def pLstRg (p : PRx) : PX := fun δ Q => p δ fun a b δ1 => RgOk a b ∧ Q (.ow (.lst (rgD a b))) δ1
def LR (K : PySem.W.Frag) (B : Bas) (p : PRx) : St → Hp → (Int → Int → Hp → Prop) → Prop := fun σ H Q => ∃ G w δ Qp, Rep K B G H σ δ [] [] w ∧ p δ Qp ∧ ∀ a b δ' H' G' w', Qp a b δ' → Stp B.T G H w δ G' H' w' δ' → Rep K B G' H' σ δ' [] [] w' → Q a b H'
def JR (X : Cx) (B : Bas) (e : Expr) (p : PRx) : Prop := PRg X e (LR X.K B p)
theorem PRg_wk {e : Expr} {t t' : St → Hp → (Int → Int → Hp → Prop) → Prop} (h : PRg X e t) (k : ∀ σ H Q, t' σ H Q → t σ H Q) : PRg X e t' := fun pins s σ H Q I q => h pins s σ H Q I (k σ H Q q)
theorem jr_1 (hg : Gl X "range") (hm : X.mg "range" = none) (ha : JE X B a pa) (na : starEach [a] X.env = (false, eval a X.env) :: starEach [] X.env := by rfl) : JR X B (.Call (.Name "range" p) [a] [] pos) (pRg1 pa) :=
  PRg_wk (prg_1 hg hm ha na) fun σ H Q ⟨G, w, δ, Qp, rep, q, k⟩ => ⟨G, w, δ, _, rep, q, fun r δ1 v H1 G1 w1 q1 s1 rep1 => by
    obtain ⟨i, hi, q1⟩ := q1
    exact ⟨i, dp_int (rep1.dpH (j := 0) rfl rfl hi), k _ _ δ1 H1 G1 _ q1 (s1.trans .drop) rep1.drop⟩⟩
theorem je_lstRg {pr : PRx} (hc : X.calm = true) (hg : Gl X "list") (hm : X.mg "list" = none) (he : JR X B e pr) (na : starEach [e] X.env = (false, eval e X.env) :: starEach [] X.env := by rfl) : JE X B (.Call (.Name "list" p) [e] [] pos) (pLstRg pr) :=
  PE_wk (pe_listRg hc hg hm he na) fun σ H Q ⟨G, w, δ, Qp, rep, q, k⟩ => ⟨G, w, δ, _, rep, q, fun i j δ1 H1 G1 w1 q1 s1 rep1 => ⟨q1.1, fun p hp => by
    obtain ⟨w7, s7, r7⟩ := rep1.retLst hp (dq_rg i j)
    exact k _ δ1 _ _ _ _ q1.2 (s1.trans s7) r7⟩⟩
end
end Pv
namespace Pv
open PySem PySem.Spec L2 Wf
variable {B : Bas}
/-! ### storing -/
def slOf : R → Sl
  | .im d => .im d
  | .ow o => .ow false o
  | .at _ => .un
def isAt : R → Bool
  | .at _ => true
  | _ => false
/-- what a slot holds, as data for good -/
def rz (δ : List Sl) : R → Option (R × List Sl)
  | .at i => match δ[i]? with
    | some (.im d) => some (.im d, δ)
    | some (.ow false (.lst ds)) => some (.im (.list ds), δ.set i (.im (.list ds)))
    | some (.ow _ (.ptl ds)) => some (.ow (.ptl ds), δ)
    | _ => none
  | r => some (r, δ)
def rzAll : List Sl → List R → Option (List R × List Sl)
  | δ, [] => some ([], δ)
  | δ, r :: rs => match rz δ r with
    | none => none
    | some (q, δ1) => match rzAll δ1 rs with
      | none => none
      | some (qs, δ2) => some (q :: qs, δ2)
/-- slot i gets r -/
def setS (i : Nat) (r : R) (δ : List Sl) (Q : List Sl → Prop) : Prop := match δ[i]? with
  | none => False
  | some (.ow true _) => False
  | some _ => Q (δ.set i (slOf r))
def setAll : List Nat → List R → List Sl → (List Sl → Prop) → Prop
  | [], [], δ, Q => Q δ
  | i :: is, r :: rs, δ, Q => setS i r δ fun δ' => setAll is rs δ' Q
  | _, _, _, _ => False
def Pin (σ : St) (δ : List Sl) (σ' : St) : Prop := ∀ (i : Nat) (o : O), δ[i]? = some (Sl.ow true o) → σ'[i]? = σ[i]?
theorem Pin.refl {σ : St} {δ : List Sl} : Pin σ δ σ := fun _ _ _ => rfl
theorem Pin.trans {σ σ1 σ2 : St} {δ δ1 : List Sl} (a : Pin σ δ σ1) (n : Pn δ δ1) (b : Pin σ1 δ1 σ2) : Pin σ δ σ2 := fun i o h => by
  obtain ⟨o', h'⟩ := n i o h
  exact (b i o' h').trans (a i o h)
section
variable {K : PySem.W.Frag} {G H : Hp} {σ : St} {δ : List Sl} {vs : List V} {rs : List R} {w : Addr → Option Nat}
theorem Rep.rz1 (r : Rep K B G H σ δ vs rs w) {j : Nat} {q q' : R} {δ' : List Sl} (hq : rs[j]? = some q) (h : rz δ q = some (q', δ')) :
    ∃ G' w', Stp B.T G H w δ G' H w' δ' ∧ Rep K B G' H σ δ' vs (rs.set j q') w' := by
  have hj : j < rs.length := (List.getElem?_eq_some_iff.mp hq).1
  have hjv : j < vs.length := by rw [r.tlen]; exact hj
  have same : rs.set j q = rs := by
    apply List.ext_getElem?
    intro k
    by_cases e : j = k
    · subst e; rw [List.getElem?_set_self hj]; exact hq.symm
    · rw [List.getElem?_set_ne e]
  cases q with
  | im d => cases h; exact ⟨G, w, .refl, by rw [same]; exact r⟩
  | ow o => cases h; exact ⟨G, w, .refl, by rw [same]; exact r⟩
  | «at» i =>
    simp only [rz] at h
    revert h
    split
    · rename_i d e
      intro h
      cases h
      exact r.fz1 (List.getElem?_eq_getElem hjv) hq (by simp only [fz, e])
    · rename_i ds e
      intro h
      cases h
      exact r.fz1 (List.getElem?_eq_getElem hjv) hq (by simp only [fz, e])
    · rename_i b ds e
      intro h
      cases h
      obtain ⟨u, hu, hd⟩ := r.sl i _ e
      have t' : σ[i]? = some (some vs[j]) := r.tm j _ _ (List.getElem?_eq_getElem hjv) hq
      rw [t'] at hu
      cases hu
      refine ⟨G, w, .refl, r.sub, r.out, r.len, r.sl, by rw [List.length_set]; exact r.tlen, fun k x p hx hp => ?_, r.bs⟩
      by_cases ek : j = k
      · subst ek
        rw [List.getElem?_set_self hj] at hp
        cases hp
        rw [List.getElem?_eq_getElem hjv] at hx
        cases hx
        exact hd
      · rw [List.getElem?_set_ne ek] at hp
        exact r.tm k x p hx hp
    · intro h; cases h
theorem Rep.rzGo : ∀ (rs2 : List R) (rs1 : List R) {G : Hp} {δ δ' : List Sl} {w : Addr → Option Nat} {qs : List R}, Rep K B G H σ δ vs (rs1 ++ rs2) w → rzAll δ rs2 = some (qs, δ') → ∃ G' w', Stp B.T G H w δ G' H w' δ' ∧ Rep K B G' H σ δ' vs (rs1 ++ qs) w'
  | [], rs1, G, δ, δ', w, qs, r, h => by
    cases h
    exact ⟨G, w, .refl, r⟩
  | q :: rs2, rs1, G, δ, δ', w, qs, r, h => by
    unfold rzAll at h
    revert h
    split
    · intro h; cases h
    · rename_i q' δ1 e
      split
      · intro h; cases h
      · rename_i qs' δ2 e2
        intro h
        cases h
        have hq : (rs1 ++ q :: rs2)[rs1.length]? = some q := by simp
        obtain ⟨G1, w1, s1, r1⟩ := r.rz1 hq e
        have e3 : (rs1 ++ q :: rs2).set rs1.length q' = (rs1 ++ [q']) ++ rs2 := by
          rw [List.set_append_right _ _ (Nat.le_refl _), Nat.sub_self, List.set_cons_zero, List.append_assoc]
          rfl
        rw [e3] at r1
        obtain ⟨G2, w2, s2, r2⟩ := Rep.rzGo rs2 (rs1 ++ [q']) r1 e2
        refine ⟨G2, w2, s1.trans s2, ?_⟩
        rw [List.append_assoc] at r2
        exact r2
theorem rz_noAt {δ δ' : List Sl} {q q' : R} (h : rz δ q = some (q', δ')) : isAt q' = false := by
  cases q with
  | im d => cases h; rfl
  | ow o => cases h; rfl
  | «at» i =>
    simp only [rz] at h
    revert h
    split
    · intro h; cases h; rfl
    · intro h; cases h; rfl
    · intro h; cases h; rfl
    · intro h; cases h
theorem rzAll_noAt : ∀ {rs qs : List R} {δ δ' : List Sl}, rzAll δ rs = some (qs, δ') → ∀ q ∈ qs, isAt q = false
  | [], _, _, _, h => by cases h; intro q hq; cases hq
  | r :: rs, qs, δ, δ', h => by
    unfold rzAll at h
    revert h
    split
    · intro h; cases h
    · rename_i q' δ1 e
      split
      · intro h; cases h
      · rename_i qs' δ2 e2
        intro h
        cases h
        intro q hq
        rcases List.mem_cons.mp hq with rfl | hq
        · exact rz_noAt e
        · exact rzAll_noAt e2 q hq
theorem Rep.rzs (r : Rep K B G H σ δ vs rs w) {qs : List R} {δ' : List Sl} (h : rzAll δ rs = some (qs, δ')) : ∃ G' w', Stp B.T G H w δ G' H w' δ' ∧ Rep K B G' H σ δ' vs qs w' := by
  have := Rep.rzGo rs [] (by simpa using r) h
  simpa using this
def moved (i : Nat) (w : Addr → Option Nat) (a : Addr) : Option Nat := match w a with
  | none => none
  | some n => if n = 1 then some (2 * i) else if n % 2 = 1 then some (n - 2) else if n = 2 * i then none else some n
theorem of_moved {i : Nat} {w : Addr → Option Nat} {a : Addr} {m : Nat} (h : moved i w a = some m) : ∃ n, w a = some n := by
  unfold moved at h
  cases e : w a with
  | none => rw [e] at h; cases h
  | some n => exact ⟨n, rfl⟩
/-- the first value goes to slot i -/
theorem Rep.sto {v : V} {q : R} (r : Rep K B G H σ δ (v :: vs) (q :: rs) w) {i : Nat} {Q : List Sl → Prop} (h : setS i q δ Q) (hq : isAt q = false) (hrs : ∀ p ∈ rs, isAt p = false) :
    ∃ w', Q (δ.set i (slOf q)) ∧ Stp B.T G H w δ G H w' (δ.set i (slOf q)) ∧ Rep K B G H (σ.set i (some v)) (δ.set i (slOf q)) vs rs w' ∧ Pin σ δ (σ.set i (some v)) := by
  have hd : ∃ s, δ[i]? = some s ∧ (∀ o, s ≠ .ow true o) ∧ Q (δ.set i (slOf q)) := by
    unfold setS at h
    revert h
    split
    · intro h; exact h.elim
    · intro h; exact h.elim
    · rename_i s hn e
      intro h
      exact ⟨s, e, fun o z => hn o z, h⟩
  obtain ⟨s, hs, hp, hQ⟩ := hd
  have hi : i < δ.length := (List.getElem?_eq_some_iff.mp hs).1
  have hiσ : i < σ.length := by rw [r.len]; exact hi
  have np : ∀ o, δ[i]? ≠ some (.ow true o) := fun o z => by rw [hs] at z; cases z; exact hp o rfl
  have st : Stp B.T G H w δ G H (moved i w) (δ.set i (slOf q)) := .of ⟨fun _ _ h => h, fun _ _ _ h => h, fun a m h => by
    obtain ⟨n, hn⟩ := of_moved h
    exact .inl (by rw [hn]; exact Option.some_ne_none _), fun a o h => .inl h, pn_set np⟩
  refine ⟨moved i w, hQ, st, ⟨r.sub, fun a m h => ?_, by rw [List.length_set, List.length_set]; exact r.len, fun k s' hk => ?_, by have := r.tlen; simpa using this, fun j u p hu hp' => ?_, st.bs r.bs⟩, fun k o hk => ?_⟩
  · obtain ⟨n, hn⟩ := of_moved h
    exact r.out a n hn
  · by_cases e : i = k
    · subst e
      rw [List.getElem?_set_self hi] at hk
      cases hk
      have t := r.tm 0 v q rfl rfl
      cases q with
      | im d => exact ⟨v, List.getElem?_set_self hiσ, t⟩
      | ow o =>
        refine ⟨v, List.getElem?_set_self hiσ, RO.mono (fun _ _ h => h) (fun _ _ _ h => h) (fun a u ma _ => ?_) t⟩
        show moved i w a = _
        unfold moved
        rw [ma]
        rfl
      | «at» _ => cases hq
    · rw [List.getElem?_set_ne e] at hk
      rw [List.getElem?_set_ne e]
      refine (r.sl k s' hk).mono (fun _ _ h => h) (fun _ _ _ h => h) fun a u ma _ => ?_
      show moved i w a = _
      unfold moved
      rw [ma]
      dsimp only
      rw [if_neg (by omega), if_neg (by omega), if_neg (by omega)]
  · have t := r.tm (j + 1) u p (by simpa using hu) (by simpa using hp')
    have hno : isAt p = false := hrs p (List.mem_of_getElem? hp')
    cases p with
    | im d => exact t
    | ow o =>
      refine RO.mono (fun _ _ h => h) (fun _ _ _ h => h) (fun a u ma _ => ?_) t
      show moved i w a = _
      unfold moved
      rw [ma]
      dsimp only
      rw [if_neg (by omega), if_pos (by omega)]
      congr 1
    | «at» _ => cases hno
  · by_cases e : i = k
    · subst e; exact absurd hk (np o)
    · rw [List.getElem?_set_ne e]
/-- several slots get several values -/
theorem Rep.stos : ∀ (is : List Nat) {σ : St} {δ : List Sl} {vs : List V} {qs : List R} {w : Addr → Option Nat} {Q : List Sl → Prop}, Rep K B G H σ δ vs qs w → setAll is qs δ Q → (∀ q ∈ qs, isAt q = false) →
    ∃ δ' w', Q δ' ∧ Stp B.T G H w δ G H w' δ' ∧ Rep K B G H ((is.zip vs).foldl (fun σ p => σ.set p.1 (some p.2)) σ) δ' [] [] w' ∧ Pin σ δ ((is.zip vs).foldl (fun σ p => σ.set p.1 (some p.2)) σ) ∧ is.length = vs.length
  | [], σ, δ, vs, qs, w, Q, r, h, hq => by
    cases qs with
    | nil =>
      have hv : vs = [] := List.eq_nil_of_length_eq_zero (by have := r.tlen; simpa using this)
      subst hv
      exact ⟨δ, w, h, .refl, r, .refl, rfl⟩
    | cons => exact h.elim
  | i :: is, σ, δ, vs, qs, w, Q, r, h, hq => by
    cases qs with
    | nil => exact h.elim
    | cons q qs =>
      cases vs with
      | nil => have := r.tlen; simp at this
      | cons v vs =>
        obtain ⟨w1, h1, s1, r1, p1⟩ := r.sto (show setS i q δ _ from h) (hq q List.mem_cons_self) fun p hp => hq p (List.mem_cons_of_mem _ hp)
        obtain ⟨δ2, w2, h2, s2, r2, p2, hl⟩ := Rep.stos is r1 h1 fun p hp => hq p (List.mem_cons_of_mem _ hp)
        exact ⟨δ2, w2, h2, s1.trans s2, r2, p1.trans s1.pn p2, congrArg (· + 1) hl⟩
/-- what slot i holds is handed on -/
def taken (i : Nat) (w : Addr → Option Nat) (a : Addr) : Option Nat := match w a with
  | none => none
  | some n => if n = 2 * i then some 1 else if n % 2 = 1 then none else some n
def mv (δ : List Sl) : R → Option (R × List Sl)
  | .at i => match δ[i]? with
    | some (.im d) => some (.im d, δ)
    | some (.ow false o) => some (.ow o, δ.set i .un)
    | _ => none
  | r => some (r, δ)
theorem Rep.mv1 {v : V} {q q' : R} {δ' : List Sl} (r : Rep K B G H σ δ [v] [q] w) (h : mv δ q = some (q', δ')) : ∃ w', Stp B.T G H w δ G H w' δ' ∧ Rep K B G H σ δ' [v] [q'] w' ∧ isAt q' = false := by
  cases q with
  | im d => cases h; exact ⟨w, .refl, r, rfl⟩
  | ow o => cases h; exact ⟨w, .refl, r, rfl⟩
  | «at» i =>
    have t : σ[i]? = some (some v) := r.tm 0 v (.at i) rfl rfl
    simp only [mv] at h
    revert h
    split
    · rename_i d e
      intro h
      cases h
      obtain ⟨u, hu, hd⟩ := r.sl i _ e
      rw [t] at hu
      cases hu
      exact ⟨_, .drop, r.ret hd, rfl⟩
    · rename_i o e
      intro h
      cases h
      obtain ⟨u, hu, hd⟩ := r.sl i _ e
      rw [t] at hu
      cases hu
      have ot : ∀ a m, taken i w a = some m → ∃ n, w a = some n := fun a m h => by
        unfold taken at h
        cases e : w a with
        | none => rw [e] at h; cases h
        | some n => exact ⟨n, rfl⟩
      have st : Stp B.T G H w δ G H (taken i w) (δ.set i .un) := .of ⟨fun _ _ h => h, fun _ _ _ h => h, fun a m h => by
        obtain ⟨n, hn⟩ := ot a m h
        exact .inl (by rw [hn]; exact Option.some_ne_none _), fun a o h => .inl h, pn_set fun o z => by rw [e] at z; cases z⟩
      refine ⟨taken i w, st, ⟨r.sub, fun a m h => ?_, by rw [List.length_set]; exact r.len, fun k s' hk => ?_, rfl, fun j u p hu hp' => ?_, st.bs r.bs⟩, rfl⟩
      · obtain ⟨n, hn⟩ := ot a m h
        exact r.out a n hn
      · by_cases ek : i = k
        · subst ek
          rw [List.getElem?_set_self (List.getElem?_eq_some_iff.mp e).1] at hk
          cases hk
          trivial
        · rw [List.getElem?_set_ne ek] at hk
          refine (r.sl k s' hk).mono (fun _ _ h => h) (fun _ _ _ h => h) fun a u ma _ => ?_
          show taken i w a = _
          unfold taken
          rw [ma]
          dsimp only
          rw [if_neg (by omega), if_neg (by omega)]
      · match j with
        | 0 =>
          simp only [List.getElem?_cons_zero, Option.some.injEq] at hu hp'
          subst hu hp'
          refine RO.mono (fun _ _ h => h) (fun _ _ _ h => h) (fun a u ma _ => ?_) hd
          show taken i w a = _
          unfold taken
          rw [ma]
          dsimp only
          rw [if_pos rfl]
        | j + 1 => simp at hu
    · intro h; cases h
end
/-! ### statements -/
structure PEn where
  nx : List Sl → Prop
  rt : R → List Sl → Prop
  bk : List Sl → Prop := fun _ => False
  ct : List Sl → Prop := fun _ => False
abbrev PSx := PEn → List Sl → Prop
structure EOk (K : PySem.W.Frag) (B : Bas) (G H : Hp) (w : Addr → Option Nat) (σ : St) (δ : List Sl) (E : PEn) (D : Ends) : Prop where
  nx : ∀ δ' σ' H' G' w', E.nx δ' → Stp B.T G H w δ G' H' w' δ' → Rep K B G' H' σ' δ' [] [] w' → Pin σ δ σ' → D.nx σ' H'
  rt : ∀ r δ' v σ' H' G' w', E.rt r δ' → isAt r = false → Stp B.T G H w δ G' H' w' δ' → Rep K B G' H' σ' δ' [v] [r] w' → Pin σ δ σ' → D.rt v H'
  bk : ∀ δ' σ' H' G' w', E.bk δ' → Stp B.T G H w δ G' H' w' δ' → Rep K B G' H' σ' δ' [] [] w' → Pin σ δ σ' → D.bk σ' H'
  ct : ∀ δ' σ' H' G' w', E.ct δ' → Stp B.T G H w δ G' H' w' δ' → Rep K B G' H' σ' δ' [] [] w' → Pin σ δ σ' → D.ct σ' H'
theorem EOk.later {K : PySem.W.Frag} {G H G1 H1 : Hp} {w w1 : Addr → Option Nat} {σ σ1 : St} {δ δ1 : List Sl} {E : PEn} {D : Ends} (e : EOk K B G H w σ δ E D) (s : Stp B.T G H w δ G1 H1 w1 δ1) (p : Pin σ δ σ1) : EOk K B G1 H1 w1 σ1 δ1 E D :=
  ⟨fun δ' σ' H' G' w' h s' r p' => e.nx δ' σ' H' G' w' h (s.trans s') r (p.trans s.pn p'), fun q δ' v σ' H' G' w' h ha s' r p' => e.rt q δ' v σ' H' G' w' h ha (s.trans s') r (p.trans s.pn p'),
    fun δ' σ' H' G' w' h s' r p' => e.bk δ' σ' H' G' w' h (s.trans s') r (p.trans s.pn p'), fun δ' σ' H' G' w' h s' r p' => e.ct δ' σ' H' G' w' h (s.trans s') r (p.trans s.pn p')⟩
def LS (K : PySem.W.Frag) (B : Bas) (p : PSx) : TS := fun D σ H => ∃ G w δ E, Rep K B G H σ δ [] [] w ∧ p E δ ∧ EOk K B G H w σ δ E D
def JS (X : Cx) (B : Bas) (st : Stmt) (p : PSx) : Prop := PS X st (LS X.K B p)
def JSs (X : Cx) (B : Bas) (st : List Stmt) (p : PSx) : Prop := PSs X st (LS X.K B p)
def pNext : PSx := fun E δ => E.nx δ
def pSeq (a b : PSx) : PSx := fun E δ => a { E with nx := fun δ' => b E δ' } δ
def pExpr (p : PX) : PSx := fun E δ => p δ fun _ δ1 => E.nx δ1
def pRet (p : PX) : PSx := fun E δ => p δ fun r δ1 => ∃ q δ2, mv δ1 r = some (q, δ2) ∧ E.rt q δ2
def pIf (c : PB) (a b : PSx) : PSx := fun E δ => c δ fun t δ1 => if t = true then a E δ1 else b E δ1
def pSet (i : Nat) (p : PX) : PSx := fun E δ => p δ fun r δ1 => ∃ q δ2, rz δ1 r = some (q, δ2) ∧ setS i q δ2 E.nx
def pPar (is : List Nat) (ps : PL) : PSx := fun E δ => ps δ fun rs δ1 => ∃ qs δ2, rzAll δ1 rs = some (qs, δ2) ∧ setAll is qs δ2 E.nx
section
variable {X : Cx} {st : Stmt} {sts : List Stmt} {a b : PSx} {e : Expr} {pa : PX} {pos : Pos}
theorem jss_nil : JSs X B [] pNext := PSs_wk pss_nil fun D σ H ⟨G, w, δ, E, rep, h, ek⟩ => ek.nx δ σ H G w h .refl rep .refl
theorem jss_cons (h1 : JS X B st a) (h2 : JSs X B sts b) : JSs X B (st :: sts) (pSeq a b) := PSs_wk (pss_cons h1 h2) fun D σ H ⟨G, w, δ, E, rep, h, ek⟩ =>
  ⟨G, w, δ, _, rep, h, ⟨fun δ' σ' H' G' w' hb s r p => ⟨G', w', δ', E, r, hb, ek.later s p⟩, ek.rt, ek.bk, ek.ct⟩⟩
theorem jss_one (h1 : JS X B st a) : JSs X B [st] a := pss_one h1
theorem js_expr (he : JE X B e pa) (hs : swapsWith e none pos.line X.env = pure false := by rfl) : JS X B (.Expr e pos) (pExpr pa) := PS_wk (ps_expr he hs) fun D σ H ⟨G, w, δ, E, rep, h, ek⟩ =>
  ⟨G, w, δ, _, rep, h, fun r δ1 v H1 G1 w1 q1 s1 rep1 => ek.nx δ1 σ H1 G1 _ q1 (s1.trans .drop) rep1.drop .refl⟩
theorem js_ret (he : JE X B e pa) : JS X B (.Return (some e) pos) (pRet pa) := PS_wk (ps_ret he) fun D σ H ⟨G, w, δ, E, rep, h, ek⟩ =>
  ⟨G, w, δ, _, rep, h, fun r δ1 v H1 G1 w1 q1 s1 rep1 => by
    obtain ⟨q, δ2, hm, q1⟩ := q1
    obtain ⟨w2, s2, r2, ha⟩ := rep1.mv1 hm
    exact ek.rt q δ2 v σ H1 G1 w2 q1 ha (s1.trans s2) r2 .refl⟩
theorem js_if {c : Expr} {x y : List Stmt} {pc : PB} (hc : JB X B c pc) (ha : JSs X B x a) (hb : JSs X B y b) : JS X B (.If c x y pos) (pIf pc a b) := PS_wk (ps_if hc ha hb) fun D σ H ⟨G, w, δ, E, rep, h, ek⟩ =>
  ⟨G, w, δ, _, rep, h, fun t δ1 H1 G1 w1 q1 s1 rep1 => by
    cases t with
    | true => exact ⟨G1, w1, δ1, E, rep1, q1, ek.later s1 .refl⟩
    | false => exact ⟨G1, w1, δ1, E, rep1, q1, ek.later s1 .refl⟩⟩
theorem set_lift {i : Nat} {p : PX} {D : Ends} {σ : St} {H : Hp} (h : LS X.K B (pSet i p) D σ H) : tAsg (LE X.K B p) (gName i) D σ H := by
  obtain ⟨G, w, δ, E, rep, h, ek⟩ := h
  refine ⟨G, w, δ, _, rep, h, fun r δ1 v H1 G1 w1 q1 s1 rep1 => ?_⟩
  obtain ⟨q, δ2, hz, q1⟩ := q1
  obtain ⟨G2, w2, s2, r2⟩ := rep1.rz1 (j := 0) rfl hz
  obtain ⟨w3, q3, s3, r3, p3⟩ := r2.sto q1 (rz_noAt hz) (fun p hp => by cases hp)
  exact ek.nx _ _ H1 G2 w3 q3 ((s1.trans s2).trans s3) r3 ((Pin.refl (σ := σ)).trans (s1.trans s2).pn p3)
theorem js_set {i : Nat} {x : Str} {pos' : Pos} (hN : X.N.Nodup) (hi : X.N[i]? = some x) (hx : Loc X.env.scope x) (he : JE X B e pa) (hs : swapsWith e (some (.Name x pos')) pos.line X.env = pure false := by rfl) (hf : X.fn x = true ∨ X.env.scope.names.lookup x = some .local := by first | exact .inl rfl | exact .inr rfl | assumption) :
    JS X B (.Assign [.Name x pos'] e pos) (pSet i pa) := PS_wk (ps_set hN hi hx he hs hf) fun D σ H ⟨G, w, δ, E, rep, h, ek⟩ =>
  ⟨G, w, δ, _, rep, h, fun r δ1 v H1 G1 w1 q1 s1 rep1 => by
    obtain ⟨q, δ2, hz, q1⟩ := q1
    obtain ⟨G2, w2, s2, r2⟩ := rep1.rz1 (j := 0) rfl hz
    obtain ⟨w3, q3, s3, r3, p3⟩ := r2.sto q1 (rz_noAt hz) (fun p hp => by cases hp)
    exact ek.nx _ _ H1 G2 w3 q3 ((s1.trans s2).trans s3) r3 ((Pin.refl (σ := σ)).trans (s1.trans s2).pn p3)⟩
theorem js_par2 {i j : Nat} {x y : Str} {e1 e2 : Expr} {ps : PL} {px py pt : Pos} {kt k2 pt2} (hc : X.calm = true) (hN : X.N.Nodup) (hi : X.N[i]? = some x) (hj : X.N[j]? = some y) (hij : i ≠ j)
    (hx : X.env.scope.names.lookup x = some .local) (hy : X.env.scope.names.lookup y = some .local) (ha : JA X B [e1, e2] ps)
    (hw : swappedStores [.Tuple [.Name x px, .Name y py] kt pt] (.Tuple [e1, e2] k2 pt2) X.env = pure (some [x, y]))
    (hs : swapsWithSole [.Tuple [.Name x px, .Name y py] kt pt] (.Tuple [e1, e2] k2 pt2) pos.line X.env = pure false := by rfl) :
    JS X B (.Assign [.Tuple [.Name x px, .Name y py] kt pt] (.Tuple [e1, e2] k2 pt2) pos) (pPar [i, j] ps) := PS_wk (ps_par hc hN hi hj hij hx hy ha hw hs) fun D σ H ⟨G, w, δ, E, rep, h, ek⟩ =>
  ⟨G, w, δ, _, rep, h, fun rs δ1 vs H1 G1 w1 q1 l1 s1 rep1 => by
    obtain ⟨qs, δ2, hz, q1⟩ := q1
    obtain ⟨G2, w2, s2, r2⟩ := rep1.rzs hz
    obtain ⟨δ3, w3, q3, s3, r3, p3, hl⟩ := Rep.stos [i, j] r2 q1 (rzAll_noAt hz)
    match vs, hl with
    | [v, u], _ => exact ⟨v, u, rfl, ek.nx _ _ H1 G2 w3 q3 ((s1.trans s2).trans s3) r3 ((Pin.refl (σ := σ)).trans (s1.trans s2).pn p3)⟩⟩
theorem js_par3 {i j l : Nat} {x y z : Str} {e1 e2 e3 : Expr} {ps : PL} {px py pz pt : Pos} {kt k2 pt2} (hc : X.calm = true) (hN : X.N.Nodup) (hi : X.N[i]? = some x) (hj : X.N[j]? = some y) (hk : X.N[l]? = some z) (hij : i ≠ j) (hil : i ≠ l) (hjl : j ≠ l)
    (hx : X.env.scope.names.lookup x = some .local) (hy : X.env.scope.names.lookup y = some .local) (hz : X.env.scope.names.lookup z = some .local) (ha : JA X B [e1, e2, e3] ps)
    (hw : swappedStores [.Tuple [.Name x px, .Name y py, .Name z pz] kt pt] (.Tuple [e1, e2, e3] k2 pt2) X.env = pure (some [x, y, z]))
    (hs : swapsWithSole [.Tuple [.Name x px, .Name y py, .Name z pz] kt pt] (.Tuple [e1, e2, e3] k2 pt2) pos.line X.env = pure false := by rfl) :
    JS X B (.Assign [.Tuple [.Name x px, .Name y py, .Name z pz] kt pt] (.Tuple [e1, e2, e3] k2 pt2) pos) (pPar [i, j, l] ps) := PS_wk (ps_par3 hc hN hi hj hk hij hil hjl hx hy hz ha hw hs) fun D σ H ⟨G, w, δ, E, rep, h, ek⟩ =>
  ⟨G, w, δ, _, rep, h, fun rs δ1 vs H1 G1 w1 q1 l1 s1 rep1 => by
    obtain ⟨qs, δ2, hz, q1⟩ := q1
    obtain ⟨G2, w2, s2, r2⟩ := rep1.rzs hz
    obtain ⟨δ3, w3, q3, s3, r3, p3, hl⟩ := Rep.stos [i, j, l] r2 q1 (rzAll_noAt hz)
    match vs, hl with
    | [v, u, t], _ => exact ⟨v, u, t, rfl, ek.nx _ _ H1 G2 w3 q3 ((s1.trans s2).trans s3) r3 ((Pin.refl (σ := σ)).trans (s1.trans s2).pn p3)⟩⟩
end
/-! ### targets of data -/
abbrev PGx := PyData → List Sl → (List Sl → Prop) → Prop
abbrev PGxs := List PyData → List Sl → (List Sl → Prop) → Prop
def gN (i : Nat) : PGx := fun d δ Q => setS i (.im d) δ Q
def gsN : PGxs := fun ds δ Q => ds = [] ∧ Q δ
def gsC (g : PGx) (gs : PGxs) : PGxs := fun ds δ Q => match ds with
  | d :: ds => g d δ fun δ' => gs ds δ' Q
  | [] => False
def gT (n : Nat) (gs : PGxs) : PGx := fun d δ Q => match d with
  | .tuple ds => ds.length = n ∧ gs ds δ Q
  | _ => False
/-- only the slots ts are stored to -/
def Tch (ts : List Nat) (σ σ' : St) : Prop := σ'.length = σ.length ∧ ∀ k, k ∉ ts → σ'[k]? = σ[k]?
theorem Tch.refl {ts : List Nat} {σ : St} : Tch ts σ σ := ⟨rfl, fun _ _ => rfl⟩
theorem Tch.trans {ts us : List Nat} {σ σ1 σ2 : St} (a : Tch ts σ σ1) (b : Tch us σ1 σ2) : Tch (ts ++ us) σ σ2 := ⟨b.1.trans a.1, fun k hk => (b.2 k fun z => hk (List.mem_append_right _ z)).trans (a.2 k fun z => hk (List.mem_append_left _ z))⟩
def LG (K : PySem.W.Frag) (B : Bas) (ts : List Nat) (g : PGx) : TG := fun v σ H Q => ∃ G w δ d Qp, Rep K B G H σ δ [] [] w ∧ Dq K G v d ∧ g d δ Qp ∧ ∀ δ' σ' H' G' w', Qp δ' → Stp B.T G H w δ G' H' w' δ' → Rep K B G' H' σ' δ' [] [] w' → Pin σ δ σ' → Tch ts σ σ' → Q σ' H'
def LGs (K : PySem.W.Frag) (B : Bas) (ts : List Nat) (g : PGxs) : TGs := fun vs σ H Q => ∃ G w δ ds Qp, Rep K B G H σ δ [] [] w ∧ DqAll K G vs ds ∧ g ds δ Qp ∧ ∀ δ' σ' H' G' w', Qp δ' → Stp B.T G H w δ G' H' w' δ' → Rep K B G' H' σ' δ' [] [] w' → Pin σ δ σ' → Tch ts σ σ' → Q σ' H'
section
variable {X : Cx} {pos : Pos}
theorem PG_wk {e : Expr} {t t' : TG} (h : PG X e t) (k : ∀ v σ H Q, t' v σ H Q → t v σ H Q) : PG X e t' := ⟨fun pins s σ H v u Q I r q => h.run pins s σ H v u Q I r (k v σ H Q q)⟩
theorem PGs_wk {es : List Expr} {t t' : TGs} (h : PGs X es t) (k : ∀ v σ H Q, t' v σ H Q → t v σ H Q) : PGs X es t' := ⟨fun pins s σ H v u Q I r q => h.run pins s σ H v u Q I r (k v σ H Q q)⟩
def JG (X : Cx) (B : Bas) (e : Expr) (ts : List Nat) (g : PGx) : Prop := PG X e (LG X.K B ts g)
def JGs (X : Cx) (B : Bas) (es : List Expr) (ts : List Nat) (g : PGxs) : Prop := PGs X es (LGs X.K B ts g)
theorem jg_name {i : Nat} {x : Str} (hN : X.N.Nodup) (hi : X.N[i]? = some x) (hx : Loc X.env.scope x) (hf : X.fn x = true ∨ X.env.scope.names.lookup x = some .local := by first | exact .inl rfl | exact .inr rfl | assumption) : JG X B (.Name x pos) [i] (gN i) :=
  PG_wk (pg_name hN hi hx hf) fun v σ H Q ⟨G, w, δ, d, Qp, rep, hd, h, k⟩ => by
    obtain ⟨w3, q3, s3, r3, p3⟩ := (rep.ret hd).sto (show setS i (.im d) δ Qp from h) rfl (fun p hp => by cases hp)
    exact k _ _ H G w3 q3 (Stp.drop.trans s3) r3 p3 ⟨List.length_set, fun k hk => List.getElem?_set_ne fun z => hk (by rw [z]; exact List.mem_singleton.mpr rfl)⟩
theorem jgs_nil : JGs X B [] [] gsN := PGs_wk pgs_nil fun vs σ H Q ⟨G, w, δ, ds, Qp, rep, hd, h, k⟩ => by
  obtain ⟨rfl, h⟩ := h
  exact ⟨dqAll_nil hd, k δ σ H G w h .refl rep .refl .refl⟩
theorem jgs_cons {e : Expr} {es : List Expr} {ts us : List Nat} {g : PGx} {gs : PGxs} (h1 : JG X B e ts g) (h2 : JGs X B es us gs)
    (hs : (assignEach (e :: es) X.env).map (·.2) = assign e X.env :: (assignEach es X.env).map (·.2) := by rfl) : JGs X B (e :: es) (ts ++ us) (gsC g gs) := PGs_wk (pgs_cons h1 h2 hs) fun vs σ H Q ⟨G, w, δ, ds, Qp, rep, hd, h, k⟩ => by
  cases hd with
  | nil => exact h.elim
  | cons h1 h2 =>
    exact ⟨_, _, rfl, G, w, δ, _, _, rep, h1, h, fun δ' σ' H' G' w' hq s r p t => ⟨G', w', δ', _, Qp, r, dpAll_mono s.g _ _ h2, hq, fun δ2 σ2 H2 G2 w2 hq2 s2 r2 p2 t2 => k δ2 σ2 H2 G2 w2 hq2 (s.trans s2) r2 (p.trans s.pn p2) (t.trans t2)⟩⟩
theorem jg_tup {es : List Expr} {k : Nat} {ts : List Nat} {g : PGxs} {n : Nat} (hc : X.calm = true) (h : JGs X B es ts g)
    (hn : (assignEach es X.env).length = n := by rfl) (hst : (assignEach es X.env).findIdx? (·.1) = none := by rfl) : JG X B (.Tuple es k pos) ts (gT n g) := PG_wk (pg_tup hc h hn hst) fun v σ H Q ⟨G, w, δ, d, Qp, rep, hd, h, k⟩ => by
  unfold gT at h
  revert h
  split
  · intro h
    cases hd with
    | tup hs ha => exact ⟨_, _, rfl, Same.tp rep.sub _ _ hs, (dqAll_len ha).trans h.1, G, w, δ, _, Qp, rep, ha, h.2, k⟩
  · intro h; exact h.elim
/-- target = data -/
def pAsg (p : PX) (g : PGx) : PSx := fun E δ => p δ fun r δ1 => ∃ d δ2, fz δ1 r = some (d, δ2) ∧ g d δ2 E.nx
theorem js_asg {tg e : Expr} {p : PX} {ts : List Nat} {g : PGx} (he : JE X B e p) (hg : JG X B tg ts g) (hs : swapsWithSole [tg] e pos.line X.env = pure false := by rfl) (hw : swappedStores [tg] e X.env = pure none := by rfl)
    (h1 : (assignEach [tg] X.env).map (·.2) = [assign tg X.env] := by rfl) : JS X B (.Assign [tg] e pos) (pAsg p g) := PS_wk (ps_asg he hg hs hw h1) fun D σ H ⟨G, w, δ, E, rep, h, ek⟩ =>
  ⟨G, w, δ, _, rep, h, fun r δ1 v H1 G1 w1 q1 s1 rep1 => by
    obtain ⟨d, δ2, hz, q1⟩ := q1
    obtain ⟨G2, w2, s2, r2⟩ := rep1.fz1 (j := 0) rfl rfl hz
    have hd : Dq X.K G2 v d := r2.tm 0 v (.im d) rfl rfl
    exact ⟨G2, _, δ2, d, _, r2.drop, hd, q1, fun δ' σ' H' G' w' hq s r p _ => ek.nx δ' σ' H' G' w' hq (((s1.trans s2).trans .drop).trans s) r ((Pin.refl (σ := σ)).trans ((s1.trans s2).trans .drop).pn p)⟩⟩
/-- a, b, .. = x, y, .. by a tuple -/
theorem js_parT {is : List Nat} {xs : List Str} {tgs es : List Expr} {ps : PL} {pt : Pos} {kt k2 pt2} {gs : TGs} (ha : JA X B es ps) (hg : PG X (.Tuple tgs kt pt) (gTup X.K is.length gs)) (hgs : ∀ vs σ H Q, is.length = vs.length → Q ((is.zip vs).foldl (fun σ p => σ.set p.1 (some p.2)) σ) H → gs vs σ H Q) (hl : es.length ≤ sizeLine := by decide)
    (hs : swapsWithSole [.Tuple tgs kt pt] (.Tuple es k2 pt2) pos.line X.env = pure false := by rfl) (hw : swappedStores [.Tuple tgs kt pt] (.Tuple es k2 pt2) X.env = pure none := by rfl) (h1 : (assignEach [.Tuple tgs kt pt] X.env).map (·.2) = [assign (.Tuple tgs kt pt) X.env] := by rfl) :
    JS X B (.Assign [.Tuple tgs kt pt] (.Tuple es k2 pt2) pos) (pPar is ps) := PS_wk (ps_asg (pe_tup ha) hg hs hw h1) fun D σ H ⟨G, w, δ, E, rep, h, ek⟩ =>
  ⟨G, w, δ, _, rep, h, fun rs δ1 vs H1 G1 w1 q1 l1 s1 rep1 => ⟨by rw [rep1.tlen, l1]; exact hl, fun p hp => by
    obtain ⟨qs, δ2, hz, q1⟩ := q1
    obtain ⟨G2, w2, s2, r2⟩ := rep1.rzs hz
    obtain ⟨s3, r3⟩ := r2.lay (o := .tup vs) hp
    obtain ⟨δ4, w4, q4, s4, r4, p4, hl⟩ := Rep.stos is r3 q1 (rzAll_noAt hz)
    refine ⟨p, vs, rfl, SqT.of upd_same, hl.symm, hgs vs σ _ _ hl ?_⟩
    exact ek.nx _ _ _ _ w4 q4 (((s1.trans s2).trans s3).trans s4) r4 ((Pin.refl (σ := σ)).trans ((s1.trans s2).trans s3).pn p4)⟩⟩
end
end Pv
namespace Pv
open PySem PySem.Spec L2 Wf
variable {B : Bas}
/-! ### a list of one's own is changed -/
section
variable {K : PySem.W.Frag} {G H : Hp} {σ : St} {δ : List Sl} {vs : List V} {rs : List R} {w : Addr → Option Nat}
theorem Rep.own (r : Rep K B G H σ δ vs rs w) {i : Nat} {b : Bool} {ds : List PyData} (h : δ[i]? = some (.ow b (.lst ds))) : ∃ a us, σ[i]? = some (some (.ref a)) ∧ w a = some (2 * i) ∧ H a = some (.lst us) ∧ DqAll K G us ds := by
  obtain ⟨v, hv, a, us, rfl, ma, ha, hd⟩ := r.sl i _ h
  exact ⟨a, us, hv, ma, ha, hd⟩
theorem Rep.wr (r : Rep K B G H σ δ vs rs w) {i : Nat} {b : Bool} {ds ds' : List PyData} {a : Addr} {us us' : List V} (h : δ[i]? = some (.ow b (.lst ds))) (hσ : σ[i]? = some (some (.ref a))) (hw : w a = some (2 * i)) (ha : H a = some (.lst us)) (hd : DqAll K G us' ds') :
    Stp B.T G H w δ G (upd H a (.lst us')) w (δ.set i (.ow b (.lst ds'))) ∧ Rep K B G (upd H a (.lst us')) σ (δ.set i (.ow b (.lst ds'))) vs rs w := by
  have hi : i < δ.length := (List.getElem?_eq_some_iff.mp h).1
  have ne : ∀ x n, w x = some n → n ≠ 2 * i → x ≠ a := fun x n hx hn z => by subst z; rw [hw] at hx; cases hx; exact hn rfl
  have g0 := (r.out a _ hw).1
  have st : Stp B.T G H w δ G (upd H a (.lst us')) w (δ.set i (.ow b (.lst ds'))) := by
    refine .of ⟨fun _ _ h => h, fun x o hx ho => ?_, fun x n hx => .inl (by rw [hx]; exact Option.some_ne_none _), fun _ _ h => .inl h, fun k o hk => ?_⟩ (tabs_put ha)
    · rw [upd_ne (fun z => by subst z; rw [hw] at hx; cases hx)]
      exact ho
    · by_cases e : i = k
      · subst e
        rw [h] at hk
        cases hk
        exact ⟨_, List.getElem?_set_self hi⟩
      · exact ⟨o, by rw [List.getElem?_set_ne e]; exact hk⟩
  refine ⟨st, fun x o hx => ?_, fun x n hx => ?_, by rw [List.length_set]; exact r.len, fun k s hk => ?_, r.tlen, fun j v q hv hq => ?_, st.bs r.bs⟩
  · have : x ≠ a := fun z => by subst z; rw [g0] at hx; cases hx
    rw [upd_ne this]
    exact r.sub x o hx
  · obtain ⟨h1, h2, h3⟩ := r.out x n hx
    by_cases e : x = a
    · subst e
      rw [upd_same]
      exact ⟨h1, Option.some_ne_none _, NoX.lst upd_same⟩
    · rw [upd_ne e]
      exact ⟨h1, h2, noT_upd e h3⟩
  · by_cases e : i = k
    · subst e
      rw [List.getElem?_set_self hi] at hk
      cases hk
      exact ⟨_, hσ, a, us', rfl, hw, upd_same, hd⟩
    · rw [List.getElem?_set_ne e] at hk
      refine (r.sl k s hk).mono (fun _ _ h => h) (fun x u mx hu => ?_) fun x u mx _ => mx
      rw [upd_ne (ne x _ mx (by omega))]
      exact hu
  · refine (r.tm j v q hv hq).mono (fun _ _ h => h) (fun x u mx hu => ?_) fun x u mx _ => mx
    rw [upd_ne (ne x _ mx (by omega))]
    exact hu
end
/-- a method of one's own list: its items, the arguments; what is told, the items then -/
def pMt (f : List PyData → List PyData → (PyData → List PyData → Prop) → Prop) (po : PX) (ps : PL) : PX := fun δ Q => po δ fun ro δ1 => ∃ i b0 ds0, ro = .at i ∧ δ1[i]? = some (.ow b0 (.lst ds0)) ∧ ps δ1 fun rs δ2 => ∃ as δ3 b ds, fzAll δ2 rs = some (as, δ3) ∧ δ3[i]? = some (.ow b (.lst ds)) ∧
  f ds as fun d ds' => Q (.im d) (δ3.set i (.ow b (.lst ds')))
def MtV (K : PySem.W.Frag) (f : List PyData → List PyData → (PyData → List PyData → Prop) → Prop) (r : V → List V → Hp → VK → Prop) : Prop :=
  ∀ (G H : Hp) (a : Addr) (us vs : List V) (ds as : List PyData) (Qp : PyData → List PyData → Prop) (Q : VK), H a = some (.lst us) → DqAll K G us ds → DqAll K G vs as → f ds as Qp → (∀ d ds' v us', Qp d ds' → Dq K G v d → DqAll K G us' ds' → Q v (upd H a (.lst us'))) → r (.ref a) vs H Q
section
variable {X : Cx} {o e : Expr} {es : List Expr} {po : PX} {ps : PL} {name : Str} {apos cpos pos : Pos} {id : String} {r : V → List V → Hp → VK → Prop} {f : List PyData → List PyData → (PyData → List PyData → Prop) → Prop}
theorem mt_go {Q : VK} {σ : St} {G H G1 H1 : Hp} {w w1 : Addr → Option Nat} {δ δ1 : List Sl} {Qp : QE} {x : V} {i : Nat} (hm : MtV X.K f r)
    (k : ∀ r δ' v H' G' w', Qp r δ' → Stp B.T G H w δ G' H' w' δ' → Rep X.K B G' H' σ δ' [v] [r] w' → Q v H') (s1 : Stp B.T G H w δ G1 H1 w1 δ1) {vs : List V} {rs : List R} (rep1 : Rep X.K B G1 H1 σ δ1 vs rs w1) (hx : σ[i]? = some (some x))
    {as : List PyData} {δ3 : List Sl} {b : Bool} {ds : List PyData} (e1 : fzAll δ1 rs = some (as, δ3)) (e2 : δ3[i]? = some (.ow b (.lst ds))) (q : f ds as fun d ds' => Qp (.im d) (δ3.set i (.ow b (.lst ds')))) : r x vs H1 Q := by
  obtain ⟨G2, w2, s2, r2⟩ := rep1.fzs e1
  obtain ⟨a, us, hσ, hw, ha, hd⟩ := r2.own e2
  rw [hx] at hσ
  cases hσ
  refine hm G2 H1 a us vs ds as _ Q ha hd r2.ims q fun d ds' v us' hq hv hu => ?_
  obtain ⟨s3, r3⟩ := r2.wr e2 hx hw ha hu
  exact k _ _ v _ G2 _ hq (((s1.trans s2).trans s3).trans .drop) (r3.ret hv)
theorem je_mt (pa : PlainAttrs "list") (slot : Slot "list" name id) (hty : typeOf (.builtin id) = pure (.type "method_descriptor")) (hm : MtR X id r) (hv : MtV X.K f r) (ho : JE X B o po) (ha : JA X B (e :: es) ps)
    (hbase : attributeBase o name X.env (eval o X.env) = eval o X.env := by rfl)
    (hfew : ((backTo cpos (starEach (e :: es) X.env)).all (fun x => !x.1) && (backToKw cpos (keywordEach [] X.env)).all (fun x => x.1.isSome)
      && decide ((e :: es).length + ([] : List Keyword).length + (if ([] : List Keyword).isEmpty then 0 else 1) < 30)) = true := by rfl)
    (hline : (apos.endLine == cpos.line) = true := by rfl) (hs : starEach (e :: es) X.env = (false, eval e X.env) :: starEach es X.env := by rfl) (hplain : (backTo cpos (starEach es X.env)).any (·.1) = false := by rfl) :
    JE X B (.Call (.Attribute o name apos) (e :: es) [] cpos) (pMt f po ps) := by
  refine PE_wk (pe_bm pa slot hty hm ho ha hbase hfew hline hs hplain) fun σ H Q ⟨G, w, δ, Qp, rep, q, k⟩ => ?_
  refine ⟨G, w, δ, _, rep, q, fun ro δ1 x H1 G1 w1 q1 s1 rep1 => ?_⟩
  obtain ⟨i, b0, ds0, rfl, e0, q1⟩ := q1
  have hx : σ[i]? = some (some x) := rep1.tm 0 x (.at i) rfl rfl
  obtain ⟨a0, us0, hσ0, _, ha0, _⟩ := rep1.own e0
  rw [hx] at hσ0
  cases hσ0
  refine ⟨.inl ⟨rfl, us0, SqL.of ha0⟩, G1, _, δ1, _, rep1.drop, q1, fun rs δ2 vs H2 G2 w2 q2 _ s2 rep2 => ?_⟩
  obtain ⟨as, δ3, b, ds, e1, e2, q2⟩ := q2
  exact mt_go hv k ((s1.trans .drop).trans s2) rep2 hx e1 e2 q2
def mAppend : List PyData → List PyData → (PyData → List PyData → Prop) → Prop
  | ds, [d], k => ds.length < sizeLine ∧ k .none (ds ++ [d])
  | _, _, _ => False
theorem mv_append {K : PySem.W.Frag} : MtV K mAppend rAppend := by
  intro G H a us vs ds as Qp Q ha hu hv q k
  match as, hv, q with
  | [d], .cons h1 .nil, q => exact ⟨a, us, _, rfl, rfl, ha, by rw [dqAll_len hu]; exact q.1, k _ _ _ _ q.2 .non (dqAll_append hu (.cons h1 .nil))⟩
  | [], _, q => exact q.elim
  | _ :: _ :: _, _, q => exact q.elim
def mExtend : List PyData → List PyData → (PyData → List PyData → Prop) → Prop
  | ds, [.list es], k => ds.length + es.length ≤ sizeLine ∧ k .none (ds ++ es)
  | _, _, _ => False
/-- xs.extend(ys): ys another list, public or one's own -/
theorem ext_go {K : PySem.W.Frag} {G H : Hp} {a : Addr} {us vs : List V} {ds as : List PyData} {Qp : PyData → List PyData → Prop} {Q : VK} (s : Same G H) (ha : H a = some (.lst us)) (hu : DqAll K G us ds) (hv : DqAll K G vs as) (q : mExtend ds as Qp) (k : ∀ d ds' v us', Qp d ds' → Dq K G v d → DqAll K G us' ds' → Q v (upd H a (.lst us'))) : rExtend (.ref a) vs H Q := by
  unfold mExtend at q
  split at q
  · cases hv with
    | cons h1 hv =>
      cases hv
      cases h1 with
      | lst hs h2 => exact ⟨a, _, us, _, rfl, rfl, ha, s _ _ hs, by rw [dqAll_len hu, dqAll_len h2]; exact q.1, k _ _ _ _ q.2 .non (dqAll_append hu h2)⟩
  · exact q.elim
theorem je_extend (ho : JE X B o po) (ha : JA X B [e] ps) (hbase : attributeBase o "extend" X.env (eval o X.env) = eval o X.env := by rfl)
    (hfew : ((backTo cpos (starEach [e] X.env)).all (fun x => !x.1) && (backToKw cpos (keywordEach [] X.env)).all (fun x => x.1.isSome)
      && decide ([e].length + ([] : List Keyword).length + (if ([] : List Keyword).isEmpty then 0 else 1) < 30)) = true := by rfl)
    (hline : (apos.endLine == cpos.line) = true := by rfl) (hs : starEach [e] X.env = (false, eval e X.env) :: starEach [] X.env := by rfl) (hplain : (backTo cpos (starEach [] X.env)).any (·.1) = false := by rfl) :
    JE X B (.Call (.Attribute o "extend" apos) [e] [] cpos) (pMt mExtend po ps) := by
  refine PE_wk (pe_bm PySem.F.plainAttrs_list PySem.F.slot_list_extend PySem.F.type_list_extend mt_extend ho ha hbase hfew hline hs hplain) fun σ H Q ⟨G, w, δ, Qp, rep, q, k⟩ => ?_
  refine ⟨G, w, δ, _, rep, q, fun ro δ1 x H1 G1 w1 q1 s1 rep1 => ?_⟩
  obtain ⟨i, b0, ds0, rfl, e0, q1⟩ := q1
  have hx : σ[i]? = some (some x) := rep1.tm 0 x (.at i) rfl rfl
  obtain ⟨a0, us0, hσ0, _, ha0, _⟩ := rep1.own e0
  rw [hx] at hσ0
  cases hσ0
  refine ⟨.inl ⟨rfl, us0, SqL.of ha0⟩, G1, _, δ1, _, rep1.drop, q1, fun rs δ2 vs H2 G2 w2 q2 _ s2 rep2 => ?_⟩
  obtain ⟨as, δ3, b, ds, e1, e2, q2⟩ := q2
  obtain ⟨G3, w3, s3, r3⟩ := rep2.fzs e1
  obtain ⟨a, us, hσ, hw, ha, hd⟩ := r3.own e2
  rw [hx] at hσ
  cases hσ
  refine ext_go r3.sub ha hd r3.ims q2 fun d ds' v us' hq hv hu => ?_
  obtain ⟨s4, r4⟩ := r3.wr e2 hx hw ha hu
  exact k _ _ v _ G3 _ hq (((((s1.trans .drop).trans s2).trans s3).trans s4).trans .drop) (r4.ret hv)
/-! ### x[i] = .. -/
def gSx (po pi : PX) : PGx := fun d δ Q => po δ fun ro δ1 => pi δ1 fun ri δ2 => ∃ i n b ds j, ro = .at i ∧ dat δ2 ri = some (.int n) ∧ δ2[i]? = some (.ow b (.lst ds)) ∧ ixN ds.length n = some j ∧ Q (δ2.set i (.ow b (.lst (ds.set j d))))
theorem dqAll_set {K : PySem.W.Frag} {G : Hp} {v : V} {d : PyData} (h : Dq K G v d) : ∀ (n : Nat) {us : List V} {ds : List PyData}, DqAll K G us ds → DqAll K G (us.set n v) (ds.set n d)
  | _, _, _, .nil => .nil
  | 0, _, _, .cons _ h2 => .cons h h2
  | n + 1, _, _, .cons h1 h2 => .cons h1 (dqAll_set h n h2)
theorem jg_sub {i : Expr} {pi : PX} (ho : JE X B o po) (hi : JE X B i pi)
    (ha : ∀ v, assign (.Subscript o i pos) X.env v = (do
      let ov ← holding [v] (eval o X.env)
      let iv ← holding [v, ov] (eval i X.env)
      standAt pos
      holding [v, ov, iv] (setItem ov iv v)
      release [v, ov, iv] []) := by intro _; rfl) : JG X B (.Subscript o i pos) [] (gSx po pi) := by
  refine PG_wk (pg_sub ho hi set_list ha) fun v σ H Q ⟨G, w, δ, d, Qp, rep, hd, h, k⟩ => ?_
  refine ⟨G, w, δ, _, rep, h, fun ro δ1 x H1 G1 w1 q1 s1 rep1 => ?_⟩
  refine ⟨G1, _, δ1, _, rep1.drop, q1, fun ri δ2 y H2 G2 w2 q2 s2 rep2 => ?_⟩
  obtain ⟨i, n, b, ds, j, rfl, hn, e2, hj, q2⟩ := q2
  have hx : σ[i]? = some (some x) := rep1.tm 0 x (.at i) rfl rfl
  obtain ⟨a, us, hσ, hw, ha, hds⟩ := rep2.own e2
  rw [hx] at hσ
  cases hσ
  have hv := dp_mono (s1.g) _ _ hd
  have hv2 := dp_mono s2.g _ _ hv
  refine ⟨a, us, n, j, rfl, dp_int (rep2.dpH (j := 0) rfl rfl hn), ha, by rw [dqAll_len hds]; exact hj, ?_⟩
  obtain ⟨s4, r4⟩ := rep2.wr e2 hx hw ha (dqAll_set hv2 j hds)
  exact k _ σ _ G2 _ q2 ((((s1.trans .drop).trans s2).trans s4).trans .drop) r4.drop .refl .refl
end
/-! ### what is walked -/
structure ItD (K : PySem.W.Frag) (G : Hp) (J : It) (ds : List PyData) : Prop where
  go : ∀ G' H' (i : Nat), Same G G' → Same G' H' → i < ds.length → J.go i H'
  yld : ∀ G' H' (i : Nat) x H2, Same G G' → Same G' H' → i < ds.length → J.yld i H' x H2 → ∃ d, ds[i]? = some d ∧ Res K G' H' x H2 d
  stop : ∀ G' H', Same G G' → Same G' H' → J.stop ds.length H'
abbrev PIx := List Sl → (List PyData → List Sl → Prop) → Prop
def LI (K : PySem.W.Frag) (B : Bas) (p : PIx) : TI := fun σ H R => ∃ G w δ Qp, Rep K B G H σ δ [] [] w ∧ p δ Qp ∧ ∀ ds δ' J H' G' w', Qp ds δ' → Stp B.T G H w δ G' H' w' δ' → Rep K B G' H' σ δ' [] [] w' → ItD K G' J ds → R J H'
def JI (X : Cx) (B : Bas) (tg iter : Expr) (p : PIx) : Prop := PI X tg iter (LI X.K B p)
theorem PI_wk {X : Cx} {tg iter : Expr} {t t' : TI} (h : PI X tg iter t) (k : ∀ σ H R, t' σ H R → t σ H R) : PI X tg iter t' := ⟨fun pins s σ H R I q => h.run pins s σ H R I (k σ H R q)⟩
theorem itd_list {K : PySem.W.Frag} {G : Hp} {a : Addr} {us : List V} {ds : List PyData} (ha : G a = some (.lst us)) (hd : DqAll K G us ds) : ItD K G (Itl K a) ds where
  go := fun G' H' i sg sh hi => by
    have hl := dqAll_len hd
    exact ⟨us, us[i]'(by omega), SqL.of (sh _ _ (sg _ _ ha)), by simp⟩
  yld := fun G' H' i x H2 sg sh hi y => by
    obtain ⟨rfl, y⟩ := y
    obtain ⟨v, hv, hq⟩ := dqAll_get hd (List.getElem?_eq_getElem hi)
    have e := y us (SqL.of (sh _ _ (sg _ _ ha)))
    rw [hv] at e
    cases e
    exact ⟨_, List.getElem?_eq_getElem hi, .old (dp_mono sg _ _ hq)⟩
  stop := fun G' H' sg sh => ⟨us, SqL.of (sh _ _ (sg _ _ ha)), by rw [dqAll_len hd]; exact Nat.le_refl _⟩
theorem itd_tup {K : PySem.W.Frag} {G : Hp} {a : Addr} {us : List V} {ds : List PyData} (ha : SqT K G a us) (hd : DqAll K G us ds) : ItD K G (Itt K a) ds where
  go := fun G' H' i sg sh hi => by
    have hl := dqAll_len hd
    exact ⟨us, us[i]'(by omega), Same.tp sh _ _ (Same.tp sg _ _ ha), by simp⟩
  yld := fun G' H' i x H2 sg sh hi y => by
    obtain ⟨rfl, y⟩ := y
    obtain ⟨v, hv, hq⟩ := dqAll_get hd (List.getElem?_eq_getElem hi)
    have e := y us (Same.tp sh _ _ (Same.tp sg _ _ ha))
    rw [hv] at e
    cases e
    exact ⟨_, List.getElem?_eq_getElem hi, .old (dp_mono sg _ _ hq)⟩
  stop := fun G' H' sg sh => ⟨us, Same.tp sh _ _ (Same.tp sg _ _ ha), by rw [dqAll_len hd]; exact Nat.le_refl _⟩
theorem itd_rng {K : PySem.W.Frag} {G : Hp} {a b : Int} : ItD K G (Itr a (b - a).toNat) (rgD a b) where
  go := fun G' H' i _ _ hi => by
    unfold rgD at hi
    rw [List.length_map, List.length_range] at hi
    exact hi
  yld := fun G' H' i x H2 _ _ hi y => by
    obtain ⟨rfl, rfl⟩ := y
    unfold rgD at hi ⊢
    rw [List.length_map, List.length_range] at hi
    exact ⟨.int (a + (i : Nat)), by rw [List.getElem?_map, List.getElem?_range hi]; rfl, .int⟩
  stop := fun G' H' _ _ => by
    unfold rgD
    rw [List.length_map, List.length_range]
    exact Nat.le_refl _
section
variable {X : Cx} {tg l a b : Expr} {pl pa pb : PX} {p pos : Pos}
/-- a list or a tuple -/
def iSeqU (K : PySem.W.Frag) (tl : TE) : TI := fun σ H R => tl σ H fun x H1 => ∃ a, x = .ref a ∧ (((∃ xs, SqL K H1 a xs) ∧ R (Itl K a) H1) ∨ ((∃ xs, SqT K H1 a xs) ∧ R (Itt K a) H1))
theorem pi_seqU {tl : TE} (hl : PE X l tl) : PI X tg l (iSeqU X.K tl) := by
  refine ⟨fun pins s σ H R I h => ?_⟩
  refine thn (hl.run pins s σ H _ I h) fun v s1 ⟨x, H1, I1, r1, q1⟩ => ?_
  obtain ⟨a, e, ⟨⟨xs, hq⟩, q⟩ | ⟨⟨xs, hq⟩, q⟩⟩ := q1
  · subst e
    cases r1
    obtain ⟨its, rv, p, hz⟩ := I1.list hq
    refine wpAny_pyIter_list p.isList ?_
    refine ⟨s1.heap.objs.size, [s1.heap.objs.size], _, _, H1, rfl, I1.kept (t' := s1.toks) fun b o e => Heap.get?_push_of_some _ e, turn_list a _, ⟨_, Heap.get?_push_size _ rfl, rfl, rfl⟩, fun b hb => ?_, q⟩
    have e : b = s1.heap.objs.size := by simpa using hb
    subst e
    exact I1.fpOk (Nat.le_refl _) (I1.hok.fresh (Nat.le_refl _))
  · subst e
    cases r1
    obtain ⟨its, rv, p, hz⟩ := I1.tuple hq
    refine wpAny_pyIter_tuple (show s1.heap.IsTuple a its.toArray from p) ?_
    refine ⟨s1.heap.objs.size, [s1.heap.objs.size], _, _, H1, rfl, I1.kept (t' := s1.toks) fun b o e => Heap.get?_push_of_some _ e, turn_tuple a _, ⟨_, Heap.get?_push_size _ rfl, rfl, rfl⟩, fun b hb => ?_, q⟩
    have e : b = s1.heap.objs.size := by simpa using hb
    subst e
    exact I1.fpOk (Nat.le_refl _) (I1.hok.fresh (Nat.le_refl _))
def seqD : PyData → Option (List PyData)
  | .list ds => some ds
  | .tuple ds => some ds
  | _ => none
def iSeq (p : PX) : PIx := fun δ Q => p δ fun r δ1 => ∃ d δ2 ds, fz δ1 r = some (d, δ2) ∧ seqD d = some ds ∧ Q ds δ2
theorem ji_seq (hl : JE X B l pl) : JI X B tg l (iSeq pl) := PI_wk (pi_seqU hl) fun σ H R ⟨G, w, δ, Qp, rep, q, k⟩ =>
  ⟨G, w, δ, _, rep, q, fun r δ1 v H1 G1 w1 q1 s1 rep1 => by
    obtain ⟨d, δ2, ds, hz, hs, q1⟩ := q1
    obtain ⟨G2, w2, s2, r2⟩ := rep1.fz1 (j := 0) rfl rfl hz
    have hd : Dq X.K G2 v d := r2.tm 0 v (.im d) rfl rfl
    cases d with
    | list es =>
      cases hs
      cases hd with
      | lst ha hds => exact ⟨_, rfl, .inl ⟨⟨_, SqL.of (r2.sub _ _ ha)⟩, k ds δ2 _ H1 G2 _ q1 ((s1.trans s2).trans .drop) r2.drop (itd_list ha hds)⟩⟩
    | tuple es =>
      cases hs
      cases hd with
      | tup ha hds => exact ⟨_, rfl, .inr ⟨⟨_, Same.tp r2.sub _ _ ha⟩, k ds δ2 _ H1 G2 _ q1 ((s1.trans s2).trans .drop) r2.drop (itd_tup ha hds)⟩⟩
    | none => cases hs
    | bool _ => cases hs
    | int _ => cases hs
    | str _ => cases hs
    | dict _ => cases hs⟩
def iRg (ps : PL) : PIx := fun δ Q => ps δ fun rs δ1 => match dats δ1 rs with
  | some [.int n] => -(2 ^ 62) ≤ n ∧ n < 2 ^ 62 ∧ Q (rgD 0 n) δ1
  | some [.int i, .int j] => (-(2 ^ 62) ≤ i ∧ i < 2 ^ 62 ∧ -(2 ^ 62) ≤ j ∧ j < 2 ^ 62) ∧ Q (rgD i j) δ1
  | _ => False
theorem vws1 {K : PySem.W.Frag} {G H : Hp} {vs : List V} {i : Int} (h : Vws K G H vs [.int i]) : vs = [.int i] := by
  cases h with
  | cons h1 h => cases h; rw [h1.int]
theorem vws2 {K : PySem.W.Frag} {G H : Hp} {vs : List V} {i j : Int} (h : Vws K G H vs [.int i, .int j]) : vs = [.int i, .int j] := by
  cases h with
  | cons h1 h =>
    cases h with
    | cons h2 h => cases h; rw [h1.int, h2.int]
theorem vws_len {K : PySem.W.Frag} {G H : Hp} : ∀ {vs : List V} {ds : List PyData}, Vws K G H vs ds → vs.length = ds.length
  | _, _, .nil => rfl
  | _, _, .cons _ h => congrArg (· + 1) (vws_len h)
theorem ji_rng1 {ps : PL} (hg : Gl X "range") (hm : X.mg "range" = none) (ha : JA X B [a] ps) (hs : starEach [a] X.env = [(false, eval a X.env)] := by rfl) : JI X B tg (.Call (.Name "range" p) [a] [] pos) (iRg ps) := by
  refine PI_wk (pi_range1 hg hm ha hs) fun σ H R ⟨G, w, δ, Qp, rep, q, k⟩ => ?_
  refine ⟨G, w, δ, _, rep, q, fun rs δ1 vs H1 G1 w1 q1 l1 s1 rep1 => ?_⟩
  revert q1
  split
  · rename_i n e
    rintro ⟨b1, b2, q1⟩
    refine ⟨n, vws1 (rep1.vws e), b1, b2, k _ δ1 _ H1 G1 _ q1 (s1.trans .drop) rep1.drop ?_⟩
    have := itd_rng (K := X.K) (G := G1) (a := 0) (b := n)
    rwa [Int.sub_zero] at this
  · rename_i i j e
    intro q1
    have := vws_len (rep1.vws e)
    rw [rep1.tlen, l1] at this
    simp at this
  · intro q1; exact q1.elim
/-! ### for, while -/
/-- the slots ts are forgotten -/
def wp1 : Bool → Sl → Sl
  | true, .ow true o => .ow true o
  | true, _ => .un
  | false, s => s
def wpG (ts : List Nat) : Nat → List Sl → List Sl
  | _, [] => []
  | n, s :: δ => wp1 (ts.elem n) s :: wpG ts (n + 1) δ
def wipeT (δ : List Sl) (ts : List Nat) : List Sl := wpG ts 0 δ
theorem wpG_get (ts : List Nat) : ∀ (δ : List Sl) (n i : Nat), (wpG ts n δ)[i]? = (δ[i]?).map fun s => wp1 (ts.elem (n + i)) s
  | [], n, i => by simp [wpG]
  | s :: δ, n, 0 => by simp [wpG]
  | s :: δ, n, i + 1 => by
    simp only [wpG, List.getElem?_cons_succ, wpG_get ts δ (n + 1) i]
    have : n + 1 + i = n + (i + 1) := by omega
    rw [this]
theorem wpG_len (ts : List Nat) : ∀ (δ : List Sl) (n : Nat), (wpG ts n δ).length = δ.length
  | [], _ => rfl
  | s :: δ, n => by simp only [wpG, List.length_cons, wpG_len ts δ (n + 1)]
theorem wipeT_len (δ : List Sl) (ts : List Nat) : (wipeT δ ts).length = δ.length := wpG_len ts δ 0
theorem wipeT_get {δ : List Sl} {i : Nat} {s : Sl} {ts : List Nat} (h : (wipeT δ ts)[i]? = some s) : s = .un ∨ δ[i]? = some s := by
  unfold wipeT at h
  rw [wpG_get] at h
  obtain ⟨s', h1, rfl⟩ := Option.map_eq_some_iff.mp h
  cases hb : ts.elem (0 + i) with
  | false => exact .inr h1
  | true =>
    cases s' with
    | un => exact .inl rfl
    | im d => exact .inl rfl
    | ex a dd C fs => exact .inl rfl
    | ow b o =>
      cases b with
      | true => exact .inr h1
      | false => exact .inl rfl
theorem wipeT_pin {δ : List Sl} {i : Nat} {o : O} (h : δ[i]? = some (Sl.ow true o)) (ts : List Nat) : (wipeT δ ts)[i]? = some (Sl.ow true o) := by
  unfold wipeT
  rw [wpG_get, h]
  cases hb : ts.elem (0 + i) with
  | false => rfl
  | true => rfl
theorem Rep.wipe {K : PySem.W.Frag} {G H : Hp} {σ : St} {δ : List Sl} {w : Addr → Option Nat} (r : Rep K B G H σ δ [] [] w) (ts : List Nat) : Rep K B G H σ (wipeT δ ts) [] [] w := ⟨r.sub, r.out, by rw [wipeT_len]; exact r.len, fun i s h => by
  rcases wipeT_get h with rfl | h
  · trivial
  · exact r.sl i s h, rfl, fun j v q hv => by simp at hv, r.bs⟩
theorem Stp.wipe {G H G' H' : Hp} {w w' : Addr → Option Nat} {δ δ' : List Sl} (s : Stp B.T G H w δ G' H' w' δ') (ts : List Nat) : Stp B.T G H w δ G' H' w' (wipeT δ' ts) := ⟨s.g, s.b, s.n, s.p, fun i o h => by
  obtain ⟨o', h'⟩ := s.pn i o h
  exact ⟨o', wipeT_pin h' ts⟩, s.t, s.q⟩
/-- turn by turn, by a word I; ts: the slots that no later turn reads -/
def loopI (step : PyData → PSx) (ts : List Nat) (E : PEn) (ds : List PyData) (δ : List Sl) : Prop := ∃ I : Nat → List Sl → Prop, I 0 δ ∧
  (∀ (i : Nat) d δ, ds[i]? = some d → I i δ → step d ⟨fun δ' => I (i + 1) (wipeT δ' ts), E.rt, fun δ' => E.nx (wipeT δ' ts), fun δ' => I (i + 1) (wipeT δ' ts)⟩ δ) ∧ ∀ δ, I ds.length δ → E.nx δ
def pFor (ts : List Nat) (it : PIx) (g : PGx) (body : PSx) : PSx := fun E δ => it δ fun ds δ1 => loopI (fun d E δ => g d δ fun δ' => body E δ') ts E ds (wipeT δ1 ts)
theorem Rep.res {K : PySem.W.Frag} {G H H2 : Hp} {σ : St} {δ : List Sl} {vs : List V} {rs : List R} {w : Addr → Option Nat} {x : V} {d : PyData} (r : Rep K B G H σ δ vs rs w) (h : Res K G H x H2 d) : ∃ G2, Stp B.T G H w δ G2 H2 w δ ∧ Rep K B G2 H2 σ δ vs rs w ∧ Dq K G2 x d := by
  rcases h with ⟨rfl, h⟩ | ⟨p, us, l, rfl, hp, rfl, hd, rfl⟩
  · exact ⟨G, .refl, r, h⟩
  · obtain ⟨s1, r1⟩ := r.lay (o := .tup us) hp
    exact ⟨_, s1, r1, dq_newTup r.sub hp hd⟩
theorem js_for {iter : Expr} {body : List Stmt} {pi : PIx} {ts ts' : List Nat} {g : PGx} {pb : PSx} (hp : PassesOwn (model X.prog X.w) X.A X.env X.xe) (hc : X.calm = true) (hi : JI X B tg iter pi) (hg : JG X B tg ts' g) (hb : JSs X B body pb)
    (hs : ∀ x, foldedSetIterable iter X.env x = pure x := by intro _; rfl) : JS X B (.For tg iter body [] pos) (pFor ts pi g pb) := by
  refine PS_wk (ps_for hp hc hi hg hb (by assumption)) fun D σ H ⟨G, w, δ, E, rep, h, ek⟩ => ?_
  refine ⟨G, w, δ, _, rep, h, fun ds δ1 J H1 G1 w1 q1 s1 rep1 itd => ?_⟩
  obtain ⟨I, i0, is, ie⟩ := q1
  refine ⟨fun i m σ' H' => m = ds.length - i ∧ i ≤ ds.length ∧ ∃ G' w' δ', Stp B.T G H w δ G' H' w' δ' ∧ Same G1 G' ∧ Rep X.K B G' H' σ' δ' [] [] w' ∧ Pin σ δ σ' ∧ I i δ', ⟨ds.length, rfl, Nat.zero_le _, G1, w1, _, s1.wipe ts, fun _ _ h => h, rep1.wipe ts, .refl, i0⟩, ?_⟩
  rintro i m σ' H' ⟨rfl, hi, G', w', δ', st, sg, rp, pn, q⟩
  by_cases hlt : i < ds.length
  · have q := is i _ δ' (List.getElem?_eq_getElem hlt) q
    refine .inr ⟨itd.go G' H' i sg rp.sub hlt, fun σ2 H2 => i + 1 ≤ ds.length ∧ ∃ G' w' δ', Stp B.T G H w δ G' H2 w' δ' ∧ Same G1 G' ∧ Rep X.K B G' H2 σ2 δ' [] [] w' ∧ Pin σ δ σ2 ∧ I (i + 1) δ', fun σ2 H2 z => ⟨ds.length - (i + 1), by omega, rfl, z⟩, fun x H2 y => ?_⟩
    obtain ⟨d, hd, res⟩ := itd.yld G' H' i x H2 sg rp.sub hlt y
    rw [List.getElem?_eq_getElem hlt] at hd
    cases hd
    obtain ⟨G2, s2, r2, hq⟩ := rp.res res
    refine ⟨G2, w', δ', _, _, r2, hq, q, fun δ3 σ3 H3 G3 w3 q3 s3 r3 p3 _ => ⟨G3, w3, δ3, _, r3, q3, ?_⟩⟩
    have st3 := (st.trans s2).trans s3
    have pn3 : Pin σ δ σ3 := pn.trans (st.trans s2).pn p3
    have nx : ∀ δ4 σ4 H4 G4 w4, I (i + 1) (wipeT δ4 ts) → Stp B.T G3 H3 w3 δ3 G4 H4 w4 δ4 → Rep X.K B G4 H4 σ4 δ4 [] [] w4 → Pin σ3 δ3 σ4 → i + 1 ≤ ds.length ∧ ∃ G' w' δ', Stp B.T G H w δ G' H4 w' δ' ∧ Same G1 G' ∧ Rep X.K B G' H4 σ4 δ' [] [] w' ∧ Pin σ δ σ4 ∧ I (i + 1) δ' :=
      fun δ4 σ4 H4 G4 w4 hl s4 r4 p4 => ⟨hlt, G4, w4, _, (st3.trans s4).wipe ts, fun a o ha => s4.g a o (s3.g a o (s2.g a o (sg a o ha))), r4.wipe ts, pn3.trans st3.pn p4, hl⟩
    exact ⟨nx, (ek.later st3 pn3).rt, fun δ4 σ4 H4 G4 w4 hl s4 r4 p4 => ek.nx _ σ4 H4 G4 w4 hl ((st3.trans s4).wipe ts) (r4.wipe ts) (pn3.trans st3.pn p4), nx⟩
  · have ei : i = ds.length := by omega
    subst ei
    exact .inl ⟨itd.stop G' H' sg rp.sub, ek.nx δ' σ' H' G' w' (ie δ' q) st rp pn⟩
end
end Pv
namespace Pv
open PySem PySem.Spec L2 Wf
variable {B : Bas}
theorem RR.noAt {K : PySem.W.Frag} {G H : Hp} {σ σ' : St} {m : Addr → Prop} {v : V} {r : R} (h : RR K G H σ m v r) (n : isAt r = false) : RR K G H σ' m v r := by
  cases r with
  | im d => exact h
  | ow o => exact h
  | «at» i => cases n
theorem Rep.reσ {K : PySem.W.Frag} {G H : Hp} {σ σ' : St} {δ δ' : List Sl} {vs : List V} {rs : List R} {w : Addr → Option Nat} (r : Rep K B G H σ δ vs rs w) (hl : σ'.length = δ'.length) (hs : ∀ (i : Nat) s, δ'[i]? = some s → s = .un ∨ (δ[i]? = some s ∧ σ'[i]? = σ[i]?)) (hn : ∀ q ∈ rs, isAt q = false) : Rep K B G H σ' δ' vs rs w where
  sub := r.sub
  out := r.out
  len := hl
  sl := fun i s h => by
    rcases hs i s h with rfl | ⟨h1, h2⟩
    · trivial
    · rw [h2]; exact r.sl i s h1
  tlen := r.tlen
  tm := fun j v q hv hq => (r.tm j v q hv hq).noAt (hn q (List.mem_of_getElem? hq))
  bs := r.bs
/-- the frame where slots were stored to -/
theorem Rep.frameS {K : PySem.W.Frag} {G H G' H' : Hp} {σ σ' : St} {δ δ' : List Sl} {vs vs1 : List V} {rs rs1 : List R} {w w' : Addr → Option Nat} (r : Rep K B G H σ δ vs rs w) (hn : ∀ q ∈ rs, isAt q = false) (s : Stp B.T G H (fun a => evn (w a)) δ G' H' w' δ') (r' : Rep K B G' H' σ' δ' vs1 rs1 w') :
    ∃ w2, Stp B.T G H w δ G' H' w2 δ' ∧ Rep K B G' H' σ' δ' (vs ++ vs1) (rs ++ rs1) w2 := by
  -- the same addresses
  have odd : ∀ a n, w a = some n → n % 2 = 1 → w' a = none := fun a n h ho => by
    have e0 : evn (w a) = none := by
      cases e : evn (w a) with
      | none => rfl
      | some m =>
        have := evn_some.mp e
        rw [h] at this
        have z := this.1
        cases z
        omega
    obtain ⟨g0, h0, n0⟩ := r.out a n h
    cases e : w' a with
    | none => rfl
    | some i =>
      rcases s.n a i e with z | z
      · exact absurd e0 z
      · exact absurd z h0
  have evw : ∀ a i, w' a = some i → ∀ n, w a = some n → n % 2 = 0 := fun a i h n hn => by
    by_cases ho : n % 2 = 1
    · rw [odd a n hn ho] at h; cases h
    · omega
  have st : Stp B.T G H w δ G' H' (both rs.length w w') δ' := by
    refine ⟨s.g, fun a o hw ha => s.b a o (by show evn (w a) = none; rw [hw]; rfl) ha, fun a i h => ?_, fun a o h => ?_, s.pn, s.t, s.q⟩
    · cases e : w a with
      | some n => exact .inl (Option.some_ne_none _)
      | none =>
        have e1 : both rs.length w w' a = shf rs.length (w' a) := both_evn fun n hn => by rw [e] at hn; cases hn
        rw [e1] at h
        obtain ⟨m, hm, _⟩ := shf_some h
        rcases s.n a m hm with z | z
        · have z' := evn_ne z
          rw [e] at z'
          exact .inl z'
        · exact .inr z
    · rcases s.p a o h with z | z | z | z
      · exact .inl z
      · exact .inr (.inl z)
      · exact .inr (.inr (.inl (evn_ne z)))
      · exact .inr (.inr (.inr z))
  refine ⟨both rs.length w w', st, r'.sub, fun a i h => ?_, r'.len, fun i sl h => ?_, by rw [List.length_append, List.length_append, r.tlen, r'.tlen], fun j v q hv hr => ?_, st.bs r.bs⟩
  · by_cases ho : ∃ n, w a = some n ∧ n % 2 = 1
    · obtain ⟨n, hn', ho⟩ := ho
      have e0 : evn (w a) = none := by
        rw [hn']
        unfold evn
        dsimp only
        rw [if_neg (by omega)]
      obtain ⟨g0, h0, n0⟩ := r.out a n hn'
      refine ⟨?_, s.nn a e0 h0 n0⟩
      cases e3 : G' a with
      | none => rfl
      | some o =>
        rcases s.p a o e3 with z | z | z | ⟨xs, z⟩
        · rw [g0] at z; cases z
        · exact absurd z h0
        · exact absurd e0 z
        · exact absurd z (n0 xs)
    · have e1 : both rs.length w w' a = shf rs.length (w' a) := both_evn fun n hn => by
        by_cases z : n % 2 = 1
        · exact absurd ⟨n, hn, z⟩ ho
        · omega
      rw [e1] at h
      obtain ⟨m, hm, _⟩ := shf_some h
      exact r'.out a m hm
  · refine (r'.sl i sl h).mono (fun _ _ h => h) (fun _ _ _ h => h) fun a u ma _ => ?_
    rw [both_evn (evw a _ ma)]
    unfold shf
    rw [ma]
    dsimp only
    rw [if_pos (by omega)]
  · by_cases hj : j < vs.length
    · rw [List.getElem?_append_left hj] at hv
      rw [List.getElem?_append_left (by rw [← r.tlen]; exact hj)] at hr
      refine ((r.tm j v q hv hr).noAt (σ' := σ') (hn q (List.mem_of_getElem? hr))).monoN s.g (fun a u hnt ma hu => ?_) fun a u ma _ => both_odd ma (by omega)
      refine s.bN a u hnt ?_ hu
      show evn (w a) = none
      rw [ma]
      unfold evn
      dsimp only
      rw [if_neg (by omega)]
    · have hj : vs.length ≤ j := by omega
      rw [List.getElem?_append_right hj] at hv
      rw [List.getElem?_append_right (by rw [← r.tlen]; exact hj), ← r.tlen] at hr
      refine (r'.tm (j - vs.length) v q hv hr).mono (fun _ _ h => h) (fun _ _ _ h => h) fun a u ma _ => ?_
      rw [both_evn (evw a _ ma)]
      unfold shf
      rw [ma]
      dsimp only
      rw [if_neg (by omega), r.tlen.symm]
      congr 1
      omega
/-! ### comprehensions -/
def wipeS (δ : List Sl) : List Nat → List Sl
  | [] => δ
  | v :: vs => (wipeS δ vs).set v .un
def noPin (δ : List Sl) (vs : List Nat) : Prop := ∀ v ∈ vs, ∀ o, δ[v]? ≠ some (.ow true o)
def restS (δ0 δ : List Sl) : List Nat → List Sl
  | [] => δ
  | v :: vs => match δ0[v]? with
    | some (.im d) => (restS δ0 δ vs).set v (.im d)
    | _ => (restS δ0 δ vs).set v .un
theorem wipeS_len (δ : List Sl) : ∀ vs, (wipeS δ vs).length = δ.length
  | [] => rfl
  | v :: vs => by unfold wipeS; rw [List.length_set, wipeS_len δ vs]
theorem wipeS_get {δ : List Sl} {i : Nat} {s : Sl} : ∀ {vs : List Nat}, (wipeS δ vs)[i]? = some s → s = .un ∨ (δ[i]? = some s ∧ i ∉ vs)
  | [], h => .inr ⟨h, by simp⟩
  | v :: vs, h => by
    unfold wipeS at h
    by_cases hi : v = i
    · subst hi
      by_cases hv : v < (wipeS δ vs).length
      · rw [List.getElem?_set_self hv] at h; cases h; exact .inl rfl
      · rw [List.getElem?_eq_none (by simpa using hv)] at h; cases h
    · rw [List.getElem?_set_ne hi] at h
      rcases wipeS_get h with e | ⟨h1, h2⟩
      · exact .inl e
      · exact .inr ⟨h1, by simp only [List.mem_cons, not_or]; exact ⟨fun e => hi e.symm, h2⟩⟩
theorem wipeS_ne {δ : List Sl} {i : Nat} : ∀ {vs : List Nat}, i ∉ vs → (wipeS δ vs)[i]? = δ[i]?
  | [], _ => rfl
  | v :: vs, h => by
    simp only [List.mem_cons, not_or] at h
    unfold wipeS
    rw [List.getElem?_set_ne (Ne.symm h.1)]
    exact wipeS_ne h.2
theorem wipe_ne {σ : St} {i : Nat} : ∀ {vs : List Nat}, i ∉ vs → (wipe σ vs)[i]? = σ[i]?
  | [], _ => rfl
  | v :: vs, h => by
    simp only [List.mem_cons, not_or] at h
    unfold wipe
    rw [List.getElem?_set_ne (Ne.symm h.1)]
    exact wipe_ne h.2
theorem wipe_in {σ : St} {i : Nat} : ∀ {vs : List Nat}, i ∈ vs → i < σ.length → (wipe σ vs)[i]? = some none
  | [], h, _ => by cases h
  | v :: vs, h, hl => by
    unfold wipe
    by_cases e : v = i
    · subst e
      rw [List.getElem?_set_self (by rw [wipe_length]; exact hl)]
    · rw [List.getElem?_set_ne e]
      rcases List.mem_cons.mp h with z | z
      · exact absurd z.symm e
      · exact wipe_in z hl
theorem wipe_eq {σ σ' : St} {vs ts : List Nat} (t : Tch ts (wipe σ vs) σ') (h : ∀ i ∈ ts, i ∈ vs) : wipe σ' vs = wipe σ vs := by
  have hl : σ'.length = σ.length := by rw [t.1, wipe_length]
  apply List.ext_getElem?
  intro i
  by_cases hi : i ∈ vs
  · by_cases hb : i < σ.length
    · rw [wipe_in hi hb, wipe_in hi (by omega)]
    · rw [List.getElem?_eq_none (by rw [wipe_length]; omega), List.getElem?_eq_none (by rw [wipe_length]; omega)]
  · rw [wipe_ne hi, wipe_ne hi, t.2 i fun z => hi (h i z), wipe_ne hi]
theorem restS_ne {δ0 δ : List Sl} {i : Nat} : ∀ {vs : List Nat}, i ∉ vs → (restS δ0 δ vs)[i]? = δ[i]?
  | [], _ => rfl
  | v :: vs, h => by
    simp only [List.mem_cons, not_or] at h
    unfold restS
    split
    · rw [List.getElem?_set_ne (Ne.symm h.1)]; exact restS_ne h.2
    · rw [List.getElem?_set_ne (Ne.symm h.1)]; exact restS_ne h.2
theorem restS_len {δ0 δ : List Sl} : ∀ vs, (restS δ0 δ vs).length = δ.length
  | [] => rfl
  | v :: vs => by
    unfold restS
    split
    · rw [List.length_set, restS_len vs]
    · rw [List.length_set, restS_len vs]
theorem restS_in {δ0 δ : List Sl} {i : Nat} {s : Sl} : ∀ {vs : List Nat}, i ∈ vs → (restS δ0 δ vs)[i]? = some s → s = .un ∨ ∃ d, s = .im d ∧ δ0[i]? = some (.im d)
  | [], h, _ => by cases h
  | v :: vs, h, hs => by
    unfold restS at hs
    by_cases e : v = i
    · subst e
      revert hs
      split
      · rename_i d e0
        intro hs
        by_cases hb : v < (restS δ0 δ vs).length
        · rw [List.getElem?_set_self hb] at hs; cases hs; exact .inr ⟨d, rfl, e0⟩
        · rw [List.getElem?_eq_none (by simpa using hb)] at hs; cases hs
      · intro hs
        by_cases hb : v < (restS δ0 δ vs).length
        · rw [List.getElem?_set_self hb] at hs; cases hs; exact .inl rfl
        · rw [List.getElem?_eq_none (by simpa using hb)] at hs; cases hs
    · have hm : i ∈ vs := by
        rcases List.mem_cons.mp h with z | z
        · exact absurd z.symm e
        · exact z
      revert hs
      split
      · intro hs; rw [List.getElem?_set_ne e] at hs; exact restS_in hm hs
      · intro hs; rw [List.getElem?_set_ne e] at hs; exact restS_in hm hs
/-- turn by turn, by a word I over what is made so far -/
def compI (g : PGx) (tt : PB) (elt : PX) (vs : List Nat) (Kk : List PyData → List Sl → Prop) (ds : List PyData) (δ : List Sl) : Prop := ∃ I : Nat → List PyData → List Sl → Prop, I 0 [] δ ∧
  (∀ (i : Nat) d acc δ, ds[i]? = some d → I i acc δ → g d δ fun δ2 => tt δ2 fun b δ3 => if b = true then elt δ3 fun r δ4 => ∃ e δ5, fz δ4 r = some (e, δ5) ∧ acc.length < sizeLine ∧ I (i + 1) (acc ++ [e]) (wipeS δ5 vs) else I (i + 1) acc (wipeS δ3 vs)) ∧ ∀ acc δ, I ds.length acc δ → Kk acc δ
def pComp (it : PIx) (g : PGx) (tt : PB) (elt : PX) (vs : List Nat) : PX := fun δ Q => it δ fun ds δ1 => noPin δ1 vs ∧ compI g tt elt vs (fun acc δ2 => Q (.ow (.lst acc)) (restS δ1 δ2 vs)) ds (wipeS δ1 vs)
def pYes : PB := fun δ Q => Q true δ
theorem Stp.reδ {G H G' H' : Hp} {w w' : Addr → Option Nat} {δ δ' δ2 : List Sl} (s : Stp B.T G H w δ G' H' w' δ') (p : Pn δ δ2) : Stp B.T G H w δ G' H' w' δ2 := ⟨s.g, s.b, s.n, s.p, p, s.t, s.q⟩
section
variable {K : PySem.W.Frag} {G H : Hp} {σ : St} {δ : List Sl} {vs : List V} {rs : List R} {w : Addr → Option Nat}
theorem Rep.wrT {D : Addr} {ds ds' : List PyData} {us' : List V} (r : Rep K B G H σ δ (.ref D :: vs) (.ow (.lst ds) :: rs) w) (hd : DqAll K G us' ds') :
    ∃ us, H D = some (.lst us) ∧ DqAll K G us ds ∧ Stp B.T G H w δ G (upd H D (.lst us')) w δ ∧ Rep K B G (upd H D (.lst us')) σ δ (.ref D :: vs) (.ow (.lst ds') :: rs) w := by
  obtain ⟨a, us, e, ma, ha, hus⟩ := r.tm 0 _ _ rfl rfl
  cases e
  have hw : w D = some 1 := ma
  have ne : ∀ x n, w x = some n → n ≠ 1 → x ≠ D := fun x n hx hn z => by subst z; rw [hw] at hx; cases hx; exact hn rfl
  have g0 := (r.out D _ hw).1
  have st : Stp B.T G H w δ G (upd H D (.lst us')) w δ := by
    refine .of ⟨fun _ _ h => h, fun x o hx ho => ?_, fun x n hx => .inl (by rw [hx]; exact Option.some_ne_none _), fun _ _ h => .inl h, .refl _⟩ (tabs_put ha)
    rw [upd_ne (fun z => by subst z; rw [hw] at hx; cases hx)]
    exact ho
  refine ⟨us, ha, hus, st, fun x o hx => ?_, fun x n hx => ?_, r.len, fun k s hk => ?_, r.tlen, fun j v q hv hq => ?_, st.bs r.bs⟩
  · have : x ≠ D := fun z => by subst z; rw [g0] at hx; cases hx
    rw [upd_ne this]
    exact r.sub x o hx
  · obtain ⟨h1, h2, h3⟩ := r.out x n hx
    by_cases e : x = D
    · subst e
      rw [upd_same]
      exact ⟨h1, Option.some_ne_none _, NoX.lst upd_same⟩
    · rw [upd_ne e]
      exact ⟨h1, h2, noT_upd e h3⟩
  · refine (r.sl k s hk).mono (fun _ _ h => h) (fun x u mx hu => ?_) fun x u mx _ => mx
    rw [upd_ne (ne x _ mx (by omega))]
    exact hu
  · match j with
    | 0 =>
      simp only [List.getElem?_cons_zero, Option.some.injEq] at hv hq
      subst hv hq
      exact ⟨D, us', rfl, hw, upd_same, hd⟩
    | j + 1 =>
      refine (r.tm (j + 1) v q (by simpa using hv) (by simpa using hq)).mono (fun _ _ h => h) (fun x u mx hu => ?_) fun x u mx _ => mx
      rw [upd_ne (ne x _ mx (by omega))]
      exact hu
theorem Rep.first {v : V} {q : R} (r : Rep K B G H σ δ (v :: vs) (q :: rs) w) : Rep K B G H σ δ [v] [q] w := ⟨r.sub, r.out, r.len, r.sl, rfl, fun j u p hu hp => by
  match j with
  | 0 => exact r.tm 0 u p (by simpa using hu) (by simpa using hp)
  | j + 1 => simp at hu, r.bs⟩
end
def JTs (X : Cx) (B : Bas) (ifs : List Expr) (p : PB) : Prop := PTs X ifs (LB X.K B p)
theorem PTs_wk {X : Cx} {ifs : List Expr} {t t' : TT} (h : PTs X ifs t) (k : ∀ σ H Q, t' σ H Q → t σ H Q) : PTs X ifs t' := ⟨fun pins s σ H Q I q => h.run pins s σ H Q I (k σ H Q q)⟩
theorem jts_nil {X : Cx} : JTs X B [] pYes := PTs_wk pts_nil fun σ H Q ⟨G, w, δ, Qp, rep, q, k⟩ => k true δ H G w q .refl rep
theorem jts_one {X : Cx} {c : Expr} {p : PB} (h : JB X B c p) : JTs X B [c] p := pts_one h
theorem lc_lift {K : PySem.W.Frag} {pi : PIx} {ts vs : List Nat} {g : PGx} {tt : PB} {elt : PX} {σ : St} {H : Hp} {Q : VK} (hts : ∀ i ∈ ts, i ∈ vs) (h : LE K B (pComp pi g tt elt vs) σ H Q) : tLc (LI K B pi) (LG K B ts g) (LB K B tt) (LE K B elt) vs σ H Q := by
  obtain ⟨G, w, δ, Qp, rep, q, k⟩ := h
  refine ⟨G, w, δ, _, rep, q, fun ds δ1 J H1 G1 w1 q1 s1 rep1 itd D hD => ?_⟩
  obtain ⟨np, I, i0, is, ie⟩ := q1
  obtain ⟨w2, s2, r2⟩ := rep1.retLst (us := []) (ds := []) hD .nil
  have noA : ∀ acc : List PyData, ∀ p ∈ [R.ow (.lst acc)], isAt p = false := fun acc p hp => by rw [List.mem_singleton.mp hp]; rfl
  have ni : ∀ (i : Nat) o, δ[i]? = some (Sl.ow true o) → i ∉ vs := fun i o hi => by
    obtain ⟨o1, h1⟩ := s1.pn i o hi
    exact fun z => np i z o1 h1
  have pnw : ∀ {G' H' : Hp} {w' : Addr → Option Nat} {δ' : List Sl}, Stp B.T G H w δ G' H' w' δ' → Stp B.T G H w δ G' H' w' (wipeS δ' vs) := fun s => s.reδ fun i o hi => by
    obtain ⟨o1, h1⟩ := s.pn i o hi
    exact ⟨o1, by rw [wipeS_ne (ni i o hi)]; exact h1⟩
  refine ⟨fun i m H' => m = ds.length - i ∧ i ≤ ds.length ∧ ∃ G' w' δ' acc, Stp B.T G H w δ G' H' w' δ' ∧ Same G1 G' ∧ Rep K B G' H' (wipe σ vs) δ' [.ref D] [.ow (.lst acc)] w' ∧ I i acc δ', ⟨ds.length, rfl, Nat.zero_le _, G1, w2, wipeS δ1 vs, [], pnw (s1.trans s2), fun _ _ h => h, r2.reσ (by rw [wipe_length, wipeS_len]; exact r2.len) (fun i s hi => ?_) (noA _), i0⟩, ?_⟩
  · rcases wipeS_get hi with e | ⟨e1, e2⟩
    · exact .inl e
    · exact .inr ⟨e1, wipe_ne e2⟩
  rintro i m H' ⟨rfl, hi, G', w', δ', acc, st, sg, rp, q⟩
  by_cases hlt : i < ds.length
  · have q := is i _ acc δ' (List.getElem?_eq_getElem hlt) q
    refine .inr ⟨itd.go G' H' i sg rp.sub hlt, fun H2 => i + 1 ≤ ds.length ∧ ∃ G' w' δ' acc, Stp B.T G H w δ G' H2 w' δ' ∧ Same G1 G' ∧ Rep K B G' H2 (wipe σ vs) δ' [.ref D] [.ow (.lst acc)] w' ∧ I (i + 1) acc δ', fun H2 z => ⟨ds.length - (i + 1), by omega, rfl, z⟩, fun x H2 y => ?_⟩
    obtain ⟨d, hd, res⟩ := itd.yld G' H' i x H2 sg rp.sub hlt y
    rw [List.getElem?_eq_getElem hlt] at hd
    cases hd
    obtain ⟨G2, s2, r2, hq⟩ := rp.res res
    refine ⟨G2, _, δ', _, _, r2.drop, hq, q, fun δ3 σ3 H3 G3 w3 q3 s3 r3 p3 t3 => ⟨wipe_eq t3 hts, ?_⟩⟩
    obtain ⟨w4, s4, r4⟩ := r2.frameS (noA _) s3 r3
    have back : ∀ {G9 H9 : Hp} {w9 : Addr → Option Nat} {δ9 : List Sl} {acc9 : List PyData}, Rep K B G9 H9 σ3 δ9 [.ref D] [.ow (.lst acc9)] w9 → Rep K B G9 H9 (wipe σ vs) (wipeS δ9 vs) [.ref D] [.ow (.lst acc9)] w9 := fun {G9 H9 w9 δ9 acc9} r9 => by
      refine r9.reσ ?_ (fun k s hk => ?_) (noA _)
      · rw [wipe_length, wipeS_len, ← r9.len, t3.1, wipe_length]
      · rcases wipeS_get hk with e | ⟨e1, e2⟩
        · exact .inl e
        · exact .inr ⟨e1, (t3.2 k fun z => e2 (hts k z)).symm⟩
    refine ⟨G3, _, δ3, _, r4.drop, q3, fun b δ5 H5 G5 w5 q5 s5 r5 => ?_⟩
    obtain ⟨w6, s6, r6⟩ := r4.frame s5 r5
    have st6 := ((st.trans s2).trans s4).trans s6
    have sg6 : Same G1 G5 := fun a o ha => s6.g a o (s4.g a o (s2.g a o (sg a o ha)))
    cases b with
    | false => exact ⟨hlt, G5, w6, _, acc, pnw st6, sg6, back r6, q5⟩
    | true =>
      refine ⟨G5, _, δ5, _, r6.drop, q5, fun r δ7 y H7 G7 w7 q7 s7 r7 => ?_⟩
      obtain ⟨w8, s8, r8⟩ := r6.frame s7 r7
      obtain ⟨e, δ9, hz, hl, q7⟩ := q7
      obtain ⟨G9, w9, s9, r9⟩ := r8.fz1 (j := 1) rfl rfl hz
      have r9' : Rep K B G9 H7 σ3 δ9 [.ref D, y] [.ow (.lst acc), .im e] w9 := r9
      have hy : Dq K G9 y e := r9'.tm 1 y (.im e) rfl rfl
      obtain ⟨a, us, ea, ma, ha, hus⟩ := r9'.tm 0 (.ref D) (.ow (.lst acc)) rfl rfl
      cases ea
      obtain ⟨us2, h2, h3, s10, r10⟩ := r9'.wrT (dqAll_append hus (.cons hy .nil))
      refine ⟨us, ha, by rw [dqAll_len hus]; exact hl, hlt, G9, w9, _, acc ++ [e], pnw (((st6.trans s8).trans s9).trans s10), fun a o h => s9.g a o (s8.g a o (sg6 a o h)), back r10.first, q7⟩
  · have ei : i = ds.length := by omega
    subst ei
    refine .inl ⟨itd.stop G' H' sg rp.sub, k _ _ _ H' G' w' (ie acc δ' q) (st.reδ fun j o hj => ?_) ⟨rp.sub, rp.out, by rw [restS_len, ← rp.len, wipe_length], fun j s hj => ?_, rp.tlen, fun j v p hv hp => (rp.tm j v p hv hp).noAt (noA _ p (List.mem_of_getElem? hp)), rp.bs⟩⟩
    · obtain ⟨o1, h1⟩ := st.pn j o hj
      exact ⟨o1, by rw [restS_ne (ni j o hj)]; exact h1⟩
    · by_cases hm : j ∈ vs
      · rcases restS_in hm hj with rfl | ⟨d, rfl, e0⟩
        · trivial
        · obtain ⟨v, hv, hd⟩ := rep1.sl j _ e0
          exact ⟨v, hv, dp_mono sg _ _ hd⟩
      · rw [restS_ne hm] at hj
        have := rp.sl j s hj
        rwa [wipe_ne hm] at this
section
variable {X : Cx}
theorem je_lc {elt tg iter : Expr} {ifs : List Expr} {scope : Scope} {own : List (Str × Nat)} {pos : Pos} {pi : PIx} {ts : List Nat} {g : PGx} {tt : PB} {pe : PX} (hc : X.calm = true) (hN : X.N.Nodup) (hi : JI X B tg iter pi) (ok : BlkOk X.N X.env.scope scope own)
    (hg : ∀ (s : Shared) (H : Hp) (C : Addr) (cl : List (Str × Addr)) (fp : List Addr), JG (X.blk s H scope (compEnvC scope cl C X.env) fp) B tg ts g) (ht : ∀ (s : Shared) (H : Hp) (C : Addr) (cl : List (Str × Addr)) (fp : List Addr), JTs (X.blk s H scope (compEnvC scope cl C X.env) fp) B ifs tt)
    (he : ∀ (s : Shared) (H : Hp) (C : Addr) (cl : List (Str × Addr)) (fp : List Addr), JE (X.blk s H scope (compEnvC scope cl C X.env) fp) B elt pe) (hts : ∀ i ∈ ts, i ∈ own.map (·.2) := by decide) (hs : ∀ x, foldedSetIterable iter X.env x = pure x := by intro _; rfl) :
    JE X B (.ListComp elt [⟨tg, iter, ifs, 0⟩] scope pos) (pComp pi g tt pe (own.map (·.2))) := PE_wk (pe_lc (g := LG X.K B ts g) (tt := LB X.K B tt) (te := LE X.K B pe) hc hN hi ok hg ht he hs) fun σ H Q h => lc_lift hts h
end
end Pv
namespace Pv
open PySem PySem.Spec L2 Wf
variable {B : Bas}
/-! ### defs -/
abbrev EX := Addr → List (Str × PyData) → Prop
/-- what a def does: its arguments (data, or a thing of the caller's), what is told and how these things stand then; what is raised -/
abbrev PSp := List Sl → QE → EX → Prop
/-- no tables -/
def nTb : Option HO → Option HO
  | some (.tbl _) => none
  | o => o
theorem nTb_some {x : Option HO} {o : HO} (h : nTb x = some o) : x = some o ∧ NT o := by
  cases x with
  | none => cases h
  | some u => cases u <;> first | (cases h; done) | exact ⟨h, fun ps z => by subst z; cases h⟩
theorem nTb_of {x : Option HO} {o : HO} (h : x = some o) (n : NT o) : nTb x = some o := by
  subst h
  cases o <;> first | rfl | exact absurd rfl (n _)
def B0h (H : Hp) (w : Addr → Option Nat) : Hp := fun a => match w a with
  | none => nTb (H a)
  | some _ => none
def B0 (T : List NdefX.NTab) (H : Hp) (w : Addr → Option Nat) : Bas := ⟨B0h H w, H, T⟩
theorem B0_some {T : List NdefX.NTab} {H : Hp} {w : Addr → Option Nat} {a : Addr} {o : HO} (h : B0 T H w a = some o) : H a = some o ∧ w a = none ∧ NT o := by
  have h : B0h H w a = some o := h
  unfold B0h at h
  split at h
  · rename_i e
    obtain ⟨h1, h2⟩ := nTb_some h
    exact ⟨h1, e, h2⟩
  · cases h
/-- an error's fields, as they stand -/
inductive FlP (K : PySem.W.Frag) (H : Hp) : List (Str × V) → List (Str × PyData) → Prop
  | nil : FlP K H [] []
  | cons {x : Str} {v : V} {d : PyData} {us : List (Str × V)} {fs : List (Str × PyData)} : Dp K H v d → noL d = true → FlP K H us fs → FlP K H ((x, v) :: us) ((x, d) :: fs)
/-- what is wanted of an error that leaves -/
def XOk (K : PySem.W.Frag) (B : Bas) (Ep : EX) (E : XK) : Prop := ∀ C fs us d H', Ep C fs → Same B.hp H' → TbG B.T B.ht H' → B d = none → H' d = some (.xd us) → FlP K H' us fs → E (.ref C) (some d) H'
def LSp (K : PySem.W.Frag) (T : List NdefX.NTab) (ps : PSp) : Sp := fun vs H Q E => ∃ G w as Qp Ep, Rep K (B0 T H w) G H (vs.map some) as [] [] w ∧ (∀ s ∈ as, s = .un ∨ (∃ d, s = .im d) ∨ ∃ o, s = .ow true o) ∧ ps as Qp Ep ∧
  (∀ r δ' v H' G' w', Qp r δ' → isAt r = false → Stp T G H w as G' H' w' δ' → Rep K (B0 T H w) G' H' (vs.map some) δ' [v] [r] w' → Q v H') ∧ XOk K (B0 T H w) Ep E
def outs : List Sl → List Sl → List Sl
  | [], _ => []
  | .ow true _ :: as, d :: ds => d :: outs as ds
  | _ :: as, _ :: ds => .un :: outs as ds
  | _ :: as, [] => .un :: outs as []
theorem outs_len : ∀ (as ds : List Sl), (outs as ds).length = as.length
  | [], _ => rfl
  | .ow true _ :: as, d :: ds => by simp only [outs, List.length_cons, outs_len as ds]
  | .ow false _ :: as, d :: ds => by simp only [outs, List.length_cons, outs_len as ds]
  | .un :: as, d :: ds => by simp only [outs, List.length_cons, outs_len as ds]
  | .im _ :: as, d :: ds => by simp only [outs, List.length_cons, outs_len as ds]
  | .ex _ _ _ _ :: as, d :: ds => by simp only [outs, List.length_cons, outs_len as ds]
  | a :: as, [] => by
    have e : outs (a :: as) [] = .un :: outs as [] := by
      cases a with
      | un => rfl
      | im d => rfl
      | ex _ _ _ _ => rfl
      | ow b o => cases b <;> rfl
    rw [e, List.length_cons, List.length_cons, outs_len as []]
theorem outs_get : ∀ (as ds : List Sl) (i : Nat) {s : Sl}, (outs as ds)[i]? = some s → s = .un ∨ ((∃ o, as[i]? = some (.ow true o)) ∧ ds[i]? = some s)
  | [], _, _, s, h => by simp [outs] at h
  | .ow true o :: as, d :: ds, 0, s, h => by
    simp only [outs, List.getElem?_cons_zero, Option.some.injEq] at h
    exact .inr ⟨⟨o, rfl⟩, by simp [h]⟩
  | .ow true o :: as, d :: ds, i + 1, s, h => by
    rcases outs_get as ds i (by simpa [outs] using h) with e | ⟨⟨o', e1⟩, e2⟩
    · exact .inl e
    · exact .inr ⟨⟨o', by simpa using e1⟩, by simpa using e2⟩
  | .ow false o :: as, d :: ds, 0, s, h => by simp only [outs, List.getElem?_cons_zero, Option.some.injEq] at h; exact .inl h.symm
  | .un :: as, d :: ds, 0, s, h => by simp only [outs, List.getElem?_cons_zero, Option.some.injEq] at h; exact .inl h.symm
  | .im _ :: as, d :: ds, 0, s, h => by simp only [outs, List.getElem?_cons_zero, Option.some.injEq] at h; exact .inl h.symm
  | .ex _ _ _ _ :: as, d :: ds, 0, s, h => by simp only [outs, List.getElem?_cons_zero, Option.some.injEq] at h; exact .inl h.symm
  | .ow false o :: as, d :: ds, i + 1, s, h => by
    rcases outs_get as ds i (by simpa [outs] using h) with e | ⟨⟨o', e1⟩, e2⟩
    · exact .inl e
    · exact .inr ⟨⟨o', by simpa using e1⟩, by simpa using e2⟩
  | .un :: as, d :: ds, i + 1, s, h => by
    rcases outs_get as ds i (by simpa [outs] using h) with e | ⟨⟨o', e1⟩, e2⟩
    · exact .inl e
    · exact .inr ⟨⟨o', by simpa using e1⟩, by simpa using e2⟩
  | .im _ :: as, d :: ds, i + 1, s, h => by
    rcases outs_get as ds i (by simpa [outs] using h) with e | ⟨⟨o', e1⟩, e2⟩
    · exact .inl e
    · exact .inr ⟨⟨o', by simpa using e1⟩, by simpa using e2⟩
  | .ex _ _ _ _ :: as, d :: ds, i + 1, s, h => by
    rcases outs_get as ds i (by simpa [outs] using h) with e | ⟨⟨o', e1⟩, e2⟩
    · exact .inl e
    · exact .inr ⟨⟨o', by simpa using e1⟩, by simpa using e2⟩
  | a :: as, [], i, s, h => by
    have e : outs (a :: as) [] = .un :: outs as [] := by
      cases a with
      | un => rfl
      | im d => rfl
      | ex _ _ _ _ => rfl
      | ow b o => cases b <;> rfl
    rw [e] at h
    match i with
    | 0 => simp only [List.getElem?_cons_zero, Option.some.injEq] at h; exact .inl h.symm
    | i + 1 =>
      rcases outs_get as [] i (by simpa using h) with e | ⟨_, e2⟩
      · exact .inl e
      · simp at e2
theorem outs_own : ∀ (as ds : List Sl) (i : Nat) {o : O} {s : Sl}, as[i]? = some (.ow true o) → ds[i]? = some s → (outs as ds)[i]? = some s
  | [], _, _, _, _, h, _ => by simp at h
  | _ :: _, [], _, _, _, _, h => by simp at h
  | a :: as, d :: ds, 0, o, s, h, h2 => by
    simp only [List.getElem?_cons_zero, Option.some.injEq] at h h2
    subst h h2
    rfl
  | a :: as, d :: ds, i + 1, o, s, h, h2 => by
    have ih := outs_own as ds i (o := o) (s := s) (by simpa using h) (by simpa using h2)
    cases a with
    | un => simpa [outs] using ih
    | im d => simpa [outs] using ih
    | ex _ _ _ _ => simpa [outs] using ih
    | ow b o => cases b <;> simpa [outs] using ih
def endsP (as : List Sl) (Qp : QE) : PEn := { nx := fun δ => Qp (.im .none) (outs as δ), rt := fun r δ => Qp r (outs as δ) }
/-- a def's body keeps its promise -/
theorem fn_lift {K : PySem.W.Frag} {N : List Str} {ps : PSp} {p : EX → PSx} {vs : List V} {H : Hp} {Q : VK} {E : XK} {m : Nat} (hN : N.length = m) (hp : ∀ as Qp Ep, ps as Qp Ep → p Ep (endsP as Qp) (as ++ List.replicate (m - as.length) .un)) {T : List NdefX.NTab} (h : LSp K T ps vs H Q E) (hl : vs.length ≤ m) :
    ∃ (Bh Bt : Hp) (Ep : EX), XOk K ⟨Bh, Bt, T⟩ Ep E ∧ LS K ⟨Bh, Bt, T⟩ (p Ep) { nx := fun _ H' => Q .non H', rt := Q } (L2.start N vs) H := by
  obtain ⟨G, w, as, Qp, Ep, rep, hk, hps, k, x⟩ := h
  have la : vs.length = as.length := by have := rep.len; rwa [List.length_map] at this
  refine ⟨B0h H w, H, Ep, x, G, w, as ++ List.replicate (m - as.length) .un, endsP as Qp, ?_, hp as Qp Ep hps, ?_⟩
  · refine ⟨rep.sub, rep.out, ?_, fun i s hi => ?_, rfl, fun j v r hv => by simp at hv, rep.bs⟩
    · unfold L2.start
      rw [List.length_append, List.length_append, List.length_map, List.length_replicate, List.length_replicate, la, hN]
    · by_cases hi2 : i < as.length
      · rw [List.getElem?_append_left hi2] at hi
        have := rep.sl i s hi
        unfold L2.start
        rw [List.getElem?_append_left (by rw [List.length_map, la]; exact hi2)]
        exact this
      · rw [List.getElem?_append_right (by omega)] at hi
        have e : s = .un := by
          have := List.getElem?_eq_some_iff.mp hi
          obtain ⟨h1, h2⟩ := this
          simpa using h2.symm
        subst e
        trivial
  · have fin : ∀ (r : R) δ' v σ' H' G' w', isAt r = false → Stp T G H w (as ++ List.replicate (m - as.length) .un) G' H' w' δ' → Rep K (B0 T H w) G' H' σ' δ' [v] [r] w' → Pin (L2.start N vs) (as ++ List.replicate (m - as.length) .un) σ' →
        Stp T G H w as G' H' w' (outs as δ') ∧ Rep K (B0 T H w) G' H' (vs.map some) (outs as δ') [v] [r] w' := by
      intro r δ' v σ' H' G' w' hr st rp pn
      have inA : ∀ (i : Nat) o, as[i]? = some (Sl.ow true o) → (as ++ List.replicate (m - as.length) .un)[i]? = some (Sl.ow true o) := fun i o h => by
        rw [List.getElem?_append_left (List.getElem?_eq_some_iff.mp h).1]
        exact h
      refine ⟨⟨st.g, st.b, st.n, st.p, fun i o hi => ?_, st.t, st.q⟩, rp.sub, rp.out, by rw [outs_len, List.length_map, la], fun i s hi => ?_, rfl, fun j u q hu hq => ?_, rp.bs⟩
      · obtain ⟨o', ho'⟩ := st.pn i o (inA i o hi)
        exact ⟨o', outs_own as δ' i hi ho'⟩
      · rcases outs_get as δ' i hi with rfl | ⟨⟨o, e1⟩, e2⟩
        · trivial
        · have e3 := rp.sl i s e2
          have e4 := pn i o (inA i o e1)
          have hi2 : i < as.length := (List.getElem?_eq_some_iff.mp e1).1
          unfold L2.start at e4
          rw [List.getElem?_append_left (by rw [List.length_map, la]; exact hi2)] at e4
          rwa [e4] at e3
      · exact (rp.tm j u q hu hq).noAt (by
          match j with
          | 0 => simp only [List.getElem?_cons_zero, Option.some.injEq] at hq; rw [← hq]; exact hr
          | j + 1 => simp at hq)
    refine ⟨fun δ' σ' H' G' w' h st rp pn => ?_, fun r δ' v σ' H' G' w' h hr st rp pn => ?_, fun δ' σ' H' G' w' h => h.elim, fun δ' σ' H' G' w' h => h.elim⟩
    · obtain ⟨s1, r1⟩ := fin (.im .none) δ' .non σ' H' G' _ rfl (st.trans .drop) (rp.ret .non) pn
      exact k _ _ _ H' G' _ h rfl s1 r1
    · obtain ⟨s1, r1⟩ := fin r δ' v σ' H' G' w' hr st rp pn
      exact k _ _ _ H' G' w' h hr s1 r1
/-! ### calls -/
def argOf (δ : List Sl) : R → Option Sl
  | .im d => some (.im d)
  | .ow o => some (.ow true o)
  | .at i => match δ[i]? with
    | some (.im d) => some (.im d)
    | some (.ow _ o) => some (.ow true o)
    | _ => none
def argsOf (δ : List Sl) : List R → Option (List Sl)
  | [] => some []
  | r :: rs => match argOf δ r with
    | none => none
    | some a => match argsOf δ rs with
      | none => none
      | some as => some (a :: as)
/-- which slots are handed on -/
def atIx (δ : List Sl) : List R → List Nat
  | [] => []
  | .at i :: rs => match δ[i]? with
    | some (.ow _ _) => i :: atIx δ rs
    | _ => atIx δ rs
  | _ :: rs => atIx δ rs
def put1 (δ : List Sl) : R → Sl → List Sl
  | .at i, .ow true o => match δ[i]? with
    | some (.ow b _) => δ.set i (.ow b o)
    | _ => δ
  | _, _ => δ
def putB (δ : List Sl) : List R → List Sl → List Sl
  | [], _ => δ
  | _ :: _, [] => δ
  | r :: rs, s :: ss => putB (put1 δ r s) rs ss
def pCall (ps : PSp) (pa : PL) (Ep : EX) : PX := fun δ Q => pa δ fun rs δ1 => ∃ as, argsOf δ1 rs = some as ∧ (atIx δ1 rs).Nodup ∧ ps as (fun r os => Q r (putB δ1 rs os)) Ep
theorem argsOf_len : ∀ {δ : List Sl} {rs : List R} {as : List Sl}, argsOf δ rs = some as → as.length = rs.length
  | _, [], _, h => by cases h; rfl
  | δ, r :: rs, as, h => by
    unfold argsOf at h
    revert h
    split
    · intro h; cases h
    · split
      · intro h; cases h
      · rename_i as' e'
        intro h
        cases h
        rw [List.length_cons, List.length_cons, argsOf_len e']
theorem argsOf_get : ∀ {δ : List Sl} {rs : List R} {as : List Sl} {j : Nat} {s : Sl}, argsOf δ rs = some as → as[j]? = some s → ∃ r, rs[j]? = some r ∧ argOf δ r = some s
  | _, [], _, _, _, h, hs => by cases h; simp at hs
  | δ, r :: rs, as, j, s, h, hs => by
    unfold argsOf at h
    revert h
    split
    · intro h; cases h
    · rename_i a e
      split
      · intro h; cases h
      · rename_i as' e'
        intro h
        cases h
        match j with
        | 0 => simp only [List.getElem?_cons_zero, Option.some.injEq] at hs; subst hs; exact ⟨r, rfl, e⟩
        | j + 1 =>
          obtain ⟨r', h1, h2⟩ := argsOf_get (j := j) e' (by simpa using hs)
          exact ⟨r', by simpa using h1, h2⟩
def isOw (δ : List Sl) (i : Nat) : Prop := ∃ b o, δ[i]? = some (.ow b o)
theorem put1_len (δ : List Sl) (r : R) (s : Sl) : (put1 δ r s).length = δ.length := by
  unfold put1
  split
  · split
    · rw [List.length_set]
    · rfl
  · rfl
theorem put1_at {δ : List Sl} {i : Nat} {b : Bool} {o o' : O} (h : δ[i]? = some (.ow b o)) : put1 δ (.at i) (.ow true o') = δ.set i (.ow b o') := by
  unfold put1
  dsimp only
  rw [h]
theorem put1_ow {δ : List Sl} {r : R} {s : Sl} {i : Nat} {b : Bool} {o : O} (h : δ[i]? = some (.ow b o)) : ∃ o', (put1 δ r s)[i]? = some (.ow b o') := by
  unfold put1
  split
  · rename_i k o'
    split
    · rename_i b' o'' e
      by_cases ei : k = i
      · subst ei
        rw [h] at e
        cases e
        exact ⟨o', List.getElem?_set_self (List.getElem?_eq_some_iff.mp h).1⟩
      · exact ⟨o, by rw [List.getElem?_set_ne ei]; exact h⟩
    · exact ⟨o, h⟩
  · exact ⟨o, h⟩
theorem put1_ne {δ : List Sl} {r : R} {s : Sl} {i : Nat} (h : r ≠ .at i) : (put1 δ r s)[i]? = δ[i]? := by
  unfold put1
  split
  · rename_i k o'
    split
    · exact List.getElem?_set_ne fun z => h (by rw [z])
    · rfl
  · rfl
theorem put1_nw {δ : List Sl} {r : R} {s : Sl} {i : Nat} (h : ¬ isOw δ i) : (put1 δ r s)[i]? = δ[i]? := by
  unfold put1
  split
  · rename_i k o'
    split
    · rename_i b o e
      exact List.getElem?_set_ne fun z => h ⟨b, o, by rw [← z]; exact e⟩
    · rfl
  · rfl
theorem isOw_put {δ : List Sl} {r : R} {s : Sl} {i : Nat} : isOw (put1 δ r s) i ↔ isOw δ i := by
  constructor
  · intro h
    by_cases hw : isOw δ i
    · exact hw
    · obtain ⟨b, o, e⟩ := h
      rw [put1_nw hw] at e
      exact ⟨b, o, e⟩
  · rintro ⟨b, o, e⟩
    obtain ⟨o', e'⟩ := put1_ow (r := r) (s := s) e
    exact ⟨b, o', e'⟩
theorem mem_atIx : ∀ {δ : List Sl} {rs : List R} {i : Nat}, i ∈ atIx δ rs ↔ isOw δ i ∧ R.at i ∈ rs
  | δ, [], i => by simp [atIx]
  | δ, .im d :: rs, i => by simp [atIx, mem_atIx (δ := δ) (rs := rs) (i := i)]
  | δ, .ow o :: rs, i => by simp [atIx, mem_atIx (δ := δ) (rs := rs) (i := i)]
  | δ, .at k :: rs, i => by
    unfold atIx
    split
    · rename_i b o e
      rw [List.mem_cons, mem_atIx (δ := δ) (rs := rs) (i := i), List.mem_cons]
      constructor
      · rintro (rfl | ⟨h1, h2⟩)
        · exact ⟨⟨b, o, e⟩, .inl rfl⟩
        · exact ⟨h1, .inr h2⟩
      · rintro ⟨h1, h2 | h2⟩
        · cases h2; exact .inl rfl
        · exact .inr ⟨h1, h2⟩
    · rename_i hn
      rw [mem_atIx (δ := δ) (rs := rs) (i := i), List.mem_cons]
      constructor
      · rintro ⟨h1, h2⟩; exact ⟨h1, .inr h2⟩
      · rintro ⟨h1, h2 | h2⟩
        · cases h2
          obtain ⟨b, o, e⟩ := h1
          exact absurd e (hn b o)
        · exact ⟨h1, h2⟩
theorem putB_len : ∀ {rs : List R} {δ : List Sl} {ss : List Sl}, (putB δ rs ss).length = δ.length
  | [], _, _ => by simp [putB]
  | _ :: _, _, [] => by simp [putB]
  | r :: rs, δ, s :: ss => by
    show (putB (put1 δ r s) rs ss).length = _
    rw [putB_len, put1_len]
theorem putB_ne : ∀ {rs : List R} {δ ss : List Sl} {k : Nat}, (¬ isOw δ k ∨ R.at k ∉ rs) → (putB δ rs ss)[k]? = δ[k]?
  | [], _, _, _, _ => by simp [putB]
  | _ :: _, _, [], _, _ => by simp [putB]
  | r :: rs, δ, s :: ss, k, h => by
    show (putB (put1 δ r s) rs ss)[k]? = _
    rcases h with h | h
    · rw [putB_ne (.inl fun z => h (isOw_put.mp z)), put1_nw h]
    · simp only [List.mem_cons, not_or] at h
      rw [putB_ne (.inr h.2), put1_ne (Ne.symm h.1)]
theorem putB_at : ∀ {rs : List R} {δ ss : List Sl} {j k : Nat} {b : Bool} {o o' : O}, (∀ (i j : Nat) k, isOw δ k → rs[i]? = some (.at k) → rs[j]? = some (.at k) → i = j) → rs[j]? = some (.at k) → δ[k]? = some (.ow b o) → ss[j]? = some (.ow true o') → (putB δ rs ss)[k]? = some (.ow b o')
  | [], _, _, _, _, _, _, _, _, h, _, _ => by simp at h
  | _ :: _, _, [], _, _, _, _, _, _, _, _, h => by simp at h
  | r :: rs, δ, s :: ss, 0, k, b, o, o', hu, h, hk, hs => by
    simp only [List.getElem?_cons_zero, Option.some.injEq] at h hs
    subst h hs
    show (putB (put1 δ (.at k) (.ow true o')) rs ss)[k]? = _
    have hn : R.at k ∉ rs := fun z => by
      obtain ⟨j, hj⟩ := List.mem_iff_getElem?.mp z
      have := hu 0 (j + 1) k ⟨b, o, hk⟩ rfl (by simpa using hj)
      omega
    rw [putB_ne (.inr hn), put1_at hk, List.getElem?_set_self (List.getElem?_eq_some_iff.mp hk).1]
  | r :: rs, δ, s :: ss, j + 1, k, b, o, o', hu, h, hk, hs => by
    show (putB (put1 δ r s) rs ss)[k]? = _
    have hr : r ≠ .at k := fun z => by
      have := hu 0 (j + 1) k ⟨b, o, hk⟩ (by simp [z]) h
      omega
    exact putB_at (j := j) (fun i j' k' hw h1 h2 => by
      have := hu (i + 1) (j' + 1) k' (isOw_put.mp hw) (by simpa using h1) (by simpa using h2)
      omega) (by simpa using h) (by rw [put1_ne hr]; exact hk) (by simpa using hs)
theorem uniq_of_nodup : ∀ {δ : List Sl} {rs : List R}, (atIx δ rs).Nodup → ∀ (i j : Nat) k, isOw δ k → rs[i]? = some (.at k) → rs[j]? = some (.at k) → i = j
  | δ, [], _, i, j, k, _, h, _ => by simp at h
  | δ, r :: rs, hn, i, j, k, hw, h1, h2 => by
    have tail : (atIx δ rs).Nodup := by
      cases r with
      | im d => exact hn
      | ow o => exact hn
      | «at» m =>
        unfold atIx at hn
        revert hn
        split
        · intro hn; exact (List.nodup_cons.mp hn).2
        · intro hn; exact hn
    have noHead : r = .at k → R.at k ∉ rs := fun e z => by
      subst e
      obtain ⟨b, o, e⟩ := hw
      have e2 : atIx δ (.at k :: rs) = k :: atIx δ rs := by simp only [atIx, e]
      rw [e2] at hn
      exact (List.nodup_cons.mp hn).1 (mem_atIx.mpr ⟨⟨b, o, e⟩, z⟩)
    match i, j with
    | 0, 0 => rfl
    | 0, j + 1 => exact absurd (List.mem_of_getElem? (show rs[j]? = some (.at k) by simpa using h2)) (noHead (by simpa using h1))
    | i + 1, 0 => exact absurd (List.mem_of_getElem? (show rs[i]? = some (.at k) by simpa using h1)) (noHead (by simpa using h2))
    | i + 1, j + 1 => rw [uniq_of_nodup tail i j k hw (by simpa using h1) (by simpa using h2)]
/-- where slot i is handed on -/
def idxAt (i : Nat) : List R → Option Nat
  | [] => none
  | .at k :: rs => if k = i then some 0 else (idxAt i rs).map (· + 1)
  | _ :: rs => (idxAt i rs).map (· + 1)
theorem idxAt_some : ∀ {rs : List R} {i j : Nat}, idxAt i rs = some j → rs[j]? = some (.at i)
  | [], _, _, h => by cases h
  | .at k :: rs, i, j, h => by
    unfold idxAt at h
    split at h
    · rename_i e; cases h; subst e; rfl
    · obtain ⟨m, h1, rfl⟩ := Option.map_eq_some_iff.mp h
      simpa using idxAt_some h1
  | .im d :: rs, i, j, h => by
    obtain ⟨m, h1, rfl⟩ := Option.map_eq_some_iff.mp (show (idxAt i rs).map (· + 1) = some j from h)
    simpa using idxAt_some h1
  | .ow o :: rs, i, j, h => by
    obtain ⟨m, h1, rfl⟩ := Option.map_eq_some_iff.mp (show (idxAt i rs).map (· + 1) = some j from h)
    simpa using idxAt_some h1
theorem idxAt_mem : ∀ {rs : List R} {i : Nat}, R.at i ∈ rs → ∃ j, idxAt i rs = some j
  | [], _, h => by cases h
  | .at k :: rs, i, h => by
    unfold idxAt
    split
    · exact ⟨0, rfl⟩
    · rename_i hk
      have : R.at i ∈ rs := by
        rcases List.mem_cons.mp h with z | z
        · cases z; exact absurd rfl hk
        · exact z
      obtain ⟨j, e⟩ := idxAt_mem this
      exact ⟨j + 1, by rw [e]; rfl⟩
  | .im d :: rs, i, h => by
    have : R.at i ∈ rs := by
      rcases List.mem_cons.mp h with z | z
      · cases z
      · exact z
    obtain ⟨j, e⟩ := idxAt_mem this
    exact ⟨j + 1, by show (idxAt i rs).map (· + 1) = _; rw [e]; rfl⟩
  | .ow o :: rs, i, h => by
    have : R.at i ∈ rs := by
      rcases List.mem_cons.mp h with z | z
      · cases z
      · exact z
    obtain ⟨j, e⟩ := idxAt_mem this
    exact ⟨j + 1, by show (idxAt i rs).map (· + 1) = _; rw [e]; rfl⟩
def wcOf (rs : List R) (w : Addr → Option Nat) (a : Addr) : Option Nat := match w a with
  | none => none
  | some n => if n % 2 = 1 then some (n - 1) else (idxAt (n / 2) rs).map (2 * ·)
def wbOf (rs : List R) (w w' : Addr → Option Nat) (a : Addr) : Option Nat := match w' a with
  | some m => if m % 2 = 1 then some m else match rs[m / 2]? with
    | some (.at i) => some (2 * i)
    | _ => none
  | none => match wcOf rs w a with
    | none => evn (w a)
    | some _ => none
theorem call_lift {K : PySem.W.Frag} {ps : PSp} {pa : PL} {Ep : EX} {E : XK} {n : Nat} {σ : St} {H : Hp} {Q : VK} (hx : XOk K B Ep E) (h : LE K B (pCall ps pa Ep) σ H Q) : tCall (LSp K B.T ps) [] E (LA K B n pa) σ H Q := by
  obtain ⟨G, w, δ, Qp, rep, q, k⟩ := h
  refine ⟨G, w, δ, _, rep, q, fun rs δ1 vs H1 G1 w1 q1 _ s1 rep1 => ?_⟩
  obtain ⟨as, ha, hnd, q1⟩ := q1
  have uq := uniq_of_nodup hnd
  have la : vs.length = as.length := rep1.tlen.trans (argsOf_len ha).symm
  have wc_some : ∀ a m, wcOf rs w1 a = some m → ∃ n, w1 a = some n := fun a m hm => by
    unfold wcOf at hm
    cases e : w1 a with
    | none => rw [e] at hm; cases hm
    | some n => exact ⟨n, rfl⟩
  have wc_odd : ∀ a (j : Nat), w1 a = some (2 * j + 1) → wcOf rs w1 a = some (2 * j) := fun a j h => by
    unfold wcOf
    rw [h]
    dsimp only
    rw [if_pos (by omega)]
    congr 1
  have wc_at : ∀ a (i j : Nat), isOw δ1 i → rs[j]? = some (.at i) → w1 a = some (2 * i) → wcOf rs w1 a = some (2 * j) := fun a i j hw hj h => by
    obtain ⟨j', e⟩ := idxAt_mem (List.mem_of_getElem? hj)
    have := uq j j' i hw hj (idxAt_some e)
    subst this
    unfold wcOf
    rw [h]
    dsimp only
    rw [if_neg (by omega), show 2 * i / 2 = i by omega, e]
    rfl
  have toB : ∀ a o, B a = some o → B0 B.T H1 (wcOf rs w1) a = some o := fun a o ho => by
    have := rep1.bs.to a o ho
    show B0h H1 (wcOf rs w1) a = some o
    unfold B0h
    have e : wcOf rs w1 a = none := by unfold wcOf; rw [this.2.1]
    rw [e]
    exact nTb_of this.1 this.2.2
  have noB : ∀ d, B0 B.T H1 (wcOf rs w1) d = none → B d = none := fun d h => by
    cases e : B d with
    | none => rfl
    | some o => rw [toB d o e] at h; cases h
  rw [List.append_nil]
  refine ⟨G1, wcOf rs w1, as, _, Ep, ⟨rep1.sub, fun a m hm => ?_, by rw [List.length_map]; exact la, fun j s hs => ?_, rfl, fun j v r hv => by simp at hv, ⟨fun a o ho => B0_some ho, .refl, rep1.bs.tt.ts rep1.bs.ta, rep1.bs.gt⟩⟩, fun s hs => ?_, q1, fun r os v H2 G2 w2 hq hr st rp => ?_, fun C fs us d H2 he hs htb hbd hd hf => hx C fs us d H2 he (fun a o ho => hs a o (toB a o ho)) (rep1.bs.tt.trans htb) (noB d hbd) hd hf⟩
  · obtain ⟨n, hn⟩ := wc_some a m hm
    exact rep1.out a n hn
  · obtain ⟨r, hr, he⟩ := argsOf_get ha hs
    have hj : j < vs.length := by rw [la]; exact (List.getElem?_eq_some_iff.mp hs).1
    have hv : vs[j]? = some vs[j] := List.getElem?_eq_getElem hj
    have hm : (vs.map some)[j]? = some (some vs[j]) := by rw [List.getElem?_map, hv]; rfl
    have t := rep1.tm j _ r hv hr
    cases r with
    | im d => cases he; exact ⟨_, hm, t⟩
    | ow o => cases he; exact ⟨_, hm, RO.mono (fun _ _ h => h) (fun _ _ _ h => h) (fun a u ma _ => wc_odd a j ma) t⟩
    | «at» i =>
      have t' : σ[i]? = some (some vs[j]) := t
      simp only [argOf] at he
      revert he
      split
      · rename_i d e
        intro he
        cases he
        obtain ⟨v, hv', hd⟩ := rep1.sl i _ e
        rw [t'] at hv'
        cases hv'
        exact ⟨_, hm, hd⟩
      · rename_i b o e
        intro he
        cases he
        obtain ⟨v, hv', hd⟩ := rep1.sl i _ e
        rw [t'] at hv'
        cases hv'
        exact ⟨_, hm, RO.mono (fun _ _ h => h) (fun _ _ _ h => h) (fun a u ma _ => wc_at a i j ⟨b, o, e⟩ hr ma) hd⟩
      · intro he; cases he
  · obtain ⟨j, hj⟩ := List.mem_iff_getElem?.mp hs
    obtain ⟨r, hr, he⟩ := argsOf_get ha hj
    cases r with
    | im d => cases he; exact .inr (.inl ⟨d, rfl⟩)
    | ow o => cases he; exact .inr (.inr ⟨o, rfl⟩)
    | «at» i =>
      simp only [argOf] at he
      revert he
      split
      · intro he; cases he; exact .inr (.inl ⟨_, rfl⟩)
      · intro he; cases he; exact .inr (.inr ⟨_, rfl⟩)
      · intro he; cases he
  · -- behind the call
    have nw : ∀ a m n, w2 a = some m → wcOf rs w1 a = none → w1 a = some n → False := fun a m n h1 h2 h3 => by
      rcases st.n a m h1 with z | z
      · exact z h2
      · exact (rep1.out a n h3).2.1 z
    have st' : Stp B.T G1 H1 w1 δ1 G2 H2 (wbOf rs w1 w2) (putB δ1 rs os) := by
      refine ⟨st.g, fun a o hw ho => st.b a o (by unfold wcOf; rw [hw]) ho, fun a m hm => ?_, fun a o ho => ?_, fun i o hi => ?_, st.t, st.q⟩
      · cases e : w1 a with
        | some n => exact .inl (Option.some_ne_none _)
        | none =>
          cases e2 : w2 a with
          | none =>
            unfold wbOf at hm
            have e3 : wcOf rs w1 a = none := by unfold wcOf; rw [e]
            rw [e2, e3, e] at hm
            cases hm
          | some m2 =>
            rcases st.n a m2 e2 with z | z
            · exact absurd (by unfold wcOf; rw [e]) z
            · exact .inr z
      · rcases st.p a o ho with z | z | z | z
        · exact .inl z
        · exact .inr (.inl z)
        · refine .inr (.inr (.inl fun e => z ?_))
          unfold wcOf
          rw [e]
        · exact .inr (.inr (.inr z))
      · by_cases hm : R.at i ∈ rs
        · obtain ⟨j, hj⟩ := List.mem_iff_getElem?.mp hm
          have hja : j < as.length := by rw [argsOf_len ha]; exact (List.getElem?_eq_some_iff.mp hj).1
          obtain ⟨r, hr', he⟩ := argsOf_get ha (List.getElem?_eq_getElem hja)
          rw [hj] at hr'
          cases hr'
          simp only [argOf, hi, Option.some.injEq] at he
          obtain ⟨o', ho'⟩ := st.pn j o (by rw [List.getElem?_eq_getElem hja, he])
          exact ⟨o', putB_at uq hj hi ho'⟩
        · exact ⟨o, by rw [putB_ne (.inr hm)]; exact hi⟩
    refine k r _ v H2 G2 _ hq (s1.trans st') ⟨rp.sub, fun a m hm => ?_, by rw [putB_len]; exact rep1.len, fun i s hs => ?_, rfl, fun j u p hu hp => ?_, st'.bs rep1.bs⟩
    · cases e2 : w2 a with
      | some m2 => exact rp.out a m2 e2
      | none =>
        unfold wbOf at hm
        rw [e2] at hm
        dsimp only at hm
        revert hm
        split
        · rename_i e3
          intro hm
          have hn := (evn_some.mp hm).1
          obtain ⟨g0, h0, n0⟩ := rep1.out a m hn
          refine ⟨?_, st.nn a e3 h0 n0⟩
          cases e6 : G2 a with
          | none => rfl
          | some o =>
            rcases st.p a o e6 with z | z | z | ⟨xs, z⟩
            · rw [g0] at z; cases z
            · exact absurd z h0
            · exact absurd e3 z
            · exact absurd z (n0 xs)
        · intro hm; cases hm
    · by_cases hm : isOw δ1 i ∧ R.at i ∈ rs
      · obtain ⟨⟨b, o, e⟩, hm⟩ := hm
        obtain ⟨j, hj⟩ := List.mem_iff_getElem?.mp hm
        have hja : j < as.length := by rw [argsOf_len ha]; exact (List.getElem?_eq_some_iff.mp hj).1
        obtain ⟨r', hr', he⟩ := argsOf_get ha (List.getElem?_eq_getElem hja)
        rw [hj] at hr'
        cases hr'
        simp only [argOf, e, Option.some.injEq] at he
        obtain ⟨o', ho'⟩ := st.pn j o (by rw [List.getElem?_eq_getElem hja, he])
        rw [putB_at uq hj e ho'] at hs
        cases hs
        obtain ⟨v', hv', hd⟩ := rp.sl j _ ho'
        have hjv : j < vs.length := by rw [la]; exact hja
        rw [List.getElem?_map, List.getElem?_eq_getElem hjv] at hv'
        cases hv'
        have t : σ[i]? = some (some vs[j]) := rep1.tm j _ (.at i) (List.getElem?_eq_getElem hjv) hj
        refine ⟨_, t, RO.mono (fun _ _ h => h) (fun _ _ _ h => h) (fun a u ma _ => ?_) hd⟩
        show wbOf rs w1 w2 a = _
        unfold wbOf
        rw [ma]
        dsimp only
        rw [if_neg (by omega), show 2 * j / 2 = j by omega, hj]
      · have hne : ¬ isOw δ1 i ∨ R.at i ∉ rs := by
          by_cases z : isOw δ1 i
          · exact .inr fun z2 => hm ⟨z, z2⟩
          · exact .inl z
        rw [putB_ne hne] at hs
        have sl := rep1.sl i s hs
        cases s with
        | un => trivial
        | im d =>
          obtain ⟨v', hv', hd⟩ := sl
          exact ⟨v', hv', dp_mono st.g _ _ hd⟩
        | ex a dd C fs =>
          obtain ⟨h1, us, h2, h3⟩ := sl
          exact ⟨h1, us, st.g _ _ h2, h3.mono st.g⟩
        | ow b o =>
          have hni : R.at i ∉ rs := hne.elim (fun z => absurd ⟨b, o, hs⟩ z) id
          have wcn : ∀ a, w1 a = some (2 * i) → wcOf rs w1 a = none := fun a h => by
            unfold wcOf
            rw [h]
            dsimp only
            rw [if_neg (by omega), show 2 * i / 2 = i by omega]
            cases e : idxAt i rs with
            | none => rfl
            | some j => exact absurd (List.mem_of_getElem? (idxAt_some e)) hni
          obtain ⟨v', hv', hd⟩ := sl
          refine ⟨v', hv', RO.monoN st.g (fun a u hnt ma hu => st.bN a u hnt (wcn a ma) hu) (fun a u ma hu => ?_) hd⟩
          show wbOf rs w1 w2 a = _
          unfold wbOf
          cases e2 : w2 a with
          | some m => exact (nw a m _ e2 (wcn a ma) ma).elim
          | none =>
            dsimp only
            rw [wcn a ma]
            exact evn_some.mpr ⟨ma, by omega⟩
    · match j with
      | 0 =>
        simp only [List.getElem?_cons_zero, Option.some.injEq] at hu hp
        subst hu hp
        have t := rp.tm 0 v r rfl rfl
        cases r with
        | im d => exact t
        | ow o =>
          refine RO.mono (fun _ _ h => h) (fun _ _ _ h => h) (fun a u ma _ => ?_) t
          show wbOf rs w1 w2 a = _
          unfold wbOf
          rw [ma]
          rfl
        | «at» i => cases hr
      | j + 1 => simp at hu
end Pv
namespace Pv
open PySem PySem.Spec L2 Wf
variable {B : Bas}
section
variable {X : Cx} {tg l a b e e2 : Expr} {es : List Expr} {pl pa pb : PX} {p pos : Pos}
/-! ### words -/
theorem jv (i : Nat) {x : Str} {pos : Pos} (hN : X.N[i]? = some x := by rfl) (hv : Vis X.env.scope x := by first | exact Or.inl rfl | exact Or.inr (Or.inl rfl) | exact Or.inr (Or.inr rfl)) (hd : (x == ("__debug__" : Str)) = false := by decide)
    (hcd : (x == ("__classdict__" : Str)) = false := by decide) : JE X B (.Name x pos) (pVar i) := je_var hN hv hd hcd
/-- as data for good -/
def pFz (p : PX) : PX := fun δ Q => p δ fun r δ1 => ∃ d δ2, fz δ1 r = some (d, δ2) ∧ Q (.im d) δ2
theorem je_fz (h : JE X B e pa) : JE X B e (pFz pa) := PE_wk h fun σ H Q ⟨G, w, δ, Qp, rep, q, k⟩ => ⟨G, w, δ, _, rep, q, fun r δ1 v H1 G1 w1 q1 s1 rep1 => by
  obtain ⟨d, δ2, hz, q1⟩ := q1
  obtain ⟨G2, w2, s2, r2⟩ := rep1.fz1 (j := 0) rfl rfl hz
  exact k _ _ v H1 G2 w2 q1 (s1.trans s2) r2⟩
/-! ### enumerate -/
def enD (n : Nat) : List PyData → List PyData
  | [] => []
  | d :: ds => .tuple [.int (n : Int), d] :: enD (n + 1) ds
theorem enD_len : ∀ (n : Nat) (ds : List PyData), (enD n ds).length = ds.length
  | _, [] => rfl
  | n, d :: ds => by simp only [enD, List.length_cons, enD_len (n + 1) ds]
theorem enD_get : ∀ (n : Nat) (ds : List PyData) (i : Nat), (enD n ds)[i]? = (ds[i]?).map fun d => .tuple [.int ((n + i : Nat) : Int), d]
  | n, [], i => by simp [enD]
  | n, d :: ds, 0 => by simp [enD]
  | n, d :: ds, i + 1 => by
    simp only [enD, List.getElem?_cons_succ, enD_get (n + 1) ds i]
    have : n + 1 + i = n + (i + 1) := by omega
    rw [this]
theorem itd_enumL {K : PySem.W.Frag} {G : Hp} {a : Addr} {us : List V} {ds : List PyData} (ha : G a = some (.lst us)) (hd : DqAll K G us ds) : ItD K G (Ite K a) (enD 0 ds) where
  go := fun G' H' i sg sh hi => by
    rw [enD_len] at hi
    have hl := dqAll_len hd
    exact ⟨us, us[i]'(by omega), SqL.of (sh _ _ (sg _ _ ha)), by simp⟩
  yld := fun G' H' i x H2 sg sh hi y => by
    rw [enD_len] at hi
    obtain ⟨T, z, rfl, hT, rfl, y⟩ := y
    obtain ⟨v, hv, hq⟩ := dqAll_get hd (List.getElem?_eq_getElem hi)
    have e := y us (SqL.of (sh _ _ (sg _ _ ha)))
    rw [hv] at e
    cases e
    refine ⟨_, by rw [enD_get, List.getElem?_eq_getElem hi]; rfl, .inr ⟨T, _, _, rfl, hT, rfl, .cons ?_ (.cons (dp_mono sg _ _ hq) .nil), rfl⟩⟩
    rw [Nat.zero_add]
    exact .int _
  stop := fun G' H' sg sh => ⟨us, SqL.of (sh _ _ (sg _ _ ha)), by rw [enD_len, dqAll_len hd]; exact Nat.le_refl _⟩
theorem itd_enumT {K : PySem.W.Frag} {G : Hp} {a : Addr} {us : List V} {ds : List PyData} (ha : SqT K G a us) (hd : DqAll K G us ds) : ItD K G (ItT K a) (enD 0 ds) where
  go := fun G' H' i sg sh hi => by
    rw [enD_len] at hi
    have hl := dqAll_len hd
    exact ⟨us, us[i]'(by omega), Same.tp sh _ _ (Same.tp sg _ _ ha), by simp⟩
  yld := fun G' H' i x H2 sg sh hi y => by
    rw [enD_len] at hi
    obtain ⟨T, z, rfl, hT, rfl, y⟩ := y
    obtain ⟨v, hv, hq⟩ := dqAll_get hd (List.getElem?_eq_getElem hi)
    have e := y us (Same.tp sh _ _ (Same.tp sg _ _ ha))
    rw [hv] at e
    cases e
    refine ⟨_, by rw [enD_get, List.getElem?_eq_getElem hi]; rfl, .inr ⟨T, _, _, rfl, hT, rfl, .cons ?_ (.cons (dp_mono sg _ _ hq) .nil), rfl⟩⟩
    rw [Nat.zero_add]
    exact .int _
  stop := fun G' H' sg sh => ⟨us, Same.tp sh _ _ (Same.tp sg _ _ ha), by rw [enD_len, dqAll_len hd]; exact Nat.le_refl _⟩
def iEnumU (K : PySem.W.Frag) (ta : TA) : TI := fun σ H R => ta σ H fun vs H1 => ∃ a xs, vs = [.ref a] ∧ ((SqL K H1 a xs ∧ R (Ite K a) H1) ∨ (SqT K H1 a xs ∧ R (ItT K a) H1))
open PyProof.Rows in
theorem pi_enumU {ta : TA} {tpos : Pos} {elts : List Expr} {kk : Nat} (hg : Gl X "enumerate") (hm : X.mg "enumerate" = none) (ha : PA X [e] ta) (hs : starEach [e] X.env = [(false, eval e X.env)] := by rfl) :
    PI X (.Tuple elts kk tpos) (.Call (.Name "enumerate" p) [e] [] pos) (iEnumU X.K ta) := by
  refine ⟨fun pins s σ H R I h => ?_⟩
  refine Call_ (ld_blt I hg hm boot_enumerate (PyProof.Rows.callWith_type1 (thn (ha.run pos pins s σ H _ I h) fun us s1 ⟨vs, H1, I1, r1, q1⟩ => ?_) hs rfl))
  obtain ⟨a, xs, ex, ⟨hq, q⟩ | ⟨hq, q⟩⟩ := q1
  · subst ex
    cases r1 with
    | cons r rr =>
      cases rr
      cases r
      obtain ⟨its, rv, p', hz⟩ := I1.list hq
      refine call_enumerate_list p'.isList fun h' he hit hsz hk => wpAny_pyIter_enum he ?_
      have I2 : Inv X pins σ H1 { s1 with heap := h' } := I1.kept (t' := s1.toks) hk
      refine ⟨s1.heap.objs.size + 1, [s1.heap.objs.size + 1, s1.heap.objs.size], _, _, H1, rfl, I2, turn_enum a (s1.heap.objs.size + 1) s1.heap.objs.size, ⟨⟨.none, he⟩, hit, Nat.succ_ne_self _⟩, fun b hb => ?_, q⟩
      have e' : b = s1.heap.objs.size + 1 ∨ b = s1.heap.objs.size := by simpa using hb
      have hle : s1.heap.objs.size ≤ b := by
        rcases e' with z | z
        · rw [z]; exact Nat.le_add_right _ _
        · rw [z]; exact Nat.le_refl _
      exact I1.fpOk hle (I1.hok.fresh hle)
  · subst ex
    cases r1 with
    | cons r rr =>
      cases rr
      cases r
      obtain ⟨its, rv, pt, hz⟩ := I1.tuple hq
      refine call_enumT (show s1.heap.IsTuple a its.toArray from pt) fun h' en hit hsz hk => wpAny_pyIter_enum en ?_
      have I2 : Inv X pins σ H1 { s1 with heap := h' } := I1.kept (t' := s1.toks) hk
      refine ⟨s1.heap.objs.size + 1, [s1.heap.objs.size + 1, s1.heap.objs.size], _, _, H1, rfl, I2, turn_enumT a (s1.heap.objs.size + 1) s1.heap.objs.size, ⟨⟨.none, en⟩, hit, Nat.succ_ne_self _⟩, fun b hb => ?_, q⟩
      have le : s1.heap.objs.size ≤ b := by
        have eb : b = s1.heap.objs.size + 1 ∨ b = s1.heap.objs.size := by simpa using hb
        rcases eb with rfl | rfl
        · exact Nat.le_add_right _ _
        · exact Nat.le_refl _
      exact I1.fpOk le (I1.hok.fresh le)
def iEn (ps : PL) : PIx := fun δ Q => ps δ fun rs δ1 => ∃ d δ2 ds, fzAll δ1 rs = some ([d], δ2) ∧ seqD d = some ds ∧ Q (enD 0 ds) δ2
theorem vals1 {K : PySem.W.Frag} {G : Hp} {vs : List V} {d : PyData} (h : DqAll K G vs [d]) : ∃ v, vs = [v] ∧ Dq K G v d := by
  cases h with
  | cons h1 h2 => cases h2; exact ⟨_, rfl, h1⟩
theorem ji_enum {ps : PL} {tpos : Pos} {elts : List Expr} {kk : Nat} (hg : Gl X "enumerate") (hm : X.mg "enumerate" = none) (ha : JA X B [e] ps) (hs : starEach [e] X.env = [(false, eval e X.env)] := by rfl) :
    JI X B (.Tuple elts kk tpos) (.Call (.Name "enumerate" p) [e] [] pos) (iEn ps) := PI_wk (pi_enumU hg hm ha hs) fun σ H R ⟨G, w, δ, Qp, rep, q, k⟩ =>
  ⟨G, w, δ, _, rep, q, fun rs δ1 vs H1 G1 w1 q1 _ s1 rep1 => by
    obtain ⟨d, δ2, ds, hz, hs, q1⟩ := q1
    obtain ⟨G2, w2, s2, r2⟩ := rep1.fzs hz
    obtain ⟨v, rfl, hd⟩ := vals1 (r2.ims)
    cases d with
    | list es =>
      cases hs
      cases hd with
      | lst ha hds => exact ⟨_, _, rfl, .inl ⟨SqL.of (r2.sub _ _ ha), k _ δ2 _ H1 G2 _ q1 ((s1.trans s2).trans .drop) r2.drop (itd_enumL ha hds)⟩⟩
    | tuple es =>
      cases hs
      cases hd with
      | tup ha hds => exact ⟨_, _, rfl, .inr ⟨Same.tp r2.sub _ _ ha, k _ δ2 _ H1 G2 _ q1 ((s1.trans s2).trans .drop) r2.drop (itd_enumT ha hds)⟩⟩
    | none => cases hs
    | bool _ => cases hs
    | int _ => cases hs
    | str _ => cases hs
    | dict _ => cases hs⟩
/-! ### zip -/
def zipD : List PyData → List PyData → List PyData
  | x :: xs, y :: ys => .tuple [x, y] :: zipD xs ys
  | _, _ => []
theorem zipD_len : ∀ (xs ys : List PyData), (zipD xs ys).length = min xs.length ys.length
  | [], _ => by simp [zipD]
  | _ :: _, [] => by simp [zipD]
  | x :: xs, y :: ys => by simp only [zipD, List.length_cons, zipD_len xs ys]; omega
theorem zipD_get : ∀ (xs ys : List PyData) (i : Nat) {x y : PyData}, xs[i]? = some x → ys[i]? = some y → (zipD xs ys)[i]? = some (.tuple [x, y])
  | [], _, _, _, _, h, _ => by simp at h
  | _ :: _, [], _, _, _, _, h => by simp at h
  | x :: xs, y :: ys, 0, _, _, h1, h2 => by simp at h1 h2; subst h1 h2; rfl
  | x :: xs, y :: ys, i + 1, _, _, h1, h2 => by
    simp only [zipD, List.getElem?_cons_succ]
    exact zipD_get xs ys i (by simpa using h1) (by simpa using h2)
/-! ### defs of the module -/
def noX : EX := fun _ _ => False
theorem xok_no {K : PySem.W.Frag} {E : XK} : XOk K B noX E := fun _ _ _ _ _ h => h.elim
theorem je_cal {k j : Nat} {x : Str} {pn : List Str} {psp : PSp} {ps : PL} (C : Cal X.prog X.w X.K X.mg X.base CX0 k x pn (LSp X.K B.T psp)) (hr : Room j X.A) (hg : Gl X x) (ha : JA X B (e :: es) ps) (hk : k ≤ j := by decide)
    (hdb : (x == ("__debug__" : Str)) = false := by decide) (he : starEach (e :: es) X.env = (false, eval e X.env) :: starEach es X.env := by rfl) (hpl : (backTo pos (starEach es X.env)).any (·.1) = false := by rfl) :
    JE X B (.Call (.Name x p) (e :: es) [] pos) (pCall psp ps noX) := PE_wk (pe_cal C hr hg ha hk hdb he hpl) fun σ H Q h => call_lift xok_no h
/-- .. that may raise; the error leaves this def too -/
theorem je_calX {k j : Nat} {x : Str} {pn : List Str} {psp : PSp} {ps : PL} {W : WX} {E : XK} {Ep : EX} (C : CalX X.prog X.w X.K X.mg X.base k x pn (LSp X.K B.T psp)) (hr : Room j X.A) (tk : Takes X W) (hW : ∀ cls d σ H, E cls d H → W cls d σ H) (hx : XOk X.K B Ep E) (hg : Gl X x) (ha : JA X B (e :: es) ps) (hk : k ≤ j := by decide)
    (hdb : (x == ("__debug__" : Str)) = false := by decide) (he : starEach (e :: es) X.env = (false, eval e X.env) :: starEach es X.env := by rfl) (hpl : (backTo pos (starEach es X.env)).any (·.1) = false := by rfl) :
    JE X B (.Call (.Name x p) (e :: es) [] pos) (pCall psp ps Ep) := PE_wk (pe_calX C hr tk hW hg ha hk hdb he hpl) fun σ H Q h => call_lift hx h
/-! ### repr -/
end
/-! ### a def keeps its promise -/
theorem fn_ok {T : List NdefX.NTab} {P : Program} {w : World} {K : PySem.W.Frag} {mg : Str → Option Value} {base : Heap} {CX : CXT} {k : Nat} {f : Addr} {fd : FuncData} {x qual : Str} {params : Arguments} {body : List Stmt} {scope : Scope} {dvs : List V} {kws : List (Str × V)} {N prm : List Str} {psp : PSp} {p : EX → PSx} {m n : Nat}
    (F : FunD K x qual params body scope dvs kws f fd) (S : FnScope N prm scope) (hN : N.length = m) (hn : prm.length = n) (hnm : n ≤ m) (hlen : ∀ as Qp Ep, psp as Qp Ep → as.length = n)
    (hb : ∀ (cdv : Value) (A : Around) (outer : List Env) (s : Shared) (H : Hp) (E : XK) (Bh Bt : Hp) (Ep : EX), Room k (A.deeper (PyProof.Rows.envOfC qual scope s.heap.objs.size f cdv)) → XOk K ⟨Bh, Bt, T⟩ Ep E → JSs (cxOf CX P w K mg base N qual scope f cdv A outer s H E) ⟨Bh, Bt, T⟩ body (p Ep))
    (hp : ∀ as Qp Ep, psp as Qp Ep → p Ep (endsP as Qp) (as ++ List.replicate (m - n) .un)) : FnOk P w K mg base CX (k + 1) f fd prm (LSp K T psp) := by
  have ln : ∀ vs H Q E, LSp K T psp vs H Q E → vs.length = n := fun vs H Q E ⟨G, w, as, Qp, Ep, rep, _, h, _⟩ => by
    have := rep.len
    rw [List.length_map, hlen as Qp Ep h] at this
    exact this
  refine F.ok S (fun vs H Q E h => by rw [hn]; exact ln vs H Q E h) fun cdv A outer s H vs Q E hr h => ?_
  obtain ⟨Bh, Bt, Ep, hx, hl⟩ := fn_lift (N := N) (p := p) hN (fun as Qp Ep h => by rw [hlen as Qp Ep h]; exact hp as Qp Ep h) h (by rw [ln vs H Q E h]; exact hnm)
  exact ⟨_, hb cdv A outer s H E Bh Bt Ep hr hx, hl⟩
theorem JSs.nox {X : Cx} {st : List Stmt} {p : PSx} (h : JSs X.nox B st p) : JSs X B st p := PSs.nox h
end Pv
/-! errors of one field -/
namespace Wf
open PySem PySem.Spec PyProof.Rows L2
def sp_init1 (K : PySem.W.Frag) (C : Addr) (f1 : Str) : Sp := fun vs H Q _ => ∃ (a : Addr) (w : V), vs = [.ref a, w] ∧ H a = some (exo a C none) ∧
  ∀ dx, H dx = none → dx ≠ a → Q .non (upd (upd H dx (exd dx [(f1, w)])) a (exo a C (some dx)))
def t_init1 (K : PySem.W.Frag) (f1 txt : Str) : TS := tSeq (tDrop (tVeI K (tCons (tVar 0) (tCons (tC (.str txt)) tNil)))) (tOst K f1 (tVar 0) (tVar 1))
theorem pure_init1 {K : PySem.W.Frag} {C : Addr} {f1 txt : Str} (O : OexC K C) (n1 : PySem.W.findIn K (.ref C) f1 = some none) (vs : List V) (H : Hp) (Q : VK) (E : XK) (h : sp_init1 K C f1 vs H Q E) :
    t_init1 K f1 txt (EndsQ Q) (sN 2 vs) H := by
  obtain ⟨a, w, rfl, ha, k⟩ := h
  show t_init1 K f1 txt _ [some (.ref a), some w] H
  refine ⟨_, rfl, a, C, [.str txt], rfl, (by show 1 ≤ 1000; decide), O, ha, ?_⟩
  exact ⟨_, rfl, _, rfl, a, C, rfl, O, n1, .inl ⟨ha, fun dx hd ne => k dx hd ne⟩⟩
structure Err1 (P : Program) (w : World) (K : PySem.W.Frag) (mg : Str → Option Value) (base : Heap) (x f1 : Str) (C : Addr) : Prop where
  g : mg x = some (.ref C)
  o : OexC K C
  ini : ∃ fI fd, PySem.W.findIn K (.ref C) "__init__" = some (some (.ref fI)) ∧ PySem.W.typeIn K (.ref fI) = some (.type "function") ∧ FnOk P w K mg base CX0 1 fI fd ["self", f1] (sp_init1 K C f1) ∧ Binds K fd ["self", f1] []
def tRz1 (C : Addr) (f1 : Str) (W : WX) (ta : TA) : TS := fun _ σ H => ta σ H fun vs H1 => ∃ w, vs = [w] ∧ ∀ d, H1 d = none → W (.ref C) (some d) σ (upd H1 d (.xd [(f1, w)]))
theorem ps_rz1 {X : Cx} {x f1 : Str} {C : Addr} {W : WX} {e1 : Expr} {ta : TA} {p pos pos2 : Pos} {j : Nat} (T : Err1 X.prog X.w X.K X.mg X.base x f1 C) (hr : Room j X.A) (hc : X.calm = true) (tk : Takes X W) (hg : Gl X x) (ha : PA X [e1] ta) (hk : 2 ≤ j := by decide)
    (hdb : (x == ("__debug__" : Str)) = false := by decide) (he : starEach (e1 :: []) X.env = (false, eval e1 X.env) :: starEach [] X.env := by rfl) (hpl : (backTo pos (starEach [] X.env)).any (·.1) = false := by rfl) :
    PS X (.Raise (some (.Call (.Name x p) [e1] [] pos)) none pos2) (tRz1 C f1 W ta) := by
  obtain ⟨fI, fd, iC, tI, F, hb⟩ := T.ini
  have R := ps_raise (pos := pos2) hc tk (pmk_oex (p := p) (pos := pos) T.o iC tI F (hr.mono hk) hb .nil pass0 hg T.g (pa_up ha) hdb he hpl)
  refine ⟨fun pins s σ H D I h => R.run pins s σ H D I ⟨_, h, fun vs H1 q => ?_⟩⟩
  obtain ⟨w, rfl, q⟩ := q
  refine ⟨by show 1 ≤ 1000; decide, fun a ha1 => ⟨a, w, rfl, upd_same, fun dx hd ne => ⟨rfl, dx, [(f1, w)], upd_same, ?_, ?_, ?_⟩⟩⟩
  · rw [upd_ne ne, upd_same]
  · rw [upd_ne ne] at hd
    exact hd
  · have hd1 : H1 dx = none := by
      rw [upd_ne ne] at hd
      exact hd
    have ef : upd (del (upd (upd (upd H1 a (exo a C none)) dx (exd dx [(f1, w)])) a (exo a C (some dx))) a) dx (.xd [(f1, w)]) = upd H1 dx (.xd [(f1, w)]) := by
      funext b
      by_cases h1 : b = dx
      · rw [h1, upd_same, upd_same]
      · rw [upd_ne h1, upd_ne h1]
        by_cases h2 : b = a
        · rw [h2, del_same, ha1]
        · rw [del_ne h2, upd_ne h2, upd_ne h1, upd_ne h2]
    rw [ef]
    exact q dx hd1
end Wf
namespace Pv
open PySem PySem.Spec L2 Wf
variable {B : Bas}
/-! ### raise -/
def pRaise (C : Addr) (fs : List Str) (ps : PL) (Ep : EX) : PSx := fun _ δ => ps δ fun rs δ1 => ∃ ds δ2, fzAll δ1 rs = some (ds, δ2) ∧ noLAll ds = true ∧ Ep C ((fs.zip ds).reverse)
theorem raise_ok {K : PySem.W.Frag} {G H : Hp} {σ : St} {δ : List Sl} {vs : List V} {rs : List R} {w : Addr → Option Nat} {C : Addr} {Ep : EX} {E : XK} {d : Addr} {us : List (Str × V)} {fs : List (Str × PyData)} (hx : XOk K B Ep E) (rep : Rep K B G H σ δ vs rs w) (he : Ep C fs) (hd : H d = none) (hf : FlP K (upd H d (.xd us)) us fs) : E (.ref C) (some d) (upd H d (.xd us)) :=
  hx C fs us d _ he (fun a o ha => by
    have := (rep.bs.to a o ha).1
    rw [upd_ne (ne_of_none this hd)]
    exact this) (rep.bs.tt.trans (tabs_new hd)) (by
    cases e : B d with
    | none => rfl
    | some o => rw [(rep.bs.to d o e).1] at hd; cases hd) upd_same hf
theorem dq_upd {K : PySem.W.Frag} {G H : Hp} {d : Addr} {o : HO} {v : V} {x : PyData} (s : Same G H) (hd : H d = none) (h : Dq K G v x) : Dp K (upd H d o) v x :=
  dq_dp (fun a u ha => by rw [upd_ne (ne_of_none (s a u ha) hd)]; exact s a u ha) _ _ h
theorem noLAll_1 {d : PyData} (h : noLAll [d] = true) : noL d = true := by
  have : (noL d && true) = true := h
  simpa using this
theorem noLAll_2 {d e : PyData} (h : noLAll [d, e] = true) : noL d = true ∧ noL e = true := by
  have : (noL d && (noL e && true)) = true := h
  simpa using this
section
variable {X : Cx} {p pos pos2 : Pos}
theorem js_rz1 {x f1 : Str} {C : Addr} {E : XK} {Ep : EX} {e1 : Expr} {ps : PL} {j : Nat} (T : Err1 X.prog X.w X.K X.mg X.base x f1 C) (hr : Room j X.A) (hc : X.calm = true) (tk : Takes X fun cls d _ H => E cls d H) (hx : XOk X.K B Ep E) (hg : Gl X x) (ha : JA X B [e1] ps) (hk : 2 ≤ j := by decide)
    (hdb : (x == ("__debug__" : Str)) = false := by decide) (he : starEach (e1 :: []) X.env = (false, eval e1 X.env) :: starEach [] X.env := by rfl) (hpl : (backTo pos (starEach [] X.env)).any (·.1) = false := by rfl) :
    JS X B (.Raise (some (.Call (.Name x p) [e1] [] pos)) none pos2) (pRaise C [f1] ps Ep) := PS_wk (ps_rz1 T hr hc tk hg ha hk hdb he hpl) fun D σ H ⟨G, w, δ, E', rep, h, ek⟩ =>
  ⟨G, w, δ, _, rep, h, fun rs δ1 vs H1 G1 w1 q1 l1 s1 rep1 => by
    obtain ⟨ds, δ2, hz, hn, q1⟩ := q1
    obtain ⟨G2, w2, s2, r2⟩ := rep1.fzs hz
    have hd := r2.ims
    have hl : vs.length = 1 := rep1.tlen.trans l1
    match vs, ds, hd, hl, hn, q1 with
    | [v], [d], .cons h1 .nil, _, hn, q1 => exact ⟨v, rfl, fun dd hdd => raise_ok hx r2 q1 hdd (.cons (dq_upd r2.sub hdd h1) (noLAll_1 hn) .nil)⟩⟩
theorem js_rz2 {x f1 f2 : Str} {C : Addr} {E : XK} {Ep : EX} {e1 e2 : Expr} {ps : PL} {j : Nat} (T : Err2 X.prog X.w X.K X.mg X.base x f1 f2 C) (hr : Room j X.A) (hc : X.calm = true) (tk : Takes X fun cls d _ H => E cls d H) (hx : XOk X.K B Ep E) (hg : Gl X x) (ha : JA X B [e1, e2] ps) (hk : 2 ≤ j := by decide)
    (hdb : (x == ("__debug__" : Str)) = false := by decide) (he : starEach (e1 :: [e2]) X.env = (false, eval e1 X.env) :: starEach [e2] X.env := by rfl) (hpl : (backTo pos (starEach [e2] X.env)).any (·.1) = false := by rfl) :
    JS X B (.Raise (some (.Call (.Name x p) [e1, e2] [] pos)) none pos2) (pRaise C [f1, f2] ps Ep) := PS_wk (ps_rz2 T hr hc tk hg ha hk hdb he hpl) fun D σ H ⟨G, w, δ, E', rep, h, ek⟩ =>
  ⟨G, w, δ, _, rep, h, fun rs δ1 vs H1 G1 w1 q1 l1 s1 rep1 => by
    obtain ⟨ds, δ2, hz, hn, q1⟩ := q1
    obtain ⟨G2, w2, s2, r2⟩ := rep1.fzs hz
    have hd := r2.ims
    have hl : vs.length = 2 := rep1.tlen.trans l1
    match vs, ds, hd, hl, hn, q1 with
    | [v, u], [d, e], .cons h1 (.cons h2 .nil), _, hn, q1 => exact ⟨v, u, rfl, fun dd hdd => raise_ok hx r2 q1 hdd (.cons (dq_upd r2.sub hdd h2) (noLAll_2 hn).2 (.cons (dq_upd r2.sub hdd h1) (noLAll_2 hn).1 .nil))⟩⟩
end
/-! ### all tuples are public -/
open Classical in
noncomputable def pubT (G H : Hp) (x : Option (Addr × HO)) : Hp := fun a => match x with
  | some (d, o) => if a = d then some o else match G a with
    | some u => some u
    | none => if ∃ xs, RdX H a xs then H a else none
  | none => match G a with
    | some u => some u
    | none => if ∃ xs, RdX H a xs then H a else none
open Classical in
theorem pubT_some {G H : Hp} {x : Option (Addr × HO)} {a : Addr} {o : HO} (h : pubT G H x a = some o) : (∃ u, x = some (a, u) ∧ o = u) ∨ G a = some o ∨ (H a = some o ∧ ∃ xs, RdX H a xs) := by
  unfold pubT at h
  have go : (match G a with
    | some u => some u
    | none => if ∃ xs, RdX H a xs then H a else none) = some o → G a = some o ∨ (H a = some o ∧ ∃ xs, RdX H a xs) := fun h => by
    cases e : G a with
    | some u => rw [e] at h; exact .inl h
    | none =>
      rw [e] at h
      dsimp only at h
      split at h
      · rename_i z; exact .inr ⟨h, z⟩
      · cases h
  cases x with
  | none => exact .inr (go h)
  | some p =>
    obtain ⟨d, u⟩ := p
    dsimp only at h
    split at h
    · rename_i e; subst e; cases h; exact .inl ⟨_, rfl, rfl⟩
    · exact .inr (go h)
open Classical in
theorem pubT_g {G H : Hp} {x : Option (Addr × HO)} (hx : ∀ d u, x = some (d, u) → G d = none) : Same G (pubT G H x) := fun a o h => by
  unfold pubT
  cases x with
  | none => rw [h]
  | some p =>
    obtain ⟨d, u⟩ := p
    dsimp only
    rw [if_neg (fun e => by subst e; rw [hx a u rfl] at h; cases h), h]
open Classical in
theorem pubT_tup {K : PySem.W.Frag} {G H : Hp} {x : Option (Addr × HO)} (s : Same G H) (hx : ∀ d u, x = some (d, u) → NoT H d) {a : Addr} {xs : List V} (h : SqT K H a xs) : SqT K (pubT G H x) a xs := by
  rcases h with h | h
  · refine .inl ?_
    have e : pubT G H x a = H a := by
      have body : (match G a with
        | some u => some u
        | none => if ∃ xs, RdX H a xs then H a else none) = H a := by
        cases e : G a with
        | some u => exact (s a u e).symm
        | none => dsimp only; rw [if_pos ⟨some xs, h⟩]
      unfold pubT
      cases x with
      | none => exact body
      | some p =>
        obtain ⟨d, u⟩ := p
        dsimp only
        rw [if_neg (fun e => by subst e; exact hx a u rfl xs h)]
        exact body
    rcases h with h | ⟨o, h⟩
    · exact .inl (by rw [e]; exact h)
    · exact .inr ⟨o, by rw [e]; exact h⟩
  · exact .inr h
mutual
theorem dp_pub {K : PySem.W.Frag} {G H : Hp} {x : Option (Addr × HO)} (s : Same G H) (hx : ∀ d u, x = some (d, u) → NoT H d) : ∀ (d : PyData) (v : V), noL d = true → Dp K H v d → Dq K (pubT G H x) v d
  | .none, _, _, h => by cases h; exact .non
  | .bool b, _, _, h => by cases h; exact .bl b
  | .int i, _, _, h => by cases h; exact .int i
  | .str x, _, _, h => by cases h; exact .str x
  | .list _, _, n, _ => nomatch n
  | .dict _, _, _, h => by cases h
  | .tuple ds, _, n, h => by
    cases h with
    | tup hs ha => exact .tup (pubT_tup s hx hs) (dpAll_pub s hx ds _ n ha)
theorem dpAll_pub {K : PySem.W.Frag} {G H : Hp} {x : Option (Addr × HO)} (s : Same G H) (hx : ∀ d u, x = some (d, u) → NoT H d) : ∀ (ds : List PyData) (vs : List V), noLAll ds = true → DpAll K H vs ds → DqAll K (pubT G H x) vs ds
  | [], _, _, h => by cases h; exact .nil
  | d :: ds, _, n, h => by
    have n2 : (noL d && noLAll ds) = true := n
    rw [Bool.and_eq_true] at n2
    cases h with
    | cons h1 h2 => exact .cons (dp_pub s hx d _ n2.1 h1) (dpAll_pub s hx ds _ n2.2 h2)
end
/-- all that stood stands; new things beside, the tuples public now -/
theorem Rep.pub {K : PySem.W.Frag} {G H H2 : Hp} {σ : St} {δ : List Sl} {w : Addr → Option Nat} (r : Rep K B G H σ δ [] [] w) {x : Option (Addr × HO)} (s : ∀ a o, NT o → H a = some o → H2 a = some o) (tg : TbG B.T H H2) (hx : ∀ d u, x = some (d, u) → H d = none ∧ H2 d = some u ∧ NT u) :
    Stp B.T G H w δ (pubT G H2 x) H2 w δ ∧ Rep K B (pubT G H2 x) H2 σ δ [] [] w := by
  have gx : ∀ d u, x = some (d, u) → G d = none := fun d u e => by
    cases e2 : G d with
    | none => rfl
    | some o => have := r.sub d o e2; rw [(hx d u e).1] at this; cases this
  have sg := pubT_g (H := H2) gx
  have both : ∀ a o, H a = some o → H2 a = some o ∨ ∃ ps qs, o = .tbl ps ∧ H2 a = some (.tbl qs) := fun a o h => by
    by_cases hn : NT o
    · exact .inl (s a o hn h)
    · have : ∃ ps, o = .tbl ps := Classical.byContradiction fun z => hn fun ps e => z ⟨ps, e⟩
      obtain ⟨ps, rfl⟩ := this
      obtain ⟨qs, h2⟩ := tg.st a ps h
      exact .inr ⟨ps, qs, rfl, h2⟩
  have ngt : ∀ {a : Addr} {o : HO}, G a = some o → NT o := fun {a o} h ps e => r.bs.gt a ps (by rw [h, e])
  have st : Stp B.T G H w δ (pubT G H2 x) H2 w δ := by
    refine ⟨sg, fun a o _ h => both a o h, fun a i h => .inl (by rw [h]; exact Option.some_ne_none _), fun a o h => ?_, .refl _, tg, fun a ps h => ?_⟩
    rotate_left
    · rcases pubT_some h with ⟨u, e, z⟩ | h | ⟨h, xs, hr⟩
      · exact absurd z.symm ((hx a u e).2.2 ps)
      · exact h
      · exact absurd hr (NoX.tbl h xs)
    rcases pubT_some h with ⟨u, e, _⟩ | h | ⟨h, xs, hr⟩
    · exact .inr (.inl (hx a u e).1)
    · exact .inl h
    · cases e : H a with
      | none => exact .inr (.inl rfl)
      | some u =>
        refine .inr (.inr (.inr ⟨xs, ?_⟩))
        rcases both a u e with e2 | ⟨_, _, _, e2⟩
        · exact RdX.same e e2 hr
        · exact absurd hr (NoX.tbl e2 xs)
  refine ⟨st, fun a o h => ?_, fun a i h => ?_, r.len, fun i sl h => ((r.sl i sl h).monoN sg (fun a u hn _ hu => s a u hn hu) fun a u ma _ => ma), rfl, fun j v q hv => by simp at hv, st.bs r.bs⟩
  · rcases pubT_some h with ⟨u, e, rfl⟩ | h | ⟨h, _⟩
    · exact (hx a _ e).2.1
    · exact s a o (ngt h) (r.sub a o h)
    · exact h
  · obtain ⟨g0, h0, n0⟩ := r.out a i h
    cases e : H a with
    | none => exact absurd e h0
    | some u =>
      have n2 : H2 a ≠ none ∧ NoX H2 a := by
        rcases both a u e with e2 | ⟨_, _, _, e2⟩
        · exact ⟨by rw [e2]; exact Option.some_ne_none _, n0.same e e2⟩
        · exact ⟨by rw [e2]; exact Option.some_ne_none _, NoX.tbl e2⟩
      refine ⟨?_, n2⟩
      cases e3 : pubT G H2 x a with
      | none => rfl
      | some o =>
        rcases pubT_some e3 with ⟨u', e', _⟩ | h' | ⟨_, xs, hr⟩
        · have := (hx a u' e').1; rw [e] at this; cases this
        · rw [g0] at h'; cases h'
        · exact absurd hr (n2.2 xs)
theorem flp_fl {K : PySem.W.Frag} {G H : Hp} {x : Option (Addr × HO)} (s : Same G H) (hx : ∀ d u, x = some (d, u) → NoT H d) : ∀ {us : List (Str × V)} {fs : List (Str × PyData)}, FlP K H us fs → Fl K (pubT G H x) us fs
  | _, _, .nil => .nil
  | _, _, .cons h1 h2 h3 => .cons (dp_pub s hx _ _ h2 h1) (flp_fl s hx h3)
/-! ### try: name = an expression with one call that may raise -/
abbrev HX := Addr → List (Str × PyData) → List Sl → Prop
abbrev PXx := List Sl → QE → HX → Prop
def LEx (K : PySem.W.Frag) (B : Bas) (W : WX) (p : PXx) : TE := fun σ H Q => ∃ G w δ Qp Hd, Rep K B G H σ δ [] [] w ∧ p δ Qp Hd ∧ (∀ r δ' v H' G' w', Qp r δ' → Stp B.T G H w δ G' H' w' δ' → Rep K B G' H' σ δ' [v] [r] w' → Q v H') ∧
  ∀ C fs us d δ' H' G' w', Hd C fs δ' → Stp B.T G H w δ G' H' w' δ' → Rep K B G' H' σ δ' [] [] w' → G' d = some (.xd us) → Fl K G' us fs → W (.ref C) (some d) σ H'
def JX (X : Cx) (B : Bas) (W : WX) (e : Expr) (p : PXx) : Prop := PE X e (LEx X.K B W p)
/-- all arguments are data -/
def imsOf : List R → Option (List PyData)
  | [] => some []
  | .im d :: rs => (imsOf rs).map (d :: ·)
  | _ :: _ => none
theorem imsOf_eq : ∀ {rs : List R} {ds : List PyData}, imsOf rs = some ds → rs = ds.map .im
  | [], _, h => by cases h; rfl
  | .im d :: rs, ds, h => by
    obtain ⟨es, h1, rfl⟩ := Option.map_eq_some_iff.mp (show (imsOf rs).map (d :: ·) = some ds from h)
    rw [imsOf_eq h1]
    rfl
  | .ow o :: rs, _, h => by cases h
  | .at i :: rs, _, h => by cases h
def xCall (ps : PSp) (pa : PL) : PXx := fun δ Q Hd => pa δ fun rs δ1 => ∃ ds, imsOf rs = some ds ∧ ps (ds.map .im) (fun r _ => Q r δ1) fun C fs => Hd C fs δ1
theorem xcall_lift {K : PySem.W.Frag} {W : WX} {ps : PSp} {pa : PL} {n : Nat} {σ : St} {H : Hp} {Q : VK} (h : LEx K B W (xCall ps pa) σ H Q) : tCallS (LSp K B.T ps) (WE W) (LA K B n pa) σ H Q := by
  obtain ⟨G, w, δ, Qp, Hd, rep, q, k, x⟩ := h
  refine ⟨G, w, δ, _, rep, q, fun rs δ1 vs H1 G1 w1 q1 _ s1 rep1 => ?_⟩
  obtain ⟨ds, hi, q1⟩ := q1
  have er := imsOf_eq hi
  subst er
  have hd := rep1.ims
  have hl := dqAll_len hd
  have bs0 : BsOk (B0 B.T H1 (fun _ => none)) G1 H1 (fun _ => none) := ⟨fun a o h => B0_some h, .refl, rep1.bs.tt.ts rep1.bs.ta, rep1.bs.gt⟩
  refine ⟨G1, fun _ => none, ds.map .im, _, _, ⟨rep1.sub, fun a i h => (nomatch h), by rw [List.length_map, List.length_map]; exact hl, fun j s hs => ?_, rfl, fun j v r hv => by simp at hv, bs0⟩, fun s hs => ?_, q1, fun r os v H2 G2 w2 hq hr st rp => ?_, fun C fs us d H2 he hs htb hbd hdd hf => ?_⟩
  · rw [List.getElem?_map] at hs
    obtain ⟨d, h1, rfl⟩ := Option.map_eq_some_iff.mp hs
    obtain ⟨v, hv, hq⟩ := dqAll_get hd h1
    exact ⟨v, by rw [List.getElem?_map, hv]; rfl, hq⟩
  · obtain ⟨d, _, rfl⟩ := List.mem_map.mp hs
    exact .inr (.inl ⟨d, rfl⟩)
  · -- nothing of ours was handed on: frame
    have same : ∀ a o, NT o → H1 a = some o → H2 a = some o := fun a o hn ha => st.bN a o hn rfl ha
    have rd := rep1.drop
    have w2n : ∀ a i, evn (w1 a) = some i → w2 a = none := fun a i h => by
      cases e : w2 a with
      | none => rfl
      | some m =>
        rcases st.n a m e with z | z
        · exact absurd rfl z
        · exact absurd z (rd.out a i h).2.1
    have out2 : ∀ a i, evn (w1 a) = some i → G2 a = none ∧ H2 a ≠ none ∧ NoX H2 a := fun a i h => by
      obtain ⟨g0, h0, n0⟩ := rd.out a i h
      refine ⟨?_, st.nn a rfl h0 n0⟩
      cases e6 : G2 a with
      | none => rfl
      | some o =>
        rcases st.p a o e6 with z | z | z | ⟨xs, z⟩
        · rw [g0] at z; cases z
        · exact absurd z h0
        · exact absurd rfl z
        · exact absurd z (n0 xs)
    let wf : Addr → Option Nat := fun a => match w2 a with
      | some m => if m % 2 = 1 then some m else none
      | none => evn (w1 a)
    have st' : Stp B.T G1 H1 w1 δ1 G2 H2 wf δ1 := by
      refine ⟨st.g, fun a o _ ho => st.b a o rfl ho, fun a m hm => ?_, fun a o ho => ?_, .refl _, st.t, st.q⟩
      · cases e2 : w2 a with
        | some m2 =>
          rcases st.n a m2 e2 with z | z
          · exact absurd rfl z
          · exact .inr z
        | none =>
          have hm' : evn (w1 a) = some m := by
            have : wf a = evn (w1 a) := by show (match w2 a with | some m => if m % 2 = 1 then some m else none | none => evn (w1 a)) = _; rw [e2]
            rw [← this]; exact hm
          exact .inl (by rw [(evn_some.mp hm').1]; exact Option.some_ne_none _)
      · rcases st.p a o ho with z | z | z | z
        · exact .inl z
        · exact .inr (.inl z)
        · exact absurd rfl z
        · exact .inr (.inr (.inr z))
    refine k r δ1 v H2 G2 wf hq (s1.trans st') ⟨rp.sub, fun a m hm => ?_, rep1.len, fun i s hs => ?_, rfl, fun j u p hu hp => ?_, st'.bs rep1.bs⟩
    · cases e2 : w2 a with
      | some m2 => exact rp.out a m2 e2
      | none =>
        have hm' : evn (w1 a) = some m := by
          have : wf a = evn (w1 a) := by show (match w2 a with | some m => if m % 2 = 1 then some m else none | none => evn (w1 a)) = _; rw [e2]
          rw [← this]; exact hm
        exact out2 a m hm'
    · refine (rd.sl i s hs).monoN st.g (fun a u hn ma hu => same a u hn hu) fun a u ma hu => ?_
      have ma' : evn (w1 a) = some (2 * i) := ma
      show (match w2 a with | some m => if m % 2 = 1 then some m else none | none => evn (w1 a)) = _
      rw [w2n a _ ma']
      exact ma'
    · match j with
      | 0 =>
        simp only [List.getElem?_cons_zero, Option.some.injEq] at hu hp
        subst hu hp
        have t := rp.tm 0 v r rfl rfl
        cases r with
        | im d => exact t
        | ow o =>
          refine RO.mono (fun _ _ h => h) (fun _ _ _ h => h) (fun a u ma _ => ?_) t
          show (match w2 a with | some m => if m % 2 = 1 then some m else none | none => evn (w1 a)) = _
          rw [ma]
          rfl
        | «at» i => cases hr
      | j + 1 => simp at hu
  · -- an error: all stands
    have same : ∀ a o, NT o → H1 a = some o → H2 a = some o := fun a o hn ha => hs a o (nTb_of ha hn)
    have hd1 : H1 d = none := by
      have hb : nTb (H1 d) = none := hbd
      cases e : H1 d with
      | none => rfl
      | some o =>
        by_cases hn : NT o
        · rw [nTb_of e hn] at hb; cases hb
        · have : ∃ ps, o = .tbl ps := Classical.byContradiction fun z => hn fun ps e => z ⟨ps, e⟩
          obtain ⟨ps, rfl⟩ := this
          obtain ⟨qs, h2⟩ := htb.st d ps e
          rw [hdd] at h2
          cases h2
    have rd := rep1.drop
    have hx : ∀ d' u, some (d, HO.xd us) = some (d', u) → H1 d' = none ∧ H2 d' = some u ∧ NT u := fun d' u e => by cases e; exact ⟨hd1, hdd, nofun⟩
    obtain ⟨s2, r2⟩ := rd.pub (x := some (d, .xd us)) same htb hx
    have nt : ∀ d' u, some (d, HO.xd us) = some (d', u) → NoT H2 d' := fun d' u e => by
      cases e
      intro xs z
      rcases z with z | ⟨ob, z⟩ <;> rw [hdd] at z <;> cases z
    refine x C fs us d δ1 H2 _ _ he ((s1.trans .drop).trans s2) r2 ?_ (flp_fl (fun a o h => same a o (fun ps e => rep1.bs.gt a ps (by rw [h, e])) (rep1.sub a o h)) nt hf)
    unfold pubT
    dsimp only
    rw [if_pos rfl]
end Pv
namespace Pv
open PySem PySem.Spec L2 Wf
variable {B : Bas}
section
variable {X : Cx} {W : WX} {e e1 e2 a b c : Expr} {es : List Expr} {p pos : Pos}
theorem jx_call {k j : Nat} {x : Str} {pn : List Str} {psp : PSp} {ps : PL} (C : CalX X.prog X.w X.K X.mg X.base k x pn (LSp X.K B.T psp)) (hr : Room j X.A) (tk : Takes X W) (hg : Gl X x) (ha : JA X B (e :: es) ps) (hk : k ≤ j := by decide)
    (hdb : (x == ("__debug__" : Str)) = false := by decide) (he : starEach (e :: es) X.env = (false, eval e X.env) :: starEach es X.env := by rfl) (hpl : (backTo pos (starEach es X.env)).any (·.1) = false := by rfl) :
    JX X B W (.Call (.Name x p) (e :: es) [] pos) (xCall psp ps) := PE_wk (pe_calT C hr tk hg ha hk hdb he hpl) fun σ H Q h => xcall_lift h
def xIf (c : PB) (a b : PXx) : PXx := fun δ Q Hd => c δ fun t δ1 => if t = true then a δ1 Q Hd else b δ1 Q Hd
end
/-! ### what is asked of the caught error -/
section
variable {X : Cx} {a : Addr} {oe : Obj} {cls : Value} {d : Option Addr} {pn : List (Addr × Obj)} {e : Expr} {p pos pt : Pos}
/-- isinstance(n, one class) -/
def pIsX (sb : Addr → Option Bool) (a : Addr) (cls : Value) (d : Option Addr) (i : Nat) : PX := fun δ Q => ∃ dd C fs b, δ[i]? = some (.ex a dd C fs) ∧ cls = .ref C ∧ d = some dd ∧ sb C = some b ∧ Q (.im (.bool b)) δ
theorem rep_ex {K : PySem.W.Frag} {G H : Hp} {σ : St} {δ : List Sl} {vs : List V} {rs : List R} {w : Addr → Option Nat} (r : Rep K B G H σ δ vs rs w) {i : Nat} {a dd C : Addr} {fs : List (Str × PyData)} (h : δ[i]? = some (.ex a dd C fs)) : σ[i]? = some (some (.ref a)) ∧ ∃ us, H dd = some (.xd us) ∧ Fl K G us fs := by
  obtain ⟨h1, us, h2, h3⟩ := r.sl i _ h
  exact ⟨h1, us, r.sub _ _ h2, h3⟩
theorem je_isX {i : Nat} {n x2 : Str} {C2 : Addr} {sb : Addr → Option Bool} {pn2 : Pos} (hz : Zc cls d oe) (hf : ∃ vs, oe.data = .fields vs) (hsb : ∀ C b, sb C = some b → IsC X.K C ∧ PySem.W.kitOne X.K (.ref C) (.ref C2) = some b) (hcv : ClsV (.ref C2) (.ref C2)) (hg : Gl X "isinstance") (hm : X.mg "isinstance" = none)
    (hn : PE (X.suite a ((a, oe) :: pn)) (.Name n pn2) (tVar i)) (ht : PE (X.suite a ((a, oe) :: pn)) (.Name x2 pt) (tC (.ref C2))) (he : starEach [.Name n pn2, .Name x2 pt] X.env = (false, eval (.Name n pn2) X.env) :: starEach [.Name x2 pt] X.env := by rfl) (he2 : starEach [.Name x2 pt] X.env = (false, eval (.Name x2 pt) X.env) :: starEach [] X.env := by rfl) (hpl : (backTo pos (starEach [.Name x2 pt] X.env)).any (·.1) = false := by rfl) :
    JE (X.suite a ((a, oe) :: pn)) B (.Call (.Name "isinstance" p) [.Name n pn2, .Name x2 pt] [] pos) (pIsX sb a cls d i) := by
  refine PE_wk (pe_callB (call_isX hz hf) hg hm (by decide +kernel) (pa_cons hn (pa_cons ht pa_nil he2) he) (by decide) (by decide) he hpl) fun σ H Q ⟨G, w, δ, Qp, rep, q, k⟩ => ?_
  obtain ⟨dd, C, fs, b, h1, h2, h3, h4, q⟩ := q
  obtain ⟨e1, us, e2, e3⟩ := rep_ex rep h1
  obtain ⟨f1, f2⟩ := hsb C b h4
  exact ⟨_, e1, C, dd, us, .ref C2, b, h2, f1, h3, e2, .inl ⟨_, rfl, hcv, f2⟩, k _ δ _ H G _ q .drop (rep.ret (.bl b))⟩
/-- isinstance(n, several classes) -/
theorem je_isXT {i : Nat} {n : Str} {Cs : List Addr} {tp : Expr} {sb : Addr → Option Bool} {pn2 : Pos} (hz : Zc cls d oe) (hf : ∃ vs, oe.data = .fields vs) (hsb : ∀ C b, sb C = some b → IsC X.K C ∧ PySem.W.kitAny X.K (.ref C) (Cs.map .ref) = some b) (hcv : ∀ C ∈ Cs, ClsV (.ref C) (.ref C)) (hg : Gl X "isinstance") (hm : X.mg "isinstance" = none)
    (hn : PE (X.suite a ((a, oe) :: pn)) (.Name n pn2) (tVar i)) (ht : PE (X.suite a ((a, oe) :: pn)) tp (tTup (fun _ H Q => Q (Cs.map V.ref) H))) (hzz : Cs.length ≤ sizeLine) (he : starEach [.Name n pn2, tp] X.env = (false, eval (.Name n pn2) X.env) :: starEach [tp] X.env := by rfl) (he2 : starEach [tp] X.env = (false, eval tp X.env) :: starEach [] X.env := by rfl) (hpl : (backTo pos (starEach [tp] X.env)).any (·.1) = false := by rfl) :
    JE (X.suite a ((a, oe) :: pn)) B (.Call (.Name "isinstance" p) [.Name n pn2, tp] [] pos) (pIsX sb a cls d i) := by
  refine PE_wk (pe_callB (call_isX hz hf) hg hm (by decide +kernel) (pa_cons hn (pa_cons ht pa_nil he2) he) (by decide) (by decide) he hpl) fun σ H Q ⟨G, w, δ, Qp, rep, q, k⟩ => ?_
  obtain ⟨dd, C, fs, b, h1, h2, h3, h4, q⟩ := q
  obtain ⟨e1, us, e2, e3⟩ := rep_ex rep h1
  obtain ⟨f1, f2⟩ := hsb C b h4
  refine ⟨_, e1, by rw [List.length_map]; exact hzz, fun t ht' => ?_⟩
  obtain ⟨s2, r2⟩ := rep.lay (o := .tup (Cs.map V.ref)) ht'
  have pr : ∀ Cs : List Addr, (∀ C ∈ Cs, ClsV (.ref C) (.ref C)) → Paired ClsV (Cs.map V.ref) (Cs.map Value.ref) := fun Cs => by
    induction Cs with
    | nil => intro _; exact .nil
    | cons C Cs ih => intro h; exact .cons (h C List.mem_cons_self) (ih fun C' h' => h C' (List.mem_cons_of_mem _ h'))
  exact ⟨C, dd, us, .ref t, b, h2, f1, h3, by rw [upd_ne (ne_of_none e2 ht')]; exact e2, .inr ⟨t, Cs.map V.ref, Cs.map Value.ref, rfl, upd_same, pr Cs hcv, f2⟩, k _ δ _ _ _ _ q (s2.trans .drop) (r2.ret (.bl b))⟩
/-- n.f -/
def pXf (C : Addr) (a : Addr) (cls : Value) (d : Option Addr) (i : Nat) (f : Str) : PX := fun δ Q => ∃ dd fs v, δ[i]? = some (.ex a dd C fs) ∧ cls = .ref C ∧ d = some dd ∧ fs.lookup f = some v ∧ Q (.im v) δ
theorem fl_lookup {K : PySem.W.Frag} {G : Hp} {f : Str} : ∀ {us : List (Str × V)} {fs : List (Str × PyData)} {x : PyData}, Fl K G us fs → fs.lookup f = some x → ∃ v, us.lookup f = some v ∧ Dq K G v x
  | _, _, _, .nil, h => by cases h
  | _, _, x, .cons (x := y) h1 h2, h => by
    simp only [List.lookup_cons] at h ⊢
    split at h
    · cases h; exact ⟨_, rfl, h1⟩
    · exact fl_lookup h2 h
theorem je_xf {i : Nat} {n f : Str} {C : Addr} {pn2 : Pos} (T : XfC X.K C) (hno : PySem.W.findIn X.K (.ref C) f = some none) (hz : Zc cls d oe) (hf : ∃ vs, oe.data = .fields vs) (hn : PE (X.suite a ((a, oe) :: pn)) (.Name n pn2) (tVar i)) (hb : attributeBase (.Name n pn2) f X.env (eval (.Name n pn2) X.env) = eval (.Name n pn2) X.env := by rfl) :
    JE (X.suite a ((a, oe) :: pn)) B (.Attribute (.Name n pn2) f pos) (pXf C a cls d i f) := by
  refine PE_wk (pe_xf T hno hz hf hn hb) fun σ H Q ⟨G, w, δ, Qp, rep, q, k⟩ => ?_
  obtain ⟨dd, fs, v, h1, h2, h3, h4, q⟩ := q
  obtain ⟨e1, us, e2, e3⟩ := rep_ex rep h1
  obtain ⟨u, f1, f2⟩ := fl_lookup e3 h4
  exact ⟨_, e1, rfl, h2, dd, us, u, h3, e2, f1, k _ δ _ H G _ q .drop (rep.ret f2)⟩
end
end Pv
namespace Pv
open PySem PySem.Spec L2 Wf
variable {B : Bas}
theorem _root_.Wf.Cal.imp {P : Program} {w : World} {K : PySem.W.Frag} {mg : Str → Option Value} {base : Heap} {CX : CXT} {k : Nat} {x : Str} {ps : List Str} {sp sp' : Sp} (C : Wf.Cal P w K mg base CX k x ps sp) (h : ∀ vs H Q E, sp' vs H Q E → sp vs H Q E) : Wf.Cal P w K mg base CX k x ps sp' := by
  obtain ⟨f, fd, F, r⟩ := C.ex
  exact ⟨f, fd, F.imp h, r⟩
section
variable {K : PySem.W.Frag} {G H H' : Hp} {σ : St} {δ : List Sl} {vs : List V} {rs : List R} {w : Addr → Option Nat}
theorem noT_same {H H' : Hp} {a : Addr} {u : HO} (e : H a = some u) (e2 : H' a = some u) (n : NoX H a) : NoX H' a := n.same e e2
theorem noT_deal {H : Hp} {d l : Addr} (h : Deal H d l) : NoX H d ∧ NoX H l ∧ H d ≠ none ∧ H l ≠ none := by
  obtain ⟨s, m, n, ns, h1, h2, _⟩ := h.ex
  exact ⟨NoX.of h1 (fun _ z => by cases z) (fun _ _ z => by cases z) (fun _ z => by cases z), NoX.lst h2, by rw [h1]; exact Option.some_ne_none _, by rw [h2]; exact Option.some_ne_none _⟩
theorem tabs_deal {T : List NdefX.NTab} {H H' : Hp} {d l : Addr} (but : But [d, l] H H') (dl : Deal H d l) : TbG T H H' := by
  obtain ⟨s, m, n, ns, h1, h2, _⟩ := dl.ex
  have ne : ∀ x o, (∀ xs, o ≠ .lst xs) → (∀ xs, o ≠ .dK xs) → H x = some o → H' x = some o := fun x o n1 n2 hx => but x o (fun z => by
    simp only [List.mem_cons, List.not_mem_nil, or_false] at z
    rcases z with rfl | rfl
    · rw [h1] at hx; cases hx; exact n2 _ rfl
    · rw [h2] at hx; cases hx; exact n1 _ rfl) hx
  refine ⟨fun t p hp => ?_, fun a ps h => ⟨ps, ne _ _ nofun nofun h⟩⟩
  obtain ⟨ps, e1, e2, e3⟩ := t p hp
  refine ⟨ps, ne _ _ nofun nofun e1, e2, fun pos cv hc => ?_⟩
  obtain ⟨c, f1, f2⟩ := e3 pos cv hc
  exact ⟨c, f1, ne _ _ (fun xs z => by unfold LamX.CodeO at z; cases z) (fun xs z => by unfold LamX.CodeO at z; cases z) f2⟩
/-- the deal goes on -/
theorem Rep.deal (r : Rep K B G H σ δ vs rs w) {i : Nat} {b : Bool} {d l : Addr} (h : δ[i]? = some (.ow b .deal)) (hσ : σ[i]? = some (some (.ref d))) (wd : w d = some (2 * i)) (wl : w l = some (2 * i)) (dl0 : Deal H d l) (but : But [d, l] H H') (dl : Deal H' d l) :
    Stp B.T G H w δ G H' w δ ∧ Rep K B G H' σ δ vs rs w := by
  have nin : ∀ x, w x ≠ some (2 * i) → x ∉ [d, l] := fun x hx z => by
    simp only [List.mem_cons, List.not_mem_nil, or_false] at z
    rcases z with rfl | rfl
    · exact hx wd
    · exact hx wl
  obtain ⟨nd, nl, ed, el⟩ := noT_deal dl
  have st : Stp B.T G H w δ G H' w δ := .of ⟨fun _ _ h => h, fun x o hx ho => but x o (nin x (by rw [hx]; exact nofun)) ho, fun x n hx => .inl (by rw [hx]; exact Option.some_ne_none _), fun _ _ h => .inl h, .refl _⟩ (tabs_deal but dl0)
  refine ⟨st, fun x o hx => ?_, fun x n hx => ?_, r.len, fun k s hk => ?_, r.tlen, fun j v q hv hq => ?_, st.bs r.bs⟩
  · refine but x o (nin x fun z => ?_) (r.sub x o hx)
    rw [(r.out x _ z).1] at hx
    cases hx
  · obtain ⟨h1, h2, h3⟩ := r.out x n hx
    by_cases e : x ∈ [d, l]
    · simp only [List.mem_cons, List.not_mem_nil, or_false] at e
      rcases e with rfl | rfl
      · exact ⟨h1, ed, nd⟩
      · exact ⟨h1, el, nl⟩
    · cases e2 : H x with
      | none => exact absurd e2 h2
      | some u => exact ⟨h1, by rw [but x u e e2]; exact Option.some_ne_none _, noT_same e2 (but x u e e2) h3⟩
  · by_cases e : i = k
    · subst e
      rw [h] at hk
      cases hk
      exact ⟨_, hσ, d, l, rfl, wd, wl, dl⟩
    · refine (r.sl k s hk).mono (fun _ _ h => h) (fun x u mx hu => but x u (nin x ?_) hu) fun x u mx _ => mx
      rw [mx]
      exact fun z => e (by have := Option.some.inj z; omega)
  · refine (r.tm j v q hv hq).mono (fun _ _ h => h) (fun x u mx hu => but x u (nin x ?_) hu) fun x u mx _ => mx
    rw [mx]
    exact fun z => by have := Option.some.inj z; omega
/-- a new deal is told -/
theorem Rep.newDeal (r : Rep K B G H σ δ [] [] w) {d l : Addr} (s : Same H H') (hd : H d = none) (hl : H l = none) (dl : Deal H' d l) :
    ∃ w', Stp B.T G H w δ G H' w' δ ∧ Rep K B G H' σ δ [.ref d] [.ow .deal] w' := by
  obtain ⟨nd, nl, ed, el⟩ := noT_deal dl
  have g0 : ∀ x, H x = none → G x = none := fun x hx => by
    cases e : G x with
    | none => rfl
    | some o => have := r.sub x o e; rw [hx] at this; cases this
  have st : Stp B.T G H w δ G H' (fun a => if a = d ∨ a = l then some 1 else w a) δ := by
    refine .of ⟨fun _ _ h => h, fun x o hx ho => s x o ho, fun x n hx => ?_, fun _ _ h => .inl h, .refl _⟩ (.same s)
    split at hx
    · rename_i e
      rcases e with rfl | rfl
      · exact .inr hd
      · exact .inr hl
    · exact .inl (by rw [hx]; exact Option.some_ne_none _)
  have wn : ∀ x n, w x = some n → ¬ (x = d ∨ x = l) := fun x n hx z => by
    rcases z with rfl | rfl
    · exact (r.out _ n hx).2.1 hd
    · exact (r.out _ n hx).2.1 hl
  refine ⟨_, st, fun x o hx => s x o (r.sub x o hx), fun x n hx => ?_, r.len, fun k sl hk => ?_, rfl, fun j v q hv hq => ?_, st.bs r.bs⟩
  · split at hx
    · rename_i e
      rcases e with rfl | rfl
      · exact ⟨g0 _ hd, ed, nd⟩
      · exact ⟨g0 _ hl, el, nl⟩
    · obtain ⟨h1, h2, h3⟩ := r.out x n hx
      cases e2 : H x with
      | none => exact absurd e2 h2
      | some u => exact ⟨h1, by rw [s x u e2]; exact Option.some_ne_none _, noT_same e2 (s x u e2) h3⟩
  · refine (r.sl k sl hk).mono (fun _ _ h => h) (fun x u mx hu => s x u hu) fun x u mx _ => ?_
    show (if x = d ∨ x = l then some 1 else w x) = _
    rw [if_neg (wn x _ mx)]
    exact mx
  · cases j with
    | succ j => simp at hv
    | zero =>
      cases hv
      cases hq
      exact ⟨d, l, rfl, if_pos (.inl rfl), if_pos (.inr rfl), dl⟩
end
/-! ### what a draw does, by value -/
def psp_draw : PSp := fun as Q _ => ∃ n : Int, as = [.ow true .deal, .im (.int n)] ∧ 0 < n ∧ n < 2 ^ 200 ∧ ∀ k : Nat, (k : Int) < n → Q (.im (.int k)) as
theorem two_of {vs : List V} {as : List Sl} {a b : Sl} (hl : (vs.map some).length = as.length) (ha : as = [a, b]) : ∃ x y, vs = [x, y] := by
  subst ha
  match vs, hl with
  | [x, y], _ => exact ⟨x, y, rfl⟩
theorem conv_draw {K : PySem.W.Frag} {T : List NdefX.NTab} (vs : List V) (H : Hp) (Q : VK) (E : XK) (h : LSp K T psp_draw vs H Q E) : sp_draw vs H Q E := by
  obtain ⟨G, w, as, Qp, Ep, rep, _, ⟨n, rfl, h0, h1, hq⟩, k, _⟩ := h
  obtain ⟨x, y, rfl⟩ := two_of rep.len rfl
  obtain ⟨v, hv, d, l, rfl, wd, wl, dl⟩ := rep.sl 0 _ rfl
  obtain ⟨u, hu, dq⟩ := rep.sl 1 _ rfl
  cases hv
  cases hu
  cases dq
  refine ⟨d, l, n, rfl, h0, h1, dl, fun j H' j0 j1 but dl' => ?_⟩
  obtain ⟨st, r2⟩ := rep.deal (i := 0) rfl rfl wd wl dl but dl'
  obtain ⟨m, rfl⟩ := Int.eq_ofNat_of_zero_le j0
  exact k _ _ _ _ _ _ (hq m j1) rfl (st.trans .drop) (r2.ret (.int _))
def psp_deal : PSp := fun as Q _ => ∃ (b : Int) (ns : List Int), as = [.ow true (.scr ns), .im (.int b)] ∧ 0 ≤ b ∧ b ≤ 63 ∧ ns.length ≤ 1000 ∧ Q (.ow .deal) as
theorem conv_deal {K : PySem.W.Frag} {T : List NdefX.NTab} (vs : List V) (H : Hp) (Q : VK) (E : XK) (h : LSp K T psp_deal vs H Q E) : sp_deal K vs H Q E := by
  obtain ⟨G, w, as, Qp, Ep, rep, _, ⟨b, ns, rfl, h0, h1, hn, hq⟩, k, _⟩ := h
  obtain ⟨x, y, rfl⟩ := two_of rep.len rfl
  obtain ⟨v, hv, a, rfl, hs⟩ := rep.sl 0 _ rfl
  obtain ⟨u, hu, dq⟩ := rep.sl 1 _ rfl
  cases hv
  cases hu
  cases dq
  have sq : SqL K H a (ns.map V.int) := by
    rcases hs with ⟨o, _, ho⟩ | hs
    · exact .inl (.inr ⟨o, ho⟩)
    · exact hs H
  refine ⟨a, b, ns, rfl, sq, h0, h1, hn, fun d l H' s hd hl dl => ?_⟩
  obtain ⟨w', st, r2⟩ := rep.newDeal s hd hl dl
  exact k _ _ _ _ _ _ hq rfl st r2
/-! ### loops over range(n) -/
theorem rgD_get {a b : Int} {i : Nat} {d : PyData} (h : (rgD a b)[i]? = some d) : d = .int (a + (i : Nat)) ∧ i < (b - a).toNat := by
  unfold rgD at h
  rw [List.getElem?_map] at h
  obtain ⟨j, h1, h2⟩ := Option.map_eq_some_iff.mp h
  obtain ⟨h3, h4⟩ := List.getElem?_eq_some_iff.mp h1
  rw [List.getElem_range] at h4
  rw [List.length_range] at h3
  subst h4
  exact ⟨h2.symm, h3⟩
theorem rgD_len (a b : Int) : (rgD a b).length = (b - a).toNat := by unfold rgD; rw [List.length_map, List.length_range]
/-- for i in range(a, n): I at each turn -/
theorem for_rg2 {step : PyData → PSx} {ts : List Nat} {E : PEn} {n : Int} (a m : Nat) {δ : List Sl} (hn : n = m) (ham : a ≤ m) (I : Nat → List Sl → Prop) (h0 : I a δ) (hs : ∀ (i : Nat) δ, a ≤ i → i < m → I i δ → step (.int (i : Int)) ⟨fun δ' => I (i + 1) (wipeT δ' ts), E.rt, fun δ' => E.nx (wipeT δ' ts), fun δ' => I (i + 1) (wipeT δ' ts)⟩ δ) (he : ∀ δ, I m δ → E.nx δ) : loopI step ts E (rgD a n) δ := by
  subst hn
  refine ⟨fun i δ => I (a + i) δ, h0, fun i d δ hd hi => ?_, fun δ h => he δ ?_⟩
  · obtain ⟨rfl, hl⟩ := rgD_get hd
    have := hs (a + i) δ (by omega) (by omega) hi
    rw [Int.natCast_add] at this
    exact this
  · rw [rgD_len] at h
    have e : a + ((m : Int) - a).toNat = m := by omega
    rw [e] at h
    exact h
theorem for_rg {step : PyData → PSx} {ts : List Nat} {E : PEn} {n : Int} (m : Nat) {δ : List Sl} (hn : n = m) (I : Nat → List Sl → Prop) (h0 : I 0 δ) (hs : ∀ (i : Nat) δ, i < m → I i δ → step (.int (i : Int)) ⟨fun δ' => I (i + 1) (wipeT δ' ts), E.rt, fun δ' => E.nx (wipeT δ' ts), fun δ' => I (i + 1) (wipeT δ' ts)⟩ δ) (he : ∀ δ, I m δ → E.nx δ) : loopI step ts E (rgD 0 n) δ :=
  for_rg2 0 m hn (Nat.zero_le m) I h0 (fun i δ _ => hs i δ) he
theorem atI_of {α : Type} {xs : List α} {i : Int} {j : Nat} {v : α} (hi : i = (j : Int)) (h : xs[j]? = some v) : atI xs i = some v := by rw [hi]; exact atI_nat h
end Pv
namespace Pv
open PySem PySem.Spec L2 Wf
variable {B : Bas}
/-! ### plain tuples: tuple(list) whose object is known; .index of them -/
section
variable {K : PySem.W.Frag} {G H : Hp} {σ : St} {δ : List Sl} {w : Addr → Option Nat}
theorem Rep.asPtl {v : V} {q : R} {ds : List PyData} (r : Rep K B G H σ δ [v] [q] w) (h : ∃ p o us, v = .ref p ∧ G p = some (.frz o (.tup us)) ∧ o.cls = .type "tuple" ∧ o.dict = none ∧ DqAll K G us ds ∧ KnAll K G us ds) : Rep K B G H σ δ [v] [.ow (.ptl ds)] w :=
  ⟨r.sub, r.out, r.len, r.sl, rfl, fun j u p hu hp => by
    match j with
    | 0 =>
      simp only [List.getElem?_cons_zero, Option.some.injEq] at hu hp
      subst hu hp
      exact h
    | j + 1 => simp at hu, r.bs⟩
end
/-- no tuple among them -/
def Flat (ds : List PyData) : Prop := ∀ d ∈ ds, ∀ es, d ≠ .tuple es
theorem pl_flat {K : PySem.W.Frag} {G : Hp} : ∀ {ds : List PyData} {us : List V}, Flat ds → DqAll K G us ds → KnAll K G us ds
  | [], _, _, .nil => .nil
  | d :: ds, _, h, .cons h1 h2 => .cons (.any h1 (h d List.mem_cons_self)) (pl_flat (fun e he => h e (List.mem_cons_of_mem _ he)) h2)
def qPtl : List R → PX := fun rs δ Q => match rs with
  | [r] => ∃ ds, dat δ r = some (.list ds) ∧ Flat ds ∧ Q (.ow (.ptl ds)) δ
  | _ => False
theorem lc_ptl {K : PySem.W.Frag} : LC K qPtl (qTupF K) := by
  intro B G H σ δ vs rs w Qp Q rep q k
  match rs, q with
  | [r], q =>
    obtain ⟨ds, hd, hfl, q⟩ := q
    have hl := rep.tlen
    match vs, hl with
    | [v], _ =>
      obtain ⟨a, us, rfl, ha, hds⟩ := Vw.seqL rep.sub (rep.dat (j := 0) rfl rfl hd)
      refine ⟨a, us, rfl, SqL.of ha, fun l o hl h1 h2 => ?_⟩
      have gp : G l = none := by
        cases e : G l with
        | none => rfl
        | some u => rw [rep.sub l u e] at hl; cases hl
      have hd2 : DqAll K (upd G l (.frz o (.tup us))) us ds := dpAll_mono (same_new gp) _ _ hds
      obtain ⟨st, r2⟩ := rep.retNew (p := l) (o := .frz o (.tup us)) (d := .tuple ds) hl (.tup (.inl (.inr ⟨o, upd_same⟩)) hd2)
      exact k _ _ _ _ _ _ q st (r2.asPtl ⟨l, o, us, rfl, upd_same, h1, h2, hd2, pl_flat hfl hd2⟩)
theorem dqAll_ints2 {K : PySem.W.Frag} {G : Hp} : ∀ {ns : List Int} {us : List V}, DqAll K G us (ns.map PyData.int) → us = ns.map V.int
  | [], _, h => by cases h; rfl
  | n :: ns, _, h => by
    cases h with
    | cons h1 h2 =>
      cases h1
      rw [dqAll_ints2 h2]
      rfl
/-! ### list.index of numbers -/
end Pv
namespace Pv
open PySem PySem.Spec L2 Wf
/-! ### a law, by value: of each script it tells True -/
def psp_law : PSp := fun as Q _ => ∃ ns : List Int, as = [.ow true (.scr ns)] ∧ ns.length ≤ 1000 ∧ Q (.im (.bool true)) [.ow true (.scr ns)]
/-! ### a, b = e, f with names that comprehensions read -/
theorem par_go0 : ∀ (vs : List V) (σ : St) (H : Hp) (Q : St → Hp → Prop), ([] : List Nat).length = vs.length → Q ((([] : List Nat).zip vs).foldl (fun σ p => σ.set p.1 (some p.2)) σ) H → gNil vs σ H Q
  | [], _, _, _, _, q => ⟨rfl, q⟩
theorem par_goS {i : Nat} {is : List Nat} {gs : TGs} (h : ∀ (vs : List V) (σ : St) (H : Hp) (Q : St → Hp → Prop), is.length = vs.length → Q ((is.zip vs).foldl (fun σ p => σ.set p.1 (some p.2)) σ) H → gs vs σ H Q) :
    ∀ (vs : List V) (σ : St) (H : Hp) (Q : St → Hp → Prop), (i :: is).length = vs.length → Q (((i :: is).zip vs).foldl (fun σ p => σ.set p.1 (some p.2)) σ) H → gCons (gName i) gs vs σ H Q
  | v :: vs, σ, H, Q, hl, q => ⟨v, vs, rfl, h vs _ H Q (by simpa using hl) q⟩
end Pv
namespace Pv
open PySem PySem.Spec L2 Wf
/-! ### what is caught: errors of one class C, by the name of C0; they are none of os -/
structure ToldG (K : PySem.W.Frag) (C C0 : Addr) (os : List Addr) : Prop where
  ex : PySem.W.exmOne K (.ref C) (.ref C0) = some true
  is_ : IsC K C
  one : PySem.W.kitOne K (.ref C) (.ref C) = some true
  two : PySem.W.kitAny K (.ref C) (os.map .ref) = some false
def sbAt (C0 : Addr) (b : Bool) : Addr → Option Bool := fun C => if C = C0 then some b else none
theorem sb_eq {C0 C : Addr} {b b' : Bool} (h : sbAt C0 b C = some b') : C = C0 ∧ b' = b := by
  unfold sbAt at h
  split at h
  · rename_i e; cases h; exact ⟨e, rfl⟩
  · cases h
theorem sb_self (C : Addr) (b : Bool) : sbAt C b C = some b := if_pos rfl
theorem sb_two {K : PySem.W.Frag} {C C0 : Addr} {os : List Addr} (T : ToldG K C C0 os) : ∀ C' b, sbAt C false C' = some b → IsC K C' ∧ PySem.W.kitAny K (.ref C') (os.map .ref) = some b := fun C' b h => by
  obtain ⟨rfl, rfl⟩ := sb_eq h
  exact ⟨T.is_, T.two⟩
theorem clsV_all (os : List Addr) : ∀ C ∈ os, ClsV (.ref C) (.ref C) := fun C _ => .own C
theorem _root_.L2.Room.units1 {k : Nat} {A : Around} (r : Room k A) : A.units + 65 < cLine := by have := r.un; omega
end Pv
namespace Pv
open PySem PySem.Spec L2 Wf
/-! ### abs, all, any, sorted -/
end Pv
namespace Pv
open PySem PySem.Spec L2 Wf
/-- whole numbers from 0 on, as data -/
abbrev nD (k : Nat) : PyData := .int (k : Int)
abbrev dN (ns : List Nat) : List PyData := ns.map nD
theorem dN_len (ns : List Nat) : (dN ns).length = ns.length := List.length_map _
theorem dN_get {ns : List Nat} {i k : Nat} (h : ns[i]? = some k) : (dN ns)[i]? = some (nD k) := by rw [dN, List.getElem?_map, h]; rfl
theorem rgD_dN (n : Nat) : rgD 0 (n : Int) = dN (List.range n) := by
  unfold rgD dN
  have : ((n : Int) - 0).toNat = n := by omega
  rw [this]
  refine List.map_congr_left fun i _ => ?_
  show PyData.int (0 + (i : Int)) = .int (i : Int)
  rw [Int.zero_add]
theorem dN_app (a b : List Nat) : dN (a ++ b) = dN a ++ dN b := List.map_append
theorem dN_set (a : List Nat) (i k : Nat) : (dN a).set i (nD k) = dN (a.set i k) := by
  unfold dN
  rw [List.map_set]
theorem shaped_dN (a : List Nat) : SeqAt.shaped (.list (dN a)) = true := by
  have h := lay_map nD 0 a fun k _ => ⟨rfl, Nat.le_refl 0⟩
  have h2 : (PyData.list (dN a)).depth ≤ 1 := Nat.succ_le_succ h.2
  unfold SeqAt.shaped
  rw [show (PyData.list (dN a)).canLay0 = true from h.1]
  simp
  omega
theorem szN {n m : Nat} (h : n ≤ m) (hm : m < sizeLine) : n < sizeLine := Nat.lt_of_le_of_lt h hm
theorem nd1 (i : Nat) : [i].Nodup := by simp
/-! ### _law_mixed -/
theorem ixN_nat {n i : Nat} (h : i < n) : ixN n (i : Int) = some i := by
  unfold ixN
  rw [if_pos (by omega), if_pos (by omega)]
  rfl
/-- for k in a row of numbers -/
theorem for_dN {step : PyData → PSx} {ts : List Nat} {E : PEn} {δ : List Sl} (ws : List Nat) (I : Nat → List Sl → Prop) (h0 : I 0 δ) (hs : ∀ (i k : Nat) δ, ws[i]? = some k → I i δ → step (nD k) ⟨fun δ' => I (i + 1) (wipeT δ' ts), E.rt, fun δ' => E.nx (wipeT δ' ts), fun δ' => I (i + 1) (wipeT δ' ts)⟩ δ) (he : ∀ δ, I ws.length δ → E.nx δ) : loopI step ts E (dN ws) δ := by
  refine ⟨I, h0, fun i d δ hd hi => ?_, fun δ h => he δ (by rw [dN_len] at h; exact h)⟩
  rw [dN, List.getElem?_map] at hd
  obtain ⟨k, hk, rfl⟩ := Option.map_eq_some_iff.mp hd
  exact hs i k δ hk hi
/-! ### _law_order -/
def swp (xs : List Nat) (k : Nat) : List Nat := (xs.set k (xs.getD (k + 1) 0)).set (k + 1) (xs.getD k 0)
theorem swp_len (xs : List Nat) (k : Nat) : (swp xs k).length = xs.length := by simp [swp]
def goW (xs : List Nat) (ws : List Nat) : List Nat := ws.foldl swp xs
theorem goW_len (xs ws : List Nat) : (goW xs ws).length = xs.length := by
  induction ws generalizing xs with
  | nil => rfl
  | cons w ws ih => show (goW (swp xs w) ws).length = _; rw [ih, swp_len]
theorem goW_snoc (xs ws : List Nat) (k : Nat) : goW xs (ws ++ [k]) = swp (goW xs ws) k := by unfold goW; rw [List.foldl_append]; rfl
theorem getD_of {xs : List Nat} {i : Nat} (h : i < xs.length) : xs[i]? = some (xs.getD i 0) := by
  rw [List.getD_eq_getElem?_getD, List.getElem?_eq_getElem h]
  rfl
end Pv
/-! Good books are let by. -/
namespace Wf
open PySem PySem.Spec L2
end Wf
/-! Books by value; rows; is_whole, table_number, pair_at. -/
namespace Pv
open PySem PySem.Spec L2 Wf
variable {B : Bas}
/-! ### books -/
theorem four_of {vs : List V} {as : List Sl} {a b c d : Sl} (hl : (vs.map some).length = as.length) (ha : as = [a, b, c, d]) : ∃ x y z u, vs = [x, y, z, u] := by
  subst ha
  match vs, hl with
  | [x, y, z, u], _ => exact ⟨x, y, z, u, rfl⟩
end Pv
namespace Pv
open PySem PySem.Spec L2 Wf
/-! ### is_whole, is_letter -/
def isNumD : PyData → Bool
  | .int _ => true
  | _ => false
def p_is_number : PSx :=
    pRet (pAndV (pIsi "int" (pVar 0)) (pNotV (pIsi "bool" (pVar 0))))
def psp_is_number : PSp := fun as Q _ => ∃ d : PyData, as = [.im d] ∧ Q (.im (.bool (isNumD d))) [.un]
theorem hp_is_number (as : List Sl) (Qp : QE) (Ep : EX) (h : psp_is_number as Qp Ep) : p_is_number (endsP as Qp) (as ++ List.replicate 0 .un) := by
  obtain ⟨d, rfl, q⟩ := h
  cases d with
  | int i => exact ⟨_, rfl, _, rfl, _, rfl, _, rfl, _, _, rfl, q⟩
  | none => exact ⟨_, rfl, _, rfl, _, _, rfl, q⟩
  | bool b => exact ⟨_, rfl, _, rfl, _, rfl, _, rfl, _, _, rfl, q⟩
  | str b => exact ⟨_, rfl, _, rfl, _, _, rfl, q⟩
  | tuple b => exact ⟨_, rfl, _, rfl, _, _, rfl, q⟩
  | list b => exact ⟨_, rfl, _, rfl, _, _, rfl, q⟩
  | dict b => exact ⟨_, rfl, _, rfl, _, _, rfl, q⟩
def p_is_whole : PSx :=
    pRet (pAndV (pCall psp_is_number (pCons (pFz (pVar 0)) (pNil)) noX) (pChain qLeD qLeD (pVar 1) (pVar 0) (pVar 2)))
def psp_is_whole : PSp := fun as Q _ => ∃ (d : PyData) (lo hi : Int), as = [.im d, .im (.int lo), .im (.int hi)] ∧ Q (.im (.bool (isWh lo hi d))) [.un, .un, .un]
theorem hp_is_whole (as : List Sl) (Qp : QE) (Ep : EX) (h : psp_is_whole as Qp Ep) : p_is_whole (endsP as Qp) (as ++ List.replicate 0 .un) := by
  obtain ⟨d, lo, hi, rfl, q⟩ := h
  cases d with
  | int i =>
    refine ⟨_, _, rfl, _, rfl, List.nodup_nil, _, rfl, _, rfl, ?_⟩
    refine ⟨_, rfl, trivial, _, rfl, ?_⟩
    show if decide (lo ≤ i) = true then _ else _
    by_cases c : lo ≤ i
    · rw [if_pos (decide_eq_true c)]
      refine ⟨trivial, _, _, rfl, ?_⟩
      rw [show isWh lo hi (.int i) = decide (i ≤ hi) by simp [isWh, c]] at q
      exact q
    · rw [if_neg (by simp [c])]
      refine ⟨_, _, rfl, ?_⟩
      rw [show isWh lo hi (.int i) = false by simp [isWh, c]] at q
      exact q
  | none => exact ⟨_, _, rfl, _, rfl, List.nodup_nil, _, rfl, _, rfl, _, _, rfl, q⟩
  | bool b => exact ⟨_, _, rfl, _, rfl, List.nodup_nil, _, rfl, _, rfl, _, _, rfl, q⟩
  | str b => exact ⟨_, _, rfl, _, rfl, List.nodup_nil, _, rfl, _, rfl, _, _, rfl, q⟩
  | tuple b => exact ⟨_, _, rfl, _, rfl, List.nodup_nil, _, rfl, _, rfl, _, _, rfl, q⟩
  | list b => exact ⟨_, _, rfl, _, rfl, List.nodup_nil, _, rfl, _, rfl, _, _, rfl, q⟩
  | dict b => exact ⟨_, _, rfl, _, rfl, List.nodup_nil, _, rfl, _, rfl, _, _, rfl, q⟩
def p_is_letter : PSx :=
    pRet (pCall psp_is_whole (pCons (pFz (pVar 0)) (pCons (pFz (pK (.int 0))) (pCons (pFz (pSub (pVar 1) (pK (.int 2)))) (pNil)))) noX)
def psp_is_letter : PSp := fun as Q _ => ∃ k n : Int, as = [.im (.int k), .im (.int n)] ∧ Q (.im (.bool (decide (0 ≤ k) && decide (k ≤ n - 2)))) [.un, .un]
theorem hp_is_letter (as : List Sl) (Qp : QE) (Ep : EX) (h : psp_is_letter as Qp Ep) : p_is_letter (endsP as Qp) (as ++ List.replicate 0 .un) := by
  obtain ⟨k, n, rfl, q⟩ := h
  exact ⟨_, _, rfl, _, _, rfl, trivial, _, _, rfl, _, rfl, List.nodup_nil, _, _, _, rfl, _, _, rfl, q⟩
/-! ### table_number, pair_at -/
def p_table_number : PSx :=
    pRet (pAdd (pFdiv (pMul (pVar 0) (pSub (pVar 0) (pK (.int 1)))) (pK (.int 2))) (pVar 1))
def psp_table_number : PSp := fun as Q _ => ∃ u v : Int, as = [.im (.int u), .im (.int v)] ∧ 0 ≤ u ∧ u ≤ 1000 ∧ Q (.im (.int (tnum u v))) [.un, .un]
theorem cdiv2 (a : Int) : CDivW a 2 := wide_div (b := 2) (by decide) (by decide) (by decide) (by decide)
theorem hp_table_number (as : List Sl) (Qp : QE) (Ep : EX) (h : psp_table_number as Qp Ep) : p_table_number (endsP as Qp) (as ++ List.replicate 0 .un) := by
  obtain ⟨u, v, rfl, u0, u1, q⟩ := h
  exact ⟨trivial, .inl (.inl ⟨by omega, by omega⟩), cdiv2 _, _, _, rfl, q⟩
/-- the cell of a table, by value -/
theorem ix_tabD {B : Book} {m u v a b : Int} (ok : BookOk m B) (pl : Pl m B.s u v a b) : atI (B.ts.map dT) (tnum u v) = some (dT (B.tab u v)) :=
  Wf.atI_map (tnum_lt ok.m5 pl.u0 pl.u1 pl.v0 pl.v1).1 (Book.row ok pl).1
theorem ix_cellD {B : Book} {m u v a b : Int} (ok : BookOk m B) (pl : Pl m B.s u v a b) : atI ((B.tab u v).map dP) (a * B.s + b) = some (dP (B.at u v a b)) :=
  Wf.atI_map (ix_lt pl.a0 pl.a1 pl.b0 pl.b1).1 (Book.cell ok pl).1
def p_pair_at : PSx :=
    pSeq (pPar [5, 6] (pCons (pIx (pVar 0) (pK (.int 1))) (pCons (pIx (pVar 0) (pK (.int 2))) (pNil))))
    (pRet (pIx (pIx (pVar 6) (pCall psp_table_number (pCons (pFz (pVar 1)) (pCons (pFz (pVar 2)) (pNil))) noX)) (pAdd (pMul (pVar 3) (pVar 5)) (pVar 4))))
def psp_pair_at : PSp := fun as Q _ => ∃ (B : Book) (m u v a b : Int), as = [.im (dB B), .im (.int u), .im (.int v), .im (.int a), .im (.int b)] ∧ BookOk m B ∧ Pl m B.s u v a b ∧ Q (.im (dP (B.at u v a b))) [.un, .un, .un, .un, .un]
theorem hp_pair_at (as : List Sl) (Qp : QE) (Ep : EX) (h : psp_pair_at as Qp Ep) : p_pair_at (endsP as Qp) (as ++ List.replicate 2 .un) := by
  obtain ⟨B, m, u, v, a, b, rfl, ok, pl, q⟩ := h
  have := pl.u0
  have := pl.u1
  have := ok.m5
  have := pl.a0
  have := pl.a1
  have := ok.s6
  refine ⟨_, rfl, _, rfl, _, _, rfl, ?_⟩
  refine ⟨_, _, rfl, _, _, rfl, _, rfl, List.nodup_nil, u, v, rfl, by omega, by omega, ?_⟩
  refine ⟨_, ix_tabD ok pl, .inl (.inl ⟨by omega, by omega⟩), _, ix_cellD ok pl, _, _, rfl, q⟩
/-! ### rows -/
abbrev Wk := Int × Int
abbrev dR (r : List Wk) : PyData := .tuple (r.map dP)
def RowOk (m s : Int) (r : List Wk) : Prop := ∀ p ∈ r, 0 ≤ p.1 ∧ p.1 < m ∧ 0 ≤ p.2 ∧ p.2 < s
def wk (r : List Wk) (k : Nat) : Wk := r.getD k (0, 0)
def passR (B : Book) (r : List Wk) (k : Nat) : List Wk :=
  (r.set k ((wk r (k + 1)).1, (B.at (wk r k).1 (wk r (k + 1)).1 (wk r k).2 (wk r (k + 1)).2).1)).set (k + 1) ((wk r k).1, (B.at (wk r k).1 (wk r (k + 1)).1 (wk r k).2 (wk r (k + 1)).2).2)
theorem wk_get {r : List Wk} {k : Nat} (h : k < r.length) : r[k]? = some (wk r k) := by
  unfold wk
  simp [List.getD, List.getElem?_eq_getElem h]
theorem wk_ok {m s : Int} {r : List Wk} {k : Nat} (ok : RowOk m s r) (h : k < r.length) : 0 ≤ (wk r k).1 ∧ (wk r k).1 < m ∧ 0 ≤ (wk r k).2 ∧ (wk r k).2 < s := ok _ (List.mem_of_getElem? (wk_get h))
def dK (ks : List Int) : PyData := .tuple (ks.map .int)
theorem atW {r : List Wk} {k : Int} {j : Nat} (h : k = (j : Int)) (hj : j < r.length) : atI (r.map dP) k = some (dP (wk r j)) := by
  subst h
  exact atI_nat (by rw [List.getElem?_map, wk_get hj]; rfl)
theorem ixNn {n j : Nat} {i : Int} (h : i = (j : Int)) (hj : j < n) : ixN n i = some j := by subst h; exact ixN_nat hj
theorem setW (r : List Wk) (k : Nat) (p : Wk) : (r.map dP).set k (dP p) = (r.set k p).map dP := by rw [List.map_set]
end Pv
namespace Pv
open PySem PySem.Spec L2 Wf
/-! ### _law_pairs -/
end Pv
namespace Pv
open PySem PySem.Spec L2 Wf
/-! ### _law_last -/
theorem noPin1 {δ : List Sl} {v : Nat} (h : ∀ o, δ[v]? ≠ some (.ow true o)) : noPin δ [v] := fun u hu o => by
  rw [List.mem_singleton] at hu
  subst hu
  exact h o
/-- range(n - 1) and such: none where the number is below 0 -/
theorem loop_rgS {step : PyData → PSx} {ts : List Nat} {E : PEn} {n : Int} (m : Nat) {δ : List Sl} (hn : n.toNat = m) (I : Nat → List Sl → Prop) (h0 : I 0 δ) (hs : ∀ (i : Nat) δ, i < m → I i δ → step (.int (i : Int)) ⟨fun δ' => I (i + 1) (wipeT δ' ts), E.rt, fun δ' => E.nx (wipeT δ' ts), fun δ' => I (i + 1) (wipeT δ' ts)⟩ δ) (he : ∀ δ, I m δ → E.nx δ) : loopI step ts E (rgD 0 n) δ := by
  subst hn
  refine ⟨I, h0, fun i d δ hd hi => ?_, fun δ h => he δ ?_⟩
  · obtain ⟨rfl, hl⟩ := rgD_get hd
    rw [Int.zero_add]
    exact hs i δ (by omega) hi
  · rw [rgD_len] at h
    have e : (n - 0).toNat = n.toNat := by omega
    rw [e] at h
    exact h
/-! ### _law_word -/
def pb_lword_1 : PSx :=
    pIf (pOr (pT (pGt (pIx (pVar 5) (pVar 8)) (pIx (pVar 5) (pAdd (pVar 8) (pK (.int 1)))))) (pAnd (pT (pVar 3)) (pT (pEq true (pIx (pVar 5) (pVar 8)) (pIx (pVar 5) (pAdd (pVar 8) (pK (.int 1)))))))) (pExpr (pMt mAppend (pVar 7) (pCons (pVar 8) (pNil)))) (pNext)
def pb_lword_2 : PSx :=
    pSeq (pSet 7 (pLst (pNil)))
    (pSeq (pFor [8] (iRg (pCons (pSub (pC (q1 fLen) (pCons (pVar 5) (pNil))) (pK (.int 1))) (pNil))) (gN 8) (pb_lword_1))
    (pIf (pT (pEq true (pVar 7) (pLst (pNil)))) (pSeq (pSet 8 (pIx (pVar 7) (pCall psp_draw (pCons (pVar 0) (pCons (pFz (pC (q1 fLen) (pCons (pVar 7) (pNil)))) (pNil))) noX)))
    (pSeq (pAsg (pTup (pCons (pIx (pVar 5) (pAdd (pVar 8) (pK (.int 1)))) (pCons (pIx (pVar 5) (pVar 8)) (pNil)))) (gT 2 (gsC (gSx (pVar 5) (pVar 8)) (gsC (gSx (pVar 5) (pAdd (pVar 8) (pK (.int 1)))) (gsN)))))
    (pExpr (pMt mAppend (pVar 6) (pCons (pVar 8) (pNil)))))) (pNext)))
def p_lword : PSx :=
    pSeq (pPar [5, 6] (pCons (pC (q1L fListOf) (pCons (pVar 1) (pNil))) (pCons (pLst (pNil)) (pNil))))
    (pSeq (pFor [4, 7, 8] (iRg (pCons (pVar 2) (pNil))) (gN 4) (pb_lword_2))
    (pRet (pC (q1 fTupleOf) (pCons (pVar 6) (pNil)))))
/-- the letter k may be done: the two are unlike, the one behind of the greater kind, or any (free) -/
def letOk (f : Bool) (st : List Nat) (k : Nat) : Prop := k + 1 < st.length ∧ (st.getD (k + 1) 0 < st.getD k 0 ∨ f = true ∧ st.getD k 0 ≠ st.getD (k + 1) 0)
def wordOk (f : Bool) : List Nat → List Nat → Prop
  | _, [] => True
  | st, k :: ws => letOk f st k ∧ wordOk f (swp st k) ws
theorem wordOk_snoc {f : Bool} : ∀ {ws st : List Nat} {k : Nat}, wordOk f st ws → letOk f (goW st ws) k → wordOk f st (ws ++ [k])
  | [], st, k, _, h => ⟨h, trivial⟩
  | w :: ws, st, k, h1, h => ⟨h1.1, wordOk_snoc h1.2 h⟩
theorem wordOk_lt {f : Bool} : ∀ {ws st : List Nat}, wordOk f st ws → ∀ w ∈ ws, w + 1 < st.length
  | [], _, _, w, hw => by cases hw
  | k :: ws, st, h, w, hw => by
    cases hw with
    | head => exact h.1.1
    | tail _ hw => have := wordOk_lt h.2 w hw; rw [swp_len] at this; exact this
def psp_lword : PSp := fun as Q _ => ∃ (ks : List Nat) (m : Nat) (f : Bool) (d : PyData), as = [.ow true .deal, .im d, .im (.int m), .im (.bool f)] ∧ seqD d = some (dN ks) ∧ ks.length ≤ 1000 ∧ m ≤ 1000 ∧ ∀ ws : List Nat, wordOk f ks ws → ws.length ≤ m → Q (.im (.tuple (dN ws))) [.ow true .deal, .un, .un, .un]
theorem eqd_nil (ps : List Nat) : (!eqd (.list (dN ps)) (.list [])) = decide (0 < ps.length) := by
  cases ps with
  | nil => rfl
  | cons p ps => simp [eqd, PyData.eqv, PyData.eqvAll]
def pr_lword : PSx :=
    pSeq (pFor [4, 7, 8] (iRg (pCons (pVar 2) (pNil))) (gN 4) (pb_lword_2))
    (pRet (pC (q1 fTupleOf) (pCons (pVar 6) (pNil))))
theorem hp_rlword {ks : List Nat} {m : Nat} {f : Bool} {d : PyData} {Qp : QE} (hn : ks.length ≤ 1000) (hm : m ≤ 1000) (q : ∀ ws : List Nat, wordOk f ks ws → ws.length ≤ m → Qp (.im (.tuple (dN ws))) [.ow true .deal, .un, .un, .un]) :
    pr_lword (endsP [.ow true .deal, .im d, .im (.int m), .im (.bool f)] Qp) [.ow true .deal, .im d, .im (.int m), .im (.bool f), .un, .ow false (.lst (dN ks)), .ow false (.lst []), .un, .un] := by
  refine ⟨by omega, by omega, ?_⟩
  refine for_rg m rfl (fun i δ => ∃ ws, wordOk f ks ws ∧ ws.length ≤ i ∧ δ = [.ow true .deal, .im d, .im (.int m), .im (.bool f), .un, .ow false (.lst (dN (goW ks ws))), .ow false (.lst (dN ws)), .un, .un]) ⟨[], trivial, Nat.le_refl _, rfl⟩ ?_ ?_
  · rintro i δ hi ⟨ws, ok, hw, rfl⟩
    have hg := goW_len ks ws
    refine ⟨_, _, rfl, trivial, by rw [dN_len, hg]; omega, by rw [dN_len, hg]; omega, ?_⟩
    refine loop_rgS (ks.length - 1) (by rw [dN_len, hg]; omega) (fun j δ => ∃ ps : List Nat, (∀ p ∈ ps, letOk f (goW ks ws) p) ∧ ps.length ≤ j ∧ δ = [.ow true .deal, .im d, .im (.int m), .im (.bool f), .im (nD i), .ow false (.lst (dN (goW ks ws))), .ow false (.lst (dN ws)), .ow false (.lst (dN ps)), .un]) ⟨[], nofun, Nat.le_refl _, rfl⟩ ?_ ?_
    · rintro j δ hj ⟨ps, hp, hpl, rfl⟩
      have h1 : j + 1 < (goW ks ws).length := by rw [hg]; omega
      have g1 := dN_get (getD_of h1)
      have g0 := dN_get (getD_of (xs := goW ks ws) (i := j) (by omega))
      have e1 : ((j : Int) + 1) = ((j + 1 : Nat) : Int) := rfl
      have put : ∀ E : PEn, letOk f (goW ks ws) j → (∀ ps' : List Nat, (∀ p ∈ ps', letOk f (goW ks ws) p) → ps'.length ≤ j + 1 → E.nx [.ow true .deal, .im d, .im (.int m), .im (.bool f), .im (nD i), .ow false (.lst (dN (goW ks ws))), .ow false (.lst (dN ws)), .ow false (.lst (dN ps')), .im (nD j)]) →
          pExpr (pMt mAppend (pVar 7) (pCons (pVar 8) (pNil))) E [.ow true .deal, .im d, .im (.int m), .im (.bool f), .im (nD i), .ow false (.lst (dN (goW ks ws))), .ow false (.lst (dN ws)), .ow false (.lst (dN ps)), .im (nD j)] := fun E hl k => by
        refine ⟨_, _, _, rfl, rfl, _, _, _, _, rfl, rfl, ?_, ?_⟩
        · show (dN ps).length < _
          rw [dN_len]
          exact szN (m := 1000) (by omega) (by decide)
        · have := k (ps ++ [j]) (fun p hp' => by
            rcases List.mem_append.mp hp' with z | z
            · exact hp p z
            · rw [List.mem_singleton] at z; subst z; exact hl) (by simp; omega)
          rw [dN_app] at this
          exact this
      refine ⟨_, atI_of rfl g0, _, atI_of e1 g1, trivial, _, rfl, ?_⟩
      show if decide (((goW ks ws).getD (j + 1) 0 : Int) < ((goW ks ws).getD j 0 : Int)) = true then _ else _
      split
      · rename_i c
        have c := of_decide_eq_true c
        exact put _ ⟨h1, .inl (by omega)⟩ fun ps' h2 h3 => ⟨ps', h2, h3, rfl⟩
      · rename_i c
        have c : ¬ ((goW ks ws).getD (j + 1) 0 : Int) < ((goW ks ws).getD j 0 : Int) := fun z => c (decide_eq_true z)
        refine ⟨f, rfl, ?_⟩
        show if f = true then _ else _
        split
        · rename_i hf
          refine ⟨_, atI_of rfl g0, _, atI_of e1 g1, _, rfl, ?_⟩
          show if (!decide (((goW ks ws).getD j 0 : Int) = ((goW ks ws).getD (j + 1) 0 : Int))) = true then _ else _
          split
          · rename_i c2
            refine put _ ⟨h1, .inr ⟨hf, fun z => ?_⟩⟩ fun ps' h2 h3 => ⟨ps', h2, h3, rfl⟩
            rw [z] at c2
            simp at c2
          · exact ⟨ps, hp, by omega, rfl⟩
        · exact ⟨ps, hp, by omega, rfl⟩
    · rintro δ ⟨ps, hp, hpl, rfl⟩
      refine ⟨shaped_dN ps, rfl, _, rfl, ?_⟩
      show if (!eqd (.list (dN ps)) (.list [])) = true then _ else _
      rw [eqd_nil]
      split
      · rename_i c
        have c : 0 < ps.length := of_decide_eq_true c
        refine ⟨_, _, rfl, _, rfl, nd1 0, _, rfl, by rw [dN_len]; omega, by rw [dN_len]; omega, fun k hk => ?_⟩
        rw [dN_len] at hk
        have hk : k < ps.length := by omega
        refine ⟨_, atI_of rfl (dN_get (List.getElem?_eq_getElem hk)), _, _, rfl, ?_⟩
        have lk := hp _ (List.getElem_mem hk)
        have h1 := lk.1
        have g1 := dN_get (getD_of h1)
        have g0 := dN_get (getD_of (xs := goW ks ws) (i := ps[k]) (by omega))
        have e1 : ((ps[k] : Int) + 1) = ((ps[k] + 1 : Nat) : Int) := rfl
        refine ⟨_, atI_of e1 g1, _, atI_of rfl g0, _, _, rfl, rfl, 5, (ps[k] : Int), false, _, ps[k], rfl, rfl, rfl, by rw [dN_len]; exact ixN_nat (by omega), 5, ((ps[k] + 1 : Nat) : Int), false, _, ps[k] + 1, rfl, rfl, rfl, by rw [List.length_set, dN_len]; exact ixN_nat h1, rfl, ?_⟩
        refine ⟨_, _, _, rfl, rfl, _, _, _, _, rfl, rfl, ?_, ws ++ [ps[k]], wordOk_snoc ok lk, by simp; omega, ?_⟩
        · show (dN ws).length < _
          rw [dN_len]
          exact szN (m := 1000) (by omega) (by decide)
        · show [_, _, _, _, _, _, _, _, _] = _
          rw [goW_snoc, dN_set, dN_set, dN_app]
          rfl
      · exact ⟨ws, ok, by omega, rfl⟩
  · rintro δ ⟨ws, ok, hw, rfl⟩
    exact ⟨_, _, rfl, q ws ok hw⟩
theorem hp_lword (as : List Sl) (Qp : QE) (Ep : EX) (h : psp_lword as Qp Ep) : p_lword (endsP as Qp) (as ++ List.replicate 5 .un) := by
  obtain ⟨ks, m, f, d, rfl, hd, hn, hm, q⟩ := h
  have main : pr_lword (endsP [.ow true .deal, .im d, .im (.int m), .im (.bool f)] Qp) [.ow true .deal, .im d, .im (.int m), .im (.bool f), .un, .ow false (.lst (dN ks)), .ow false (.lst []), .un, .un] := hp_rlword hn hm q
  cases d with
  | list ds => cases hd; exact ⟨_, _, rfl, main⟩
  | tuple ds => cases hd; exact ⟨_, _, rfl, main⟩
  | none => cases hd
  | bool b => cases hd
  | int b => cases hd
  | str b => cases hd
  | dict b => cases hd
end Pv
namespace Pv
open PySem PySem.Spec L2 Wf
/-! ### orders -/
theorem swp_perm {xs : List Nat} {k : Nat} (h : k + 1 < xs.length) : (swp xs k).Perm xs := by
  unfold swp
  have e1 : xs.getD (k + 1) 0 = xs[k + 1] := by rw [List.getD_eq_getElem?_getD, List.getElem?_eq_getElem h]; rfl
  have e2 : xs.getD k 0 = xs[k] := by rw [List.getD_eq_getElem?_getD, List.getElem?_eq_getElem (show k < xs.length by omega)]; rfl
  rw [e1, e2]
  exact List.set_set_perm (by omega) h
/-! ### sizes -/
end Pv
namespace Pv
open PySem PySem.Spec L2 Wf
/-! ### _law_row, _law_led -/
def pe_lrow_1 : PX :=
    pTup (pCons (pCall psp_draw (pCons (pVar 0) (pCons (pFz (pC (q1 fLen) (pCons (pIx (pVar 1) (pK (.int 0))) (pNil)))) (pNil))) noX) (pCons (pCall psp_draw (pCons (pVar 0) (pCons (pFz (pIx (pVar 1) (pK (.int 1)))) (pNil))) noX) (pNil)))
def p_lrow : PSx :=
    pRet (pC (q1 fTupleOf) (pCons (pComp (iRg (pCons (pVar 2) (pNil))) (gN 3) (pYes) (pe_lrow_1) [3]) (pNil)))
def psp_lrow : PSp := fun as Q _ => ∃ (B : Book) (m : Int) (n : Nat), as = [.ow true .deal, .im (dB B), .im (nD n)] ∧ BookOk m B ∧ n ≤ 1000 ∧ ∀ r : List Wk, RowOk m B.s r → r.length = n → Q (.im (dR r)) [.ow true .deal, .un, .un]
theorem hp_lrow (as : List Sl) (Qp : QE) (Ep : EX) (h : psp_lrow as Qp Ep) : p_lrow (endsP as Qp) (as ++ List.replicate 1 .un) := by
  obtain ⟨B, m, n, rfl, bk, hn, q⟩ := h
  have pl := bk.pac.len
  have := bk.m1
  have := bk.m5
  have := bk.s1
  have := bk.s6
  refine ⟨by omega, by omega, noPin1 fun o => nofun, fun j acc δ => ∃ r : List Wk, acc = r.map dP ∧ r.length = j ∧ RowOk m B.s r ∧ δ = [.ow true .deal, .im (dB B), .im (nD n), .un], ⟨[], rfl, rfl, nofun, rfl⟩, ?_, ?_⟩
  · rintro j d acc δ hd ⟨r, rfl, rfl, hk, rfl⟩
    obtain ⟨rfl, hj⟩ := rgD_get hd
    have el : ((B.ps.map PyData.int).length : Int) = m := by rw [List.length_map]; exact pl
    refine ⟨_, rfl, _, _, rfl, _, rfl, nd1 0, _, rfl, by omega, by omega, fun a ha => ?_⟩
    refine ⟨_, rfl, _, _, rfl, _, rfl, nd1 0, _, rfl, by omega, by omega, fun b hb => ?_⟩
    refine ⟨_, _, rfl, ?_, r ++ [((a : Int), (b : Int))], ?_, by simp, fun z hz => ?_, rfl⟩
    · rw [List.length_map]
      exact szN (m := 1000) (by omega) (by decide)
    · rw [List.map_append]; rfl
    · rcases List.mem_append.mp hz with z1 | z1
      · exact hk z z1
      · rw [List.mem_singleton] at z1
        subst z1
        refine ⟨?_, ?_, ?_, ?_⟩
        · show (0 : Int) ≤ (a : Int); omega
        · show (a : Int) < m; omega
        · show (0 : Int) ≤ (b : Int); omega
        · show (b : Int) < B.s; omega
  · rintro acc δ ⟨r, rfl, hl, hk, rfl⟩
    rw [rgD_len] at hl
    exact ⟨_, _, rfl, q r hk (by omega)⟩
def ledN (B : Book) (r : List Wk) (ks : List Nat) : List Wk := ks.foldl (passR B) r
def fwdW (B : Book) : List Wk → List Nat → Prop
  | _, [] => True
  | r, k :: ks => (k + 1 < r.length ∧ (wk r (k + 1)).1 < (wk r k).1) ∧ fwdW B (passR B r k) ks
/-! ### data of rows, for repr and alike -/
end Pv
/-! Calls that draw: what stands in the slots stays, as it is written. -/
namespace Pv
open PySem PySem.Spec L2 Wf
/-- the deal in slot 1, or 0, stays -/
theorem pk1 {s0 s : Sl} {b : Bool} {d : PyData} {δ : List Sl} : putB (s0 :: .ow b .deal :: δ) [.at 1, .im d] [.ow true .deal, s] = s0 :: .ow b .deal :: δ := rfl
theorem pk0 {s : Sl} {b : Bool} {d : PyData} {δ : List Sl} : putB (.ow b .deal :: δ) [.at 0, .im d] [.ow true .deal, s] = .ow b .deal :: δ := rfl
end Pv
namespace Pv
open PySem PySem.Spec L2 Wf
/-! ### in, not in: texts or numbers in a tuple or list of such -/
/-! ### repr of a list -/
end Pv
/-! tuple(zip(t, u)), t and u tuples of one length -/
namespace Wf
open PySem PySem.Spec PyProof.Rows
end Wf
namespace Pv
open PySem PySem.Spec L2 Wf
/-! ### tuple(zip(t, u)) -/
end Pv
/-! Calls with keywords, and defs with a default for a keyword. -/
namespace Wf
open PySem PySem.Spec L2
end Wf
namespace Pv
open PySem PySem.Spec L2 Wf
end Pv
/-! t[::-1] of a tuple, in the model. -/
namespace Wf
open PySem PySem.Spec PyProof.Rows
end Wf
namespace Pv
open PySem PySem.Spec L2 Wf
/-! ### isinstance(caught error, a built-in class) -/
/-! ### t[::-1] of a tuple -/
end Pv
/-! tuple(d), d a dict whose keys are tuples -/
namespace Wf
open PySem PySem.Spec PyProof.Rows
end Wf
/-! Dicts by tuples of numbers, by value. -/
namespace Pv
open PySem PySem.Spec L2 Wf
variable {B : Bas}
theorem NoX.dT {H : Hp} {a : Addr} {kvs : List (List Key × V)} (e : H a = some (.dT kvs)) : NoX H a := NoX.of e (fun _ z => by cases z) (fun _ _ z => by cases z) fun _ z => by cases z
end Pv
/-! sorted(xs, reverse=True), list(zip(t, u)) by value. -/
namespace Pv
open PySem PySem.Spec L2 Wf
end Pv
/-! Comprehensions with two fors, by value. -/
namespace Pv
open PySem PySem.Spec L2 Wf
variable {B : Bas}
/-- the second for's turns; acc is what was made before -/
def comp1I (g : PGx) (tt : PB) (elt : PX) (vs : List Nat) (Kk : List PyData → List Sl → Prop) (ds : List PyData) (acc : List PyData) (δ : List Sl) : Prop := ∃ I : Nat → List PyData → List Sl → Prop, I 0 acc δ ∧
  (∀ (i : Nat) d acc δ, ds[i]? = some d → I i acc δ → g d δ fun δ2 => tt δ2 fun b δ3 => if b = true then elt δ3 fun r δ4 => ∃ e δ5, fz δ4 r = some (e, δ5) ∧ acc.length < sizeLine ∧ I (i + 1) (acc ++ [e]) (wipeS δ5 vs) else I (i + 1) acc (wipeS δ3 vs)) ∧ ∀ acc δ, I ds.length acc δ → Kk acc δ
def comp2I (g : PGx) (tt : PB) (it1 : PIx) (g1 : PGx) (tt1 : PB) (elt : PX) (vs vs1 : List Nat) (Kk : List PyData → List Sl → Prop) (ds : List PyData) (δ : List Sl) : Prop := ∃ I : Nat → List PyData → List Sl → Prop, I 0 [] δ ∧
  (∀ (i : Nat) d acc δ, ds[i]? = some d → I i acc δ → g d δ fun δ2 => tt δ2 fun b δ3 => if b = true then it1 δ3 fun es δ4 => comp1I g1 tt1 elt vs1 (fun acc δ => I (i + 1) acc (wipeS δ vs)) es acc (wipeS δ4 vs1) else I (i + 1) acc (wipeS δ3 vs)) ∧ ∀ acc δ, I ds.length acc δ → Kk acc δ
def pComp2 (it : PIx) (g : PGx) (tt : PB) (it1 : PIx) (g1 : PGx) (tt1 : PB) (elt : PX) (vs vs1 : List Nat) : PX := fun δ Q => it δ fun ds δ1 => noPin δ1 vs ∧ comp2I g tt it1 g1 tt1 elt vs vs1 (fun acc δ2 => Q (.ow (.lst acc)) (restS δ1 δ2 vs)) ds (wipeS δ1 vs)
theorem lc_lift2 {K : PySem.W.Frag} {pi pi1 : PIx} {ts ts1 vs vs1 : List Nat} {g g1 : PGx} {tt tt1 : PB} {elt : PX} {σ : St} {H : Hp} {Q : VK} (hts : ∀ i ∈ ts, i ∈ vs) (hts1 : ∀ i ∈ ts1, i ∈ vs1) (hv : ∀ i ∈ vs1, i ∈ vs) (h : LE K B (pComp2 pi g tt pi1 g1 tt1 elt vs vs1) σ H Q) :
    tLc2 (LI K B pi) (LG K B ts g) (LB K B tt) (LI K B pi1) (LG K B ts1 g1) (LB K B tt1) (LE K B elt) vs vs1 σ H Q := by
  obtain ⟨G, w, δ, Qp, rep, q, k⟩ := h
  refine ⟨G, w, δ, _, rep, q, fun ds δ1 J H1 G1 w1 q1 s1 rep1 itd D hD => ?_⟩
  obtain ⟨np, I, i0, is, ie⟩ := q1
  obtain ⟨w2, s2, r2⟩ := rep1.retLst (us := []) (ds := []) hD .nil
  have noA : ∀ acc : List PyData, ∀ p ∈ [R.ow (.lst acc)], isAt p = false := fun acc p hp => by rw [List.mem_singleton.mp hp]; rfl
  have ni : ∀ (i : Nat) o, δ[i]? = some (Sl.ow true o) → i ∉ vs := fun i o hi => by
    obtain ⟨o1, h1⟩ := s1.pn i o hi
    exact fun z => np i z o1 h1
  have pnw : ∀ {G' H' : Hp} {w' : Addr → Option Nat} {δ' : List Sl}, Stp B.T G H w δ G' H' w' δ' → Stp B.T G H w δ G' H' w' (wipeS δ' vs) := fun s => s.reδ fun i o hi => by
    obtain ⟨o1, h1⟩ := s.pn i o hi
    exact ⟨o1, by rw [wipeS_ne (ni i o hi)]; exact h1⟩
  have pnw1 : ∀ {G' H' : Hp} {w' : Addr → Option Nat} {δ' : List Sl}, Stp B.T G H w δ G' H' w' δ' → Stp B.T G H w δ G' H' w' (wipeS δ' vs1) := fun s => s.reδ fun i o hi => by
    obtain ⟨o1, h1⟩ := s.pn i o hi
    exact ⟨o1, by rw [wipeS_ne (fun z => ni i o hi (hv i z))]; exact h1⟩
  refine ⟨fun i m H' => m = ds.length - i ∧ i ≤ ds.length ∧ ∃ G' w' δ' acc, Stp B.T G H w δ G' H' w' δ' ∧ Same G1 G' ∧ Rep K B G' H' (wipe σ vs) δ' [.ref D] [.ow (.lst acc)] w' ∧ I i acc δ', ⟨ds.length, rfl, Nat.zero_le _, G1, w2, wipeS δ1 vs, [], pnw (s1.trans s2), fun _ _ h => h, r2.reσ (by rw [wipe_length, wipeS_len]; exact r2.len) (fun i s hi => ?_) (noA _), i0⟩, ?_⟩
  · rcases wipeS_get hi with e | ⟨e1, e2⟩
    · exact .inl e
    · exact .inr ⟨e1, wipe_ne e2⟩
  rintro i m H' ⟨rfl, hi, G', w', δ', acc, st, sg, rp, q⟩
  by_cases hlt : i < ds.length
  · have q := is i _ acc δ' (List.getElem?_eq_getElem hlt) q
    refine .inr ⟨itd.go G' H' i sg rp.sub hlt, fun H2 => i + 1 ≤ ds.length ∧ ∃ G' w' δ' acc, Stp B.T G H w δ G' H2 w' δ' ∧ Same G1 G' ∧ Rep K B G' H2 (wipe σ vs) δ' [.ref D] [.ow (.lst acc)] w' ∧ I (i + 1) acc δ', fun H2 z => ⟨ds.length - (i + 1), by omega, rfl, z⟩, fun x H2 y => ?_⟩
    obtain ⟨d, hd, res⟩ := itd.yld G' H' i x H2 sg rp.sub hlt y
    rw [List.getElem?_eq_getElem hlt] at hd
    cases hd
    obtain ⟨G2, s2, r2, hq⟩ := rp.res res
    refine ⟨G2, _, δ', _, _, r2.drop, hq, q, fun δ3 σ3 H3 G3 w3 q3 s3 r3 p3 t3 => ⟨wipe_eq t3 hts, ?_⟩⟩
    obtain ⟨w4, s4, r4⟩ := r2.frameS (noA _) s3 r3
    have back : ∀ {G9 H9 : Hp} {w9 : Addr → Option Nat} {σ9 : St} {δ9 : List Sl} {acc9 : List PyData}, σ9.length = (wipe σ vs).length → (∀ k, k ∉ vs → σ9[k]? = (wipe σ vs)[k]?) → Rep K B G9 H9 σ9 δ9 [.ref D] [.ow (.lst acc9)] w9 → Rep K B G9 H9 (wipe σ vs) (wipeS δ9 vs) [.ref D] [.ow (.lst acc9)] w9 := fun {G9 H9 w9 σ9 δ9 acc9} hl hk r9 => by
      refine r9.reσ ?_ (fun k s hk' => ?_) (noA _)
      · rw [wipeS_len, ← r9.len, hl]
      · rcases wipeS_get hk' with e | ⟨e1, e2⟩
        · exact .inl e
        · exact .inr ⟨e1, (hk k e2).symm⟩
    have l3 : σ3.length = (wipe σ vs).length := t3.1
    have k3 : ∀ k, k ∉ vs → σ3[k]? = (wipe σ vs)[k]? := fun k hk => t3.2 k fun z => hk (hts k z)
    refine ⟨G3, _, δ3, _, r4.drop, q3, fun b δ5 H5 G5 w5 q5 s5 r5 => ?_⟩
    obtain ⟨w6, s6, r6⟩ := r4.frame s5 r5
    have st6 := ((st.trans s2).trans s4).trans s6
    have sg6 : Same G1 G5 := fun a o ha => s6.g a o (s4.g a o (s2.g a o (sg a o ha)))
    cases b with
    | false => exact ⟨hlt, G5, w6, _, acc, pnw st6, sg6, back l3 k3 r6, q5⟩
    | true =>
      refine ⟨G5, _, δ5, _, r6.drop, q5, fun es δ7 J1 H7 G7 w7 q7 s7 r7 itd1 => ?_⟩
      obtain ⟨w8, s8, r8⟩ := r6.frame s7 r7
      obtain ⟨I1, j0, js, je⟩ := q7
      have st8 := st6.trans s8
      have sg8 : Same G1 G7 := fun a o ha => s8.g a o (sg6 a o ha)
      refine ⟨fun j kk H' => kk = es.length - j ∧ j ≤ es.length ∧ ∃ G' w' δ' acc, Stp B.T G H w δ G' H' w' δ' ∧ Same G1 G' ∧ Same G7 G' ∧ Rep K B G' H' (wipe σ3 vs1) δ' [.ref D] [.ow (.lst acc)] w' ∧ I1 j acc δ', ⟨es.length, rfl, Nat.zero_le _, G7, w8, wipeS δ7 vs1, acc, pnw1 st8, sg8, fun _ _ h => h, r8.reσ (by rw [wipe_length, wipeS_len]; exact r8.len) (fun i s hi => ?_) (noA _), j0⟩, ?_⟩
      · rcases wipeS_get hi with e | ⟨e1, e2⟩
        · exact .inl e
        · exact .inr ⟨e1, wipe_ne e2⟩
      rintro j kk Ha ⟨rfl, hj, Ga, wa, δa, acca, sta, sga, sga', rpa, qa⟩
      by_cases hlt1 : j < es.length
      · have qa := js j _ acca δa (List.getElem?_eq_getElem hlt1) qa
        refine .inr ⟨itd1.go Ga Ha j sga' rpa.sub hlt1, fun H2 => j + 1 ≤ es.length ∧ ∃ G' w' δ' acc, Stp B.T G H w δ G' H2 w' δ' ∧ Same G1 G' ∧ Same G7 G' ∧ Rep K B G' H2 (wipe σ3 vs1) δ' [.ref D] [.ow (.lst acc)] w' ∧ I1 (j + 1) acc δ', fun H2 z => ⟨es.length - (j + 1), by omega, rfl, z⟩, fun x1 Hb y1 => ?_⟩
        obtain ⟨d1, hd1, res1⟩ := itd1.yld Ga Ha j x1 Hb sga' rpa.sub hlt1 y1
        rw [List.getElem?_eq_getElem hlt1] at hd1
        cases hd1
        obtain ⟨Gb, sb, rb, hqb⟩ := rpa.res res1
        refine ⟨Gb, _, δa, _, _, rb.drop, hqb, qa, fun δc σc Hc Gc wc qc sc rc pc tc => ⟨wipe_eq tc hts1, ?_⟩⟩
        obtain ⟨wd, sd, rd⟩ := rb.frameS (noA _) sc rc
        have back1 : ∀ {G9 H9 : Hp} {w9 : Addr → Option Nat} {δ9 : List Sl} {acc9 : List PyData}, Rep K B G9 H9 σc δ9 [.ref D] [.ow (.lst acc9)] w9 → Rep K B G9 H9 (wipe σ3 vs1) (wipeS δ9 vs1) [.ref D] [.ow (.lst acc9)] w9 := fun {G9 H9 w9 δ9 acc9} r9 => by
          refine r9.reσ ?_ (fun k s hk => ?_) (noA _)
          · rw [wipe_length, wipeS_len, ← r9.len, tc.1, wipe_length]
          · rcases wipeS_get hk with e | ⟨e1, e2⟩
            · exact .inl e
            · exact .inr ⟨e1, (tc.2 k fun z => e2 (hts1 k z)).symm⟩
        refine ⟨Gc, _, δc, _, rd.drop, qc, fun b1 δe He Ge we qe se re => ?_⟩
        obtain ⟨wf, sf, rf⟩ := rd.frame se re
        have stf := ((sta.trans sb).trans sd).trans sf
        have sgf : Same G1 Ge := fun a o ha => sf.g a o (sd.g a o (sb.g a o (sga a o ha)))
        have sgf' : Same G7 Ge := fun a o ha => sf.g a o (sd.g a o (sb.g a o (sga' a o ha)))
        cases b1 with
        | false => exact ⟨hlt1, Ge, wf, _, acca, pnw1 stf, sgf, sgf', back1 rf, qe⟩
        | true =>
          refine ⟨Ge, _, δe, _, rf.drop, qe, fun r δg y Hg Gg wg qg sg9 rg => ?_⟩
          obtain ⟨wh, sh, rh⟩ := rf.frame sg9 rg
          obtain ⟨e, δi, hz, hl, qg⟩ := qg
          obtain ⟨Gi, wi, si, ri⟩ := rh.fz1 (j := 1) rfl rfl hz
          have ri' : Rep K B Gi Hg σc δi [.ref D, y] [.ow (.lst acca), .im e] wi := ri
          have hy : Dq K Gi y e := ri'.tm 1 y (.im e) rfl rfl
          obtain ⟨a, us, ea, ma, ha, hus⟩ := ri'.tm 0 (.ref D) (.ow (.lst acca)) rfl rfl
          cases ea
          obtain ⟨us2, h2, h3, s10, r10⟩ := ri'.wrT (dqAll_append hus (.cons hy .nil))
          refine ⟨us, ha, by rw [dqAll_len hus]; exact hl, hlt1, Gi, wi, _, acca ++ [e], pnw1 (((stf.trans sh).trans si).trans s10), fun a o h => si.g a o (sh.g a o (sgf a o h)), fun a o h => si.g a o (sh.g a o (sgf' a o h)), back1 r10.first, qg⟩
      · have ej : j = es.length := by omega
        subst ej
        refine .inl ⟨itd1.stop Ga Ha sga' rpa.sub, hlt, Ga, wa, wipeS δa vs, acca, pnw sta, sga, back ?_ (fun k hk => ?_) rpa, je acca δa qa⟩
        · rw [wipe_length, l3]
        · rw [wipe_ne (fun z => hk (hv k z))]
          exact k3 k hk
  · have ei : i = ds.length := by omega
    subst ei
    refine .inl ⟨itd.stop G' H' sg rp.sub, k _ _ _ H' G' w' (ie acc δ' q) (st.reδ fun j o hj => ?_) ⟨rp.sub, rp.out, by rw [restS_len, ← rp.len, wipe_length], fun j s hj => ?_, rp.tlen, fun j v p hv hp => (rp.tm j v p hv hp).noAt (noA _ p (List.mem_of_getElem? hp)), rp.bs⟩⟩
    · obtain ⟨o1, h1⟩ := st.pn j o hj
      exact ⟨o1, by rw [restS_ne (ni j o hj)]; exact h1⟩
    · by_cases hm : j ∈ vs
      · rcases restS_in hm hj with rfl | ⟨d, rfl, e0⟩
        · trivial
        · obtain ⟨v, hv, hd⟩ := rep1.sl j _ e0
          exact ⟨v, hv, dp_mono sg _ _ hd⟩
      · rw [restS_ne hm] at hj
        have := rp.sl j s hj
        rwa [wipe_ne hm] at this
section
variable {X : Cx}
theorem je_lc2 {elt tg iter tg1 iter1 : Expr} {ifs ifs1 : List Expr} {scope : Scope} {own : List (Str × Nat)} {pos : Pos} {pi pi1 : PIx} {ts ts1 : List Nat} {g g1 : PGx} {tt tt1 : PB} {pe : PX} (vs1 : List Nat) (hc : X.calm = true) (hN : X.N.Nodup) (hi : JI X B tg iter pi) (ok : BlkOk X.N X.env.scope scope own)
    (hg : ∀ (s : Shared) (H : Hp) (C : Addr) (cl : List (Str × Addr)) (fp : List Addr), JG (X.blk s H scope (compEnvC scope cl C X.env) fp) B tg ts g) (ht : ∀ (s : Shared) (H : Hp) (C : Addr) (cl : List (Str × Addr)) (fp : List Addr), JTs (X.blk s H scope (compEnvC scope cl C X.env) fp) B ifs tt)
    (hi1 : ∀ (s : Shared) (H : Hp) (C : Addr) (cl : List (Str × Addr)) (fp : List Addr), JI (X.blk s H scope (compEnvC scope cl C X.env) fp) B tg1 iter1 pi1)
    (hg1 : ∀ (s : Shared) (H : Hp) (C : Addr) (cl : List (Str × Addr)) (fp : List Addr), JG (X.blk s H scope (compEnvC scope cl C X.env) fp) B tg1 ts1 g1) (ht1 : ∀ (s : Shared) (H : Hp) (C : Addr) (cl : List (Str × Addr)) (fp : List Addr), JTs (X.blk s H scope (compEnvC scope cl C X.env) fp) B ifs1 tt1)
    (he : ∀ (s : Shared) (H : Hp) (C : Addr) (cl : List (Str × Addr)) (fp : List Addr), JE (X.blk s H scope (compEnvC scope cl C X.env) fp) B elt pe) (hts : ∀ i ∈ ts, i ∈ own.map (·.2) := by decide) (hts1 : ∀ i ∈ ts1, i ∈ vs1 := by decide) (hv : ∀ i ∈ vs1, i ∈ own.map (·.2) := by decide) (hs : ∀ x, foldedSetIterable iter X.env x = pure x := by intro _; rfl) (hs1 : ∀ env x, foldedSetIterable iter1 env x = pure x := by intro _ _; rfl) :
    JE X B (.ListComp elt [⟨tg, iter, ifs, 0⟩, ⟨tg1, iter1, ifs1, 0⟩] scope pos) (pComp2 pi g tt pi1 g1 tt1 pe (own.map (·.2)) vs1) := PE_wk (pe_lc2 (g := LG X.K B ts g) (tt := LB X.K B tt) (wi1 := LI X.K B pi1) (g1 := LG X.K B ts1 g1) (tt1 := LB X.K B tt1) (te := LE X.K B pe) hc hN hi ok hv hg ht hi1 hg1 ht1 he hs hs1) fun σ H Q h => lc_lift2 hts hts1 hv h
theorem js_setLc2 {i : Nat} {y : Str} {py : Pos} {elt tg iter tg1 iter1 : Expr} {ifs ifs1 : List Expr} {scope : Scope} {own : List (Str × Nat)} {pos spos : Pos} {pi pi1 : PIx} {ts ts1 : List Nat} {g g1 : PGx} {tt tt1 : PB} {pe : PX} (vs1 : List Nat) (hc : X.calm = true) (hN : X.N.Nodup) (hy : X.N[i]? = some y) (hyl : X.env.scope.names.lookup y = some .local)
    (hsw : swapsWith (.ListComp elt [⟨tg, iter, ifs, 0⟩, ⟨tg1, iter1, ifs1, 0⟩] scope pos) (some (.Name y py)) spos.line X.env = pure true) (hi : JI X B tg iter pi) (ok : BlkOk X.N X.env.scope scope own)
    (hg : ∀ (s : Shared) (H : Hp) (C : Addr) (cl : List (Str × Addr)) (fp : List Addr), JG (X.blk s H scope (compEnvC scope cl C X.env) fp) B tg ts g) (ht : ∀ (s : Shared) (H : Hp) (C : Addr) (cl : List (Str × Addr)) (fp : List Addr), JTs (X.blk s H scope (compEnvC scope cl C X.env) fp) B ifs tt)
    (hi1 : ∀ (s : Shared) (H : Hp) (C : Addr) (cl : List (Str × Addr)) (fp : List Addr), JI (X.blk s H scope (compEnvC scope cl C X.env) fp) B tg1 iter1 pi1)
    (hg1 : ∀ (s : Shared) (H : Hp) (C : Addr) (cl : List (Str × Addr)) (fp : List Addr), JG (X.blk s H scope (compEnvC scope cl C X.env) fp) B tg1 ts1 g1) (ht1 : ∀ (s : Shared) (H : Hp) (C : Addr) (cl : List (Str × Addr)) (fp : List Addr), JTs (X.blk s H scope (compEnvC scope cl C X.env) fp) B ifs1 tt1)
    (he : ∀ (s : Shared) (H : Hp) (C : Addr) (cl : List (Str × Addr)) (fp : List Addr), JE (X.blk s H scope (compEnvC scope cl C X.env) fp) B elt pe) (hts : ∀ i ∈ ts, i ∈ own.map (·.2) := by decide) (hts1 : ∀ i ∈ ts1, i ∈ vs1 := by decide) (hv : ∀ i ∈ vs1, i ∈ own.map (·.2) := by decide) (hs : ∀ x, foldedSetIterable iter X.env x = pure x := by intro _; rfl) (hs1 : ∀ env x, foldedSetIterable iter1 env x = pure x := by intro _ _; rfl) :
    JS X B (.Assign [.Name y py] (.ListComp elt [⟨tg, iter, ifs, 0⟩, ⟨tg1, iter1, ifs1, 0⟩] scope pos) spos) (pSet i (pComp2 pi g tt pi1 g1 tt1 pe (own.map (·.2)) vs1)) := PS_wk (ps_setLc2 (g := LG X.K B ts g) (tt := LB X.K B tt) (wi1 := LI X.K B pi1) (g1 := LG X.K B ts1 g1) (tt1 := LB X.K B tt1) (te := LE X.K B pe) hc hN hy hyl hsw hi ok hv hg ht hi1 hg1 ht1 he hs hs1) fun D σ H h => lc_lift2 hts hts1 hv (set_lift h)
end
end Pv
/-! len(set(t)), t a tuple of tuples of numbers. -/
namespace Wf
open PySem PySem.Spec PyProof.Rows L2
section
variable {P : Program} {w : World} {A : Around} {E : Value → Shared → Prop} {s : Shared}
/-- the new set -/
abbrev newS (w : World) : Obj := { cls := .type "set", dict := none, data := .set #[] 0 (.fresh 0 0 (!w.params.followText "set-order")) }
/-- a set of a tuple of tuples -/
theorem set_of_tuple {tp : Addr} {its : Array Value} (ks : List (Addr × List Int)) {Q : Value → Shared → Prop} (hh : A.handled = none) (ht : s.heap.IsTuple tp its) (ei : its.toList = ks.map fun q => Value.ref q.1)
    (hk : ∀ q ∈ ks, IsT P w s.heap q.2 q.1) (few : ks.length < 64) (hu : A.units + 3 < cLine)
    (fin : ∀ (h2 : Heap) (n2 : Nat) L es ep t, SetTR P w h2 s.heap.objs.size L es ep t → Got ks ks.length L → (∀ c o, s.heap.get? c = some o → h2.get? c = some o) → Q (.ref s.heap.objs.size) { s with heap := h2, toks := n2 }) :
    wpAny (model P w) A (call (.type "set") [.ref tp]) Q E s := by
  have esz : its.size = ks.length := by rw [← Array.length_toList, ei, List.length_map]
  obtain ⟨c0, l0, m0⟩ := F.called_set.mro
  have k1 := F.called_set.made
  have k2 := F.called_set.sub
  refine wpAny_call (codeAny_of_tree ?_)
  show wpAny _ _ (callAny (.type "set") _) _ _ _
  refine wpAny_pure ⟨Code.quiet_builtin _ (by decide +kernel), codeAny_builtin F.entry_type_call ?_⟩
  rw [Around.under_plain (weight_type_call_type "set" [.ref tp] []) rfl]
  have k3 := F.called_set.notType
  have k4 := F.called_set.canCreate
  have k5 := F.typeCall_set_1 (.ref tp)
  repeat (any_goals first | assumption | wp_step)
  refine codeAny_mono (code_set_led1 (.ref tp) (E := E) (Q₁ := fun v z => v = .ref s.heap.objs.size ∧ z = { s with heap := s.heap.push (newS w) }) ⟨rfl, rfl⟩) fun r z hr => ?_
  cases r with
  | error e => exact hr
  | ok fl =>
    cases fl with
    | ret v =>
      obtain ⟨rfl, rfl⟩ := hr
      have nS : (s.heap.push (newS w)).get? s.heap.objs.size = some (newS w) := Heap.get?_push_size _ rfl
      have nT : Shared.TypeIs { s with heap := s.heap.push (newS w) } (.ref s.heap.objs.size) "set" := ⟨_, nS, rfl⟩
      have k6 := F.called_set.init.lookup
      have k7 := F.called_set.init.bind (.ref s.heap.objs.size)
      repeat (any_goals first | assumption | wp_step)
      refine codeAny_mono (codeAny_call_builtin (R := wants (fun r z => r = .none ∧ ∃ h2 n2 L es ep t, z = { s with heap := h2, toks := n2 } ∧ SetTR P w h2 s.heap.objs.size L es ep t ∧ Got ks ks.length L ∧ ∀ c o, s.heap.get? c = some o → h2.get? c = some o) E) F.called_set.init.plain F.entry_set_init (check_set_init_1 nT ?_)) fun r z hr => ?_
      · obtain ⟨ot, hot, hct, nt, hdt⟩ := ht
        obtain ⟨x1, x2, x3, x4⟩ := ot
        simp only at hct hdt
        subst hct hdt
        have at1 : (s.heap.push (newS w)).get? tp = some { cls := .type "tuple", dict := x2, data := .seq its nt, slots := x4 } := Heap.get?_push_of_some _ hot
        have j1 := F.sub_tuple_set
        have j2 := F.sub_tuple_frozenset
        have j3 : (Value.type "tuple" == Value.type "dict") = false := by decide
        have it1 : (s.heap.push (newS w)).IsTuple tp its := ⟨_, at1, rfl, nt, rfl⟩
        unfold Builtin.«set.__init__» noKeywords Builtin.Frozenset.updateFrom
        generalize ep : pyIter = PI
        wp_walk
        subst ep
        refine wpAny_pyIter_tuple it1 ?_
        refine wpAny_bind (wpAny_runValue ?_)
        have lt : tp < s.heap.objs.size := Heap.lt_size hot
        have h3 : A.in1.in1.in1.handled = none := by simp [hh]
        have sz : (s.heap.push (newS w)).objs.size = s.heap.objs.size + 1 := Heap.size_push ..
        have ne1 : tp ≠ (s.heap.push (newS w)).objs.size := by rw [sz]; exact Nat.ne_of_lt (Nat.lt_succ_of_lt lt)
        have ne2 : s.heap.objs.size ∉ [(s.heap.push (newS w)).objs.size, tp] := by
          rw [sz]
          simp only [List.mem_cons, List.not_mem_nil, or_false, not_or]
          exact ⟨Nat.ne_of_lt (Nat.lt_succ_self _), Nat.ne_of_gt lt⟩
        have val : ∀ (i : Nat) (v : Value), its[i]? = some v → ∃ q, ks[i]? = some q ∧ v = .ref q.1 := fun i v hv => by
          have e : (ks.map fun q => Value.ref q.1)[i]? = some v := by rw [← ei, Array.getElem?_toList]; exact hv
          rw [List.getElem?_map] at e
          obtain ⟨q, e1, e2⟩ := Option.map_eq_some_iff.mp e
          exact ⟨q, e1, e2.symm⟩
        have fresh : ∀ c, s.heap.objs.size ≤ c → s.heap.get? c = none := fun c hc => by
          cases e : s.heap.get? c with
          | none => rfl
          | some o => exact absurd (Nat.lt_of_lt_of_le (Heap.lt_size e) hc) (Nat.lt_irrefl _)
        refine set_update_tups ((Walks.tuple h3 _ tp ne1 its).toS) s.heap.objs.size ne2 ks esz few val s.heap hk (fresh _ (Nat.le_refl _)) (fun c hc => fresh c (by rw [List.mem_singleton.mp hc, sz]; exact Nat.le_succ _)) hu (its.size - 0) 0 _ (by omega) (Nat.zero_le _) ⟨⟨_, Heap.get?_push_size _ rfl, rfl, rfl⟩, it1.push _⟩ (fun c o e => Heap.get?_push_of_some _ (Heap.get?_push_of_some _ e)) ?a0 ?a1
        case a0 => exact ⟨[], #[], 0, _, setTR_fresh (Heap.get?_push_of_some _ nS), Got.zero ks⟩
        case a1 =>
          intro z L es ep t mv hS hg hkp
          obtain ⟨h2, g2, d2, n2, o2⟩ := z
          obtain rfl : g2 = s.gens := mv.gens
          obtain rfl : d2 = s.drawn := mv.drawn
          obtain rfl : o2 = s.os := mv.os
          show wpAny _ _ _ _ _ _
          refine wpAny_pure ?_
          show wpAny _ _ (ret Value.none) _ _ _
          rw [esz] at hg
          exact wpAny_pure ⟨rfl, h2, n2, L, es, ep, t, rfl, hS, hg, hkp⟩
      · cases r with
        | error e => exact hr
        | ok fl =>
          cases fl with
          | ret v =>
            obtain ⟨rfl, h2, n2, L, es, ep, t, rfl, hS, hg, hkp⟩ := hr
            repeat (any_goals first | assumption | wp_step)
            exact fin _ _ _ _ _ _ hS hg hkp
          | _ => exact hr.elim
    | _ => exact hr.elim
end
end Wf
/-! len(set(t)), t a tuple of tuples of numbers, by value. -/
namespace Wf
open PySem PySem.Spec L2 PyProof.Rows
def rLenSetT (K : PySem.W.Frag) : List V → Hp → VK → Prop := fun vs H Q => ∃ (l : Addr) (ks : List (Addr × List Int)), vs = [V.ref l] ∧ SqT K H l (ks.map fun q => V.ref q.1) ∧ (∀ q ∈ ks, SqT K H q.1 (q.2.map V.int)) ∧ ks.length < 64 ∧
  ∀ L : List (List Int), L.Nodup → (∀ x ∈ L, x ∈ ks.map (·.2)) → (∀ x ∈ ks.map (·.2), x ∈ L) → Q (.int L.length) H
variable {X : Cx}
theorem pe_lenSetT {e : Expr} {t : TA} {p p2 pos pos2 : Pos} (hc : X.calm = true) (hu : X.A.units + 65 < cLine) (hg : Gl X "len") (hm : X.mg "len" = none) (hg2 : Gl X "set") (hm2 : X.mg "set" = none) (ha : PA X [e] t)
    (hs : starEach [e] X.env = (false, eval e X.env) :: starEach [] X.env := by rfl)
    (hpl : (backTo pos2 (starEach [] X.env)).any (·.1) = false := by rfl) :
    PE X (.Call (.Name "len" p) [.Call (.Name "set" p2) [e] [] pos2] [] pos) (tCB (rLenSetT X.K) t) := by
  refine ⟨fun pins s σ H Q I h => ?_⟩
  refine Call_ (ld_blt I hg hm PySem.boot_len (PyProof.Rows.callWith_builtin1 (PyProof.Rows.args_cons (Call_ (ld_blt I hg2 hm2 PyProof.Rows.boot_set (PyProof.Rows.callWith_type1 (thn (ha.run pos2 pins s σ H _ I h) fun us s1 ⟨vs, H1, I1, r1, q1⟩ => ?_) hs hpl))) rfl) rfl rfl))
  obtain ⟨l, ks, rfl, hl, hk, few, q⟩ := q1
  rw [Vals.ref1 r1]
  obtain ⟨its, rv, pl, hz⟩ := I1.tuple hl
  refine set_of_tuple (P := X.prog) (w := X.w) ks (I1.ok.hd hc) pl (by simpa using refs_of_vals rv) (fun a b => I1.isT (hk a b)) few (by omega) fun h2 n2 L es ep tt R g kp => PyProof.Rows.args_nil ?_
  obtain ⟨o, ho, hx, hd⟩ := R.ob
  have I2 : Inv X pins σ H1 { s1 with heap := h2, toks := n2 } := I1.kept kp
  have fw := R.few
  have R2 : SetTR X.prog X.w ({ s1 with heap := h2, toks := n2 } : Shared).heap s1.heap.objs.size L es ep tt := R
  have sz : es.size = (L.map (·.2)).length := by rw [R2.size, List.length_map]
  refine call_len_set ho hx hd R2.fits (by rw [R2.size]; omega) ⟨.int (L.map (·.2)).length, H1, I2.tok _, ⟨_, by rw [sz]⟩, q _ R.nd (fun x hx => ?_) fun x hx => ?_⟩
  · obtain ⟨y, hy, rfl⟩ := List.mem_map.mp hx
    exact List.mem_map_of_mem (List.mem_of_mem_take (g.sub y hy))
  · obtain ⟨y, hy, rfl⟩ := List.mem_map.mp hx
    exact g.all y (by rw [List.take_length]; exact hy)
end Wf
namespace Pv
open PySem PySem.Spec L2 Wf
variable {B : Bas}
def fLenSet : PyData → (PyData → Prop) → Prop := fun d k => ∃ xs : List (List Int), d = .tuple (xs.map dI) ∧ xs.length < 64 ∧ ∀ L : List (List Int), L.Nodup → (∀ x ∈ L, x ∈ xs) → (∀ x ∈ xs, x ∈ L) → k (.int L.length)
theorem sqT_up {K : PySem.W.Frag} {G H : Hp} {a : Addr} {xs : List V} (s : Same G H) (h : SqT K G a xs) : SqT K H a xs := by
  rcases h with (h | ⟨o, h⟩) | h
  · exact .inl (.inl (s _ _ h))
  · exact .inl (.inr ⟨o, s _ _ h⟩)
  · exact .inr h
theorem dq_dIs {K : PySem.W.Frag} {G H : Hp} (s : Same G H) : ∀ {xs : List (List Int)} {us : List V}, DqAll K G us (xs.map dI) → ∃ ks : List (Addr × List Int), us = ks.map (fun q => V.ref q.1) ∧ ks.map (·.2) = xs ∧ ∀ q ∈ ks, SqT K H q.1 (q.2.map V.int)
  | [], _, .nil => ⟨[], rfl, rfl, nofun⟩
  | x :: xs, u :: us, .cons h1 h2 => by
    obtain ⟨ks, e1, e2, e3⟩ := dq_dIs s h2
    cases h1 with
    | tup ha hb =>
      rename_i a vs
      cases dqAll_ints2 hb
      refine ⟨(a, x) :: ks, by rw [e1]; rfl, by rw [← e2]; rfl, fun q hq => ?_⟩
      rcases List.mem_cons.mp hq with rfl | hq
      · exact sqT_up s ha
      · exact e3 q hq
theorem lc_lenSet {K : PySem.W.Frag} : LC K (q1 fLenSet) (rLenSetT K) := by
  refine lc_im1 (fun G H v d Q s hv q => ?_) (fun d k k' hk q => ?_)
  · obtain ⟨xs, rfl, hl, q⟩ := q
    obtain ⟨a, us, rfl, ha, hds, _⟩ := hv.seqT s
    obtain ⟨ks, e1, e2, e3⟩ := dq_dIs s hds
    subst e1
    refine ⟨a, ks, rfl, ha, e3, ?_, fun L h1 h2 h3 => ?_⟩
    · rw [← e2, List.length_map] at hl; exact hl
    · rw [e2] at h2 h3
      exact q L h1 h2 h3 _ _ .int
  · obtain ⟨xs, rfl, hl, q⟩ := q
    exact ⟨xs, rfl, hl, fun L h1 h2 h3 => hk _ (q L h1 h2 h3)⟩
def pLenSet (ps : PL) : PX := pC (q1 fLenSet) ps
theorem je_lenSet {X : Cx} {e : Expr} {ps : PL} {p p2 pos pos2 : Pos} (hc : X.calm = true) (hu : X.A.units + 65 < cLine) (hg : Gl X "len") (hm : X.mg "len" = none) (hg2 : Gl X "set") (hm2 : X.mg "set" = none) (ha : JA X B [e] ps)
    (hs : starEach [e] X.env = (false, eval e X.env) :: starEach [] X.env := by rfl)
    (hpl : (backTo pos2 (starEach [] X.env)).any (·.1) = false := by rfl) :
    JE X B (.Call (.Name "len" p) [.Call (.Name "set" p2) [e] [] pos2] [] pos) (pLenSet ps) :=
  PE_wk (pe_lenSetT hc hu hg hm hg2 hm2 ha hs hpl) fun σ H Q h => lc_args lc_lenSet h
end Pv
/-! zip(l, t), l a list and t a tuple. One turn of a zip whose two parts are any iterators that can be told of. -/
namespace Wf
open PySem PySem.Spec L2 RZ
section
variable {P : Program} {w : World} {A : Around} {E : Value → Shared → Prop} {s : Shared} {z p q ia ib la lb : Addr}
/-- the first part hands out x: it changes at ia alone -/
def Hands (P : Program) (w : World) (s : Shared) (ia : Addr) (no : List Addr) (J : Heap → Prop) (x : Value) : Prop :=
  ∀ (A' : Around) (E' Q' : Value → Shared → Prop) (g : Heap), (∀ c o, c ∉ no → s.heap.get? c = some o → g.get? c = some o) → (∀ g', J g' → Heap.SameBut ia g g' → Q' x { s with heap := g' }) →
    wpAny (model P w) A' (Builtin.SmallTypes.nextOf (.ref ia)) Q' E' { s with heap := g }
def Ends (P : Program) (w : World) (s : Shared) (ia : Addr) (no : List Addr) : Prop :=
  ∀ (A' : Around) (E' Q' : Value → Shared → Prop) (g : Heap), A'.handled = none → (∀ c o, c ∉ no → s.heap.get? c = some o → g.get? c = some o) →
    (∀ g' e, Heap.ExtBut ia g g' → (∃ o, g'.get? e = some o ∧ o.cls = .type "StopIteration") → E' (.ref e) { s with heap := g' }) →
    wpAny (model P w) A' (Builtin.SmallTypes.nextOf (.ref ia)) Q' E' { s with heap := g }
def KeptAt (ia : Addr) (J : Heap → Prop) : Prop := ∀ g g' : Heap, J g → (∀ o, g.get? ia = some o → g'.get? ia = some o) → J g'
theorem nin1 {c z : Addr} (h : c ∉ [z]) : c ≠ z := fun e => h (by rw [e]; exact List.mem_singleton.mpr rfl)
theorem zipG_item {Ja Jb : Heap → Prop} {x y a b : Value} {Q : Value → Shared → Prop} (D : ZipApart z p q ia ib la lb) (hz : IsZip s.heap z p q .none) (hp : IsPair s.heap p (.ref ia) (.ref ib)) (hq : IsPair s.heap q a b)
    (oa : ∃ o, s.heap.get? ia = some o) (ob : ∃ o, s.heap.get? ib = some o) (ka : KeptAt ia Ja) (kb : KeptAt ib Jb) (na : Hands P w s ia [z] Ja x) (nb : Hands P w s ib [z, ia, q] Jb y)
    (fin : ∀ g, IsZip g z p q (rawInt s.heap.objs.size) → IsPair g q x y → Ja g → Jb g → IsPair g s.heap.objs.size x y → g.objs.size = s.heap.objs.size + 1 → (∀ c o, c ∉ [z, q, ia, ib] → s.heap.get? c = some o → g.get? c = some o) → Q (.ref s.heap.objs.size) { s with heap := g }) :
    wpAny (model P w) A (Builtin.«zip.__next__» ⟨[.ref z], []⟩) (fun r s' => ∃ v, r = .done (.ret v) ∧ Q v s') E s := by
  show wpAny _ _ (field (.ref z) 2 >>= _) _ _ _
  refine wpAny_bind (wpAny_field hz rfl (x := .bool false) rfl (show wpAny _ _ (field (.ref z) 3 >>= _) _ _ _ from wpAny_bind (wpAny_field hz rfl (x := .ref p) rfl (wpAny_bind (wpAny_seqItems hp rfl ?_)))))
  show wpAny _ _ (Builtin.SmallTypes.ownedTupleIsFree (.ref z) >>= _) _ _ s
  refine wpAny_bind ?_
  unfold Builtin.SmallTypes.ownedTupleIsFree
  refine wpAny_bind (wpAny_field hz rfl (x := .none) rfl (wpAny_pure ?_))
  rw [if_pos rfl]
  refine wpAny_bind (wpAny_rule (wpAny_bind (wpAny_field hz rfl (x := .ref q) rfl (wpAny_bind (wpAny_setField_rec hz (by simp) fun g1 z1 s1 => ?_)))))
  have z1 : IsZip g1 z p q .ellipsis := z1
  refine wpAny_bind ?_
  simp only [List.forIn_cons, List.forIn_nil, List.zipIdx_cons, List.zipIdx_nil]
  refine wpAny_bind (wpAny_bind (wpAny_onRaise (show wpAny _ _ (Builtin.SmallTypes.nextOf (.ref ia) >>= _) _ _ _ from wpAny_bind (na _ _ _ g1 (fun c o hc e => s1.extBut _ _ (nin1 hc) e) fun g2 j2 s2 => wpAny_pure ?_))))
  have q2 : IsPair g2 q a b := s2.extBut _ _ D.TOi1 (s1.extBut _ _ D.TOz hq)
  refine wpAny_bind (wpAny_seqItems q2 rfl (wpAny_bind (wpAny_updateSeq_pair q2 fun g3 q3 s3 => ?_)))
  have q3 : IsPair g3 q x b := q3
  refine wpAny_bind (wpAny_letGo (wpAny_pure (wpAny_bind (wpAny_bind (wpAny_onRaise ?_)))))
  show wpAny _ _ (Builtin.SmallTypes.nextOf (.ref ib) >>= _) _ _ _
  have up3 : ∀ c o, c ∉ [z, ia, q] → s.heap.get? c = some o → g3.get? c = some o := fun c o hc e => by
    simp only [List.mem_cons, List.not_mem_nil, or_false, not_or] at hc
    exact s3.extBut _ _ hc.2.2 (s2.extBut _ _ hc.2.1 (s1.extBut _ _ hc.1 e))
  refine wpAny_bind (nb _ _ _ g3 up3 fun g4 j4 s4 => wpAny_pure ?_)
  have q4 : IsPair g4 q x b := s4.extBut _ _ D.TOi2 q3
  refine wpAny_bind (wpAny_seqItems q4 rfl (wpAny_bind (wpAny_updateSeq_pair q4 fun g5 q5 s5 => ?_)))
  have q5 : IsPair g5 q x y := q5
  refine wpAny_bind (wpAny_letGo (wpAny_pure (wpAny_pure (wpAny_bind (wpAny_seqItems q5 rfl (wpAny_bind (wpAny_newTuple ?_)))))))
  have e5 : g5.objs.size = s.heap.objs.size := by rw [s5.1, s4.1, s3.1, s2.1, s1.1]
  have z5 : IsZip g5 z p q .ellipsis := s5.extBut _ _ D.TOz.symm (s4.extBut _ _ D.i2z.symm (s3.extBut _ _ D.TOz.symm (s2.extBut _ _ D.i1z.symm z1)))
  have lz : z < g5.objs.size := Heap.lt_size z5
  show wpAny _ _ (Builtin.SmallTypes.ownedTupleHandOut (.ref z) (.ref g5.objs.size) >>= _) _ _ _
  refine wpAny_bind ?_
  unfold Builtin.SmallTypes.ownedTupleHandOut
  refine wpAny_bind (wpAny_setField_rec (show IsZip (g5.push { cls := .type "tuple", data := .seq #[x, y] }) z p q .ellipsis from Heap.get?_push_of_some _ z5) (by simp) fun g7 z7 s7 => ?_)
  have z7 : IsZip g7 z p q (rawInt g5.objs.size) := z7
  refine wpAny_setField_rec z7 (by simp) fun g8 z8 s8 => ?_
  have z8 : IsZip g8 z p q (rawInt g5.objs.size) := z8
  have up : ∀ c o, c ≠ z → g5.get? c = some o → g8.get? c = some o := fun c o hc e => s8.extBut _ _ hc (s7.extBut _ _ hc (Heap.get?_push_of_some _ e))
  have n8 : IsPair g8 g5.objs.size x y := s8.extBut _ _ (Nat.ne_of_gt lz) (s7.extBut _ _ (Nat.ne_of_gt lz) (Heap.get?_push_size _ rfl))
  have e8 : g8.objs.size = g5.objs.size + 1 := by rw [s8.1, s7.1, Heap.size_push]
  rw [e5] at z8 n8 e8
  refine wpAny_pure ⟨_, rfl, ?_⟩
  show Q (.ref g5.objs.size) _
  rw [e5]
  refine fin g8 z8 (up _ _ D.TOz q5) (ka _ _ j2 fun o e => ?_) (kb _ _ j4 fun o e => ?_) n8 e8 fun c o hc e => ?_
  · exact up _ _ D.i1z (s5.extBut _ _ D.TOi1.symm (s4.extBut _ _ D.i12 (s3.extBut _ _ D.TOi1.symm e)))
  · exact up _ _ D.i2z (s5.extBut _ _ D.TOi2.symm e)
  · simp only [List.mem_cons, List.not_mem_nil, or_false, not_or] at hc
    exact up c o hc.1 (s5.extBut _ _ hc.2.1 (s4.extBut _ _ hc.2.2.2 (up3 c o (by simp [hc.1, hc.2.1, hc.2.2.1]) e)))
theorem zipG_end {Ja : Heap → Prop} {a b : Value} {Q : Fin → Shared → Prop} (hh : A.handled = none) (D : ZipApart z p q ia ib la lb) (hz : IsZip s.heap z p q .none) (hp : IsPair s.heap p (.ref ia) (.ref ib)) (hq : IsPair s.heap q a b)
    (alt : Ends P w s ia [z] ∨ ∃ x, Hands P w s ia [z] Ja x ∧ Ends P w s ib [z, ia, q])
    (fin : ∀ g e, (∀ c o, c ∉ [z, q, ia, ib] → s.heap.get? c = some o → g.get? c = some o) → (∃ o, g.get? e = some o ∧ o.cls = .type "StopIteration") → E (.ref e) { s with heap := g }) :
    wpAny (model P w) A (Builtin.«zip.__next__» ⟨[.ref z], []⟩) Q E s := by
  show wpAny _ _ (field (.ref z) 2 >>= _) _ _ _
  refine wpAny_bind (wpAny_field hz rfl (x := .bool false) rfl (show wpAny _ _ (field (.ref z) 3 >>= _) _ _ _ from wpAny_bind (wpAny_field hz rfl (x := .ref p) rfl (wpAny_bind (wpAny_seqItems hp rfl ?_)))))
  show wpAny _ _ (Builtin.SmallTypes.ownedTupleIsFree (.ref z) >>= _) _ _ s
  refine wpAny_bind ?_
  unfold Builtin.SmallTypes.ownedTupleIsFree
  refine wpAny_bind (wpAny_field hz rfl (x := .none) rfl (wpAny_pure ?_))
  rw [if_pos rfl]
  refine wpAny_bind (wpAny_rule (wpAny_bind (wpAny_field hz rfl (x := .ref q) rfl (wpAny_bind (wpAny_setField_rec hz (by simp) fun g1 z1 s1 => ?_)))))
  have z1 : IsZip g1 z p q .ellipsis := z1
  refine wpAny_bind ?_
  simp only [List.forIn_cons, List.forIn_nil, List.zipIdx_cons, List.zipIdx_nil]
  have u1 : ∀ c o, c ∉ [z] → s.heap.get? c = some o → g1.get? c = some o := fun c o hc e => s1.extBut _ _ (nin1 hc) e
  refine wpAny_bind (wpAny_bind (wpAny_onRaise (show wpAny _ _ (Builtin.SmallTypes.nextOf (.ref ia) >>= _) _ _ _ from wpAny_bind ?_)))
  rcases alt with na | ⟨x, na, nb⟩
  · refine na _ _ _ g1 hh u1 fun g2 e s2 he => ?_
    obtain ⟨oe, h1, h2⟩ := he
    have z2 : IsZip g2 z p q .ellipsis := s2 _ _ D.i1z.symm z1
    have ez : e ≠ z := fun y => by subst y; rw [z2] at h1; cases h1; simp at h2
    refine wpAny_setField_rec z2 (by simp) fun g3 _ s3 => fin g3 e (fun c o hc y => ?_) ⟨oe, s3.extBut _ _ ez h1, h2⟩
    simp only [List.mem_cons, List.not_mem_nil, or_false, not_or] at hc
    exact s3.extBut _ _ hc.1 (s2 _ _ hc.2.2.1 (s1.extBut _ _ hc.1 y))
  · refine na _ _ _ g1 u1 fun g2 j2 s2 => wpAny_pure ?_
    have q2 : IsPair g2 q a b := s2.extBut _ _ D.TOi1 (s1.extBut _ _ D.TOz hq)
    refine wpAny_bind (wpAny_seqItems q2 rfl (wpAny_bind (wpAny_updateSeq_pair q2 fun g3 q3 s3 => ?_)))
    refine wpAny_bind (wpAny_letGo (wpAny_pure (wpAny_bind (wpAny_bind (wpAny_onRaise ?_)))))
    show wpAny _ _ (Builtin.SmallTypes.nextOf (.ref ib) >>= _) _ _ _
    refine wpAny_bind (nb _ _ _ g3 hh (fun c o hc e => ?_) fun g4 e s4 he => ?_)
    · simp only [List.mem_cons, List.not_mem_nil, or_false, not_or] at hc
      exact s3.extBut _ _ hc.2.2 (s2.extBut _ _ hc.2.1 (s1.extBut _ _ hc.1 e))
    · obtain ⟨oe, h1, h2⟩ := he
      have z4 : IsZip g4 z p q .ellipsis := s4 _ _ D.i2z.symm (s3.extBut _ _ D.TOz.symm (s2.extBut _ _ D.i1z.symm z1))
      have ez : e ≠ z := fun y => by subst y; rw [z4] at h1; cases h1; simp at h2
      refine wpAny_setField_rec z4 (by simp) fun g5 _ s5 => fin g5 e (fun c o hc y => ?_) ⟨oe, s5.extBut _ _ ez h1, h2⟩
      simp only [List.mem_cons, List.not_mem_nil, or_false, not_or] at hc
      exact s5.extBut _ _ hc.1 (s4 _ _ hc.2.2.2 (s3.extBut _ _ hc.2.1 (s2.extBut _ _ hc.2.2.1 (s1.extBut _ _ hc.1 y))))
/-! ### a list and a tuple -/
theorem hands_list {ia la : Addr} {k : Nat} {xs : Array Value} {x : Value} {no : List Addr} (h1 : s.heap.IsListIter ia la k) (h2 : s.heap.IsList la xs) (n1 : ia ∉ no) (n2 : la ∉ no) (hx : xs[k]? = some x) : Hands P w s ia no (fun g => g.IsListIter ia la (k + 1)) x := fun A' E' Q' g up kk => by
  obtain ⟨o1, e1, r1⟩ := h1
  obtain ⟨o2, e2, r2⟩ := h2
  exact wpAny_nextOf_list_item (s := { s with heap := g }) ⟨o1, up _ _ n1 e1, r1⟩ ⟨o2, up _ _ n2 e2, r2⟩ hx kk
theorem hands_tuple {ia la : Addr} {k : Nat} {xs : Array Value} {x : Value} {no : List Addr} (h1 : s.heap.IsTupleIter ia la k) (h2 : s.heap.IsTuple la xs) (n1 : ia ∉ no) (n2 : la ∉ no) (hx : xs[k]? = some x) : Hands P w s ia no (fun g => g.IsTupleIter ia la (k + 1)) x := fun A' E' Q' g up kk => by
  obtain ⟨o1, e1, r1⟩ := h1
  obtain ⟨o2, e2, r2⟩ := h2
  exact nextOf_tuple_item (s := { s with heap := g }) ⟨o1, up _ _ n1 e1, r1⟩ ⟨o2, up _ _ n2 e2, r2⟩ hx kk
theorem ends_list {ia la : Addr} {k : Nat} {xs : Array Value} {no : List Addr} (h1 : s.heap.IsListIter ia la k) (h2 : s.heap.IsList la xs) (n1 : ia ∉ no) (n2 : la ∉ no) (hx : xs[k]? = none) : Ends P w s ia no := fun A' E' Q' g hh up kk => by
  obtain ⟨o1, e1, r1⟩ := h1
  obtain ⟨o2, e2, r2⟩ := h2
  exact wpAny_nextOf_list_end (s := { s with heap := g }) hh ⟨o1, up _ _ n1 e1, r1⟩ ⟨o2, up _ _ n2 e2, r2⟩ hx kk
theorem ends_tuple {ia la : Addr} {k : Nat} {xs : Array Value} {no : List Addr} (h1 : s.heap.IsTupleIter ia la k) (h2 : s.heap.IsTuple la xs) (n1 : ia ∉ no) (n2 : la ∉ no) (hx : xs[k]? = none) : Ends P w s ia no := fun A' E' Q' g hh up kk => by
  obtain ⟨o1, e1, r1⟩ := h1
  obtain ⟨o2, e2, r2⟩ := h2
  exact nextOf_tuple_end (s := { s with heap := g }) hh ⟨o1, up _ _ n1 e1, r1⟩ ⟨o2, up _ _ n2 e2, r2⟩ hx kk
theorem next_zipM {k : Nat} {xs ys : Array Value} {x y a b : Value} {Q : Option Value → Shared → Prop} (D : ZipApart z p q ia ib la lb) (hz : IsZip s.heap z p q .none) (hp : IsPair s.heap p (.ref ia) (.ref ib)) (hq : IsPair s.heap q a b)
    (h1 : s.heap.IsListIter ia la k) (h2 : s.heap.IsTupleIter ib lb k) (hl : s.heap.IsList la xs) (ht : s.heap.IsTuple lb ys) (hx : xs[k]? = some x) (hy : ys[k]? = some y)
    (fin : ∀ g, IsZip g z p q (rawInt s.heap.objs.size) → IsPair g q x y → g.IsListIter ia la (k + 1) → g.IsTupleIter ib lb (k + 1) → IsPair g s.heap.objs.size x y → g.objs.size = s.heap.objs.size + 1 → (∀ c o, c ∉ [z, q, ia, ib] → s.heap.get? c = some o → g.get? c = some o) → Q (some (.ref s.heap.objs.size)) { s with heap := g }) :
    wpAny (model P w) A (pyNext (.ref z)) Q E s := by
  have ty : s.TypeIs (.ref z) "zip" := ⟨_, hz, rfl⟩
  unfold pyNext
  refine wpAny_bind (wpAny_attempt (wpAny_callSpecial?_slot (name := Str.ofString "__next__") ty F.slot_zip_next (wpAny_call_entry F.slot_zip_next ty F.entry_zip_next (zipG_item (Ja := fun g => g.IsListIter ia la (k + 1)) (Jb := fun g => g.IsTupleIter ib lb (k + 1)) D hz hp hq ?_ ?_ ?_ ?_ ?_ ?_ fun g a1 a2 a3 a4 a5 a6 a7 => wpAny_pure (fin g a1 a2 a3 a4 a5 a6 a7)) (F.args_zip_next_1 _))))
  · obtain ⟨o, e, _⟩ := h1; exact ⟨o, e⟩
  · obtain ⟨o, e, _⟩ := h2; exact ⟨o, e⟩
  · rintro g g' ⟨o, e, r⟩ kp; exact ⟨o, kp o e, r⟩
  · rintro g g' ⟨o, e, r⟩ kp; exact ⟨o, kp o e, r⟩
  · exact hands_list h1 hl (by simp [D.i1z]) (by simp [D.l1z]) hx
  · exact hands_tuple h2 ht (by simp [D.i2z, D.i12.symm, D.TOi2.symm]) (by simp [D.l2z, D.l2i1, D.l2TO]) hy
theorem stop_zipM {k : Nat} {xs ys : Array Value} {a b : Value} {Q : Option Value → Shared → Prop} (hh : A.handled = none) (D : ZipApart z p q ia ib la lb) (hz : IsZip s.heap z p q .none) (hp : IsPair s.heap p (.ref ia) (.ref ib)) (hq : IsPair s.heap q a b)
    (h1 : s.heap.IsListIter ia la k) (h2 : s.heap.IsTupleIter ib lb k) (hl : s.heap.IsList la xs) (ht : s.heap.IsTuple lb ys) (he : xs[k]? = none ∨ ys[k]? = none)
    (fin : ∀ g, (∀ c o, c ∉ [z, q, ia, ib] → s.heap.get? c = some o → g.get? c = some o) → Q none { s with heap := g }) : wpAny (model P w) A (pyNext (.ref z)) Q E s := by
  have ty : s.TypeIs (.ref z) "zip" := ⟨_, hz, rfl⟩
  unfold pyNext
  refine wpAny_bind (wpAny_attempt (wpAny_callSpecial?_slot (name := Str.ofString "__next__") ty F.slot_zip_next (wpAny_call_entry F.slot_zip_next ty F.entry_zip_next (zipG_end (Ja := fun g => g.IsListIter ia la (k + 1)) hh D hz hp hq ?_ fun g e kp he => ?_) (F.args_zip_next_1 _))))
  · cases ex : xs[k]? with
    | none => exact .inl (ends_list h1 hl (by simp [D.i1z]) (by simp [D.l1z]) ex)
    | some x =>
      refine .inr ⟨x, hands_list h1 hl (by simp [D.i1z]) (by simp [D.l1z]) ex, ends_tuple h2 ht (by simp [D.i2z, D.i12.symm, D.TOi2.symm]) (by simp [D.l2z, D.l2i1, D.l2TO]) ?_⟩
      rcases he with e | e
      · rw [ex] at e; cases e
      · exact e
  · obtain ⟨o, h1, h2⟩ := he
    exact wpAny_bind (wpAny_isInstance (T := "StopIteration") (b := true) ⟨o, h1, h2⟩ isSubtype_stop (wpAny_pure (fin _ kp)))
end
end Wf
/-! zip(l, t): how it is made, and for over it. -/
namespace Wf
open PySem PySem.Spec L2 RZ
abbrev zm1 (h : Heap) (l : Addr) : Heap := h.push { cls := .type "list_iterator", data := .fields #[.ref l, .int 0 0] }
abbrev zm2 (h : Heap) (l t : Addr) : Heap := (zm1 h l).push { cls := .type "tuple_iterator", data := .fields #[.ref t, .int 0 0] }
abbrev zm3 (h : Heap) (l t : Addr) : Heap := (zm2 h l t).push { cls := .type "tuple", data := .seq #[.ref h.objs.size, .ref (zm1 h l).objs.size] }
abbrev zm4 (h : Heap) (l t : Addr) : Heap := (zm3 h l t).push { cls := .type "tuple", data := .seq #[.none, .none] }
abbrev zm5 (h : Heap) (l t : Addr) : Heap := (zm4 h l t).push { cls := .type "zip", data := .fields #[.none, .bool false, .bool false, .ref (zm2 h l t).objs.size, .ref (zm3 h l t).objs.size] }
theorem newM (l t : Addr) (xs ys : Array Value) : Meets (Builtin.«zip.__new__» ⟨[.type "zip", .ref l, .ref t], []⟩) (fun _ R s => s.heap.IsList l xs ∧ s.heap.IsTuple t ys ∧ R (.ok (.ret (.ref (zm4 s.heap l t).objs.size))) { s with heap := zm5 s.heap l t }) :=
  .of_wp fun prog w A R s h => by
    obtain ⟨hp, g, d, tk, os⟩ := s
    obtain ⟨a1, a2, h⟩ := h
    have hsub := sub_zip
    have b1 : Heap.IsList (Shared.heap ⟨hp, g, d, tk, os⟩) l xs := a1
    have b2 : Heap.IsTuple (Shared.heap ⟨hp.push { cls := .type "list_iterator", data := .fields #[.ref l, .int 0 0] }, g, d, tk, os⟩) t ys := a2.push _
    wp_walk using wpAny_pyIter_list b1, wpAny_pyIter_tuple b2
    exact ⟨_, rfl, h⟩
section
variable {P : Program} {w : World} {A : Around} {E : Value → Shared → Prop} {s : Shared}
theorem call_zipM {l t : Addr} {xs ys : Array Value} {Q : Value → Shared → Prop} (a1 : s.heap.IsList l xs) (a2 : s.heap.IsTuple t ys)
    (fin : ∀ g, IsZip g (s.heap.objs.size + 4) (s.heap.objs.size + 2) (s.heap.objs.size + 3) .none → IsPair g (s.heap.objs.size + 2) (.ref s.heap.objs.size) (.ref (s.heap.objs.size + 1)) → IsPair g (s.heap.objs.size + 3) .none .none →
      g.IsListIter s.heap.objs.size l 0 → g.IsTupleIter (s.heap.objs.size + 1) t 0 → (∀ c o, s.heap.get? c = some o → g.get? c = some o) → Q (.ref (s.heap.objs.size + 4)) { s with heap := g }) :
    wpAny (model P w) A (call (.type "zip") [.ref l, .ref t]) Q E s := by
  refine callType_new F.called_zip (by decide) (F.typeCall_zip_2 _ _) (F.newCall_zip_2 _ _) (fun v => F.args_object_init_3 v _ _) F.entry_zip_new (newM l t xs ys) ⟨a1, a2, ?_⟩
  have e1 : (zm1 s.heap l).objs.size = s.heap.objs.size + 1 := Heap.size_push ..
  have e2 : (zm2 s.heap l t).objs.size = s.heap.objs.size + 2 := by rw [Heap.size_push, e1]
  have e3 : (zm3 s.heap l t).objs.size = s.heap.objs.size + 3 := by rw [Heap.size_push, e2]
  have e4 : (zm4 s.heap l t).objs.size = s.heap.objs.size + 4 := by rw [Heap.size_push, e3]
  have g5 : (zm5 s.heap l t).get? (zm4 s.heap l t).objs.size = some _ := Heap.get?_push_size _ rfl
  have g4 : (zm5 s.heap l t).get? (zm3 s.heap l t).objs.size = some _ := Heap.get?_push_of_some _ (Heap.get?_push_size _ rfl)
  have g3 : (zm5 s.heap l t).get? (zm2 s.heap l t).objs.size = some _ := Heap.get?_push_of_some _ (Heap.get?_push_of_some _ (Heap.get?_push_size _ rfl))
  have g2 : (zm5 s.heap l t).get? (zm1 s.heap l).objs.size = some _ := Heap.get?_push_of_some _ (Heap.get?_push_of_some _ (Heap.get?_push_of_some _ (Heap.get?_push_size _ rfl)))
  have g1 : (zm5 s.heap l t).get? s.heap.objs.size = some _ := Heap.get?_push_of_some _ (Heap.get?_push_of_some _ (Heap.get?_push_of_some _ (Heap.get?_push_of_some _ (Heap.get?_push_size _ rfl))))
  show _ ∧ _
  rw [e2, e3, e4] at g5
  rw [e1, e2] at g3
  rw [e3] at g4
  rw [e1] at g2
  rw [e4]
  exact ⟨⟨_, g5, rfl⟩, fin _ g5 g3 g4 ⟨_, g1, rfl, rfl⟩ ⟨_, g2, rfl, rfl⟩ fun c o x => Heap.get?_push_of_some _ (Heap.get?_push_of_some _ (Heap.get?_push_of_some _ (Heap.get?_push_of_some _ (Heap.get?_push_of_some _ x))))⟩
end
/-- the list at a and the tuple at b as they stand at each turn -/
def ItzM (K : PySem.W.Frag) (a b : Addr) : It :=
  ⟨fun i H => ∃ (xs ys : List V) (x y : V), SqL K H a xs ∧ SqT K H b ys ∧ xs[i]? = some x ∧ ys[i]? = some y,
    fun i H v H' => ∃ T x y, v = .ref T ∧ H T = none ∧ H' = upd H T (.tup [x, y]) ∧ (∀ xs, SqL K H a xs → xs[i]? = some x) ∧ ∀ ys, SqT K H b ys → ys[i]? = some y,
    fun i H => ∃ xs ys : List V, SqL K H a xs ∧ SqT K H b ys ∧ (xs.length ≤ i ∨ ys.length ≤ i)⟩
theorem in5 {c z p q ia ib : Addr} (h : c ∈ [z, p, q, ia, ib]) : c = z ∨ c = p ∨ c = q ∨ c = ia ∨ c = ib := by simpa using h
theorem turn_zipM {P : Program} {w : World} {K : PySem.W.Frag} {elts : List Expr} {kk : Nat} {tpos : Pos} {a b z p q ia ib : Addr} (D : ZipApart z p q ia ib a b) :
    Turn P w K (.Tuple elts kk tpos) (ItzM K a b) [z, p, q, ia, ib] z (fun i h => IsZip h z p q .none ∧ IsPair h p (.ref ia) (.ref ib) ∧ (∃ x y, IsPair h q x y) ∧ h.IsListIter ia a i ∧ h.IsTupleIter ib b i) where
  mem := by simp
  obj := fun i h st c hc => by
    obtain ⟨c1, c2, ⟨x, y, c3⟩, ⟨o1, e1, _, d1⟩, ⟨o2, e2, _, d2⟩⟩ := st
    rcases in5 hc with rfl | rfl | rfl | rfl | rfl
    · exact ⟨_, c1, fun v u => nomatch u⟩
    · exact ⟨_, c2, fun v u => nomatch u⟩
    · exact ⟨_, c3, fun v u => nomatch u⟩
    · exact ⟨o1, e1, fun v u => by rw [d1] at u; cases u⟩
    · exact ⟨o2, e2, fun v u => by rw [d2] at u; cases u⟩
  keep := fun i h h' st k => by
    obtain ⟨c1, c2, ⟨x, y, c3⟩, ⟨o1, e1, r1⟩, ⟨o2, e2, r2⟩⟩ := st
    exact ⟨k z (by simp) _ c1, k p (by simp) _ c2, ⟨x, y, k q (by simp) _ c3⟩, ⟨o1, k ia (by simp) _ e1, r1⟩, ⟨o2, k ib (by simp) _ e2, r2⟩⟩
  item := by
    intro X e1 e2 e3 hc i pins s σ H E I hf st hg
    subst e1 e2 e3
    obtain ⟨c1, c2, ⟨x0, y0, c3⟩, h1, h2⟩ := st
    obtain ⟨xs, ys, x, y, hqx, hqy, hx, hy⟩ := hg
    obtain ⟨us, rv, pa, _⟩ := I.list hqx
    obtain ⟨vs, rv2, pb, _⟩ := I.tuple hqy
    obtain ⟨u, hu, ru⟩ := rv.get hx
    obtain ⟨v, hv, rv'⟩ := rv2.get hy
    have lz : z < s.heap.objs.size := Heap.lt_size c1
    refine next_zipM D c1 c2 c3 h1 h2 pa.isList pb (x := u) (y := v) (by simpa using hu) (by simpa using hv) fun g a1 a2 a3 a4 a5 a6 a7 => ?_
    refine ⟨_, rfl, wpAny_letOwnedTupleGo_zip (s := { s with heap := g }) a1 fun g2 b1 sb => ?_⟩
    have nt : g2.get? s.heap.objs.size = some { cls := .type "tuple", data := .seq #[u, v] } := (sb.2 _ (Nat.ne_of_gt lz)).trans a5
    have I1 : Inv X pins σ (upd H s.heap.objs.size (.tup [x, y])) { s with heap := g2 } :=
      I.turnedNew (t' := s.toks) (ch := [z, p, q, ia, ib]) (fun c o hb e => (sb.2 c (fun e' => hb (by simp [e']))).trans (a7 c o (fun m => hb (by simp only [List.mem_cons, List.not_mem_nil, or_false] at m ⊢; rcases m with m | m | m | m <;> simp [m])) e)) hf (Nat.le_refl _) ⟨by show 2 ≤ sizeLine; decide, [u, v], .cons ru (.cons rv' .nil), ⟨_, nt, rfl, _, rfl⟩⟩
    refine ⟨.ref s.heap.objs.size, _, I1, rfl, ⟨_, x, y, rfl, I.hok.fresh (Nat.le_refl _), rfl, fun l hl => by rw [I.list_inj hl hqx]; exact hx, fun l hl => by rw [I.tuple_inj hl hqy]; exact hy⟩, ⟨b1, ?_, ⟨u, v, ?_⟩, ?_, ?_⟩, fun c hcm => ?_⟩
    · exact (sb.2 _ D.TIz).trans (a7 _ _ (by simp [D.TIz, D.TITO, D.TIi1, D.TIi2]) c2)
    · exact (sb.2 _ D.TOz).trans a2
    · obtain ⟨o, e, r⟩ := a3; exact ⟨o, (sb.2 _ D.i1z).trans e, r⟩
    · obtain ⟨o, e, r⟩ := a4; exact ⟨o, (sb.2 _ D.i2z).trans e, r⟩
    · have lt : c < s.heap.objs.size := by
        rcases in5 hcm with rfl | rfl | rfl | rfl | rfl
        · exact lz
        · exact Heap.lt_size c2
        · exact Heap.lt_size c3
        · obtain ⟨_, e1, _⟩ := h1; exact Heap.lt_size e1
        · obtain ⟨_, e2, _⟩ := h2; exact Heap.lt_size e2
      rw [upd_ne (Nat.ne_of_lt lt)]
      exact (hf c hcm).1
  done := by
    intro X e1 e2 e3 hc i pins s σ H E I hf st hg
    subst e1 e2 e3
    obtain ⟨c1, c2, ⟨x0, y0, c3⟩, h1, h2⟩ := st
    obtain ⟨xs, ys, hqx, hqy, hend⟩ := hg
    obtain ⟨us, rv, pa, _⟩ := I.list hqx
    obtain ⟨vs, rv2, pb, _⟩ := I.tuple hqy
    have l1 := rv.length
    have l2 := rv2.length
    refine stop_zipM (I.ok.hd hc) D c1 c2 c3 h1 h2 pa.isList pb ?_ fun g kp => ⟨rfl, I.turnedL (t' := s.toks) (ch := [z, p, q, ia, ib]) (fun c o hb e => kp c o (fun m => hb (by simp only [List.mem_cons, List.not_mem_nil, or_false] at m ⊢; rcases m with m | m | m | m <;> simp [m])) e) hf⟩
    rcases hend with e | e
    · exact .inl (by simp; omega)
    · exact .inr (by simp; omega)
  self := fun A i s Q E st h => wpAny_pyIter_zip st.1 h
def iZipM (K : PySem.W.Frag) (ta : TA) : TI := fun σ H R => ta σ H fun vs H1 => ∃ a b xs ys, vs = [.ref a, .ref b] ∧ SqL K H1 a xs ∧ SqT K H1 b ys ∧ R (ItzM K a b) H1
theorem pi_zipM {X : Cx} {e e2 : Expr} {ta : TA} {p pos tpos : Pos} {elts : List Expr} {kk : Nat} (hg : Gl X "zip") (hm : X.mg "zip" = none) (ha : PA X [e, e2] ta)
    (hs : starEach [e, e2] X.env = (false, eval e X.env) :: starEach [e2] X.env := by rfl) (hpl : (backTo pos (starEach [e2] X.env)).any (·.1) = false := by rfl) :
    PI X (.Tuple elts kk tpos) (.Call (.Name "zip" p) [e, e2] [] pos) (iZipM X.K ta) := by
  refine ⟨fun pins s σ H R I h => PyProof.Rows.Call_ (ld_blt I hg hm PyProof.Rows.boot_zip (PyProof.Rows.callWith_type1 (thn (ha.run pos pins s σ H _ I h) fun us s1 ⟨vs, H1, I1, r1, q1⟩ => ?_) hs hpl))⟩
  obtain ⟨a, b, xs, ys, rfl, hqx, hqy, q1⟩ := q1
  cases r1 with
  | cons r rr =>
    cases rr with
    | cons r' rr =>
      cases rr
      cases r
      cases r'
      have f5 : ∀ c, c ∈ [s1.heap.objs.size + 4, s1.heap.objs.size + 2, s1.heap.objs.size + 3, s1.heap.objs.size, s1.heap.objs.size + 1] → FpOk X pins H1 c := fun c hcm => by
        have le : s1.heap.objs.size ≤ c := by
          rcases in5 hcm with rfl | rfl | rfl | rfl | rfl
          · exact Nat.le_add_right _ _
          · exact Nat.le_add_right _ _
          · exact Nat.le_add_right _ _
          · exact Nat.le_refl _
          · exact Nat.le_add_right _ _
        exact I1.fpOk le (I1.hok.fresh le)
      obtain ⟨u1, w1, pa, _⟩ := I1.list hqx
      obtain ⟨u2, w2, pb, _⟩ := I1.tuple hqy
      obtain ⟨o2, ho2, _⟩ := id pb
      refine call_zipM pa.isList (show s1.heap.IsTuple b u2.toArray from pb) fun g a1 a2 a3 a4 a5 kp => wpAny_pyIter_zip a1 ?_
      exact ⟨s1.heap.objs.size + 4, _, _, _, H1, rfl, I1.kept (t' := s1.toks) kp, turn_zipM (PySem.W.ktu_apart s1.heap.objs.size a b pa.lt (Heap.lt_size ho2)), ⟨a1, a2, ⟨_, _, a3⟩, a4, a5⟩, f5, q1⟩
end Wf
/-! for over zip(a list, a tuple); divmod. By value. -/
namespace Pv
open PySem PySem.Spec L2 Wf
variable {B : Bas}
theorem itd_zipM {K : PySem.W.Frag} {G : Hp} {a b : Addr} {us ws : List V} {ds es : List PyData} (ha : G a = some (.lst us)) (hd : DqAll K G us ds) (hb : SqT K G b ws) (he : DqAll K G ws es) : ItD K G (ItzM K a b) (zipD ds es) where
  go := fun G' H' i sg sh hi => by
    rw [zipD_len] at hi
    have hl := dqAll_len hd
    have hm := dqAll_len he
    exact ⟨us, ws, us[i]'(by omega), ws[i]'(by omega), SqL.of (sh _ _ (sg _ _ ha)), Same.tp sh _ _ (Same.tp sg _ _ hb), by simp, by simp⟩
  yld := fun G' H' i x H2 sg sh hi y => by
    rw [zipD_len] at hi
    have hi1 : i < ds.length := by omega
    have hi2 : i < es.length := by omega
    obtain ⟨T, z, z', rfl, hT, rfl, y, y'⟩ := y
    obtain ⟨v, hv, hq⟩ := dqAll_get hd (List.getElem?_eq_getElem hi1)
    obtain ⟨v', hv', hq'⟩ := dqAll_get he (List.getElem?_eq_getElem hi2)
    have e := y us (SqL.of (sh _ _ (sg _ _ ha)))
    rw [hv] at e
    cases e
    have e := y' ws (Same.tp sh _ _ (Same.tp sg _ _ hb))
    rw [hv'] at e
    cases e
    exact ⟨_, zipD_get ds es i (List.getElem?_eq_getElem hi1) (List.getElem?_eq_getElem hi2), .inr ⟨T, _, _, rfl, hT, rfl, .cons (dp_mono sg _ _ hq) (.cons (dp_mono sg _ _ hq') .nil), rfl⟩⟩
  stop := fun G' H' sg sh => ⟨us, ws, SqL.of (sh _ _ (sg _ _ ha)), Same.tp sh _ _ (Same.tp sg _ _ hb), by rw [zipD_len, dqAll_len hd, dqAll_len he]; omega⟩
def iZm (ps : PL) : PIx := fun δ Q => ps δ fun rs δ1 => ∃ ds es δ2, fzAll δ1 rs = some ([.list ds, .tuple es], δ2) ∧ Q (zipD ds es) δ2
theorem ji_zipM {X : Cx} {e e2 : Expr} {p pos : Pos} {ps : PL} {tpos : Pos} {elts : List Expr} {kk : Nat} (hg : Gl X "zip") (hm : X.mg "zip" = none) (ha : JA X B [e, e2] ps)
    (hs : starEach [e, e2] X.env = (false, eval e X.env) :: starEach [e2] X.env := by rfl) (hpl : (backTo pos (starEach [e2] X.env)).any (·.1) = false := by rfl) :
    JI X B (.Tuple elts kk tpos) (.Call (.Name "zip" p) [e, e2] [] pos) (iZm ps) := PI_wk (pi_zipM hg hm ha hs hpl) fun σ H R ⟨G, w, δ, Qp, rep, q, k⟩ =>
  ⟨G, w, δ, _, rep, q, fun rs δ1 vs H1 G1 w1 q1 _ s1 rep1 => by
    obtain ⟨ds, es, δ2, hz, q1⟩ := q1
    obtain ⟨G2, w2, s2, r2⟩ := rep1.fzs hz
    have hd := r2.ims
    cases hd with
    | cons h1 hd =>
      cases hd with
      | cons h2 hd =>
        cases hd
        cases h1 with
        | lst ha hds =>
          cases h2 with
          | tup hb hes => exact ⟨_, _, _, _, rfl, SqL.of (r2.sub _ _ ha), Same.tp r2.sub _ _ hb, k _ δ2 _ H1 G2 _ q1 ((s1.trans s2).trans .drop) r2.drop (itd_zipM ha hds hb hes)⟩⟩
def fDivmod : PyData → PyData → (PyData → Prop) → Prop
  | .int i, .int j, k => CDiv i j ∧ k (.tuple [.int (i / j), .int (i % j)])
  | _, _, _ => False
theorem lc_divmod {K : PySem.W.Frag} : LC K (q2 fDivmod) (fun xs H Q => ∃ i j, xs = [.int i, .int j] ∧ CDiv i j ∧ ∀ p, H p = none → Q (.ref p) (upd H p (.tup [.int (i / j), .int (i % j)]))) := by
  refine lc_im2 (fun G H v u d e Q s hv hu q => ?_) (fun d e k k' hk q => ?_)
  · unfold fDivmod at q
    split at q
    · exact ⟨_, _, by rw [hv.int, hu.int], q.1, fun p hp => q.2 _ _ (.inr ⟨p, _, _, rfl, hp, rfl, .cons (.int _) (.cons (.int _) .nil), rfl⟩)⟩
    · exact q.elim
  · unfold fDivmod at q ⊢
    split at q
    · exact ⟨q.1, hk _ q.2⟩
    · exact q.elim
end Pv
namespace Pv
open PySem PySem.Spec L2 Wf
/-! ### slices, equal data -/
theorem cut_take {α : Type} (xs : List α) (k : Nat) : cutD xs none (some (k : Int)) = xs.take k := by
  unfold cutD
  rw [HT.sIx_none, HT.sIx_nat, List.drop_zero, Nat.sub_zero]
  by_cases h : k ≤ xs.length
  · rw [Nat.min_eq_left h]
  · rw [Nat.min_eq_right (by omega), List.take_length, List.take_of_length_le (by omega)]
theorem cut_drop {α : Type} (xs : List α) (k : Nat) : cutD xs (some (k : Int)) none = xs.drop k := by
  unfold cutD
  rw [HT.sIx_none, HT.sIx_nat]
  by_cases h : k ≤ xs.length
  · rw [Nat.min_eq_left h, List.take_of_length_le (by rw [List.length_drop]; omega)]
  · rw [Nat.min_eq_right (by omega), List.drop_length, List.drop_of_length_le (by omega)]
    simp
theorem cut_mid {α : Type} (xs : List α) (i j : Nat) : cutD xs (some (i : Int)) (some (j : Int)) = (xs.drop i).take (j - i) := by
  unfold cutD
  rw [HT.sIx_nat, HT.sIx_nat]
  by_cases h : i ≤ xs.length
  · rw [Nat.min_eq_left h]
    by_cases h2 : j ≤ xs.length
    · rw [Nat.min_eq_left h2]
    · rw [Nat.min_eq_right (by omega), List.take_of_length_le (by rw [List.length_drop]; omega), List.take_of_length_le (by rw [List.length_drop]; omega)]
  · rw [List.drop_of_length_le (show xs.length ≤ min i xs.length by omega), List.drop_of_length_le (show xs.length ≤ i by omega)]
    simp
theorem shapedT_map {α : Type} (f : α → PyData) (n : Nat) (hn : n < 64) (l : List α) (h : ∀ x ∈ l, (f x).canLay0 = true ∧ (f x).depth ≤ n) : SeqAt.shaped (.tuple (l.map f)) = true := by
  have h := lay_map f n l h
  have h2 : (PyData.tuple (l.map f)).depth ≤ n + 1 := Nat.succ_le_succ h.2
  unfold SeqAt.shaped
  rw [show (PyData.tuple (l.map f)).canLay0 = true from h.1]
  simp
  omega
theorem eqd_self {d : PyData} (h : SeqAt.shaped d = true) : eqd d d = true := SeqAt.eqv_refl d (SeqAt.canLay_of_shaped h)
/-! ### kinds of rows, forward words -/
def kindsN (r : List Wk) : List Nat := r.map fun p => p.1.toNat
theorem kindsN_len (r : List Wk) : (kindsN r).length = r.length := List.length_map _
theorem kindsN_get {r : List Wk} {k : Nat} (h : k < r.length) : (kindsN r).getD k 0 = (wk r k).1.toNat := by
  unfold kindsN
  simp [List.getD, List.getElem?_map, wk_get h]
def iW (ws : List Nat) : List Int := ws.map fun k : Nat => (k : Int)
theorem dN_iW (ws : List Nat) : dN ws = (iW ws).map PyData.int := by unfold iW; rw [List.map_map]; rfl
theorem iW_len (ws : List Nat) : (iW ws).length = ws.length := List.length_map _
theorem dK_iW (ws : List Nat) : dK (iW ws) = .tuple (dN ws) := by rw [dN_iW]; rfl
/-- the kinds of a row, as data -/
theorem kinds_data {m s : Int} {r : List Wk} (ok : RowOk m s r) : (r.map fun p => PyData.int p.1) = dN (kindsN r) := by
  unfold kindsN dN
  rw [List.map_map]
  refine List.map_congr_left fun p hp => ?_
  have := (ok p hp).1
  show PyData.int p.1 = .int ((p.1.toNat : Nat) : Int)
  rw [Int.toNat_of_nonneg this]
end Pv
namespace Pv
open PySem PySem.Spec L2 Wf
/-! ### burdens_of -/
theorem noPin2 {δ : List Sl} {u v : Nat} (h1 : ∀ o, δ[u]? ≠ some (.ow true o)) (h2 : ∀ o, δ[v]? ≠ some (.ow true o)) : noPin δ [u, v] := fun x hx o => by
  simp only [List.mem_cons, List.not_mem_nil, or_false] at hx
  rcases hx with rfl | rfl
  · exact h1 o
  · exact h2 o
/-! ### both_ways -/
structure Tri (m : Int) (s u v w a b c : Int) : Prop where
  w0 : 0 ≤ w
  wv : w < v
  vu : v < u
  um : u < m
  a0 : 0 ≤ a
  a1 : a < s
  b0 : 0 ≤ b
  b1 : b < s
  c0 : 0 ≤ c
  c1 : c < s
abbrev tri (u v w a b c : Int) : List Wk := [(u, a), (v, b), (w, c)]
theorem Tri.ok {m s u v w a b c : Int} (h : Tri m s u v w a b c) : RowOk m s (tri u v w a b c) := fun p hp => by
  have := h.w0; have := h.wv; have := h.vu; have := h.um
  have := h.a0; have := h.a1; have := h.b0; have := h.b1; have := h.c0; have := h.c1
  simp only [List.mem_cons, List.not_mem_nil, or_false] at hp
  rcases hp with rfl | rfl | rfl
  · exact ⟨by show 0 ≤ u; omega, by show u < m; omega, by show 0 ≤ a; omega, by show a < s; omega⟩
  · exact ⟨by show 0 ≤ v; omega, by show v < m; omega, by show 0 ≤ b; omega, by show b < s; omega⟩
  · exact ⟨by show 0 ≤ w; omega, by show w < m; omega, by show 0 ≤ c; omega, by show c < s; omega⟩
end Pv
namespace Pv
open PySem PySem.Spec L2 Wf
end Pv
namespace Pv
open PySem PySem.Spec L2 Wf
/-! ### two_kinds, look_back -/
theorem nodup_le : ∀ {L xs : List (List Int)}, L.Nodup → (∀ x ∈ L, x ∈ xs) → L.length ≤ xs.length
  | [], _, _, _ => Nat.zero_le _
  | x :: L, xs, h, hs => by
    obtain ⟨h1, h2⟩ := List.nodup_cons.mp h
    have hx := hs x List.mem_cons_self
    have := nodup_le (L := L) (xs := xs.erase x) h2 fun y hy => (List.mem_erase_of_ne (fun e => h1 (by rw [← e]; exact hy))).mpr (hs y (List.mem_cons_of_mem _ hy))
    rw [List.length_erase_of_mem hx] at this
    have := List.length_pos_of_mem hx
    rw [List.length_cons]
    omega
theorem tab_mem {m : Int} {B : Book} (bk : BookOk m B) {t : Tab} (h : t ∈ B.ts) : TabOk B.s t := bk.tab.ok t h
theorem tab_few {m : Int} {B : Book} (bk : BookOk m B) {t : Tab} (h : t ∈ B.ts) : t.length ≤ 36 := by
  have h1 := (tab_mem bk h).len
  have := bk.s1
  have := bk.s6
  have h2 : B.s * B.s ≤ 6 * 6 := Int.mul_le_mul bk.s6 bk.s6 (by omega) (by decide)
  omega
end Pv
namespace Pv
open PySem PySem.Spec L2 Wf
/-! ### pairs_asked -/
-- DEF pairs_asked N ['book', 'kinds', 'burdens', 'asked', 'word', 'row', 'k', 'u', 'a', 'v', 'b'] calls ['pass_one'] takes ['cNoPassing']
end Pv
namespace Pv
open PySem PySem.Spec L2 Wf
/-! ### _law_asked_by -/
-- DEF _law_asked_by N ['_law_book_here', '_law_kinds', '_law_burdens', '_law_word', '_law_k', '_law_walkers', '_law_found', '_law_u', '_law_a', '_law_v', '_law_b', '_law_c', '_law_d'] calls ['_law_told_pair'] takes []
/-! ### _law_due -/
-- DEF _law_due N ['_law_book_here', '_law_kinds', '_law_burdens', '_law_some', '_law_k', '_law_one'] calls ['_law_asked_by'] takes []
end Pv
namespace Pv
open PySem PySem.Spec L2 Wf
/-! ### k13: _law_due, _law_told, law -/
-- def law N ['_law_script', '_law_deal_here', '_law_book_here', '_law_row_here', '_law_some', '_law_k', '_law_kept', '_law_far', '_law_due_here', '_law_wanted'] calls ['_law_deal', '_law_book', '_law_draw', '_law_row', '_law_due', '_law_alike', '_law_told'] takes []
end Pv
/-! Tables one to one, made with a pair twice, put in a book (the law's own, of books that go back). -/
namespace Wf
open PySem PySem.Spec L2
def sp_121 (K : PySem.W.Frag) : Sp := fun vs H Q _ => ∃ (d l : Addr) (m s : Int), vs = [.ref d, .int m, .int s] ∧ 1 ≤ m ∧ m ≤ 5 ∧ 1 ≤ s ∧ s ≤ 6 ∧ Deal H d l ∧ GiveT K d l H Q fun ts => AllOk m s ts ∧ ∀ t ∈ ts, t.Nodup
def t_one_to_one (K : PySem.W.Frag) (sp_mixed : Sp) : TS :=
  tSeq (tAsg (tLst (tNil)) (gName 3))
    (tSeq (tFor (iRng1 (tCons (tOp qFdiv (tOp qMul (tVar 1) (tOp qSub (tVar 1) (tC (.int 1)))) (tC (.int 2))) (tNil))) (gName 4) (tDrop (tBM K "list" rAppend (tVar 3) (tCons (tLc (iList K (tCall sp_mixed [] E0 (tCons (tVar 0) (tCons (tOp qMul (tVar 2) (tVar 2)) (tNil))))) (gName 5) (tYes) (tTup (tCons (tOp qFdiv (tVar 5) (tVar 2)) (tCons (tOp qMod (tVar 5) (tVar 2)) (tNil)))) [5]) (tNil)))))
    (tRet (tVar 3)))
def cutP (s : Int) (n : Int) : Int × Int := (n / s, n % s)
theorem cutP_in {s n : Int} (s1 : 1 ≤ s) (n0 : 0 ≤ n) (n1 : n < s * s) : InP s (cutP s n) :=
  ⟨Int.ediv_nonneg n0 (by omega), Int.ediv_lt_of_lt_mul (by omega) n1, Int.emod_nonneg _ (by omega), Int.emod_lt_of_pos _ (by omega)⟩
theorem cutP_inj {s : Int} (s1 : 1 ≤ s) {x y : Int} (h : cutP s x = cutP s y) : x = y := by
  have h1 : x / s = y / s := congrArg Prod.fst h
  have h2 : x % s = y % s := congrArg Prod.snd h
  rw [← Int.mul_ediv_add_emod x s, ← Int.mul_ediv_add_emod y s, h1, h2]
theorem pure_121 {K : PySem.W.Frag} (vs : List V) (H : Hp) (Q : VK) (E : XK) (h : sp_121 K vs H Q E) : t_one_to_one K sp_mixed (EndsQ Q) (sN 6 vs) H := by
  obtain ⟨d, l, m, s, rfl, m1, m5, s1, s6, hD, k⟩ := h
  show t_one_to_one K sp_mixed _ [some (.ref d), some (.int m), some (.int s), none, none, none] H
  refine ⟨(by show 0 ≤ sizeLine; decide), fun F hF => ?_⟩
  have nF := hD.ne hF
  have hn := nT_le m1 m5
  have hss := ss_le s1 s6
  refine ⟨_, rfl, _, rfl, _, _, rfl, rfl, _, _, rfl, rfl, .inl ⟨by omega, by omega⟩, _, _, rfl, rfl, ⟨by decide, by decide⟩, nT m, rfl, by omega, by omega,
    for_range (lo := 0) (n := (nT m).toNat) (fun i σ H1 => ∃ (s4 : Option V) (ls : List Addr) (ts : List Tab), σ = [some (.ref d), some (.int m), some (.int s), some (.ref F), s4, none] ∧ But [d, l] H H1 ∧ Deal H1 d l ∧ Tabs K H H1 F ls ts ∧ ts.length = i ∧ (∀ t ∈ ts, TabOk s t) ∧ ∀ t ∈ ts, t.Nodup) ?_ ?_ ?_⟩
  · exact ⟨none, [], [], rfl, (But.refl _ _).new hF, hD.upd nF, ⟨upd_same, .nil, by simp, hF, fun x hx => (List.not_mem_nil hx).elim⟩, rfl, fun t ht => (List.not_mem_nil ht).elim, fun t ht => (List.not_mem_nil ht).elim⟩
  · rintro i σ H1 hi ⟨s4, ls, ts, rfl, b1, d1, ht, hl, hok, hnd⟩
    refine ⟨_, rfl, .inl ⟨rfl, _, SqL.of ht.lst⟩, ?_⟩
    refine ⟨_, rfl, _, rfl, _, rfl, _, _, rfl, rfl, .inl ⟨by omega, by omega⟩, d, l, s * s, rfl, by omega, by omega, d1, fun A ns H2 b2 d2 hA hA' pm => ?_⟩
    refine ⟨A, rfl, ⟨_, SqL.of hA'⟩, fun D hDn => ?_⟩
    have inn : ∀ n ∈ ns, 0 ≤ n ∧ n < s * s := fun n hn => by
      have := pm.mem_iff.mp hn
      unfold iota at this
      obtain ⟨j, hj, rfl⟩ := List.mem_map.mp this
      have := List.mem_range.mp hj
      omega
    have ln36 : ns.length ≤ 36 := by
      rw [pm.length_eq]
      unfold iota
      rw [List.length_map, List.length_range]
      omega
    have lns : (ns.length : Int) = s * s := by
      rw [pm.length_eq]
      unfold iota
      rw [List.length_map, List.length_range]
      omega
    refine lc_list (K := K) (a := A) (xs := ns.map V.int) (fun i H4 => Same H2 H4 ∧ TabAt K H4 D ((ns.take i).map (cutP s))) ?_ ?_ ?_ ?_
    · exact ⟨same_new hDn, ⟨[], upd_same, .nil⟩⟩
    · rintro j H4 _ ⟨s4', _⟩
      exact SqL.of (s4' _ _ hA')
    · rintro j x H4 hx ⟨s4', ta⟩
      rw [List.getElem?_map] at hx
      obtain ⟨n, hn, rfl⟩ := Option.map_eq_some_iff.mp hx
      have hj := (List.getElem?_eq_some_iff.mp hn).1
      have nin := inn n (List.mem_of_getElem? hn)
      refine ⟨rfl, ?_⟩
      simp only [tYes, ↓reduceIte]
      refine ⟨_, rfl, _, rfl, _, _, rfl, rfl, ⟨by omega, by omega⟩, _, rfl, _, rfl, _, _, rfl, rfl, (by show 0 < s; omega), (by show 2 ≤ sizeLine; decide), fun p hp => ?_⟩
      obtain ⟨us, e1, e2⟩ := ta.ex
      have hpD : D ≠ p := ne_of_none e1 hp
      have e1' : upd H4 p (.tup [.int (n / s), .int (n % s)]) D = some (.lst us) := by rw [upd_ne hpD]; exact e1
      refine ⟨us, e1', ?_, ?_⟩
      · rw [DpAll.len e2, List.length_map, List.length_map, List.length_take]
        exact Nat.lt_of_le_of_lt (show min j ns.length ≤ 36 by omega) (by decide)
      · refine ⟨fun c o e => ?_, ⟨us ++ [.ref p], upd_same, ?_⟩⟩
        · rw [upd_ne (ne_of_none e hDn), upd_ne (ne_of_none (s4' _ _ e) hp)]
          exact s4' _ _ e
        · rw [List.take_add_one, hn, Option.toList_some, List.map_append, List.map_append]
          have tp1 : Tp K H4 (upd H4 p (.tup [.int (n / s), .int (n % s)])) := Same.tp (same_new hp)
          have tp2 : Tp K (upd H4 p (.tup [.int (n / s), .int (n % s)])) (upd (upd H4 p (.tup [.int (n / s), .int (n % s)])) D (.lst (us ++ [.ref p]))) := tp_upd (not_lst e1')
          refine DpAll.append (DpAll.tp (tp1.trans tp2) _ _ (noLAll_dP _) e2) (.cons (dP_new ?_) .nil)
          rw [upd_ne (Ne.symm hpD)]
          exact upd_same
    · rintro H4 ⟨s4', ta⟩
      rw [List.length_map, List.take_length] at ta
      have t2 := (ht.but hD d1 b2).same s4'
      have hD1 : H1 D = none := b2.none_of (d2.ne hDn) hDn
      have nD := d1.ne hD1
      have hD0 : H D = none := b1.none_of nD hD1
      have hm : D ∉ F :: ls := ht.notIn hD1
      refine ⟨F, _, _, rfl, rfl, t2.lst, ?_, ?_⟩
      · rw [List.length_map, ht.len, hl]
        exact Nat.lt_of_le_of_lt (show i ≤ 10 by omega) (by decide)
      · refine ⟨some (.int (0 + i)), ls ++ [D], ts ++ [ns.map (cutP s)], rfl, ((b1.trans b2).trans (Same.but s4')).new hF, (Same.deal s4' d2).upd nF, t2.push ta hm hD0, by simp [hl], fun x hx => ?_, fun x hx => ?_⟩
        · rcases List.mem_append.mp hx with hx | hx
          · exact hok x hx
          · rw [List.mem_singleton.mp hx]
            refine ⟨by rw [List.length_map]; exact lns, fun p hp => ?_⟩
            obtain ⟨n, hn, rfl⟩ := List.mem_map.mp hp
            exact cutP_in s1 (inn n hn).1 (inn n hn).2
        · rcases List.mem_append.mp hx with hx | hx
          · exact hnd x hx
          · rw [List.mem_singleton.mp hx]
            have ndi : ns.Nodup := pm.nodup_iff.mpr (by
              unfold iota
              exact List.pairwise_map.mpr ((List.nodup_iff_pairwise_ne.mp List.nodup_range).imp fun h e => h (by omega)))
            exact List.pairwise_map.mpr ((List.nodup_iff_pairwise_ne.mp ndi).imp fun h e => h (cutP_inj s1 e))
  · rintro σ H1 ⟨s4, ls, ts, rfl, b1, d1, ht, hl, hok, hnd⟩
    exact ⟨_, rfl, k F ls ts H1 b1 d1 ht ⟨⟨by omega, hok⟩, hnd⟩⟩
/-! ### _law_with_tables -/
def sp_lwith (K : PySem.W.Frag) : Sp := fun vs H Q _ => ∃ (d l F : Addr) (ls : List Addr) (ts : List Tab) (H0 : Hp) (m s : Int), vs = [.ref d, .int m, .int s, .ref F] ∧ 1 ≤ m ∧ m ≤ 5 ∧ Deal H0 d l ∧ Deal H d l ∧ Tabs K H0 H F ls ts ∧ ts.length ≤ 10 ∧
  ∀ (v : V) (ps : List Int) (H' : Hp), But [d, l] H H' → Deal H' d l → Dp K H' v (dB ⟨ps, s, ts⟩) → PacesOk m ps → Q v H'
def t_with_tables (K : PySem.W.Frag) (sp_paces : Sp) : TS :=
  tRet (tTup (tCons (tCall sp_paces [] E0 (tCons (tVar 0) (tCons (tVar 1) (tNil)))) (tCons (tVar 2) (tCons (tCB (qTupleOf K) (tCons (tLc (iList K (tVar 3)) (gName 4) (tYes) (tCB (qTupleOf K) (tCons (tVar 4) (tNil))) [4]) (tNil))) (tNil)))))
theorem pure_lwith {K : PySem.W.Frag} (vs : List V) (H : Hp) (Q : VK) (E : XK) (h : sp_lwith K vs H Q E) : t_with_tables K (sp_paces K) (EndsQ Q) (sN 5 vs) H := by
  obtain ⟨d, l, F, ls, ts, H0, m, s, rfl, m1, m5, hD0, hD, t0, lt, k⟩ := h
  show t_with_tables K (sp_paces K) _ [some (.ref d), some (.int m), some (.int s), some (.ref F), none] H
  refine ⟨_, rfl, _, rfl, d, l, m, rfl, m1, m5, hD, fun v ps H3 b3 d3 hv3 pok => ?_⟩
  have t3 := t0.but hD0 hD b3
  refine ⟨_, rfl, _, rfl, F, rfl, ⟨_, SqL.of t3.lst⟩, fun D hDn => ?_⟩
  refine lc_list (K := K) (a := F) (xs := ls.map V.ref) (fun i H4 => Same H3 H4 ∧ ∃ vs, H4 D = some (.lst vs) ∧ DpAll K H4 vs ((ts.take i).map dT)) ?_ ?_ ?_ ?_
  · exact ⟨same_new hDn, [], upd_same, .nil⟩
  · rintro i H4 _ ⟨s4, _⟩
    exact SqL.of (s4 _ _ t3.lst)
  · rintro i x H4 hx ⟨s4, us, e1, e2⟩
    rw [List.getElem?_map] at hx
    obtain ⟨a, ha, rfl⟩ := Option.map_eq_some_iff.mp hx
    obtain ⟨t, ht1, ta1⟩ := pr_get (t3.same s4).tab ha
    obtain ⟨ws, g1, g2⟩ := ta1.ex
    refine ⟨rfl, ?_⟩
    simp only [tYes, ↓reduceIte]
    refine ⟨_, rfl, a, ws, rfl, .inl ⟨SqL.of g1, fun q hq => ?_⟩⟩
    have sq := same_new (o := .tup ws) hq
    have hqq : upd H4 q (.tup ws) q = some (.tup ws) := upd_same
    have hDq : D ≠ q := ne_of_none e1 hq
    generalize upd H4 q (.tup ws) = H5 at sq hqq
    have e1' := sq _ _ e1
    have lu : us.length = i := by
      rw [DpAll.len e2, List.length_map, List.length_take]
      have := (List.getElem?_eq_some_iff.mp ht1).1
      omega
    refine ⟨us, e1', ?_, ?_⟩
    · rw [lu]
      have := (List.getElem?_eq_some_iff.mp ht1).1
      exact Nat.lt_of_le_of_lt (show i ≤ 10 by omega) (by decide)
    · refine ⟨fun c o e => ?_, us ++ [.ref q], upd_same, ?_⟩
      · rw [upd_ne (ne_of_none e hDn)]
        exact sq _ _ (s4 _ _ e)
      · have tp6 : Tp K H5 (upd H5 D (.lst (us ++ [.ref q]))) := tp_upd (not_lst e1')
        have tp46 := (Same.tp sq).trans tp6
        rw [List.take_add_one, ht1, List.map_append]
        refine DpAll.append (DpAll.tp tp46 _ _ (noLAll_dT _) e2) (.cons (.tup (SqT.of ?_) (DpAll.tp tp46 _ _ (noLAll_dP t) g2)) .nil)
        rw [upd_ne (Ne.symm hDq)]
        exact hqq
  · rintro H4 ⟨s4, us, e1, e2⟩
    have el : ts.take (ls.map V.ref).length = ts := List.take_of_length_le (by rw [List.length_map, t3.len]; exact Nat.le_refl _)
    rw [el] at e2
    refine ⟨D, us, rfl, .inl ⟨SqL.of e1, fun q hq => ?_⟩⟩
    have sq := same_new (o := .tup us) hq
    have hqq : upd H4 q (.tup us) q = some (.tup us) := upd_same
    generalize upd H4 q (.tup us) = H5 at sq hqq
    refine ⟨(by show 3 ≤ sizeLine; decide), fun r hr => ?_⟩
    have sr := same_new (o := .tup [v, .int s, .ref q]) hr
    have s35 := s4.trans (sq.trans sr)
    refine k _ ps _ (b3.trans (Same.but s35)) (Same.deal s35 d3) (.tup (SqT.of upd_same) (.cons (Dp.tp (Same.tp s35) _ _ (noL_dI ps) hv3) (.cons (.int s) (.cons (.tup (SqT.of (sr _ _ hqq)) (DpAll.tp (Same.tp (sq.trans sr)) _ _ (noLAll_dT ts) e2)) .nil)))) pok
/-! ### _law_doubled -/
end Wf
/-! Lists of lists of pairs that still change: made, changed, put in a book. -/
namespace Pv
open PySem PySem.Spec L2 Wf
variable {B : Bas}
abbrev llD (ts : List Tab) : List (List PyData) := ts.map fun t => t.map dP
theorem inL_of {K : PySem.W.Frag} {G H : Hp} {m : Addr → Prop} (hp : ∀ (vs : List V) (t : Tab), DpAll K H vs (t.map dP) → DqAll K G vs (t.map dP)) : ∀ {ls : List Addr} {ts : List Tab}, Paired (TabAt K H) ls ts → (∀ b ∈ ls, m b) → InL K G H m ls (llD ts)
  | _, _, .nil, _ => .nil
  | _, _, .cons h t, hm => by
    obtain ⟨vs, h1, h2⟩ := h.ex
    exact .cons (hm _ List.mem_cons_self) h1 (hp _ _ h2) (inL_of hp t fun b hb => hm b (List.mem_cons_of_mem _ hb))
theorem pair_of {K : PySem.W.Frag} {G H : Hp} {m : Addr → Prop} (s : Same G H) : ∀ {ts : List Tab} {ls : List Addr}, InL K G H m ls (llD ts) → Paired (TabAt K H) ls ts ∧ ∀ b ∈ ls, m b
  | [], _, .nil => ⟨.nil, fun _ h => nomatch h⟩
  | t :: ts, _, .cons mb hb hd h => by
    have := pair_of s (ts := ts) h
    refine ⟨.cons ⟨_, hb, dqAll_dp s _ _ hd⟩ this.1, fun b hb2 => ?_⟩
    rcases List.mem_cons.mp hb2 with rfl | z
    · exact mb
    · exact this.2 b z
/-- new lists of one's own, beside what the deal did -/
theorem Rep.newLls {K : PySem.W.Frag} {G H : Hp} {σ : St} {δ : List Sl} {w : Addr → Option Nat} (r : Rep K B G H σ δ [] [] w) {p : Addr} {ls : List Addr} {dss : List (List PyData)} (hp : ∀ a ∈ p :: ls, G a = none ∧ w a = none ∧ B a = none ∧ ∃ us, H a = some (.lst us)) (nd : (p :: ls).Nodup) (hh : H p = some (.lst (ls.map V.ref))) (h : InL K G H (fun a => a ∈ ls) ls dss) :
    ∃ w', (∀ a i, w' a = some i → w a ≠ none ∨ a ∈ p :: ls) ∧ Rep K B G H σ δ [.ref p] [.ow (.lls ls dss)] w' := by
  refine ⟨fun a => if a ∈ p :: ls then some 1 else w a, fun a i ha => ?_, r.sub, fun a i ha => ?_, r.len, fun i s hs => ?_, rfl, fun j u q hu hq => ?_, ⟨fun a o ho => ?_, r.bs.tt, r.bs.ta, r.bs.gt⟩⟩
  · by_cases e : a ∈ p :: ls
    · exact .inr e
    · simp only [e, if_false] at ha
      exact .inl (by rw [ha]; exact Option.some_ne_none _)
  · by_cases e : a ∈ p :: ls
    · obtain ⟨h1, h2, h3, us, h4⟩ := hp a e
      exact ⟨h1, by rw [h4]; exact Option.some_ne_none _, NoX.lst h4⟩
    · simp only [e, if_false] at ha
      exact r.out a i ha
  · refine (r.sl i s hs).mono (fun _ _ h => h) (fun _ _ _ h => h) fun a u ma _ => ?_
    by_cases e : a ∈ p :: ls
    · rw [(hp a e).2.1] at ma; cases ma
    · simp only [e, if_false]; exact ma
  · match j with
    | 0 =>
      simp only [List.getElem?_cons_zero, Option.some.injEq] at hu hq
      subst hu hq
      exact ⟨p, rfl, if_pos List.mem_cons_self, hh, nd, h.monoN (fun _ _ h => h) (fun _ _ _ _ h => h) fun a u ma _ => if_pos (List.mem_cons_of_mem _ ma)⟩
    | j + 1 => simp at hu
  · have := r.bs.to a o ho
    refine ⟨this.1, ?_, this.2.2⟩
    by_cases e : a ∈ p :: ls
    · rw [(hp a e).2.2.1] at ho; cases ho
    · simp only [e, if_false]; exact this.2.1
/-! ### _law_one_to_one, _law_with_tables: by value -/
def psp_one_to_one : PSp := fun as Q _ => ∃ m s : Int, as = [.ow true .deal, .im (.int m), .im (.int s)] ∧ 1 ≤ m ∧ m ≤ 5 ∧ 1 ≤ s ∧ s ≤ 6 ∧ ∀ (bs : List Addr) (ts : List Tab), AllOk m s ts → (∀ t ∈ ts, t.Nodup) → Q (.ow (.lls bs (llD ts))) as
theorem three_of {vs : List V} {as : List Sl} {a b c : Sl} (hl : (vs.map some).length = as.length) (ha : as = [a, b, c]) : ∃ x y z, vs = [x, y, z] := by
  subst ha
  match vs, hl with
  | [x, y, z], _ => exact ⟨x, y, z, rfl⟩
theorem conv_one_to_one {K : PySem.W.Frag} {T : List NdefX.NTab} (vs : List V) (H : Hp) (Q : VK) (E : XK) (h : LSp K T psp_one_to_one vs H Q E) : sp_121 K vs H Q E := by
  obtain ⟨G, w, as, Qp, Ep, rep, _, ⟨m, s, rfl, m1, m5, s1, s6, hq⟩, k, _⟩ := h
  obtain ⟨x, y, z, rfl⟩ := three_of rep.len rfl
  obtain ⟨v, hv, d, l, rfl, wd, wl, dl⟩ := rep.sl 0 _ rfl
  obtain ⟨_, hu, dq⟩ := rep.sl 1 _ rfl
  cases hv
  cases hu
  cases dq
  obtain ⟨_, hu, dq⟩ := rep.sl 2 _ rfl
  cases hu
  cases dq
  refine ⟨d, l, m, s, rfl, m1, m5, s1, s6, dl, fun F ls ts H' but dl' tb ⟨ok, ond⟩ => ?_⟩
  obtain ⟨st, r2⟩ := rep.deal (i := 0) rfl rfl wd wl dl but dl'
  obtain ⟨st3, r3⟩ := r2.pub (x := none) (fun _ _ _ h => h) .refl nofun
  have h0 : ∀ a ∈ F :: ls, H a = none := fun a ha => by
    rcases List.mem_cons.mp ha with rfl | ha
    · exact tb.newF
    · exact tb.newL a ha
  have hl : ∀ a ∈ F :: ls, ∃ us, H' a = some (.lst us) := fun a ha => by
    rcases List.mem_cons.mp ha with rfl | ha
    · exact ⟨_, tb.lst⟩
    · obtain ⟨i, hi⟩ := List.mem_iff_getElem?.mp ha
      obtain ⟨_, _, h2⟩ := pr_get tb.tab hi
      obtain ⟨_, h3, _⟩ := h2.ex
      exact ⟨_, h3⟩
  have hp : ∀ a ∈ F :: ls, pubT G H' none a = none ∧ w a = none ∧ B0 T H w a = none ∧ ∃ us, H' a = some (.lst us) := fun a ha => by
    obtain ⟨us, hus⟩ := hl a ha
    refine ⟨?_, ?_, ?_, us, hus⟩
    · cases e : pubT G H' none a with
      | none => rfl
      | some o =>
        rcases pubT_some e with ⟨u, z, _⟩ | z | ⟨_, xs, z⟩
        · cases z
        · have := rep.sub a o z
          rw [h0 a ha] at this; cases this
        · exact absurd z (NoX.lst hus xs)
    · cases e : w a with
      | none => rfl
      | some i => exact absurd (h0 a ha) (rep.out a i e).2.1
    · cases e : B0 T H w a with
      | none => rfl
      | some o => have := (B0_some e).1; rw [h0 a ha] at this; cases this
  have il : InL K (pubT G H' none) H' (fun a => a ∈ ls) ls (llD ts) := inL_of (fun vs t h => dpAll_pub (x := none) r2.sub (fun _ _ h => by cases h) _ _ (noLAll_dP t) h) tb.tab fun b hb => hb
  obtain ⟨w', hn, r4⟩ := r3.newLls hp tb.nd tb.lst il
  have st4 : Stp T G H w [.ow true .deal, .im (.int m), .im (.int s)] (pubT G H' none) H' w' [.ow true .deal, .im (.int m), .im (.int s)] := by
    have s13 := st.trans st3
    exact ⟨s13.g, s13.b, fun a i ha => by
      rcases hn a i ha with z | z
      · exact .inl z
      · exact .inr (h0 a z), s13.p, .refl _, s13.t, s13.q⟩
  exact k _ _ _ _ _ _ (hq ls ts ok ond) rfl st4 r4
def psp_with_tables : PSp := fun as Q _ => ∃ (m s : Int) (bs : List Addr) (ts : List Tab), as = [.ow true .deal, .im (.int m), .im (.int s), .ow true (.lls bs (llD ts))] ∧ 1 ≤ m ∧ m ≤ 5 ∧ ts.length ≤ 10 ∧ ∀ ps : List Int, PacesOk m ps → Q (.im (dB ⟨ps, s, ts⟩)) as
def only2 (H : Hp) (d l : Addr) : Hp := fun a => if a = d ∨ a = l then H a else none
theorem only2_deal {H : Hp} {d l : Addr} (h : Deal H d l) : Deal (only2 H d l) d l := by
  obtain ⟨z1, z2, z3, z4, h1, h2, h3⟩ := h.ex
  exact ⟨z1, z2, z3, z4, by unfold only2; rw [if_pos (.inl rfl)]; exact h1, by unfold only2; rw [if_pos (.inr rfl)]; exact h2, h3⟩
theorem only2_none {H : Hp} {d l a : Addr} (h1 : a ≠ d) (h2 : a ≠ l) : only2 H d l a = none := by
  unfold only2
  rw [if_neg (fun z => z.elim h1 h2)]
/-- the tables that a slot owns -/
theorem tabs_of {K : PySem.W.Frag} {G H : Hp} {w : Addr → Option Nat} {n k : Nat} {F d l : Addr} {ls : List Addr} {ts : List Tab} (s : Same G H) (nk : n ≠ k) (wd : w d = some n) (wl : w l = some n) (wF : w F = some k) (hF : H F = some (.lst (ls.map V.ref))) (nd : (F :: ls).Nodup) (il : InL K G H (fun a => w a = some k) ls (llD ts)) : Tabs K (only2 H d l) H F ls ts := by
  obtain ⟨pa, ow⟩ := pair_of s il
  have ne : ∀ a, w a = some k → a ≠ d ∧ a ≠ l := fun a h => ⟨fun z => by rw [z, wd] at h; exact nk (Option.some.inj h), fun z => by rw [z, wl] at h; exact nk (Option.some.inj h)⟩
  exact ⟨hF, pa, nd, only2_none (ne F wF).1 (ne F wF).2, fun x hx => only2_none (ne x (ow x hx)).1 (ne x (ow x hx)).2⟩
theorem conv_with_tables {K : PySem.W.Frag} {T : List NdefX.NTab} (vs : List V) (H : Hp) (Q : VK) (E : XK) (h : LSp K T psp_with_tables vs H Q E) : sp_lwith K vs H Q E := by
  obtain ⟨G, w, as, Qp, Ep, rep, _, ⟨m, s, ls, ts, rfl, m1, m5, n10, hq⟩, k, _⟩ := h
  obtain ⟨x, y, z, u, rfl⟩ := four_of rep.len rfl
  obtain ⟨v, hv, d, l, rfl, wd, wl, dl⟩ := rep.sl 0 _ rfl
  obtain ⟨_, hu, dq⟩ := rep.sl 1 _ rfl
  cases hv
  cases hu
  cases dq
  obtain ⟨_, hu, dq⟩ := rep.sl 2 _ rfl
  cases hu
  cases dq
  obtain ⟨_, hu, F, rfl, wF, hF, nd, il⟩ := rep.sl 3 _ rfl
  cases hu
  refine ⟨d, l, F, ls, ts, only2 H d l, m, s, rfl, m1, m5, only2_deal dl, dl, tabs_of rep.sub (by decide) wd wl wF hF nd il, n10, fun v ps H' but dl' hv pok => ?_⟩
  obtain ⟨st, r2⟩ := rep.deal (i := 0) rfl rfl wd wl dl but dl'
  obtain ⟨st3, r3⟩ := r2.pub (x := none) (fun _ _ _ h => h) .refl nofun
  have dq : Dq K (pubT G H' none) v (dB ⟨ps, s, ts⟩) := dp_pub (x := none) r2.sub (fun _ _ h => by cases h) _ _ (noL_dB _) hv
  exact k _ _ _ _ _ _ (hq ps pok) rfl ((st.trans st3).trans .drop) (r3.ret dq)
end Pv
/-! `tables = _law_doubled(deal, tables)`. -/
namespace Pv
open PySem PySem.Spec L2 Wf
end Pv
namespace Pv
open PySem PySem.Spec L2 Wf
/-! ### two_kinds -/
-- DEF two_kinds N ['many', 'u', 'v'] calls [] takes []
def pe_two_kinds43_1 : PX :=
    pTup (pCons (pVar 1) (pCons (pVar 2) (pNil)))
def p_two_kinds43 : PSx :=
    pRet (pComp2 (iRg (pCons (pVar 0) (pNil))) (gN 1) (pYes) (iRg (pCons (pVar 1) (pNil))) (gN 2) (pYes) (pe_two_kinds43_1) [1, 2] [2])
def kindsP (n : Nat) : List Wk := (List.range n).flatMap fun u => (List.range u).map fun v : Nat => ((u : Int), (v : Int))
theorem kindsP_succ (n : Nat) : kindsP (n + 1) = kindsP n ++ (List.range n).map fun v : Nat => ((n : Int), (v : Int)) := by
  unfold kindsP
  rw [List.range_succ, List.flatMap_append]
  simp
theorem kindsP_len : ∀ n, (kindsP n).length ≤ n * n
  | 0 => Nat.le_refl _
  | n + 1 => by
    rw [kindsP_succ, List.length_append, List.length_map, List.length_range]
    have := kindsP_len n
    rw [Nat.add_mul, Nat.mul_add]
    omega
def psp_two_kinds43 : PSp := fun as Q _ => ∃ n : Nat, as = [.im (nD n)] ∧ n ≤ 10 ∧ Q (.ow (.lst ((kindsP n).map dP))) [.un]
theorem hp_two_kinds43 (as : List Sl) (Qp : QE) (Ep : EX) (h : psp_two_kinds43 as Qp Ep) : p_two_kinds43 (endsP as Qp) (as ++ List.replicate 2 .un) := by
  obtain ⟨n, rfl, hn, q⟩ := h
  have z24 : (10000 : Nat) < sizeLine := by decide
  refine ⟨by omega, by omega, noPin2 (fun o => nofun) (fun o => nofun), fun i acc δ => acc = (kindsP i).map dP ∧ δ = [.im (nD n), .un, .un], ⟨rfl, rfl⟩, ?_, ?_⟩
  · rintro i d acc δ hd ⟨rfl, rfl⟩
    obtain ⟨rfl, hi⟩ := rgD_get hd
    have e0 : (0 : Int) + (i : Int) = (i : Int) := by omega
    refine ⟨by omega, by omega, fun j acc δ => acc = (kindsP i ++ (List.range j).map fun v : Nat => ((i : Int), (v : Int))).map dP ∧ δ = [.im (nD n), .im (nD i), .un], ⟨by rw [List.range_zero, List.map_nil, List.append_nil], ?_⟩, ?_, ?_⟩
    · show [Sl.im (nD n), Sl.im (.int (0 + (i : Int))), Sl.un] = _
      rw [e0]
    · rintro j d acc δ hd ⟨rfl, rfl⟩
      obtain ⟨rfl, hj⟩ := rgD_get hd
      have kl := kindsP_len i
      have i10 : i * i ≤ 10 * 10 := Nat.mul_le_mul (by omega) (by omega)
      have e1 : (0 : Int) + (j : Int) = (j : Int) := by omega
      refine ⟨_, _, rfl, by rw [List.length_map, List.length_append, List.length_map, List.length_range]; omega, ?_, rfl⟩
      rw [List.range_succ, List.map_append, List.map_append, List.map_append, List.map_append]
      show _ ++ [PyData.tuple [.int (i : Int), .int (0 + (j : Int))]] = _
      rw [e1, List.append_assoc]
      rfl
    · rintro acc δ ⟨rfl, rfl⟩
      refine ⟨?_, rfl⟩
      rw [rgD_len, kindsP_succ, e0, show ((i : Int) - 0).toNat = i by omega]
  · rintro acc δ ⟨rfl, rfl⟩
    rw [rgD_len, show ((n : Int) - 0).toNat = n by omega]
    exact ⟨_, _, rfl, q⟩
/-! ### look_back -/
-- DEF look_back N ['book', 'paces', 'sorts', 'tables', 'table', 'u', 'v'] calls ['two_kinds'] takes ['cNoWay', 'Ep']
def pb_look_back43_1 (cNoWay : Addr) (Ep : EX) : PSx :=
    pIf (pT (pLt (pLenSet (pCons (pVar 4) (pNil))) (pC (q1 fLen) (pCons (pVar 4) (pNil))))) (pRaise cNoWay ["u", "v"] (pCons (pFz (pVar 5)) (pCons (pFz (pVar 6)) (pNil))) Ep) (pNext)
def pr_look_back43_1 : PSx :=
    pRet (pK (.bool true))
def pr_look_back43_2 (cNoWay : Addr) (Ep : EX) : PSx :=
    pSeq (pFor [4, 5, 6] (iZm (pCons (pCall psp_two_kinds43 (pCons (pFz (pC (q1 fLen) (pCons (pVar 1) (pNil)))) (pNil)) noX) (pCons (pVar 3) (pNil)))) (gT 2 (gsC (gT 2 (gsC (gN 5) (gsC (gN 6) (gsN)))) (gsC (gN 4) (gsN)))) (pb_look_back43_1 cNoWay Ep))
    (pr_look_back43_1)
def p_look_back43 (cNoWay : Addr) (Ep : EX) : PSx :=
    pSeq (pAsg (pVar 0) (gT 3 (gsC (gN 1) (gsC (gN 2) (gsC (gN 3) (gsN))))))
    (pr_look_back43_2 cNoWay Ep)
/-- the first two kinds whose table tells a pair twice -/
def firstW : List Wk → List Tab → Option Wk
  | p :: ps, t :: ts => if t.Nodup then firstW ps ts else some p
  | _, _ => none
theorem dup_lt : ∀ {xs L : List (List Int)}, L.Nodup → (∀ x ∈ L, x ∈ xs) → ¬ xs.Nodup → L.length < xs.length
  | [], _, _, _, h => absurd .nil h
  | x :: xs, L, nd, sub, h => by
    by_cases c : x ∈ xs
    · have := nodup_le nd (xs := xs) fun y hy => by
        rcases List.mem_cons.mp (sub y hy) with rfl | z
        · exact c
        · exact z
      rw [List.length_cons]
      omega
    · have h2 : ¬ xs.Nodup := fun z => h (List.nodup_cons.mpr ⟨c, z⟩)
      have ih := dup_lt (L := L.erase x) (nd.erase x) (fun y hy => by
        have my := List.mem_of_mem_erase hy
        rcases List.mem_cons.mp (sub y my) with rfl | z
        · exact absurd hy nd.not_mem_erase
        · exact z) h2
      have := List.length_erase_le (a := x) (l := L)
      have h3 : L.length ≤ (L.erase x).length + 1 := by
        by_cases m : x ∈ L
        · rw [List.length_erase_of_mem m]; omega
        · rw [List.erase_of_not_mem m]; omega
      rw [List.length_cons]
      omega
theorem kindsP_nT {m : Nat} (m1 : 1 ≤ m) (m5 : m ≤ 5) : ((kindsP m).length : Int) = nT m := by
  have : m = 1 ∨ m = 2 ∨ m = 3 ∨ m = 4 ∨ m = 5 := by omega
  rcases this with rfl | rfl | rfl | rfl | rfl <;> decide
theorem firstW_at {ps : List Wk} {ts : List Tab} {i : Nat} {p : Wk} {t : Tab} (hp : ps[i]? = some p) (ht : ts[i]? = some t) : firstW (ps.drop i) (ts.drop i) = if t.Nodup then firstW (ps.drop (i + 1)) (ts.drop (i + 1)) else some p := by
  obtain ⟨h1, rfl⟩ := List.getElem?_eq_some_iff.mp hp
  obtain ⟨h2, rfl⟩ := List.getElem?_eq_some_iff.mp ht
  rw [List.drop_eq_getElem_cons h1, List.drop_eq_getElem_cons h2]
  rfl
def lbQ (cNoWay : Addr) (Q : QE) (Ep : EX) : Option Wk → Prop
  | none => Q (.im (.bool true)) [.un]
  | some p => Ep cNoWay [("v", .int p.2), ("u", .int p.1)]
def psp_look_back43 (cNoWay : Addr) : PSp := fun as Q Ep => ∃ (B : Book) (m : Nat), as = [.im (dB B)] ∧ BookOk (m : Int) B ∧ lbQ cNoWay Q Ep (firstW (kindsP m) B.ts)
theorem hp_look_back43 (cNoWay : Addr) (as : List Sl) (Qp : QE) (Ep : EX) (h : psp_look_back43 cNoWay as Qp Ep) : p_look_back43 cNoWay Ep (endsP as Qp) (as ++ List.replicate 6 .un) := by
  obtain ⟨B, m, rfl, bk, q⟩ := h
  have pl := bk.pac.len
  have m1 := bk.m1
  have m5 := bk.m5
  have kn := kindsP_nT (m := m) (by omega) (by omega)
  have tl := bk.tab.len
  refine ⟨_, _, rfl, rfl, rfl, ?_⟩
  show pr_look_back43_2 cNoWay Ep _ [.im (dB B), .im (dI B.ps), .im (.int B.s), .im (.tuple (B.ts.map dT)), .un, .un, .un]
  refine ⟨_, _, rfl, _, rfl, List.nodup_nil, m, ?_, by omega, ⟨_, _, _, rfl, ?_⟩⟩
  · show [Sl.im (.int ((B.ps.map PyData.int).length : Int))] = _
    rw [List.length_map, pl]
  refine ⟨fun i δ => firstW (kindsP m) B.ts = firstW ((kindsP m).drop i) (B.ts.drop i) ∧ δ = [.im (dB B), .im (dI B.ps), .im (.int B.s), .im (.tuple (B.ts.map dT)), .un, .un, .un], ⟨rfl, rfl⟩, ?_, ?_⟩
  · rintro i d δ hd ⟨e, rfl⟩
    have hi := (List.getElem?_eq_some_iff.mp hd).1
    rw [zipD_len, List.length_map, List.length_map] at hi
    have hp : (kindsP m)[i]? = some (kindsP m)[i] := List.getElem?_eq_getElem (by omega)
    have ht : B.ts[i]? = some B.ts[i] := List.getElem?_eq_getElem (by omega)
    generalize (kindsP m)[i] = p at hp
    generalize B.ts[i] = t at ht
    have hz := zipD_get ((kindsP m).map dP) (B.ts.map dT) i (x := dP p) (y := dT t) (by rw [List.getElem?_map, hp]; rfl) (by rw [List.getElem?_map, ht]; rfl)
    rw [hz] at hd
    cases hd
    have tm := List.mem_of_getElem? ht
    have fa := firstW_at hp ht
    refine ⟨rfl, rfl, rfl, rfl, ?_⟩
    refine ⟨t.map (fun p : Wk => [p.1, p.2]), ?_, ?_, fun L h1 h2 h3 => ⟨trivial, _, rfl, ?_⟩⟩
    · show PyData.tuple (t.map dP) = _
      rw [List.map_map]
      rfl
    · rw [List.length_map]
      have := tab_few bk tm
      omega
    show if decide (((L.length : Nat) : Int) < ((t.map dP).length : Int)) = true then _ else _
    have inj : (t.map fun p : Wk => [p.1, p.2]).Nodup ↔ t.Nodup := by
      constructor
      · intro h
        exact (List.pairwise_map.mp h).imp fun h e => h (by rw [e])
      · intro h
        exact List.pairwise_map.mpr (h.imp fun h e => h (by
          simp only [List.cons.injEq, and_true] at e
          exact Prod.ext e.1 e.2))
    by_cases nd : t.Nodup
    · have := nodup_le (inj.mpr nd) h3
      rw [List.length_map] at this
      rw [if_neg (by rw [List.length_map]; simp; omega)]
      rw [if_pos nd] at fa
      exact ⟨e.trans fa, rfl⟩
    · have := dup_lt h1 h2 (fun z => nd (inj.mp z))
      rw [List.length_map] at this
      rw [if_pos (by rw [List.length_map]; simp; omega)]
      rw [if_neg nd] at fa
      rw [e, fa] at q
      exact ⟨_, _, rfl, _, _, rfl, _, _, rfl, rfl, q⟩
  · rintro δ ⟨e, rfl⟩
    rw [zipD_len, List.length_map, List.length_map, show min (kindsP m).length B.ts.length = (kindsP m).length by omega, List.drop_length] at e
    have e : firstW (kindsP m) B.ts = none := e
    rw [e] at q
    exact ⟨_, _, rfl, q⟩
/-! ### _law_first_way -/
-- DEF _law_first_way N ['_law_book_here', '_law_k', '_law_u', '_law_v', '_law_pairs', '_law_n'] calls [] takes []
theorem kindsP_pre {i : Nat} : ∀ {m : Nat}, i < m → ∃ rest, kindsP m = kindsP i ++ (List.range i).map (fun v : Nat => ((i : Int), (v : Int))) ++ rest
  | 0, h => absurd h (Nat.not_lt_zero _)
  | m + 1, h => by
    by_cases e : i = m
    · subst e
      exact ⟨[], by rw [kindsP_succ, List.append_nil]⟩
    · obtain ⟨rest, hr⟩ := kindsP_pre (i := i) (m := m) (by omega)
      exact ⟨rest ++ (List.range m).map fun v : Nat => ((m : Int), (v : Int)), by rw [kindsP_succ, hr, List.append_assoc]⟩
def fwD : Option Wk → PyData
  | none => .none
  | some p => dP p
/-! ### _law_told -/
-- DEF _law_told N ['_law_book_here', '_law_found', '_law_e'] calls ['look_back'] takes ['cNoWay']
/-! ### law 43 -/
-- DEF law N ['_law_script', '_law_turn', '_law_book_here', '_law_deal_here', '_law_some', '_law_tables', '_law_first', '_law_due', '_law_many', '_law_size'] calls ['_law_deal', '_law_draw', '_law_one_to_one', '_law_doubled', '_law_with_tables', '_law_book', '_law_first_way', '_law_alike', '_law_told'] takes []
end Pv
/-! try: a statement that may raise (an expression, or one of two), then perhaps a name set; except .. as a name. -/
namespace Pv
open PySem PySem.Spec L2 Wf
variable {B : Bas}
section
variable {X : Cx} {W : WX} {e e1 e2 c : Expr} {pos p1 p2 : Pos}
theorem psx_expr {p : PXx} (he : JX X B W e p) (hs : swapsWith e none pos.line X.env = pure false := by rfl) : PS X (.Expr e pos) (tDrop (LEx X.K B W p)) := ps_expr he hs
theorem psx_if {pc : PB} {pa pb : PXx} {s1 s2 : Stmt} (hc : JB X B c pc) (ha : PS X s1 (tDrop (LEx X.K B W pa))) (hb : PS X s2 (tDrop (LEx X.K B W pb))) : PS X (.If c [s1] [s2] pos) (tDrop (LEx X.K B W (xIf pc pa pb))) :=
  PS_wk (ps_if hc (pss_one ha) (pss_one hb)) fun D σ H ⟨G, w, δ, Qp, Hd, rep, h, k, x⟩ => by
    refine ⟨G, w, δ, _, rep, h, fun t δ1 H1 G1 w1 q1 s1 rep1 => ?_⟩
    cases t with
    | true => exact ⟨G1, w1, δ1, _, _, rep1, q1, fun r δ' v H' G' w' hq hs hr => k r δ' v H' G' w' hq (s1.trans hs) hr, fun C fs us d δ' H' G' w' hd st rp hg hf => x C fs us d δ' H' G' w' hd (s1.trans st) rp hg hf⟩
    | false => exact ⟨G1, w1, δ1, _, _, rep1, q1, fun r δ' v H' G' w' hq hs hr => k r δ' v H' G' w' hq (s1.trans hs) hr, fun C fs us d δ' H' G' w' hd st rp hg hf => x C fs us d δ' H' G' w' hd (s1.trans st) rp hg hf⟩
end
/-- try: p; slot j = v; except .. as slot i: su -/
def pTryS (i j : Nat) (cat : Addr → Prop) (p : PXx) (pv : PX) (su : Addr → Value → Option Addr → PSx) : PSx := fun E δ => p δ (fun _ δ1 => pSet j pv E δ1) fun C fs δ' => cat C ∧ match δ'[i]? with
  | none => False
  | some (.ow true _) => False
  | some _ => ∀ a dd, su a (.ref C) (some dd) ⟨fun δ2 => E.nx (δ2.set i .un), E.rt, fun δ2 => E.bk (δ2.set i .un), fun δ2 => E.ct (δ2.set i .un)⟩ (δ'.set i (.ex a dd C fs))
theorem js_tryS {X : Cx} {i j : Nat} {x n y : Str} {cat : Addr → Prop} {c : Value} {p : PXx} {pv : PX} {su : Addr → Value → Option Addr → PSx} {e : Expr} {s1 : Stmt} {b₀ : Stmt} {suite : List Stmt} {np py pos pos' pos2 : Pos} (hs : X.stack = X.env :: X.outer) (hf : X.env.frame = some X.env.locals) (hN : X.N.Nodup) (hi : X.N[i]? = some n) (hln : X.env.kindOf n = some .local) (hc : Names X x c)
    (hj : X.N[j]? = some y) (hy : Loc X.env.scope y) (hcat : ∀ C, cat C → PySem.W.exmOne X.K (.ref C) c = some true)
    (h1 : ∀ (W : WX) (pn : List (Addr × Obj)) (xe : Value → Shared → Prop), Takes (X.tr pn xe) W → PS (X.tr pn xe) s1 (tDrop (LEx X.K B W p)))
    (he : ∀ (pn : List (Addr × Obj)) (xe : Value → Shared → Prop), JE (X.tr pn xe) B e pv)
    (hsu : ∀ (a : Addr) (oe : Obj) (cls : Value) (d : Option Addr) (pn : List (Addr × Obj)), Zc cls d oe → (∃ vs, oe.data = .fields vs) → JSs (X.suite a ((a, oe) :: pn)) B (b₀ :: suite) (su a cls d))
    (hsw : swapsWith e (some (.Name y py)) pos2.line X.env = pure false := by rfl) (hfn : X.fn y = true ∨ X.env.scope.names.lookup y = some .local := by first | exact .inl rfl | exact .inr rfl | assumption) :
    JS X B (.Try [s1, .Assign [.Name y py] e pos2] [.ExceptHandler (some (.Name x np)) (some n) (b₀ :: suite) pos'] [] [] pos) (pTryS i j cat p pv su) := by
  refine PS_wk (ps_try_as (i := i) (tb := fun W => tSeq (tDrop (LEx X.K B W p)) (tAsg (LE X.K B pv) (gName j))) (ts := fun a cls d => LS X.K B (su a cls d)) (Wout := fun _ _ _ _ => False) hs hf hN hi hln hc L2.takes0 (fun W pn xe tk _ => pss_cons (h1 W pn xe tk) (pss_one (ps_set (i := j) hN hj hy (he pn xe) hsw hfn))) hsu) fun D σ H ⟨G, w, δ, E, rep, h, ek⟩ => ?_
  refine ⟨G, w, δ, _, _, rep, h, fun r δ1 v H1 G1 w1 q1 s1 rep1 => ?_, fun C fs us d δ' H' G' w' hd st rp hg hfl => ?_⟩
  · refine ⟨G1, _, δ1, _, rep1.drop, q1, fun r2 δ2 v2 H2 G2 w2 q2 s2 rep2 => ?_⟩
    obtain ⟨q, δ3, hz, q2⟩ := q2
    obtain ⟨G3, w3, s3, r3⟩ := rep2.rz1 (j := 0) rfl hz
    obtain ⟨w4, q4, s4, r4, p4⟩ := r3.sto q2 (rz_noAt hz) (fun p hp => by cases hp)
    have sa := (((s1.trans .drop).trans s2).trans s3)
    exact ek.nx _ _ H2 G3 w4 q4 (sa.trans s4) r4 ((Pin.refl (σ := σ)).trans sa.pn p4)
  · obtain ⟨hc1, hd⟩ := hd
    refine ⟨true, hcat C hc1, fun _ a ha => ?_, fun z => nomatch z⟩
    have hdi : ∃ s, δ'[i]? = some s ∧ (∀ o, s ≠ .ow true o) ∧ ∀ a dd, su a (.ref C) (some dd) ⟨fun δ2 => E.nx (δ2.set i .un), E.rt, fun δ2 => E.bk (δ2.set i .un), fun δ2 => E.ct (δ2.set i .un)⟩ (δ'.set i (.ex a dd C fs)) := by
      revert hd
      split
      · intro h; exact h.elim
      · intro h; exact h.elim
      · rename_i s hn e
        intro h
        exact ⟨s, e, fun o z => hn o z, h⟩
    obtain ⟨s, e1, e2, hsu'⟩ := hdi
    have hil : i < δ'.length := (List.getElem?_eq_some_iff.mp e1).1
    have hiσ : i < σ.length := by rw [rp.len]; exact hil
    have np' : ∀ o, δ'[i]? ≠ some (.ow true o) := fun o z => by rw [e1] at z; cases z; exact e2 o rfl
    have np0 : ∀ (k : Nat) o, δ[k]? = some (Sl.ow true o) → i ≠ k := fun k o hk z => by
      subst z
      obtain ⟨o', h'⟩ := st.pn i o hk
      exact np' o' h'
    have stx : Stp B.T G H w δ G' H' w' (δ'.set i (.ex a d C fs)) := st.reδ (st.pn.trans (pn_set np'))
    have rx : Rep X.K B G' H' (σ.set i (some (.ref a))) (δ'.set i (.ex a d C fs)) [] [] w' := ⟨rp.sub, rp.out, by rw [List.length_set, List.length_set]; exact rp.len, fun k s' hk => by
      by_cases ek' : i = k
      · subst ek'
        rw [List.getElem?_set_self hil] at hk
        cases hk
        exact ⟨List.getElem?_set_self hiσ, us, hg, hfl⟩
      · rw [List.getElem?_set_ne ek'] at hk
        rw [List.getElem?_set_ne ek']
        exact rp.sl k s' hk, rfl, fun j v q hv => by simp at hv, rp.bs⟩
    have pinx : Pin σ δ (σ.set i (some (.ref a))) := fun k o hk => List.getElem?_set_ne (np0 k o hk)
    have fin : ∀ {G2 H2 : Hp} {w2 : Addr → Option Nat} {δ2 : List Sl} {σ2 : St}, Stp B.T G' H' w' (δ'.set i (.ex a d C fs)) G2 H2 w2 δ2 → Rep X.K B G2 H2 σ2 δ2 [] [] w2 → Pin (σ.set i (some (.ref a))) (δ'.set i (.ex a d C fs)) σ2 → Stp B.T G H w δ G2 H2 w2 (δ2.set i .un) ∧ Rep X.K B G2 H2 (σ2.set i none) (δ2.set i .un) [] [] w2 ∧ Pin σ δ (σ2.set i none) := fun {G2 H2 w2 δ2 σ2} s2 r2 p2 => by
      have sa := stx.trans s2
      refine ⟨sa.reδ fun k o hk => ?_, ⟨r2.sub, r2.out, by rw [List.length_set, List.length_set]; exact r2.len, fun k s' hk => ?_, rfl, fun j v q hv => by simp at hv, r2.bs⟩, fun k o hk => ?_⟩
      · obtain ⟨o', h'⟩ := sa.pn k o hk
        exact ⟨o', by rw [List.getElem?_set_ne (np0 k o hk)]; exact h'⟩
      · by_cases ek' : i = k
        · subst ek'
          by_cases hb : i < δ2.length
          · rw [List.getElem?_set_self hb] at hk
            cases hk
            trivial
          · rw [List.getElem?_eq_none (by rw [List.length_set]; omega)] at hk; cases hk
        · rw [List.getElem?_set_ne ek'] at hk
          rw [List.getElem?_set_ne ek']
          exact r2.sl k s' hk
      · rw [List.getElem?_set_ne (np0 k o hk)]
        exact (pinx.trans stx.pn p2) k o hk
    refine ⟨G', w', _, _, rx, hsu' a d, ⟨fun δ2 σ2 H2 G2 w2 h2 s2 r2 p2 => ?_, fun r δ2 v σ2 H2 G2 w2 h2 ha2 s2 r2 p2 => ?_, fun δ2 σ2 H2 G2 w2 h2 s2 r2 p2 => ?_, fun δ2 σ2 H2 G2 w2 h2 s2 r2 p2 => ?_⟩⟩
    · obtain ⟨f1, f2, f3⟩ := fin s2 r2 p2
      exact ek.nx _ _ H2 G2 w2 h2 f1 f2 f3
    · exact ek.rt r δ2 v σ2 H2 G2 w2 h2 ha2 (stx.trans s2) r2 (pinx.trans stx.pn p2)
    · obtain ⟨f1, f2, f3⟩ := fin s2 r2 p2
      exact ek.bk _ _ H2 G2 w2 h2 f1 f2 f3
    · obtain ⟨f1, f2, f3⟩ := fin s2 r2 p2
      exact ek.ct _ _ H2 G2 w2 h2 f1 f2 f3
end Pv
/-! Lists of lists of one's own: length, an item of an item, an item of an item put. -/
namespace Pv
open PySem PySem.Spec L2 Wf
variable {B : Bas}
section
variable {K : PySem.W.Frag} {G H : Hp} {m : Addr → Prop}
theorem inL_len {bs : List Addr} {dss : List (List PyData)} (h : InL K G H m bs dss) : bs.length = dss.length := by
  induction h with
  | nil => rfl
  | cons _ _ _ _ ih => exact congrArg (· + 1) ih
theorem inL_get {bs : List Addr} {dss : List (List PyData)} (h : InL K G H m bs dss) : ∀ {j : Nat} {ds : List PyData}, dss[j]? = some ds → ∃ b us, bs[j]? = some b ∧ m b ∧ H b = some (.lst us) ∧ DqAll K G us ds := by
  induction h with
  | nil => intro j ds e; simp at e
  | @cons b us ds0 bs dss mb hb hd _ ih =>
    intro j ds e
    match j with
    | 0 =>
      simp only [List.getElem?_cons_zero, Option.some.injEq] at e
      subst e
      exact ⟨b, us, rfl, mb, hb, hd⟩
    | j + 1 =>
      obtain ⟨b', us', h1, h2⟩ := ih (j := j) (ds := ds) (by simpa using e)
      exact ⟨b', us', by simpa using h1, h2⟩
theorem inL_keep {b : Addr} {o : HO} {bs : List Addr} {dss : List (List PyData)} (h : InL K G H m bs dss) (n : b ∉ bs) : InL K G (upd H b o) m bs dss := by
  induction h with
  | nil => exact .nil
  | cons mb hb hd _ ih =>
    refine .cons mb (by rw [upd_ne (fun z => n (by rw [z]; exact List.mem_cons_self))]; exact hb) hd (ih fun z => n (List.mem_cons_of_mem _ z))
theorem inL_set {bs : List Addr} {dss : List (List PyData)} (h : InL K G H m bs dss) : ∀ {j : Nat} {b : Addr} {us' : List V} {ds' : List PyData}, bs.Nodup → bs[j]? = some b → DqAll K G us' ds' → InL K G (upd H b (.lst us')) m bs (dss.set j ds') := by
  induction h with
  | nil => intro j b us' ds' _ e; simp at e
  | @cons b0 us ds0 bs dss mb hb hd t ih =>
    intro j b us' ds' nd e hd'
    have nd2 := List.nodup_cons.mp nd
    match j with
    | 0 =>
      simp only [List.getElem?_cons_zero, Option.some.injEq] at e
      subst e
      exact .cons mb upd_same hd' (inL_keep t nd2.1)
    | j + 1 =>
      have e : bs[j]? = some b := by simpa using e
      have ne : b0 ≠ b := fun z => nd2.1 (z ▸ List.mem_of_getElem? e)
      exact .cons mb (by rw [upd_ne ne]; exact hb) hd (ih nd2.2 e hd')
end
section
variable {K : PySem.W.Frag} {G H : Hp} {σ : St} {δ : List Sl} {vs : List V} {rs : List R} {w : Addr → Option Nat}
theorem Rep.wrLl (r : Rep K B G H σ δ vs rs w) {i : Nat} {b0 : Bool} {bs : List Addr} {dss : List (List PyData)} {ds ds' : List PyData} {j : Nat} {b : Addr} {us' : List V} (h : δ[i]? = some (.ow b0 (.lls bs dss))) (hj : dss[j]? = some ds) (hb : bs[j]? = some b) (hd : DqAll K G us' ds') :
    Stp B.T G H w δ G (upd H b (.lst us')) w (δ.set i (.ow b0 (.lls bs (dss.set j ds')))) ∧ Rep K B G (upd H b (.lst us')) σ (δ.set i (.ow b0 (.lls bs (dss.set j ds')))) vs rs w := by
  have hi : i < δ.length := (List.getElem?_eq_some_iff.mp h).1
  obtain ⟨_, hσ, F, rfl, wF, hF, nd, il⟩ := r.sl i _ h
  obtain ⟨b', us, hb', hw, ha, _⟩ := inL_get il hj
  rw [hb] at hb'
  cases hb'
  have nd2 := List.nodup_cons.mp nd
  have Fb : F ≠ b := fun z => nd2.1 (z ▸ List.mem_of_getElem? hb)
  have ne : ∀ x n, w x = some n → n ≠ 2 * i → x ≠ b := fun x n hx hn z => by subst z; rw [hw] at hx; cases hx; exact hn rfl
  have g0 := (r.out b _ hw).1
  have st : Stp B.T G H w δ G (upd H b (.lst us')) w (δ.set i (.ow b0 (.lls bs (dss.set j ds')))) := by
    refine .of ⟨fun _ _ h => h, fun x o hx ho => ?_, fun x n hx => .inl (by rw [hx]; exact Option.some_ne_none _), fun _ _ h => .inl h, fun k o hk => ?_⟩ (tabs_put ha)
    · rw [upd_ne (fun z => by subst z; rw [hw] at hx; cases hx)]
      exact ho
    · by_cases e : i = k
      · subst e
        rw [h] at hk
        cases hk
        exact ⟨_, List.getElem?_set_self hi⟩
      · exact ⟨o, by rw [List.getElem?_set_ne e]; exact hk⟩
  refine ⟨st, fun x o hx => ?_, fun x n hx => ?_, by rw [List.length_set]; exact r.len, fun k s hk => ?_, r.tlen, fun j v q hv hq => ?_, st.bs r.bs⟩
  · have : x ≠ b := fun z => by subst z; rw [g0] at hx; cases hx
    rw [upd_ne this]
    exact r.sub x o hx
  · obtain ⟨h1, h2, h3⟩ := r.out x n hx
    by_cases e : x = b
    · subst e
      rw [upd_same]
      exact ⟨h1, Option.some_ne_none _, NoX.lst upd_same⟩
    · rw [upd_ne e]
      exact ⟨h1, h2, noT_upd e h3⟩
  · by_cases e : i = k
    · subst e
      rw [List.getElem?_set_self hi] at hk
      cases hk
      exact ⟨_, hσ, F, rfl, wF, by rw [upd_ne Fb]; exact hF, nd, inL_set il nd2.2 hb hd⟩
    · rw [List.getElem?_set_ne e] at hk
      refine (r.sl k s hk).mono (fun _ _ h => h) (fun x u mx hu => ?_) fun x u mx _ => mx
      rw [upd_ne (ne x _ mx (by omega))]
      exact hu
  · refine (r.tm j v q hv hq).mono (fun _ _ h => h) (fun x u mx hu => ?_) fun x u mx _ => mx
    rw [upd_ne (ne x _ mx (by omega))]
    exact hu
end
section
variable {X : Cx} {i a : Nat} {ex : Expr}
def pLenLls (i : Nat) : PX := fun δ Q => ∃ b bs dss, δ[i]? = some (.ow b (.lls bs dss)) ∧ Q (.im (.int (dss.length : Nat))) δ
theorem je_lenLls (h : PE X ex (tCB (qLen X.K) (tCons (tVar i) tNil))) : JE X B ex (pLenLls i) := PE_wk h fun σ H Q ⟨G, w, δ, Qp, rep, q, k⟩ => by
  obtain ⟨b, bs, dss, hi, q⟩ := q
  obtain ⟨_, hσ, F, rfl, wF, hF, nd, il⟩ := rep.sl i _ hi
  refine ⟨_, hσ, _, (bs.map V.ref).length, rfl, .inl ⟨_, SqL.of hF, rfl⟩, ?_⟩
  rw [List.length_map, inL_len il]
  exact k _ _ _ _ _ _ q .drop (rep.ret (.int _))
def pIxLls (i a : Nat) (k : Int) : PX := fun δ Q => ∃ b bs dss, ∃ (j : Nat) (ds : List PyData) (d : PyData), δ[i]? = some (.ow b (.lls bs dss)) ∧ δ[a]? = some (.im (nD j)) ∧ dss[j]? = some ds ∧ atI ds k = some d ∧ Q (.im d) δ
theorem atI_map {us : List V} {ds : List PyData} {K : PySem.W.Frag} {G : Hp} (h : DqAll K G us ds) {k : Int} {d : PyData} (e : atI ds k = some d) : ∃ v, atI us k = some v ∧ Dq K G v d := by
  have hl := dqAll_len h
  unfold atI at e ⊢
  rw [hl]
  cases hx : ixN ds.length k with
  | none => rw [hx] at e; cases e
  | some n =>
    rw [hx] at e
    exact dqAll_get h e
theorem je_ixLls {k : Int} (h : PE X ex (tOp (rIxL X.K) (tOp (rIxL X.K) (tVar i) (tVar a)) (tC (.int k)))) : JE X B ex (pIxLls i a k) := PE_wk h fun σ H Q ⟨G, w, δ, Qp, rep, q, kk⟩ => by
  obtain ⟨b, bs, dss, j, ds, d, hi, ha, hj, hk, q⟩ := q
  obtain ⟨_, hσ, F, rfl, wF, hF, nd, il⟩ := rep.sl i _ hi
  obtain ⟨_, hσa, dqa⟩ := rep.sl a _ ha
  cases dqa
  obtain ⟨b', us, hb', hw, hh, hd⟩ := inL_get il hj
  obtain ⟨v, hv, dv⟩ := atI_map hd hk
  refine ⟨_, hσ, _, hσa, F, _, (j : Int), .ref b', rfl, rfl, SqL.of hF, atI_of (j := j) rfl (by rw [List.getElem?_map, hb']; rfl), b', us, k, v, rfl, rfl, SqL.of hh, hv, ?_⟩
  exact kk _ _ _ _ _ _ q .drop (rep.ret dv)
def gLls (i a : Nat) (pi : PX) : PGx := fun d δ Q => ∃ b bs dss, ∃ (j : Nat) (ds : List PyData), δ[i]? = some (.ow b (.lls bs dss)) ∧ δ[a]? = some (.im (nD j)) ∧ dss[j]? = some ds ∧ pi δ fun ri δ2 =>
  ∃ (n : Int) (b2 : Bool) (dss2 : List (List PyData)) (ds2 : List PyData) (jj : Nat), dat δ2 ri = some (.int n) ∧ δ2[i]? = some (.ow b2 (.lls bs dss2)) ∧ dss2[j]? = some ds2 ∧ ixN ds2.length n = some jj ∧ Q (δ2.set i (.ow b2 (.lls bs (dss2.set j (ds2.set jj d)))))
theorem jg_lls {o ix : Expr} {pi : PX} {pos : Pos} (ho : PE X o (tOp (rIxL X.K) (tVar i) (tVar a))) (hi : JE X B ix pi)
    (ha : ∀ v, assign (.Subscript o ix pos) X.env v = (do
      let ov ← holding [v] (eval o X.env)
      let iv ← holding [v, ov] (eval ix X.env)
      standAt pos
      holding [v, ov, iv] (setItem ov iv v)
      release [v, ov, iv] []) := by intro _; rfl) : JG X B (.Subscript o ix pos) [] (gLls i a pi) := by
  refine PG_wk (pg_sub ho hi set_list ha) fun v σ H Q ⟨G, w, δ, d, Qp, rep, hd, h, k⟩ => ?_
  obtain ⟨b0, bs, dss, j, ds, hsi, hsa, hj, q⟩ := h
  obtain ⟨_, hσ, F, rfl, wF, hF, nd, il⟩ := rep.sl i _ hsi
  obtain ⟨_, hσa, dqa⟩ := rep.sl a _ hsa
  cases dqa
  obtain ⟨b', us, hb', hw, hh, _⟩ := inL_get il hj
  refine ⟨_, hσ, _, hσa, F, _, (j : Int), .ref b', rfl, rfl, SqL.of hF, atI_of (j := j) rfl (by rw [List.getElem?_map, hb']; rfl), ?_⟩
  refine ⟨G, w, δ, _, rep, q, fun ri δ2 y H2 G2 w2 q2 s2 rep2 => ?_⟩
  obtain ⟨n, b2, dss2, ds2, jj, hn, e2, hj2, hjj, q2⟩ := q2
  obtain ⟨_, hσ2, F2, rfl, wF2, hF2, nd2, il2⟩ := rep2.sl i _ e2
  obtain ⟨b3, us2, hb3, hw3, hh3, hd3⟩ := inL_get il2 hj2
  rw [hb'] at hb3
  cases hb3
  have hv2 := dp_mono s2.g _ _ hd
  refine ⟨b', us2, n, jj, rfl, dp_int (rep2.dpH (j := 0) rfl rfl hn), hh3, by rw [dqAll_len hd3]; exact hjj, ?_⟩
  obtain ⟨s4, r4⟩ := rep2.wrLl e2 hj2 hb' (dqAll_set hv2 jj hd3)
  exact k _ σ _ G2 _ q2 ((s2.trans s4).trans .drop) r4.drop .refl .refl
end
end Pv
/-! for over reversed(a list); over reversed(range(..)). By value. -/
namespace Pv
open PySem PySem.Spec L2 Wf
variable {B : Bas}
theorem itd_rev {K : PySem.W.Frag} {G : Hp} {a : Addr} {us : List V} {ds : List PyData} (ha : G a = some (.lst us)) (hd : DqAll K G us ds) : ItD K G (Itv K a us.length) ds.reverse where
  go := fun G' H' i sg sh hi => by
    have hl := dqAll_len hd
    rw [List.length_reverse] at hi
    exact ⟨by omega, us, us[us.length - 1 - i]'(by omega), SqL.of (sh _ _ (sg _ _ ha)), by simp⟩
  yld := fun G' H' i x H2 sg sh hi y => by
    have hl := dqAll_len hd
    rw [List.length_reverse] at hi
    obtain ⟨rfl, y⟩ := y
    have hi2 : us.length - 1 - i < ds.length := by omega
    obtain ⟨v, hv, hq⟩ := dqAll_get hd (List.getElem?_eq_getElem hi2)
    have e := y us (SqL.of (sh _ _ (sg _ _ ha)))
    rw [hv] at e
    cases e
    refine ⟨_, ?_, .old (dp_mono sg _ _ hq)⟩
    rw [List.getElem?_reverse hi, ← hl]
    exact List.getElem?_eq_getElem hi2
  stop := fun G' H' sg sh => by
    rw [List.length_reverse, dqAll_len hd]
    exact Nat.le_refl _
def iRevL (ps : PL) : PIx := fun δ Q => ps δ fun rs δ1 => ∃ ds δ2, fzAll δ1 rs = some ([.list ds], δ2) ∧ Q ds.reverse δ2
section
variable {X : Cx} {tg e : Expr} {p pos : Pos}
theorem ji_revL {ps : PL} (hg : Gl X "reversed") (hm : X.mg "reversed" = none) (ha : JA X B [e] ps) (hs : starEach [e] X.env = [(false, eval e X.env)] := by rfl) : JI X B tg (.Call (.Name "reversed" p) [e] [] pos) (iRevL ps) := by
  refine PI_wk (pi_reversed hg hm ha hs) fun σ H R ⟨G, w, δ, Qp, rep, q, k⟩ => ?_
  refine ⟨G, w, δ, _, rep, q, fun rs δ1 vs H1 G1 w1 q1 _ s1 rep1 => ?_⟩
  obtain ⟨ds, δ2, hz, q1⟩ := q1
  obtain ⟨G2, w2, s2, r2⟩ := rep1.fzs hz
  have hd := r2.ims
  cases hd with
  | cons h1 hd =>
    cases hd
    cases h1 with
    | lst ha hds => exact ⟨_, _, rfl, SqL.of (r2.sub _ _ ha), k _ δ2 _ H1 G2 _ q1 ((s1.trans s2).trans .drop) r2.drop (itd_rev ha hds)⟩
end
end Pv
namespace Pv
open PySem PySem.Spec L2 Wf
/-! ### burdens before: the places of a pair in a table -/
def idxT (t : Tab) (p : Wk) (j : Nat) : List Nat := (List.range j).filter fun n => decide (t.getD n (0, 0) = p)
theorem idxT_succ (t : Tab) (p : Wk) (j : Nat) : idxT t p (j + 1) = if t.getD j (0, 0) = p then idxT t p j ++ [j] else idxT t p j := by
  unfold idxT
  rw [List.range_succ, List.filter_append]
  by_cases h : t.getD j (0, 0) = p
  · rw [if_pos h]
    exact congrArg (List.filter (fun n => decide (t.getD n (0, 0) = p)) (List.range j) ++ ·) (List.filter_cons_of_pos (p := fun n => decide (t.getD n (0, 0) = p)) (l := []) (decide_eq_true h))
  · rw [if_neg h, List.filter_cons_of_neg (by simpa using h)]; simp
def fstT (t : Tab) (p : Wk) : Nat := (idxT t p t.length).headD 0
theorem mem_idxT {t : Tab} {p : Wk} {n : Nat} : n ∈ idxT t p t.length ↔ n < t.length ∧ t.getD n (0, 0) = p := by
  unfold idxT
  rw [List.mem_filter, List.mem_range]
  simp
theorem fstT_of {t : Tab} {p : Wk} (h : p ∈ t) : ∃ rest, idxT t p t.length = fstT t p :: rest := by
  obtain ⟨n, hn, e⟩ := List.getElem_of_mem h
  have hm : n ∈ idxT t p t.length := mem_idxT.mpr ⟨hn, by simp [List.getD, List.getElem?_eq_getElem hn, e]⟩
  unfold fstT
  cases ei : idxT t p t.length with
  | nil => rw [ei] at hm; cases hm
  | cons a rest => exact ⟨rest, rfl⟩
theorem fstT_ok {t : Tab} {p : Wk} (h : p ∈ t) : fstT t p < t.length ∧ t.getD (fstT t p) (0, 0) = p := by
  obtain ⟨rest, e⟩ := fstT_of h
  exact mem_idxT.mp (by rw [e]; exact List.mem_cons_self)
theorem hd0 {α : Type} (x : α) (xs : List α) : atI (x :: xs) 0 = some x := atI_nat (j := 0) rfl
def undo (B : Book) (u v : Int) (p : Wk) : Wk := (((fstT (B.tab u v) p : Nat) : Int) / B.s, ((fstT (B.tab u v) p : Nat) : Int) % B.s)
theorem eqd_dP2 (a b : Wk) : eqd (dP a) (dP b) = decide (a = b) := by
  by_cases h : a = b
  · subst h; simp [eqd, dP, PyData.eqv, PyData.eqvAll]
  · rw [decide_eq_false h]
    have : ¬ (a.1 = b.1 ∧ a.2 = b.2) := fun z => h (Prod.ext z.1 z.2)
    simp [eqd, dP, PyData.eqv, PyData.eqvAll]
    omega
theorem shaped_dP2 (a : Wk) : SeqAt.shaped (dP a) = true := by
  have := shapedT_map PyData.int 0 (by decide) [a.1, a.2] fun x _ => ⟨rfl, Nat.le_refl 0⟩
  exact this
def pe_burdens_before_1 : PX :=
    pC (q2 fDivmod) (pCons (pVar 7) (pCons (pVar 5) (pNil)))
def pr_burdens_before_1 : PSx :=
    pRet (pComp (iEn (pCons (pVar 4) (pNil))) (gT 2 (gsC (gN 7) (gsC (gN 8) (gsN)))) (pT (pEq false (pVar 8) (pVar 3))) (pe_burdens_before_1) [7, 8])
def pr_burdens_before_2 : PSx :=
    pSeq (pSet 4 (pIx (pVar 6) (pCall psp_table_number (pCons (pFz (pVar 1)) (pCons (pFz (pVar 2)) (pNil))) noX)))
    (pr_burdens_before_1)
def p_burdens_before : PSx :=
    pSeq (pPar [5, 6] (pCons (pIx (pVar 0) (pK (.int 1))) (pCons (pIx (pVar 0) (pK (.int 2))) (pNil))))
    (pr_burdens_before_2)
def psp_burdens_before : PSp := fun as Q _ => ∃ (B : Book) (m u v : Int) (p : Wk), as = [.im (dB B), .im (.int u), .im (.int v), .im (dP p)] ∧ BookOk m B ∧ Pl m B.s u v 0 0 ∧ Q (.ow (.lst ((idxT (B.tab u v) p (B.tab u v).length).map fun n : Nat => dP ((n : Int) / B.s, (n : Int) % B.s)))) [.un, .un, .un, .un]
theorem tab_in {B : Book} {m u v a b : Int} (bk : BookOk m B) (pl : Pl m B.s u v a b) : B.tab u v ∈ B.ts := List.mem_of_getElem? (Book.row bk pl).1
theorem hp_burdens_before (as : List Sl) (Qp : QE) (Ep : EX) (h : psp_burdens_before as Qp Ep) : p_burdens_before (endsP as Qp) (as ++ List.replicate 5 .un) := by
  obtain ⟨B, m, u, v, p, rfl, bk, pl, q⟩ := h
  have := pl.u0
  have := pl.u1
  have := bk.m5
  have := bk.s1
  have := bk.s6
  have few := tab_few bk (tab_in bk pl)
  refine ⟨_, rfl, _, rfl, _, _, rfl, ?_⟩
  show pr_burdens_before_2 _ [.im (dB B), .im (.int u), .im (.int v), .im (dP p), .un, .im (.int B.s), .im (.tuple (B.ts.map dT)), .un, .un]
  refine ⟨_, _, rfl, _, _, rfl, _, rfl, List.nodup_nil, u, v, rfl, by omega, by omega, _, ix_tabD bk pl, _, _, rfl, ?_⟩
  show pr_burdens_before_1 _ [.im (dB B), .im (.int u), .im (.int v), .im (dP p), .im (dT (B.tab u v)), .im (.int B.s), .im (.tuple (B.ts.map dT)), .un, .un]
  revert q few
  generalize B.tab u v = t
  intro q few
  refine ⟨_, _, _, rfl, rfl, noPin2 (fun o => nofun) (fun o => nofun), fun j acc δ => acc = (idxT t p j).map (fun n : Nat => dP ((n : Int) / B.s, (n : Int) % B.s)) ∧ δ = [.im (dB B), .im (.int u), .im (.int v), .im (dP p), .im (dT t), .im (.int B.s), .im (.tuple (B.ts.map dT)), .un, .un], ⟨rfl, rfl⟩, ?_, ?_⟩
  · rintro j d acc δ hd ⟨rfl, rfl⟩
    rw [enD_get, List.getElem?_map, Option.map_map] at hd
    obtain ⟨x, hx, rfl⟩ := Option.map_eq_some_iff.mp hd
    have hj := (List.getElem?_eq_some_iff.mp hx).1
    have ex : t.getD j (0, 0) = x := by simp [List.getD, hx]
    have e0 : ((0 + j : Nat) : Int) = (j : Int) := by omega
    refine ⟨rfl, rfl, shaped_dP2 x, shaped_dP2 p, _, rfl, ?_⟩
    show if eqd (dP x) (dP p) = true then _ else _
    rw [eqd_dP2]
    by_cases c : x = p
    · rw [if_pos (by simp [c])]
      refine ⟨⟨by omega, by omega⟩, _, _, rfl, ?_, ?_, rfl⟩
      · rw [List.length_map]
        have : (idxT t p j).length ≤ (List.range j).length := List.length_filter_le _ _
        rw [List.length_range] at this
        exact szN (m := 100) (by omega) (by decide)
      · rw [idxT_succ, ex, if_pos c, List.map_append, e0]
        rfl
    · rw [if_neg (by simp [c])]
      refine ⟨?_, rfl⟩
      rw [idxT_succ, ex, if_neg c]
  · rintro acc δ ⟨rfl, rfl⟩
    rw [enD_len, List.length_map]
    exact ⟨_, _, rfl, q⟩
/-! ### a passing, freely -/
def pairF (B : Book) (x y : Wk) : Wk := if x.1 > y.1 then B.at x.1 y.1 x.2 y.2 else undo B y.1 x.1 (x.2, y.2)
structure One (m : Int) (B : Book) : Prop where
  bk : BookOk m B
  nd : ∀ t ∈ B.ts, t.Nodup
  on : ∀ t ∈ B.ts, ∀ p, InP B.s p → p ∈ t
def WkOk (m s : Int) (p : Wk) : Prop := 0 ≤ p.1 ∧ p.1 < m ∧ 0 ≤ p.2 ∧ p.2 < s
theorem plW {m s : Int} {x y : Wk} (hx : WkOk m s x) (hy : WkOk m s y) (h : y.1 < x.1) {a b : Int} (ha : 0 ≤ a ∧ a < s) (hb : 0 ≤ b ∧ b < s) : Pl m s x.1 y.1 a b := by
  obtain ⟨x1, x2, x3, x4⟩ := hx
  obtain ⟨y1, y2, y3, y4⟩ := hy
  exact ⟨by omega, x2, y1, h, ha.1, ha.2, hb.1, hb.2⟩
def pr_freely_passed_1 : PSx :=
    pRet (pTup (pCons (pTup (pCons (pVar 5) (pCons (pVar 7) (pNil)))) (pCons (pTup (pCons (pVar 3) (pCons (pVar 8) (pNil)))) (pNil))))
def pr_freely_passed_2 : PSx :=
    pSeq (pIf (pT (pGt (pVar 3) (pVar 5))) (pAsg (pCall psp_pair_at (pCons (pFz (pVar 0)) (pCons (pFz (pVar 3)) (pCons (pFz (pVar 5)) (pCons (pFz (pVar 4)) (pCons (pFz (pVar 6)) (pNil)))))) noX) (gT 2 (gsC (gN 7) (gsC (gN 8) (gsN))))) (pAsg (pIx (pCall psp_burdens_before (pCons (pFz (pVar 0)) (pCons (pFz (pVar 5)) (pCons (pFz (pVar 3)) (pCons (pFz (pTup (pCons (pVar 4) (pCons (pVar 6) (pNil))))) (pNil))))) noX) (pK (.int 0))) (gT 2 (gsC (gN 7) (gsC (gN 8) (gsN))))))
    (pr_freely_passed_1)
def pr_freely_passed_3 : PSx :=
    pSeq (pAsg (pVar 2) (gT 2 (gsC (gN 5) (gsC (gN 6) (gsN)))))
    (pr_freely_passed_2)
def p_freely_passed : PSx :=
    pSeq (pAsg (pVar 1) (gT 2 (gsC (gN 3) (gsC (gN 4) (gsN)))))
    (pr_freely_passed_3)
def psp_freely_passed : PSp := fun as Q _ => ∃ (B : Book) (m : Int) (x y : Wk), as = [.im (dB B), .im (dP x), .im (dP y)] ∧ One m B ∧ WkOk m B.s x ∧ WkOk m B.s y ∧ x.1 ≠ y.1 ∧ Q (.im (.tuple [dP (y.1, (pairF B x y).1), dP (x.1, (pairF B x y).2)])) [.un, .un, .un]
theorem hp_freely_passed (as : List Sl) (Qp : QE) (Ep : EX) (h : psp_freely_passed as Qp Ep) : p_freely_passed (endsP as Qp) (as ++ List.replicate 6 .un) := by
  obtain ⟨B, m, x, y, rfl, on, hx, hy, ne, q⟩ := h
  refine ⟨_, _, rfl, rfl, rfl, ?_⟩
  show pr_freely_passed_3 _ [.im (dB B), .im (dP x), .im (dP y), .im (.int x.1), .im (.int x.2), .un, .un, .un, .un]
  refine ⟨_, _, rfl, rfl, rfl, ?_⟩
  show pr_freely_passed_2 _ [.im (dB B), .im (dP x), .im (dP y), .im (.int x.1), .im (.int x.2), .im (.int y.1), .im (.int y.2), .un, .un]
  refine ⟨trivial, _, rfl, ?_⟩
  show if decide (x.1 > y.1) = true then _ else _
  unfold pairF at q
  by_cases c : x.1 > y.1
  · rw [if_pos (decide_eq_true c)]
    rw [if_pos c] at q
    refine ⟨_, _, rfl, _, _, rfl, _, _, rfl, _, _, rfl, _, _, rfl, _, rfl, List.nodup_nil, B, m, _, _, _, _, rfl, on.bk, plW hx hy c ⟨hx.2.2.1, hx.2.2.2⟩ ⟨hy.2.2.1, hy.2.2.2⟩, ?_⟩
    refine ⟨_, _, rfl, rfl, rfl, ?_⟩
    exact ⟨_, _, rfl, q⟩
  · rw [if_neg (by simpa using c)]
    rw [if_neg c] at q
    have pl : Pl m B.s y.1 x.1 0 0 := plW hy hx (by omega) ⟨by omega, by have := on.bk.s1; omega⟩ ⟨by omega, by have := on.bk.s1; omega⟩
    refine ⟨_, _, rfl, _, _, rfl, _, _, rfl, _, _, rfl, _, rfl, List.nodup_nil, B, m, y.1, x.1, (x.2, y.2), rfl, on.bk, pl, ?_⟩
    obtain ⟨rest, er⟩ := fstT_of (on.on _ (tab_in on.bk pl) (x.2, y.2) ⟨hx.2.2.1, hx.2.2.2, hy.2.2.1, hy.2.2.2⟩)
    rw [er]
    refine ⟨_, hd0 _ _, _, _, rfl, rfl, rfl, ?_⟩
    exact ⟨_, _, rfl, q⟩
end Pv
namespace Pv
open PySem PySem.Spec L2 Wf
/-! ### rows led freely -/
def passF (B : Book) (r : List Wk) (k : Nat) : List Wk :=
  (r.set k ((wk r (k + 1)).1, (pairF B (wk r k) (wk r (k + 1))).1)).set (k + 1) ((wk r k).1, (pairF B (wk r k) (wk r (k + 1))).2)
theorem tab_sq {m : Int} {B : Book} (bk : BookOk m B) {t : Tab} (h : t ∈ B.ts) : ∃ s : Nat, B.s = (s : Int) ∧ t.length = s * s ∧ 1 ≤ s := by
  have h1 := (tab_mem bk h).len
  have := bk.s1
  obtain ⟨s, hs⟩ := Int.eq_ofNat_of_zero_le (show 0 ≤ B.s by omega)
  refine ⟨s, hs, ?_, by omega⟩
  rw [hs] at h1
  exact_mod_cast h1
theorem undo_in {m u v : Int} {B : Book} (on : One m B) (pl : Pl m B.s u v 0 0) {p : Wk} (hp : InP B.s p) : InP B.s (undo B u v p) := by
  have ht := tab_in on.bk pl
  obtain ⟨s, hs, hl, h1⟩ := tab_sq on.bk ht
  have h2 := (fstT_ok (on.on _ ht p hp)).1
  rw [hl] at h2
  unfold undo
  generalize fstT (B.tab u v) p = n at h2
  rw [hs]
  have a1 : n / s < s := Nat.div_lt_of_lt_mul h2
  have a2 : n % s < s := Nat.mod_lt _ (by omega)
  refine ⟨?_, ?_, ?_, ?_⟩
  · show (0 : Int) ≤ (n : Int) / (s : Int)
    rw [← Int.natCast_ediv]; exact Int.natCast_nonneg _
  · show (n : Int) / (s : Int) < (s : Int)
    rw [← Int.natCast_ediv]; omega
  · show (0 : Int) ≤ (n : Int) % (s : Int)
    rw [← Int.natCast_emod]; omega
  · show (n : Int) % (s : Int) < (s : Int)
    rw [← Int.natCast_emod]; omega
theorem pl00 {m s u v a b : Int} (pl : Pl m s u v a b) : Pl m s u v 0 0 := ⟨pl.u0, pl.u1, pl.v0, pl.v1, by omega, by have := pl.a0; have := pl.a1; omega, by omega, by have := pl.a0; have := pl.a1; omega⟩
theorem cell_ix {m u v a b : Int} {B : Book} (bk : BookOk m B) (pl : Pl m B.s u v a b) : ∃ n : Nat, a * B.s + b = (n : Int) ∧ n < (B.tab u v).length ∧ (n : Int) / B.s = a ∧ (n : Int) % B.s = b := by
  obtain ⟨s, hs, hl, h1⟩ := tab_sq bk (tab_in bk pl)
  have a0 := pl.a0; have a1 := pl.a1; have b0 := pl.b0; have b1 := pl.b1
  rw [hs] at a1 b1 ⊢
  obtain ⟨x, rfl⟩ := Int.eq_ofNat_of_zero_le a0
  obtain ⟨y, rfl⟩ := Int.eq_ofNat_of_zero_le b0
  have hx : x < s := by omega
  have hy : y < s := by omega
  refine ⟨x * s + y, by rw [Int.natCast_add, Int.natCast_mul], ?_, ?_, ?_⟩
  · rw [hl]
    have : (x + 1) * s ≤ s * s := Nat.mul_le_mul_right s hx
    rw [Nat.add_mul, Nat.one_mul] at this
    omega
  · rw [← Int.natCast_ediv]
    have : (x * s + y) / s = x := by rw [Nat.add_comm, Nat.add_mul_div_right _ _ (by omega), Nat.div_eq_of_lt hy]; omega
    rw [this]
  · rw [← Int.natCast_emod]
    have : (x * s + y) % s = y := by rw [Nat.add_comm, Nat.add_mul_mod_self_right, Nat.mod_eq_of_lt hy]
    rw [this]
theorem at_in {m u v a b : Int} {B : Book} (bk : BookOk m B) (pl : Pl m B.s u v a b) : InP B.s (B.at u v a b) := by
  obtain ⟨n, e, hn, _, _⟩ := cell_ix bk pl
  unfold Book.at
  rw [e]
  refine (tab_mem bk (tab_in bk pl)).inn _ ?_
  have : ((n : Int)).toNat = n := by simp
  rw [this, List.getD_eq_getElem?_getD, List.getElem?_eq_getElem hn]
  exact List.getElem_mem hn
theorem pairF_in {m : Int} {B : Book} (on : One m B) {x y : Wk} (hx : WkOk m B.s x) (hy : WkOk m B.s y) (ne : x.1 ≠ y.1) : InP B.s (pairF B x y) := by
  unfold pairF
  split
  · rename_i c
    exact at_in on.bk (plW hx hy c ⟨hx.2.2.1, hx.2.2.2⟩ ⟨hy.2.2.1, hy.2.2.2⟩)
  · rename_i c
    exact undo_in on (pl00 (plW hy hx (by omega) ⟨hy.2.2.1, hy.2.2.2⟩ ⟨hx.2.2.1, hx.2.2.2⟩)) ⟨hx.2.2.1, hx.2.2.2, hy.2.2.1, hy.2.2.2⟩
theorem passF_ok {m : Int} {B : Book} (on : One m B) {r : List Wk} {k : Nat} (ok : RowOk m B.s r) (h : k + 1 < r.length) (ne : (wk r k).1 ≠ (wk r (k + 1)).1) : RowOk m B.s (passF B r k) := by
  have hx := wk_ok ok (show k < r.length by omega)
  have hy := wk_ok ok h
  obtain ⟨p1, p2, p3, p4⟩ := pairF_in on hx hy ne
  intro p hp
  unfold passF at hp
  rcases List.mem_or_eq_of_mem_set hp with hp | rfl
  · rcases List.mem_or_eq_of_mem_set hp with hp | rfl
    · exact ok p hp
    · exact ⟨hy.1, hy.2.1, p1, p2⟩
  · exact ⟨hx.1, hx.2.1, p3, p4⟩
theorem kinds_passF (B : Book) {r : List Wk} {k : Nat} (h : k + 1 < r.length) : kindsN (passF B r k) = swp (kindsN r) k := by
  unfold passF swp
  rw [kindsN_get h, kindsN_get (show k < r.length by omega)]
  unfold kindsN
  rw [List.map_set, List.map_set]
end Pv
namespace Pv
open PySem PySem.Spec L2 Wf
/-! ### led_freely -/
theorem setF (B : Book) (r : List Wk) (j : Nat) : ((r.map dP).set j (dP ((wk r (j + 1)).1, (pairF B (wk r j) (wk r (j + 1))).1))).set (j + 1) (dP ((wk r j).1, (pairF B (wk r j) (wk r (j + 1))).2)) = (passF B r j).map dP := by
  unfold passF
  rw [← setW, ← setW]
end Pv
namespace Pv
open PySem PySem.Spec L2 Wf
/-! ### _law_paces, by value -/
/-! ### tables one to one -/
end Pv
namespace Pv
/-! Roads: which passing is sooner, and that each is of neighbours. Numbers alone. -/
abbrev Ev := Nat × Nat
def wy (s : Nat → Int) (e : Ev) : Int := s e.2 - s e.1
def gp (p : Nat → Int) (e : Ev) : Int := p e.1 - p e.2
/-- by kinds, then by numbers -/
def soonK (k : Nat → Nat) (e f : Ev) : Prop := k f.1 < k e.1 ∨ k e.1 = k f.1 ∧ (k f.2 < k e.2 ∨ k e.2 = k f.2 ∧ (e.1 < f.1 ∨ e.1 = f.1 ∧ e.2 < f.2))
def soon (k : Nat → Nat) (p s : Nat → Int) (e f : Ev) : Prop := wy s e * gp p f < wy s f * gp p e ∨ wy s e * gp p f = wy s f * gp p e ∧ soonK k e f
end Pv
namespace Pv
open PySem PySem.Spec L2 Wf
/-! ### what the program's three defs are to do -/
theorem flat_dN (ks : List Nat) : Flat (dN ks) := fun d hd es z => by
  obtain ⟨n, _, rfl⟩ := List.mem_map.mp hd
  cases z
end Pv
/-! x += list; sorted(list of tuples of numbers). -/
namespace Pv
open PySem PySem.Spec L2 Wf
variable {B : Bas}
/-! ### sorted(list of tuples of d numbers in [0, B)) -/
theorem dq_perm {K : PySem.W.Frag} {G : Hp} {us ys : List V} (h : ys.Perm us) : ∀ {nss : List (List Int)}, DqAll K G us (nss.map dK) → ∃ mss : List (List Int), mss.Perm nss ∧ DqAll K G ys (mss.map dK) := by
  induction h with
  | nil => exact fun {nss} h => ⟨nss, .refl _, h⟩
  | cons x h ih =>
    intro nss hd
    match nss, hd with
    | n :: nss, .cons h1 h2 =>
      obtain ⟨mss, p, q⟩ := ih h2
      exact ⟨n :: mss, p.cons n, .cons h1 q⟩
  | swap x y l =>
    intro nss hd
    match nss, hd with
    | n :: m :: nss, .cons h1 (.cons h2 h3) => exact ⟨m :: n :: nss, .swap _ _ _, .cons h2 (.cons h1 h3)⟩
  | trans h1 h2 ih1 ih2 =>
    intro nss hd
    obtain ⟨mss, p, q⟩ := ih2 hd
    obtain ⟨lss, p2, q2⟩ := ih1 q
    exact ⟨lss, p2.trans p, q2⟩
theorem dq_tupI {K : PySem.W.Frag} {G H : Hp} {v : V} {ns : List Int} (s : ∀ a o, G a = some o → H a = some o) (h : Dq K G v (dK ns)) : TupI K H v ns := by
  unfold dK at h
  cases h with
  | tup hs hd =>
    cases dqAll_ints2 hd
    refine ⟨_, rfl, ?_⟩
    rcases hs with (h | ⟨o, h⟩) | h
    · exact .inl (.inl (s _ _ h))
    · exact .inl (.inr ⟨o, s _ _ h⟩)
    · exact .inr h
theorem dq_pairs {K : PySem.W.Frag} {G H : Hp} {R : List Int → List Int → Prop} (s : ∀ a o, G a = some o → H a = some o) : ∀ {mss : List (List Int)} {ys : List V}, DqAll K G ys (mss.map dK) → ys.Pairwise (fun x y => ∀ n m, TupI K H x n → TupI K H y m → R n m) → mss.Pairwise R
  | [], _, _, _ => .nil
  | m :: mss, _, .cons (vs := ys) h1 h2, hp => by
    have hp := List.pairwise_cons.mp hp
    refine List.pairwise_cons.mpr ⟨fun n hn => ?_, dq_pairs s h2 hp.2⟩
    have go : ∀ {mss : List (List Int)} {ys : List V}, DqAll K G ys (mss.map dK) → n ∈ mss → ∃ y ∈ ys, TupI K H y n := by
      intro mss
      induction mss with
      | nil => intro _ _ h; cases h
      | cons k ks ih =>
        intro ys hd hm
        match ys, hd with
        | y :: ys, .cons g1 g2 =>
          rcases List.mem_cons.mp hm with rfl | hm
          · exact ⟨y, List.mem_cons_self, dq_tupI s g1⟩
          · obtain ⟨z, hz, t⟩ := ih g2 hm
            exact ⟨z, List.mem_cons_of_mem _ hz, t⟩
    obtain ⟨y, hy, t⟩ := go h2 hn
    exact hp.1 y hy _ _ (dq_tupI s h1) t
theorem dq_each {K : PySem.W.Frag} {G H : Hp} (s : ∀ a o, G a = some o → H a = some o) {nss : List (List Int)} : ∀ {us : List V}, DqAll K G us (nss.map dK) → ∀ x ∈ us, ∃ ns ∈ nss, TupI K H x ns := by
  induction nss with
  | nil => intro us h x hx; cases h; cases hx
  | cons n nss ih =>
    intro us h x hx
    match us, h with
    | u :: us, .cons h1 h2 =>
      rcases List.mem_cons.mp hx with rfl | hx
      · exact ⟨n, List.mem_cons_self, dq_tupI s h1⟩
      · obtain ⟨m, hm, t⟩ := ih h2 x hx
        exact ⟨m, List.mem_cons_of_mem _ hm, t⟩
end Pv
/-! A def within a def, told with how the tables of code grow. -/
namespace Pv
open PySem PySem.Spec PyProof.Rows L2 LamX NdefX Wf
/-- one code object more in the table at P -/
theorem tabs_grow {T : List NTab} {H : Hp} {P d : Addr} {nm : Nat → Nat → Str} {ps : Array Value} {pos : Pos} (mem : (P, nm) ∈ T) (un : ∀ p ∈ T, p.1 = P → p.2 = nm) (hP : H P = some (.tbl ps)) (hd : H d = none) :
    TbG T H (upd (upd H P (.tbl (ps ++ #[rawInt pos.line, rawInt pos.col, .ref d]))) d (CodeO d (nm pos.line pos.col))) := by
  have keep : ∀ b o, H b = some o → NT o → upd (upd H P (.tbl (ps ++ #[rawInt pos.line, rawInt pos.col, .ref d]))) d (CodeO d (nm pos.line pos.col)) b = some o := fun b o e n => by
    have z1 : b ≠ d := ne_of_none e hd
    have z2 : b ≠ P := fun z => n ps (by rw [z, hP] at e; exact (Option.some.inj e).symm)
    rw [upd_ne z1, upd_ne z2]
    exact e
  have pd : P ≠ d := ne_of_none hP hd
  refine ⟨fun t p hp => ?_, fun a qs e => ?_⟩
  · obtain ⟨rs, r1, r2, r3⟩ := t p hp
    by_cases hb : p.1 = P
    · have ez := un p hp hb
      rw [hb] at r1
      rw [hP] at r1
      cases r1
      have el : (ps ++ #[rawInt pos.line, rawInt pos.col, .ref d]).toList = ps.toList ++ [rawInt pos.line, rawInt pos.col, .ref d] := by simp
      refine ⟨ps ++ #[rawInt pos.line, rawInt pos.col, .ref d], by rw [hb, upd_ne pd, upd_same], by rw [el]; exact PySem.TriplesOk_snoc _ _ _ _ r2, fun q cv hq => ?_⟩
      rw [el] at hq
      rcases among_app2 _ r2 hq with z | ⟨z, z1, z2⟩
      · obtain ⟨x, x1, x2⟩ := r3 q cv z
        exact ⟨x, x1, keep _ _ x2 codeO_ne⟩
      · exact ⟨d, z, by rw [← z1, ← z2, ez]; exact upd_same⟩
    · have : p.1 ≠ d := ne_of_none r1 hd
      refine ⟨rs, by rw [upd_ne this, upd_ne hb]; exact r1, r2, fun q cv hq => ?_⟩
      obtain ⟨x, x1, x2⟩ := r3 q cv hq
      exact ⟨x, x1, keep _ _ x2 codeO_ne⟩
  · have : a ≠ d := ne_of_none e hd
    rw [upd_ne this]
    by_cases hb : a = P
    · rw [hb, upd_same]; exact ⟨_, rfl⟩
    · rw [upd_ne hb]; exact ⟨qs, e⟩
theorem ext_grow {H : Hp} {P d : Addr} {ps qs : Array Value} {q : Str} (hP : H P = some (.tbl ps)) (hd : H d = none) : ExtN H (upd (upd H P (.tbl qs)) d (CodeO d q)) := fun b o e n => by
  have z1 : b ≠ d := ne_of_none e hd
  have z2 : b ≠ P := fun z => n ps (by rw [z, hP] at e; exact (Option.some.inj e).symm)
  rw [upd_ne z1, upd_ne z2]
  exact e
end Pv
/-! What the head tells of error classes; whole numbers by their names. -/
namespace Wf
open PySem PySem.Spec PyProof.Rows L2
/-! ### classes of errors -/
def oexB (K : PySem.W.Frag) (C : Addr) : Bool := match K.lookup C with
  | some ⟨.type "type", _, .cls cd, sl⟩ => (match cd.mro, sl.toList with
    | .ref C' :: bm, [_, _, _, _, some (.builtin n), _] => C' == C && n == "ValueError.__new__" && !cd.hasDel && cd.hasDict && PySem.HandSPX.refsVE bm
    | _, _ => false)
  | _ => false
theorem oexB_ok {K : PySem.W.Frag} {C : Addr} (q : oexB K C = true) : ∃ nm qn N bs bm sn sub ab col dd k0 k1 k2 k3 k5, K.lookup C = some (excClassObj nm qn C N bs bm true sn sub ab col dd k0 k1 k2 k3 k5 "ValueError.__new__") ∧ PySem.HandSPX.refsVE bm = true := by
  unfold oexB at q
  split at q
  · rename_i dd cd sl ho
    split at q
    · rename_i C' bm k0 k1 k2 k3 n k5 hm hs
      simp only [Bool.and_eq_true, beq_iff_eq, Bool.not_eq_true'] at q
      obtain ⟨⟨⟨⟨rfl, rfl⟩, hdel⟩, hdc⟩, hbm⟩ := q
      obtain ⟨nm, bs, mro, ns, qn, hd, sn, sub, ab, col, del⟩ := cd
      dsimp only at hm hdel hdc
      subst hm hdel hdc
      have hsl : sl = #[k0, k1, k2, k3, some (.builtin "ValueError.__new__"), k5] := by
        obtain ⟨z⟩ := sl
        simp only at hs
        rw [hs]
      subst hsl
      exact ⟨nm, qn, ns, bs, bm, sn, sub, ab, col, dd, k0, k1, k2, k3, k5, ho, hbm⟩
    · cases q
  · cases q
/-- the error class named x, its fields fs -/
def errB (K : PySem.W.Frag) (x : Str) (fs : List Str) : Bool :=
  oexB K (He.ga K x) && (decide (PySem.W.findIn K (.ref (He.ga K x)) "__setattr__" = some (some (.builtin "object.__setattr__"))) && (decide (PySem.W.subIn K (.ref (He.ga K x)) (.type "BaseException") = some true) && (decide (PySem.W.typeIn K (.ref (He.ga K x)) = some (.type "type")) && (PySem.W.keepIn K (.ref (He.ga K x)) &&
  (decide (PySem.W.findIn K (.ref (He.ga K x)) "__init__" = some (some (.ref (He.ma K (He.ga K x) "__init__")))) && (decide (PySem.W.typeIn K (.ref (He.ma K (He.ga K x) "__init__")) = some (.type "function")) && ((fs.all fun f => decide (PySem.W.findIn K (.ref (He.ga K x)) f = some none)) && (xfB K (He.ga K x) &&
  ((PySem.W.clsIn K (He.ga K x)).isSome && (decide (PySem.W.findIn K (.ref (He.ga K x)) "__class__" = some (some (.builtin "object.__class__"))) && (decide (PySem.W.specialIn K (.builtin "object.__class__") "__get__" = some (some (.builtin "getset_descriptor.__get__"))) &&
  (decide (PySem.W.takesIn K (.builtin "object.__class__") = some true) && decide (PySem.W.mroIn K (He.ga K x) (.type "object") = some true)))))))))))))
structure ErrF (K : PySem.W.Frag) (C fI : Addr) (fs : List Str) : Prop where
  o : OexC K C
  i : PySem.W.findIn K (.ref C) "__init__" = some (some (.ref fI))
  ti : PySem.W.typeIn K (.ref fI) = some (.type "function")
  no : ∀ f ∈ fs, PySem.W.findIn K (.ref C) f = some none
  xf : XfC K C
  is_ : IsC K C
theorem errB_ok {K : PySem.W.Frag} {x : Str} {fs : List Str} (h : errB K x fs = true) : ErrF K (He.ga K x) (He.ma K (He.ga K x) "__init__") fs := by
  unfold errB at h
  simp only [Bool.and_eq_true, decide_eq_true_eq, List.all_eq_true] at h
  obtain ⟨h1, h2, h3, h4, h5, h6, h7, h8, h9, h10, h11, h12, h13, h14⟩ := h
  have X := xfB_ok h9
  exact ⟨⟨oexB_ok h1, h2, h3, h4, h5⟩, h6, h7, h8, X, ⟨h10, X.ga, X.gg, X.exC, h11, h12, h13, h14⟩⟩
def baseB (K : PySem.W.Frag) (x : Str) : Bool := PySem.W.readsIn K (He.ga K x) (.type "type") && (decide (PySem.W.specialIn K (.ref (He.ga K x)) "__getattribute__" = some (some (.builtin "type.__getattribute__"))) && (match PySem.W.findCls K (.ref (He.ga K x)) (.type "type") "__init__" with
  | some (.val (.builtin z)) => z == "ValueError.__init__"
  | _ => false))
theorem baseB_ok {K : PySem.W.Frag} {mg : Str → Option Value} {x : Str} (h : baseB K x = true) (g : mg x = some (.ref (He.ga K x))) : BaseC K mg x (He.ga K x) := by
  unfold baseB at h
  simp only [Bool.and_eq_true, decide_eq_true_eq] at h
  obtain ⟨h1, h2, h3⟩ := h
  refine ⟨g, h1, h2, ?_⟩
  split at h3
  · rename_i z e
    rw [e, beq_iff_eq.mp h3]
  · cases h3
/-! ### a hook: what the module's names reach, and the runtime's own names -/
def frW (n : Nat) (g : Addr → Option Obj) : PySem.W.Frag := He.frT g (cStatics :: He.asD g n)
end Wf
/-! The end of a law whose defs make defs: tables of code objects, no guard. -/
namespace Wf
open PySem PySem.Spec PyProof.Rows L2 LamX
abbrev tab0 : Obj := { cls := .none, data := .fields #[] }
/-- nothing stands but the tables and the script -/
def OnlyT (cs : List (Addr × Addr)) (a : Addr) (H : Hp) : Prop := ∀ b u, H b = some u → (∃ p ∈ cs, p.2 = b) ∨ (b = a ∧ ∃ ob xs, u = HO.frz ob (.lst xs))
theorem lawT {P : Program} {w : World} {K : PySem.W.Frag} {mg mb : Str → Option Value} {k : Nat} {fa a : Addr} {cs : List (Addr × Addr)} {fd : FuncData} {x : Str} {sp : Sp} {s : Shared} {us : List Value} {ns : List Int}
    (KX : K.In s.heap) (hmg : s.heap.Ns mainGlobals mg) (hb : s.heap.Ns builtinsNs mb) (hbb : ∀ x : Str, x ≠ "__name__" → mb x = bootBuiltins x) (hlim : s.heap.NoLimit) (hg : s.gens = #[])
    (hT : ∀ p ∈ cs, s.heap.get? p.2 = some tab0) (nT : ∀ p ∈ cs, K.lookup p.2 = none) (CH : ∀ p ∈ cs, PySem.W.CodeHd s.heap p.1 p.2)
    (hbm : ∃ (bm : Addr) (ob : Obj), mg "__builtins__" = some (.ref bm) ∧ bm ≠ builtinsNs ∧ s.heap.get? bm = some ob ∧ ob.cls = .type "module" ∧ ob.dict = some builtinsNs ∧ ob.data = .plain)
    (ha : s.heap.get? a = some { cls := .type "list", data := .seq us.toArray }) (hi : IntsAre us ns) (hl : ns.length ≤ sizeLine) (hr : Room k callerA)
    (F : ∀ base : Heap, K.In base → base.Ns mainGlobals mg → (∀ p ∈ cs, TabB base mg p.1 p.2) → FnG P w K mg base CX0 k fa fd [x] sp) (hbind : ∀ (s : Shared) (u : Value), BindsTo s fd ⟨[u], []⟩ [(x, u)])
    (hsp : ∀ H : Hp, (∀ p ∈ cs, H p.2 = some (.tbl #[])) → OnlyT cs a H → SqL K H a (ns.map V.int) → sp [.ref a] H (fun v _ => v = .bl true) fun _ _ _ => False) :
    codeAny (model P w) callerA (.call (.ref fa) ⟨[.ref a], []⟩) (fun r s' => r = .ok (.ret (.bool true)) ∧ PySem.OldK s.heap s'.heap ∧ s'.os = s.os ∧ AllBare s'.gens) s := by
  classical
  have rv := vals_ints hi
  let isT : Addr → Prop := fun b => ∃ p ∈ cs, p.2 = b
  have tabAt : ∀ b, isT b → s.heap.get? b = some tab0 := fun b ⟨p, hp, e⟩ => e ▸ hT p hp
  have aT : ¬ isT a := fun z => by
    have e := tabAt a z
    rw [ha] at e
    have := congrArg Obj.data (Option.some.inj e)
    cases this
  have go : ∀ H : Hp, (∀ p ∈ cs, H p.2 = some (.tbl #[])) → (∀ b u, H b = some u → isT b ∨ (b = a ∧ ∃ ob xs, u = .frz ob (.lst xs))) → SqL K H a (ns.map V.int) → HOk P w H s.heap → (H a ≠ none → K.lookup a = none) →
      codeAny (model P w) callerA (.call (.ref fa) ⟨[.ref a], []⟩) (fun r s' => r = .ok (.ret (.bool true)) ∧ PySem.OldK s.heap s'.heap ∧ s'.os = s.os ∧ AllBare s'.gens) s := by
    intro H hH hA hS hok hK
    -- what is neither the script nor a table is not told of
    have clear_ : ∀ {b : Addr} {o : Obj}, s.heap.get? b = some o → o.data ≠ .fields #[] → (∀ vs m, o.data ≠ .seq vs m) → H b = none := fun {b o} e h1 h2 => by
      cases q : H b with
      | none => rfl
      | some u =>
        rcases hA b u q with z | ⟨rfl, _⟩
        · rw [tabAt b z] at e
          cases e
          exact absurd rfl h1
        · rw [ha] at e
          cases e
          exact absurd rfl (h2 _ _)
    have clearD : ∀ {b : Addr} {o : Obj} {es : Array DictEntry} {ep : Nat}, s.heap.get? b = some o → o.data = .dict es ep → H b = none := fun {b o es ep} e d => clear_ e (fun z => by rw [d] at z; cases z) fun vs m z => by rw [d] at z; cases z
    have nsIn_ : ∀ {b : Addr} {m : Str → Option Value}, s.heap.Ns b m → (hidT s.heap H).Ns b m := fun {b m} q => by
      obtain ⟨o, es, ep, e, d, r⟩ := q
      exact ⟨o, es, ep, hidT_get e (clearD e d), d, r⟩
    have hKb : K.In (hidT s.heap H) := fun b o e => by
      refine hidT_get (KX b o e) ?_
      cases q : H b with
      | none => rfl
      | some u =>
        rcases hA b u q with ⟨p, hp, ep⟩ | ⟨rfl, _⟩
        · rw [← ep, nT p hp] at e
          cases e
        · rw [hK (by rw [q]; exact fun z => nomatch z)] at e
          cases e
    have TB : ∀ p ∈ cs, TabB (hidT s.heap H) mg p.1 p.2 := fun p hp => by
      refine ⟨?_, ?_, fun z => ?_⟩
      · obtain ⟨o, vs, file, tf, flags, tg, inF, text, tt, e1, r1, r2, r3, rest⟩ := CH p hp
        refine ⟨o, vs, file, tf, flags, tg, inF, text, tt, hidT_get e1 (clear_ e1 (fun z => ?_) fun vs m z => ?_), r1, r2, r3, rest⟩
        · rw [r2] at z
          cases z
          simp at r3
        · rw [r2] at z
          cases z
      · obtain ⟨bm, ob, b1, b2, b3, b4, b5, b6⟩ := hbm
        refine ⟨bm, ob, b1, b2, fun z => ?_, fun z => ?_, hidT_get b3 (clear_ b3 (fun z => ?_) fun vs m z => ?_), b4, b5, b6⟩
        · obtain ⟨o, es, ep, e, d, _⟩ := hmg
          rw [z, e] at b3
          cases b3
          rw [d] at b6
          cases b6
        · rw [z, hT p hp] at b3
          cases b3
          cases b6
        · rw [b6] at z
          cases z
        · rw [b6] at z
          cases z
      · obtain ⟨o, es, ep, e, d, _⟩ := hmg
        rw [z, hT p hp] at e
        cases e
        cases d
    obtain ⟨mc, l1, l2⟩ := hlim
    have e0 : Env0 P w K mg (hidT s.heap H) callerA [] s H :=
      ⟨rfl, ⟨hKb, nsIn_ hmg, ⟨mb, nsIn_ hb, hbb⟩, ⟨mc, nsIn_ l1, l2⟩⟩, fun b o e => of_hidT e, Nat.le_of_eq (hidT_size _ _), trivial, fun b z => (List.not_mem_nil z).elim, hok, .of_eq hg⟩
    refine codeAny_mono ((F _ hKb (nsIn_ hmg) TB).run callerA rfl [] s H ⟨[.ref a], []⟩ [.ref a] [.ref a] _ _ hr e0 (hbind s (.ref a)) (.cons rfl .nil) (hsp H hH hA hS)) fun r s' q => ?_
    cases r with
    | error e => exact False.elim q
    | ok fl =>
      cases fl with
      | next => exact False.elim q
      | brk => exact False.elim q
      | cont => exact False.elim q
      | ret u =>
        obtain ⟨v, H', os, bare, un, hok', r', ev⟩ := q
        cases (show v = .bl true from ev)
        cases (show u = Value.bool true from r')
        have kept : ∀ b o, ¬ isT b → s.heap.get? b = some o → s'.heap.get? b = some o := fun b o nb e => by
          cases q : H b with
          | none => exact un.keep b o e q (fun y => (List.not_mem_nil y).elim) (fun y => (List.not_mem_nil y).elim)
          | some u =>
            rcases hA b u q with z | ⟨rfl, ob, xs, rfl⟩
            · exact absurd z nb
            · have e1 := (hok b _ q).1
              rw [e] at e1
              cases e1
              exact (hok' b _ (un.frzs b _ _ q)).1
        have grew : ∀ p ∈ cs, ∃ more : Array Value, s'.heap.get? p.2 = some { cls := .none, data := .fields more } := fun p hp => by
          obtain ⟨more, z⟩ := un.tbls p.2 #[] (hH p hp)
          exact ⟨_, hok' p.2 _ z⟩
        refine ⟨rfl, ⟨fun b o e => ?_, fun b o e => ?_⟩, os, bare⟩
        · by_cases z : isT b
          · obtain ⟨p, hp, rfl⟩ := z
            obtain ⟨more, hm⟩ := grew p hp
            rw [hT p hp] at e
            cases e
            exact .inr (.inl ⟨((CH p hp).tab (hT p hp)).isCodeTable, rfl, #[], more, rfl, by rw [Array.empty_append]; exact hm⟩)
          · exact .inl (kept b o z e)
        · by_cases z : isT b
          · obtain ⟨p, hp, rfl⟩ := z
            obtain ⟨more, hm⟩ := grew p hp
            exact ⟨_, hm⟩
          · exact ⟨o, kept b o z e⟩
  cases hk : K.lookup a with
  | some o =>
    have e := KX a o hk
    rw [ha] at e
    cases e
    let H0 : Hp := fun b => if isT b then some (.tbl #[]) else none
    have h1 : ∀ b, isT b → H0 b = some (.tbl #[]) := fun b z => if_pos z
    have h2 : ∀ b, ¬ isT b → H0 b = none := fun b z => if_neg z
    have only : ∀ b u, H0 b = some u → isT b ∧ u = .tbl #[] := fun b u e => by
      by_cases z : isT b
      · rw [h1 b z] at e
        exact ⟨z, (Option.some.inj e).symm⟩
      · rw [h2 b z] at e
        cases e
    refine go H0 (fun p hp => h1 _ ⟨p, hp, rfl⟩) (fun b u e => .inl (only b u e).1) (.inr ⟨_, us.toArray, _, hk, rfl, rfl, rfl, ?_, ?_⟩) (fun b u e => ?_) fun z => absurd (h2 a aT) z
    · rw [List.size_toArray, hi.length]
      exact hl
    · simpa using rv
    · obtain ⟨z, rfl⟩ := only b u e
      exact tabAt b z
  | none =>
    let fr : HO := .frz { cls := .type "list", data := .seq us.toArray } (.lst (ns.map V.int))
    let H0 : Hp := fun b => if b = a then some fr else if isT b then some (.tbl #[]) else none
    have h0 : H0 a = some fr := if_pos rfl
    have h1 : ∀ b, isT b → H0 b = some (.tbl #[]) := fun b z => (if_neg (show ¬ b = a from fun e => aT (by rw [← e]; exact z))).trans (if_pos z)
    have h2 : ∀ b, b ≠ a → ¬ isT b → H0 b = none := fun b n z => (if_neg n).trans (if_neg z)
    have only : ∀ b u, H0 b = some u → (isT b ∧ u = .tbl #[]) ∨ (b = a ∧ u = fr) := fun b u e => by
      by_cases q : b = a
      · subst q
        rw [h0] at e
        exact .inr ⟨rfl, (Option.some.inj e).symm⟩
      · by_cases z : isT b
        · rw [h1 b z] at e
          exact .inl ⟨z, (Option.some.inj e).symm⟩
        · rw [h2 b q z] at e
          cases e
    refine go H0 (fun p hp => h1 _ ⟨p, hp, rfl⟩) (fun b u e => ?_) (.inl (.inr ⟨_, h0⟩)) (fun b u e => ?_) fun _ => hk
    · rcases only b u e with ⟨z, _⟩ | ⟨z, rfl⟩
      · exact .inl z
      · exact .inr ⟨z, _, _, rfl⟩
    · rcases only b u e with ⟨z, rfl⟩ | ⟨rfl, rfl⟩
      · exact tabAt b z
      · exact ⟨ha, by rw [List.length_map]; exact hl, us, _, rv, ha⟩
theorem walkT2 {l : PySem.W.OpenLaw} {n k : Nat} {q : Program} {loose : List Str} {XP : (Str → Option Value) → Heap → Prop} {YP : World → Heap → Prop} {d : DefRec} {x : Str}
    (hn : l.most = some n) (hn2 : n ≤ sizeLine) (hdf : d.params.defaults = []) (hr : Room k callerA)
    (F : ∀ (w : World) (mg : Str → Option Value) (fa : Addr) (h : Heap), YP w h → h.Ns mainGlobals mg → mg d.name = some (.ref fa) →
      ∃ (K : PySem.W.Frag) (fd : FuncData) (cs : List (Addr × Addr)) (sp : Sp), K.In h ∧ (∀ p ∈ cs, h.get? p.2 = some tab0) ∧ (∀ p ∈ cs, K.lookup p.2 = none) ∧ (∀ p ∈ cs, PySem.W.CodeHd h p.1 p.2) ∧ (∀ (s : Shared) (u : Value), BindsTo s fd ⟨[u], []⟩ [(x, u)]) ∧
        (∀ (H : Hp) (a : Addr) (ns : List Int), ns.length ≤ n → (∀ p ∈ cs, H p.2 = some (.tbl #[])) → OnlyT cs a H → SqL K H a (ns.map V.int) → sp [.ref a] H (fun v _ => v = .bl true) fun _ _ _ => False) ∧
        ∀ base : Heap, K.In base → base.Ns mainGlobals mg → (∀ p ∈ cs, TabB base mg p.1 p.2) → FnG l.prog w K mg base CX0 k fa fd [x] sp) :
    PySem.W.WalkO q loose XP YP l.row.toRowW d [] (fun f vs => PySem.call f vs) := by
  refine Att.attach_call hn hdf fun w s0 s1 mg mb fa o pm cd doc a vs ns G Y ho hd hcd hmg hobj hints hlen hg => ?_
  obtain ⟨K, fd, cs, sp, KX, hT, nT, CH, hb, hsp, hF⟩ := F w mg fa _ Y G.T.g hmg
  exact lawT KX G.T.g G.T.b G.T.builtins G.T.nolimit hg hT nT CH G.T.bmain hobj hints (Nat.le_trans hlen hn2) hr hF hb fun H hH hA hS => hsp H a ns hlen hH hA hS
/-! ### a hook that tells of tables -/
structure SaysV (fa : List He.Fa) (fn : List He.DefD) (tf : List He.Defn) (ex : PySem.W.Frag → Bool) (h : Heap) (K : PySem.W.Frag) : Prop where
  d : He.SaysD fa fn K
  more : ex K = true
  hd : ∀ p ∈ tf, PySem.W.codeHdIn K (He.cT K p).1 (He.cT K p).2 = true
  out : ∀ p ∈ tf, K.lookup (He.cT K p).2 = none
  empty : ∀ p ∈ tf, h.get? (He.cT K p).2 = some tab0
def obsV (n : Nat) (fa : List He.Fa) (fn : List He.DefD) (tf : List He.Defn) (ex : PySem.W.Frag → Bool) (g : Addr → Option Obj) : He.AlD × Bool := (He.obsD fa fn (frW n g), ex (frW n g) && He.tabsB g tf (frW n g))
theorem saysV_of {n : Nat} {fa : List He.Fa} {fn : List He.DefD} {tf : List He.Defn} {ex : PySem.W.Frag → Bool} {h : Heap} (e : obsV n fa fn tf ex h.get? = (He.valD fn, true)) : SaysV fa fn tf ex h (frW n h.get?) := by
  have e1 := congrArg (fun z : He.AlD × Bool => z.1) e
  have e2 : (ex (frW n h.get?) && He.tabsB h.get? tf (frW n h.get?)) = true := congrArg (fun z : He.AlD × Bool => z.2) e
  obtain ⟨m1, m2⟩ := Bool.and_eq_true_iff.mp e2
  have at_ : ∀ p ∈ tf, PySem.W.codeHdIn (frW n h.get?) (He.cT (frW n h.get?) p).1 (He.cT (frW n h.get?) p).2 = true ∧ ∃ o, h.get? (He.cT (frW n h.get?) p).2 = some o ∧ He.emptyTab o = true := fun p hp => by
    obtain ⟨z1, z2⟩ := Bool.and_eq_true_iff.mp (List.all_eq_true.mp m2 p hp)
    refine ⟨z1, ?_⟩
    cases q : h.get? (He.cT (frW n h.get?) p).2 with
    | none => rw [q] at z2; cases z2
    | some o => rw [q] at z2; exact ⟨o, rfl, z2⟩
  refine ⟨e1, m1, fun p hp => (at_ p hp).1, fun p hp => ?_, fun p hp => ?_⟩
  · obtain ⟨_, o, q, z⟩ := at_ p hp
    exact He.frT_none q z
  · obtain ⟨_, o, q, z⟩ := at_ p hp
    rw [q, He.emptyTab_eq z]
def hookV (n : Nat) (fa : List He.Fa) (fn : List He.DefD) (tf : List He.Defn) (ex : PySem.W.Frag → Bool) : PySem.W.Hook where
  α := He.AlD × Bool
  obs := fun s => obsV n fa fn tf ex s.heap.get?
  val := fun _ => (He.valD fn, true)
  says := fun _ h => ∃ K : PySem.W.Frag, K.In h ∧ SaysV fa fn tf ex h K
  of := fun _ _ e => ⟨_, He.frT_in, saysV_of e⟩
  keeps := fun _ _ _ ⟨K, hK, c⟩ k => ⟨K, PySem.W.Frag.In.keeps hK k, ⟨c.d, c.more, c.hd, c.out, fun p hp => k _ _ (c.empty p hp)⟩⟩
theorem obsV_eq {n : Nat} {fa : List He.Fa} {fn : List He.DefD} {tf : List He.Defn} {ex : PySem.W.Frag → Bool} {g : Addr → Option Obj} {s : Shared} (h : ∀ a, g a = s.heap.get? a) : obsV n fa fn tf ex g = (hookV n fa fn tf ex).obs s := by
  have e : g = s.heap.get? := funext h
  rw [e] <;> rfl
/-- the code object of a def that the head tells -/
theorem code_of {K : PySem.W.Frag} {p : He.Defn} {qual : Str} {params : Arguments} {body : List Stmt} {scope : Scope} {dvs : List V} {kws : List (Str × V)} {x : Str} {fd : FuncData} (F : FunD K x qual params body scope dvs kws (He.fAd K p) fd) : fd.code = .ref (He.cT K p).1 := by
  obtain ⟨oc, od, dV, kV, doc, pm, an, cdv, ct, osl, rfl, lk, hcd, _, _⟩ := F.ex
  obtain ⟨c, hc⟩ := He.codeIn_ref hcd
  have e := He.codeOf_eq lk (c := c) hc
  show cdv = _
  rw [hc]
  show Value.ref c = .ref (He.codeOf K p)
  rw [e]
end Wf
/-! A law whose program makes defs: its beginning, by value; old contracts that let tables grow, by value. -/
namespace Pv
open PySem PySem.Spec L2 LamX NdefX Wf
theorem end_lawT {K : PySem.W.Frag} {T : List NTab} {cs : List (Addr × Addr)} {H : Hp} {a : Addr} {ns : List Int} (hl : ns.length ≤ 1000) (tn : TabsN T H) (hT : ∀ p ∈ cs, H p.2 = some (.tbl #[])) (hO : OnlyT cs a H) (hS : SqL K H a (ns.map V.int)) : LSp K T psp_law [.ref a] H (fun v _ => v = .bl true) fun _ _ _ => False := by
  have fin : ∀ (G : Hp) (w : Addr → Option Nat), Rep K (B0 T H w) G H [some (.ref a)] [.ow true (.scr ns)] [] [] w → LSp K T psp_law [.ref a] H (fun v _ => v = .bl true) fun _ _ _ => False := fun G w r => by
    refine ⟨G, w, [.ow true (.scr ns)], fun r _ => r = .im (.bool true), noX, r, fun s hs => ?_, ⟨ns, rfl, hl, rfl⟩, fun r δ' v H' G' w' hr _ _ rep => ?_, xok_no⟩
    · rw [List.mem_singleton] at hs
      exact .inr (.inr ⟨_, hs⟩)
    · subst hr
      have : Dq K G' v (.bool true) := rep.tm 0 v _ rfl rfl
      cases this
      rfl
  rcases hS with h | h
  · have ho : ∃ o, H a = some (.frz o (.lst (ns.map V.int))) := by
      rcases h with h | ⟨o, h⟩
      · rcases hO a _ h with ⟨p, hp, e⟩ | ⟨_, o, xs, z⟩
        · have := hT p hp
          rw [e, h] at this
          cases this
        · cases z
      · exact ⟨o, h⟩
    obtain ⟨o, ho⟩ := ho
    refine fin (fun _ => none) (fun b => if b = a then some 0 else none) ⟨(fun _ _ z => by cases z), fun b i hb => ?_, rfl, fun i s hs => ?_, rfl, fun j v q hv => by simp at hv, ⟨fun b u hb => B0_some hb, .refl, tn, nofun⟩⟩
    · split at hb
      · rename_i e
        subst e
        exact ⟨rfl, by rw [ho]; exact Option.some_ne_none _, NoX.of ho (fun _ z => by cases z) (fun _ _ z => by cases z) (fun _ z => by cases z)⟩
      · cases hb
    · match i, hs with
      | 0, hs =>
        cases hs
        exact ⟨.ref a, rfl, a, rfl, .inl ⟨o, if_pos rfl, ho⟩⟩
      | i + 1, hs => simp at hs
  · refine fin (fun _ => none) (fun _ => none) ⟨(fun _ _ z => by cases z), (fun _ _ z => by cases z), rfl, fun i s hs => ?_, rfl, fun j v q hv => by simp at hv, ⟨fun b u hb => B0_some hb, .refl, tn, nofun⟩⟩
    match i, hs with
    | 0, hs =>
      cases hs
      exact ⟨.ref a, rfl, a, rfl, .inr fun H1 => .inr h⟩
    | i + 1, hs => simp at hs
end Pv
/-! Lambdas that hold nothing: made, handed on, called; by value. -/
namespace Pv
open PySem PySem.Spec PyProof.Rows L2 LamX NdefX Wf
theorem clo_nil {cells : List (Str × Addr)} : ∀ {names : List (Str × NameKind)} {acc : List (Str × Addr)}, (∀ y ∈ names, y.2 ≠ .free) → cloFrom cells names acc = acc
  | [], acc, _ => rfl
  | (n, k) :: r, acc, h => by
    have hk : (k == NameKind.free) = false := by
      have := h (n, k) List.mem_cons_self
      cases k <;> first | rfl | exact absurd rfl this
    unfold cloFrom
    rw [hk]
    exact clo_nil fun y hy => h y (List.mem_cons_of_mem _ hy)
section
variable {X : Cx} {pins : List (Addr × Obj)} {σ : L2.St} {H : Hp} {s : Shared}
theorem inv_lam {F : LF} {o : Obj} {t' : Nat} {pm ctv : Value} (I : Inv X pins σ H s) (ho : o = PySem.W.kla_obj "<lambda>" F.qual F.params F.body F.scope [] pm F.c ctv) :
    Inv X pins σ (upd H s.heap.objs.size (LamO s.heap.objs.size F)) { s with heap := s.heap.push o, toks := t' } := by
  subst ho
  refine I.laid (a := s.heap.objs.size) (fun b u e => Heap.get?_push_of_some _ e) (Nat.le_refl _) ?_
  have e : (s.heap.push (PySem.W.kla_obj "<lambda>" F.qual F.params F.body F.scope [] pm F.c ctv)).get? s.heap.objs.size = some (PySem.W.kla_obj "<lambda>" F.qual F.params F.body F.scope [] pm F.c ctv) := Heap.get?_push_size _ rfl
  exact ⟨⟨pm, ctv, e⟩, ⟨_, e⟩, fun h1 h2 ⟨p, t, z⟩ st => ⟨p, t, st _ z⟩⟩
theorem lam_grow {T : List NTab} {nm : Nat → Nat → Str} {c P : Addr} {prm : Arguments} {bd : Expr} {sc : Scope} {pos : Pos} {E : Value → Shared → Prop} {Q : Value → Shared → Prop} (J : Inv X pins σ H s) (tb : TabB X.base X.mg c P) (ec : X.env.code = .ref c)
    (mem : (P, nm) ∈ T) (en : nm pos.line pos.col = X.env.qual ++ "<lambda>") (un : ∀ p ∈ T, p.1 = P → p.2 = nm) (tn : TabsN T H) (hdef : defaultsOf prm X.env = ([], [])) (fr : ∀ y ∈ sc.names, y.2 ≠ .free)
    (go : ∀ (f d : Addr) (H1 : Hp) (s' : Shared), Inv X pins σ H1 s' → ExtN H H1 → TbG T H H1 → H f = none → H1 f = some (LamO f ⟨X.env.qual ++ "<lambda>", prm, bd, sc, d⟩) → H1 d = some (CodeO d (X.env.qual ++ "<lambda>")) → d ≠ f → Q (.ref f) s') :
    wpAny (model X.prog X.w) X.A (eval (.Lambda prm bd sc pos) X.env) Q E s := by
  obtain ⟨ps, hP, tr, all⟩ := (show TabN H P nm from tn _ mem)
  have here : s.heap.get? P = some { cls := .none, data := .fields ps } := J.hok P _ hP
  have cl0 : cloFrom X.env.cells sc.names [] = [] := clo_nil fr
  have hcl : closureFor sc X.env = pure [] := by
    have := closure_ok (env := X.env) (scope := sc) fun y hy e => absurd e (fr y hy)
    rw [cl0] at this
    exact this
  refine PySem.W.kla_eval hdef ?_
  cases hc : codeAmong pos ps.toList with
  | none =>
    refine PySem.W.kla_makeFunction (mg := X.mg) (c := c) (P := P) (ps := ps) hcl J.ok.glob (J.mod.glob.keeps J.bk) ec (tb.code.keeps J.bk) here tr hc tb.gP (tb.bm.keeps J.bk) fun d ctv h' tk hx hge hlt hrec htb => ?_
    obtain ⟨d2, oc, us, t, e2, hoc, hdt, hus⟩ := hrec
    cases e2
    have nd : H d = none := J.hok.fresh hge
    have J1 := inv_table (t' := tk) (more := #[rawInt pos.line, rawInt pos.col, .ref d]) (h' := h') J hP (fun b o hb e => hx b o hb e) htb hge ⟨oc, us, t, hoc, hdt, hus⟩
    have g := tabs_grow (pos := pos) mem un hP nd
    rw [en] at g
    have nf := J1.hok.fresh (Nat.le_refl _)
    have J2 := inv_lam (F := ⟨X.env.qual ++ "<lambda>", prm, bd, sc, d⟩) (t' := tk) (pm := (X.mg "__name__").getD .none) (ctv := ctv) J1 rfl
    refine go h'.objs.size d _ _ J2 ((ext_grow hP nd).trans (.of (same_new nf))) (g.trans (.same (same_new nf))) (J.hok.fresh (Nat.le_trans hge (Nat.le_of_lt hlt))) upd_same ?_ (Nat.ne_of_lt hlt)
    exact (upd_ne (Nat.ne_of_lt hlt)).trans upd_same
  | some cv =>
    obtain ⟨d, e, hco⟩ := all pos cv hc
    subst e
    rw [en] at hco
    refine PySem.W.kla_makeFunctionHit (mg := X.mg) (c := c) (P := P) (ps := ps) hcl J.ok.glob (J.mod.glob.keeps J.bk) ec (tb.code.keeps J.bk) here tr hc (tb.bm.keeps J.bk) fun ctv h' tk hx hsz => ?_
    have J1 : Inv X pins σ H { s with heap := h', toks := tk } := J.kept hx
    have nf : H h'.objs.size = none := J1.hok.fresh (Nat.le_refl _)
    have J2 := inv_lam (F := ⟨X.env.qual ++ "<lambda>", prm, bd, sc, d⟩) (t' := tk) (pm := (X.mg "__name__").getD .none) (ctv := ctv) J1 rfl
    exact go h'.objs.size d _ _ J2 (.of (same_new nf)) (.same (same_new nf)) nf upd_same ((upd_ne (ne_of_none hco nf)).trans hco) (ne_of_none hco nf)
end
/-- a new lambda -/
def pLam (qual : Str) (prm : Arguments) (bd : Expr) (sc : Scope) : PX := fun δ Q => ∀ c, Q (.ow (.lam ⟨qual, prm, bd, sc, c⟩)) δ
theorem Rep.retLam {K : PySem.W.Frag} {B : Bas} {G H : Hp} {σ : L2.St} {δ : List Sl} {vs : List V} {rs : List R} {w : Addr → Option Nat} (r : Rep K B G H σ δ vs rs w) {f : Addr} {F : LF} (h1 : G f = some (LamO f F)) (h2 : G F.c = some (CodeO F.c F.qual)) : Rep K B G H σ δ [.ref f] [.ow (.lam F)] fun a => evn (w a) := by
  have r0 := r.drop
  refine ⟨r0.sub, r0.out, r0.len, r0.sl, rfl, fun j u q hu hq => ?_, r0.bs⟩
  match j with
  | 0 =>
    simp only [List.getElem?_cons_zero, Option.some.injEq] at hu hq
    subst hu hq
    exact ⟨f, rfl, h1, h2⟩
  | j + 1 => simp at hu
theorem je_lam {X : Cx} {B : Bas} {nm : Nat → Nat → Str} {c P : Addr} {prm : Arguments} {bd : Expr} {sc : Scope} {pos : Pos} (tb : TabB X.base X.mg c P) (ec : X.env.code = .ref c) (mem : (P, nm) ∈ B.T) (en : nm pos.line pos.col = X.env.qual ++ "<lambda>") (un : ∀ p ∈ B.T, p.1 = P → p.2 = nm)
    (fr : ∀ y ∈ sc.names, y.2 ≠ .free) (hdef : defaultsOf prm X.env = ([], [])) : JE X B (.Lambda prm bd sc pos) (pLam (X.env.qual ++ "<lambda>") prm bd sc) := by
  refine ⟨fun pins s σ H Q I ⟨G, w, δ, Qp, rep, q, k⟩ => ?_⟩
  refine lam_grow I tb ec mem en un (rep.bs.tt.ts rep.bs.ta) hdef fr fun f d H1 s' I1 e1 g1 f0 ff cc fd => ?_
  have hx : ∀ d' u, some (f, LamO f ⟨X.env.qual ++ "<lambda>", prm, bd, sc, d⟩) = some (d', u) → H d' = none ∧ H1 d' = some u ∧ NT u := fun d' u e => by
    cases e
    exact ⟨f0, ff, lamO_ne⟩
  obtain ⟨st, r2⟩ := rep.pub (x := some (f, LamO f ⟨X.env.qual ++ "<lambda>", prm, bd, sc, d⟩)) (fun a o n h => e1 a o h n) g1 hx
  have p1 : pubT G H1 (some (f, LamO f ⟨X.env.qual ++ "<lambda>", prm, bd, sc, d⟩)) f = some (LamO f ⟨X.env.qual ++ "<lambda>", prm, bd, sc, d⟩) := by
    unfold pubT
    dsimp only
    rw [if_pos rfl]
  have p2 : pubT G H1 (some (f, LamO f ⟨X.env.qual ++ "<lambda>", prm, bd, sc, d⟩)) d = some (CodeO d (X.env.qual ++ "<lambda>")) := by
    unfold pubT
    dsimp only
    rw [if_neg fd]
    cases e : G d with
    | some u =>
      have h1 := rep.sub d u e
      have h2 := e1 d u h1 fun ps z => rep.bs.gt d ps (by rw [e, z])
      rw [cc] at h2
      exact h2.symm
    | none =>
      dsimp only
      rw [if_pos ⟨none, _, cc, fun ⟨_, ⟨_, _, _, e1, e2, _⟩, _, _, _, e3, e4⟩ => by rw [e1] at e3; cases e3; rw [e2] at e4; cases e4⟩]
      exact cc
  exact ⟨.ref f, H1, I1, rfl, k _ δ _ H1 _ _ (q d) (st.trans .drop) (r2.retLam p1 p2)⟩
end Pv
/-! Lambdas called. -/
namespace Pv
open PySem PySem.Spec PyProof.Rows L2 LamX NdefX Wf
theorem run_lam {CX : CXT} {P : Program} {w : World} {K : PySem.W.Frag} {mg : Str → Option Value} {base : Heap} {k : Nat} {f : Addr} {F : LF} {N ps : List Str} (S : FnScope N ps F.scope)
    {A : Around} {outer : List Env} {s : Shared} {H : Hp} {us : List Value} {vs : List V} {Q : VK} {E : XK} (hr : Room (k + 1) A) (e0 : Env0 P w K mg base A outer s H) (hf : H f = some (LamO f F)) (hc : H F.c = some (CodeO F.c F.qual))
    (hb : ∀ pm ctv : Value, bindArgs (PySem.W.kla_fn "<lambda>" F.qual F.params F.body F.scope [] pm (.ref F.c) ctv) ⟨us, []⟩ = pure (ps.zip us)) (r : Vals vs us) (hl : vs.length = ps.length)
    (hbody : Room k (A.deeper (envOfC F.qual F.scope s.heap.objs.size f (.ref F.c))) → ∃ t, PE (cxOf CX P w K mg base N F.qual F.scope f (.ref F.c) A outer s H E) F.body t ∧ t (L2.start N vs) H Q) :
    codeAny (model P w) A (.call (.ref f) ⟨us, []⟩) (CR CX outer P w H s Q E) s := by
  have lim : s.heap.NoLimit := e0.mod.nolimit.keeps fun b o e => (e0.bs b o e).1
  obtain ⟨⟨pm, ctv, of1⟩, _, _⟩ := e0.hok f _ hf
  have hkind : ∀ y ∈ ps.zip us, F.scope.names.lookup y.1 = some .local ∨ (F.scope.names.lookup y.1 = some .cell ∧ ((cellsFrom (s.heap.objs.size + 1) F.scope.names []).lookup y.1).isSome = true) := fun ⟨n, v⟩ hy => by
    rcases S.par n (List.of_mem_zip hy).1 with q | q
    · exact .inl q
    · exact .inr ⟨q, PySem.W.cellsFrom_some _ _ _ (.inl q)⟩
  refine PySem.W.kla_callFunE hr.depth of1 rfl S.co S.gen rfl (codeO_at e0.hok hc) ?_
  rw [hb]
  refine wpAny_pure (wpAny_newFunctionEnv_cells S.kind hkind fun env he s1 x => ?_)
  subst he
  refine ⟨lim.keeps x.toInCall.keep, ?_⟩
  obtain ⟨t, ht, hq⟩ := hbody (hr.deeper _)
  have I : Inv (cxOf CX P w K mg base N F.qual F.scope f (.ref F.c) A outer s H E) [] (L2.start N vs) H s1 := inv_start S hr.hd e0 hl r x
  refine PySem.W.kla_codeExpr (wpAny_mono (ht.run [] s1 (L2.start N vs) H Q I hq) (fun v s' hs => ?_) fun e s' hs => hs)
  obtain ⟨u, H', J, rv, q⟩ := hs
  exact ⟨u, H', J.os, J.bare, J.base, J.hok, rv, q⟩
/-- a lambda of two numbers that tells a truth -/
def LamOk (P : Program) (w : World) (K : PySem.W.Frag) (mg : Str → Option Value) (F : LF) (g : Int → Int → Bool) : Prop := ∀ (base : Heap) (A : Around) (outer : List Env) (s : Shared) (H : Hp) (f : Addr) (x y : Int) (us : List Value) (Q : VK), Room 1 A → Env0 P w K mg base A outer s H → H f = some (LamO f F) → H F.c = some (CodeO F.c F.qual) → Vals [.int x, .int y] us → Q (.bl (g x y)) H →
  codeAny (model P w) A (.call (.ref f) ⟨us, []⟩) (CR CX0 outer P w H s Q E0) s
def pCallL (i : Nat) (L : LF → (Int → Int → Bool) → Prop) (ps : PL) : PX := fun δ Q => ∃ b F g, δ[i]? = some (.ow b (.lam F)) ∧ L F g ∧ ps δ fun rs δ1 => ∃ b1 x y, δ1[i]? = some (.ow b1 (.lam F)) ∧ dats δ1 rs = some [.int x, .int y] ∧ Q (.im (.bool (g x y))) δ1
theorem lam_at {X : Cx} {pins : List (Addr × Obj)} {σ : L2.St} {H : Hp} {s : Shared} {f : Addr} {F : LF} (I : Inv X pins σ H s) (h : H f = some (LamO f F)) : ∃ pm ctv : Value, s.heap.get? f = some (PySem.W.kla_obj "<lambda>" F.qual F.params F.body F.scope [] pm F.c ctv) := (I.hok f _ h).1
theorem je_callL {X : Cx} {B : Bas} {j i : Nat} {L : LF → (Int → Int → Bool) → Prop} {x : Str} {e1 e2 : Expr} {ps : PL} {p pos : Pos} (hL : ∀ F g, L F g → LamOk X.prog X.w X.K X.mg F g) (hr : Room j X.A) (hN : X.N[i]? = some x) (hv : Vis X.env.scope x) (ha : JA X B [e1, e2] ps) (hk : 1 ≤ j := by decide)
    (hd : (x == ("__debug__" : Str)) = false := by decide) (hcd : (x == ("__classdict__" : Str)) = false := by decide)
    (he : starEach [e1, e2] X.env = (false, eval e1 X.env) :: starEach [e2] X.env := by rfl) (hpl : (backTo pos (starEach [e2] X.env)).any (·.1) = false := by rfl) :
    JE X B (.Call (.Name x p) [e1, e2] [] pos) (pCallL i L ps) := by
  refine ⟨fun pins s σ H Q I ⟨G, w, δ, Qp, rep, q, kk⟩ => ?_⟩
  obtain ⟨b, F, g, h0, hLg, q⟩ := q
  obtain ⟨v0, hσ, f, rfl, g1, g2⟩ := rep.sl i _ h0
  refine wpAny_Call_Name_kw (thn ((pe_var (pos := p) hN hv hd hcd).run pins s σ H (fun v H1 => v = .ref f ∧ H1 = H) I ⟨.ref f, hσ, rfl, rfl⟩) fun u s1 ⟨v, H1, I1, r1, ev, eH⟩ => ?_)
  subst ev
  rw [eH] at I1
  obtain rfl : u = Value.ref f := r1
  have fa : ∀ {H2 : Hp} {s2 : Shared}, Inv X pins σ H2 s2 → H2 f = some (LamO f F) → PySem.W.FnAt f s2.heap := fun I2 h => by
    obtain ⟨pm, ctv, ho⟩ := lam_at I2 h
    exact ⟨_, _, _, _, ho⟩
  refine PySem.W.callWith_F (first := []) (fa I1 (rep.sub f _ g1)) (thn (ha.run pos pins s1 σ H (fun vs H2 => ∃ rs δ1 G2 w2 x y, dats δ1 rs = some [.int x, .int y] ∧ Qp (.im (.bool (g x y))) δ1 ∧ Stp B.T G H w δ G2 H2 w2 δ1 ∧ Rep X.K B G2 H2 σ δ1 vs rs w2) I1 ⟨G, w, δ, _, rep, q, fun rs δ1 vs H2 G2 w2 q2 l2 st rep2 => ?_⟩) fun us s2 ⟨vs, H2, I2, r, rs, δ1, G2, w2, x1, y1, hdt, q2, st, rep2⟩ => ?_) he hpl
  · obtain ⟨b1, x1, y1, _, hdt, q3⟩ := q2
    exact ⟨rs, δ1, G2, w2, x1, y1, hdt, q3, st, rep2⟩
  · have ev := vws2 (rep2.vws hdt)
    subst ev
    have f1 : H2 f = some (LamO f F) := rep2.sub f _ (st.g f _ g1)
    have f2 : H2 F.c = some (CodeO F.c F.qual) := rep2.sub _ _ (st.g _ _ g2)
    refine ⟨fa I2 f1, wpAny_call (codeAny_mono (hL F g hLg X.base X.A X.stack s2 H2 f x1 y1 us Q (hr.mono hk) I2.env0 f1 f2 r (kk _ δ1 _ H2 G2 _ q2 (st.trans .drop) (rep2.ret (.bl _)))) fun rr s' hq => ?_)⟩
    cases rr with
    | error er => exact False.elim hq
    | ok fl =>
      cases fl with
      | ret u => exact I2.after hq
      | next => exact False.elim hq
      | brk => exact False.elim hq
      | cont => exact False.elim hq
end Pv
/-! sorted(range(n), key=a lambda that holds a name). -/
namespace Pv
open PySem PySem.Spec PyProof.Rows L2 LamX NdefX Wf SrtO Srt
/-! ### a lambda that holds names, called -/
/-! ### list.sort(key=f) -/
section
variable {X : Cx} {A : Around} {pins : List (Addr × Obj)} {σ : L2.St} {H : Hp} {s : Shared} {a kS f : Addr} {e e1 : Nat} {P : PySem.Fin → Shared → Prop} {E : Value → Shared → Prop}
def KeysAt (H : Hp) (kf : Int → Int × Int) (us : List Value) (ns : List Int) : Prop := ∃ ps : List Addr, us = ps.map Value.ref ∧ ps.length = ns.length ∧ ∀ (j : Nat) p n, ps[j]? = some p → ns[j]? = some n → H p = some (.tup [.int (kf n).1, .int (kf n).2])
theorem KeysAt.mono {H H' : Hp} {kf : Int → Int × Int} {us : List Value} {ns : List Int} (k : KeysAt H kf us ns) (h : ∀ b xs, H b = some (.tup xs) → H' b = some (.tup xs)) : KeysAt H' kf us ns := by
  obtain ⟨ps, e, hl, hk⟩ := k
  exact ⟨ps, e, hl, fun j q m hq hm => h _ _ (hk j q m hq hm)⟩
end
section
variable {X : Cx} {pins : List (Addr × Obj)} {σ : L2.St} {H : Hp} {s : Shared} {f r : Addr} {E : Value → Shared → Prop} {Q : Value → Shared → Prop}
theorem vals_ints : ∀ {ns : List Int} {us : List Value}, IntsAre us ns → Vals (ns.map V.int) us
  | _, _, .nil => .nil
  | _, _, .cons n t h => .cons ⟨t, rfl⟩ (vals_ints h)
end
end Pv
/-! A def whose code object is known, by value; the lambda of a def. -/
namespace Pv
open PySem PySem.Spec PyProof.Rows L2 LamX NdefX Wf
def lamIn (st : Stmt) : Expr := match C8.fnBody st with
  | [.Return (some (.Call _ [_, _, l] _ _)) _] => l
  | _ => .Constant (.int 0) 0 ⟨0, 0, 0, 0⟩
def lamB : Expr → Expr
  | .Lambda _ b _ _ => b
  | e => e
def lamA : Expr → Arguments
  | .Lambda p _ _ _ => p
  | _ => C8.fnArgs (.Pass ⟨0, 0, 0, 0⟩)
def lamS : Expr → Scope
  | .Lambda _ _ s _ => s
  | _ => C8.fnScope (.Pass ⟨0, 0, 0, 0⟩)
theorem fn_okC {T : List NdefX.NTab} {P : Program} {w : World} {K : PySem.W.Frag} {mg : Str → Option Value} {base : Heap} {CX : CXT} {k : Nat} {f c : Addr} {fd : FuncData} {x qual : Str} {params : Arguments} {body : List Stmt} {scope : Scope} {dvs : List V} {kws : List (Str × V)} {N prm : List Str} {psp : PSp} {p : EX → PSx} {m n : Nat}
    (F : FunD K x qual params body scope dvs kws f fd) (hc : fd.code = .ref c) (S : FnScope N prm scope) (hN : N.length = m) (hn : prm.length = n) (hnm : n ≤ m) (hlen : ∀ as Qp Ep, psp as Qp Ep → as.length = n)
    (hb : ∀ (A : Around) (outer : List Env) (s : Shared) (H : Hp) (E : XK) (Bh Bt : Hp) (Ep : EX), Room k (A.deeper (PyProof.Rows.envOfC qual scope s.heap.objs.size f (.ref c))) → XOk K ⟨Bh, Bt, T⟩ Ep E → JSs (cxOf CX P w K mg base N qual scope f (.ref c) A outer s H E) ⟨Bh, Bt, T⟩ body (p Ep))
    (hp : ∀ as Qp Ep, psp as Qp Ep → p Ep (endsP as Qp) (as ++ List.replicate (m - n) .un)) : FnOk P w K mg base CX (k + 1) f fd prm (LSp K T psp) := by
  have ln : ∀ vs H Q E, LSp K T psp vs H Q E → vs.length = n := fun vs H Q E ⟨G, w, as, Qp, Ep, rep, _, h, _⟩ => by
    have := rep.len
    rw [List.length_map, hlen as Qp Ep h] at this
    exact this
  refine okC F hc S (fun vs H Q E h => by rw [hn]; exact ln vs H Q E h) fun A outer s H vs Q E hr h => ?_
  obtain ⟨Bh, Bt, Ep, hx, hl⟩ := fn_lift (N := N) (p := p) hN (fun as Qp Ep h => by rw [hlen as Qp Ep h]; exact hp as Qp Ep h) h (by rw [ln vs H Q E h]; exact hnm)
  exact ⟨_, hb A outer s H E Bh Bt Ep hr hx, hl⟩
end Pv
/-! sorted(range(n), key=lambda i: (x[i], i)), by value. -/
namespace Pv
open PySem PySem.Spec PyProof.Rows L2 LamX NdefX Wf SrtO Srt
end Pv
namespace Pv
open PySem PySem.Spec L2 Wf
/-! ### pairs_passed, is_forward, last_order -/
end Pv
/-! Normal words: they lead to their order, forward where the order is. -/
namespace Pv
open PySem PySem.Spec L2 Wf
theorem swp_map (kf : Nat → Nat) {xs : List Nat} {k : Nat} (h : k + 1 < xs.length) : swp (xs.map kf) k = (swp xs k).map kf := by
  have g : ∀ j, j < xs.length → (xs.map kf).getD j 0 = kf (xs.getD j 0) := fun j hj => by
    rw [List.getD, List.getD, List.getElem?_map, List.getElem?_eq_getElem hj]; rfl
  unfold swp
  rw [g _ h, g k (by omega), List.map_set, List.map_set]
theorem goW_map (kf : Nat → Nat) : ∀ {ws xs : List Nat}, (∀ w ∈ ws, w + 1 < xs.length) → goW (xs.map kf) ws = (goW xs ws).map kf
  | [], xs, _ => rfl
  | w :: ws, xs, h => by
    show goW (swp (xs.map kf) w) ws = (goW (swp xs w) ws).map kf
    rw [swp_map kf (h w List.mem_cons_self)]
    exact goW_map kf fun v hv => by rw [swp_len]; exact h v (List.mem_cons_of_mem _ hv)
/-! ### an order, walker by walker -/
def resN (os : List Nat) (m : Nat) : List Nat := os.filter fun i => decide (i < m)
structure Spl (os : List Nat) (m : Nat) (X Y : List Nat) : Prop where
  eq : os = X ++ m :: Y
  nX : m ∉ X
  nY : m ∉ Y
  ix : os.idxOf m = X.length
  af : ∀ i, i ≠ m → i ∈ os → (i ∈ Y ↔ X.length < os.idxOf i)
theorem Spl.res {os X Y : List Nat} {m : Nat} (s : Spl os m X Y) : resN os m = X.filter (fun i => decide (i < m)) ++ Y.filter fun i => decide (i < m) := by
  unfold resN
  rw [s.eq, List.filter_append, List.filter_cons, if_neg (by simp)]
/-! ### kinds -/
theorem kf_range (ks : List Nat) : (List.range ks.length).map (fun i => ks.getD i 0) = ks := by
  refine List.ext_getElem (by simp) fun i h1 h2 => ?_
  rw [List.getElem_map, List.getElem_range, List.getD, List.getElem?_eq_getElem h2]
  rfl
end Pv
namespace Pv
open PySem PySem.Spec L2 Wf SrtO
/-! ### last_order -/
end Pv
/-! law k02: what is due, by the law's own going through. -/
namespace Wf
open PySem PySem.Spec L2
section
variable {K : PySem.W.Frag} {C : Addr}
def GiveWN (K : PySem.W.Frag) (H : Hp) (Q : VK) (w : Str) (n : Int) : Prop := ∀ (q : Addr) (H' : Hp), Same H H' → H' q = some (.tup [.str w, .int n]) → Q (.ref q) H'
theorem GiveWN.go {H H1 : Hp} {Q : VK} {w : Str} {n : Int} (g : GiveWN K H Q w n) (s : Same H H1) : ∀ q, H1 q = none → Q (.ref q) (upd H1 q (.tup [.str w, .int n])) := fun q hq => g q _ (s.trans (same_new hq)) upd_same
end
end Wf
/-! law k02: due, told. -/
namespace Wf
open PySem PySem.Spec L2
end Wf
/-! law k02: things made otherwise. -/
namespace Wf
open PySem PySem.Spec L2
end Wf
namespace Wf
open PySem PySem.Spec L2 Pv
end Wf
namespace Pv
open PySem PySem.Spec L2 Wf
/-! ### things of any form -/
/-! ### is_tuple_of -/
end Pv
namespace Pv
open PySem PySem.Spec L2 Wf
/-! ### kinds_of -/
/-! ### look_order -/
/-! ### normal_word -/
end Pv
namespace Pv
open PySem PySem.Spec L2 Wf
/-! ### look_forward, of a forward order -/
/-! ### borne_in, last_row -/
end Pv
/-! Tuples whose objects are known, also within: written ones, parts, sums; loops over them. -/
namespace Pv
open PySem PySem.Spec L2 Wf
variable {B : Bas}
/-- what an item is -/
def itemR : PyData → R
  | .tuple es => .ow (.ptl es)
  | d => .im d
/-! ### targets -/
def gP (i : Nat) : PGx := fun d δ Q => setS i (itemR d) δ Q
/-! ### a written tuple of known things -/
end Pv
/-! Parts and sums of known tuples are known tuples. -/
namespace Pv
open PySem PySem.Spec L2 Wf
/-! ### a call that may raise, in a try, handed known tuples too -/
end Pv
namespace Pv
open PySem PySem.Spec L2 Wf
/-! ### numbers that are an order -/
/-! ### _law_due -/
/-! ### _law_told -/
/-! ### _law_changed -/
/-! ### k11 -/
end Pv
/-! [a, b, ..][i] of known things. -/
namespace Pv
open PySem PySem.Spec L2 Wf
end Pv
namespace Pv
open PySem PySem.Spec L2 Wf
end Pv
namespace Pv
open PySem PySem.Spec L2 LamX NdefX Wf
/-! ### orders led -/
abbrev gtB (x y : Int) : Bool := decide (y < x)
/-- the letter k of an order, if it may be -/
def letS (g : Int → Int → Bool) (ks o : List Nat) (k : Int) : Option Nat :=
  if 0 ≤ k ∧ k.toNat + 1 < o.length ∧ g (ks.getD (o.getD k.toNat 0) 0 : Nat) (ks.getD (o.getD (k.toNat + 1) 0) 0 : Nat) = true then some k.toNat else none
def ordG (g : Int → Int → Bool) (ks : List Nat) : Nat → List Nat → List Int → Nat ⊕ List Nat
  | _, o, [] => .inr o
  | n, o, k :: ws => match letS g ks o k with
    | some j => ordG g ks (n + 1) (swp o j) ws
    | none => .inl n
structure OkO (n : Nat) (o : List Nat) : Prop where
  len : o.length = n
  lt : ∀ x ∈ o, x < n
theorem OkO.rng (n : Nat) : OkO n (List.range n) := ⟨List.length_range, fun x hx => List.mem_range.mp hx⟩
theorem OkO.swp {n j : Nat} {o : List Nat} (h : OkO n o) (hj : j + 1 < o.length) : OkO n (swp o j) := ⟨by rw [swp_len]; exact h.len, fun x hx => h.lt x ((swp_perm hj).mem_iff.mp hx)⟩
theorem OkO.get {n j : Nat} {o : List Nat} (h : OkO n o) (hj : j < o.length) : o.getD j 0 < n := by
  rw [List.getD_eq_getElem?_getD, List.getElem?_eq_getElem hj]
  exact h.lt _ (List.getElem_mem hj)
def pb_order_led_1 (cNoPassing : Addr) (LL : LF → (Int → Int → Bool) → Prop) (Ep : EX) : PSx :=
    pSeq (pIf (pOr (pNot (pT (pCall psp_is_letter (pCons (pFz (pVar 5)) (pCons (pFz (pC (q1 fLen) (pCons (pVar 3) (pNil)))) (pNil))) noX))) (pNot (pT (pCallL 2 LL (pCons (pIx (pVar 0) (pIx (pVar 3) (pVar 5))) (pCons (pIx (pVar 0) (pIx (pVar 3) (pAdd (pVar 5) (pK (.int 1))))) (pNil))))))) (pRaise cNoPassing ["at"] (pCons (pFz (pVar 4)) (pNil)) Ep) (pNext))
    (pAsg (pTup (pCons (pIx (pVar 3) (pAdd (pVar 5) (pK (.int 1)))) (pCons (pIx (pVar 3) (pVar 5)) (pNil)))) (gT 2 (gsC (gSx (pVar 3) (pVar 5)) (gsC (gSx (pVar 3) (pAdd (pVar 5) (pK (.int 1)))) (gsN)))))
end Pv
/-! Words of runs. -/
namespace Pv
open PySem PySem.Spec L2 Wf
/-! ### as many letters as pairs -/
/-! ### falling kinds -/
theorem ordG_word {g : Int → Int → Bool} (hg : ∀ x y : Int, y < x → g x y = true) {ks : List Nat} : ∀ {ws : List Nat} {o : List Nat} {n : Nat}, wordOk false (o.map fun i => ks.getD i 0) ws → ordG g ks n o (iW ws) = .inr (goW o ws)
  | [], o, n, _ => rfl
  | k :: ws, o, n, h => by
    have h1 := h.1.1
    rw [List.length_map] at h1
    have ge : ∀ j, j < o.length → (o.map fun i => ks.getD i 0).getD j 0 = ks.getD (o.getD j 0) 0 := fun j hj => by
      rw [List.getD, List.getElem?_map, List.getElem?_eq_getElem hj]
      show ks.getD o[j] 0 = _
      have e : o.getD j 0 = o[j] := by rw [List.getD, List.getElem?_eq_getElem hj]; rfl
      rw [e]
    have c : letS g ks o (k : Int) = some k := by
      have h2 := h.1.2
      rw [ge _ h1, ge k (by omega)] at h2
      rcases h2 with h2 | h2
      · unfold letS
        rw [if_pos]
        · rw [Int.toNat_natCast]
        · rw [Int.toNat_natCast]
          exact ⟨by omega, h1, hg _ _ (by omega)⟩
      · exact absurd h2.1 (by decide)
    have h3 := h.2
    rw [swp_map _ h1] at h3
    have ih := ordG_word hg (n := n + 1) h3
    show (match letS g ks o (k : Int) with | some j => ordG g ks (n + 1) (swp o j) (iW ws) | none => .inl n) = _
    rw [c]
    exact ih
end Pv
namespace Pv
open PySem PySem.Spec L2 Wf
/-! ### the order behind a forward word is forward -/
/-! ### the first place of one who has passed wrongly -/
/-! ### look_forward -/
end Pv
namespace Pv
/-! Roads: each passing is of neighbours; the word, and the order behind it. -/
/-- o: an order of n walkers in which j stands behind i, i < j, just where D i j -/
structure InvO (n : Nat) (o : List Nat) (D : Nat → Nat → Prop) : Prop where
  pm : o.Perm (List.range n)
  iv : ∀ a b, a < b → b < n → (o.idxOf b < o.idxOf a ↔ D a b)
theorem InvO.nd {n : Nat} {o : List Nat} {D : Nat → Nat → Prop} (h : InvO n o D) : o.Nodup := h.pm.nodup_iff.mpr List.nodup_range
/-! ### letters of passings -/
/-! ### one list alone -/
end Pv
namespace Pv
/-! Roads: letters by counting; what is done by a beat; who stands where then. -/
end Pv
namespace Pv
/-! Roads: the list of all passings, made by putting each where it is due. -/
section
variable {n : Nat} {k : Nat → Nat} {p s : Nat → Int}
instance soonDec (k : Nat → Nat) (p s : Nat → Int) (e f : Ev) : Decidable (soon k p s e f) := by
  unfold soon soonK; infer_instance
end
end Pv
/-! sorted(list of tuples of d ints), any ints, any number of them. -/
namespace LexS
open PySem PySem.Spec PyProof.Rows HT
theorem lex_asym : ∀ x y : List Int, lexLt x y = true → lexLt y x = false
  | [], [], h => by cases h
  | [], _ :: _, _ => rfl
  | _ :: _, [], h => by cases h
  | x :: xs, y :: ys, h => by
    rw [lexLt_cons] at h ⊢
    by_cases e : x = y
    · subst e
      rw [if_pos rfl] at h ⊢
      exact lex_asym xs ys h
    · rw [if_neg e] at h
      rw [if_neg (fun z => e z.symm)]
      have := of_decide_eq_true h
      exact decide_eq_false (by omega)
theorem lex_tr : ∀ x y z : List Int, lexLt y x = false → lexLt z y = false → lexLt z x = false
  | [], [], [], _, _ => rfl
  | [], [], _ :: _, _, _ => rfl
  | [], _ :: _, [], _, h => by cases h
  | [], _ :: _, _ :: _, _, _ => rfl
  | _ :: _, [], _, h, _ => by cases h
  | _ :: _, _ :: _, [], _, h => by cases h
  | x :: xs, y :: ys, z :: zs, h1, h2 => by
    rw [lexLt_cons] at h1 h2 ⊢
    by_cases e1 : y = x
    · subst e1
      rw [if_pos rfl] at h1
      by_cases e2 : z = y
      · rw [if_pos e2] at h2 ⊢
        exact lex_tr xs ys zs h1 h2
      · rw [if_neg e2] at h2 ⊢
        exact h2
    · rw [if_neg e1] at h1
      have a1 := of_decide_eq_false h1
      by_cases e2 : z = y
      · subst e2
        rw [if_neg e1]
        exact h1
      · rw [if_neg e2] at h2
        have a2 := of_decide_eq_false h2
        rw [if_neg (by omega)]
        exact decide_eq_false (by omega)
def ltI (h : Heap) (v u : Value) : Bool := lexLt (TS.intsOf h v) (TS.intsOf h u)
theorem swo_lex (h : Heap) : SrtO.Swo (ltI h) := ⟨fun x y => lex_asym _ _, fun x y z => lex_tr _ _ _⟩
section
variable {prog : Program} {w : World} {A : Around} {E : Value → Shared → Prop} {s : Shared} {Q : Bool → Shared → Prop}
theorem lex_any {b : Bool} {xs ys : List Value} {ns ms : List Int} (i : Nat) (hx : IntsAre xs ns) (hy : IntsAre ys ms) (hl : ns.length = ms.length)
    (h : Q (lexLt ns ms) s) : PySem.W.KatLex prog w A b false Q (xs.zip ys) i s := by
  induction hx generalizing ys ms i with
  | nil =>
    cases hy with
    | nil => exact PySem.W.kat_nil h
    | cons q u hy => simp at hl
  | @cons p t xs ns hx ih =>
    cases hy with
    | nil => simp at hl
    | @cons q u ys ms hy =>
      have hl' : ns.length = ms.length := by simpa using hl
      show PySem.W.KatLex prog w A b false Q ((Value.int p t, Value.int q u) :: xs.zip ys) i s
      refine PySem.W.kat_cons (wpAny_eqBool_int ?_)
      rw [lexLt_cons] at h
      by_cases e : p = q
      · subst e
        rw [beq_self_eq_true]
        rw [if_pos rfl] at h
        refine PySem.W.kat_yes ?_
        first
          | exact ih (i + 1) hy hl' h
          | exact ih _ _ (i + 1) hy hl' h
      · rw [show (p == q) = false from beq_eq_false_iff_ne.mpr e]
        rw [if_neg e] at h
        exact PySem.W.kat_no (TS.oneLt_ints _ h)
/-- tuples of d ints each -/
def TupsD (h : Heap) (d : Nat) (vs : List Value) : Prop := ∀ v, v ∈ vs → ∃ ns, TS.TupInts h v ns ∧ ns.length = d
theorem firstsD {h : Heap} {d : Nat} (hd : 1 ≤ d) : ∀ vs : List Value, TupsD h d vs → ∃ fs, PySem.W.KatTups h vs fs ∧ fs.length = vs.length ∧ ∀ f, f ∈ fs → ∃ n t, f = Value.int n t
  | [], _ => ⟨[], PySem.W.KatTups.nil, rfl, fun f hf => by simp at hf⟩
  | v :: vs, x => by
    obtain ⟨fs, k, hl, hi⟩ := firstsD hd vs fun u hu => x u (List.mem_cons_of_mem _ hu)
    obtain ⟨ns, ⟨a, xs, rfl, ⟨o, ho, hc, n, hdt⟩, i⟩, hn⟩ := x v (List.mem_cons_self ..)
    obtain ⟨y, ys, e⟩ : ∃ y ys, xs.toList = y :: ys := by
      cases q : xs.toList with
      | nil =>
        rw [q] at i
        have l := i.length
        rw [List.length_nil, hn] at l
        omega
      | cons y ys => exact ⟨y, ys, rfl⟩
    obtain ⟨m, t, hy⟩ := i.all y (by rw [e]; exact List.mem_cons_self ..)
    refine ⟨y :: fs, PySem.W.KatTups.cons ho hc hdt ?_ k, by simp [hl], ?_⟩
    · have z := congrArg (fun l : List Value => l[0]?) e
      simpa using z
    · intro f hf
      rcases List.mem_cons.mp hf with rfl | hf
      · exact ⟨m, t, hy⟩
      · exact hi f hf
theorem sortableD {h0 : Heap} {a : Addr} {vs : List Value} {d : Nat} (hd : 1 ≤ d) (h2 : 2 ≤ vs.length) (x0 : TupsD h0 d vs) (k0 : ∀ b o, h0.get? b = some o → o.cls = .type "tuple" → b ≠ a ∧ s.heap.get? b = some o) : SrtO.SortableO prog w A s a vs (ltI h0) := by
  intro h' kp
  have x : TupsD h' d vs := fun v hv => by
    obtain ⟨ns, t, r⟩ := x0 v hv
    exact ⟨ns, t.keeps (fun b o hb hc => kp b o (k0 b o hb hc).1 (k0 b o hb hc).2), r⟩
  obtain ⟨fs, k, hl, hi⟩ := firstsD hd vs x
  refine ⟨tuples' (Value.type "int" != Value.type "tuple"), fun Q E hq => ?_, ?_⟩
  · refine PySem.W.kat_kind (T := Value.type "int") (s := { s with heap := h' }) k (by omega) (fun f hf => ?_) rfl hq
    obtain ⟨n, t, rfl⟩ := hi f hf
    exact PySem.W.Looks.of_pure rfl
  · intro p q hp hq
    obtain ⟨ns, tp0, lp⟩ := x0 _ hp
    obtain ⟨ms, tq0, lq⟩ := x0 _ hq
    have e0 : SrtO.lt2 (ltI h0) p q = lexLt ns ms := by
      show lexLt (TS.intsOf h0 p.1) (TS.intsOf h0 q.1) = _
      rw [tp0.ints, tq0.ints]
    rw [e0]
    obtain ⟨a1, xs, e1, ⟨o, ho, hc, n, hdt⟩, i⟩ := tp0.keeps (h' := h') (fun b o hb hc => kp b o (k0 b o hb hc).1 (k0 b o hb hc).2)
    obtain ⟨a2, ys, e2, ⟨o', ho', hc', n', hdt'⟩, i'⟩ := tq0.keeps (h' := h') (fun b o hb hc => kp b o (k0 b o hb hc).1 (k0 b o hb hc).2)
    rw [e1, e2]
    refine PySem.W.kat_lt (s := { s with heap := h' }) ho hdt ho' hdt' ?_
    have sz : decide (xs.size < ys.size) = false := by
      have l1 := i.length
      have l2 := i'.length
      rw [Array.length_toList] at l1 l2
      exact decide_eq_false (by omega)
    rw [sz]
    exact lex_any 0 i i' (by omega) ⟨rfl, rfl⟩
end
end LexS
namespace L2
open PySem PySem.Spec PyProof.Rows
end L2
namespace Pv
open PySem PySem.Spec L2 Wf
end Pv
namespace Pv
open PySem PySem.Spec L2 Wf
/-! Roads: what passings does. -/
/-! ### common_divisor -/
-- DEF common_divisor N ['one', 'other'] calls [] takes []
/-! ### common_multiple -/
-- DEF common_multiple N ['numbers', 'multiple', 'number'] calls ['common_divisor'] takes []
/-! ### moment_of -/
-- DEF moment_of N ['upper', 'lower', 'divisor'] calls ['common_divisor'] takes []
/-! ### in_told_order -/
-- DEF in_told_order N ['kinds', 'meetings', 'parts', 'turns', 'way', 'gap', 'i', 'j', 'when', 'less_u', 'less_v'] calls ['common_multiple', 'moment_of'] takes []
/-! ### passings -/
-- DEF passings N ['book', 'kinds', 'spots', 'paces', 'many', 'meetings', 'i', 'j'] calls ['in_told_order'] takes []
abbrev kf (ks : List Nat) : Nat → Nat := fun i => ks.getD i 0
abbrev pf (ps : List Int) (ks : List Nat) : Nat → Int := fun i => ps.getD (ks.getD i 0) 0
abbrev sf (ss : List Int) : Nat → Int := fun i => ss.getD i 0
structure RdOk (m : Int) (ps : List Int) (ks : List Nat) (ss : List Int) : Prop where
  pac : PacesOk m ps
  m5 : m ≤ 5
  kl : ∀ k ∈ ks, (k : Int) < m
  n10 : ks.length ≤ 10
  sl : ss.length = ks.length
  up : ss.Pairwise (· < ·)
  lo : ∀ x ∈ ss, -(2 ^ 62) ≤ x ∧ x < 2 ^ 62
theorem getDm {α : Type} {l : List α} {i : Nat} {d : α} (h : i < l.length) : l.getD i d ∈ l := by
  rw [List.getD_eq_getElem?_getD, List.getElem?_eq_getElem h]
  exact List.getElem_mem h
theorem RdOk.kp {m : Int} {ps ss : List Int} {ks : List Nat} (h : RdOk m ps ks ss) {i : Nat} (hi : i < ks.length) : ks.getD i 0 < ps.length := by
  have := h.kl _ (getDm (d := 0) hi)
  have := h.pac.len
  omega
end Pv
/-! A name of the module that stands for a tuple of numbers. -/
namespace Pv
open PySem PySem.Spec L2 Wf
end Pv
/-! Truth of data: in tests, in or; t > u of tuples of numbers; x -= e. -/
namespace Pv
open PySem PySem.Spec L2 Wf
/-! ### t > u -/
end Pv
namespace Pv
open PySem PySem.Spec L2 Wf
/-! ### the last row -/
-- DEF _law_due N ['_law_book_here', '_law_row_here', '_law_word', '_law_m', '_law_passers', '_law_walker', '_law_step'] calls ['_law_led'] takes []
-- DEF law N ['_law_script', '_law_deal_here', '_law_book_here', '_law_turn', '_law_row_here', '_law_found', '_law_falls', '_law_kept', '_law_due_here', '_law_k'] calls ['_law_deal', '_law_book', '_law_draw', '_law_row', '_law_due', 'last_row', '_law_alike'] takes []
/-! ### kinds of the last row -/
end Pv
/-! Comprehensions with any number of fors: a clause's turn over a body. -/
namespace Wf
open PySem PySem.Spec L2 PyProof.Rows
end Wf
/-! A clause over a body is a body. -/
namespace Wf
open PySem PySem.Spec L2 PyProof.Rows
abbrev TB := L2.St → Hp → (Hp → Prop) → Prop
end Wf
/-! The first for of a comprehension over any body. -/
namespace Wf
open PySem PySem.Spec L2 PyProof.Rows
end Wf
/-! Comprehensions with three fors. -/
namespace Wf
open PySem PySem.Spec L2 PyProof.Rows
end Wf
/-! Comprehensions with any number of fors, by value: bodies. -/
namespace Pv
open PySem PySem.Spec L2 Wf
end Pv
namespace Pv
open PySem PySem.Spec L2 Wf
/-! ### threes -/
abbrev N3 := Nat × Nat × Nat
def d3 (t : N3) : PyData := dK [(t.1 : Int), (t.2.1 : Int), (t.2.2 : Int)]
def F2 (a b : Nat) (c : Nat) : List N3 := (List.range c).map fun w => (a, b, w)
end Pv
namespace Pv
open PySem PySem.Spec L2 Wf
/-! ### judge_book -/
-- DEF judge_book N ['book', 'kind_threes', 'threes', 'kinds', 'paces', 'sorts', 'tables', 'burdens', 'rear_first', 'fore_first'] calls ['falling_threes', 'burden_threes', 'both_ways'] takes []
end Pv
namespace Pv
open PySem PySem.Spec L2 Wf
/-! ### _law_first_bad: its turn -/
def bN (s n : Nat) : N3 := (n / s / s, n / s % s, n % s)
-- DEF _law_first_bad N ['_law_book_here', '_law_u', '_law_sorts', '_law_many', '_law_v', '_law_w', '_law_n', '_law_walkers', '_law_behind', '_law_borne'] calls ['_law_led'] takes []
end Pv
namespace Pv
open PySem PySem.Spec L2 Wf
/-! ### _law_first_bad -/
end Pv
/-! Good tables: both ways alike. -/
namespace Wf
open PySem PySem.Spec L2
abbrev PF := Int → Int → Int × Int
/-- both ways of three, with f for the first two, g for the outer two, h for the last two -/
def YB (f g h : PF) (a b c : Int) : Prop :=
  (h (f a b).1 (g (f a b).2 c).1).1 = (g a (h b c).1).1 ∧ (h (f a b).1 (g (f a b).2 c).1).2 = (f (g a (h b c).1).2 (h b c).2).1 ∧ (g (f a b).2 c).2 = (f (g a (h b c).1).2 (h b c).2).2
def InR (s : Int) (f : PF) : Prop := ∀ a b, 0 ≤ a → a < s → 0 ≤ b → b < s → InP s (f a b)
def EqR (s : Int) (f g : PF) : Prop := ∀ a b, 0 ≤ a → a < s → 0 ≤ b → b < s → f a b = g a b
theorem YB.congr {s : Int} {f g h f' g' h' : PF} {a b c : Int} (ef : EqR s f f') (eg : EqR s g g') (eh : EqR s h h') (rf : InR s f') (rg : InR s g') (rh : InR s h') (a0 : 0 ≤ a) (a1 : a < s) (b0 : 0 ≤ b) (b1 : b < s) (c0 : 0 ≤ c) (c1 : c < s) (y : YB f' g' h' a b c) : YB f g h a b c := by
  have p := rf a b a0 a1 b0 b1
  have q := rg _ c p.2.2.1 p.2.2.2 c0 c1
  have x := rh b c b0 b1 c0 c1
  have z := rg a _ a0 a1 x.1 x.2.1
  unfold YB at y ⊢
  rw [ef a b a0 a1 b0 b1, eh b c b0 b1 c0 c1, eg _ _ p.2.2.1 p.2.2.2 c0 c1, eg _ _ a0 a1 x.1 x.2.1, eh _ _ p.1 p.2.1 q.1 q.2.1, ef _ _ z.2.2.1 z.2.2.2 x.2.2.1 x.2.2.2]
  exact y
theorem YB.same (f s : Int) (s1 s2 s3 : Int × Int) (a b c : Int) (f0 : 0 ≤ f) (f4 : f ≤ 4) : YB (pairF f s s1) (pairF f s s2) (pairF f s s3) a b c := by
  have : f = 0 ∨ f = 1 ∨ f = 2 ∨ f = 3 ∨ f = 4 := by omega
  rcases this with rfl | rfl | rfl | rfl | rfl
  · exact ⟨rfl, rfl, rfl⟩
  · exact ⟨rfl, rfl, rfl⟩
  · simp only [YB, pairF, show ¬ ((2 : Int) = 0) by decide, show ¬ ((2 : Int) = 1) by decide, if_false, if_true]
    refine ⟨?_, ?_, ?_⟩ <;> (repeat' split) <;> omega
  · simp only [YB, pairF, show ¬ ((3 : Int) = 0) by decide, show ¬ ((3 : Int) = 1) by decide, show ¬ ((3 : Int) = 2) by decide, if_false, if_true]
    refine ⟨trivial, trivial, ?_⟩
    have e1 : (2 * c - (2 * b - a) % s) % s = (2 * c - (2 * b - a)) % s := by rw [Int.sub_emod, Int.emod_emod, ← Int.sub_emod]
    have e2 : (2 * ((2 * c - b) % s) - (2 * c - a) % s) % s = (2 * (2 * c - b) - (2 * c - a)) % s := by rw [Int.sub_emod, Int.emod_emod, Int.mul_emod, Int.emod_emod, ← Int.mul_emod, ← Int.sub_emod]
    rw [e1, e2]
    congr 1
    omega
  · simp only [YB, pairF, show ¬ ((4 : Int) = 0) by decide, show ¬ ((4 : Int) = 1) by decide, show ¬ ((4 : Int) = 2) by decide, show ¬ ((4 : Int) = 3) by decide, if_false, if_true]
    have e : ∀ x y z : Int, ((x + y) % s + z) % s = ((x + z) % s + y) % s := fun x y z => by rw [Int.emod_add_emod, Int.emod_add_emod]; congr 1; omega
    exact ⟨e _ _ _, e _ _ _, e _ _ _⟩
theorem YB.one {s : Int} {k : PF} {s1 s2 s3 : Int × Int} (a b c : Int) : YB k (pairF 0 s s2) (pairF 0 s s3) a b c ∧ YB (pairF 0 s s1) k (pairF 0 s s3) a b c ∧ YB (pairF 0 s s1) (pairF 0 s s2) k a b c := ⟨⟨rfl, rfl, rfl⟩, ⟨rfl, rfl, rfl⟩, ⟨rfl, rfl, rfl⟩⟩
/-- other names -/
theorem YB.name {n : Int → Int} {f g h f' g' h' : PF} {s a b c : Int} (rf : InR s f) (rg : InR s g) (rh : InR s h) (ef : ∀ a b, 0 ≤ a → a < s → 0 ≤ b → b < s → f' (n a) (n b) = (n (f a b).1, n (f a b).2)) (eg : ∀ a b, 0 ≤ a → a < s → 0 ≤ b → b < s → g' (n a) (n b) = (n (g a b).1, n (g a b).2)) (eh : ∀ a b, 0 ≤ a → a < s → 0 ≤ b → b < s → h' (n a) (n b) = (n (h a b).1, n (h a b).2))
    (a0 : 0 ≤ a) (a1 : a < s) (b0 : 0 ≤ b) (b1 : b < s) (c0 : 0 ≤ c) (c1 : c < s) (y : YB f g h a b c) : YB f' g' h' (n a) (n b) (n c) := by
  have p := rf a b a0 a1 b0 b1
  have q := rg _ c p.2.2.1 p.2.2.2 c0 c1
  have x := rh b c b0 b1 c0 c1
  have z := rg a _ a0 a1 x.1 x.2.1
  unfold YB at y ⊢
  rw [ef a b a0 a1 b0 b1, eh b c b0 b1 c0 c1]
  dsimp only
  rw [eg _ _ p.2.2.1 p.2.2.2 c0 c1, eg _ _ a0 a1 x.1 x.2.1]
  dsimp only
  rw [eh _ _ p.1 p.2.1 q.1 q.2.1, ef _ _ z.2.2.1 z.2.2.2 x.2.2.1 x.2.2.2]
  dsimp only
  rw [y.1, y.2.1, y.2.2]
  exact ⟨rfl, rfl, rfl⟩
end Wf
namespace Pv
open PySem PySem.Spec L2 Wf
/-! ### k18 -/
-- DEF law N ['_law_script', '_law_turn', '_law_deal_here', '_law_some', '_law_book_here', '_law_form', '_law_due', '_law_many', '_law_most'] calls ['_law_deal', '_law_draw', '_law_book', '_law_first_bad', '_law_alike', 'judge_book'] takes []
end Pv
/-! Good books: all passings lead to one last row. -/
namespace Pv
open PySem PySem.Spec L2 Wf
/-! ### a measure -/
/-! ### no passing more -/
def NoDesc (r : List Wk) : Prop := ∀ k, k + 1 < r.length → ¬ (wk r (k + 1)).1 < (wk r k).1
structure Max (B : Book) (r : List Wk) (ws : List Nat) : Prop where
  fw : fwdW B r ws
  nd : NoDesc (ledN B r ws)
theorem Max.cons {B : Book} {r : List Wk} {k : Nat} {ws : List Nat} (h1 : k + 1 < r.length) (h2 : (wk r (k + 1)).1 < (wk r k).1) (h : Max B (passR B r k) ws) : Max B r (k :: ws) := ⟨⟨⟨h1, h2⟩, h.fw⟩, h.nd⟩
end Pv
namespace Pv
open PySem PySem.Spec L2 Wf
/-! Roads: by beats, and at last. -/
/-! ### is_done_by -/
-- DEF is_done_by N ['moment', 'beat', 'upper', 'lower'] calls [] takes []
/-! ### word_by -/
-- DEF word_by N ['book', 'kinds', 'spots', 'beat', 'order', 'word', 'moment', 'i', 'j', 'k'] calls ['passings', 'is_done_by'] takes []
/-! ### row_by -/
-- DEF row_by N ['book', 'row', 'spots', 'beat'] calls ['led_by', 'word_by', 'kinds_of'] takes ['cNoPassing']
/-! ### settled_at -/
-- DEF settled_at N ['book', 'kinds', 'spots', 'found', 'upper', 'lower'] calls ['passings'] takes []
/-! ### row_at_last -/
-- DEF row_at_last N ['book', 'row', 'spots'] calls ['row_by', 'settled_at', 'kinds_of'] takes []
end Pv
namespace Pv
open PySem PySem.Spec L2 Wf
/-! Roads: orders and spots by beats, and the law's words and orders by beats. -/
/-! ### order_by -/
-- DEF order_by N ['book', 'kinds', 'spots', 'beat'] calls ['order_behind', 'word_by'] takes ['cNoPassing']
/-! ### spots_by -/
-- DEF spots_by N ['book', 'kinds', 'spots', 'beat', 'paces', 'order', 'i'] calls ['order_by'] takes []
theorem RdOk.pin {m : Int} {ps ss : List Int} {ks : List Nat} (ok : RdOk m ps ks ss) {i : Nat} (hi : i < ks.length) : -1000 ≤ pf ps ks i ∧ pf ps ks i ≤ 1000 := ok.pac.lo _ (getDm (d := 0) (ok.kp hi))
/-! ### _law_word_by -/
-- DEF _law_word_by N ['_law_found', '_law_hour', '_law_done', '_law_word', '_law_n', '_law_ahead', '_law_i', '_law_j', '_law_upper', '_law_lower', '_law_a', '_law_b'] calls [] takes []
/-! ### _law_order_by -/
-- DEF _law_order_by N ['_law_book_here', '_law_kinds_here', '_law_spots_here', '_law_hour', '_law_some', '_law_walker', '_law_kind', '_law_spot'] calls [] takes []
end Pv
namespace Pv
open PySem PySem.Spec L2 LamX NdefX Wf
/-! order_led, order_behind, order_by: the order as a known tuple (made from L09a and Rd7) -/
def ordQP (C : Addr) (Q : QE) (Ep : EX) (ss : List Sl) : Nat ⊕ List Nat → Prop
  | .inr o => Q (.ow (.ptl (dN o))) ss
  | .inl n => Ep C [("at", nD n)]
def psp_order_ledP (cNoPassing : Addr) (LL : LF → (Int → Int → Bool) → Prop) : PSp := fun as Q Ep => ∃ (ks : List Nat) (ws : List Int) (F : LF) (g : Int → Int → Bool), as = [.im (.tuple (dN ks)), .im (dK ws), .ow true (.lam F)] ∧ LL F g ∧ ks.length ≤ 1000 ∧ ordQP cNoPassing Q Ep [.un, .un, .ow true (.lam F)] (ordG g ks 0 (List.range ks.length) ws)
def pr_order_ledP_1 : PSx :=
    pRet (pC qPtl (pCons (pVar 3) (pNil)))
def pr_order_ledP_2 (cNoPassing : Addr) (LL : LF → (Int → Int → Bool) → Prop) (Ep : EX) : PSx :=
    pSeq (pFor [4, 5] (iEn (pCons (pVar 1) (pNil))) (gT 2 (gsC (gN 4) (gsC (gN 5) (gsN)))) (pb_order_led_1 cNoPassing LL Ep))
    (pr_order_ledP_1)
def p_order_ledP (cNoPassing : Addr) (LL : LF → (Int → Int → Bool) → Prop) (Ep : EX) : PSx :=
    pSeq (pSet 3 (pLstRg (pRg1 (pC (q1 fLen) (pCons (pVar 0) (pNil))))))
    (pr_order_ledP_2 cNoPassing LL Ep)
theorem hp_order_ledP (LL : LF → (Int → Int → Bool) → Prop) (cNoPassing : Addr) (as : List Sl) (Qp : QE) (Ep : EX) (h : psp_order_ledP cNoPassing LL as Qp Ep) : p_order_ledP cNoPassing LL Ep (endsP as Qp) (as ++ List.replicate 3 .un) := by
  obtain ⟨ks, ws, F, g, rfl, hL, hn, q⟩ := h
  have z24 : (10000 : Nat) < sizeLine := by decide
  have el : (((dN ks).length : Nat) : Int) = (ks.length : Int) := by rw [dN_len]
  refine ⟨_, rfl, ⟨by omega, by omega, by omega⟩, _, _, rfl, ?_⟩
  rw [el, rgD_dN]
  show pr_order_ledP_2 _ _ _ _ [.im (.tuple (dN ks)), .im (dK ws), .ow true (.lam F), .ow false (.lst (dN (List.range ks.length))), .un, .un]
  refine ⟨_, _, _, rfl, rfl, ?_⟩
  refine ⟨fun i δ => ∃ o, OkO ks.length o ∧ ordG g ks 0 (List.range ks.length) ws = ordG g ks i o (ws.drop i) ∧ δ = [.im (.tuple (dN ks)), .im (dK ws), .ow true (.lam F), .ow false (.lst (dN o)), .un, .un], ⟨_, .rng _, rfl, rfl⟩, ?_, ?_⟩
  · rintro i d δ hd ⟨o, ok, he, rfl⟩
    rw [enD_get, List.getElem?_map] at hd
    obtain ⟨d0, h0, rfl⟩ := Option.map_eq_some_iff.mp hd
    obtain ⟨k, hk, rfl⟩ := Option.map_eq_some_iff.mp h0
    have hi := (List.getElem?_eq_some_iff.mp hk).1
    have ed : ws.drop i = k :: ws.drop (i + 1) := by
      rw [List.drop_eq_getElem_cons hi, (List.getElem?_eq_some_iff.mp hk).2]
    rw [ed] at he
    refine ⟨rfl, rfl, ?_⟩
    have e0 : (.int ((0 + i : Nat) : Int) : PyData) = nD i := by rw [Nat.zero_add]
    show pb_order_led_1 _ _ _ _ [.im (.tuple (dN ks)), .im (dK ws), .ow true (.lam F), .ow false (.lst (dN o)), .im (.int ((0 + i : Nat) : Int)), .im (.int k)]
    rw [e0]
    have bad : letS g ks o k = none → pRaise cNoPassing ["at"] (pCons (pFz (pVar 4)) (pNil)) Ep (endsP [] Qp) [.im (.tuple (dN ks)), .im (dK ws), .ow true (.lam F), .ow false (.lst (dN o)), .im (nD i), .im (.int k)] := fun c => by
      rw [he] at q
      simp only [ordG, c] at q
      exact ⟨_, _, rfl, _, _, rfl, rfl, q⟩
    have eo : (((dN o).length : Nat) : Int) = (o.length : Int) := by rw [dN_len]
    refine ⟨_, _, rfl, _, _, rfl, _, rfl, List.nodup_nil, _, _, rfl, _, rfl, ?_⟩
    show if (!(decide (0 ≤ k) && decide (k ≤ (((dN o).length : Nat) : Int) - 2))) = true then _ else _
    rw [eo]
    by_cases c : 0 ≤ k ∧ k ≤ (o.length : Int) - 2
    · rw [if_neg (by simp [c.1, c.2])]
      obtain ⟨j, rfl⟩ := Int.eq_ofNat_of_zero_le c.1
      have ej : ((j : Int)).toNat = j := by simp
      have hj : j + 1 < o.length := by omega
      have e1 : ((j : Int) + 1) = ((j + 1 : Nat) : Int) := rfl
      have g1 : o.getD j 0 < ks.length := ok.get (by omega)
      have g2 : o.getD (j + 1) 0 < ks.length := ok.get hj
      refine ⟨true, F, g, rfl, hL, _, atI_of rfl (dN_get (getD_of (i := j) (by omega))), _, atI_of rfl (dN_get (getD_of g1)), _, atI_of e1 (dN_get (getD_of hj)), _, atI_of rfl (dN_get (getD_of g2)), true, _, _, rfl, rfl, _, rfl, ?_⟩
      show if (!g ((ks.getD (o.getD j 0) 0 : Nat) : Int) ((ks.getD (o.getD (j + 1) 0) 0 : Nat) : Int)) = true then _ else _
      cases cg : g ((ks.getD (o.getD j 0) 0 : Nat) : Int) ((ks.getD (o.getD (j + 1) 0) 0 : Nat) : Int) with
      | false => exact bad (by unfold letS; rw [ej, if_neg (by rw [cg]; simp)])
      | true =>
        have hl : letS g ks o (j : Int) = some j := by unfold letS; rw [ej, if_pos ⟨c.1, hj, cg⟩]
        refine ⟨_, atI_of e1 (dN_get (getD_of hj)), _, atI_of rfl (dN_get (getD_of (i := j) (by omega))), _, _, rfl, rfl, 3, (j : Int), false, _, j, rfl, rfl, rfl, by rw [dN_len]; exact ixN_nat (by omega), 3, ((j + 1 : Nat) : Int), false, _, j + 1, rfl, rfl, rfl, by rw [List.length_set, dN_len]; exact ixN_nat hj, rfl, swp o j, ok.swp hj, ?_, ?_⟩
        · rw [he]
          simp only [ordG, hl]
        · show [_, _, _, _, _, _] = _
          rw [dN_set, dN_set]
          rfl
    · rw [if_pos (by simp; omega)]
      exact bad (by unfold letS; rw [if_neg (by omega)])
  · rintro δ ⟨o, ok, he, rfl⟩
    rw [enD_len, List.length_map, List.drop_length] at he
    rw [he] at q
    exact ⟨_, rfl, flat_dN _, _, _, rfl, q⟩
def psp_order_behindP (cNoPassing : Addr) : PSp := fun as Q Ep => ∃ (ks : List Nat) (ws : List Int), as = [.im (.tuple (dN ks)), .im (dK ws)] ∧ ks.length ≤ 1000 ∧ ordQP cNoPassing Q Ep [.un, .un] (ordG gtB ks 0 (List.range ks.length) ws)
def p_lamledP (LL : LF → (Int → Int → Bool) → Prop) (q : Str) (prm : Arguments) (bd : Expr) (sc : Scope) (cNoPassing : Addr) (Ep : EX) : PSx :=
    pRet (pCall (psp_order_ledP cNoPassing LL) (pCons (pFz (pVar 0)) (pCons (pFz (pVar 1)) (pCons (pLam q prm bd sc) (pNil)))) Ep)
theorem hp_lamledP {LL : LF → (Int → Int → Bool) → Prop} {q : Str} {prm : Arguments} {bd : Expr} {sc : Scope} {g : Int → Int → Bool} {cNoPassing : Addr} {ks : List Nat} {ws : List Int} {Qp : QE} {Ep : EX} (hL : ∀ c, LL ⟨q, prm, bd, sc, c⟩ g) (hn : ks.length ≤ 1000) (h : ordQP cNoPassing Qp Ep [.un, .un] (ordG g ks 0 (List.range ks.length) ws)) :
    p_lamledP LL q prm bd sc cNoPassing Ep (endsP [.im (.tuple (dN ks)), .im (dK ws)] Qp) [.im (.tuple (dN ks)), .im (dK ws)] := by
  refine ⟨_, _, rfl, _, _, rfl, fun c => ⟨_, rfl, List.nodup_nil, ks, ws, _, g, rfl, hL c, hn, ?_⟩⟩
  revert h
  cases ordG g ks 0 (List.range ks.length) ws with
  | inr o => exact fun h => ⟨_, _, rfl, h⟩
  | inl n => exact fun h => h
theorem hp_order_behindP {LL : LF → (Int → Int → Bool) → Prop} {q : Str} {prm : Arguments} {bd : Expr} {sc : Scope} (hL : ∀ c, LL ⟨q, prm, bd, sc, c⟩ gtB) (cNoPassing : Addr) (as : List Sl) (Qp : QE) (Ep : EX) (h : psp_order_behindP cNoPassing as Qp Ep) : p_lamledP LL q prm bd sc cNoPassing Ep (endsP as Qp) (as ++ List.replicate 0 .un) := by
  obtain ⟨ks, ws, rfl, hn, h⟩ := h
  exact hp_lamledP hL hn h
end Pv
/-! sorted(list of tuples of d ints), of none each where there is but one. -/
namespace L2
open PySem PySem.Spec PyProof.Rows
section
variable {X : Cx}
def rSortZ (K : PySem.W.Frag) : List V → Hp → VK → Prop := fun vs H Q => ∃ (a : Addr) (xs : List V) (d : Nat), vs = [V.ref a] ∧ SqL K H a xs ∧ (1 ≤ d ∨ xs.length ≤ 1) ∧ (∀ x ∈ xs, ∃ ns, TupI K H x ns ∧ ns.length = d) ∧
  ∀ (ys : List V) (p : Addr), ys.Perm xs → ys.Pairwise (fun x y => ∀ n m, TupI K H x n → TupI K H y m → HT.lexLt m n = false) → H p = none → Q (.ref p) (upd H p (.lst ys))
theorem cr_sortZ : CallR X (.builtin "sorted") (rSortZ X.K) := by
  intro pins s σ H vs us Q I r h
  obtain ⟨a, xs, d, rfl, hs, hd, hx, q⟩ := h
  obtain ⟨its, rv, hl, hz⟩ := I.list hs
  rw [Vals.ref1 r]
  obtain ⟨e1, e2⟩ := bkV_refs rv fun x m => by
    obtain ⟨ns, ⟨t, e, _⟩, _⟩ := hx x m
    exact ⟨t, e⟩
  have tD : LexS.TupsD s.heap d its := fun v hv => by
    obtain ⟨t, rfl⟩ := e2 v hv
    have hm : V.ref t ∈ xs := by
      rw [e1]
      exact List.mem_map.mpr ⟨_, hv, rfl⟩
    obtain ⟨ns, ⟨t', e, ht⟩, hn⟩ := hx _ hm
    cases e
    exact ⟨ns, tupI_raw I ht, hn⟩
  refine SrtO.sorted_ord (LexS.swo_lex s.heap) hl.isList (by rw [← rv.length]; exact hz) (fun h2 h₁ a' ha' kp => LexS.sortableD (by rcases hd with z | z; exact z; have := rv.length; omega) h2 tD fun b o hb hc => kp b o hb) fun out h1 h2 => ?_
  obtain ⟨ep, he'⟩ := PyProof.Rows.sortedAll_at s.heap its out.toArray
  have h3 : ∀ u ∈ out, ∃ a, u = Value.ref a := fun u hu => e2 u (h2.perm.mem_iff.mp hu)
  have hp : (out.map bkV).Perm xs := by
    rw [e1]
    exact h2.perm.map bkV
  have hlen : (out.map bkV).length ≤ sizeLine := by
    rw [hp.length_eq]
    exact hz
  refine ⟨.ref _, upd H (s.heap.objs.size + 1) (.lst (out.map bkV)), I.laid (t' := s.toks) (fun _ _ => PyProof.Rows.sortedAll_old) (Nat.le_succ _) ⟨hlen, out, ep, bkV_vals h3, he'⟩, rfl, q _ _ hp ?_ (I.hok.fresh (Nat.le_succ _))⟩
  rw [List.pairwise_map]
  refine List.Pairwise.imp (fun {u v} huv n m hn hm => ?_) h1
  obtain ⟨t, et, ht⟩ := hn
  obtain ⟨t', et', ht'⟩ := hm
  have eu := bkV_ref et
  have ev := bkV_ref et'
  have i1 : TS.intsOf s.heap u = n := by
    rw [eu]
    exact (tupI_raw I ht).ints
  have i2 : TS.intsOf s.heap v = m := by
    rw [ev]
    exact (tupI_raw I ht').ints
  rw [← i1, ← i2]
  exact huv
end
end L2
namespace Pv
open PySem PySem.Spec L2 Wf
/-- sorted(list of tuples of d ints) -/
def fSortZ : PyData → (List PyData → Prop) → Prop := fun x k => ∃ (nss : List (List Int)) (d : Nat), x = .list (nss.map dK) ∧ (1 ≤ d ∨ nss.length ≤ 1) ∧ (∀ ns ∈ nss, ns.length = d) ∧ ∀ mss : List (List Int), mss.Perm nss → mss.Pairwise (fun n m => HT.lexLt m n = false) → k (mss.map dK)
theorem lc_sortZ {K : PySem.W.Frag} : LC K (q1L fSortZ) (rSortZ K) := by
  refine lc_own1 (fun G H v x Q s hv q => ?_) (fun x k k' hk q => ?_)
  · obtain ⟨nss, d, rfl, hd, hb, q⟩ := q
    obtain ⟨a, us, rfl, ha, hds⟩ := hv.seqL s
    refine ⟨a, us, d, rfl, SqL.of ha, hd.imp id (fun z => by have := dqAll_len hds; rw [List.length_map] at this; omega), fun x hx => ?_, fun ys p hp ho hn => ?_⟩
    · obtain ⟨ns, hm, t⟩ := dq_each s hds x hx
      exact ⟨ns, t, hb ns hm⟩
    · obtain ⟨mss, p1, p2⟩ := dq_perm hp hds
      exact q mss p1 (dq_pairs s p2 ho) ys p p2 hn
  · obtain ⟨nss, d, e, hd, hb, q⟩ := q
    exact ⟨nss, d, e, hd, hb, fun mss p1 p2 => hk _ (q mss p1 p2)⟩
end Pv
/-! Rows ahead, led back. -/
namespace Pv
open PySem PySem.Spec L2 Wf
/-! ### kinds_at_turns -/
-- DEF kinds_at_turns N ['kinds', 'word', 'led', 'turns', 'k', 'u', 'v'] calls [] takes []
def pr_kturns_1 : PSx :=
    pAsg (pTup (pCons (pVar 6) (pCons (pVar 5) (pNil)))) (gT 2 (gsC (gSx (pVar 2) (pVar 4)) (gsC (gSx (pVar 2) (pAdd (pVar 4) (pK (.int 1)))) (gsN))))
def pr_kturns_2 : PSx :=
    pSeq (pExpr (pMt mAppend (pVar 3) (pCons (pTup (pCons (pVar 4) (pCons (pVar 5) (pCons (pVar 6) (pNil))))) (pNil))))
    (pr_kturns_1)
def pb_kturns_3 : PSx :=
    pSeq (pPar [5, 6] (pCons (pIx (pVar 2) (pVar 4)) (pCons (pIx (pVar 2) (pAdd (pVar 4) (pK (.int 1)))) (pNil))))
    (pr_kturns_2)
def pr_kturns_3 : PSx :=
    pRet (pVar 3)
def pr_kturns_4 : PSx :=
    pSeq (pFor [4, 5, 6] (iSeq (pVar 1)) (gN 4) (pb_kturns_3))
    (pr_kturns_3)
def pr_kturns_5 : PSx :=
    pSeq (pSet 3 (pLst (pNil)))
    (pr_kturns_4)
def p_kturns : PSx :=
    pSeq (pSet 2 (pC (q1L fListOf) (pCons (pVar 0) (pNil))))
    (pr_kturns_5)
abbrev T3 := Nat × Nat × Nat
def turnsN : List Nat → List Nat → List T3
  | _, [] => []
  | st, k :: ws => (k, st.getD k 0, st.getD (k + 1) 0) :: turnsN (swp st k) ws
def d3N (t : T3) : PyData := .tuple [nD t.1, nD t.2.1, nD t.2.2]
def psp_kturns : PSp := fun as Q _ => ∃ ks ws : List Nat, as = [.im (.tuple (dN ks)), .im (.tuple (dN ws))] ∧ ks.length ≤ 1000 ∧ ws.length ≤ 1000 ∧ (∀ w ∈ ws, w + 1 < ks.length) ∧ Q (.ow (.lst ((turnsN ks ws).map d3N))) [.un, .un]
theorem hp_kturns (as : List Sl) (Qp : QE) (Ep : EX) (h : psp_kturns as Qp Ep) : p_kturns (endsP as Qp) (as ++ List.replicate 5 .un) := by
  obtain ⟨ks, ws, rfl, kl, wl, hw, q⟩ := h
  have z24 : (10000 : Nat) < sizeLine := by decide
  refine ⟨_, _, rfl, ?_⟩
  show pr_kturns_5 _ [.im (.tuple (dN ks)), .im (.tuple (dN ws)), .ow false (.lst (dN ks)), .un, .un, .un, .un]
  refine ⟨_, _, rfl, ?_⟩
  show pr_kturns_4 _ [.im (.tuple (dN ks)), .im (.tuple (dN ws)), .ow false (.lst (dN ks)), .ow false (.lst []), .un, .un, .un]
  refine ⟨_, _, _, rfl, rfl, ?_⟩
  refine for_dN ws (fun i δ => ∃ (st : List Nat) (T : List T3), st.length = ks.length ∧ turnsN ks ws = T ++ turnsN st (ws.drop i) ∧ T.length = i ∧ δ = [.im (.tuple (dN ks)), .im (.tuple (dN ws)), .ow false (.lst (dN st)), .ow false (.lst (T.map d3N)), .un, .un, .un]) ⟨ks, [], rfl, rfl, rfl, rfl⟩ ?_ ?_
  · rintro i k δ hk ⟨st, T, sl, eT, tl, rfl⟩
    have hi := (List.getElem?_eq_some_iff.mp hk).1
    have kn := hw k (List.mem_of_getElem? hk)
    have ek : ((k : Int) + 1) = ((k + 1 : Nat) : Int) := rfl
    rw [List.drop_eq_getElem_cons hi, (List.getElem?_eq_some_iff.mp hk).2] at eT
    have eT : turnsN ks ws = T ++ ((k, st.getD k 0, st.getD (k + 1) 0) :: turnsN (swp st k) (ws.drop (i + 1))) := eT
    refine ⟨_, atI_of rfl (dN_get (getD_of (i := k) (by omega))), _, atI_of ek (dN_get (getD_of (i := k + 1) (by omega))), _, _, rfl, ?_⟩
    show pr_kturns_2 _ [.im (.tuple (dN ks)), .im (.tuple (dN ws)), .ow false (.lst (dN st)), .ow false (.lst (T.map d3N)), .im (nD k), .im (nD (st.getD k 0)), .im (nD (st.getD (k + 1) 0))]
    refine ⟨_, _, _, rfl, rfl, _, _, _, _, rfl, rfl, ?_, ?_⟩
    · rw [List.length_map]
      exact szN (m := 10000) (by omega) (by decide)
    show pr_kturns_1 _ [.im (.tuple (dN ks)), .im (.tuple (dN ws)), .ow false (.lst (dN st)), .ow false (.lst (T.map d3N ++ [d3N (k, st.getD k 0, st.getD (k + 1) 0)])), .im (nD k), .im (nD (st.getD k 0)), .im (nD (st.getD (k + 1) 0))]
    refine ⟨_, _, rfl, rfl, 2, (k : Int), false, _, k, rfl, rfl, rfl, by rw [dN_len]; exact ixN_nat (by omega), 2, ((k + 1 : Nat) : Int), false, _, k + 1, rfl, rfl, rfl, by rw [List.length_set, dN_len]; exact ixN_nat (by omega), rfl, swp st k, T ++ [(k, st.getD k 0, st.getD (k + 1) 0)], by rw [swp_len]; exact sl, by rw [eT]; simp, by simp [tl], ?_⟩
    show [_, _, _, _, _, _, _] = _
    rw [dN_set, dN_set, List.map_append]
    rfl
  · rintro δ ⟨st, T, sl, eT, tl, rfl⟩
    rw [List.drop_length] at eT
    have eT : turnsN ks ws = T := by rw [eT]; exact List.append_nil T
    rw [eT] at q
    exact ⟨_, _, rfl, q⟩
/-! ### the rows of which a passing makes a row -/
structure BurOk (s : Int) (n : Nat) (bs : List Int) : Prop where
  len : bs.length = n
  inn : ∀ b ∈ bs, 0 ≤ b ∧ b < s
def stepA (B : Book) (t : T3) (bs : List Int) : List (List Int) :=
  (idxT (B.tab t.2.1 t.2.2) (bs.getD t.1 0, bs.getD (t.1 + 1) 0) (B.tab t.2.1 t.2.2).length).map fun n : Nat => bs.take t.1 ++ [(n : Int) / B.s, (n : Int) % B.s] ++ bs.drop (t.1 + 2)
def aheadL (B : Book) : List T3 → List (List Int) → List (List Int)
  | [], F => F
  | t :: ts, F => aheadL B ts (F.flatMap (stepA B t))
structure TOk (m : Int) (n : Nat) (t : T3) : Prop where
  h1 : t.1 + 1 < n
  h2 : t.2.2 < t.2.1
  h3 : (t.2.1 : Int) < m
theorem TOk.pl {m s : Int} {n : Nat} {t : T3} (h : TOk m n t) (s1 : 1 ≤ s) : Pl m s t.2.1 t.2.2 0 0 := by
  obtain ⟨h1, h2, h3⟩ := h
  exact ⟨by omega, h3, by omega, by omega, by omega, by omega, by omega, by omega⟩
theorem turns_ok {m : Int} : ∀ {ws ks : List Nat}, (∀ k ∈ ks, (k : Int) < m) → wordOk false ks ws → ∀ t ∈ turnsN ks ws, TOk m ks.length t
  | [], _, _, _ => nofun
  | k :: ws, ks, hk, h => by
    obtain ⟨⟨h1, h2⟩, h3⟩ := h
    have h2 : ks.getD (k + 1) 0 < ks.getD k 0 := by
      rcases h2 with h2 | h2
      · exact h2
      · exact absurd h2.1 (by decide)
    intro t ht
    rcases List.mem_cons.mp ht with rfl | ht
    · exact ⟨h1, h2, hk _ (List.mem_of_getElem? (getD_of (by omega)))⟩
    · have := turns_ok (ws := ws) (ks := swp ks k) (fun x hx => hk x ((swp_perm h1).mem_iff.mp hx)) h3 t ht
      rw [swp_len] at this
      exact this
theorem step_ok {B : Book} {m : Int} {n : Nat} {t : T3} {bs : List Int} (bk : BookOk m B) (ht : TOk m n t) (hb : BurOk B.s n bs) : ∀ y ∈ stepA B t bs, BurOk B.s n y := by
  intro y hy
  unfold stepA at hy
  obtain ⟨a, ha, rfl⟩ := List.mem_map.mp hy
  have h1 := (mem_idxT.mp ha).1
  have pl := ht.pl bk.s1
  have tm := tab_in bk pl
  obtain ⟨s, es, hl, s1⟩ := tab_sq bk tm
  rw [hl] at h1
  have a1 : a / s < s := Nat.div_lt_of_lt_mul h1
  have a2 : a % s < s := Nat.mod_lt _ (by omega)
  have i1 : (a : Int) / B.s = ((a / s : Nat) : Int) := by rw [es, ← Int.natCast_ediv]
  have i2 : (a : Int) % B.s = ((a % s : Nat) : Int) := by rw [es, ← Int.natCast_emod]
  have := hb.len
  have := ht.h1
  refine ⟨by simp only [List.length_append, List.length_take, List.length_drop, List.length_cons, List.length_nil]; omega, fun b hb' => ?_⟩
  rcases List.mem_append.mp hb' with h | h
  · rcases List.mem_append.mp h with h | h
    · exact hb.inn b (List.mem_of_mem_take h)
    · simp only [List.mem_cons, List.not_mem_nil, or_false] at h
      rcases h with rfl | rfl
      · rw [i1]; exact ⟨Int.natCast_nonneg _, by rw [es]; exact Int.ofNat_lt.mpr a1⟩
      · rw [i2]; exact ⟨Int.natCast_nonneg _, by rw [es]; exact Int.ofNat_lt.mpr a2⟩
  · exact hb.inn b (List.mem_of_mem_drop h)
theorem step_len {B : Book} {m : Int} {n : Nat} {t : T3} {bs : List Int} (bk : BookOk m B) (ht : TOk m n t) : (stepA B t bs).length ≤ 36 := by
  have tm := tab_in bk (ht.pl bk.s1)
  have t36 := tab_few bk tm
  unfold stepA
  rw [List.length_map]
  unfold idxT
  have := List.length_filter_le (fun n => decide ((B.tab t.2.1 t.2.2).getD n (0, 0) = (bs.getD t.1 0, bs.getD (t.1 + 1) 0))) (List.range (B.tab t.2.1 t.2.2).length)
  rw [List.length_range] at this
  omega
/-- what the passing makes -/
def mkT (B : Book) (t : T3) (y : List Int) : List Int := y.take t.1 ++ [(B.at t.2.1 t.2.2 (y.getD t.1 0) (y.getD (t.1 + 1) 0)).1, (B.at t.2.1 t.2.2 (y.getD t.1 0) (y.getD (t.1 + 1) 0)).2] ++ y.drop (t.1 + 2)
theorem mid_get (A D : List Int) (x y : Int) : (A ++ [x, y] ++ D).getD A.length 0 = x ∧ (A ++ [x, y] ++ D).getD (A.length + 1) 0 = y ∧ (A ++ [x, y] ++ D).take A.length = A ∧ (A ++ [x, y] ++ D).drop (A.length + 2) = D := by
  refine ⟨?_, ?_, ?_, ?_⟩
  · simp [List.getD_eq_getElem?_getD, List.getElem?_append]
  · simp [List.getD_eq_getElem?_getD, List.getElem?_append]
  · simp
  · rw [List.append_assoc, List.drop_append]
    simp
theorem split_mid {bs : List Int} {k : Nat} (h : k + 1 < bs.length) : bs = bs.take k ++ [bs.getD k 0, bs.getD (k + 1) 0] ++ bs.drop (k + 2) := by
  have e1 : bs.getD k 0 = bs[k]'(by omega) := by rw [List.getD_eq_getElem?_getD, List.getElem?_eq_getElem (by omega)]; rfl
  have e2 : bs.getD (k + 1) 0 = bs[k + 1]'h := by rw [List.getD_eq_getElem?_getD, List.getElem?_eq_getElem h]; rfl
  rw [e1, e2, List.append_assoc]
  show bs = bs.take k ++ (bs[k] :: bs[k + 1] :: bs.drop (k + 2))
  rw [← List.drop_eq_getElem_cons, ← List.drop_eq_getElem_cons, List.take_append_drop]
theorem step_mk {B : Book} {m : Int} {n : Nat} {t : T3} {bs : List Int} (bk : BookOk m B) (ht : TOk m n t) (hb : BurOk B.s n bs) : ∀ y ∈ stepA B t bs, mkT B t y = bs := by
  intro y hy
  unfold stepA at hy
  obtain ⟨a, ha, rfl⟩ := List.mem_map.mp hy
  have h := mem_idxT.mp ha
  have pl := ht.pl bk.s1
  have tm := tab_in bk pl
  obtain ⟨s, es, hl, s1⟩ := tab_sq bk tm
  have kl : (bs.take t.1).length = t.1 := by rw [List.length_take]; have := ht.h1; have := hb.len; omega
  have mg := mid_get (bs.take t.1) (bs.drop (t.1 + 2)) ((a : Int) / B.s) ((a : Int) % B.s)
  rw [kl] at mg
  unfold mkT
  rw [mg.1, mg.2.1, mg.2.2.1, mg.2.2.2]
  have ea : B.at t.2.1 t.2.2 ((a : Int) / B.s) ((a : Int) % B.s) = (bs.getD t.1 0, bs.getD (t.1 + 1) 0) := by
    have e : (a : Int) / B.s * B.s + (a : Int) % B.s = (a : Int) := by
      have := Int.mul_ediv_add_emod (a : Int) B.s
      rw [Int.mul_comm] at this
      exact this
    unfold Book.at
    rw [e, Int.toNat_natCast]
    exact h.2
  rw [ea]
  exact (split_mid (by have := ht.h1; have := hb.len; omega)).symm
theorem step_nd {B : Book} {m : Int} {n : Nat} {t : T3} {bs : List Int} (bk : BookOk m B) (ht : TOk m n t) (hb : BurOk B.s n bs) : (stepA B t bs).Nodup := by
  have kl : (bs.take t.1).length = t.1 := by rw [List.length_take]; have := ht.h1; have := hb.len; omega
  unfold stepA
  refine List.pairwise_map.mpr ?_
  refine List.Pairwise.imp ?_ (List.Pairwise.filter _ (List.nodup_range (n := (B.tab t.2.1 t.2.2).length)))
  intro a b hab e
  have m1 := mid_get (bs.take t.1) (bs.drop (t.1 + 2)) ((a : Int) / B.s) ((a : Int) % B.s)
  have m2 := mid_get (bs.take t.1) (bs.drop (t.1 + 2)) ((b : Int) / B.s) ((b : Int) % B.s)
  rw [kl] at m1 m2
  have e1 : (a : Int) / B.s = (b : Int) / B.s := by rw [← m1.1, ← m2.1, e]
  have e2 : (a : Int) % B.s = (b : Int) % B.s := by rw [← m1.2.1, ← m2.2.1, e]
  have x1 := Int.mul_ediv_add_emod (a : Int) B.s
  have x2 := Int.mul_ediv_add_emod (b : Int) B.s
  rw [e1, e2] at x1
  exact hab (by omega)
structure FOk (s : Int) (n : Nat) (F : List (List Int)) : Prop where
  ok : ∀ x ∈ F, BurOk s n x
  nd : F.Nodup
theorem FOk.step {B : Book} {m : Int} {n : Nat} {t : T3} {F : List (List Int)} (bk : BookOk m B) (ht : TOk m n t) (h : FOk B.s n F) : FOk B.s n (F.flatMap (stepA B t)) := by
  refine ⟨fun y hy => ?_, ?_⟩
  · obtain ⟨x, hx, hy⟩ := List.mem_flatMap.mp hy
    exact step_ok bk ht (h.ok x hx) y hy
  · refine List.pairwise_flatMap.mpr ⟨fun x hx => step_nd bk ht (h.ok x hx), h.nd.imp_of_mem fun {x z} hx hz ne y hy y2 hy2 e => ne ?_⟩
    rw [← step_mk bk ht (h.ok x hx) y hy, ← step_mk bk ht (h.ok z hz) y2 hy2, e]
theorem ahead_ok {B : Book} {m : Int} {n : Nat} (bk : BookOk m B) : ∀ {ts : List T3} {F : List (List Int)}, (∀ t ∈ ts, TOk m n t) → FOk B.s n F → FOk B.s n (aheadL B ts F)
  | [], _, _, h => h
  | t :: ts, F, ht, h => ahead_ok bk (ts := ts) (fun x hx => ht x (List.mem_cons_of_mem _ hx)) (h.step bk (ht t List.mem_cons_self))
/-- all rows of burdens -/
def allB (s : Nat) : Nat → List (List Int)
  | 0 => [[]]
  | n + 1 => (List.range s).flatMap fun (b : Nat) => (allB s n).map fun x => ((b : Nat) : Int) :: x
theorem allB_len (s : Nat) : ∀ n, (allB s n).length = s ^ n
  | 0 => rfl
  | n + 1 => by
    unfold allB
    rw [List.length_flatMap]
    simp only [List.length_map, allB_len s n]
    rw [List.map_const', List.sum_replicate_nat, List.length_range, Nat.pow_succ, Nat.mul_comm]
theorem allB_mem {s : Nat} : ∀ {n : Nat} {x : List Int}, BurOk (s : Int) n x → x ∈ allB s n
  | 0, x, h => by
    have := List.length_eq_zero_iff.mp h.len
    subst this
    exact List.mem_singleton.mpr rfl
  | n + 1, [], h => by have := h.len; simp at this
  | n + 1, b :: x, h => by
    have hb := h.inn b List.mem_cons_self
    obtain ⟨c, rfl⟩ := Int.eq_ofNat_of_zero_le hb.1
    exact List.mem_flatMap.mpr ⟨c, List.mem_range.mpr (by omega), List.mem_map.mpr ⟨x, allB_mem ⟨by have := h.len; simpa using this, fun y hy => h.inn y (List.mem_cons_of_mem _ hy)⟩, rfl⟩⟩
theorem FOk.few {s n : Nat} {F : List (List Int)} (h : FOk (s : Int) n F) (hf : s ^ n ≤ 256) : F.length ≤ 256 := by
  have := nodup_le h.nd fun x hx => allB_mem (h.ok x hx)
  rw [allB_len] at this
  omega
/-! ### rows_ahead -/
-- DEF rows_ahead N ['book', 'kinds', 'word', 'burdens', 'at_turns', 'found', 'k', 'u', 'v', 'borne', 'before'] calls ['order_behind', 'kinds_at_turns', 'burdens_before'] takes ['cNoPassing', 'Ep']
def pe_rahead_1 : PX :=
    pAdd (pAdd (pSlice (pVar 9) (oNone) (oSome (pVar 6))) (pVar 10)) (pSlice (pVar 9) (oSome (pAdd (pVar 6) (pK (.int 2)))) (oNone))
def pb_rahead_2 : PSx :=
    pSet 5 (pComp2 (iSeq (pVar 5)) (gN 9) (pYes) (iSeq (pCall psp_burdens_before (pCons (pFz (pVar 0)) (pCons (pFz (pVar 7)) (pCons (pFz (pVar 8)) (pCons (pFz (pSlice (pVar 9) (oSome (pVar 6)) (oSome (pAdd (pVar 6) (pK (.int 2)))))) (pNil))))) noX)) (gN 10) (pYes) (pe_rahead_1) [9, 10] [10])
def pr_rahead_1 : PSx :=
    pRet (pC (q1 fTupleOf) (pCons (pC (q1L fSortZ) (pCons (pVar 5) (pNil))) (pNil)))
def pr_rahead_2 : PSx :=
    pSeq (pFor [6, 7, 8] (iRevL (pCons (pVar 4) (pNil))) (gT 3 (gsC (gN 6) (gsC (gN 7) (gsC (gN 8) (gsN))))) (pb_rahead_2))
    (pr_rahead_1)
def pr_rahead_3 : PSx :=
    pSeq (pSet 5 (pLst (pCons (pVar 3) (pNil))))
    (pr_rahead_2)
def pr_rahead_4 : PSx :=
    pSeq (pSet 4 (pCall psp_kturns (pCons (pFz (pVar 1)) (pCons (pFz (pVar 2)) (pNil))) noX))
    (pr_rahead_3)
def p_rahead (cNoPassing : Addr) (Ep : EX) : PSx :=
    pSeq (pExpr (pCall (psp_order_behindP cNoPassing) (pCons (pFz (pVar 1)) (pCons (pFz (pVar 2)) (pNil))) Ep))
    (pr_rahead_4)
def psp_rahead (cNoPassing : Addr) : PSp := fun as Q Ep => ∃ (B : Book) (m : Int) (s : Nat) (ks : List Nat) (ws : List Int) (bs : List Int), as = [.im (dB B), .im (.tuple (dN ks)), .im (dK ws), .im (dK bs)] ∧ ks.length ≤ 10 ∧
  ((∃ us : List Nat, ws = iW us ∧ BookOk m B ∧ B.s = (s : Int) ∧ s ^ ks.length ≤ 256 ∧ (∀ k ∈ ks, (k : Int) < m) ∧ us.length ≤ 1000 ∧ BurOk B.s ks.length bs ∧ wordOk false ks us ∧ ∀ mss : List (List Int), mss.Perm (aheadL B (turnsN ks us).reverse [bs]) → mss.Pairwise (fun n m => HT.lexLt m n = false) → Q (.im (.tuple (mss.map dK))) [.un, .un, .un, .un]) ∨
   (∃ n, ordG gtB ks 0 (List.range ks.length) ws = .inl n ∧ Ep cNoPassing [("at", nD n)]))
abbrev stRa (B : Book) (ks us : List Nat) (bs : List Int) (s4 s5 s6 s7 s8 s9 s10 : Sl) : List Sl := [.im (dB B), .im (.tuple (dN ks)), .im (.tuple (dN us)), .im (dK bs), s4, s5, s6, s7, s8, s9, s10]
theorem hp_rahead_body {B : Book} {m : Int} {s : Nat} {ks us : List Nat} {bs : List Int} {s4 : Sl} {F : List (List Int)} {t : T3} {E : PEn} (bk : BookOk m B) (es : B.s = (s : Int)) (hf : s ^ ks.length ≤ 256) (k10 : ks.length ≤ 10) (ht : TOk m ks.length t) (hF : FOk B.s ks.length F)
    (q : E.nx (stRa B ks us bs s4 (.ow false (.lst ((F.flatMap (stepA B t)).map dK))) (.im (nD t.1)) (.im (nD t.2.1)) (.im (nD t.2.2)) .un .un)) :
    pb_rahead_2 E (stRa B ks us bs s4 (.ow false (.lst (F.map dK))) (.im (nD t.1)) (.im (nD t.2.1)) (.im (nD t.2.2)) .un .un) := by
  have z24 : (10000 : Nat) < sizeLine := by decide
  have Fl : F.length ≤ 256 := by rw [es] at hF; exact hF.few hf
  have pl := ht.pl bk.s1
  have few : ∀ i, ((F.take i).flatMap (stepA B t)).length ≤ 256 * 36 := fun i => by
    have : ∀ L : List (List Int), (L.flatMap (stepA B t)).length ≤ L.length * 36 := fun L => by
      induction L with
      | nil => simp
      | cons x L ih =>
        rw [List.flatMap_cons, List.length_append, List.length_cons]
        have := step_len (bs := x) bk ht
        omega
    have := this (F.take i)
    rw [List.length_take] at this
    omega
  refine ⟨_, _, F.map dK, rfl, rfl, noPin2 (fun o => nofun) (fun o => nofun), fun i acc δ => acc = ((F.take i).flatMap (stepA B t)).map dK ∧ δ = stRa B ks us bs s4 (.im (.list (F.map dK))) (.im (nD t.1)) (.im (nD t.2.1)) (.im (nD t.2.2)) .un .un, ⟨rfl, rfl⟩, ?_, ?_⟩
  · rintro i d acc δ hd ⟨rfl, rfl⟩
    rw [List.getElem?_map] at hd
    obtain ⟨x, hx, rfl⟩ := Option.map_eq_some_iff.mp hd
    have xok := hF.ok x (List.mem_of_getElem? hx)
    have xl := xok.len
    have h1 := ht.h1
    have xd : (x.map PyData.int).length = x.length := List.length_map _
    have ec : cutD (x.map PyData.int) (some ((t.1 : Nat) : Int)) (some ((t.1 : Int) + 2)) = [.int (x.getD t.1 0), .int (x.getD (t.1 + 1) 0)] := by
      rw [show ((t.1 : Int) + 2) = ((t.1 + 2 : Nat) : Int) from rfl, cut_mid, show t.1 + 2 - t.1 = 2 by omega]
      have e1 : x.drop t.1 = x.getD t.1 0 :: x.getD (t.1 + 1) 0 :: x.drop (t.1 + 2) := by
        have := split_mid (bs := x) (k := t.1) (by omega)
        have kl : (x.take t.1).length = t.1 := by rw [List.length_take]; omega
        conv => lhs; rw [this]
        rw [List.append_assoc, List.drop_append, kl, Nat.sub_self, List.drop_of_length_le (by omega)]
        rfl
      rw [← List.map_drop, e1]
      rfl
    have ep : (PyData.tuple (cutD (x.map PyData.int) (some ((t.1 : Nat) : Int)) (some ((t.1 : Int) + 2)))) = dP (x.getD t.1 0, x.getD (t.1 + 1) 0) := by rw [ec]; rfl
    refine ⟨_, _, rfl, _, _, rfl, _, _, rfl, _, rfl, _, rfl, _, _, rfl, _, rfl, List.nodup_nil, B, m, (t.2.1 : Int), (t.2.2 : Int), (x.getD t.1 0, x.getD (t.1 + 1) 0), ?_, bk, pl, ?_⟩
    · rw [← ep]
    have few1 := few i
    have few2 := few (i + 1)
    have en : (F.take (i + 1)).flatMap (stepA B t) = (F.take i).flatMap (stepA B t) ++ stepA B t x := by
      rw [List.take_add_one, hx, Option.toList_some, List.flatMap_append]
      simp
    generalize hI : idxT (B.tab (t.2.1 : Int) (t.2.2 : Int)) (x.getD t.1 0, x.getD (t.1 + 1) 0) (B.tab (t.2.1 : Int) (t.2.2 : Int)).length = I
    have eI : stepA B t x = I.map fun n : Nat => x.take t.1 ++ [(n : Int) / B.s, (n : Int) % B.s] ++ x.drop (t.1 + 2) := by
      unfold stepA
      rw [hI]
    rw [en, eI, List.length_append, List.length_map] at few2
    refine ⟨_, _, _, rfl, rfl, fun j acc δ => acc = ((F.take i).flatMap (stepA B t) ++ (I.take j).map fun n : Nat => x.take t.1 ++ [(n : Int) / B.s, (n : Int) % B.s] ++ x.drop (t.1 + 2)).map dK ∧ δ = stRa B ks us bs s4 (.im (.list (F.map dK))) (.im (nD t.1)) (.im (nD t.2.1)) (.im (nD t.2.2)) (.im (dK x)) .un, ⟨by rw [List.take_zero, List.map_nil, List.append_nil], rfl⟩, ?_, ?_⟩
    · rintro j d2 acc δ hd2 ⟨rfl, rfl⟩
      rw [List.getElem?_map] at hd2
      obtain ⟨a, ha, rfl⟩ := Option.map_eq_some_iff.mp hd2
      have il := (List.getElem?_eq_some_iff.mp ha).1
      have c1 : cutD (x.map PyData.int) none (some ((t.1 : Nat) : Int)) = (x.take t.1).map PyData.int := by rw [cut_take, List.map_take]
      have c2 : cutD (x.map PyData.int) (some ((t.1 : Int) + 2)) none = (x.drop (t.1 + 2)).map PyData.int := by
        rw [show ((t.1 : Int) + 2) = ((t.1 + 2 : Nat) : Int) from rfl, cut_drop, List.map_drop]
      refine ⟨_, rfl, ?_, _, rfl, ?_, _, _, rfl, ?_, ?_, rfl⟩
      · rw [c1, List.length_map, List.length_take]
        show _ + 2 ≤ sizeLine
        omega
      · rw [c1, c2, List.length_append, List.length_map, List.length_map, List.length_take, List.length_drop]
        show _ + 2 + _ ≤ sizeLine
        omega
      · rw [List.length_map, List.length_append, List.length_map, List.length_take]
        omega
      · rw [c1, c2, List.take_add_one, ha, Option.toList_some]
        have e1 : PyData.tuple ((x.take t.1).map PyData.int ++ [PyData.int ((a : Int) / B.s), .int ((a : Int) % B.s)] ++ (x.drop (t.1 + 2)).map PyData.int) = dK (x.take t.1 ++ [(a : Int) / B.s, (a : Int) % B.s] ++ x.drop (t.1 + 2)) := by
          show PyData.tuple _ = PyData.tuple _
          rw [List.map_append, List.map_append]
          rfl
        show _ ++ [PyData.tuple ((x.take t.1).map PyData.int ++ [PyData.int ((a : Int) / B.s), .int ((a : Int) % B.s)] ++ (x.drop (t.1 + 2)).map PyData.int)] = _
        rw [e1]
        simp only [List.map_append, List.map_cons, List.map_nil, List.append_assoc]
    · rintro acc δ ⟨rfl, rfl⟩
      rw [List.length_map, List.take_length]
      exact ⟨by rw [en, eI], rfl⟩
  · rintro acc δ ⟨rfl, rfl⟩
    rw [List.length_map, List.take_length]
    exact ⟨_, _, rfl, q⟩
theorem rev_d3N (L : List T3) : (L.map d3N).reverse = L.reverse.map d3N := List.map_reverse.symm
theorem hp_rahead (cNoPassing : Addr) (as : List Sl) (Qp : QE) (Ep : EX) (h : psp_rahead cNoPassing as Qp Ep) : p_rahead cNoPassing Ep (endsP as Qp) (as ++ List.replicate 7 .un) := by
  obtain ⟨B, m, s, ks, ws, bs, rfl, k10, h⟩ := h
  rcases h with ⟨us, rfl, bk, es, hf, hk, ul, bok, wo, q⟩ | ⟨n, ho, q⟩
  · have hw := wordOk_lt wo
    have og : ordG gtB ks 0 (List.range ks.length) (iW us) = .inr (goW (List.range ks.length) us) := ordG_word (fun x y h => by unfold gtB; exact decide_eq_true h) (by rw [kf_range]; exact wo)
    refine ⟨_, _, rfl, _, _, rfl, _, rfl, List.nodup_nil, ks, iW us, rfl, by omega, ?_⟩
    rw [og]
    show pr_rahead_4 _ [.im (dB B), .im (.tuple (dN ks)), .im (dK (iW us)), .im (dK bs), .un, .un, .un, .un, .un, .un, .un]
    rw [dK_iW]
    show pr_rahead_4 _ (stRa B ks us bs .un .un .un .un .un .un .un)
    refine ⟨_, _, rfl, _, _, rfl, _, rfl, List.nodup_nil, ks, us, rfl, by omega, ul, hw, _, _, rfl, ?_⟩
    have tok := turns_ok hk wo
    refine ⟨_, _, rfl, ?_⟩
    show pr_rahead_2 _ (stRa B ks us bs (.ow false (.lst ((turnsN ks us).map d3N))) (.ow false (.lst [dK bs])) .un .un .un .un .un)
    refine ⟨_, _, rfl, ?_⟩
    rw [rev_d3N]
    have tok : ∀ t ∈ (turnsN ks us).reverse, TOk m ks.length t := fun t ht => tok t (List.mem_reverse.mp ht)
    have F0 : FOk B.s ks.length [bs] := ⟨fun x hx => by rw [List.mem_singleton.mp hx]; exact bok, List.nodup_cons.mpr ⟨nofun, .nil⟩⟩
    have aok := ahead_ok bk tok F0
    generalize hT : (turnsN ks us).reverse = ts at *
    refine ⟨fun i δ => ∃ F, aheadL B ts [bs] = aheadL B (ts.drop i) F ∧ FOk B.s ks.length F ∧ δ = stRa B ks us bs (.im (.list ((turnsN ks us).map d3N))) (.ow false (.lst (F.map dK))) .un .un .un .un .un, ⟨[bs], rfl, F0, rfl⟩, ?_, ?_⟩
    · rintro i d δ hd ⟨F, eF, okF, rfl⟩
      rw [List.getElem?_map] at hd
      obtain ⟨t, ht, rfl⟩ := Option.map_eq_some_iff.mp hd
      have hi := (List.getElem?_eq_some_iff.mp ht).1
      have tt := tok t (List.mem_of_getElem? ht)
      rw [List.drop_eq_getElem_cons hi, (List.getElem?_eq_some_iff.mp ht).2] at eF
      refine ⟨rfl, rfl, ?_⟩
      exact hp_rahead_body bk es hf k10 tt okF ⟨_, eF, okF.step bk tt, rfl⟩
    · rintro δ ⟨F, eF, okF, rfl⟩
      rw [List.length_map, List.drop_length] at eF
      have eF : aheadL B ts [bs] = F := eF
      rw [eF] at q
      have Fl : F.length ≤ 256 := by
        rw [es] at okF
        exact okF.few hf
      refine ⟨F, ks.length, rfl, ?_, fun x hx => (okF.ok x hx).len, fun mss pm so => ⟨_, _, rfl, q mss pm so⟩⟩
      rcases Nat.eq_zero_or_pos ks.length with z | z
      · refine .inr ?_
        have := nodup_le okF.nd fun x hx => allB_mem (s := s) (n := ks.length) (by rw [← es]; exact okF.ok x hx)
        rw [allB_len, z, Nat.pow_zero] at this
        exact this
      · exact .inl z
  · refine ⟨_, _, rfl, _, _, rfl, _, rfl, List.nodup_nil, ks, ws, rfl, by omega, ?_⟩
    rw [ho]
    exact q
/-! ### led_back -/
-- DEF led_back N ['book', 'kinds', 'spots', 'burdens', 'beat'] calls ['rows_ahead', 'word_by'] takes ['cNoPassing']
end Pv
namespace Pv
open PySem PySem.Spec L2 Wf
/-! ### words and moves -/
def ab (x : Int) : Int := if x < 0 then -x else x
theorem z24 : (10000 : Nat) < sizeLine := by decide
/-! ### one move -/
/-! ### moves one behind the other -/
end Pv
namespace Pv
open PySem PySem.Spec L2 Wf
/-! ### _law_behind_move -/
end Pv
/-! Words worn down: moves, one by one. -/
namespace Pv
open PySem PySem.Spec L2 Wf
/-! ### runs -/
/-! ### a letter put in -/
def updC (c : Nat → Nat) (m v : Nat) : Nat → Nat := fun j => if j = m then v else c j
theorem upd_ne {c : Nat → Nat} {m v j : Nat} (h : j ≠ m) : updC c m v j = c j := by unfold updC; rw [if_neg h]
/-! ### a word worn down -/
def c0 : Nat → Nat := fun _ => 0
end Pv
/-! dicts whose keys are tuples of numbers or rows, whatever the keys' objects are: asked, written, listed -/
namespace Wf
open PySem PySem.Spec L2 PyProof.Rows
/-- v is an object that is this key -/
def KeyV (K : PySem.W.Frag) (H : Hp) : (r : Bool) → KyT r → V → Prop
  | false, l, v => ∃ b, v = .ref b ∧ SqT K H b (l.map V.int)
  | true, ks, v => ∃ b cs, v = .ref b ∧ SqT K H b (cs.map V.ref) ∧ Paired (fun (l : List Int) c => SqT K H c (l.map V.int)) ks cs
section
variable {X : Cx} {pins : List (Addr × Obj)} {σ : L2.St} {H : Hp} {s : Shared}
theorem KeyV.ref : ∀ {K : PySem.W.Frag} {r : Bool} {k : KyT r} {v : V}, KeyV K H r k v → ∃ b, v = .ref b
  | _, false, _, _, ⟨b, e, _⟩ => ⟨b, e⟩
  | _, true, _, _, ⟨b, _, e, _⟩ => ⟨b, e⟩
variable {A : Around} {E : Value → Shared → Prop}
end
/-- a dict's object may be a dict's in some heap -/
theorem heap_at (o : Obj) (ho : o.isFreed = false) : ∀ n : Nat, ∃ h : Heap, h.objs.size = n ∧ ∀ i < n, h.get? i = some o
  | 0 => ⟨{}, rfl, fun i h => absurd h (Nat.not_lt_zero i)⟩
  | n + 1 => by
    obtain ⟨h, hs, hh⟩ := heap_at o ho n
    refine ⟨h.push o, by rw [Heap.size_push, hs], fun i hi => ?_⟩
    by_cases e : i = n
    · subst e
      rw [← hs]
      exact Heap.get?_push_size _ ho
    · exact Heap.get?_push_of_some _ (hh i (by omega))
theorem valEx : ∀ v : V, ∃ u : Value, RelV v u
  | .non => ⟨_, rfl⟩
  | .bl _ => ⟨_, rfl⟩
  | .int i => ⟨.int i default, default, rfl⟩
  | .str x => ⟨.str x default, default, rfl⟩
  | .byt x => ⟨.bytes x default, default, rfl⟩
  | .flt x => ⟨.float x default, default, rfl⟩
  | .ref _ => ⟨_, rfl⟩
  | .ty _ => ⟨_, rfl⟩
theorem valsEx : ∀ us : List V, ∃ ws, Vals us ws
  | [] => ⟨[], .nil⟩
  | v :: us => by
    obtain ⟨u, h⟩ := valEx v
    obtain ⟨ws, hs⟩ := valsEx us
    exact ⟨u :: ws, .cons h hs⟩
theorem dct_own {a : Addr} {r : Bool} {ks : List (KyT r)} {bs : List Addr} {us : List V} {φ : Heap → Prop} (e : DctO a r ks bs us = .ext φ) : OwnD φ a := by
  unfold DctO at e
  cases e
  obtain ⟨ws, rv⟩ := valsEx us
  obtain ⟨h, hs, hh⟩ := heap_at { cls := .type "dict", data := .dict ((ks.zip (bs.zip ws)).map (entD r)).toArray } rfl (a + 1)
  exact ⟨h, ⟨ws, rv, _, _, _, hh a (Nat.lt_succ_self a), ⟨rfl, rfl, rfl⟩, rfl, by simp⟩, _, _, _, hh a (Nat.lt_succ_self a), rfl⟩
end Wf
/-! Dicts by tuples of numbers or by rows, by value, whatever objects the keys are. -/
namespace Pv
open PySem PySem.Spec L2 Wf
variable {B : Bas}
theorem NoX.dct {H : Hp} {a : Addr} {r : Bool} {ks : List (KyT r)} {bs : List Addr} {us : List V} (e : H a = some (DctO a r ks bs us)) : NoX H a := NoX.own (φ := _) e (dct_own rfl)
end Pv
/-! list.index of data. By value. -/
namespace Pv
open PySem PySem.Spec L2 Wf
end Pv
/-! x -= number; range(a, b, -1); list.count of a text; max(tuple, default=number). -/
namespace Pv
open PySem PySem.Spec L2 Wf
/-! ### list.count of data -/
end Pv
namespace L2
open PySem PySem.Spec PyProof.Rows
end L2
namespace Pv
open PySem PySem.Spec L2 Wf
end Pv
namespace Pv
open PySem PySem.Spec L2 Wf
end Pv
namespace Pv
open PySem PySem.Spec L2 Wf
/-! wear_down: its defs. -/
/-! ### start_of_run -/
-- DEF start_of_run N ['normal', 'end', 'start'] calls [] takes []
/-! ### moves_past -/
-- DEF moves_past N ['normal', 'start', 'end', 'letter', 'like', 'behind', 'ahead', 'i'] calls [] takes []
/-! ### moves_into -/
-- DEF moves_into N ['normal', 'letter', 'moves', 'end', 'start', 'least'] calls ['start_of_run', 'moves_past'] takes []
/-! ### moves by the code's own -/
/-! ### wear_down -/
-- DEF wear_down N ['word', 'normal', 'moves', 'letter', 'taken'] calls ['moves_into', 'word_moved'] takes ['cNoMove']
end Pv
namespace Pv
open PySem PySem.Spec L2 Wf
/-! Books whose threes all go both ways alike: all passings lead to one last row. Words as long as may be. -/
/-! ### inversions -/
/-! ### _law_word: as long as may be -/
end Pv
/-! Moves keep the order; words that pass each pair once. -/
namespace Pv
open PySem PySem.Spec L2 Wf
theorem swp_get {xs : List Nat} {k : Nat} (h : k + 1 < xs.length) (i : Nat) : (swp xs k).getD i 0 = if i = k then xs.getD (k + 1) 0 else if i = k + 1 then xs.getD k 0 else xs.getD i 0 := by
  unfold swp
  simp only [List.getD_eq_getElem?_getD, List.getElem?_set, List.length_set]
  by_cases h1 : i = k
  · subst h1
    rw [if_neg (by omega), if_pos rfl, if_pos rfl, if_pos (by omega)]
    rfl
  · by_cases h2 : i = k + 1
    · subst h2
      rw [if_pos rfl, if_neg h1, if_pos rfl, if_pos (by omega)]
      rfl
    · rw [if_neg (by omega), if_neg (by omega), if_neg h1, if_neg h2]
theorem goW_cons (xs : List Nat) (k : Nat) (ws : List Nat) : goW xs (k :: ws) = goW (swp xs k) ws := rfl
/-! ### a word worn down leads to the same order, and is its normal word -/
/-! ### words that pass no pair twice -/
end Pv
namespace Pv
open PySem PySem.Spec L2 LamX NdefX Wf
/-! ### errors of two classes told apart -/
def sb2At (C1 C2 : Addr) : Addr → Option Bool := fun C => if C = C1 then some true else if C = C2 then some false else none
theorem kitAny_mem {K : PySem.W.Frag} {t c : Value} : ∀ {os : List Value}, PySem.W.kitAny K t os = some false → c ∈ os → PySem.W.kitOne K t c = some false
  | [], _, h => nomatch h
  | o :: os, e, h => by
    unfold PySem.W.kitAny at e
    cases k : PySem.W.kitOne K t o with
    | none => rw [k] at e; cases e
    | some b =>
      rw [k] at e
      cases b with
      | true => cases e
      | false =>
        rcases List.mem_cons.mp h with rfl | z
        · exact k
        · exact kitAny_mem e z
theorem sb2_ok {K : PySem.W.Frag} {C1 C2 C0 : Addr} {o1 o2 : List Addr} (T1 : ToldG K C1 C0 o1) (T2 : ToldG K C2 C0 o2) (h : C1 ∈ o2) : ∀ C b, sb2At C1 C2 C = some b → IsC K C ∧ PySem.W.kitOne K (.ref C) (.ref C1) = some b := fun C b e => by
  unfold sb2At at e
  split at e
  · rename_i z; cases e; subst z; exact ⟨T1.is_, T1.one⟩
  · split at e
    · rename_i z; cases e; subst z
      exact ⟨T2.is_, kitAny_mem T2.two (List.mem_map.mpr ⟨_, h, rfl⟩)⟩
    · cases e
theorem told_ne {K : PySem.W.Frag} {C1 C2 C0 : Addr} {o1 o2 : List Addr} (T1 : ToldG K C1 C0 o1) (T2 : ToldG K C2 C0 o2) (h : C1 ∈ o2) : C1 ≠ C2 := fun z => by
  subst z
  have h1 := kitAny_mem T2.two (List.mem_map.mpr ⟨_, h, rfl⟩)
  rw [T2.one] at h1
  cases h1
theorem cat2_ok {K : PySem.W.Frag} {C1 C2 C0 : Addr} {o1 o2 : List Addr} (T1 : ToldG K C1 C0 o1) (T2 : ToldG K C2 C0 o2) : ∀ C, C = C1 ∨ C = C2 → PySem.W.exmOne K (.ref C) (.ref C0) = some true := fun C h => by
  rcases h with rfl | rfl
  · exact T1.ex
  · exact T2.ex
theorem sb2_1 (C1 C2 : Addr) : sb2At C1 C2 C1 = some true := if_pos rfl
theorem sb2_2 {C1 C2 : Addr} (h : C1 ≠ C2) : sb2At C1 C2 C2 = some false := by
  unfold sb2At
  rw [if_neg (fun z => h z.symm), if_pos rfl]
/-! ### letters that are none -/
def BadX (ks : List Nat) (x : Int) : Prop := ∀ k : Nat, x = (k : Int) → ¬ (k + 1 < ks.length ∧ ks.getD k 0 ≠ ks.getD (k + 1) 0)
def bad45 : List Nat → Nat → List Int → Option Nat
  | _, _, [] => none
  | ks, n, x :: ws => if 0 ≤ x ∧ x.toNat + 1 < ks.length ∧ ks.getD x.toNat 0 ≠ ks.getD (x.toNat + 1) 0 then bad45 (swp ks x.toNat) (n + 1) ws else some n
theorem bad45_ok : ∀ {us ks : List Nat} {n : Nat} (rest : List Int), wordOk true ks us → bad45 ks n (iW us ++ rest) = bad45 (goW ks us) (n + us.length) rest
  | [], _, _, _, _ => rfl
  | k :: us, ks, n, rest, h => by
    have h1 := h.1
    have c : 0 ≤ (k : Int) ∧ (k : Int).toNat + 1 < ks.length ∧ ks.getD (k : Int).toNat 0 ≠ ks.getD ((k : Int).toNat + 1) 0 := by
      rw [Int.toNat_natCast]
      refine ⟨by omega, h1.1, ?_⟩
      rcases h1.2 with z | z
      · omega
      · exact z.2
    have e : bad45 ks n ((k : Int) :: (iW us ++ rest)) = bad45 (swp ks k) (n + 1) (iW us ++ rest) := by
      conv => lhs; unfold bad45
      rw [if_pos c, Int.toNat_natCast]
    show bad45 ks n ((k : Int) :: (iW us ++ rest)) = _
    rw [e, bad45_ok rest h.2, List.length_cons, goW_cons, show n + 1 + us.length = n + (us.length + 1) by omega]
theorem bad45_bad {ks : List Nat} {n : Nat} {x : Int} {rest : List Int} (h : BadX ks x) : bad45 ks n (x :: rest) = some n := by
  unfold bad45
  rw [if_neg]
  intro ⟨h1, h2⟩
  obtain ⟨k, rfl⟩ := Int.eq_ofNat_of_zero_le h1
  exact h k rfl h2
theorem ordG_bad {ks : List Nat} {o : List Nat} {n : Nat} {x : Int} {rest : List Int} (h : ∀ k : Nat, x = (k : Int) → ¬ (k + 1 < o.length ∧ (o.map fun i => ks.getD i 0).getD (k + 1) 0 < (o.map fun i => ks.getD i 0).getD k 0)) : ordG gtB ks n o (x :: rest) = .inl n := by
  have ge : ∀ j, j < o.length → (o.map fun i => ks.getD i 0).getD j 0 = ks.getD (o.getD j 0) 0 := fun j hj => by
    rw [List.getD, List.getElem?_map, List.getElem?_eq_getElem hj]
    show ks.getD o[j] 0 = _
    have e : o.getD j 0 = o[j] := by rw [List.getD, List.getElem?_eq_getElem hj]; rfl
    rw [e]
  have c : letS gtB ks o x = none := by
    unfold letS
    rw [if_neg]
    intro ⟨h1, h2, h3⟩
    obtain ⟨k, rfl⟩ := Int.eq_ofNat_of_zero_le h1
    rw [Int.toNat_natCast] at h2 h3
    refine h k rfl ⟨h2, ?_⟩
    rw [ge _ h2, ge k (by omega)]
    have := of_decide_eq_true h3
    omega
  unfold ordG
  rw [c]
theorem ordG_go {ks : List Nat} : ∀ {us o : List Nat} {n : Nat} {rest : List Int}, wordOk false (o.map fun i => ks.getD i 0) us → ordG gtB ks n o (iW us ++ rest) = ordG gtB ks (n + us.length) (goW o us) rest
  | [], _, _, _, _ => rfl
  | k :: us, o, n, rest, h => by
    have h1 := h.1.1
    rw [List.length_map] at h1
    have ge : ∀ j, j < o.length → (o.map fun i => ks.getD i 0).getD j 0 = ks.getD (o.getD j 0) 0 := fun j hj => by
      rw [List.getD, List.getElem?_map, List.getElem?_eq_getElem hj]
      show ks.getD o[j] 0 = _
      have e : o.getD j 0 = o[j] := by rw [List.getD, List.getElem?_eq_getElem hj]; rfl
      rw [e]
    have c : letS gtB ks o (k : Int) = some k := by
      have h2 := h.1.2
      rw [ge _ h1, ge k (by omega)] at h2
      rcases h2 with h2 | h2
      · unfold letS
        rw [if_pos]
        · rw [Int.toNat_natCast]
        · rw [Int.toNat_natCast]
          exact ⟨by omega, h1, by unfold gtB; exact decide_eq_true (by omega)⟩
      · exact absurd h2.1 (by decide)
    have h3 := h.2
    rw [swp_map _ h1] at h3
    show (match letS gtB ks o (k : Int) with | some j => ordG gtB ks (n + 1) (swp o j) (iW us ++ rest) | none => .inl n) = _
    rw [c]
    show ordG gtB ks (n + 1) (swp o k) (iW us ++ rest) = _
    rw [ordG_go h3, List.length_cons, show n + 1 + us.length = n + (us.length + 1) by omega]
    rfl
theorem ord_bad {ks us : List Nat} {x : Int} {rest : List Int} (wo : wordOk false ks us) (h : ∀ k : Nat, x = (k : Int) → ¬ (k + 1 < ks.length ∧ (goW ks us).getD (k + 1) 0 < (goW ks us).getD k 0)) : ordG gtB ks 0 (List.range ks.length) (iW us ++ x :: rest) = .inl us.length := by
  have wl := wordOk_lt wo
  have wo2 : wordOk false ((List.range ks.length).map fun i => ks.getD i 0) us := by rw [kf_range]; exact wo
  have gm := goW_map (fun i => ks.getD i 0) (ws := us) (xs := List.range ks.length) (by rw [List.length_range]; exact wl)
  rw [kf_range] at gm
  rw [ordG_go wo2, ordG_bad]
  · rw [Nat.zero_add]
  · intro k e
    rw [← gm, goW_len, List.length_range]
    exact h k e
theorem badX_lt {ks : List Nat} {x : Int} (h : BadX ks x) : ∀ k : Nat, x = (k : Int) → ¬ (k + 1 < ks.length ∧ ks.getD (k + 1) 0 < ks.getD k 0) := fun k e z => h k e ⟨z.1, by omega⟩
/-- the last letter of a word onward may not be done again -/
theorem ord_again {ks us : List Nat} {k : Nat} {rest : List Int} (wo : wordOk false ks (us ++ [k])) : ordG gtB ks 0 (List.range ks.length) (iW (us ++ [k]) ++ (k : Int) :: rest) = .inl (us ++ [k]).length := by
  have sub : ∀ {us ks : List Nat}, wordOk false ks (us ++ [k]) → letOk false (goW ks us) k := fun {us} => by
    induction us with
    | nil => intro ks h; exact h.1
    | cons u us ih => intro ks h; exact ih h.2
  have l := sub wo
  refine ord_bad wo fun j e ⟨h1, h2⟩ => ?_
  have e : k = j := by omega
  subst e
  rw [goW_snoc, swp_get l.1, swp_get l.1, if_neg (by omega), if_pos rfl, if_pos rfl] at h2
  rcases l.2 with z | z
  · omega
  · exact absurd z.1 (by decide)
/-! ### led_freely -/
-- DEF led_freely N ['book', 'row', 'word', 'led', 'at', 'k'] calls ['look_back', 'is_letter', 'freely_passed'] takes ['cNoWay', 'cNoPassing', 'Ep']
def pr_led_freely45_1 : PSx :=
    pAsg (pCall psp_freely_passed (pCons (pFz (pVar 0)) (pCons (pFz (pIx (pVar 3) (pVar 5))) (pCons (pFz (pIx (pVar 3) (pAdd (pVar 5) (pK (.int 1))))) (pNil)))) noX) (gT 2 (gsC (gSx (pVar 3) (pVar 5)) (gsC (gSx (pVar 3) (pAdd (pVar 5) (pK (.int 1)))) (gsN))))
def pb_led_freely45_2 (cNoPassing : Addr) (Ep : EX) : PSx :=
    pSeq (pIf (pOr (pNot (pT (pCall psp_is_letter (pCons (pFz (pVar 5)) (pCons (pFz (pC (q1 fLen) (pCons (pVar 3) (pNil)))) (pNil))) noX))) (pT (pEq false (pIx (pIx (pVar 3) (pVar 5)) (pK (.int 0))) (pIx (pIx (pVar 3) (pAdd (pVar 5) (pK (.int 1)))) (pK (.int 0)))))) (pRaise cNoPassing ["at"] (pCons (pFz (pVar 4)) (pNil)) Ep) (pNext))
    (pr_led_freely45_1)
def pr_led_freely45_2 : PSx :=
    pRet (pC (q1 fTupleOf) (pCons (pVar 3) (pNil)))
def pr_led_freely45_3 (cNoPassing : Addr) (Ep : EX) : PSx :=
    pSeq (pFor [4, 5] (iEn (pCons (pVar 2) (pNil))) (gT 2 (gsC (gN 4) (gsC (gN 5) (gsN)))) (pb_led_freely45_2 cNoPassing Ep))
    (pr_led_freely45_2)
def pr_led_freely45_4 (cNoPassing : Addr) (Ep : EX) : PSx :=
    pSeq (pSet 3 (pC (q1L fListOf) (pCons (pVar 1) (pNil))))
    (pr_led_freely45_3 cNoPassing Ep)
def p_led_freely45 (cNoWay : Addr) (cNoPassing : Addr) (Ep : EX) : PSx :=
    pSeq (pExpr (pCall (psp_look_back43 cNoWay) (pCons (pFz (pVar 0)) (pNil)) Ep))
    (pr_led_freely45_4 cNoPassing Ep)
def psp_led_freely45 (cNoWay cNoPassing : Addr) : PSp := fun as Q Ep => ∃ (B : Book) (m : Nat) (r : List Wk) (ws : List Int), as = [.im (dB B), .im (dR r), .im (dK ws)] ∧ BookOk (m : Int) B ∧ RowOk (m : Int) B.s r ∧ ((∃ p, firstW (kindsP m) B.ts = some p ∧ Ep cNoWay [("v", .int p.2), ("u", .int p.1)]) ∨ (firstW (kindsP m) B.ts = none ∧ One (m : Int) B ∧ match bad45 (kindsN r) 0 ws with
  | some n => Ep cNoPassing [("at", nD n)]
  | none => ∀ r' : List Wk, Q (.im (dR r')) [.un, .un, .un]))
abbrev stF45 (B : Book) (r : List Wk) (ws : List Int) (r' : List Wk) (s4 s5 : Sl) : List Sl := [.im (dB B), .im (dR r), .im (dK ws), .ow false (.lst (r'.map dP)), s4, s5]
theorem hp_free45 {cNoPassing : Addr} {Ep : EX} {E : PEn} {B : Book} {m : Int} {r r' : List Wk} {ws : List Int} {j : Nat} {x : Int} (on : One m B) (ok : RowOk m B.s r')
    (h1 : ∀ k : Nat, x = (k : Int) → k + 1 < r'.length → (wk r' k).1 ≠ (wk r' (k + 1)).1 → E.nx (stF45 B r ws (passF B r' k) (.im (nD j)) (.im (.int x))))
    (h2 : (∀ k : Nat, x = (k : Int) → ¬ (k + 1 < r'.length ∧ (wk r' k).1 ≠ (wk r' (k + 1)).1)) → Ep cNoPassing [("at", nD j)]) : pb_led_freely45_2 cNoPassing Ep E (stF45 B r ws r' (.im (nD j)) (.im (.int x))) := by
  refine ⟨_, _, rfl, _, _, rfl, _, rfl, List.nodup_nil, x, ((r'.map dP).length : Int), rfl, _, rfl, ?_⟩
  rw [List.length_map]
  by_cases c : 0 ≤ x ∧ x ≤ (r'.length : Int) - 2
  · have cc : (decide (0 ≤ x) && decide (x ≤ (r'.length : Int) - 2)) = true := by rw [decide_eq_true c.1, decide_eq_true c.2]; rfl
    rw [cc]
    obtain ⟨k, rfl⟩ := Int.eq_ofNat_of_zero_le c.1
    have hk : k + 1 < r'.length := by omega
    have e1 : ((k : Int) + 1) = ((k + 1 : Nat) : Int) := by omega
    refine ⟨_, atW rfl (show k < r'.length by omega), _, rfl, _, atW (j := k + 1) e1 hk, _, rfl, _, rfl, ?_⟩
    show if decide ((wk r' k).1 = (wk r' (k + 1)).1) = true then _ else _
    by_cases ne : (wk r' k).1 = (wk r' (k + 1)).1
    · rw [if_pos (decide_eq_true ne)]
      have h3 := h2 fun i e z => by
        have ek : k = i := by omega
        subst ek
        exact z.2 ne
      exact ⟨_, _, rfl, _, _, rfl, rfl, h3⟩
    · rw [if_neg (by simpa using ne)]
      have q := h1 k rfl hk ne
      refine ⟨_, _, rfl, _, atW rfl (show k < r'.length by omega), _, _, rfl, _, atW (j := k + 1) e1 hk, _, _, rfl, _, rfl, List.nodup_nil, B, m, _, _, rfl, on, wk_ok ok (by omega), wk_ok ok hk, ne, ?_⟩
      refine ⟨_, _, rfl, rfl, ?_⟩
      refine ⟨_, _, _, _, k, rfl, rfl, rfl, ixNn rfl (by rw [List.length_map]; omega), ?_⟩
      refine ⟨_, _, _, _, k + 1, rfl, rfl, rfl, ixNn e1 (by rw [List.length_set, List.length_map]; omega), rfl, ?_⟩
      unfold stF45 at q
      rw [← setF] at q
      exact q
  · have cc : (decide (0 ≤ x) && decide (x ≤ (r'.length : Int) - 2)) = false := by
      rw [← Bool.not_eq_true, Bool.and_eq_true, decide_eq_true_eq, decide_eq_true_eq]
      exact c
    rw [cc]
    have h3 := h2 fun i e z => c (by omega)
    exact ⟨_, _, rfl, _, _, rfl, rfl, h3⟩
theorem hp_led_freely45 (cNoWay cNoPassing : Addr) (as : List Sl) (Qp : QE) (Ep : EX) (h : psp_led_freely45 cNoWay cNoPassing as Qp Ep) : p_led_freely45 cNoWay cNoPassing Ep (endsP as Qp) (as ++ List.replicate 3 .un) := by
  obtain ⟨B, m, r, ws, rfl, bk, ok, h⟩ := h
  refine ⟨_, _, rfl, _, rfl, List.nodup_nil, B, m, rfl, bk, ?_⟩
  rcases h with ⟨p, e, q⟩ | ⟨e, on, q⟩
  · rw [e]
    exact q
  rw [e]
  show pr_led_freely45_4 cNoPassing Ep _ [.im (dB B), .im (dR r), .im (dK ws), .un, .un, .un]
  refine ⟨_, _, rfl, ?_⟩
  show pr_led_freely45_3 cNoPassing Ep _ (stF45 B r ws r .un .un)
  refine ⟨_, _, _, rfl, rfl, ?_⟩
  refine ⟨fun i δ => ∃ r', RowOk (m : Int) B.s r' ∧ bad45 (kindsN r) 0 ws = bad45 (kindsN r') i (ws.drop i) ∧ δ = stF45 B r ws r' .un .un, ⟨r, ok, rfl, rfl⟩, ?_, ?_⟩
  · rintro i d δ hd ⟨r', ok', he, rfl⟩
    rw [enD_get, List.getElem?_map, Option.map_map] at hd
    obtain ⟨x, hx, rfl⟩ := Option.map_eq_some_iff.mp hd
    have hi := (List.getElem?_eq_some_iff.mp hx).1
    have ed : ws.drop i = x :: ws.drop (i + 1) := by
      rw [List.drop_eq_getElem_cons hi, (List.getElem?_eq_some_iff.mp hx).2]
    rw [ed] at he
    refine ⟨rfl, rfl, ?_⟩
    have e0 : (.int ((0 + i : Nat) : Int) : PyData) = nD i := by rw [Nat.zero_add]
    show pb_led_freely45_2 cNoPassing Ep _ (stF45 B r ws r' (.im (.int ((0 + i : Nat) : Int))) (.im (.int x)))
    rw [e0]
    refine hp_free45 on ok' (fun k ek hk ne => ?_) fun no => ?_
    · subst ek
      refine ⟨passF B r' k, passF_ok on ok' hk ne, ?_, rfl⟩
      have w1 := wk_ok ok' hk
      have w0 := wk_ok ok' (show k < r'.length by omega)
      have c : 0 ≤ (k : Int) ∧ (k : Int).toNat + 1 < (kindsN r').length ∧ (kindsN r').getD (k : Int).toNat 0 ≠ (kindsN r').getD ((k : Int).toNat + 1) 0 := by
        rw [Int.toNat_natCast, kindsN_len, kindsN_get hk, kindsN_get (show k < r'.length by omega)]
        exact ⟨by omega, hk, by omega⟩
      rw [he]
      conv => lhs; unfold bad45
      rw [if_pos c, Int.toNat_natCast, kinds_passF B hk]
    · have b : BadX (kindsN r') x := fun k ek z => by
        rw [kindsN_len] at z
        refine no k ek ⟨z.1, fun e => z.2 ?_⟩
        rw [kindsN_get z.1, kindsN_get (show k < r'.length by omega), e]
      rw [he, bad45_bad b] at q
      exact q
  · rintro δ ⟨r', ok', he, rfl⟩
    rw [enD_len, List.length_map, List.drop_length] at he
    have he : bad45 (kindsN r) 0 ws = none := he
    rw [he] at q
    exact ⟨_, _, rfl, q r'⟩
/-! ### _law_told -/
-- DEF _law_told N ['_law_way', '_law_book', '_law_some', '_law_word_here', '_law_borne', '_law_found', 'e'] calls ['led_freely', 'rows_ahead'] takes ['cNoWay', 'cNoPassing']
def pr_ltold45_1 : PSx :=
    pRet (pVar 5)
def pr_ltold45_2 (cNoWay : Addr) (cNoPassing : Addr) : PSx :=
    pSeq (pTryS 6 5 (fun C => C = cNoWay ∨ C = cNoPassing) (xIf (pT (pEq false (pVar 0) (pK (.int 0)))) (xCall (psp_led_freely45 cNoWay cNoPassing) (pCons (pFz (pVar 1)) (pCons (pFz (pVar 2)) (pCons (pFz (pVar 3)) (pNil))))) (xCall (psp_rahead cNoPassing) (pCons (pFz (pVar 1)) (pCons (pFz (pVar 2)) (pCons (pFz (pVar 3)) (pCons (pFz (pVar 4)) (pNil))))))) (pTup (pCons (pK (.str "told")) (pNil))) (fun a cls d => pSeq (pIf (pAnd (pT (pIsX (sb2At cNoWay cNoPassing) a cls d 6)) (pNot (pT (pIsX (sbAt cNoWay false) a cls d 6)))) (pSet 5 (pTup (pCons (pK (.str "way")) (pCons (pXf cNoWay a cls d 6 "u") (pCons (pXf cNoWay a cls d 6 "v") (pNil)))))) (pNext))
    (pIf (pAnd (pT (pIsX (sb2At cNoPassing cNoWay) a cls d 6)) (pNot (pT (pIsX (sbAt cNoPassing false) a cls d 6)))) (pSet 5 (pTup (pCons (pK (.str "passing")) (pCons (pXf cNoPassing a cls d 6 "at") (pNil))))) (pNext))))
    (pr_ltold45_1)
def p_ltold45 (cNoWay : Addr) (cNoPassing : Addr) : PSx :=
    pSeq (pSet 5 (pTup (pCons (pK (.str "other")) (pNil))))
    (pr_ltold45_2 cNoWay cNoPassing)
def tTold : PyData := .tuple [.str "told"]
def tPas (n : Nat) : PyData := .tuple [.str "passing", nD n]
def tWay (p : Wk) : PyData := .tuple [.str "way", .int p.1, .int p.2]
def tB : Option Nat → PyData
  | none => tTold
  | some n => tPas n
abbrev un5 : List Sl := [.un, .un, .un, .un, .un]
def psp_ltold45 : PSp := fun as Q _ => ∃ (w : Int) (B : Book) (y : PyData) (ws : List Int) (z : PyData), as = [.im (.int w), .im (dB B), .im y, .im (dK ws), .im z] ∧
  ((w = 0 ∧ ∃ (m : Nat) (r : List Wk), y = dR r ∧ BookOk (m : Int) B ∧ RowOk (m : Int) B.s r ∧ ((∃ p, firstW (kindsP m) B.ts = some p ∧ Q (.im (tWay p)) un5) ∨ (firstW (kindsP m) B.ts = none ∧ One (m : Int) B ∧ Q (.im (tB (bad45 (kindsN r) 0 ws))) un5))) ∨
   (w = 1 ∧ ∃ (m : Int) (s : Nat) (ks : List Nat) (bs : List Int), y = .tuple (dN ks) ∧ z = dK bs ∧ ks.length ≤ 10 ∧
     ((∃ us : List Nat, ws = iW us ∧ BookOk m B ∧ B.s = (s : Int) ∧ s ^ ks.length ≤ 256 ∧ (∀ k ∈ ks, (k : Int) < m) ∧ us.length ≤ 1000 ∧ BurOk B.s ks.length bs ∧ wordOk false ks us ∧ Q (.im tTold) un5) ∨
      (∃ n, ordG gtB ks 0 (List.range ks.length) ws = .inl n ∧ Q (.im (tPas n)) un5))))
theorem hp_ltold45 (cNoWay cNoPassing : Addr) (ne : cNoWay ≠ cNoPassing) (as : List Sl) (Qp : QE) (Ep : EX) (h : psp_ltold45 as Qp Ep) : p_ltold45 cNoWay cNoPassing (endsP as Qp) (as ++ List.replicate 2 .un) := by
  obtain ⟨w, B, y, ws, z, rfl, h⟩ := h
  have n1 := sb2_1 cNoWay cNoPassing
  have n2 := sb2_2 ne
  have n3 := sb2_1 cNoPassing cNoWay
  have n4 := sb2_2 (Ne.symm ne)
  refine ⟨_, _, rfl, ?_⟩
  show pr_ltold45_2 cNoWay cNoPassing _ [.im (.int w), .im (dB B), .im y, .im (dK ws), .im z, .im (.tuple [.str "other"]), .un]
  rcases h with ⟨rfl, m, r, rfl, bk, ok, h⟩ | ⟨rfl, m, s, ks, bs, rfl, rfl, k10, h⟩
  · refine ⟨_, rfl, ?_⟩
    show if decide ((0 : Int) = 0) = true then _ else _
    rw [if_pos (by decide)]
    refine ⟨_, _, rfl, _, _, rfl, _, _, rfl, _, rfl, B, m, r, ws, rfl, bk, ok, ?_⟩
    rcases h with ⟨p, e, q⟩ | ⟨e, on, q⟩
    · refine .inl ⟨p, e, .inl rfl, fun a dd => ?_⟩
      refine ⟨_, _, _, _, rfl, rfl, rfl, n1, _, rfl, ?_⟩
      refine ⟨_, _, _, _, rfl, rfl, rfl, sb_self _ _, _, rfl, ?_⟩
      refine ⟨_, _, _, rfl, rfl, rfl, rfl, _, _, _, rfl, rfl, rfl, rfl, _, _, rfl, ?_⟩
      refine ⟨_, _, _, _, rfl, rfl, rfl, n4, _, rfl, ?_⟩
      exact ⟨_, _, rfl, q⟩
    · refine .inr ⟨e, on, ?_⟩
      revert q
      cases bad45 (kindsN r) 0 ws with
      | none => exact fun q r' => ⟨_, _, rfl, _, _, rfl, q⟩
      | some n =>
        intro q
        refine ⟨.inr rfl, fun a dd => ?_⟩
        refine ⟨_, _, _, _, rfl, rfl, rfl, n2, _, rfl, ?_⟩
        refine ⟨_, _, _, _, rfl, rfl, rfl, n3, _, rfl, ?_⟩
        refine ⟨_, _, _, _, rfl, rfl, rfl, sb_self _ _, _, rfl, ?_⟩
        exact ⟨_, _, _, rfl, rfl, rfl, rfl, _, _, rfl, _, _, rfl, q⟩
  · refine ⟨_, rfl, ?_⟩
    show if decide ((1 : Int) = 0) = true then _ else _
    rw [if_neg (by decide)]
    refine ⟨_, _, rfl, _, _, rfl, _, _, rfl, _, _, rfl, _, rfl, B, m, s, ks, ws, bs, rfl, k10, ?_⟩
    rcases h with ⟨us, e, bk, es, hf, hk, ul, bo, wo, q⟩ | ⟨n, e, q⟩
    · exact .inl ⟨us, e, bk, es, hf, hk, ul, bo, wo, fun mss _ _ => ⟨_, _, rfl, _, _, rfl, q⟩⟩
    · refine .inr ⟨n, e, .inr rfl, fun a dd => ?_⟩
      refine ⟨_, _, _, _, rfl, rfl, rfl, n2, _, rfl, ?_⟩
      refine ⟨_, _, _, _, rfl, rfl, rfl, n3, _, rfl, ?_⟩
      refine ⟨_, _, _, _, rfl, rfl, rfl, sb_self _ _, _, rfl, ?_⟩
      exact ⟨_, _, _, rfl, rfl, rfl, rfl, _, _, rfl, _, _, rfl, q⟩
/-! ### bad letters -/
-- DEF _law_bad_letters N ['_law_kinds', '_law_word_here', '_law_at', '_law_standing', '_law_k', '_law_some'] calls [] takes []
def pb_lbadlet_1 : PSx :=
    pAsg (pTup (pCons (pIx (pVar 3) (pAdd (pVar 4) (pK (.int 1)))) (pCons (pIx (pVar 3) (pVar 4)) (pNil)))) (gT 2 (gsC (gSx (pVar 3) (pVar 4)) (gsC (gSx (pVar 3) (pAdd (pVar 4) (pK (.int 1)))) (gsN))))
def pb_lbadlet_2 : PSx :=
    pIf (pT (pEq false (pIx (pVar 3) (pVar 4)) (pIx (pVar 3) (pAdd (pVar 4) (pK (.int 1)))))) (pExpr (pMt mExtend (pVar 5) (pCons (pLst (pCons (pVar 4) (pCons (pVar 4) (pCons (pVar 4) (pNil))))) (pNil)))) (pNext)
def pr_lbadlet_1 : PSx :=
    pRet (pVar 5)
def pr_lbadlet_2 : PSx :=
    pSeq (pFor [4] (iRg (pCons (pSub (pC (q1 fLen) (pCons (pVar 3) (pNil))) (pK (.int 1))) (pNil))) (gN 4) (pb_lbadlet_2))
    (pr_lbadlet_1)
def pr_lbadlet_3 : PSx :=
    pSeq (pSet 5 (pLst (pCons (pSub (pK (.int 0)) (pK (.int 1))) (pCons (pSub (pC (q1 fLen) (pCons (pVar 3) (pNil))) (pK (.int 1))) (pCons (pC (q1 fLen) (pCons (pVar 3) (pNil))) (pCons (pSub (pK (.int 0)) (pC (q1 fLen) (pCons (pVar 3) (pNil)))) (pCons (pPow (pK (.int 10)) (pK (.int 20))) (pNil))))))))
    (pr_lbadlet_2)
def pr_lbadlet_4 : PSx :=
    pSeq (pFor [4] (iSeq (pSlice (pVar 1) (oNone) (oSome (pVar 2)))) (gN 4) (pb_lbadlet_1))
    (pr_lbadlet_3)
def p_lbadlet : PSx :=
    pSeq (pSet 3 (pC (q1L fListOf) (pCons (pVar 0) (pNil))))
    (pr_lbadlet_4)
def psp_lbadlet : PSp := fun as Q _ => ∃ (ks us : List Nat) (a : Nat), as = [.im (.tuple (dN ks)), .im (.tuple (dN us)), .im (nD a)] ∧ ks.length ≤ 10 ∧ us.length ≤ 1000 ∧ (∀ w ∈ us, w + 1 < ks.length) ∧ ∀ L : List Int, 0 < L.length → L.length ≤ 100 → (∀ x ∈ L, BadX (goW ks (us.take a)) x) → Q (.ow (.lst (L.map .int))) [.un, .un, .un]
theorem hp_lbadlet (as : List Sl) (Qp : QE) (Ep : EX) (h : psp_lbadlet as Qp Ep) : p_lbadlet (endsP as Qp) (as ++ List.replicate 3 .un) := by
  obtain ⟨ks, us, a, rfl, k10, ul, uw, q⟩ := h
  have z24 : (10000 : Nat) < sizeLine := by decide
  refine ⟨_, _, rfl, ?_⟩
  show pr_lbadlet_4 _ [.im (.tuple (dN ks)), .im (.tuple (dN us)), .im (nD a), .ow false (.lst (dN ks)), .un, .un]
  refine ⟨_, rfl, _, _, _, rfl, rfl, ?_⟩
  have ct : cutD (dN us) none (some (a : Int)) = dN (us.take a) := by rw [cut_take, dN, ← List.map_take]
  rw [ct]
  refine ⟨fun i δ => δ = [.im (.tuple (dN ks)), .im (.tuple (dN us)), .im (nD a), .ow false (.lst (dN (goW ks ((us.take a).take i)))), .un, .un], rfl, ?_, ?_⟩
  · rintro i d δ hd rfl
    rw [dN, List.getElem?_map] at hd
    obtain ⟨k, hk, rfl⟩ := Option.map_eq_some_iff.mp hd
    have hi := (List.getElem?_eq_some_iff.mp hk).1
    have kw : k + 1 < ks.length := uw k (List.mem_of_mem_take (List.mem_of_getElem? hk))
    have gl := goW_len ks ((us.take a).take i)
    have en : goW ks ((us.take a).take (i + 1)) = swp (goW ks ((us.take a).take i)) k := by
      rw [List.take_add_one, hk, Option.toList_some, goW_snoc]
    obtain ⟨st, hst⟩ : ∃ st, st = goW ks ((us.take a).take i) := ⟨_, rfl⟩
    rw [← hst] at gl en
    show pb_lbadlet_1 _ [.im (.tuple (dN ks)), .im (.tuple (dN us)), .im (nD a), .ow false (.lst (dN (goW ks ((us.take a).take i)))), .im (nD k), .un]
    rw [← hst]
    have e1 : ((k : Int) + 1) = ((k + 1 : Nat) : Int) := rfl
    refine ⟨_, atI_of e1 (dN_get (getD_of (xs := st) (i := k + 1) (by omega))), _, atI_of rfl (dN_get (getD_of (xs := st) (i := k) (by omega))), ?_⟩
    refine ⟨_, _, rfl, rfl, ?_⟩
    refine ⟨_, _, _, _, k, rfl, rfl, rfl, ixNn rfl (by rw [dN_len]; omega), ?_⟩
    refine ⟨_, _, _, _, k + 1, rfl, rfl, rfl, ixNn e1 (by rw [List.length_set, dN_len]; omega), rfl, ?_⟩
    show _ = [_, _, _, Sl.ow false (.lst (dN (goW ks ((us.take a).take (i + 1))))), _, _]
    rw [en, dN_set, dN_set]
    rfl
  · rintro δ rfl
    have el : (dN (us.take a)).length = (us.take a).length := dN_len _
    rw [el, List.take_length]
    generalize hst : goW ks (us.take a) = st at *
    have sl : st.length = ks.length := by rw [← hst, goW_len]
    have el2 : ((dN st).length : Int) = (st.length : Int) := by rw [dN_len]
    refine ⟨trivial, trivial, trivial, ⟨by decide, by decide, by decide⟩, _, _, rfl, ?_⟩
    rw [el2]
    show pr_lbadlet_2 _ [.im (.tuple (dN ks)), .im (.tuple (dN us)), .im (nD a), .ow false (.lst (dN st)), .un, .ow false (.lst (([-1, (st.length : Int) - 1, (st.length : Int), 0 - (st.length : Int), 100000000000000000000] : List Int).map .int))]
    refine ⟨trivial, by rw [dN_len]; omega, by rw [dN_len]; omega, ?_⟩
    refine loop_rgS (st.length - 1) (by rw [dN_len]; omega) (fun j δ => ∃ L : List Int, 0 < L.length ∧ L.length ≤ 5 + 3 * j ∧ (∀ x ∈ L, BadX st x) ∧ δ = [.im (.tuple (dN ks)), .im (.tuple (dN us)), .im (nD a), .ow false (.lst (dN st)), .un, .ow false (.lst (L.map .int))]) ⟨[-1, (st.length : Int) - 1, (st.length : Int), 0 - (st.length : Int), 100000000000000000000], (by decide : 0 < 5), Nat.le_refl 5, ?_, rfl⟩ ?_ ?_
    · intro x hx k e z
      simp only [List.mem_cons, List.not_mem_nil, or_false] at hx
      omega
    · rintro j δ hj ⟨L, l0, l1, hL, rfl⟩
      have e1 : ((j : Int) + 1) = ((j + 1 : Nat) : Int) := rfl
      refine ⟨_, atI_of rfl (dN_get (getD_of (xs := st) (i := j) (by omega))), _, atI_of e1 (dN_get (getD_of (xs := st) (i := j + 1) (by omega))), _, rfl, ?_⟩
      show if decide ((st.getD j 0 : Int) = (st.getD (j + 1) 0 : Int)) = true then _ else _
      by_cases c : (st.getD j 0 : Int) = (st.getD (j + 1) 0 : Int)
      · rw [if_pos (decide_eq_true c)]
        refine ⟨_, _, _, rfl, rfl, _, _, _, _, rfl, rfl, ?_⟩
        refine ⟨by rw [List.length_map]; exact Nat.le_of_lt (szN (m := 100) (show L.length + 3 ≤ 100 by omega) (by decide)), L ++ [(j : Int), (j : Int), (j : Int)], by rw [List.length_append]; omega, by rw [List.length_append]; show L.length + 3 ≤ _; omega, fun x hx => ?_, by rw [List.map_append]; rfl⟩
        rcases List.mem_append.mp hx with z | z
        · exact hL x z
        · have ex : x = (j : Int) := by simpa using z
          subst ex
          intro k e z2
          have : j = k := by omega
          subst this
          exact z2.2 (by omega)
      · rw [if_neg (by rw [decide_eq_true_eq]; exact c)]
        exact ⟨L, l0, by omega, hL, rfl⟩
    · rintro δ ⟨L, l0, l1, hL, rfl⟩
      exact ⟨_, _, rfl, q L l0 (by omega) hL⟩
/-! ### with a bad letter -/
-- DEF _law_with_bad N ['_law_deal_here', '_law_kinds', '_law_word_here', '_law_at', '_law_some'] calls ['_law_draw', '_law_bad_letters'] takes []
def pr_lwithbad_1 : PSx :=
    pRet (pTup (pCons (pAdd (pAdd (pSlice (pVar 2) (oNone) (oSome (pVar 3))) (pTup (pCons (pIx (pVar 4) (pCall psp_draw (pCons (pVar 0) (pCons (pFz (pC (q1 fLen) (pCons (pVar 4) (pNil)))) (pNil))) noX)) (pNil)))) (pSlice (pVar 2) (oSome (pVar 3)) (oNone))) (pCons (pVar 3) (pNil))))
def pr_lwithbad_2 : PSx :=
    pSeq (pSet 4 (pCall psp_lbadlet (pCons (pFz (pVar 1)) (pCons (pFz (pVar 2)) (pCons (pFz (pVar 3)) (pNil)))) noX))
    (pr_lwithbad_1)
def p_lwithbad : PSx :=
    pSeq (pSet 3 (pCall psp_draw (pCons (pVar 0) (pCons (pFz (pAdd (pC (q1 fLen) (pCons (pVar 2) (pNil))) (pK (.int 1)))) (pNil))) noX))
    (pr_lwithbad_2)
def psp_lwithbad : PSp := fun as Q _ => ∃ ks us : List Nat, as = [.ow true .deal, .im (.tuple (dN ks)), .im (.tuple (dN us))] ∧ ks.length ≤ 10 ∧ us.length ≤ 1000 ∧ (∀ w ∈ us, w + 1 < ks.length) ∧ ∀ (a : Nat) (x : Int), a ≤ us.length → BadX (goW ks (us.take a)) x → Q (.im (.tuple [dK (iW (us.take a) ++ x :: iW (us.drop a)), nD a])) [.ow true .deal, .un, .un]
theorem hp_lwithbad (as : List Sl) (Qp : QE) (Ep : EX) (h : psp_lwithbad as Qp Ep) : p_lwithbad (endsP as Qp) (as ++ List.replicate 2 .un) := by
  obtain ⟨ks, us, rfl, k10, ul, uw, q⟩ := h
  have z24 : (10000 : Nat) < sizeLine := by decide
  refine ⟨_, _, rfl, _, rfl, nd1 0, _, rfl, by rw [dN_len]; omega, by rw [dN_len]; omega, fun a ha => ?_⟩
  simp only [pk0]
  refine ⟨_, _, rfl, ?_⟩
  rw [dN_len] at ha
  show pr_lwithbad_2 _ [.ow true .deal, .im (.tuple (dN ks)), .im (.tuple (dN us)), .im (nD a), .un]
  refine ⟨_, _, rfl, _, _, rfl, _, _, rfl, _, rfl, List.nodup_nil, ks, us, a, rfl, k10, ul, uw, fun L l0 l100 hL => ?_⟩
  refine ⟨_, _, rfl, ?_⟩
  show pr_lwithbad_1 _ [.ow true .deal, .im (.tuple (dN ks)), .im (.tuple (dN us)), .im (nD a), .ow false (.lst (L.map .int))]
  refine ⟨_, rfl, _, _, rfl, _, rfl, nd1 0, _, rfl, by rw [List.length_map]; omega, by rw [List.length_map]; omega, fun b hb => ?_⟩
  simp only [pk0]
  rw [List.length_map] at hb
  have hg : (L.map PyData.int)[b]? = some (.int (L.getD b 0)) := by
    rw [List.getElem?_map, List.getElem?_eq_getElem (by omega), List.getD_eq_getElem?_getD, List.getElem?_eq_getElem (by omega)]
    rfl
  have hx : L.getD b 0 ∈ L := by
    rw [List.getD_eq_getElem?_getD, List.getElem?_eq_getElem (by omega)]
    exact List.getElem_mem _
  have ct : cutD (dN us) none (some (a : Int)) = (iW (us.take a)).map .int := by rw [cut_take, dN, ← List.map_take]; exact dN_iW _
  have cd : cutD (dN us) (some (a : Int)) none = (iW (us.drop a)).map .int := by rw [cut_drop, dN, ← List.map_drop]; exact dN_iW _
  refine ⟨_, atI_of rfl hg, ?_⟩
  rw [ct]
  refine ⟨?_, _, rfl, ?_⟩
  · rw [List.length_map, iW_len, List.length_take]
    show _ + 1 ≤ sizeLine
    omega
  refine ⟨?_, _, _, rfl, ?_⟩
  · rw [cd, List.length_append, List.length_map, List.length_map, iW_len, iW_len, List.length_take, List.length_drop]
    show _ + 1 + _ ≤ sizeLine
    omega
  have e : PyData.tuple ((iW (us.take a)).map PyData.int ++ [PyData.int (L.getD b 0)] ++ (iW (us.drop a)).map PyData.int) = dK (iW (us.take a) ++ L.getD b 0 :: iW (us.drop a)) := by
    unfold dK
    rw [List.map_append, List.append_assoc]
    rfl
  rw [cd, e]
  exact q a _ (by omega) (hL _ hx)
/-! ### _law_right -/
-- DEF _law_right N ['_law_deal_here', '_law_tome', '_law_walkers', '_law_lost', '_law_free', '_law_onward', '_law_due', '_law_back', '_law_three', '_law_borne', '_law_bad', '_law_at', '_law_wrong', '_law_place', '_law_one'] calls ['_law_word', '_law_draw', '_law_with_bad', '_law_told'] takes []
def pe_lright45_1 : PX :=
    pIx (pVar 14) (pK (.int 1))
def pe_lright45_2 : PX :=
    pIx (pVar 14) (pK (.int 0))
def pr_lright45_1 : PSx :=
    pRet (pEq false (pCall psp_ltold45 (pCons (pFz (pK (.int 1))) (pCons (pFz (pVar 1)) (pCons (pFz (pVar 8)) (pCons (pFz (pAdd (pVar 5) (pSlice (pVar 5) (oSome (pNeg (pK (.int 1)))) (oNone)))) (pCons (pFz (pVar 9)) (pNil)))))) noX) (pVar 7))
def pr_lright45_2 : PSx :=
    pSeq (pSet 7 (pIfE (pT (pGt (pC (q1 fLen) (pCons (pVar 5) (pNil))) (pK (.int 0)))) (pTup (pCons (pK (.str "passing")) (pCons (pC (q1 fLen) (pCons (pVar 5) (pNil))) (pNil)))) (pTup (pCons (pK (.str "told")) (pNil)))))
    (pr_lright45_1)
def pr_lright45_3 : PSx :=
    pSeq (pIf (pT (pEq true (pCall psp_ltold45 (pCons (pFz (pK (.int 1))) (pCons (pFz (pVar 1)) (pCons (pFz (pVar 8)) (pCons (pFz (pVar 12)) (pCons (pFz (pVar 9)) (pNil)))))) noX) (pTup (pCons (pK (.str "passing")) (pCons (pVar 13) (pNil)))))) (pRet (pK (.bool false))) (pNext))
    (pr_lright45_2)
def pr_lright45_4 : PSx :=
    pSeq (pAsg (pCall psp_lwithbad (pCons (pVar 0) (pCons (pFz (pVar 8)) (pCons (pFz (pVar 5)) (pNil)))) noX) (gT 2 (gsC (gN 12) (gsC (gN 13) (gsN)))))
    (pr_lright45_3)
def pr_lright45_5 : PSx :=
    pSeq (pIf (pT (pEq true (pIs false (pVar 3) (pK .none)) (pEq false (pCall psp_ltold45 (pCons (pFz (pK (.int 0))) (pCons (pFz (pVar 1)) (pCons (pFz (pVar 2)) (pCons (pFz (pVar 4)) (pCons (pFz (pTup (pNil))) (pNil)))))) noX) (pTup (pCons (pK (.str "told")) (pNil)))))) (pRet (pK (.bool false))) (pNext))
    (pr_lright45_4)
def pr_lright45_6 : PSx :=
    pSeq (pIf (pOr (pT (pEq true (pCall psp_ltold45 (pCons (pFz (pK (.int 0))) (pCons (pFz (pVar 1)) (pCons (pFz (pVar 2)) (pCons (pFz (pVar 10)) (pCons (pFz (pTup (pNil))) (pNil)))))) noX) (pVar 6))) (pT (pEq true (pCall psp_ltold45 (pCons (pFz (pK (.int 0))) (pCons (pFz (pVar 1)) (pCons (pFz (pVar 2)) (pCons (pFz (pAdd (pVar 10) (pTup (pCons (pSub (pK (.int 0)) (pK (.int 7))) (pNil))))) (pCons (pFz (pTup (pNil))) (pNil)))))) noX) (pVar 6)))) (pRet (pK (.bool false))) (pNext))
    (pr_lright45_5)
def pr_lright45_7 : PSx :=
    pSeq (pSet 6 (pIfE (pT (pIs false (pVar 3) (pK .none))) (pTup (pCons (pK (.str "passing")) (pCons (pVar 11) (pNil)))) (pAdd (pTup (pCons (pK (.str "way")) (pNil))) (pVar 3))))
    (pr_lright45_6)
def pr_lright45_8 : PSx :=
    pSeq (pAsg (pCall psp_lwithbad (pCons (pVar 0) (pCons (pFz (pVar 8)) (pCons (pFz (pVar 4)) (pNil)))) noX) (gT 2 (gsC (gN 10) (gsC (gN 11) (gsN)))))
    (pr_lright45_7)
def pr_lright45_9 : PSx :=
    pSeq (pSet 5 (pCall psp_lword (pCons (pVar 0) (pCons (pFz (pVar 8)) (pCons (pFz (pCall psp_draw (pCons (pVar 0) (pCons (pFz (pK (.int 8))) (pNil))) noX)) (pCons (pFz (pK (.bool false))) (pNil))))) noX))
    (pr_lright45_8)
def pr_lright45_10 : PSx :=
    pSeq (pSet 4 (pCall psp_lword (pCons (pVar 0) (pCons (pFz (pVar 8)) (pCons (pFz (pCall psp_draw (pCons (pVar 0) (pCons (pFz (pK (.int 12))) (pNil))) noX)) (pCons (pFz (pK (.bool true))) (pNil))))) noX))
    (pr_lright45_9)
def p_lright45 : PSx :=
    pSeq (pPar [8, 9] (pCons (pC (q1 fTupleOf) (pCons (pComp (iSeq (pVar 2)) (gN 14) (pYes) (pe_lright45_2) [14]) (pNil))) (pCons (pC (q1 fTupleOf) (pCons (pComp (iSeq (pVar 2)) (gN 14) (pYes) (pe_lright45_1) [14]) (pNil))) (pNil))))
    (pr_lright45_10)
theorem wo_take {f : Bool} : ∀ {us ks : List Nat} (n : Nat), wordOk f ks us → wordOk f ks (us.take n)
  | [], _, n, _ => by rw [List.take_nil]; trivial
  | u :: us, _, 0, _ => trivial
  | u :: us, _, n + 1, h => ⟨h.1, wo_take n h.2⟩
def brI45 (r : List Wk) : List Int := r.map Prod.snd
def lostQ (m : Nat) (B : Book) : Option Wk → Prop
  | none => One (m : Int) B
  | some _ => True
def psp_lright45 : PSp := fun as Q _ => ∃ (B : Book) (r : List Wk) (o : Option Wk), as = [.ow true .deal, .im (dB B), .im (dR r), .im (fwD o)] ∧ ∃ (m s : Nat), BookOk (m : Int) B ∧ B.s = (s : Int) ∧ s ≤ 3 ∧ RowOk (m : Int) B.s r ∧ r.length ≤ 5 ∧ firstW (kindsP m) B.ts = o ∧ lostQ m B o ∧ Q (.im (.bool true)) [.ow true .deal, .un, .un, .un]
abbrev st45 (B : Book) (r : List Wk) (o : Option Wk) (s4 s5 s6 s7 s8 s9 s10 s11 s12 s13 s14 : Sl) : List Sl := [.ow true .deal, .im (dB B), .im (dR r), .im (fwD o), s4, s5, s6, s7, s8, s9, s10, s11, s12, s13, s14]
theorem shW {w : Str} (hw : PyData.canLay0 (.str w) = true) (ns : List Int) : SeqAt.shaped (.tuple (.str w :: ns.map .int)) = true := by
  have := shapedT_map (fun o : Option Int => match o with | none => PyData.str w | some i => .int i) 0 (by decide) (none :: ns.map some) (fun o _ => by
    cases o with
    | none => exact ⟨hw, Nat.le_refl 0⟩
    | some i => exact ⟨rfl, Nat.le_refl 0⟩)
  rw [List.map_cons, List.map_map] at this
  exact this
theorem sh_tPas (n : Nat) : SeqAt.shaped (tPas n) = true := shW (w := "passing") (by decide +kernel) [(n : Int)]
theorem sh_tTold : SeqAt.shaped tTold = true := shW (w := "told") (by decide +kernel) []
theorem sh_tWay (p : Wk) : SeqAt.shaped (tWay p) = true := shW (w := "way") (by decide +kernel) [p.1, p.2]
theorem way_told (p : Wk) : eqd (tWay p) tTold = false := by simp [eqd, tWay, tTold, PyData.eqv, PyData.eqvAll]
theorem cut_last {α : Type} (xs : List α) (x : α) : cutD (xs ++ [x]) (some (-1)) none = [x] := by
  unfold cutD
  rw [HT.sIx_none]
  have : HT.sIx (xs ++ [x]).length 0 (some (-1)) = xs.length := by
    show (if (-1 : Int) < 0 then ((-1 : Int) + ((xs ++ [x]).length : Int)).toNat else min (-1 : Int).toNat (xs ++ [x]).length) = _
    rw [if_pos (by decide), List.length_append]
    show (-1 + ((xs.length + 1 : Nat) : Int)).toNat = _
    omega
  rw [this, List.drop_left, List.take_of_length_le (by rw [List.length_append]; simp)]
/-- the answers onward -/
theorem hp_on45 {B : Book} {r : List Wk} {o : Option Wk} {Qp : QE} {m s : Nat} {us vs : List Nat} {s6 s10 s11 : Sl} (bk : BookOk (m : Int) B) (es : B.s = (s : Int)) (s3 : s ≤ 3) (ok : RowOk (m : Int) B.s r) (r5 : r.length ≤ 5) (wv : wordOk false (kindsN r) vs) (vl : vs.length ≤ 100)
    (q : Qp (.im (.bool true)) [.ow true .deal, .un, .un, .un]) :
    pr_lright45_4 (endsP [.ow true .deal, .im (dB B), .im (dR r), .im (fwD o)] Qp) (st45 B r o (.im (.tuple (dN us))) (.im (.tuple (dN vs))) s6 .un (.im (.tuple (dN (kindsN r)))) (.im (dK (brI45 r))) s10 s11 .un .un .un) := by
  have kl : (kindsN r).length = r.length := kindsN_len r
  have wl := wordOk_lt wv
  refine ⟨_, _, rfl, _, _, rfl, _, rfl, nd1 0, kindsN r, vs, rfl, by omega, by omega, wl, fun a x ha hx => ?_⟩
  refine ⟨_, _, rfl, rfl, rfl, ?_⟩
  show pr_lright45_3 _ (st45 B r o (.im (.tuple (dN us))) (.im (.tuple (dN vs))) s6 .un (.im (.tuple (dN (kindsN r)))) (.im (dK (brI45 r))) s10 s11 (.im (dK (iW (vs.take a) ++ x :: iW (vs.drop a)))) (.im (nD a)) .un)
  have ob : ordG gtB (kindsN r) 0 (List.range (kindsN r).length) (iW (vs.take a) ++ x :: iW (vs.drop a)) = .inl a := by
    have := ord_bad (x := x) (rest := iW (vs.drop a)) (wo_take a wv) (by
      have := badX_lt hx
      rw [goW_len] at this
      exact this)
    rw [List.length_take, Nat.min_eq_left ha] at this
    exact this
  refine ⟨_, _, rfl, _, _, rfl, _, _, rfl, _, _, rfl, _, _, rfl, _, rfl, List.nodup_nil, 1, B, _, _, _, rfl, .inr ⟨rfl, (m : Int), s, kindsN r, brI45 r, rfl, rfl, by omega, .inr ⟨a, ob, ?_⟩⟩⟩
  refine ⟨sh_tPas a, sh_tPas a, _, rfl, ?_⟩
  show if (!eqd (tPas a) (tPas a)) = true then _ else _
  rw [eqd_self (sh_tPas a), if_neg (by decide)]
  show pr_lright45_2 _ (st45 B r o (.im (.tuple (dN us))) (.im (.tuple (dN vs))) s6 .un (.im (.tuple (dN (kindsN r)))) (.im (dK (brI45 r))) s10 s11 (.im (dK (iW (vs.take a) ++ x :: iW (vs.drop a)))) (.im (nD a)) .un)
  generalize dK (iW (vs.take a) ++ x :: iW (vs.drop a)) = d12
  refine ⟨trivial, _, rfl, ?_⟩
  show if decide ((0 : Int) < ((dN vs).length : Int)) = true then _ else _
  have bo : BurOk B.s (kindsN r).length (brI45 r) := ⟨by rw [kl]; exact List.length_map _, fun b hb => by
    obtain ⟨p, hp, rfl⟩ := List.mem_map.mp hb
    have := ok p hp
    exact ⟨this.2.2.1, this.2.2.2⟩⟩
  by_cases c : vs = []
  · subst c
    rw [if_neg (by decide)]
    refine ⟨_, _, rfl, ?_⟩
    show pr_lright45_1 _ (st45 B r o (.im (.tuple (dN us))) (.im (.tuple (dN []))) s6 (.im tTold) (.im (.tuple (dN (kindsN r)))) (.im (dK (brI45 r))) s10 s11 (.im d12) (.im (nD a)) .un)
    refine ⟨_, _, rfl, _, _, rfl, _, _, rfl, _, rfl, (show 0 + 0 ≤ sizeLine by decide), _, _, rfl, _, _, rfl, _, rfl, List.nodup_nil, 1, B, _, [], _, rfl, .inr ⟨rfl, (m : Int), s, kindsN r, brI45 r, rfl, rfl, by omega, .inl ⟨[], rfl, bk, es, ?_, ?_, by decide, bo, trivial, ?_⟩⟩⟩
    · rw [kl]
      exact Nat.le_trans (Nat.le_trans (Nat.pow_le_pow_left s3 _) (Nat.pow_le_pow_right (by decide) r5)) (by decide)
    · intro k hk
      obtain ⟨p, hp, rfl⟩ := List.mem_map.mp hk
      have := ok p hp
      omega
    · refine ⟨sh_tTold, sh_tTold, ?_⟩
      refine ⟨_, _, rfl, ?_⟩
      show Qp (.im (.bool (eqd tTold tTold))) _
      rw [eqd_self sh_tTold]
      exact q
  · rw [if_pos (decide_eq_true (by
      rw [dN_len]
      have := List.length_pos_iff.mpr c
      omega))]
    refine ⟨_, _, rfl, ?_⟩
    rw [dN_len]
    show pr_lright45_1 _ (st45 B r o (.im (.tuple (dN us))) (.im (.tuple (dN vs))) s6 (.im (tPas vs.length)) (.im (.tuple (dN (kindsN r)))) (.im (dK (brI45 r))) s10 s11 (.im d12) (.im (nD a)) .un)
    obtain ⟨v0, k, rfl⟩ : ∃ v0 k, vs = v0 ++ [k] := ⟨_, _, (List.dropLast_concat_getLast c).symm⟩
    have cl : cutD (dN (v0 ++ [k])) (some (-1)) none = [nD k] := by rw [dN_app]; exact cut_last _ _
    have oa := ord_again (rest := []) wv
    have ed : PyData.tuple (dN (v0 ++ [k]) ++ [nD k]) = dK (iW (v0 ++ [k]) ++ (k : Int) :: []) := by
      unfold dK
      rw [List.map_append, ← dN_iW]
      rfl
    refine ⟨_, _, rfl, _, _, rfl, _, _, rfl, _, rfl, ?_, _, _, rfl, _, _, rfl, _, rfl, List.nodup_nil, 1, B, _, _, dK (brI45 r), ?_, .inr ⟨rfl, (m : Int), s, kindsN r, brI45 r, rfl, rfl, by omega, .inr ⟨_, oa, ?_⟩⟩⟩
    · rw [cl, dN_len, List.length_append]
      show v0.length + 1 + 1 ≤ sizeLine
      have : (v0 ++ [k]).length = v0.length + 1 := List.length_append
      exact Nat.le_of_lt (szN (m := 200) (by omega) (by decide))
    · rw [cl, ed]
    · refine ⟨sh_tPas _, sh_tPas _, ?_⟩
      refine ⟨_, _, rfl, ?_⟩
      show Qp (.im (.bool (eqd (tPas _) (tPas _)))) _
      rw [eqd_self (sh_tPas _)]
      exact q
/-- a bad letter, and what stands behind it -/
theorem hp_six45 {E : PEn} {B : Book} {r : List Wk} {o : Option Wk} {m a : Nat} {us vs : List Nat} {x : Int} {due : PyData} (sd : SeqAt.shaped due = true) (bk : BookOk (m : Int) B) (ok : RowOk (m : Int) B.s r) (wu : wordOk true (kindsN r) us) (ha : a ≤ us.length) (ul : us.length ≤ 100) (hx : BadX (goW (kindsN r) (us.take a)) x)
    (ask : (∃ p, firstW (kindsP m) B.ts = some p ∧ due = tWay p) ∨ (firstW (kindsP m) B.ts = none ∧ One (m : Int) B ∧ due = tB (some a)))
    (q : ∀ x10 : PyData, pr_lright45_5 E (st45 B r o (.im (.tuple (dN us))) (.im (.tuple (dN vs))) (.im due) .un (.im (.tuple (dN (kindsN r)))) (.im (dK (brI45 r))) (.im x10) (.im (nD a)) .un .un .un)) :
    pr_lright45_6 E (st45 B r o (.im (.tuple (dN us))) (.im (.tuple (dN vs))) (.im due) .un (.im (.tuple (dN (kindsN r)))) (.im (dK (brI45 r))) (.im (dK (iW (us.take a) ++ x :: iW (us.drop a)))) (.im (nD a)) .un .un .un) := by
  have bb : ∀ rest : List Int, bad45 (kindsN r) 0 (iW (us.take a) ++ x :: rest) = some a := fun rest => by
    rw [bad45_ok _ (wo_take a wu), bad45_bad hx, List.length_take, Nat.min_eq_left ha, Nat.zero_add]
  have ed : PyData.tuple ((iW (us.take a) ++ x :: iW (us.drop a)).map PyData.int ++ [.int (0 - 7)]) = dK (iW (us.take a) ++ x :: (iW (us.drop a) ++ [0 - 7])) := by
    unfold dK
    rw [← List.map_singleton (f := PyData.int), ← List.map_append, List.append_assoc]
    rfl
  rcases ask with ⟨p, e, rfl⟩ | ⟨e, on, rfl⟩
  · skip
    refine ⟨_, _, rfl, _, _, rfl, _, _, rfl, _, _, rfl, _, _, rfl, _, rfl, List.nodup_nil, 0, B, _, _, _, rfl, .inl ⟨rfl, m, r, rfl, bk, ok, ?_⟩⟩
    refine .inl ⟨p, e, ?_⟩
    refine ⟨sd, sd, _, rfl, ?_⟩
    show if (!eqd (tWay p) (tWay p)) = true then _ else _
    rw [eqd_self sd, if_neg (by decide)]
    refine ⟨_, _, rfl, _, _, rfl, _, _, rfl, trivial, ?_, _, _, rfl, _, _, rfl, _, rfl, List.nodup_nil, 0, B, _, (iW (us.take a) ++ x :: (iW (us.drop a) ++ [0 - 7])), .tuple [], ?_, .inl ⟨rfl, m, r, rfl, bk, ok, ?_⟩⟩
    · rw [List.length_map, List.length_append, List.length_cons, iW_len, iW_len, List.length_take, List.length_drop]
      exact Nat.le_of_lt (szN (m := 200) (show _ + 1 ≤ 200 by omega) (by decide))
    · rw [ed]
    refine .inl ⟨p, e, ?_⟩
    refine ⟨sd, sd, _, rfl, ?_⟩
    show if (!eqd (tWay p) (tWay p)) = true then _ else _
    rw [eqd_self sd, if_neg (by decide)]
    exact q _
  · skip
    refine ⟨_, _, rfl, _, _, rfl, _, _, rfl, _, _, rfl, _, _, rfl, _, rfl, List.nodup_nil, 0, B, _, _, _, rfl, .inl ⟨rfl, m, r, rfl, bk, ok, ?_⟩⟩
    refine .inr ⟨e, on, ?_⟩
    rw [bb]
    refine ⟨sd, sd, _, rfl, ?_⟩
    show if (!eqd (tB (some a)) (tB (some a))) = true then _ else _
    rw [eqd_self sd, if_neg (by decide)]
    refine ⟨_, _, rfl, _, _, rfl, _, _, rfl, trivial, ?_, _, _, rfl, _, _, rfl, _, rfl, List.nodup_nil, 0, B, _, (iW (us.take a) ++ x :: (iW (us.drop a) ++ [0 - 7])), .tuple [], ?_, .inl ⟨rfl, m, r, rfl, bk, ok, ?_⟩⟩
    · rw [List.length_map, List.length_append, List.length_cons, iW_len, iW_len, List.length_take, List.length_drop]
      exact Nat.le_of_lt (szN (m := 200) (show _ + 1 ≤ 200 by omega) (by decide))
    · rw [ed]
    refine .inr ⟨e, on, ?_⟩
    rw [bb]
    refine ⟨sd, sd, _, rfl, ?_⟩
    show if (!eqd (tB (some a)) (tB (some a))) = true then _ else _
    rw [eqd_self sd, if_neg (by decide)]
    exact q _
theorem hp_lright45 (as : List Sl) (Qp : QE) (Ep : EX) (h : psp_lright45 as Qp Ep) : p_lright45 (endsP as Qp) (as ++ List.replicate 11 .un) := by
  obtain ⟨B, r, o, rfl, m, s, bk, es, s3, ok, r5, ho, lo, q⟩ := h
  have z24 : (10000 : Nat) < sizeLine := by decide
  have kl : (kindsN r).length = r.length := kindsN_len r
  refine ⟨_, _, _, rfl, rfl, noPin1 (fun o => nofun), fun j acc δ => acc = (r.take j).map (fun p => PyData.int p.1) ∧ δ = st45 B r o .un .un .un .un .un .un .un .un .un .un .un, ⟨rfl, rfl⟩, ?_, ?_⟩
  · rintro j d acc δ hd ⟨rfl, rfl⟩
    rw [List.getElem?_map] at hd
    obtain ⟨p, hp, rfl⟩ := Option.map_eq_some_iff.mp hd
    refine ⟨_, rfl, _, _, rfl, ?_, ?_, rfl⟩
    · rw [List.length_map, List.length_take]
      exact szN (m := 1000) (by omega) (by decide)
    · rw [List.take_add_one, hp]
      show _ ++ [PyData.int p.1] = List.map _ (r.take j ++ [p])
      rw [List.map_append]
      rfl
  rintro acc δ ⟨rfl, rfl⟩
  rw [List.length_map, List.take_length, kinds_data ok]
  refine ⟨_, _, _, rfl, rfl, noPin1 (fun o => nofun), fun j acc δ => acc = (r.take j).map (fun p => PyData.int p.2) ∧ δ = st45 B r o .un .un .un .un .un .un .un .un .un .un .un, ⟨rfl, rfl⟩, ?_, ?_⟩
  · rintro j d acc δ hd ⟨rfl, rfl⟩
    rw [List.getElem?_map] at hd
    obtain ⟨p, hp, rfl⟩ := Option.map_eq_some_iff.mp hd
    refine ⟨_, rfl, _, _, rfl, ?_, ?_, rfl⟩
    · rw [List.length_map, List.length_take]
      exact szN (m := 1000) (by omega) (by decide)
    · rw [List.take_add_one, hp]
      show _ ++ [PyData.int p.2] = List.map _ (r.take j ++ [p])
      rw [List.map_append]
      rfl
  rintro acc δ ⟨rfl, rfl⟩
  rw [List.length_map, List.take_length]
  have eb : r.map (fun p : Wk => PyData.int p.2) = (brI45 r).map .int := by unfold brI45; rw [List.map_map]; rfl
  rw [eb]
  refine ⟨_, _, rfl, ?_⟩
  show pr_lright45_10 _ (st45 B r o .un .un .un .un (.im (.tuple (dN (kindsN r)))) (.im (dK (brI45 r))) .un .un .un .un .un)
  refine ⟨_, _, rfl, _, _, rfl, _, rfl, nd1 0, _, rfl, by decide, by decide, fun n1 hn1 => ?_⟩
  simp only [pk0]
  refine ⟨_, _, rfl, _, _, rfl, _, rfl, nd1 0, kindsN r, n1, true, _, rfl, rfl, by omega, by omega, fun us wu lu => ⟨_, _, rfl, ?_⟩⟩
  show pr_lright45_9 _ (st45 B r o (.im (.tuple (dN us))) .un .un .un (.im (.tuple (dN (kindsN r)))) (.im (dK (brI45 r))) .un .un .un .un .un)
  refine ⟨_, _, rfl, _, _, rfl, _, rfl, nd1 0, _, rfl, by decide, by decide, fun n2 hn2 => ?_⟩
  simp only [pk0]
  refine ⟨_, _, rfl, _, _, rfl, _, rfl, nd1 0, kindsN r, n2, false, _, rfl, rfl, by omega, by omega, fun vs wv lv => ⟨_, _, rfl, ?_⟩⟩
  show pr_lright45_8 _ (st45 B r o (.im (.tuple (dN us))) (.im (.tuple (dN vs))) .un .un (.im (.tuple (dN (kindsN r)))) (.im (dK (brI45 r))) .un .un .un .un .un)
  refine ⟨_, _, rfl, _, _, rfl, _, rfl, nd1 0, kindsN r, us, rfl, by omega, by omega, wordOk_lt wu, fun a x ha hx => ?_⟩
  refine ⟨_, _, rfl, rfl, rfl, ?_⟩
  show pr_lright45_7 _ (st45 B r o (.im (.tuple (dN us))) (.im (.tuple (dN vs))) .un .un (.im (.tuple (dN (kindsN r)))) (.im (dK (brI45 r))) (.im (dK (iW (us.take a) ++ x :: iW (us.drop a)))) (.im (nD a)) .un .un .un)
  have fin := fun s6 s10 s11 => hp_on45 (o := o) (Qp := Qp) (us := us) (s6 := s6) (s10 := s10) (s11 := s11) bk es s3 ok r5 wv (by omega) q
  cases o with
  | none =>
    have on : One (m : Int) B := lo
    refine ⟨_, rfl, ?_⟩
    show if true = true then _ else _
    rw [if_pos rfl]
    refine ⟨_, _, rfl, ?_⟩
    refine hp_six45 (o := none) (due := tPas a) (sh_tPas a) bk ok wu ha (by omega) hx (.inr ⟨ho, on, rfl⟩) fun x10 => ?_
    refine ⟨_, _, rfl, _, _, rfl, _, _, rfl, _, _, rfl, _, _, rfl, _, rfl, List.nodup_nil, 0, B, _, iW us, .tuple [], by rw [dK_iW], .inl ⟨rfl, m, r, rfl, bk, ok, .inr ⟨ho, on, ?_⟩⟩⟩
    have bn : bad45 (kindsN r) 0 (iW us) = none := by
      have := bad45_ok (n := 0) [] wu
      rw [List.append_nil] at this
      exact this
    rw [bn]
    refine ⟨sh_tTold, sh_tTold, rfl, rfl, _, rfl, ?_⟩
    show if (!eqd (.bool true) (.bool (eqd tTold tTold))) = true then _ else _
    rw [eqd_self sh_tTold, if_neg (by decide)]
    exact fin _ _ _
  | some p => 
    refine ⟨_, rfl, ?_⟩
    show if false = true then _ else _
    rw [if_neg (by decide)]
    refine ⟨(show 1 + 2 ≤ sizeLine by decide), _, _, rfl, ?_⟩
    refine hp_six45 (o := some p) (due := tWay p) (sh_tWay p) bk ok wu ha (by omega) hx (.inl ⟨p, ho, rfl⟩) fun x10 => ?_
    refine ⟨_, _, rfl, _, _, rfl, _, _, rfl, _, _, rfl, _, _, rfl, _, rfl, List.nodup_nil, 0, B, _, iW us, .tuple [], by rw [dK_iW], .inl ⟨rfl, m, r, rfl, bk, ok, .inl ⟨p, ho, ?_⟩⟩⟩
    refine ⟨sh_tWay p, sh_tTold, rfl, rfl, _, rfl, ?_⟩
    show if (!eqd (.bool false) (.bool (eqd (tWay p) tTold))) = true then _ else _
    rw [way_told, if_neg (by decide)]
    exact fin _ _ _
/-! ### tables one to one; one of them doubled -/
theorem on_of {s : Nat} {t : Tab} (h : TabOk (s : Int) t) (nd : t.Nodup) : ∀ p, InP (s : Int) p → p ∈ t := fun p hp => by
  refine Classical.byContradiction fun no => ?_
  let f : Wk → List Int := fun p => [p.1, p.2]
  have inj : ∀ a b : Wk, f a = f b → a = b := fun a b e => by
    simp only [f, List.cons.injEq, and_true] at e
    exact Prod.ext e.1 e.2
  have nd2 : ((p :: t).map f).Nodup := List.pairwise_map.mpr ((List.nodup_cons.mpr ⟨no, nd⟩).imp fun h e => h (inj _ _ e))
  have sub : ∀ x ∈ (p :: t).map f, x ∈ allB s 2 := fun x hx => by
    obtain ⟨q, hq, rfl⟩ := List.mem_map.mp hx
    have iq : InP (s : Int) q := by
      rcases List.mem_cons.mp hq with rfl | z
      · exact hp
      · exact h.inn q z
    refine allB_mem ⟨rfl, fun b hb => ?_⟩
    rcases List.mem_cons.mp hb with rfl | z
    · exact ⟨iq.1, iq.2.1⟩
    · rw [List.mem_singleton.mp z]
      exact ⟨iq.2.2.1, iq.2.2.2⟩
  have := nodup_le nd2 sub
  rw [allB_len, List.length_map, List.length_cons] at this
  have e : ((s * s : Nat) : Int) = (t.length : Int) := by rw [h.len, Int.natCast_mul]
  rw [Nat.pow_two] at this
  omega
theorem dbl_not {t : Tab} {e : Nat} (h : 3 ≤ t.length) (he : e < 2) : ¬ (t.set e (wk t 2)).Nodup := fun nd => by
  have h1 := List.pairwise_iff_getElem.mp (List.nodup_iff_pairwise_ne.mp nd) e 2 (by rw [List.length_set]; omega) (by rw [List.length_set]; omega) he
  refine h1 ?_
  rw [List.getElem_set_self, List.getElem_set_ne (by omega)]
  unfold wk
  rw [List.getD_eq_getElem?_getD, List.getElem?_eq_getElem (by omega)]
  rfl
theorem firstW_min : ∀ {ps : List Wk} {ts : List Tab} {i : Nat} {p : Wk} {t : Tab}, ps[i]? = some p → ts[i]? = some t → ¬ t.Nodup → (∀ j t, j < i → ts[j]? = some t → t.Nodup) → firstW ps ts = some p
  | [], _, _, _, _, h, _, _, _ => by cases h
  | _ :: _, [], _, _, _, _, h, _, _ => by cases h
  | p0 :: ps, t0 :: ts, 0, p, t, h1, h2, nd, _ => by
    cases h1
    cases h2
    unfold firstW
    rw [if_neg nd]
  | p0 :: ps, t0 :: ts, i + 1, p, t, h1, h2, nd, h => by
    unfold firstW
    rw [if_pos (h 0 t0 (Nat.succ_pos i) rfl)]
    exact firstW_min (i := i) h1 h2 nd fun j t hj e => h (j + 1) t (Nat.succ_lt_succ hj) e
theorem firstW_none : ∀ {ps : List Wk} {ts : List Tab}, (∀ t ∈ ts, t.Nodup) → firstW ps ts = none
  | [], _, _ => by unfold firstW; rfl
  | _ :: _, [], _ => by unfold firstW; rfl
  | p0 :: ps, t0 :: ts, h => by
    unfold firstW
    rw [if_pos (h t0 List.mem_cons_self)]
    exact firstW_none fun t ht => h t (List.mem_cons_of_mem _ ht)
theorem kindsP_lost {m i : Nat} (m1 : 1 ≤ m) (m5 : m ≤ 5) {p : Wk} (h : (kindsP m)[i]? = some p) : [PyData.tuple [.int 1, .int 0], .tuple [.int 2, .int 0], .tuple [.int 2, .int 1], .tuple [.int 3, .int 0], .tuple [.int 3, .int 1], .tuple [.int 3, .int 2], .tuple [.int 4, .int 0], .tuple [.int 4, .int 1], .tuple [.int 4, .int 2], .tuple [.int 4, .int 3]][i]? = some (dP p) := by
  have e5 : [PyData.tuple [.int 1, .int 0], .tuple [.int 2, .int 0], .tuple [.int 2, .int 1], .tuple [.int 3, .int 0], .tuple [.int 3, .int 1], .tuple [.int 3, .int 2], .tuple [.int 4, .int 0], .tuple [.int 4, .int 1], .tuple [.int 4, .int 2], .tuple [.int 4, .int 3]] = (kindsP 5).map dP := by rfl
  rw [e5, List.getElem?_map]
  have hi := (List.getElem?_eq_some_iff.mp h).1
  have : (kindsP 5)[i]? = some p := by
    rcases Nat.lt_or_eq_of_le m5 with z | rfl
    · obtain ⟨rest, hr⟩ := kindsP_pre z
      rw [hr, List.append_assoc, List.getElem?_append_left hi]
      exact h
    · exact h
  rw [this]
  rfl
/-- tables some of which tell a pair twice -/
structure Dbl (m s : Nat) (bad : List Nat) (ts : List Tab) : Prop where
  ok : AllOk (m : Int) (s : Int) ts
  no : ∀ j t, ts[j]? = some t → j ∈ bad → ¬ t.Nodup
  nd : ∀ j t, ts[j]? = some t → j ∉ bad → t.Nodup
theorem Dbl.set {m s : Nat} {bad : List Nat} {ts : List Tab} {k e : Nat} {t : Tab} (h : Dbl m s bad ts) (s2 : 2 ≤ s) (ht : ts[k]? = some t) (he : e < 2) : Dbl m s (bad ++ [k]) (ts.set k (t.set e (wk t 2))) := by
  have hk := (List.getElem?_eq_some_iff.mp ht).1
  have tok := h.ok.ok t (List.mem_of_getElem? ht)
  have t3 : 3 ≤ t.length := by
    have e := tok.len
    have : 2 * 2 ≤ s * s := Nat.mul_le_mul s2 s2
    have e2 : ((s * s : Nat) : Int) = (t.length : Int) := by rw [e, Int.natCast_mul]
    omega
  refine ⟨⟨by rw [List.length_set]; exact h.ok.len, fun x hx => ?_⟩, fun j x hx hj => ?_, fun j x hx hj => ?_⟩
  · rcases List.mem_or_eq_of_mem_set hx with z | rfl
    · exact h.ok.ok x z
    · refine ⟨by rw [List.length_set]; exact tok.len, fun p hp => ?_⟩
      rcases List.mem_or_eq_of_mem_set hp with z | rfl
      · exact tok.inn p z
      · exact tok.inn _ (List.mem_of_getElem? (wk_get (show 2 < t.length by omega)))
  · by_cases c : k = j
    · subst c
      rw [List.getElem?_set_self hk] at hx
      cases hx
      exact dbl_not t3 he
    · rw [List.getElem?_set_ne c] at hx
      rcases List.mem_append.mp hj with z | z
      · exact h.no j x hx z
      · exact absurd (List.mem_singleton.mp z).symm c
  · have c : k ≠ j := fun z => hj (List.mem_append_right _ (by rw [z]; exact List.mem_singleton_self _))
    rw [List.getElem?_set_ne c] at hx
    exact h.nd j x hx fun z => hj (List.mem_append_left _ z)
/-! ### law 45 -/
-- DEF law N ['_law_script', '_law_deal_here', '_law_turn', '_law_tome', '_law_many', '_law_size', '_law_tables', '_law_lost', '_law_k', '_law_other', '_law_at'] calls ['_law_deal', '_law_draw', '_law_one_to_one', '_law_with_tables', '_law_right', '_law_row'] takes []
def pb_law45_1 : PSx :=
    pAsg (pIxLls 6 10 2) (gLls 6 10 (pCall psp_draw (pCons (pVar 1) (pCons (pFz (pK (.int 2))) (pNil))) noX))
def pr_law45_1 : PSx :=
    pSet 7 (pIx (pLst (pCons (pTup (pCons (pK (.int 1)) (pCons (pK (.int 0)) (pNil)))) (pCons (pTup (pCons (pK (.int 2)) (pCons (pK (.int 0)) (pNil)))) (pCons (pTup (pCons (pK (.int 2)) (pCons (pK (.int 1)) (pNil)))) (pCons (pTup (pCons (pK (.int 3)) (pCons (pK (.int 0)) (pNil)))) (pCons (pTup (pCons (pK (.int 3)) (pCons (pK (.int 1)) (pNil)))) (pCons (pTup (pCons (pK (.int 3)) (pCons (pK (.int 2)) (pNil)))) (pCons (pTup (pCons (pK (.int 4)) (pCons (pK (.int 0)) (pNil)))) (pCons (pTup (pCons (pK (.int 4)) (pCons (pK (.int 1)) (pNil)))) (pCons (pTup (pCons (pK (.int 4)) (pCons (pK (.int 2)) (pNil)))) (pCons (pTup (pCons (pK (.int 4)) (pCons (pK (.int 3)) (pNil)))) (pNil)))))))))))) (pVar 8))
def pr_law45_2 : PSx :=
    pSeq (pSet 8 (pC (q2 fMin2) (pCons (pVar 8) (pCons (pVar 9) (pNil)))))
    (pr_law45_1)
def pr_law45_3 : PSx :=
    pSeq (pFor [10] (iSeq (pTup (pCons (pVar 8) (pCons (pVar 9) (pNil))))) (gN 10) (pb_law45_1))
    (pr_law45_2)
def pr_law45_4 : PSx :=
    pSeq (pSet 9 (pIx (pLst (pCons (pVar 8) (pCons (pCall psp_draw (pCons (pVar 1) (pCons (pFz (pLenLls 6)) (pNil))) noX) (pNil)))) (pCall psp_draw (pCons (pVar 1) (pCons (pFz (pK (.int 2))) (pNil))) noX)))
    (pr_law45_3)
def pr_law45_5 : PSx :=
    pIf (pNot (pT (pCall psp_lright45 (pCons (pVar 1) (pCons (pFz (pVar 3)) (pCons (pFz (pCall psp_lrow (pCons (pVar 1) (pCons (pFz (pVar 3)) (pCons (pFz (pCall psp_draw (pCons (pVar 1) (pCons (pFz (pK (.int 6))) (pNil))) noX)) (pNil)))) noX)) (pCons (pFz (pVar 7)) (pNil))))) noX))) (pRet (pK (.bool false))) (pNext)
def pr_law45_6 : PSx :=
    pSeq (pSet 3 (pCall psp_with_tables (pCons (pVar 1) (pCons (pFz (pVar 4)) (pCons (pFz (pVar 5)) (pCons (pVar 6) (pNil))))) noX))
    (pr_law45_5)
def pr_law45_7 : PSx :=
    pSeq (pIf (pT (pEq false (pMod (pVar 2) (pK (.int 2))) (pK (.int 1)))) (pSeq (pSet 8 (pCall psp_draw (pCons (pVar 1) (pCons (pFz (pLenLls 6)) (pNil))) noX))
    (pr_law45_4)) (pNext))
    (pr_law45_6)
def pr_law45_8 : PSx :=
    pSeq (pPar [6, 7, 8] (pCons (pCall psp_one_to_one (pCons (pVar 1) (pCons (pFz (pVar 4)) (pCons (pFz (pVar 5)) (pNil)))) noX) (pCons (pK .none) (pCons (pCall psp_draw (pCons (pVar 1) (pCons (pFz (pK (.int 2))) (pNil))) noX) (pNil)))))
    (pr_law45_7)
def pb_law45_10 : PSx :=
    pSeq (pPar [4, 5] (pCons (pAdd (pK (.int 2)) (pCall psp_draw (pCons (pVar 1) (pCons (pFz (pK (.int 4))) (pNil))) noX)) (pCons (pAdd (pK (.int 2)) (pCall psp_draw (pCons (pVar 1) (pCons (pFz (pK (.int 2))) (pNil))) noX)) (pNil))))
    (pr_law45_8)
def pr_law45_9 : PSx :=
    pRet (pK (.bool true))
def pr_law45_10 : PSx :=
    pSeq (pFor [2, 3, 4, 5, 6, 7, 8, 9, 10] (iRg (pCons (pK (.int 4)) (pNil))) (gN 2) (pb_law45_10))
    (pr_law45_9)
def p_law45 : PSx :=
    pSeq (pSet 1 (pCall psp_deal (pCons (pVar 0) (pCons (pFz (pK (.int 0))) (pNil))) noX))
    (pr_law45_10)
abbrev sw45 (ns : List Int) (s2 s3 s4 s5 s6 s7 s8 s9 s10 : Sl) : List Sl := [.ow true (.scr ns), .ow false .deal, s2, s3, s4, s5, s6, s7, s8, s9, s10]
/-- the book, and what is asked of it -/
theorem hp_ask45 {E : PEn} {ns : List Int} {s2 s8 s9 s10 : Sl} {m s : Nat} {bs : List Addr} {ts : List Tab} {o : Option Wk} (m1 : 1 ≤ m) (m5 : m ≤ 5) (b1 : 1 ≤ s) (b3 : s ≤ 3) (ok : AllOk (m : Int) (s : Int) ts) (ho : firstW (kindsP m) ts = o) (nd : o = none → ∀ t ∈ ts, t.Nodup)
    (q : ∀ x3 : PyData, E.nx (sw45 ns s2 (.im x3) (.im (nD m)) (.im (nD s)) (.ow false (.lls bs (llD ts))) (.im (fwD o)) s8 s9 s10)) :
    pr_law45_6 E (sw45 ns s2 .un (.im (nD m)) (.im (nD s)) (.ow false (.lls bs (llD ts))) (.im (fwD o)) s8 s9 s10) := by
  have tl := ok.len
  have n10 := nT_le (m := (m : Int)) (by omega) (by omega)
  refine ⟨_, _, rfl, _, _, rfl, _, rfl, (show [1, 6].Nodup by decide), (m : Int), (s : Int), bs, ts, rfl, by omega, by omega, by omega, fun ps pok => ⟨_, _, rfl, ?_⟩⟩
  have bk : BookOk (m : Int) ⟨ps, s, ts⟩ := ⟨pok, by omega, by omega, by show (1 : Int) ≤ s; omega, by show (s : Int) ≤ 6; omega, ok⟩
  show pr_law45_5 _ (sw45 ns s2 (.im (dB ⟨ps, s, ts⟩)) (.im (nD m)) (.im (nD s)) (.ow false (.lls bs (llD ts))) (.im (fwD o)) s8 s9 s10)
  have lo : lostQ m ⟨ps, s, ts⟩ o := by
    cases o with
    | some p => trivial
    | none => exact ⟨bk, nd rfl, fun t ht => on_of (ok.ok t ht) (nd rfl t ht)⟩
  refine ⟨_, _, rfl, _, _, rfl, _, _, rfl, _, rfl, nd1 1, _, rfl, by decide, by decide, fun n hn => ?_⟩
  simp only [pk1]
  refine ⟨_, _, rfl, _, rfl, nd1 1, ⟨ps, s, ts⟩, (m : Int), n, rfl, bk, by omega, fun r rok rl => ?_⟩
  refine ⟨_, _, rfl, _, _, rfl, _, rfl, nd1 1, ⟨ps, s, ts⟩, r, o, rfl, m, s, bk, rfl, b3, rok, by omega, ho, lo, ?_⟩
  refine ⟨true, rfl, ?_⟩
  exact q _
theorem st45_1 {s : Nat} (h : 2 ≤ s) : 4 ≤ s * s := Nat.mul_le_mul h h
/-- one table or two are doubled -/
theorem hp_dbl45 {E : PEn} {ns : List Int} {i : Nat} {m s k k2 : Nat} {bs : List Addr} {ts : List Tab} {s7 : Sl} (s2 : 2 ≤ s) (s3 : s ≤ 3) (D : Dbl m s [] ts) (hk : k < ts.length) (hk2 : k2 < ts.length)
    (q : ∀ ts' : List Tab, Dbl m s [k, k2] ts' → pr_law45_2 E (sw45 ns (.im (nD i)) .un (.im (nD m)) (.im (nD s)) (.ow false (.lls bs (llD ts'))) s7 (.im (nD k)) (.im (nD k2)) .un)) :
    pr_law45_3 E (sw45 ns (.im (nD i)) .un (.im (nD m)) (.im (nD s)) (.ow false (.lls bs (llD ts))) s7 (.im (nD k)) (.im (nD k2)) .un) := by
  refine ⟨_, _, _, rfl, rfl, ?_⟩
  have len : ∀ ts' : List Tab, (∃ b, Dbl m s b ts') → ts'.length = ts.length := fun ts' ⟨b, h⟩ => by
    have h1 := h.ok.len
    have h2 := D.ok.len
    omega
  refine for_dN [k, k2] (fun j δ => ∃ ts', Dbl m s ([k, k2].take j) ts' ∧ δ = sw45 ns (.im (nD i)) .un (.im (nD m)) (.im (nD s)) (.ow false (.lls bs (llD ts'))) s7 (.im (nD k)) (.im (nD k2)) .un) ⟨ts, D, rfl⟩ ?_ ?_
  · rintro j x δ hx ⟨ts', D', rfl⟩
    have el := len ts' ⟨_, D'⟩
    have hj := (List.getElem?_eq_some_iff.mp hx).1
    have hxl : x < ts'.length := by
      have := List.mem_of_getElem? hx
      rcases List.mem_cons.mp this with rfl | z
      · omega
      · rw [List.mem_singleton.mp z]; omega
    have ht : ts'[x]? = some ts'[x] := List.getElem?_eq_getElem hxl
    generalize ts'[x] = t at ht
    have t3 : 3 ≤ t.length := by
      have e := (D'.ok.ok t (List.mem_of_getElem? ht)).len
      have := st45_1 s2
      have e2 : ((s * s : Nat) : Int) = (t.length : Int) := by rw [e, Int.natCast_mul]
      omega
    have hd : (llD ts')[x]? = some (t.map dP) := by rw [List.getElem?_map, ht]; rfl
    have h2 : (t.map dP)[2]? = some (dP (wk t 2)) := by rw [List.getElem?_map, wk_get (show 2 < t.length by omega)]; rfl
    refine ⟨_, _, _, x, _, _, rfl, rfl, hd, atI_of (j := 2) rfl h2, ?_⟩
    refine ⟨_, _, rfl, _, _, _, x, _, rfl, rfl, hd, ?_⟩
    refine ⟨_, _, rfl, _, rfl, nd1 1, _, rfl, by decide, by decide, fun e he => ?_⟩
    refine ⟨_, _, _, _, e, rfl, rfl, hd, ixNn rfl (by rw [List.length_map]; omega), ?_⟩
    refine ⟨ts'.set x (t.set e (wk t 2)), ?_, ?_⟩
    · rw [List.take_add_one, hx]
      exact D'.set s2 ht (by omega)
    · unfold llD
      rw [List.map_set, List.map_set]
      rfl
  · rintro δ ⟨ts', D', rfl⟩
    exact q ts' D'
theorem hp_turn45 {E : PEn} {ns : List Int} {i : Nat}
    (q1 : ∀ (x3 x4 x5 x7 x8 : PyData) (bs : List Addr) (dss : List (List PyData)), E.nx (sw45 ns (.im (nD i)) (.im x3) (.im x4) (.im x5) (.ow false (.lls bs dss)) (.im x7) (.im x8) .un .un))
    (q2 : ∀ (x3 x4 x5 x7 x8 x9 : PyData) (bs : List Addr) (dss : List (List PyData)), E.nx (sw45 ns (.im (nD i)) (.im x3) (.im x4) (.im x5) (.ow false (.lls bs dss)) (.im x7) (.im x8) (.im x9) .un)) :
    pb_law45_10 E (sw45 ns (.im (nD i)) .un .un .un .un .un .un .un .un) := by
  refine ⟨_, _, rfl, _, rfl, nd1 1, _, rfl, by decide, by decide, fun a ha => ?_⟩
  simp only [pk1]
  refine ⟨_, _, rfl, _, rfl, nd1 1, _, rfl, by decide, by decide, fun b hb => ?_⟩
  simp only [pk1]
  obtain ⟨m, em⟩ : ∃ m : Nat, m = 2 + a := ⟨_, rfl⟩
  obtain ⟨s, es⟩ : ∃ s : Nat, s = 2 + b := ⟨_, rfl⟩
  have e1 : (2 : Int) + (a : Int) = (m : Int) := by omega
  have e2 : (2 : Int) + (b : Int) = (s : Int) := by omega
  refine ⟨_, _, rfl, ?_⟩
  show pr_law45_8 E (sw45 ns (.im (nD i)) .un (.im (.int (2 + (a : Int)))) (.im (.int (2 + (b : Int)))) .un .un .un .un .un)
  rw [e1, e2]
  show pr_law45_8 E (sw45 ns (.im (nD i)) .un (.im (nD m)) (.im (nD s)) .un .un .un .un .un)
  refine ⟨_, _, rfl, _, _, rfl, _, rfl, nd1 1, (m : Int), (s : Int), rfl, by omega, by omega, by omega, by omega, fun bs ts ok ond => ?_⟩
  refine ⟨_, _, rfl, _, rfl, nd1 1, _, rfl, by decide, by decide, fun c hc => ?_⟩
  simp only [pk1]
  have tl := ok.len
  have n10 := nT_le (m := (m : Int)) (by omega) (by omega)
  have kn := kindsP_nT (m := m) (by omega) (by omega)
  have D : Dbl m s [] ts := ⟨ok, fun j t h z => absurd z (List.not_mem_nil), fun j t h _ => ond t (List.mem_of_getElem? h)⟩
  refine ⟨_, _, rfl, ?_⟩
  show pr_law45_7 E (sw45 ns (.im (nD i)) .un (.im (nD m)) (.im (nD s)) (.ow false (.lls bs (llD ts))) (.im .none) (.im (nD c)) .un .un)
  refine ⟨(show (0 : Int) < 2 by decide), _, rfl, ?_⟩
  show if decide ((i : Int) % 2 = 1) = true then _ else _
  by_cases od : (i : Int) % 2 = 1
  · rw [if_pos (decide_eq_true od)]
    have n1 : 1 ≤ nT (m : Int) := by
      have : m = 2 ∨ m = 3 ∨ m = 4 ∨ m = 5 := by omega
      rcases this with rfl | rfl | rfl | rfl <;> decide
    have ll : ((llD ts).length : Int) = (ts.length : Int) := by rw [List.length_map]
    refine ⟨_, _, _, rfl, _, _, rfl, _, rfl, nd1 1, _, rfl, by omega, by omega, fun k hk => ?_⟩
    simp only [pk1]
    refine ⟨_, _, rfl, ?_⟩
    show pr_law45_4 _ (sw45 ns (.im (nD i)) .un (.im (nD m)) (.im (nD s)) (.ow false (.lls bs (llD ts))) (.im .none) (.im (nD k)) .un .un)
    refine ⟨_, _, _, rfl, _, _, rfl, _, rfl, nd1 1, _, rfl, by omega, by omega, fun k1 hk1 => ?_⟩
    simp only [pk1]
    refine ⟨_, _, rfl, _, rfl, nd1 1, _, rfl, by decide, by decide, fun z hz => ?_⟩
    simp only [pk1]
    obtain ⟨k2, ek, hk2⟩ : ∃ k2 : Nat, atI [nD k, nD k1] (z : Int) = some (nD k2) ∧ k2 < ts.length := by
      have : z = 0 ∨ z = 1 := by omega
      rcases this with rfl | rfl
      · exact ⟨k, rfl, by omega⟩
      · exact ⟨k1, rfl, by omega⟩
    refine ⟨_, ek, _, _, rfl, ?_⟩
    show pr_law45_3 _ (sw45 ns (.im (nD i)) .un (.im (nD m)) (.im (nD s)) (.ow false (.lls bs (llD ts))) (.im .none) (.im (nD k)) (.im (nD k2)) .un)
    refine hp_dbl45 (by omega) (by omega) D (by omega) hk2 fun ts' D' => ?_
    have tl' := D'.ok.len
    refine ⟨_, _, rfl, ?_⟩
    obtain ⟨j, ej, hj, hjm, hjn⟩ : ∃ j : Nat, (if (k2 : Int) < (k : Int) then (k2 : Int) else (k : Int)) = (j : Int) ∧ j < ts'.length ∧ j ∈ [k, k2] ∧ ∀ y, y < j → y ∉ [k, k2] := by
      by_cases c : (k2 : Int) < (k : Int)
      · rw [if_pos c]
        refine ⟨k2, rfl, by omega, by simp, fun y hy z => ?_⟩
        simp only [List.mem_cons, List.not_mem_nil, or_false] at z
        omega
      · rw [if_neg c]
        refine ⟨k, rfl, by omega, by simp, fun y hy z => ?_⟩
        simp only [List.mem_cons, List.not_mem_nil, or_false] at z
        omega
    show pr_law45_1 _ (sw45 ns (.im (nD i)) .un (.im (nD m)) (.im (nD s)) (.ow false (.lls bs (llD ts'))) (.im .none) (.im (.int (if (k2 : Int) < (k : Int) then (k2 : Int) else (k : Int)))) (.im (nD k2)) .un)
    rw [ej]
    have hp : (kindsP m)[j]? = some (kindsP m)[j] := List.getElem?_eq_getElem (by omega)
    generalize (kindsP m)[j] = p at hp
    have ht : ts'[j]? = some ts'[j] := List.getElem?_eq_getElem hj
    generalize ts'[j] = t at ht
    have fw : firstW (kindsP m) ts' = some p := firstW_min hp ht (D'.no j t ht hjm) fun y u hy hu => D'.nd y u hu (hjn y hy)
    refine ⟨_, atI_of (j := j) rfl (kindsP_lost (by omega) (by omega) hp), _, _, rfl, ?_⟩
    exact hp_ask45 (o := some p) (by omega) (by omega) (by omega) (by omega) D'.ok fw (fun z => nomatch z) fun x3 => q2 _ _ _ _ _ _ _ _
  · rw [if_neg (by rw [decide_eq_true_eq]; exact od)]
    exact hp_ask45 (o := none) (by omega) (by omega) (by omega) (by omega) ok (firstW_none ond) (fun _ => ond) fun x3 => q1 _ _ _ _ _ _ _
theorem hp_law45 (as : List Sl) (Qp : QE) (Ep : EX) (h : psp_law as Qp Ep) : p_law45 (endsP as Qp) (as ++ List.replicate 10 .un) := by
  obtain ⟨ns, rfl, hn, q⟩ := h
  have z24 : (10000 : Nat) < sizeLine := by decide
  refine ⟨_, _, rfl, _, rfl, nd1 0, 0, ns, rfl, by omega, by omega, hn, _, _, rfl, ?_⟩
  show pr_law45_10 _ (sw45 ns .un .un .un .un .un .un .un .un .un)
  refine ⟨by decide, by decide, ?_⟩
  refine for_rg 4 rfl (fun i δ => δ = sw45 ns .un .un .un .un .un .un .un .un .un) rfl ?_ ?_
  · rintro i δ hi rfl
    exact hp_turn45 (fun x3 x4 x5 x7 x8 bs dss => rfl) fun x3 x4 x5 x7 x8 x9 bs dss => rfl
  · rintro δ rfl
    exact ⟨_, _, rfl, q⟩
end Pv
namespace Wf
open PySem PySem.Spec L2 Pv LamX NdefX
/-- the rows of the linked text -/
def topS (i : Nat) : Stmt := PySem.Challenge.pw_wherefrom_k45_free_words_refused.main.body.getD i (.Pass ⟨0, 0, 0, 0⟩)
def clsS (i : Nat) : Stmt := match topS i with
  | .ClassDef _ _ _ body _ _ _ _ _ _ _ => body.getD 0 (.Pass ⟨0, 0, 0, 0⟩)
  | x => x
section
variable {P : Program} {w : World} {K : PySem.W.Frag} {mg : Str → Option Value} {base : Heap} {f : Addr} {fd : FuncData} {cNoWay cNoPassing cNoBook cNoOrder cRoadError : Addr} {T : List NTab}
abbrev s_init_NoPassing : Stmt := clsS 3
theorem sc_init_NoPassing : FnScope ["self", "at"] ["self", "at"] (defScope s_init_NoPassing) := ⟨rfl, rfl, rfl, by decide +kernel, rfl, by decide +kernel, by decide +kernel⟩
theorem ok_init_NoPassing (F : FunD K "__init__" "NoPassing.__init__" (defArgs s_init_NoPassing) (defBody s_init_NoPassing) (defScope s_init_NoPassing) [] [] f fd) (BC : BaseC K mg "RoadError" cRoadError) (O : OexC K cNoPassing) (n0 : PySem.W.findIn K (.ref cNoPassing) "at" = some none) : FnOk P w K mg base CX0 1 f fd ["self", "at"] (sp_init1 K cNoPassing "at") := by
  refine F.ok sc_init_NoPassing (fun vs H Q E h => ?_) (fun cdv A outer s H vs Q E hr h => ⟨_, PSs.nox ?_, pure_init1 (txt := "no passing there") O n0 vs H Q E h⟩)
  · obtain ⟨_, _, rfl, _⟩ := h
    rfl
  · exact pss_cons (ps_expr (pe_binit (pl := _) BC (by rfl) (pa_cons (pv 0) (pa_cons (pe_str) (pa_nil))))) (pss_one (ps_ost (pv 0) (pv 1)))
abbrev s_init_NoWay : Stmt := clsS 5
theorem sc_init_NoWay : FnScope ["self", "u", "v"] ["self", "u", "v"] (defScope s_init_NoWay) := ⟨rfl, rfl, rfl, by decide +kernel, rfl, by decide +kernel, by decide +kernel⟩
theorem ok_init_NoWay (F : FunD K "__init__" "NoWay.__init__" (defArgs s_init_NoWay) (defBody s_init_NoWay) (defScope s_init_NoWay) [] [] f fd) (BC : BaseC K mg "RoadError" cRoadError) (O : OexC K cNoWay) (n0 : PySem.W.findIn K (.ref cNoWay) "u" = some none) (n1 : PySem.W.findIn K (.ref cNoWay) "v" = some none) : FnOk P w K mg base CX0 1 f fd ["self", "u", "v"] (sp_init2 K cNoWay "u" "v") := by
  refine F.ok sc_init_NoWay (fun vs H Q E h => ?_) (fun cdv A outer s H vs Q E hr h => ⟨_, PSs.nox ?_, pure_init2 (txt := "no way back") O n0 n1 vs H Q E h⟩)
  · obtain ⟨_, _, _, rfl, _⟩ := h
    rfl
  · exact pss_cons (ps_expr (pe_binit (pl := _) BC (by rfl) (pa_cons (pv 0) (pa_cons (pe_str) (pa_nil))))) (pss_cons (ps_ost (pv 0) (pv 1)) (pss_one (ps_ost (pv 0) (pv 2))))
abbrev s_draw : Stmt := topS 25
abbrev N_draw : List Str := ["_law_deal_here", "_law_many", "_law_one", "_law_other", "_law_digit"]
theorem sc_draw : FnScope N_draw ["_law_deal_here", "_law_many"] (defScope s_draw) := ⟨rfl, rfl, rfl, by decide +kernel, rfl, by decide +kernel, by decide +kernel⟩
theorem ok_draw (F : FnP K "_law_draw" s_draw f fd) (B : Bl mg)  : FnOk P w K mg base CX0 1 f fd ["_law_deal_here", "_law_many"] sp_draw := by
  refine F.ok sc_draw (fun vs H Q E h => ?_) (fun cdv A outer s H vs Q E hr h => ⟨_, PSs.nox ?_, pure_draw (K := K) vs H Q E h⟩)
  · obtain ⟨_, _, _, rfl, _⟩ := h
    rfl
  · exact pss_cons (ps_while PassesOwn.never (PW.pt (pw_and (pt_cmpR op_eq (pe_dget (hu_of hr) (pv 0) (pe_str) (fun _ _ => rfl)) (pe_int) (nomark _)) (pw_and1 (pt_cmpR op_gt (pe_callB call_len (by rfl) B.b_len (by decide +kernel) (pa_cons (pe_dget (hu_of hr) (pv 0) (pe_str) (fun _ _ => rfl)) (pa_nil))) (pe_int) (nomark _))))) (pss_one (ps_dput (hu_of hr) (pv 0) (pe_str) (pe_bm0 PySem.F.plainAttrs_list PySem.F.slot_list_pop PySem.F.type_list_pop mt_pop (pe_dget (hu_of hr) (pv 0) (pe_str) (fun _ _ => rfl))) rfl)))
          (pss_cons (ps_if (pt_cmpR op_gt (pe_dget (hu_of hr) (pv 0) (pe_str) (fun _ _ => rfl)) (pe_int) (nomark _)) (pss_cons (ps_set (i := 4) sc_draw.nd rfl (by first | exact Or.inl rfl | exact Or.inr rfl) (pe_op op_mod (pe_dget (hu_of hr) (pv 0) (pe_str) (fun _ _ => rfl)) (pv 1)))
          (pss_cons (ps_dput (hu_of hr) (pv 0) (pe_str) (pe_op op_fdivW (pe_dget (hu_of hr) (pv 0) (pe_str) (fun _ _ => rfl)) (pv 1)) rfl)
          (pss_one (ps_ret (pv 4))))) (pss_nil))
          (pss_cons (ps_dput (hu_of hr) (pv 0) (pe_str) (pe_op op_add (pe_dget (hu_of hr) (pv 0) (pe_str) (fun _ _ => rfl)) (pe_int)) rfl)
          (pss_cons (ps_set (i := 2) sc_draw.nd rfl (by first | exact Or.inl rfl | exact Or.inr rfl) (pe_op op_mod (pe_op op_mul (pe_op op_add (pe_dget (hu_of hr) (pv 0) (pe_str) (fun _ _ => rfl)) (pe_op op_mul (pe_int) (pe_dget (hu_of hr) (pv 0) (pe_str) (fun _ _ => rfl)))) (pe_int)) (pe_int)))
          (pss_cons (ps_set (i := 3) sc_draw.nd rfl (by first | exact Or.inl rfl | exact Or.inr rfl) (pe_op op_mod (pe_op op_add (pe_op op_add (pe_op op_mul (pv 2) (pv 2)) (pe_op op_mul (pe_int) (pe_dget (hu_of hr) (pv 0) (pe_str) (fun _ _ => rfl)))) (pe_dget (hu_of hr) (pv 0) (pe_str) (fun _ _ => rfl))) (pe_int)))
          (pss_one (ps_ret (pe_op op_mod (pe_op op_fdiv (pe_op op_add (pe_op op_mul (pe_op op_mod (pe_op op_mul (pv 3) (pv 3)) (pe_int)) (pe_int)) (pv 2)) (pe_int)) (pv 1))))))))
abbrev s_deal : Stmt := topS 24
abbrev N_deal : List Str := ["_law_script", "_law_base", "_law_some", "_law_seed", "_law_one"]
theorem sc_deal : FnScope N_deal ["_law_script", "_law_base"] (defScope s_deal) := ⟨rfl, rfl, rfl, by decide +kernel, rfl, by decide +kernel, by decide +kernel⟩
theorem ok_deal (F : FnP K "_law_deal" s_deal f fd) (B : Bl mg)  : FnOk P w K mg base CX0 1 f fd ["_law_script", "_law_base"] (sp_deal K) := by
  refine F.ok sc_deal (fun vs H Q E h => ?_) (fun cdv A outer s H vs Q E hr h => ⟨_, PSs.nox ?_, pure_deal (K := K) vs H Q E h⟩)
  · obtain ⟨_, _, _, rfl, _⟩ := h
    rfl
  · exact pss_cons (ps_setLc (i := 2) (own := [("_law_one", 4)]) rfl sc_deal.nd rfl rfl (sw_true rfl rfl rfl (by decide +kernel)) (pi_list (pe_slice sl_list (pv 0) (po_some (pv 1)) (po_some (pe_int)))) (blkOk_by (N := N_deal) (sc := defScope s_deal) (by decide +kernel)) (fun _ _ _ _ _ => pg_name (i := 4) sc_deal.nd rfl (by first | exact Or.inl rfl | exact Or.inr rfl)) (fun _ _ _ _ _ => pts_nil) (fun _ _ _ _ _ => pe_callB (call_max2 rfl) (by rfl) B.b_max (by decide +kernel) (pa_cons (pv 4) (pa_cons (pe_op op_sub (pe_int) (pv 4)) (pa_nil)))))
          (pss_cons (ps_set (i := 3) sc_deal.nd rfl (by first | exact Or.inl rfl | exact Or.inr rfl) (pe_op op_add (pe_int) (pe_op op_mul (pe_int) (pv 1))))
          (pss_cons (ps_for PassesOwn.never rfl (pi_list (pv 2)) (pg_name (i := 4) sc_deal.nd rfl (by first | exact Or.inl rfl | exact Or.inr rfl)) (pss_one (ps_set (i := 3) sc_deal.nd rfl (by first | exact Or.inl rfl | exact Or.inr rfl) (pe_op op_mod (pe_op op_add (pe_op op_add (pe_op op_mul (pv 3) (pe_int)) (pe_op op_mod (pv 4) (pe_int))) (pe_int)) (pe_int)))))
          (pss_one (ps_ret (pe_disp (pps_cons (pe_str) (pe_op op_add (pv 3) (pe_int)) (pps_cons (pe_str) (pe_int) (pps_cons (pe_str) (pe_int) (pps_cons (pe_str) (Wf.pe_lstRev rfl (by rfl) B.b_list (by rfl) B.b_reversed (pe_lc (own := [("_law_one", 4)]) rfl sc_deal.nd (pi_list (pv 2)) (blkOk_by (N := N_deal) (sc := defScope s_deal) (by decide +kernel)) (fun _ _ _ _ _ => pg_name (i := 4) sc_deal.nd rfl (by first | exact Or.inl rfl | exact Or.inr rfl)) (fun _ _ _ _ _ => pts_one (pt_cmpR op_ge (pv 4) (pe_op op_pow (pe_int) (pe_int)) (nomark _))) (fun _ _ _ _ _ => pv 4))) (pps_nil))))) (by rfl) (by rfl) (fun z => by cases z) (by decide))))))
abbrev s_paces : Stmt := topS 26
abbrev N_paces : List Str := ["_law_deal_here", "_law_many", "_law_wide", "_law_steps", "_law_found", "_law_step", "_law_k"]
theorem sc_paces : FnScope N_paces ["_law_deal_here", "_law_many"] (defScope s_paces) := ⟨rfl, rfl, rfl, by decide +kernel, rfl, by decide +kernel, by decide +kernel⟩
theorem ok_paces (F : FnP K "_law_paces" s_paces f fd) (B : Bl mg) (C_draw : Cal P w K mg base CX0 1 "_law_draw" ["_law_deal_here", "_law_many"] sp_draw) : FnOk P w K mg base CX0 2 f fd ["_law_deal_here", "_law_many"] (sp_paces K) := by
  refine F.ok sc_paces (fun vs H Q E h => ?_) (fun cdv A outer s H vs Q E hr h => ⟨_, PSs.nox ?_, pure_paces (K := K) vs H Q E h⟩)
  · obtain ⟨_, _, _, rfl, _⟩ := h
    rfl
  · exact pss_cons (ps_set (i := 2) sc_paces.nd rfl (by first | exact Or.inl rfl | exact Or.inr rfl) (pe_lst (pa_cons (pe_int) (pa_cons (pe_int) (pa_cons (pe_int) (pa_cons (pe_op op_fdiv (pe_int) (pe_callB (call_max2 rfl) (by rfl) B.b_max (by decide +kernel) (pa_cons (pe_int) (pa_cons (pe_op op_sub (pv 1) (pe_int)) (pa_nil))))) (pa_nil)))))))
          (pss_cons (ps_setLc (i := 3) (own := [("_law_k", 6)]) rfl sc_paces.nd rfl rfl (sw_true rfl rfl rfl (by decide +kernel)) (pi_range1 (by rfl) B.b_range (pa_cons (pe_op op_sub (pv 1) (pe_int)) (pa_nil))) (blkOk_by (N := N_paces) (sc := defScope s_paces) (by decide +kernel)) (fun _ _ _ _ _ => pg_name (i := 6) sc_paces.nd rfl (by first | exact Or.inl rfl | exact Or.inr rfl)) (fun _ _ _ _ _ => pts_nil) (fun _ _ _ _ _ => pe_op op_add (pe_int) (Wf.pe_cal C_draw hr (by rfl) (pa_cons (pv 0) (pa_cons (pe_ix ix_list (pv 2) (Wf.pe_cal C_draw hr (by rfl) (pa_cons (pv 0) (pa_cons (pe_int) (pa_nil)))) (fun _ _ => rfl)) (pa_nil))))))
          (pss_cons (ps_set (i := 4) sc_paces.nd rfl (by first | exact Or.inl rfl | exact Or.inr rfl) (pe_lst (pa_cons (pe_op op_sub (Wf.pe_cal C_draw hr (by rfl) (pa_cons (pv 0) (pa_cons (pe_op op_sub (pe_int) (pe_callB (cr_sum rfl) (by rfl) B.b_sum (by decide +kernel) (pa_cons (pv 3) (pa_nil)))) (pa_nil)))) (pe_int)) (pa_nil))))
          (pss_cons (ps_for PassesOwn.never rfl (pi_list (pv 3)) (pg_name (i := 5) sc_paces.nd rfl (by first | exact Or.inl rfl | exact Or.inr rfl)) (pss_one (ps_expr (pe_bm PySem.F.plainAttrs_list PySem.F.slot_list_append PySem.F.type_list_append mt_append (pv 4) (pa_cons (pe_op op_add (pe_ix ix_list (pv 4) (pe_un un_neg (pe_int)) (fun _ _ => rfl)) (pv 5)) (pa_nil))))))
          (pss_one (ps_ret (pe_callTy call_tuple_of (by rfl) B.b_tuple (by decide +kernel) (pa_cons (pv 4) (pa_nil))))))))
abbrev s_mixed : Stmt := topS 27
abbrev N_mixed : List Str := ["_law_deal_here", "_law_many", "_law_turn", "_law_left", "_law_found"]
theorem sc_mixed : FnScope N_mixed ["_law_deal_here", "_law_many"] (defScope s_mixed) := ⟨rfl, rfl, rfl, by decide +kernel, rfl, by decide +kernel, by decide +kernel⟩
theorem ok_mixed (F : FnP K "_law_mixed" s_mixed f fd) (B : Bl mg) (C_draw : Cal P w K mg base CX0 1 "_law_draw" ["_law_deal_here", "_law_many"] sp_draw) : FnOk P w K mg base CX0 2 f fd ["_law_deal_here", "_law_many"] sp_mixed := by
  refine F.ok sc_mixed (fun vs H Q E h => ?_) (fun cdv A outer s H vs Q E hr h => ⟨_, PSs.nox ?_, pure_mixed (K := K) vs H Q E h⟩)
  · obtain ⟨_, _, _, rfl, _⟩ := h
    rfl
  · exact pss_cons (ps_par rfl sc_mixed.nd rfl rfl (by decide) rfl rfl (pa_cons (pe_listRg rfl (by rfl) B.b_list (prg_1 (by rfl) B.b_range (pv 1))) (pa_cons (pe_lst (pa_nil)) (pa_nil))) (by rfl))
          (pss_cons (ps_for PassesOwn.never rfl (pi_range1 (by rfl) B.b_range (pa_cons (pv 1) (pa_nil))) (pg_name (i := 2) sc_mixed.nd rfl (by first | exact Or.inl rfl | exact Or.inr rfl)) (pss_one (ps_expr (pe_bm PySem.F.plainAttrs_list PySem.F.slot_list_append PySem.F.type_list_append mt_append (pv 4) (pa_cons (pe_bm PySem.F.plainAttrs_list PySem.F.slot_list_pop PySem.F.type_list_pop mt_popAt (pv 3) (pa_cons (Wf.pe_cal C_draw hr (by rfl) (pa_cons (pv 0) (pa_cons (pe_callB call_len (by rfl) B.b_len (by decide +kernel) (pa_cons (pv 3) (pa_nil))) (pa_nil)))) (pa_nil))) (pa_nil))))))
          (pss_one (ps_ret (pv 4))))
abbrev s_is_number : Stmt := topS 7
abbrev N_is_number : List Str := ["thing"]
theorem sc_is_number : FnScope N_is_number ["thing"] (defScope s_is_number) := ⟨rfl, rfl, rfl, by decide +kernel, rfl, by decide +kernel, by decide +kernel⟩
theorem ok_is_number (F : FnP K "is_number" s_is_number f fd) (B : Bl mg)  : FnOk P w K mg base CX0 1 f fd ["thing"] (LSp K T psp_is_number) := by
  refine fn_ok (p := fun _ => p_is_number) F sc_is_number rfl rfl (by decide) (fun as Qp Ep h => by obtain ⟨_, rfl, _⟩ := h; rfl) (fun cdv A outer s H E Bh Bt Ep hr hx => JSs.nox ?_) hp_is_number
  exact jss_one (js_ret (je_and (je_isi (by unfold TyOk; decide) (by rfl) B.b_isinstance (pe_bltn (v := .ty "int") (by rfl) B.b_int (by decide +kernel) rfl) (jv 0)) (je_one (je_not (je_isi (by unfold TyOk; decide) (by rfl) B.b_isinstance (pe_bltn (v := .ty "bool") (by rfl) B.b_bool (by decide +kernel) rfl) (jv 0))))))
abbrev s_is_whole : Stmt := topS 8
abbrev N_is_whole : List Str := ["thing", "least", "most"]
theorem sc_is_whole : FnScope N_is_whole ["thing", "least", "most"] (defScope s_is_whole) := ⟨rfl, rfl, rfl, by decide +kernel, rfl, by decide +kernel, by decide +kernel⟩
theorem ok_is_whole (F : FnP K "is_whole" s_is_whole f fd) (B : Bl mg) (C_is_number : Cal P w K mg base CX0 1 "is_number" ["thing"] (LSp K T psp_is_number)) : FnOk P w K mg base CX0 2 f fd ["thing", "least", "most"] (LSp K T psp_is_whole) := by
  refine fn_ok (p := fun _ => p_is_whole) F sc_is_whole rfl rfl (by decide) (fun as Qp Ep h => by obtain ⟨_, _, _, rfl, _⟩ := h; rfl) (fun cdv A outer s H E Bh Bt Ep hr hx => JSs.nox ?_) hp_is_whole
  exact jss_one (js_ret (je_and (je_cal C_is_number hr (by rfl) (ja_cons (je_fz (jv 0)) (ja_nil))) (je_one (je_chain op_le op_le lc_le lc_le (jv 1) (jv 0) (jv 2)))))
abbrev s_table_number : Stmt := topS 9
abbrev N_table_number : List Str := ["u", "v"]
theorem sc_table_number : FnScope N_table_number ["u", "v"] (defScope s_table_number) := ⟨rfl, rfl, rfl, by decide +kernel, rfl, by decide +kernel, by decide +kernel⟩
theorem ok_table_number (F : FnP K "table_number" s_table_number f fd) (B : Bl mg)  : FnOk P w K mg base CX0 1 f fd ["u", "v"] (LSp K T psp_table_number) := by
  refine fn_ok (p := fun _ => p_table_number) F sc_table_number rfl rfl (by decide) (fun as Qp Ep h => by obtain ⟨_, _, rfl, _⟩ := h; rfl) (fun cdv A outer s H E Bh Bt Ep hr hx => JSs.nox ?_) hp_table_number
  exact jss_one (js_ret (je_add (je_fdiv (je_mul (jv 0) (je_sub (jv 0) (je_int))) (je_int)) (jv 1)))
abbrev s_pair_at : Stmt := topS 11
abbrev N_pair_at : List Str := ["book", "u", "v", "a", "b", "sorts", "tables"]
theorem sc_pair_at : FnScope N_pair_at ["book", "u", "v", "a", "b"] (defScope s_pair_at) := ⟨rfl, rfl, rfl, by decide +kernel, rfl, by decide +kernel, by decide +kernel⟩
theorem ok_pair_at (F : FnP K "pair_at" s_pair_at f fd) (B : Bl mg) (C_table_number : Cal P w K mg base CX0 1 "table_number" ["u", "v"] (LSp K T psp_table_number)) : FnOk P w K mg base CX0 2 f fd ["book", "u", "v", "a", "b"] (LSp K T psp_pair_at) := by
  refine fn_ok (p := fun _ => p_pair_at) F sc_pair_at rfl rfl (by decide) (fun as Qp Ep h => by obtain ⟨_, _, _, _, _, _, rfl, _⟩ := h; rfl) (fun cdv A outer s H E Bh Bt Ep hr hx => JSs.nox ?_) hp_pair_at
  exact jss_cons (js_par2 rfl sc_pair_at.nd rfl rfl (by decide) rfl rfl (ja_cons (je_ix (jv 0) (je_int) (fun _ _ => rfl)) (ja_cons (je_ix (jv 0) (je_int) (fun _ _ => rfl)) (ja_nil))) (by rfl))
    (jss_one (js_ret (je_ix (je_ix (jv 6) (je_cal C_table_number hr (by rfl) (ja_cons (je_fz (jv 1)) (ja_cons (je_fz (jv 2)) (ja_nil)))) (fun _ _ => rfl)) (je_add (je_mul (jv 3) (jv 5)) (jv 4)) (fun _ _ => rfl))))
abbrev s_is_letter : Stmt := topS 13
abbrev N_is_letter : List Str := ["k", "many"]
theorem sc_is_letter : FnScope N_is_letter ["k", "many"] (defScope s_is_letter) := ⟨rfl, rfl, rfl, by decide +kernel, rfl, by decide +kernel, by decide +kernel⟩
theorem ok_is_letter (F : FnP K "is_letter" s_is_letter f fd) (B : Bl mg) (C_is_whole : Cal P w K mg base CX0 2 "is_whole" ["thing", "least", "most"] (LSp K T psp_is_whole)) : FnOk P w K mg base CX0 3 f fd ["k", "many"] (LSp K T psp_is_letter) := by
  refine fn_ok (p := fun _ => p_is_letter) F sc_is_letter rfl rfl (by decide) (fun as Qp Ep h => by obtain ⟨_, _, rfl, _⟩ := h; rfl) (fun cdv A outer s H E Bh Bt Ep hr hx => JSs.nox ?_) hp_is_letter
  exact jss_one (js_ret (je_cal C_is_whole hr (by rfl) (ja_cons (je_fz (jv 0)) (ja_cons (je_fz (je_int)) (ja_cons (je_fz (je_sub (jv 1) (je_int))) (ja_nil))))))
abbrev s_order_ledP : Stmt := topS 15
abbrev N_order_ledP : List Str := ["kinds", "word", "may_pass", "order", "at", "k"]
theorem sc_order_ledP : FnScope N_order_ledP ["kinds", "word", "may_pass"] (defScope s_order_ledP) := ⟨rfl, rfl, rfl, by decide +kernel, rfl, by decide +kernel, by decide +kernel⟩
theorem ok_order_ledP (F : FnP K "order_led" s_order_ledP f fd) (B : Bl mg) (C_is_letter : Cal P w K mg base CX0 3 "is_letter" ["k", "many"] (LSp K T psp_is_letter)) (T_NoPassing : Err1 P w K mg base "NoPassing" "at" cNoPassing) : FnOk P w K mg base (L2.CX P w) 4 f fd ["kinds", "word", "may_pass"] (LSp K T (psp_order_ledP cNoPassing (LamOk P w K mg))) := by
  refine fn_ok (p := fun Ep => p_order_ledP cNoPassing (LamOk P w K mg) Ep) F sc_order_ledP rfl rfl (by decide) (fun as Qp Ep h => by obtain ⟨_, _, _, _, rfl, _⟩ := h; rfl) (fun cdv A outer s H E Bh Bt Ep hr hx => ?_) (hp_order_ledP (LamOk P w K mg) cNoPassing)
  exact jss_cons (js_set (i := 3) sc_order_ledP.nd rfl (by first | exact Or.inl rfl | exact Or.inr rfl) (je_lstRg rfl (by rfl) B.b_list (jr_1 (by rfl) B.b_range (je_cb call_len lc_len (by rfl) B.b_len (by decide +kernel) (ja_cons (jv 0) (ja_nil))))))
    (jss_cons (js_for (passes_of rfl) rfl (ji_enum (by rfl) B.b_enumerate (ja_cons (jv 1) (ja_nil))) (jg_tup rfl (jgs_cons (jg_name (i := 4) sc_order_ledP.nd rfl (by first | exact Or.inl rfl | exact Or.inr rfl)) (jgs_cons (jg_name (i := 5) sc_order_ledP.nd rfl (by first | exact Or.inl rfl | exact Or.inr rfl)) (jgs_nil)))) (jss_cons (js_if (jw_pt (jw_or (jb_not (jb_val (je_cal C_is_letter hr (by rfl) (ja_cons (je_fz (jv 5)) (ja_cons (je_fz (je_cb call_len lc_len (by rfl) B.b_len (by decide +kernel) (ja_cons (jv 3) (ja_nil)))) (ja_nil)))))) (jw_or1 (jb_not (jb_val (je_callL (fun _ _ h => h) hr rfl (by first | exact Or.inl rfl | exact Or.inr (Or.inl rfl) | exact Or.inr (Or.inr rfl)) (ja_cons (je_ix (jv 0) (je_ix (jv 3) (jv 5) (fun _ _ => rfl)) (fun _ _ => rfl)) (ja_cons (je_ix (jv 0) (je_ix (jv 3) (je_add (jv 5) (je_int)) (fun _ _ => rfl)) (fun _ _ => rfl)) (ja_nil))))))))) (jss_one (js_rz1 T_NoPassing hr rfl (takes_of rfl rfl rfl rfl) hx (by rfl) (ja_cons (je_fz (jv 4)) (ja_nil)))) (jss_nil))
    (jss_one (js_asg (je_tup (ja_cons (je_ix (jv 3) (je_add (jv 5) (je_int)) (fun _ _ => rfl)) (ja_cons (je_ix (jv 3) (jv 5) (fun _ _ => rfl)) (ja_nil)))) (jg_tup rfl (jgs_cons (jg_sub (jv 3) (jv 5)) (jgs_cons (jg_sub (jv 3) (je_add (jv 5) (je_int))) (jgs_nil))))))))
    (jss_one (js_ret (je_ct call_tupF lc_ptl (by rfl) B.b_tuple (by decide +kernel) (ja_cons (jv 3) (ja_nil))))))
def nmL : Nat → Nat → Str := fun l _ => "order_behind.<locals>.<lambda>"
def tabT (K : PySem.W.Frag) : List NTab := [((He.cT K ("order_behind", none)).2, nmL)]
theorem un_tabT (K : PySem.W.Frag) (P : Addr) : ∀ p ∈ tabT K, p.1 = P → p.2 = nmL := fun p hp _ => by
  simp only [tabT, List.mem_cons, List.not_mem_nil, or_false] at hp
  rcases hp with rfl <;> rfl
theorem tabs0 {K : PySem.W.Frag} {H : Hp} (h : ∀ p ∈ [(("order_behind" : Str), (none : Option Str))].map (He.cT K), H p.2 = some (.tbl #[])) : TabsN (tabT K) H := fun p hp => by
  simp only [tabT, List.mem_cons, List.not_mem_nil, or_false] at hp
  rcases hp with rfl
  · exact TabN.nil (h _ (by first | exact List.mem_cons_self | exact List.mem_cons_of_mem _ List.mem_cons_self))
abbrev s_order_behindP : Stmt := topS 14
abbrev N_order_behind : List Str := ["kinds", "word"]
theorem sc_order_behindP : FnScope N_order_behind ["kinds", "word"] (defScope s_order_behindP) := ⟨rfl, rfl, rfl, by decide +kernel, rfl, by decide +kernel, by decide +kernel⟩
abbrev lam_order_behindP : Expr := lamIn s_order_behindP
theorem scl_order_behindP : FnScope ["rear", "fore"] ["rear", "fore"] (lamS lam_order_behindP) := ⟨rfl, rfl, rfl, by decide +kernel, rfl, by decide +kernel, by decide +kernel⟩
theorem lok_order_behindP (c : Addr) : LamOk P w K mg ⟨"order_behind.<locals>.<lambda>", lamA lam_order_behindP, lamB lam_order_behindP, lamS lam_order_behindP, c⟩ gtB := by
  intro base A outer s H f x y us Q hr e0 hf hc r q
  refine run_lam (k := 0) (N := ["rear", "fore"]) (ps := ["rear", "fore"]) scl_order_behindP hr e0 hf hc (fun pm ctv => ?_) r rfl fun _ => ⟨_, pe_cmpR op_gt (pv 0) (pv 1) (nomark _), ?_⟩
  · cases r with
    | cons r1 r2 =>
      cases r2 with
      | cons r2 r3 => cases r3; rfl
  · exact ⟨_, rfl, _, rfl, _, _, rfl, rfl, q⟩
theorem ok_order_behindP {c Pt : Addr} (F : FnP K "order_behind" s_order_behindP f fd) (hc : fd.code = .ref c) (TB : TabB base mg c Pt) (mem : (Pt, nmL) ∈ T) (un : ∀ p ∈ T, p.1 = Pt → p.2 = nmL) (C_ol : Cal P w K mg base (L2.CX P w) 4 "order_led" ["kinds", "word", "may_pass"] (LSp K T (psp_order_ledP cNoPassing (LamOk P w K mg)))) : FnOk P w K mg base (L2.CX P w) 5 f fd ["kinds", "word"] (LSp K T (psp_order_behindP cNoPassing)) := by
  refine fn_okC (p := fun Ep => p_lamledP (LamOk P w K mg) "order_behind.<locals>.<lambda>" (lamA lam_order_behindP) (lamB lam_order_behindP) (lamS lam_order_behindP) cNoPassing Ep) F hc sc_order_behindP rfl rfl (by decide) (fun as Qp Ep h => by obtain ⟨_, _, rfl, _⟩ := h; rfl) (fun A outer s H E Bh Bt Ep hr hx => ?_) (hp_order_behindP lok_order_behindP cNoPassing)
  exact jss_one (js_ret (je_calX C_ol hr (takes_of rfl rfl rfl rfl) (fun _ _ _ _ z => z) hx (by rfl) (ja_cons (je_fz (jv 0)) (ja_cons (je_fz (jv 1)) (ja_cons (je_lam TB rfl mem (by rfl) un (by decide +kernel) rfl) (ja_nil))))))
abbrev s_two_kinds43 : Stmt := topS 10
abbrev N_two_kinds43 : List Str := ["many", "u", "v"]
theorem sc_two_kinds43 : FnScope N_two_kinds43 ["many"] (defScope s_two_kinds43) := ⟨rfl, rfl, rfl, by decide +kernel, rfl, by decide +kernel, by decide +kernel⟩
theorem ok_two_kinds43 (F : FnP K "two_kinds" s_two_kinds43 f fd) (B : Bl mg)  : FnOk P w K mg base CX0 1 f fd ["many"] (LSp K T psp_two_kinds43) := by
  refine fn_ok (p := fun _ => p_two_kinds43) F sc_two_kinds43 rfl rfl (by decide) (fun as Qp Ep h => by obtain ⟨_, rfl, _⟩ := h; rfl) (fun cdv A outer s H E Bh Bt Ep hr hx => JSs.nox ?_) hp_two_kinds43
  exact jss_one (js_ret (je_lc2 (own := [("u", 1), ("v", 2)]) [2] rfl sc_two_kinds43.nd (ji_rng1 (by rfl) B.b_range (ja_cons (jv 0) (ja_nil))) (blkOk_by (N := N_two_kinds43) (sc := defScope s_two_kinds43) (by decide +kernel)) (fun _ _ _ _ _ => jg_name (i := 1) sc_two_kinds43.nd rfl (by first | exact Or.inl rfl | exact Or.inr rfl)) (fun _ _ _ _ _ => jts_nil) (fun _ _ _ _ _ => ji_rng1 (by rfl) B.b_range (ja_cons (jv 1) (ja_nil))) (fun _ _ _ _ _ => jg_name (i := 2) sc_two_kinds43.nd rfl (by first | exact Or.inl rfl | exact Or.inr rfl)) (fun _ _ _ _ _ => jts_nil) (fun _ _ _ _ _ => je_tup (ja_cons (jv 1) (ja_cons (jv 2) (ja_nil))))))
abbrev s_look_back43 : Stmt := topS 17
abbrev N_look_back43 : List Str := ["book", "paces", "sorts", "tables", "table", "u", "v"]
theorem sc_look_back43 : FnScope N_look_back43 ["book"] (defScope s_look_back43) := ⟨rfl, rfl, rfl, by decide +kernel, rfl, by decide +kernel, by decide +kernel⟩
theorem ok_look_back43 (F : FnP K "look_back" s_look_back43 f fd) (B : Bl mg) (C_two_kinds43 : Cal P w K mg base CX0 1 "two_kinds" ["many"] (LSp K T psp_two_kinds43)) (T_NoWay : Err2 P w K mg base "NoWay" "u" "v" cNoWay) : FnOk P w K mg base (L2.CX P w) 3 f fd ["book"] (LSp K T (psp_look_back43 cNoWay)) := by
  refine fn_ok (p := fun Ep => p_look_back43 cNoWay Ep) F sc_look_back43 rfl rfl (by decide) (fun as Qp Ep h => by obtain ⟨_, _, rfl, _⟩ := h; rfl) (fun cdv A outer s H E Bh Bt Ep hr hx => ?_) (hp_look_back43 cNoWay)
  exact jss_cons (js_asg (jv 0) (jg_tup rfl (jgs_cons (jg_name (i := 1) sc_look_back43.nd rfl (by first | exact Or.inl rfl | exact Or.inr rfl)) (jgs_cons (jg_name (i := 2) sc_look_back43.nd rfl (by first | exact Or.inl rfl | exact Or.inr rfl)) (jgs_cons (jg_name (i := 3) sc_look_back43.nd rfl (by first | exact Or.inl rfl | exact Or.inr rfl)) (jgs_nil))))))
    (jss_cons (js_for (passes_of rfl) rfl (ji_zipM (by rfl) B.b_zip (ja_cons (je_cal C_two_kinds43 hr (by rfl) (ja_cons (je_fz (je_cb call_len lc_len (by rfl) B.b_len (by decide +kernel) (ja_cons (jv 1) (ja_nil)))) (ja_nil))) (ja_cons (jv 3) (ja_nil)))) (jg_tup rfl (jgs_cons (jg_tup rfl (jgs_cons (jg_name (i := 5) sc_look_back43.nd rfl (by first | exact Or.inl rfl | exact Or.inr rfl)) (jgs_cons (jg_name (i := 6) sc_look_back43.nd rfl (by first | exact Or.inl rfl | exact Or.inr rfl)) (jgs_nil)))) (jgs_cons (jg_name (i := 4) sc_look_back43.nd rfl (by first | exact Or.inl rfl | exact Or.inr rfl)) (jgs_nil)))) (jss_one (js_if (jb_lt (je_lenSet rfl hr.units1 (by rfl) B.b_len (by rfl) B.b_set (ja_cons (jv 4) (ja_nil))) (je_cb call_len lc_len (by rfl) B.b_len (by decide +kernel) (ja_cons (jv 4) (ja_nil)))) (jss_one (js_rz2 T_NoWay hr rfl (takes_of rfl rfl rfl rfl) hx (by rfl) (ja_cons (je_fz (jv 5)) (ja_cons (je_fz (jv 6)) (ja_nil))))) (jss_nil))))
    (jss_one (js_ret (je_bl))))
abbrev s_burdens_before : Stmt := topS 20
abbrev N_burdens_before : List Str := ["book", "u", "v", "pair", "table", "sorts", "tables", "at", "made"]
theorem sc_burdens_before : FnScope N_burdens_before ["book", "u", "v", "pair"] (defScope s_burdens_before) := ⟨rfl, rfl, rfl, by decide +kernel, rfl, by decide +kernel, by decide +kernel⟩
theorem ok_burdens_before (F : FnP K "burdens_before" s_burdens_before f fd) (B : Bl mg) (C_table_number : Cal P w K mg base CX0 1 "table_number" ["u", "v"] (LSp K T psp_table_number)) : FnOk P w K mg base CX0 2 f fd ["book", "u", "v", "pair"] (LSp K T psp_burdens_before) := by
  refine fn_ok (p := fun _ => p_burdens_before) F sc_burdens_before rfl rfl (by decide) (fun as Qp Ep h => by obtain ⟨_, _, _, _, _, rfl, _⟩ := h; rfl) (fun cdv A outer s H E Bh Bt Ep hr hx => JSs.nox ?_) hp_burdens_before
  exact jss_cons (js_parT (xs := []) (is := [5, 6]) (ja_cons (je_ix (jv 0) (je_int) (fun _ _ => rfl)) (ja_cons (je_ix (jv 0) (je_int) (fun _ _ => rfl)) (ja_nil))) (pg_tup rfl (pgs_cons (pg_name (i := 5) sc_burdens_before.nd rfl (by first | exact Or.inl rfl | exact Or.inr rfl)) (pgs_cons (pg_name (i := 6) sc_burdens_before.nd rfl (by first | exact Or.inl rfl | exact Or.inr rfl)) (pgs_nil)))) (par_goS (par_goS (par_go0))))
    (jss_cons (js_set (i := 4) sc_burdens_before.nd rfl (by first | exact Or.inl rfl | exact Or.inr rfl) (je_ix (jv 6) (je_cal C_table_number hr (by rfl) (ja_cons (je_fz (jv 1)) (ja_cons (je_fz (jv 2)) (ja_nil)))) (fun _ _ => rfl)))
    (jss_one (js_ret (je_lc (own := [("at", 7), ("made", 8)]) rfl sc_burdens_before.nd (ji_enum (by rfl) B.b_enumerate (ja_cons (jv 4) (ja_nil))) (blkOk_by (N := N_burdens_before) (sc := defScope s_burdens_before) (by decide +kernel)) (fun _ _ _ _ _ => jg_tup rfl (jgs_cons (jg_name (i := 7) sc_burdens_before.nd rfl (by first | exact Or.inl rfl | exact Or.inr rfl)) (jgs_cons (jg_name (i := 8) sc_burdens_before.nd rfl (by first | exact Or.inl rfl | exact Or.inr rfl)) (jgs_nil)))) (fun _ _ _ _ _ => jts_one (jb_eq hr (jv 8) (jv 3))) (fun _ _ _ _ _ => je_cb call_divmod lc_divmod (by rfl) B.b_divmod (by decide +kernel) (ja_cons (jv 7) (ja_cons (jv 5) (ja_nil))))))))
abbrev s_freely_passed : Stmt := topS 19
abbrev N_freely_passed : List Str := ["book", "rear", "fore", "u", "a", "v", "b", "c", "d"]
theorem sc_freely_passed : FnScope N_freely_passed ["book", "rear", "fore"] (defScope s_freely_passed) := ⟨rfl, rfl, rfl, by decide +kernel, rfl, by decide +kernel, by decide +kernel⟩
theorem ok_freely_passed (F : FnP K "freely_passed" s_freely_passed f fd) (B : Bl mg) (C_pair_at : Cal P w K mg base CX0 2 "pair_at" ["book", "u", "v", "a", "b"] (LSp K T psp_pair_at)) (C_burdens_before : Cal P w K mg base CX0 2 "burdens_before" ["book", "u", "v", "pair"] (LSp K T psp_burdens_before)) : FnOk P w K mg base CX0 3 f fd ["book", "rear", "fore"] (LSp K T psp_freely_passed) := by
  refine fn_ok (p := fun _ => p_freely_passed) F sc_freely_passed rfl rfl (by decide) (fun as Qp Ep h => by obtain ⟨_, _, _, _, rfl, _⟩ := h; rfl) (fun cdv A outer s H E Bh Bt Ep hr hx => JSs.nox ?_) hp_freely_passed
  exact jss_cons (js_asg (jv 1) (jg_tup rfl (jgs_cons (jg_name (i := 3) sc_freely_passed.nd rfl (by first | exact Or.inl rfl | exact Or.inr rfl)) (jgs_cons (jg_name (i := 4) sc_freely_passed.nd rfl (by first | exact Or.inl rfl | exact Or.inr rfl)) (jgs_nil)))))
    (jss_cons (js_asg (jv 2) (jg_tup rfl (jgs_cons (jg_name (i := 5) sc_freely_passed.nd rfl (by first | exact Or.inl rfl | exact Or.inr rfl)) (jgs_cons (jg_name (i := 6) sc_freely_passed.nd rfl (by first | exact Or.inl rfl | exact Or.inr rfl)) (jgs_nil)))))
    (jss_cons (js_if (jb_gt (jv 3) (jv 5)) (jss_one (js_asg (je_cal C_pair_at hr (by rfl) (ja_cons (je_fz (jv 0)) (ja_cons (je_fz (jv 3)) (ja_cons (je_fz (jv 5)) (ja_cons (je_fz (jv 4)) (ja_cons (je_fz (jv 6)) (ja_nil))))))) (jg_tup rfl (jgs_cons (jg_name (i := 7) sc_freely_passed.nd rfl (by first | exact Or.inl rfl | exact Or.inr rfl)) (jgs_cons (jg_name (i := 8) sc_freely_passed.nd rfl (by first | exact Or.inl rfl | exact Or.inr rfl)) (jgs_nil)))))) (jss_one (js_asg (je_ix (je_cal C_burdens_before hr (by rfl) (ja_cons (je_fz (jv 0)) (ja_cons (je_fz (jv 5)) (ja_cons (je_fz (jv 3)) (ja_cons (je_fz (je_tup (ja_cons (jv 4) (ja_cons (jv 6) (ja_nil))))) (ja_nil)))))) (je_int) (fun _ _ => rfl)) (jg_tup rfl (jgs_cons (jg_name (i := 7) sc_freely_passed.nd rfl (by first | exact Or.inl rfl | exact Or.inr rfl)) (jgs_cons (jg_name (i := 8) sc_freely_passed.nd rfl (by first | exact Or.inl rfl | exact Or.inr rfl)) (jgs_nil)))))))
    (jss_one (js_ret (je_tup (ja_cons (je_tup (ja_cons (jv 5) (ja_cons (jv 7) (ja_nil)))) (ja_cons (je_tup (ja_cons (jv 3) (ja_cons (jv 8) (ja_nil)))) (ja_nil))))))))
abbrev s_led_freely45 : Stmt := topS 18
abbrev N_led_freely45 : List Str := ["book", "row", "word", "led", "at", "k"]
theorem sc_led_freely45 : FnScope N_led_freely45 ["book", "row", "word"] (defScope s_led_freely45) := ⟨rfl, rfl, rfl, by decide +kernel, rfl, by decide +kernel, by decide +kernel⟩
theorem ok_led_freely45 (F : FnP K "led_freely" s_led_freely45 f fd) (B : Bl mg) (C_look_back43 : Cal P w K mg base (L2.CX P w) 3 "look_back" ["book"] (LSp K T (psp_look_back43 cNoWay))) (C_is_letter : Cal P w K mg base CX0 3 "is_letter" ["k", "many"] (LSp K T psp_is_letter)) (C_freely_passed : Cal P w K mg base CX0 3 "freely_passed" ["book", "rear", "fore"] (LSp K T psp_freely_passed)) (T_NoPassing : Err1 P w K mg base "NoPassing" "at" cNoPassing) : FnOk P w K mg base (L2.CX P w) 4 f fd ["book", "row", "word"] (LSp K T (psp_led_freely45 cNoWay cNoPassing)) := by
  refine fn_ok (p := fun Ep => p_led_freely45 cNoWay cNoPassing Ep) F sc_led_freely45 rfl rfl (by decide) (fun as Qp Ep h => by obtain ⟨_, _, _, _, rfl, _⟩ := h; rfl) (fun cdv A outer s H E Bh Bt Ep hr hx => ?_) (hp_led_freely45 cNoWay cNoPassing)
  exact jss_cons (js_expr (je_calX C_look_back43 hr (takes_of rfl rfl rfl rfl) (fun _ _ _ _ z => z) hx (by rfl) (ja_cons (je_fz (jv 0)) (ja_nil))))
    (jss_cons (js_set (i := 3) sc_led_freely45.nd rfl (by first | exact Or.inl rfl | exact Or.inr rfl) (je_ct call_list_of lc_listOf (by rfl) B.b_list (by decide +kernel) (ja_cons (jv 1) (ja_nil))))
    (jss_cons (js_for (passes_of rfl) rfl (ji_enum (by rfl) B.b_enumerate (ja_cons (jv 2) (ja_nil))) (jg_tup rfl (jgs_cons (jg_name (i := 4) sc_led_freely45.nd rfl (by first | exact Or.inl rfl | exact Or.inr rfl)) (jgs_cons (jg_name (i := 5) sc_led_freely45.nd rfl (by first | exact Or.inl rfl | exact Or.inr rfl)) (jgs_nil)))) (jss_cons (js_if (jw_pt (jw_or (jb_not (jb_val (je_cal C_is_letter hr (by rfl) (ja_cons (je_fz (jv 5)) (ja_cons (je_fz (je_cb call_len lc_len (by rfl) B.b_len (by decide +kernel) (ja_cons (jv 3) (ja_nil)))) (ja_nil)))))) (jw_or1 (jb_eq hr (je_ix (je_ix (jv 3) (jv 5) (fun _ _ => rfl)) (je_int) (fun _ _ => rfl)) (je_ix (je_ix (jv 3) (je_add (jv 5) (je_int)) (fun _ _ => rfl)) (je_int) (fun _ _ => rfl)))))) (jss_one (js_rz1 T_NoPassing hr rfl (takes_of rfl rfl rfl rfl) hx (by rfl) (ja_cons (je_fz (jv 4)) (ja_nil)))) (jss_nil))
    (jss_one (js_asg (je_cal C_freely_passed hr (by rfl) (ja_cons (je_fz (jv 0)) (ja_cons (je_fz (je_ix (jv 3) (jv 5) (fun _ _ => rfl))) (ja_cons (je_fz (je_ix (jv 3) (je_add (jv 5) (je_int)) (fun _ _ => rfl))) (ja_nil))))) (jg_tup rfl (jgs_cons (jg_sub (jv 3) (jv 5)) (jgs_cons (jg_sub (jv 3) (je_add (jv 5) (je_int))) (jgs_nil))))))))
    (jss_one (js_ret (je_ct call_tuple_of lc_tupleOf (by rfl) B.b_tuple (by decide +kernel) (ja_cons (jv 3) (ja_nil)))))))
abbrev s_kturns : Stmt := topS 22
abbrev N_kturns : List Str := ["kinds", "word", "led", "turns", "k", "u", "v"]
theorem sc_kturns : FnScope N_kturns ["kinds", "word"] (defScope s_kturns) := ⟨rfl, rfl, rfl, by decide +kernel, rfl, by decide +kernel, by decide +kernel⟩
theorem ok_kturns (F : FnP K "kinds_at_turns" s_kturns f fd) (B : Bl mg)  : FnOk P w K mg base CX0 1 f fd ["kinds", "word"] (LSp K T psp_kturns) := by
  refine fn_ok (p := fun _ => p_kturns) F sc_kturns rfl rfl (by decide) (fun as Qp Ep h => by obtain ⟨_, _, rfl, _⟩ := h; rfl) (fun cdv A outer s H E Bh Bt Ep hr hx => JSs.nox ?_) hp_kturns
  exact jss_cons (js_set (i := 2) sc_kturns.nd rfl (by first | exact Or.inl rfl | exact Or.inr rfl) (je_ct call_list_of lc_listOf (by rfl) B.b_list (by decide +kernel) (ja_cons (jv 0) (ja_nil))))
    (jss_cons (js_set (i := 3) sc_kturns.nd rfl (by first | exact Or.inl rfl | exact Or.inr rfl) (je_lst (ja_nil)))
    (jss_cons (js_for PassesOwn.never rfl (ji_seq (jv 1)) (jg_name (i := 4) sc_kturns.nd rfl (by first | exact Or.inl rfl | exact Or.inr rfl)) (jss_cons (js_par2 rfl sc_kturns.nd rfl rfl (by decide) rfl rfl (ja_cons (je_ix (jv 2) (jv 4) (fun _ _ => rfl)) (ja_cons (je_ix (jv 2) (je_add (jv 4) (je_int)) (fun _ _ => rfl)) (ja_nil))) (by rfl))
    (jss_cons (js_expr (je_mt PySem.F.plainAttrs_list PySem.F.slot_list_append PySem.F.type_list_append mt_append mv_append (jv 3) (ja_cons (je_tup (ja_cons (jv 4) (ja_cons (jv 5) (ja_cons (jv 6) (ja_nil))))) (ja_nil))))
    (jss_one (js_asg (je_tup (ja_cons (jv 6) (ja_cons (jv 5) (ja_nil)))) (jg_tup rfl (jgs_cons (jg_sub (jv 2) (jv 4)) (jgs_cons (jg_sub (jv 2) (je_add (jv 4) (je_int))) (jgs_nil)))))))))
    (jss_one (js_ret (jv 3)))))
abbrev s_rahead : Stmt := topS 21
abbrev N_rahead : List Str := ["book", "kinds", "word", "burdens", "at_turns", "found", "k", "u", "v", "borne", "before"]
theorem sc_rahead : FnScope N_rahead ["book", "kinds", "word", "burdens"] (defScope s_rahead) := ⟨rfl, rfl, rfl, by decide +kernel, rfl, by decide +kernel, by decide +kernel⟩
theorem ok_rahead (F : FnP K "rows_ahead" s_rahead f fd) (B : Bl mg) (C_order_behindP : Cal P w K mg base (L2.CX P w) 5 "order_behind" ["kinds", "word"] (LSp K T (psp_order_behindP cNoPassing))) (C_kturns : Cal P w K mg base CX0 1 "kinds_at_turns" ["kinds", "word"] (LSp K T psp_kturns)) (C_burdens_before : Cal P w K mg base CX0 2 "burdens_before" ["book", "u", "v", "pair"] (LSp K T psp_burdens_before)) : FnOk P w K mg base (L2.CX P w) 6 f fd ["book", "kinds", "word", "burdens"] (LSp K T (psp_rahead cNoPassing)) := by
  refine fn_ok (p := fun Ep => p_rahead cNoPassing Ep) F sc_rahead rfl rfl (by decide) (fun as Qp Ep h => by obtain ⟨_, _, _, _, _, _, rfl, _⟩ := h; rfl) (fun cdv A outer s H E Bh Bt Ep hr hx => ?_) (hp_rahead cNoPassing)
  exact jss_cons (js_expr (je_calX C_order_behindP hr (takes_of rfl rfl rfl rfl) (fun _ _ _ _ z => z) hx (by rfl) (ja_cons (je_fz (jv 1)) (ja_cons (je_fz (jv 2)) (ja_nil)))))
    (jss_cons (js_set (i := 4) sc_rahead.nd rfl (by first | exact Or.inl rfl | exact Or.inr rfl) (je_cal C_kturns hr (by rfl) (ja_cons (je_fz (jv 1)) (ja_cons (je_fz (jv 2)) (ja_nil)))))
    (jss_cons (js_set (i := 5) sc_rahead.nd rfl (by first | exact Or.inl rfl | exact Or.inr rfl) (je_lst (ja_cons (jv 3) (ja_nil))))
    (jss_cons (js_for (passes_of rfl) rfl (ji_revL (by rfl) B.b_reversed (ja_cons (jv 4) (ja_nil))) (jg_tup rfl (jgs_cons (jg_name (i := 6) sc_rahead.nd rfl (by first | exact Or.inl rfl | exact Or.inr rfl)) (jgs_cons (jg_name (i := 7) sc_rahead.nd rfl (by first | exact Or.inl rfl | exact Or.inr rfl)) (jgs_cons (jg_name (i := 8) sc_rahead.nd rfl (by first | exact Or.inl rfl | exact Or.inr rfl)) (jgs_nil))))) (jss_one (js_setLc2 (i := 5) (own := [("borne", 9), ("before", 10)]) [10] rfl sc_rahead.nd rfl rfl (sw_true rfl rfl rfl (by decide +kernel)) (ji_seq (jv 5)) (blkOk_by (N := N_rahead) (sc := defScope s_rahead) (by decide +kernel)) (fun _ _ _ _ _ => jg_name (i := 9) sc_rahead.nd rfl (by first | exact Or.inl rfl | exact Or.inr rfl)) (fun _ _ _ _ _ => jts_nil) (fun _ _ _ _ _ => ji_seq (je_cal C_burdens_before hr (by rfl) (ja_cons (je_fz (jv 0)) (ja_cons (je_fz (jv 7)) (ja_cons (je_fz (jv 8)) (ja_cons (je_fz (je_slice (jv 9) (jo_some (jv 6)) (jo_some (je_add (jv 6) (je_int))))) (ja_nil))))))) (fun _ _ _ _ _ => jg_name (i := 10) sc_rahead.nd rfl (by first | exact Or.inl rfl | exact Or.inr rfl)) (fun _ _ _ _ _ => jts_nil) (fun _ _ _ _ _ => je_add (je_add (je_slice (jv 9) (jo_none) (jo_some (jv 6))) (jv 10)) (je_slice (jv 9) (jo_some (je_add (jv 6) (je_int))) (jo_none))))))
    (jss_one (js_ret (je_ct call_tuple_of lc_tupleOf (by rfl) B.b_tuple (by decide +kernel) (ja_cons (je_cb cr_sortZ lc_sortZ (by rfl) B.b_sorted (by decide +kernel) (ja_cons (jv 5) (ja_nil))) (ja_nil))))))))
abbrev s_one_to_one : Stmt := topS 28
abbrev N_one_to_one : List Str := ["_law_deal_here", "_law_many", "_law_size", "_law_found", "_law_k", "_law_n"]
theorem sc_one_to_one : FnScope N_one_to_one ["_law_deal_here", "_law_many", "_law_size"] (defScope s_one_to_one) := ⟨rfl, rfl, rfl, by decide +kernel, rfl, by decide +kernel, by decide +kernel⟩
theorem ok_one_to_one (F : FnP K "_law_one_to_one" s_one_to_one f fd) (B : Bl mg) (C_mixed : Cal P w K mg base CX0 2 "_law_mixed" ["_law_deal_here", "_law_many"] sp_mixed) : FnOk P w K mg base CX0 3 f fd ["_law_deal_here", "_law_many", "_law_size"] (sp_121 K) := by
  refine F.ok sc_one_to_one (fun vs H Q E h => ?_) (fun cdv A outer s H vs Q E hr h => ⟨_, PSs.nox ?_, pure_121 (K := K) vs H Q E h⟩)
  · obtain ⟨_, _, _, _, rfl, _⟩ := h
    rfl
  · exact pss_cons (ps_set (i := 3) sc_one_to_one.nd rfl (by first | exact Or.inl rfl | exact Or.inr rfl) (pe_lst (pa_nil)))
          (pss_cons (ps_for PassesOwn.never rfl (pi_range1 (by rfl) B.b_range (pa_cons (pe_op op_fdiv (pe_op op_mul (pv 1) (pe_op op_sub (pv 1) (pe_int))) (pe_int)) (pa_nil))) (pg_name (i := 4) sc_one_to_one.nd rfl (by first | exact Or.inl rfl | exact Or.inr rfl)) (pss_one (ps_expr (pe_bm PySem.F.plainAttrs_list PySem.F.slot_list_append PySem.F.type_list_append mt_append (pv 3) (pa_cons (pe_lc (own := [("_law_n", 5)]) rfl sc_one_to_one.nd (pi_list (Wf.pe_cal C_mixed hr (by rfl) (pa_cons (pv 0) (pa_cons (pe_op op_mul (pv 2) (pv 2)) (pa_nil))))) (blkOk_by (N := N_one_to_one) (sc := defScope s_one_to_one) (by decide +kernel)) (fun _ _ _ _ _ => pg_name (i := 5) sc_one_to_one.nd rfl (by first | exact Or.inl rfl | exact Or.inr rfl)) (fun _ _ _ _ _ => pts_nil) (fun _ _ _ _ _ => pe_tup (pa_cons (pe_op op_fdiv (pv 5) (pv 2)) (pa_cons (pe_op op_mod (pv 5) (pv 2)) (pa_nil))))) (pa_nil))))))
          (pss_one (ps_ret (pv 3))))
abbrev s_with_tables : Stmt := topS 29
abbrev N_with_tables : List Str := ["_law_deal_here", "_law_many", "_law_size", "_law_tables", "_law_table"]
theorem sc_with_tables : FnScope N_with_tables ["_law_deal_here", "_law_many", "_law_size", "_law_tables"] (defScope s_with_tables) := ⟨rfl, rfl, rfl, by decide +kernel, rfl, by decide +kernel, by decide +kernel⟩
theorem ok_with_tables (F : FnP K "_law_with_tables" s_with_tables f fd) (B : Bl mg) (C_paces : Cal P w K mg base CX0 2 "_law_paces" ["_law_deal_here", "_law_many"] (sp_paces K)) : FnOk P w K mg base CX0 3 f fd ["_law_deal_here", "_law_many", "_law_size", "_law_tables"] (sp_lwith K) := by
  refine F.ok sc_with_tables (fun vs H Q E h => ?_) (fun cdv A outer s H vs Q E hr h => ⟨_, PSs.nox ?_, pure_lwith (K := K) vs H Q E h⟩)
  · obtain ⟨_, _, _, _, _, _, _, _, rfl, _⟩ := h
    rfl
  · exact pss_one (ps_ret (pe_tup (pa_cons (Wf.pe_cal C_paces hr (by rfl) (pa_cons (pv 0) (pa_cons (pv 1) (pa_nil)))) (pa_cons (pv 2) (pa_cons (pe_callTy call_tuple_of (by rfl) B.b_tuple (by decide +kernel) (pa_cons (pe_lc (own := [("_law_table", 4)]) rfl sc_with_tables.nd (pi_list (pv 3)) (blkOk_by (N := N_with_tables) (sc := defScope s_with_tables) (by decide +kernel)) (fun _ _ _ _ _ => pg_name (i := 4) sc_with_tables.nd rfl (by first | exact Or.inl rfl | exact Or.inr rfl)) (fun _ _ _ _ _ => pts_nil) (fun _ _ _ _ _ => pe_callTy call_tuple_of (by rfl) B.b_tuple (by decide +kernel) (pa_cons (pv 4) (pa_nil)))) (pa_nil))) (pa_nil))))))
abbrev s_lrow : Stmt := topS 30
abbrev N_lrow : List Str := ["_law_deal_here", "_law_book", "_law_many", "_law_k"]
theorem sc_lrow : FnScope N_lrow ["_law_deal_here", "_law_book", "_law_many"] (defScope s_lrow) := ⟨rfl, rfl, rfl, by decide +kernel, rfl, by decide +kernel, by decide +kernel⟩
theorem ok_lrow (F : FnP K "_law_row" s_lrow f fd) (B : Bl mg) (C_draw : Cal P w K mg base CX0 1 "_law_draw" ["_law_deal_here", "_law_many"] (LSp K T psp_draw)) : FnOk P w K mg base CX0 2 f fd ["_law_deal_here", "_law_book", "_law_many"] (LSp K T psp_lrow) := by
  refine fn_ok (p := fun _ => p_lrow) F sc_lrow rfl rfl (by decide) (fun as Qp Ep h => by obtain ⟨_, _, _, rfl, _⟩ := h; rfl) (fun cdv A outer s H E Bh Bt Ep hr hx => JSs.nox ?_) hp_lrow
  exact jss_one (js_ret (je_ct call_tuple_of lc_tupleOf (by rfl) B.b_tuple (by decide +kernel) (ja_cons (je_lc (own := [("_law_k", 3)]) rfl sc_lrow.nd (ji_rng1 (by rfl) B.b_range (ja_cons (jv 2) (ja_nil))) (blkOk_by (N := N_lrow) (sc := defScope s_lrow) (by decide +kernel)) (fun _ _ _ _ _ => jg_name (i := 3) sc_lrow.nd rfl (by first | exact Or.inl rfl | exact Or.inr rfl)) (fun _ _ _ _ _ => jts_nil) (fun _ _ _ _ _ => je_tup (ja_cons (je_cal C_draw hr (by rfl) (ja_cons (jv 0) (ja_cons (je_fz (je_cb call_len lc_len (by rfl) B.b_len (by decide +kernel) (ja_cons (je_ix (jv 1) (je_int) (fun _ _ => rfl)) (ja_nil)))) (ja_nil)))) (ja_cons (je_cal C_draw hr (by rfl) (ja_cons (jv 0) (ja_cons (je_fz (je_ix (jv 1) (je_int) (fun _ _ => rfl))) (ja_nil)))) (ja_nil))))) (ja_nil))))
abbrev s_lword : Stmt := topS 31
abbrev N_lword : List Str := ["_law_deal_here", "_law_kinds", "_law_most", "_law_is_free", "_law_turn", "_law_standing", "_law_word_here", "_law_places", "_law_k"]
theorem sc_lword : FnScope N_lword ["_law_deal_here", "_law_kinds", "_law_most", "_law_is_free"] (defScope s_lword) := ⟨rfl, rfl, rfl, by decide +kernel, rfl, by decide +kernel, by decide +kernel⟩
theorem ok_lword (F : FnP K "_law_word" s_lword f fd) (B : Bl mg) (C_draw : Cal P w K mg base CX0 1 "_law_draw" ["_law_deal_here", "_law_many"] (LSp K T psp_draw)) : FnOk P w K mg base CX0 2 f fd ["_law_deal_here", "_law_kinds", "_law_most", "_law_is_free"] (LSp K T psp_lword) := by
  refine fn_ok (p := fun _ => p_lword) F sc_lword rfl rfl (by decide) (fun as Qp Ep h => by obtain ⟨_, _, _, _, rfl, _⟩ := h; rfl) (fun cdv A outer s H E Bh Bt Ep hr hx => JSs.nox ?_) hp_lword
  exact jss_cons (js_par2 rfl sc_lword.nd rfl rfl (by decide) rfl rfl (ja_cons (je_ct call_list_of lc_listOf (by rfl) B.b_list (by decide +kernel) (ja_cons (jv 1) (ja_nil))) (ja_cons (je_lst (ja_nil)) (ja_nil))) (by rfl))
    (jss_cons (js_for PassesOwn.never rfl (ji_rng1 (by rfl) B.b_range (ja_cons (jv 2) (ja_nil))) (jg_name (i := 4) sc_lword.nd rfl (by first | exact Or.inl rfl | exact Or.inr rfl)) (jss_cons (js_set (i := 7) sc_lword.nd rfl (by first | exact Or.inl rfl | exact Or.inr rfl) (je_lst (ja_nil)))
    (jss_cons (js_for PassesOwn.never rfl (ji_rng1 (by rfl) B.b_range (ja_cons (je_sub (je_cb call_len lc_len (by rfl) B.b_len (by decide +kernel) (ja_cons (jv 5) (ja_nil))) (je_int)) (ja_nil))) (jg_name (i := 8) sc_lword.nd rfl (by first | exact Or.inl rfl | exact Or.inr rfl)) (jss_one (js_if (jw_pt (jw_or (jb_gt (je_ix (jv 5) (jv 8) (fun _ _ => rfl)) (je_ix (jv 5) (je_add (jv 8) (je_int)) (fun _ _ => rfl))) (jw_or1 (jw_pt (jw_and (jb_val (jv 3)) (jw_and1 (jb_ne hr (je_ix (jv 5) (jv 8) (fun _ _ => rfl)) (je_ix (jv 5) (je_add (jv 8) (je_int)) (fun _ _ => rfl))))))))) (jss_one (js_expr (je_mt PySem.F.plainAttrs_list PySem.F.slot_list_append PySem.F.type_list_append mt_append mv_append (jv 7) (ja_cons (jv 8) (ja_nil))))) (jss_nil))))
    (jss_one (js_if (jb_ne hr (jv 7) (je_lst (ja_nil))) (jss_cons (js_set (i := 8) sc_lword.nd rfl (by first | exact Or.inl rfl | exact Or.inr rfl) (je_ix (jv 7) (je_cal C_draw hr (by rfl) (ja_cons (jv 0) (ja_cons (je_fz (je_cb call_len lc_len (by rfl) B.b_len (by decide +kernel) (ja_cons (jv 7) (ja_nil)))) (ja_nil)))) (fun _ _ => rfl)))
    (jss_cons (js_asg (je_tup (ja_cons (je_ix (jv 5) (je_add (jv 8) (je_int)) (fun _ _ => rfl)) (ja_cons (je_ix (jv 5) (jv 8) (fun _ _ => rfl)) (ja_nil)))) (jg_tup rfl (jgs_cons (jg_sub (jv 5) (jv 8)) (jgs_cons (jg_sub (jv 5) (je_add (jv 8) (je_int))) (jgs_nil)))))
    (jss_one (js_expr (je_mt PySem.F.plainAttrs_list PySem.F.slot_list_append PySem.F.type_list_append mt_append mv_append (jv 6) (ja_cons (jv 8) (ja_nil))))))) (jss_nil))))))
    (jss_one (js_ret (je_ct call_tuple_of lc_tupleOf (by rfl) B.b_tuple (by decide +kernel) (ja_cons (jv 6) (ja_nil))))))
abbrev s_lbadlet : Stmt := topS 32
abbrev N_lbadlet : List Str := ["_law_kinds", "_law_word_here", "_law_at", "_law_standing", "_law_k", "_law_some"]
theorem sc_lbadlet : FnScope N_lbadlet ["_law_kinds", "_law_word_here", "_law_at"] (defScope s_lbadlet) := ⟨rfl, rfl, rfl, by decide +kernel, rfl, by decide +kernel, by decide +kernel⟩
theorem ok_lbadlet (F : FnP K "_law_bad_letters" s_lbadlet f fd) (B : Bl mg)  : FnOk P w K mg base CX0 1 f fd ["_law_kinds", "_law_word_here", "_law_at"] (LSp K T psp_lbadlet) := by
  refine fn_ok (p := fun _ => p_lbadlet) F sc_lbadlet rfl rfl (by decide) (fun as Qp Ep h => by obtain ⟨_, _, _, rfl, _⟩ := h; rfl) (fun cdv A outer s H E Bh Bt Ep hr hx => JSs.nox ?_) hp_lbadlet
  exact jss_cons (js_set (i := 3) sc_lbadlet.nd rfl (by first | exact Or.inl rfl | exact Or.inr rfl) (je_ct call_list_of lc_listOf (by rfl) B.b_list (by decide +kernel) (ja_cons (jv 0) (ja_nil))))
    (jss_cons (js_for PassesOwn.never rfl (ji_seq (je_slice (jv 1) (jo_none) (jo_some (jv 2)))) (jg_name (i := 4) sc_lbadlet.nd rfl (by first | exact Or.inl rfl | exact Or.inr rfl)) (jss_one (js_asg (je_tup (ja_cons (je_ix (jv 3) (je_add (jv 4) (je_int)) (fun _ _ => rfl)) (ja_cons (je_ix (jv 3) (jv 4) (fun _ _ => rfl)) (ja_nil)))) (jg_tup rfl (jgs_cons (jg_sub (jv 3) (jv 4)) (jgs_cons (jg_sub (jv 3) (je_add (jv 4) (je_int))) (jgs_nil)))))))
    (jss_cons (js_set (i := 5) sc_lbadlet.nd rfl (by first | exact Or.inl rfl | exact Or.inr rfl) (je_lst (ja_cons (je_sub (je_int) (je_int)) (ja_cons (je_sub (je_cb call_len lc_len (by rfl) B.b_len (by decide +kernel) (ja_cons (jv 3) (ja_nil))) (je_int)) (ja_cons (je_cb call_len lc_len (by rfl) B.b_len (by decide +kernel) (ja_cons (jv 3) (ja_nil))) (ja_cons (je_sub (je_int) (je_cb call_len lc_len (by rfl) B.b_len (by decide +kernel) (ja_cons (jv 3) (ja_nil)))) (ja_cons (je_pow (je_int) (je_int)) (ja_nil))))))))
    (jss_cons (js_for PassesOwn.never rfl (ji_rng1 (by rfl) B.b_range (ja_cons (je_sub (je_cb call_len lc_len (by rfl) B.b_len (by decide +kernel) (ja_cons (jv 3) (ja_nil))) (je_int)) (ja_nil))) (jg_name (i := 4) sc_lbadlet.nd rfl (by first | exact Or.inl rfl | exact Or.inr rfl)) (jss_one (js_if (jb_eq hr (je_ix (jv 3) (jv 4) (fun _ _ => rfl)) (je_ix (jv 3) (je_add (jv 4) (je_int)) (fun _ _ => rfl))) (jss_one (js_expr (je_extend (jv 5) (ja_cons (je_lst (ja_cons (jv 4) (ja_cons (jv 4) (ja_cons (jv 4) (ja_nil))))) (ja_nil))))) (jss_nil))))
    (jss_one (js_ret (jv 5))))))
abbrev s_lwithbad : Stmt := topS 33
abbrev N_lwithbad : List Str := ["_law_deal_here", "_law_kinds", "_law_word_here", "_law_at", "_law_some"]
theorem sc_lwithbad : FnScope N_lwithbad ["_law_deal_here", "_law_kinds", "_law_word_here"] (defScope s_lwithbad) := ⟨rfl, rfl, rfl, by decide +kernel, rfl, by decide +kernel, by decide +kernel⟩
theorem ok_lwithbad (F : FnP K "_law_with_bad" s_lwithbad f fd) (B : Bl mg) (C_draw : Cal P w K mg base CX0 1 "_law_draw" ["_law_deal_here", "_law_many"] (LSp K T psp_draw)) (C_lbadlet : Cal P w K mg base CX0 1 "_law_bad_letters" ["_law_kinds", "_law_word_here", "_law_at"] (LSp K T psp_lbadlet)) : FnOk P w K mg base CX0 2 f fd ["_law_deal_here", "_law_kinds", "_law_word_here"] (LSp K T psp_lwithbad) := by
  refine fn_ok (p := fun _ => p_lwithbad) F sc_lwithbad rfl rfl (by decide) (fun as Qp Ep h => by obtain ⟨_, _, rfl, _⟩ := h; rfl) (fun cdv A outer s H E Bh Bt Ep hr hx => JSs.nox ?_) hp_lwithbad
  exact jss_cons (js_set (i := 3) sc_lwithbad.nd rfl (by first | exact Or.inl rfl | exact Or.inr rfl) (je_cal C_draw hr (by rfl) (ja_cons (jv 0) (ja_cons (je_fz (je_add (je_cb call_len lc_len (by rfl) B.b_len (by decide +kernel) (ja_cons (jv 2) (ja_nil))) (je_int))) (ja_nil)))))
    (jss_cons (js_set (i := 4) sc_lwithbad.nd rfl (by first | exact Or.inl rfl | exact Or.inr rfl) (je_cal C_lbadlet hr (by rfl) (ja_cons (je_fz (jv 1)) (ja_cons (je_fz (jv 2)) (ja_cons (je_fz (jv 3)) (ja_nil))))))
    (jss_one (js_ret (je_tup (ja_cons (je_add (je_add (je_slice (jv 2) (jo_none) (jo_some (jv 3))) (je_tup (ja_cons (je_ix (jv 4) (je_cal C_draw hr (by rfl) (ja_cons (jv 0) (ja_cons (je_fz (je_cb call_len lc_len (by rfl) B.b_len (by decide +kernel) (ja_cons (jv 4) (ja_nil)))) (ja_nil)))) (fun _ _ => rfl)) (ja_nil)))) (je_slice (jv 2) (jo_some (jv 3)) (jo_none))) (ja_cons (jv 3) (ja_nil)))))))
abbrev s_ltold45 : Stmt := topS 34
abbrev N_ltold45 : List Str := ["_law_way", "_law_book", "_law_some", "_law_word_here", "_law_borne", "_law_found", "e"]
theorem sc_ltold45 : FnScope N_ltold45 ["_law_way", "_law_book", "_law_some", "_law_word_here", "_law_borne"] (defScope s_ltold45) := ⟨rfl, rfl, rfl, by decide +kernel, rfl, by decide +kernel, by decide +kernel⟩
theorem ok_ltold45 (F : FnP K "_law_told" s_ltold45 f fd) (B : Bl mg) (C_led_freely45 : Cal P w K mg base (L2.CX P w) 4 "led_freely" ["book", "row", "word"] (LSp K T (psp_led_freely45 cNoWay cNoPassing))) (C_rahead : Cal P w K mg base (L2.CX P w) 6 "rows_ahead" ["book", "kinds", "word", "burdens"] (LSp K T (psp_rahead cNoPassing))) (K_NoWay : mg "NoWay" = some (.ref cNoWay)) (K_NoPassing : mg "NoPassing" = some (.ref cNoPassing)) (K_RoadError : mg "RoadError" = some (.ref cRoadError)) (K_NoBook : mg "NoBook" = some (.ref cNoBook)) (K_NoOrder : mg "NoOrder" = some (.ref cNoOrder)) (TF_NoWay : ToldG K cNoWay cRoadError [cNoBook, cNoOrder, cNoPassing]) (XF_NoWay : XfC K cNoWay) (NO_u : PySem.W.findIn K (.ref cNoWay) "u" = some none) (NO_v : PySem.W.findIn K (.ref cNoWay) "v" = some none) (TF_NoPassing : ToldG K cNoPassing cRoadError [cNoBook, cNoOrder, cNoWay]) (XF_NoPassing : XfC K cNoPassing) (NO_at : PySem.W.findIn K (.ref cNoPassing) "at" = some none) : FnOk P w K mg base CX0 7 f fd ["_law_way", "_law_book", "_law_some", "_law_word_here", "_law_borne"] (LSp K T psp_ltold45) := by
  refine fn_ok (p := fun _ => p_ltold45 cNoWay cNoPassing) F sc_ltold45 rfl rfl (by decide) (fun as Qp Ep h => by obtain ⟨_, _, _, _, _, rfl, _⟩ := h; rfl) (fun cdv A outer s H E Bh Bt Ep hr hx => ?_) (hp_ltold45 cNoWay cNoPassing (told_ne TF_NoWay TF_NoPassing (by simp)))
  exact jss_cons (js_set (i := 5) sc_ltold45.nd rfl (by first | exact Or.inl rfl | exact Or.inr rfl) (je_tup (ja_cons (je_str) (ja_nil))))
    (jss_cons (js_tryS (i := 6) (j := 5) rfl rfl sc_ltold45.nd rfl rfl ⟨rfl, by decide, Or.inl K_RoadError⟩ rfl (by first | exact Or.inl rfl | exact Or.inr rfl) (cat2_ok TF_NoWay TF_NoPassing) (fun W pn xe tk => psx_if (jb_eq hr (jv 0) (je_int)) (psx_expr (jx_call C_led_freely45 hr tk (by rfl) (ja_cons (je_fz (jv 1)) (ja_cons (je_fz (jv 2)) (ja_cons (je_fz (jv 3)) (ja_nil)))))) (psx_expr (jx_call C_rahead hr tk (by rfl) (ja_cons (je_fz (jv 1)) (ja_cons (je_fz (jv 2)) (ja_cons (je_fz (jv 3)) (ja_cons (je_fz (jv 4)) (ja_nil)))))))) (fun pn xe => je_tup (ja_cons (je_str) (ja_nil))) (fun a oe cls d pn hz hf => jss_cons (js_if (jw_pt (jw_and (jb_val (je_isX hz hf (sb2_ok TF_NoWay TF_NoPassing (by simp)) (.own _) (by rfl) B.b_isinstance (pv 6) (pe_glob (v := .ref cNoWay) (by rfl) K_NoWay rfl))) (jw_and1 (jb_not (jb_val (je_isXT hz hf (sb_two TF_NoWay) (clsV_all _) (by rfl) B.b_isinstance (pv 6) (pe_tup (pa_cons (pe_glob (v := .ref cNoBook) (by rfl) K_NoBook rfl) (pa_cons (pe_glob (v := .ref cNoOrder) (by rfl) K_NoOrder rfl) (pa_cons (pe_glob (v := .ref cNoPassing) (by rfl) K_NoPassing rfl) (pa_nil))))) (by show 3 ≤ sizeLine; decide))))))) (jss_one (js_set (i := 5) sc_ltold45.nd rfl (by first | exact Or.inl rfl | exact Or.inr rfl) (je_tup (ja_cons (je_str) (ja_cons (je_xf XF_NoWay NO_u hz hf (pv 6)) (ja_cons (je_xf XF_NoWay NO_v hz hf (pv 6)) (ja_nil))))))) (jss_nil))
    (jss_one (js_if (jw_pt (jw_and (jb_val (je_isX hz hf (sb2_ok TF_NoPassing TF_NoWay (by simp)) (.own _) (by rfl) B.b_isinstance (pv 6) (pe_glob (v := .ref cNoPassing) (by rfl) K_NoPassing rfl))) (jw_and1 (jb_not (jb_val (je_isXT hz hf (sb_two TF_NoPassing) (clsV_all _) (by rfl) B.b_isinstance (pv 6) (pe_tup (pa_cons (pe_glob (v := .ref cNoBook) (by rfl) K_NoBook rfl) (pa_cons (pe_glob (v := .ref cNoOrder) (by rfl) K_NoOrder rfl) (pa_cons (pe_glob (v := .ref cNoWay) (by rfl) K_NoWay rfl) (pa_nil))))) (by show 3 ≤ sizeLine; decide))))))) (jss_one (js_set (i := 5) sc_ltold45.nd rfl (by first | exact Or.inl rfl | exact Or.inr rfl) (je_tup (ja_cons (je_str) (ja_cons (je_xf XF_NoPassing NO_at hz hf (pv 6)) (ja_nil)))))) (jss_nil)))))
    (jss_one (js_ret (jv 5))))
abbrev s_lright45 : Stmt := topS 35
abbrev N_lright45 : List Str := ["_law_deal_here", "_law_tome", "_law_walkers", "_law_lost", "_law_free", "_law_onward", "_law_due", "_law_back", "_law_three", "_law_borne", "_law_bad", "_law_at", "_law_wrong", "_law_place", "_law_one"]
theorem sc_lright45 : FnScope N_lright45 ["_law_deal_here", "_law_tome", "_law_walkers", "_law_lost"] (defScope s_lright45) := ⟨rfl, rfl, rfl, by decide +kernel, rfl, by decide +kernel, by decide +kernel⟩
theorem ok_lright45 (F : FnP K "_law_right" s_lright45 f fd) (B : Bl mg) (C_lword : Cal P w K mg base CX0 2 "_law_word" ["_law_deal_here", "_law_kinds", "_law_most", "_law_is_free"] (LSp K T psp_lword)) (C_draw : Cal P w K mg base CX0 1 "_law_draw" ["_law_deal_here", "_law_many"] (LSp K T psp_draw)) (C_lwithbad : Cal P w K mg base CX0 2 "_law_with_bad" ["_law_deal_here", "_law_kinds", "_law_word_here"] (LSp K T psp_lwithbad)) (C_ltold45 : Cal P w K mg base CX0 7 "_law_told" ["_law_way", "_law_book", "_law_some", "_law_word_here", "_law_borne"] (LSp K T psp_ltold45)) : FnOk P w K mg base CX0 8 f fd ["_law_deal_here", "_law_tome", "_law_walkers", "_law_lost"] (LSp K T psp_lright45) := by
  refine fn_ok (p := fun _ => p_lright45) F sc_lright45 rfl rfl (by decide) (fun as Qp Ep h => by obtain ⟨_, _, _, rfl, _⟩ := h; rfl) (fun cdv A outer s H E Bh Bt Ep hr hx => JSs.nox ?_) hp_lright45
  exact jss_cons (js_par2 rfl sc_lright45.nd rfl rfl (by decide) rfl rfl (ja_cons (je_ct call_tuple_of lc_tupleOf (by rfl) B.b_tuple (by decide +kernel) (ja_cons (je_lc (own := [("_law_one", 14)]) rfl sc_lright45.nd (ji_seq (jv 2)) (blkOk_by (N := N_lright45) (sc := defScope s_lright45) (by decide +kernel)) (fun _ _ _ _ _ => jg_name (i := 14) sc_lright45.nd rfl (by first | exact Or.inl rfl | exact Or.inr rfl)) (fun _ _ _ _ _ => jts_nil) (fun _ _ _ _ _ => je_ix (jv 14) (je_int) (fun _ _ => rfl))) (ja_nil))) (ja_cons (je_ct call_tuple_of lc_tupleOf (by rfl) B.b_tuple (by decide +kernel) (ja_cons (je_lc (own := [("_law_one", 14)]) rfl sc_lright45.nd (ji_seq (jv 2)) (blkOk_by (N := N_lright45) (sc := defScope s_lright45) (by decide +kernel)) (fun _ _ _ _ _ => jg_name (i := 14) sc_lright45.nd rfl (by first | exact Or.inl rfl | exact Or.inr rfl)) (fun _ _ _ _ _ => jts_nil) (fun _ _ _ _ _ => je_ix (jv 14) (je_int) (fun _ _ => rfl))) (ja_nil))) (ja_nil))) (by rfl))
    (jss_cons (js_set (i := 4) sc_lright45.nd rfl (by first | exact Or.inl rfl | exact Or.inr rfl) (je_cal C_lword hr (by rfl) (ja_cons (jv 0) (ja_cons (je_fz (jv 8)) (ja_cons (je_fz (je_cal C_draw hr (by rfl) (ja_cons (jv 0) (ja_cons (je_fz (je_int)) (ja_nil))))) (ja_cons (je_fz (je_bl)) (ja_nil)))))))
    (jss_cons (js_set (i := 5) sc_lright45.nd rfl (by first | exact Or.inl rfl | exact Or.inr rfl) (je_cal C_lword hr (by rfl) (ja_cons (jv 0) (ja_cons (je_fz (jv 8)) (ja_cons (je_fz (je_cal C_draw hr (by rfl) (ja_cons (jv 0) (ja_cons (je_fz (je_int)) (ja_nil))))) (ja_cons (je_fz (je_bl)) (ja_nil)))))))
    (jss_cons (js_asg (je_cal C_lwithbad hr (by rfl) (ja_cons (jv 0) (ja_cons (je_fz (jv 8)) (ja_cons (je_fz (jv 4)) (ja_nil))))) (jg_tup rfl (jgs_cons (jg_name (i := 10) sc_lright45.nd rfl (by first | exact Or.inl rfl | exact Or.inr rfl)) (jgs_cons (jg_name (i := 11) sc_lright45.nd rfl (by first | exact Or.inl rfl | exact Or.inr rfl)) (jgs_nil)))))
    (jss_cons (js_set (i := 6) sc_lright45.nd rfl (by first | exact Or.inl rfl | exact Or.inr rfl) (je_ifExp (jb_is (jv 3) (je_non)) (je_tup (ja_cons (je_str) (ja_cons (jv 11) (ja_nil)))) (je_add (je_tup (ja_cons (je_str) (ja_nil))) (jv 3))))
    (jss_cons (js_if (jw_pt (jw_or (jb_ne hr (je_cal C_ltold45 hr (by rfl) (ja_cons (je_fz (je_int)) (ja_cons (je_fz (jv 1)) (ja_cons (je_fz (jv 2)) (ja_cons (je_fz (jv 10)) (ja_cons (je_fz (je_tup (ja_nil))) (ja_nil))))))) (jv 6)) (jw_or1 (jb_ne hr (je_cal C_ltold45 hr (by rfl) (ja_cons (je_fz (je_int)) (ja_cons (je_fz (jv 1)) (ja_cons (je_fz (jv 2)) (ja_cons (je_fz (je_add (jv 10) (je_tup (ja_cons (je_sub (je_int) (je_int)) (ja_nil))))) (ja_cons (je_fz (je_tup (ja_nil))) (ja_nil))))))) (jv 6))))) (jss_one (js_ret (je_bl))) (jss_nil))
    (jss_cons (js_if (jb_ne hr (je_is (jv 3) (je_non)) (je_eq hr (je_cal C_ltold45 hr (by rfl) (ja_cons (je_fz (je_int)) (ja_cons (je_fz (jv 1)) (ja_cons (je_fz (jv 2)) (ja_cons (je_fz (jv 4)) (ja_cons (je_fz (je_tup (ja_nil))) (ja_nil))))))) (je_tup (ja_cons (je_str) (ja_nil))))) (jss_one (js_ret (je_bl))) (jss_nil))
    (jss_cons (js_asg (je_cal C_lwithbad hr (by rfl) (ja_cons (jv 0) (ja_cons (je_fz (jv 8)) (ja_cons (je_fz (jv 5)) (ja_nil))))) (jg_tup rfl (jgs_cons (jg_name (i := 12) sc_lright45.nd rfl (by first | exact Or.inl rfl | exact Or.inr rfl)) (jgs_cons (jg_name (i := 13) sc_lright45.nd rfl (by first | exact Or.inl rfl | exact Or.inr rfl)) (jgs_nil)))))
    (jss_cons (js_if (jb_ne hr (je_cal C_ltold45 hr (by rfl) (ja_cons (je_fz (je_int)) (ja_cons (je_fz (jv 1)) (ja_cons (je_fz (jv 8)) (ja_cons (je_fz (jv 12)) (ja_cons (je_fz (jv 9)) (ja_nil))))))) (je_tup (ja_cons (je_str) (ja_cons (jv 13) (ja_nil))))) (jss_one (js_ret (je_bl))) (jss_nil))
    (jss_cons (js_set (i := 7) sc_lright45.nd rfl (by first | exact Or.inl rfl | exact Or.inr rfl) (je_ifExp (jb_gt (je_cb call_len lc_len (by rfl) B.b_len (by decide +kernel) (ja_cons (jv 5) (ja_nil))) (je_int)) (je_tup (ja_cons (je_str) (ja_cons (je_cb call_len lc_len (by rfl) B.b_len (by decide +kernel) (ja_cons (jv 5) (ja_nil))) (ja_nil)))) (je_tup (ja_cons (je_str) (ja_nil)))))
    (jss_one (js_ret (je_eq hr (je_cal C_ltold45 hr (by rfl) (ja_cons (je_fz (je_int)) (ja_cons (je_fz (jv 1)) (ja_cons (je_fz (jv 8)) (ja_cons (je_fz (je_add (jv 5) (je_slice (jv 5) (jo_some (je_neg (je_int))) (jo_none)))) (ja_cons (je_fz (jv 9)) (ja_nil))))))) (jv 7)))))))))))))
abbrev s_law45 : Stmt := topS 36
abbrev N_law45 : List Str := ["_law_script", "_law_deal_here", "_law_turn", "_law_tome", "_law_many", "_law_size", "_law_tables", "_law_lost", "_law_k", "_law_other", "_law_at"]
theorem sc_law45 : FnScope N_law45 ["_law_script"] (defScope s_law45) := ⟨rfl, rfl, rfl, by decide +kernel, rfl, by decide +kernel, by decide +kernel⟩
theorem ok_law45 (F : FnP K "law" s_law45 f fd) (B : Bl mg) (C_deal : Cal P w K mg base CX0 1 "_law_deal" ["_law_script", "_law_base"] (LSp K T psp_deal)) (C_draw : Cal P w K mg base CX0 1 "_law_draw" ["_law_deal_here", "_law_many"] (LSp K T psp_draw)) (C_one_to_one : Cal P w K mg base CX0 3 "_law_one_to_one" ["_law_deal_here", "_law_many", "_law_size"] (LSp K T psp_one_to_one)) (C_with_tables : Cal P w K mg base CX0 3 "_law_with_tables" ["_law_deal_here", "_law_many", "_law_size", "_law_tables"] (LSp K T psp_with_tables)) (C_lright45 : Cal P w K mg base CX0 8 "_law_right" ["_law_deal_here", "_law_tome", "_law_walkers", "_law_lost"] (LSp K T psp_lright45)) (C_lrow : Cal P w K mg base CX0 2 "_law_row" ["_law_deal_here", "_law_book", "_law_many"] (LSp K T psp_lrow)) : FnOk P w K mg base CX0 9 f fd ["_law_script"] (LSp K T psp_law) := by
  refine fn_ok (p := fun _ => p_law45) F sc_law45 rfl rfl (by decide) (fun as Qp Ep h => by obtain ⟨_, rfl, _⟩ := h; rfl) (fun cdv A outer s H E Bh Bt Ep hr hx => JSs.nox ?_) hp_law45
  exact jss_cons (js_set (i := 1) sc_law45.nd rfl (by first | exact Or.inl rfl | exact Or.inr rfl) (je_cal C_deal hr (by rfl) (ja_cons (jv 0) (ja_cons (je_fz (je_int)) (ja_nil)))))
    (jss_cons (js_for PassesOwn.never rfl (ji_rng1 (by rfl) B.b_range (ja_cons (je_int) (ja_nil))) (jg_name (i := 2) sc_law45.nd rfl (by first | exact Or.inl rfl | exact Or.inr rfl)) (jss_cons (js_par2 rfl sc_law45.nd rfl rfl (by decide) rfl rfl (ja_cons (je_add (je_int) (je_cal C_draw hr (by rfl) (ja_cons (jv 1) (ja_cons (je_fz (je_int)) (ja_nil))))) (ja_cons (je_add (je_int) (je_cal C_draw hr (by rfl) (ja_cons (jv 1) (ja_cons (je_fz (je_int)) (ja_nil))))) (ja_nil))) (by rfl))
    (jss_cons (js_par3 rfl sc_law45.nd rfl rfl rfl (by decide) (by decide) (by decide) rfl rfl rfl (ja_cons (je_cal C_one_to_one hr (by rfl) (ja_cons (jv 1) (ja_cons (je_fz (jv 4)) (ja_cons (je_fz (jv 5)) (ja_nil))))) (ja_cons (je_non) (ja_cons (je_cal C_draw hr (by rfl) (ja_cons (jv 1) (ja_cons (je_fz (je_int)) (ja_nil)))) (ja_nil)))) (by rfl))
    (jss_cons (js_if (jb_eq hr (je_mod (jv 2) (je_int)) (je_int)) (jss_cons (js_set (i := 8) sc_law45.nd rfl (by first | exact Or.inl rfl | exact Or.inr rfl) (je_cal C_draw hr (by rfl) (ja_cons (jv 1) (ja_cons (je_fz (je_lenLls (pe_callB call_len (by rfl) B.b_len (by decide +kernel) (pa_cons (pv 6) (pa_nil))))) (ja_nil)))))
    (jss_cons (js_set (i := 9) sc_law45.nd rfl (by first | exact Or.inl rfl | exact Or.inr rfl) (je_ix (je_lst (ja_cons (jv 8) (ja_cons (je_cal C_draw hr (by rfl) (ja_cons (jv 1) (ja_cons (je_fz (je_lenLls (pe_callB call_len (by rfl) B.b_len (by decide +kernel) (pa_cons (pv 6) (pa_nil))))) (ja_nil)))) (ja_nil)))) (je_cal C_draw hr (by rfl) (ja_cons (jv 1) (ja_cons (je_fz (je_int)) (ja_nil)))) (fun _ _ => rfl)))
    (jss_cons (js_for PassesOwn.never rfl (ji_seq (je_tup (ja_cons (jv 8) (ja_cons (jv 9) (ja_nil))))) (jg_name (i := 10) sc_law45.nd rfl (by first | exact Or.inl rfl | exact Or.inr rfl)) (jss_one (js_asg (je_ixLls (pe_ix ix_list (pe_ix ix_list (pv 6) (pv 10) (fun _ _ => rfl)) (pe_int) (fun _ _ => rfl))) (jg_lls (pe_ix ix_list (pv 6) (pv 10) (fun _ _ => rfl)) (je_cal C_draw hr (by rfl) (ja_cons (jv 1) (ja_cons (je_fz (je_int)) (ja_nil))))))))
    (jss_cons (js_set (i := 8) sc_law45.nd rfl (by first | exact Or.inl rfl | exact Or.inr rfl) (je_cb (call_min2 rfl) lc_min2 (by rfl) B.b_min (by decide +kernel) (ja_cons (jv 8) (ja_cons (jv 9) (ja_nil)))))
    (jss_one (js_set (i := 7) sc_law45.nd rfl (by first | exact Or.inl rfl | exact Or.inr rfl) (je_ix (je_lst (ja_cons (je_tup (ja_cons (je_int) (ja_cons (je_int) (ja_nil)))) (ja_cons (je_tup (ja_cons (je_int) (ja_cons (je_int) (ja_nil)))) (ja_cons (je_tup (ja_cons (je_int) (ja_cons (je_int) (ja_nil)))) (ja_cons (je_tup (ja_cons (je_int) (ja_cons (je_int) (ja_nil)))) (ja_cons (je_tup (ja_cons (je_int) (ja_cons (je_int) (ja_nil)))) (ja_cons (je_tup (ja_cons (je_int) (ja_cons (je_int) (ja_nil)))) (ja_cons (je_tup (ja_cons (je_int) (ja_cons (je_int) (ja_nil)))) (ja_cons (je_tup (ja_cons (je_int) (ja_cons (je_int) (ja_nil)))) (ja_cons (je_tup (ja_cons (je_int) (ja_cons (je_int) (ja_nil)))) (ja_cons (je_tup (ja_cons (je_int) (ja_cons (je_int) (ja_nil)))) (ja_nil)))))))))))) (jv 8) (fun _ _ => rfl)))))))) (jss_nil))
    (jss_cons (js_set (i := 3) sc_law45.nd rfl (by first | exact Or.inl rfl | exact Or.inr rfl) (je_cal C_with_tables hr (by rfl) (ja_cons (jv 1) (ja_cons (je_fz (jv 4)) (ja_cons (je_fz (jv 5)) (ja_cons (jv 6) (ja_nil)))))))
    (jss_one (js_if (jb_not (jb_val (je_cal C_lright45 hr (by rfl) (ja_cons (jv 1) (ja_cons (je_fz (jv 3)) (ja_cons (je_fz (je_cal C_lrow hr (by rfl) (ja_cons (jv 1) (ja_cons (je_fz (jv 3)) (ja_cons (je_fz (je_cal C_draw hr (by rfl) (ja_cons (jv 1) (ja_cons (je_fz (je_int)) (ja_nil))))) (ja_nil)))))) (ja_cons (je_fz (jv 7)) (ja_nil)))))))) (jss_one (js_ret (je_bl))) (jss_nil))))))))
    (jss_one (js_ret (je_bl))))
end
def dd_init_NoPassing : He.DefD := ⟨("NoPassing", some "__init__"), "__init__", "NoPassing.__init__", defArgs s_init_NoPassing, defBody s_init_NoPassing, defScope s_init_NoPassing, [], []⟩
def dd_init_NoWay : He.DefD := ⟨("NoWay", some "__init__"), "__init__", "NoWay.__init__", defArgs s_init_NoWay, defBody s_init_NoWay, defScope s_init_NoWay, [], []⟩
def dd_draw : He.DefD := ⟨("_law_draw", none), "_law_draw", "_law_draw", defArgs s_draw, defBody s_draw, defScope s_draw, [], []⟩
def dd_deal : He.DefD := ⟨("_law_deal", none), "_law_deal", "_law_deal", defArgs s_deal, defBody s_deal, defScope s_deal, [], []⟩
def dd_paces : He.DefD := ⟨("_law_paces", none), "_law_paces", "_law_paces", defArgs s_paces, defBody s_paces, defScope s_paces, [], []⟩
def dd_mixed : He.DefD := ⟨("_law_mixed", none), "_law_mixed", "_law_mixed", defArgs s_mixed, defBody s_mixed, defScope s_mixed, [], []⟩
def dd_is_number : He.DefD := ⟨("is_number", none), "is_number", "is_number", defArgs s_is_number, defBody s_is_number, defScope s_is_number, [], []⟩
def dd_is_whole : He.DefD := ⟨("is_whole", none), "is_whole", "is_whole", defArgs s_is_whole, defBody s_is_whole, defScope s_is_whole, [], []⟩
def dd_table_number : He.DefD := ⟨("table_number", none), "table_number", "table_number", defArgs s_table_number, defBody s_table_number, defScope s_table_number, [], []⟩
def dd_pair_at : He.DefD := ⟨("pair_at", none), "pair_at", "pair_at", defArgs s_pair_at, defBody s_pair_at, defScope s_pair_at, [], []⟩
def dd_is_letter : He.DefD := ⟨("is_letter", none), "is_letter", "is_letter", defArgs s_is_letter, defBody s_is_letter, defScope s_is_letter, [], []⟩
def dd_order_ledP : He.DefD := ⟨("order_led", none), "order_led", "order_led", defArgs s_order_ledP, defBody s_order_ledP, defScope s_order_ledP, [], []⟩
def dd_order_behindP : He.DefD := ⟨("order_behind", none), "order_behind", "order_behind", defArgs s_order_behindP, defBody s_order_behindP, defScope s_order_behindP, [], []⟩
def dd_two_kinds43 : He.DefD := ⟨("two_kinds", none), "two_kinds", "two_kinds", defArgs s_two_kinds43, defBody s_two_kinds43, defScope s_two_kinds43, [], []⟩
def dd_look_back43 : He.DefD := ⟨("look_back", none), "look_back", "look_back", defArgs s_look_back43, defBody s_look_back43, defScope s_look_back43, [], []⟩
def dd_burdens_before : He.DefD := ⟨("burdens_before", none), "burdens_before", "burdens_before", defArgs s_burdens_before, defBody s_burdens_before, defScope s_burdens_before, [], []⟩
def dd_freely_passed : He.DefD := ⟨("freely_passed", none), "freely_passed", "freely_passed", defArgs s_freely_passed, defBody s_freely_passed, defScope s_freely_passed, [], []⟩
def dd_led_freely45 : He.DefD := ⟨("led_freely", none), "led_freely", "led_freely", defArgs s_led_freely45, defBody s_led_freely45, defScope s_led_freely45, [], []⟩
def dd_kturns : He.DefD := ⟨("kinds_at_turns", none), "kinds_at_turns", "kinds_at_turns", defArgs s_kturns, defBody s_kturns, defScope s_kturns, [], []⟩
def dd_rahead : He.DefD := ⟨("rows_ahead", none), "rows_ahead", "rows_ahead", defArgs s_rahead, defBody s_rahead, defScope s_rahead, [], []⟩
def dd_one_to_one : He.DefD := ⟨("_law_one_to_one", none), "_law_one_to_one", "_law_one_to_one", defArgs s_one_to_one, defBody s_one_to_one, defScope s_one_to_one, [], []⟩
def dd_with_tables : He.DefD := ⟨("_law_with_tables", none), "_law_with_tables", "_law_with_tables", defArgs s_with_tables, defBody s_with_tables, defScope s_with_tables, [], []⟩
def dd_lrow : He.DefD := ⟨("_law_row", none), "_law_row", "_law_row", defArgs s_lrow, defBody s_lrow, defScope s_lrow, [], []⟩
def dd_lword : He.DefD := ⟨("_law_word", none), "_law_word", "_law_word", defArgs s_lword, defBody s_lword, defScope s_lword, [], []⟩
def dd_lbadlet : He.DefD := ⟨("_law_bad_letters", none), "_law_bad_letters", "_law_bad_letters", defArgs s_lbadlet, defBody s_lbadlet, defScope s_lbadlet, [], []⟩
def dd_lwithbad : He.DefD := ⟨("_law_with_bad", none), "_law_with_bad", "_law_with_bad", defArgs s_lwithbad, defBody s_lwithbad, defScope s_lwithbad, [], []⟩
def dd_ltold45 : He.DefD := ⟨("_law_told", none), "_law_told", "_law_told", defArgs s_ltold45, defBody s_ltold45, defScope s_ltold45, [], []⟩
def dd_lright45 : He.DefD := ⟨("_law_right", none), "_law_right", "_law_right", defArgs s_lright45, defBody s_lright45, defScope s_lright45, [], []⟩
def dd_law45 : He.DefD := ⟨("law", none), "law", "law", defArgs s_law45, defBody s_law45, defScope s_law45, [], []⟩
def fns : List He.DefD := [dd_init_NoPassing, dd_init_NoWay, dd_draw, dd_deal, dd_paces, dd_mixed, dd_is_number, dd_is_whole, dd_table_number, dd_pair_at, dd_is_letter, dd_order_ledP, dd_order_behindP, dd_two_kinds43, dd_look_back43, dd_burdens_before, dd_freely_passed, dd_led_freely45, dd_kturns, dd_rahead, dd_one_to_one, dd_with_tables, dd_lrow, dd_lword, dd_lbadlet, dd_lwithbad, dd_ltold45, dd_lright45, dd_law45]
def facs : List He.Fa := [.glo "_law_draw", .glo "_law_deal", .glo "_law_paces", .glo "_law_mixed", .glo "is_number", .glo "is_whole", .glo "table_number", .glo "pair_at", .glo "is_letter", .glo "order_led", .glo "order_behind", .glo "two_kinds", .glo "look_back", .glo "burdens_before", .glo "freely_passed", .glo "led_freely", .glo "kinds_at_turns", .glo "rows_ahead", .glo "_law_one_to_one", .glo "_law_with_tables", .glo "_law_row", .glo "_law_word", .glo "_law_bad_letters", .glo "_law_with_bad", .glo "_law_told", .glo "_law_right", .glo "law", .free "len", .free "list", .free "tuple", .free "reversed", .free "range", .free "max", .free "min", .free "sum", .free "all", .free "any", .free "zip", .free "enumerate", .free "isinstance", .free "int", .free "bool", .free "str", .free "repr", .free "divmod", .free "abs", .free "sorted", .free "set", .free "dict", .free "pow", .free "ValueError", .free "IndexError", .glo "RoadError", .glo "NoBook", .glo "NoPassing", .glo "NoOrder", .glo "NoWay"]
def exB (K : PySem.W.Frag) : Bool := errB K "NoPassing" ["at"] && (decide (PySem.W.exmOne K (.ref (He.ga K "NoPassing")) (.ref (He.ga K "RoadError")) = some true) && (decide (PySem.W.kitOne K (.ref (He.ga K "NoPassing")) (.ref (He.ga K "NoPassing")) = some true) && (decide (PySem.W.kitAny K (.ref (He.ga K "NoPassing")) [(.ref (He.ga K "NoBook")), (.ref (He.ga K "NoOrder")), (.ref (He.ga K "NoWay"))] = some false) && (errB K "NoWay" ["u", "v"] && (decide (PySem.W.exmOne K (.ref (He.ga K "NoWay")) (.ref (He.ga K "RoadError")) = some true) && (decide (PySem.W.kitOne K (.ref (He.ga K "NoWay")) (.ref (He.ga K "NoWay")) = some true) && (decide (PySem.W.kitAny K (.ref (He.ga K "NoWay")) [(.ref (He.ga K "NoBook")), (.ref (He.ga K "NoOrder")), (.ref (He.ga K "NoPassing"))] = some false) && (baseB K "RoadError"))))))))
abbrev rowR : PySem.W.OpenRow := PySem.W.OpenLaw.row PySem.Challenge.rw_wherefrom_k45_free_words_refused
def tfs : List He.Defn := [("order_behind", none)]
abbrev hk : PySem.W.Hook := Wf.hookV 6 facs fns tfs exB
def obA (s : PySem.W.SharedT) : He.AlD × Bool := Wf.obsV 6 facs fns tfs exB (HandSHeadRun.getT s)
theorem ob_eq (s : PySem.W.SharedT) : obA s = hk.obs s.abs := Wf.obsV_eq (HandSHeadRun.getT_eq s)
abbrev loose0 : List Str := ["RoadError", "NoBook", "NoPassing", "NoOrder", "NoWay", "is_number", "is_whole", "table_number", "two_kinds", "pair_at", "is_letter", "order_behind", "order_led", "look_back", "led_freely", "freely_passed", "burdens_before", "rows_ahead", "kinds_at_turns", "_law_deal", "_law_draw", "_law_paces", "_law_mixed", "_law_one_to_one"]
abbrev loose1 : List Str := ["_law_with_tables", "_law_row", "_law_word", "_law_bad_letters", "_law_with_bad", "_law_told", "_law_right"]
abbrev looseL : List Str := loose0 ++ loose1
theorem run_eq (w : World) : HandSHeadRun.RunEq rowR (PySem.W.view rowR.prog [36]) hk obA 4800 looseL w := by
  intro os
  kernel_rfl
theorem facts {P : Program} {w : World} {K : PySem.W.Frag} {h : Heap} {mg : Str → Option Value} {f : Addr} (X : K.In h) (G : h.Ns mainGlobals mg) (hfa : mg ("law" : Str) = some (.ref f)) (c : SaysV facs fns tfs exB h K) :
    ∃ fd : FuncData, (∀ (s : Shared) (v : Value), BindsTo s fd ⟨[v], []⟩ [("_law_script", v)]) ∧ ∀ base : Heap, K.In base → base.Ns mainGlobals mg → (∀ p ∈ tfs.map (He.cT K), TabB base mg p.1 p.2) → FnG P w K mg base CX0 9 f fd ["_law_script"] (LSp K (tabT K) psp_law) := by
  have cd := c.d
  have cm := c.more
  obtain ⟨fd_init_NoPassing, F_init_NoPassing⟩ := cd.def_ 0 (d := dd_init_NoPassing) rfl
  obtain ⟨fd_init_NoWay, F_init_NoWay⟩ := cd.def_ 1 (d := dd_init_NoWay) rfl
  obtain ⟨fd_draw, F_draw⟩ := cd.def_ 2 (d := dd_draw) rfl
  have g_draw := He.glo_ok X G (cd.fact 0 (f := .glo "_law_draw") rfl)
  obtain ⟨fd_deal, F_deal⟩ := cd.def_ 3 (d := dd_deal) rfl
  have g_deal := He.glo_ok X G (cd.fact 1 (f := .glo "_law_deal") rfl)
  obtain ⟨fd_paces, F_paces⟩ := cd.def_ 4 (d := dd_paces) rfl
  have g_paces := He.glo_ok X G (cd.fact 2 (f := .glo "_law_paces") rfl)
  obtain ⟨fd_mixed, F_mixed⟩ := cd.def_ 5 (d := dd_mixed) rfl
  have g_mixed := He.glo_ok X G (cd.fact 3 (f := .glo "_law_mixed") rfl)
  obtain ⟨fd_is_number, F_is_number⟩ := cd.def_ 6 (d := dd_is_number) rfl
  have g_is_number := He.glo_ok X G (cd.fact 4 (f := .glo "is_number") rfl)
  obtain ⟨fd_is_whole, F_is_whole⟩ := cd.def_ 7 (d := dd_is_whole) rfl
  have g_is_whole := He.glo_ok X G (cd.fact 5 (f := .glo "is_whole") rfl)
  obtain ⟨fd_table_number, F_table_number⟩ := cd.def_ 8 (d := dd_table_number) rfl
  have g_table_number := He.glo_ok X G (cd.fact 6 (f := .glo "table_number") rfl)
  obtain ⟨fd_pair_at, F_pair_at⟩ := cd.def_ 9 (d := dd_pair_at) rfl
  have g_pair_at := He.glo_ok X G (cd.fact 7 (f := .glo "pair_at") rfl)
  obtain ⟨fd_is_letter, F_is_letter⟩ := cd.def_ 10 (d := dd_is_letter) rfl
  have g_is_letter := He.glo_ok X G (cd.fact 8 (f := .glo "is_letter") rfl)
  obtain ⟨fd_order_ledP, F_order_ledP⟩ := cd.def_ 11 (d := dd_order_ledP) rfl
  have g_order_ledP := He.glo_ok X G (cd.fact 9 (f := .glo "order_led") rfl)
  obtain ⟨fd_order_behindP, F_order_behindP⟩ := cd.def_ 12 (d := dd_order_behindP) rfl
  have g_order_behindP := He.glo_ok X G (cd.fact 10 (f := .glo "order_behind") rfl)
  obtain ⟨fd_two_kinds43, F_two_kinds43⟩ := cd.def_ 13 (d := dd_two_kinds43) rfl
  have g_two_kinds43 := He.glo_ok X G (cd.fact 11 (f := .glo "two_kinds") rfl)
  obtain ⟨fd_look_back43, F_look_back43⟩ := cd.def_ 14 (d := dd_look_back43) rfl
  have g_look_back43 := He.glo_ok X G (cd.fact 12 (f := .glo "look_back") rfl)
  obtain ⟨fd_burdens_before, F_burdens_before⟩ := cd.def_ 15 (d := dd_burdens_before) rfl
  have g_burdens_before := He.glo_ok X G (cd.fact 13 (f := .glo "burdens_before") rfl)
  obtain ⟨fd_freely_passed, F_freely_passed⟩ := cd.def_ 16 (d := dd_freely_passed) rfl
  have g_freely_passed := He.glo_ok X G (cd.fact 14 (f := .glo "freely_passed") rfl)
  obtain ⟨fd_led_freely45, F_led_freely45⟩ := cd.def_ 17 (d := dd_led_freely45) rfl
  have g_led_freely45 := He.glo_ok X G (cd.fact 15 (f := .glo "led_freely") rfl)
  obtain ⟨fd_kturns, F_kturns⟩ := cd.def_ 18 (d := dd_kturns) rfl
  have g_kturns := He.glo_ok X G (cd.fact 16 (f := .glo "kinds_at_turns") rfl)
  obtain ⟨fd_rahead, F_rahead⟩ := cd.def_ 19 (d := dd_rahead) rfl
  have g_rahead := He.glo_ok X G (cd.fact 17 (f := .glo "rows_ahead") rfl)
  obtain ⟨fd_one_to_one, F_one_to_one⟩ := cd.def_ 20 (d := dd_one_to_one) rfl
  have g_one_to_one := He.glo_ok X G (cd.fact 18 (f := .glo "_law_one_to_one") rfl)
  obtain ⟨fd_with_tables, F_with_tables⟩ := cd.def_ 21 (d := dd_with_tables) rfl
  have g_with_tables := He.glo_ok X G (cd.fact 19 (f := .glo "_law_with_tables") rfl)
  obtain ⟨fd_lrow, F_lrow⟩ := cd.def_ 22 (d := dd_lrow) rfl
  have g_lrow := He.glo_ok X G (cd.fact 20 (f := .glo "_law_row") rfl)
  obtain ⟨fd_lword, F_lword⟩ := cd.def_ 23 (d := dd_lword) rfl
  have g_lword := He.glo_ok X G (cd.fact 21 (f := .glo "_law_word") rfl)
  obtain ⟨fd_lbadlet, F_lbadlet⟩ := cd.def_ 24 (d := dd_lbadlet) rfl
  have g_lbadlet := He.glo_ok X G (cd.fact 22 (f := .glo "_law_bad_letters") rfl)
  obtain ⟨fd_lwithbad, F_lwithbad⟩ := cd.def_ 25 (d := dd_lwithbad) rfl
  have g_lwithbad := He.glo_ok X G (cd.fact 23 (f := .glo "_law_with_bad") rfl)
  obtain ⟨fd_ltold45, F_ltold45⟩ := cd.def_ 26 (d := dd_ltold45) rfl
  have g_ltold45 := He.glo_ok X G (cd.fact 24 (f := .glo "_law_told") rfl)
  obtain ⟨fd_lright45, F_lright45⟩ := cd.def_ 27 (d := dd_lright45) rfl
  have g_lright45 := He.glo_ok X G (cd.fact 25 (f := .glo "_law_right") rfl)
  obtain ⟨fd_law45, F_law45⟩ := cd.def_ 28 (d := dd_law45) rfl
  have eq := hfa.symm.trans (He.glo_ok X G (cd.fact 26 (f := .glo "law") rfl))
  cases eq
  have B : Bl mg := ⟨He.free_ok X G (cd.fact 27 (f := .free "len") rfl), He.free_ok X G (cd.fact 28 (f := .free "list") rfl), He.free_ok X G (cd.fact 29 (f := .free "tuple") rfl), He.free_ok X G (cd.fact 30 (f := .free "reversed") rfl), He.free_ok X G (cd.fact 31 (f := .free "range") rfl), He.free_ok X G (cd.fact 32 (f := .free "max") rfl), He.free_ok X G (cd.fact 33 (f := .free "min") rfl), He.free_ok X G (cd.fact 34 (f := .free "sum") rfl), He.free_ok X G (cd.fact 35 (f := .free "all") rfl), He.free_ok X G (cd.fact 36 (f := .free "any") rfl), He.free_ok X G (cd.fact 37 (f := .free "zip") rfl), He.free_ok X G (cd.fact 38 (f := .free "enumerate") rfl), He.free_ok X G (cd.fact 39 (f := .free "isinstance") rfl), He.free_ok X G (cd.fact 40 (f := .free "int") rfl), He.free_ok X G (cd.fact 41 (f := .free "bool") rfl), He.free_ok X G (cd.fact 42 (f := .free "str") rfl), He.free_ok X G (cd.fact 43 (f := .free "repr") rfl), He.free_ok X G (cd.fact 44 (f := .free "divmod") rfl), He.free_ok X G (cd.fact 45 (f := .free "abs") rfl), He.free_ok X G (cd.fact 46 (f := .free "sorted") rfl), He.free_ok X G (cd.fact 47 (f := .free "set") rfl), He.free_ok X G (cd.fact 48 (f := .free "dict") rfl), He.free_ok X G (cd.fact 49 (f := .free "pow") rfl), He.free_ok X G (cd.fact 50 (f := .free "ValueError") rfl), He.free_ok X G (cd.fact 51 (f := .free "IndexError") rfl)⟩
  have K_RoadError := He.glo_ok X G (cd.fact 52 (f := .glo "RoadError") rfl)
  have K_NoBook := He.glo_ok X G (cd.fact 53 (f := .glo "NoBook") rfl)
  have K_NoPassing := He.glo_ok X G (cd.fact 54 (f := .glo "NoPassing") rfl)
  have K_NoOrder := He.glo_ok X G (cd.fact 55 (f := .glo "NoOrder") rfl)
  have K_NoWay := He.glo_ok X G (cd.fact 56 (f := .glo "NoWay") rfl)
  unfold exB at cm
  simp only [Bool.and_eq_true, decide_eq_true_eq] at cm
  obtain ⟨m1NoPassing, m3NoPassing, m4NoPassing, m5NoPassing, m1NoWay, m3NoWay, m4NoWay, m5NoWay, mb⟩ := cm
  have BC := baseB_ok mb K_RoadError
  have EF_NoWay := errB_ok m1NoWay
  have TF_NoWay : ToldG K (He.ga K "NoWay") (He.ga K "RoadError") [He.ga K "NoBook", He.ga K "NoOrder", He.ga K "NoPassing"] := ⟨m3NoWay, EF_NoWay.is_, m4NoWay, m5NoWay⟩
  have EF_NoPassing := errB_ok m1NoPassing
  have TF_NoPassing : ToldG K (He.ga K "NoPassing") (He.ga K "RoadError") [He.ga K "NoBook", He.ga K "NoOrder", He.ga K "NoWay"] := ⟨m3NoPassing, EF_NoPassing.is_, m4NoPassing, m5NoPassing⟩
  have b := FunD.bindsA (ps := ["_law_script"]) F_law45 fun _ _ _ _ _ _ us hl => match us, hl with | [_], _ => rfl
  refine ⟨fd_law45, fun s v => b s [v] rfl, fun base _ _ TB => ?_⟩
  have T_NoPassing : Err1 P w K mg base "NoPassing" "at" (He.ga K "NoPassing") := ⟨K_NoPassing, EF_NoPassing.o, _, fd_init_NoPassing, EF_NoPassing.i, EF_NoPassing.ti, ok_init_NoPassing F_init_NoPassing BC EF_NoPassing.o (EF_NoPassing.no "at" (by decide)), F_init_NoPassing.bindsN fun _ _ _ _ _ _ us hl => match us, hl with | [_, _], _ => rfl⟩
  have T_NoWay : Err2 P w K mg base "NoWay" "u" "v" (He.ga K "NoWay") := ⟨K_NoWay, EF_NoWay.o, _, fd_init_NoWay, EF_NoWay.i, EF_NoWay.ti, ok_init_NoWay F_init_NoWay BC EF_NoWay.o (EF_NoWay.no "u" (by decide)) (EF_NoWay.no "v" (by decide)), F_init_NoWay.bindsN fun _ _ _ _ _ _ us hl => match us, hl with | [_, _, _], _ => rfl⟩
  have C_draw : Cal P w K mg base CX0 1 "_law_draw" ["_law_deal_here", "_law_many"] sp_draw := ⟨_, fd_draw, ok_draw F_draw B , g_draw, F_draw.kp, F_draw.bindsN fun _ _ _ _ _ _ us hl => match us, hl with | [_, _], _ => rfl⟩
  have C_deal : Cal P w K mg base CX0 1 "_law_deal" ["_law_script", "_law_base"] (sp_deal K) := ⟨_, fd_deal, ok_deal F_deal B , g_deal, F_deal.kp, F_deal.bindsN fun _ _ _ _ _ _ us hl => match us, hl with | [_, _], _ => rfl⟩
  have C_paces : Cal P w K mg base CX0 2 "_law_paces" ["_law_deal_here", "_law_many"] (sp_paces K) := ⟨_, fd_paces, ok_paces F_paces B C_draw, g_paces, F_paces.kp, F_paces.bindsN fun _ _ _ _ _ _ us hl => match us, hl with | [_, _], _ => rfl⟩
  have C_mixed : Cal P w K mg base CX0 2 "_law_mixed" ["_law_deal_here", "_law_many"] sp_mixed := ⟨_, fd_mixed, ok_mixed F_mixed B C_draw, g_mixed, F_mixed.kp, F_mixed.bindsN fun _ _ _ _ _ _ us hl => match us, hl with | [_, _], _ => rfl⟩
  have C_is_number : Cal P w K mg base CX0 1 "is_number" ["thing"] (LSp K (tabT K) psp_is_number) := ⟨_, fd_is_number, ok_is_number F_is_number B , g_is_number, F_is_number.kp, F_is_number.bindsN fun _ _ _ _ _ _ us hl => match us, hl with | [_], _ => rfl⟩
  have C_is_whole : Cal P w K mg base CX0 2 "is_whole" ["thing", "least", "most"] (LSp K (tabT K) psp_is_whole) := ⟨_, fd_is_whole, ok_is_whole F_is_whole B C_is_number, g_is_whole, F_is_whole.kp, F_is_whole.bindsN fun _ _ _ _ _ _ us hl => match us, hl with | [_, _, _], _ => rfl⟩
  have C_table_number : Cal P w K mg base CX0 1 "table_number" ["u", "v"] (LSp K (tabT K) psp_table_number) := ⟨_, fd_table_number, ok_table_number F_table_number B , g_table_number, F_table_number.kp, F_table_number.bindsN fun _ _ _ _ _ _ us hl => match us, hl with | [_, _], _ => rfl⟩
  have C_pair_at : Cal P w K mg base CX0 2 "pair_at" ["book", "u", "v", "a", "b"] (LSp K (tabT K) psp_pair_at) := ⟨_, fd_pair_at, ok_pair_at F_pair_at B C_table_number, g_pair_at, F_pair_at.kp, F_pair_at.bindsN fun _ _ _ _ _ _ us hl => match us, hl with | [_, _, _, _, _], _ => rfl⟩
  have C_is_letter : Cal P w K mg base CX0 3 "is_letter" ["k", "many"] (LSp K (tabT K) psp_is_letter) := ⟨_, fd_is_letter, ok_is_letter F_is_letter B C_is_whole, g_is_letter, F_is_letter.kp, F_is_letter.bindsN fun _ _ _ _ _ _ us hl => match us, hl with | [_, _], _ => rfl⟩
  have C_order_ledP : Cal P w K mg base (L2.CX P w) 4 "order_led" ["kinds", "word", "may_pass"] (LSp K (tabT K) (psp_order_ledP (He.ga K "NoPassing") (LamOk P w K mg))) := ⟨_, fd_order_ledP, ok_order_ledP F_order_ledP B C_is_letter T_NoPassing, g_order_ledP, F_order_ledP.kp, F_order_ledP.bindsN fun _ _ _ _ _ _ us hl => match us, hl with | [_, _, _], _ => rfl⟩
  have C_order_behindP : Cal P w K mg base (L2.CX P w) 5 "order_behind" ["kinds", "word"] (LSp K (tabT K) (psp_order_behindP (He.ga K "NoPassing"))) := ⟨_, fd_order_behindP, ok_order_behindP F_order_behindP (code_of (p := ("order_behind", none)) F_order_behindP) (TB _ (by first | exact List.mem_cons_self | exact List.mem_cons_of_mem _ List.mem_cons_self)) (by first | exact List.mem_cons_self | exact List.mem_cons_of_mem _ List.mem_cons_self) (un_tabT K _) C_order_ledP, g_order_behindP, F_order_behindP.kp, F_order_behindP.bindsN fun _ _ _ _ _ _ us hl => match us, hl with | [_, _], _ => rfl⟩
  have C_two_kinds43 : Cal P w K mg base CX0 1 "two_kinds" ["many"] (LSp K (tabT K) psp_two_kinds43) := ⟨_, fd_two_kinds43, ok_two_kinds43 F_two_kinds43 B , g_two_kinds43, F_two_kinds43.kp, F_two_kinds43.bindsN fun _ _ _ _ _ _ us hl => match us, hl with | [_], _ => rfl⟩
  have C_look_back43 : Cal P w K mg base (L2.CX P w) 3 "look_back" ["book"] (LSp K (tabT K) (psp_look_back43 (He.ga K "NoWay"))) := ⟨_, fd_look_back43, ok_look_back43 F_look_back43 B C_two_kinds43 T_NoWay, g_look_back43, F_look_back43.kp, F_look_back43.bindsN fun _ _ _ _ _ _ us hl => match us, hl with | [_], _ => rfl⟩
  have C_burdens_before : Cal P w K mg base CX0 2 "burdens_before" ["book", "u", "v", "pair"] (LSp K (tabT K) psp_burdens_before) := ⟨_, fd_burdens_before, ok_burdens_before F_burdens_before B C_table_number, g_burdens_before, F_burdens_before.kp, F_burdens_before.bindsN fun _ _ _ _ _ _ us hl => match us, hl with | [_, _, _, _], _ => rfl⟩
  have C_freely_passed : Cal P w K mg base CX0 3 "freely_passed" ["book", "rear", "fore"] (LSp K (tabT K) psp_freely_passed) := ⟨_, fd_freely_passed, ok_freely_passed F_freely_passed B C_pair_at C_burdens_before, g_freely_passed, F_freely_passed.kp, F_freely_passed.bindsN fun _ _ _ _ _ _ us hl => match us, hl with | [_, _, _], _ => rfl⟩
  have C_led_freely45 : Cal P w K mg base (L2.CX P w) 4 "led_freely" ["book", "row", "word"] (LSp K (tabT K) (psp_led_freely45 (He.ga K "NoWay") (He.ga K "NoPassing"))) := ⟨_, fd_led_freely45, ok_led_freely45 F_led_freely45 B C_look_back43 C_is_letter C_freely_passed T_NoPassing, g_led_freely45, F_led_freely45.kp, F_led_freely45.bindsN fun _ _ _ _ _ _ us hl => match us, hl with | [_, _, _], _ => rfl⟩
  have C_kturns : Cal P w K mg base CX0 1 "kinds_at_turns" ["kinds", "word"] (LSp K (tabT K) psp_kturns) := ⟨_, fd_kturns, ok_kturns F_kturns B , g_kturns, F_kturns.kp, F_kturns.bindsN fun _ _ _ _ _ _ us hl => match us, hl with | [_, _], _ => rfl⟩
  have C_rahead : Cal P w K mg base (L2.CX P w) 6 "rows_ahead" ["book", "kinds", "word", "burdens"] (LSp K (tabT K) (psp_rahead (He.ga K "NoPassing"))) := ⟨_, fd_rahead, ok_rahead F_rahead B (C_order_behindP.imp (fun _ _ _ _ h => h)) C_kturns C_burdens_before, g_rahead, F_rahead.kp, F_rahead.bindsN fun _ _ _ _ _ _ us hl => match us, hl with | [_, _, _, _], _ => rfl⟩
  have C_one_to_one : Cal P w K mg base CX0 3 "_law_one_to_one" ["_law_deal_here", "_law_many", "_law_size"] (sp_121 K) := ⟨_, fd_one_to_one, ok_one_to_one F_one_to_one B C_mixed, g_one_to_one, F_one_to_one.kp, F_one_to_one.bindsN fun _ _ _ _ _ _ us hl => match us, hl with | [_, _, _], _ => rfl⟩
  have C_with_tables : Cal P w K mg base CX0 3 "_law_with_tables" ["_law_deal_here", "_law_many", "_law_size", "_law_tables"] (sp_lwith K) := ⟨_, fd_with_tables, ok_with_tables F_with_tables B C_paces, g_with_tables, F_with_tables.kp, F_with_tables.bindsN fun _ _ _ _ _ _ us hl => match us, hl with | [_, _, _, _], _ => rfl⟩
  have C_lrow : Cal P w K mg base CX0 2 "_law_row" ["_law_deal_here", "_law_book", "_law_many"] (LSp K (tabT K) psp_lrow) := ⟨_, fd_lrow, ok_lrow F_lrow B (C_draw.imp conv_draw), g_lrow, F_lrow.kp, F_lrow.bindsN fun _ _ _ _ _ _ us hl => match us, hl with | [_, _, _], _ => rfl⟩
  have C_lword : Cal P w K mg base CX0 2 "_law_word" ["_law_deal_here", "_law_kinds", "_law_most", "_law_is_free"] (LSp K (tabT K) psp_lword) := ⟨_, fd_lword, ok_lword F_lword B (C_draw.imp conv_draw), g_lword, F_lword.kp, F_lword.bindsN fun _ _ _ _ _ _ us hl => match us, hl with | [_, _, _, _], _ => rfl⟩
  have C_lbadlet : Cal P w K mg base CX0 1 "_law_bad_letters" ["_law_kinds", "_law_word_here", "_law_at"] (LSp K (tabT K) psp_lbadlet) := ⟨_, fd_lbadlet, ok_lbadlet F_lbadlet B , g_lbadlet, F_lbadlet.kp, F_lbadlet.bindsN fun _ _ _ _ _ _ us hl => match us, hl with | [_, _, _], _ => rfl⟩
  have C_lwithbad : Cal P w K mg base CX0 2 "_law_with_bad" ["_law_deal_here", "_law_kinds", "_law_word_here"] (LSp K (tabT K) psp_lwithbad) := ⟨_, fd_lwithbad, ok_lwithbad F_lwithbad B (C_draw.imp conv_draw) C_lbadlet, g_lwithbad, F_lwithbad.kp, F_lwithbad.bindsN fun _ _ _ _ _ _ us hl => match us, hl with | [_, _, _], _ => rfl⟩
  have C_ltold45 : Cal P w K mg base CX0 7 "_law_told" ["_law_way", "_law_book", "_law_some", "_law_word_here", "_law_borne"] (LSp K (tabT K) psp_ltold45) := ⟨_, fd_ltold45, ok_ltold45 F_ltold45 B C_led_freely45 C_rahead K_NoWay K_NoPassing K_RoadError K_NoBook K_NoOrder TF_NoWay EF_NoWay.xf (EF_NoWay.no "u" (by decide)) (EF_NoWay.no "v" (by decide)) TF_NoPassing EF_NoPassing.xf (EF_NoPassing.no "at" (by decide)), g_ltold45, F_ltold45.kp, F_ltold45.bindsN fun _ _ _ _ _ _ us hl => match us, hl with | [_, _, _, _, _], _ => rfl⟩
  have C_lright45 : Cal P w K mg base CX0 8 "_law_right" ["_law_deal_here", "_law_tome", "_law_walkers", "_law_lost"] (LSp K (tabT K) psp_lright45) := ⟨_, fd_lright45, ok_lright45 F_lright45 B C_lword (C_draw.imp conv_draw) C_lwithbad C_ltold45, g_lright45, F_lright45.kp, F_lright45.bindsN fun _ _ _ _ _ _ us hl => match us, hl with | [_, _, _, _], _ => rfl⟩
  exact FnG.of (ok_law45 F_law45 B (C_deal.imp conv_deal) (C_draw.imp conv_draw) (C_one_to_one.imp conv_one_to_one) (C_with_tables.imp conv_with_tables) C_lright45 C_lrow)
end Wf
open PySem PySem.W PySem.Calls PyProof.Rows
theorem PySem.Challenge.cw_wherefrom_k45_free_words_refused_holds : PySem.Challenge.rw_wherefrom_k45_free_words_refused.Holds := by
  w_on; o_law
  refine HandSHeadRun.head_any (r := OpenLaw.row PySem.Challenge.rw_wherefrom_k45_free_words_refused) (q := view (OpenLaw.row PySem.Challenge.rw_wherefrom_k45_free_words_refused).prog [36]) (H := Wf.hk) (ob := Wf.obA) (M := 4800) (loose := Wf.looseL) (d := HandSHeadRun.topDef (OpenLaw.row PySem.Challenge.rw_wherefrom_k45_free_words_refused).prog 36) (kwd := []) Wf.ob_eq
    (by kernel_rfl) (fun s => by kernel_rfl) Wf.run_eq (by kernel_rfl) (by kernel_rfl) (by kernel_rfl) (by rfl) (by first | assumption | decide +kernel) (by decide +kernel) ⟨rfl, rfl, rfl, rfl, rfl, by decide +kernel⟩ ?hw ?hc
  case hw => w_witness2
  case hc =>
    refine Wf.walkT2 (l := PySem.Challenge.rw_wherefrom_k45_free_words_refused) (n := 63) (k := 9) (x := "_law_script") rfl (by decide) (by kernel_rfl) ⟨rfl, by decide, by decide⟩ ?F
    intro w mg fa h Y G hmg0
    obtain ⟨K, KX, c⟩ := Y
    have hmg : mg ("law" : PySem.Str) = some (.ref fa) := by
      have e : (HandSHeadRun.topDef (OpenLaw.row PySem.Challenge.rw_wherefrom_k45_free_words_refused).prog 36).name = ("law" : PySem.Str) := by kernel_rfl
      rw [← e]
      exact hmg0
    obtain ⟨fd, hb, hF⟩ := Wf.facts (P := (PySem.Challenge.rw_wherefrom_k45_free_words_refused).prog) (w := w) KX G hmg c
    exact ⟨K, fd, Wf.tfs.map (He.cT K), Pv.LSp K (Wf.tabT K) Pv.psp_law, KX, fun p hp => by obtain ⟨q, hq, rfl⟩ := List.mem_map.mp hp; exact c.empty q hq, fun p hp => by obtain ⟨q, hq, rfl⟩ := List.mem_map.mp hp; exact c.out q hq, fun p hp => by obtain ⟨q, hq, rfl⟩ := List.mem_map.mp hp; exact PySem.W.codeHd_of_K KX (c.hd q hq), hb, fun H a ns hl hT hO hS => Pv.end_lawT (by omega) (Wf.tabs0 hT) hT hO hS, hF⟩
